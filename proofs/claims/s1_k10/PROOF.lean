import PyProof.Rows.All
import Wide.All
import OpenK.AllK
import Wide.FinOn
import Lean
import PyProof.EqAt
import PyProof.EqKinds
import PyProof.TupleCall
import PyProof.NeKinds
import KE.BitLaws
import PyProof.SumWalkG
import PyProof.ConsumeWalk
import PyProof.WalksMore
import KE.KSortedM
import PyProof.Rows.SetFrom
import PyProof.CompUse
import KE.KSortTup
import PyProof.DictRoadsH
import PyProof.DictKinds
import PyProof.ZipIter
import PyProof.DictIter
import PyProof.Rows.DictUnroll
import KE.KDictSum
import PyProof.ListRange
import PyProof.EnumMake
import PyProof.SliceList
import PyProof.SliceMore
import PyProof.CollectWalk
import PyProof.FactsAll.dict_keyiterator_1
import KE.KDictList
import KE.KRevSl
import PyProof.ReprRoads
import PyProof.CallFns
import PyProof.Draws
import PyProof.DictItems
import PyProof.DictItemsLoops
import PyProof.Rows.TupDisplay
import PyProof.FitsInt
import PySem.Challenge.RW_sharesample_k10_judge_of_shares
set_option bootstrap.genMatcherCode false
set_option genSizeOf false
set_option genSizeOfSpec false
set_option Elab.async false
set_option linter.all false
set_option maxRecDepth 100000
local macro_rules | `(tactic| left) => `(tactic| first | assumption | exact Nat.zero_le _ | exact Int.natCast_nonneg _ | exact Int.ofNat_lt.mpr (by assumption) | exact Nat.le_of_lt (by assumption) | exact Nat.le_trans (by assumption) (by assumption) | exact Nat.lt_of_lt_of_le (by assumption) (by assumption) | lia | omega)
noncomputable section
abbrev Z_:=@PySem.wpAny_bind
abbrev aaa:=@PySem.wpAny_pure
abbrev aab:=@of_decide_eq_true
abbrev aac:=@PySem.Heap.get?_push_of_some
abbrev aad:=@Bool.false_ne_true
abbrev aae:=@List.mem_cons_self
abbrev aaf:=@List.mem_cons_of_mem
abbrev aag:=@PySem.Heap.lt_size
abbrev aah:=@Nat.le_refl
abbrev aai:=@Nat.ne_of_lt
abbrev aaj:=@PySem.Heap.get?_push_size
abbrev aak:=@Nat.lt_of_lt_of_le
abbrev aal:=@List.mem_append_right
abbrev aam:=@List.map_congr_left
abbrev aan:=@List.getElem?_eq_getElem
abbrev aao:=@Nat.le_trans
abbrev aap:=@Nat.lt_succ_of_lt
abbrev aaq:=@Nat.ne_of_gt
abbrev aar:=@decide_eq_true
abbrev aas:=@Option.some.inj
abbrev aat:=@PyProof.Rows.callWith_type1
abbrev aau:=@PySem.wpAny_call_entry
abbrev aav:=@PySem.wpAny_newObj_type
abbrev aaw:=@Nat.lt_irrefl
abbrev aax:=@PySem.wpAny_holding
abbrev aay:=@List.mem_of_getElem?
abbrev aaz:=@Nat.lt_of_le_of_lt
abbrev aaA:=@PySem.wpAny_callSpecial?_slot
abbrev aaB:=@PySem.wpAny_mono
abbrev aaC:=@PySem.Heap.get?_update_self
abbrev aaD:=@List.mem_append_left
abbrev aaE:=@PySem.Heap.get?_update_other
abbrev aaF:=@PySem.Heap.SameBut.update
abbrev aaG:=@Nat.pow_le_pow_right
abbrev aaH:=@Nat.zero_le
abbrev aaI:=@List.mem_map_of_mem
abbrev aaJ:=@PySem.codeAny_builtin
abbrev aaK:=@PySem.wpAny_Call_Name_kw
abbrev aaL:=@Nat.lt_succ_self
abbrev aaM:=@Array.getElem?_eq_getElem
abbrev aaN:=@PySem.F.slot_dict_keyiterator_next
abbrev aaO:=@if_pos
abbrev aaP:=@List.getElem_mem
abbrev aaQ:=@List.nodup_nil
abbrev aaR:=@PyProof.Rows.slot_tuple_getitem
abbrev aaS:=@Nat.le_succ
abbrev aaT:=@PySem.wpAny_truthy_bool
abbrev aaU:=@PySem.wpAny_typeNameOfWhole_keyiter
abbrev aaV:=@PySem.mem_of_lookup
abbrev aaW:=@List.mergeSort_perm
abbrev aaX:=@PySem.wpAny_setField
abbrev aaY:=@PySem.wpAny_passesOwn
abbrev aaZ:=@PySem.W.kia_one
abbrev aa0:=@PySem.wpAny_ite_split
abbrev aa1:=@List.cons.inj
abbrev aa2:=@PySem.wpAny_attempt
abbrev aa3:=@PySem.wpAny_setState_of
abbrev aa4:=@PySem.wpAny_field
abbrev aa5:=@congrArg
abbrev aa6:=@beq_self_eq_true
abbrev aa7:=@PySem.wpAny_typeNameOf_keyiter
abbrev aa8:=@Int.mul_fdiv_cancel_left
abbrev aa9:=@PySem.wpAny_setEntries_of
abbrev aa_:=@PySem.plainId_quiet
abbrev aba:=@PySem.Calls.spliced_cons
abbrev abb:=@PyProof.Rows.callWith_builtin1
abbrev abc:=@decide_eq_false
abbrev abd:=@PySem.wpAny_updateSeq
abbrev abe:=@Nat.lt_or_eq_of_le
abbrev abf:=@PySem.sizeLine_eq
abbrev abg:=@Rat.intCast_lt_intCast
abbrev abh:=@Int.le_refl
abbrev abi:=@PySem.Calls.spliced_nil
abbrev abj:=@Ne.symm
abbrev abk:=@PySem.codeAny_mono
abbrev abl:=@PySem.wpAny_typeOf
abbrev abm:=@Nat.lt_trans
abbrev abn:=@PySem.wpAny_fieldsOf
abbrev abo:=@PySem.F.slot_zip_next
abbrev abp:=@List.ext_getElem
abbrev abq:=@PySem.SeqAt.EqAt.same
abbrev abr:=@PySem.Calls.call_function_entry
abbrev abt:=@List.mem_or_eq_of_mem_set
abbrev abu:=@PySem.SeqAt.EqAt.int_int
abbrev abv:=@PySem.AutoSeq1.sub_tuple_tuple
abbrev abw:=@PySem.F.args_tuple_add_2
abbrev abx:=@PySem.wpAny_rule
abbrev aby:=@PySem.Heap.size_push
abbrev abz:=@PySem.wpAny_seqItems
abbrev abA:=@List.Perm.refl
abbrev abB:=@PySem.F.entry_tuple_add
abbrev abC:=@List.pairwise_mergeSort
abbrev abD:=@Nat.le_succ_of_le
abbrev abE:=@PySem.richCompare_meets_room
abbrev abF:=@PySem.F.slot_tuple_add
abbrev abG:=@PyProof.Rows.subscriptTail_builtinR
abbrev abH:=@PySem.wpAny_nextOf_list_item
abbrev abI:=@Int.fmod_nonneg_of_pos
abbrev abJ:=@Rat.intCast_le_intCast
abbrev abK:=@PySem.wpAny_newList
abbrev abL:=@Nat.le_of_dvd
abbrev abM:=@PySem.wpAny_isInstance
abbrev abN:=@PySem.F.slot_tuple_lt
abbrev abO:=@PySem.Obj.isFreed_of_fields
abbrev abP:=@Eq.symm
abbrev abQ:=@Int.mul_ediv_add_emod
abbrev abR:=@Nat.le_of_lt
abbrev abS:=@PySem.SeqAt.EqAt.none_bool
abbrev abT:=@PySem.SeqAt.EqAt.bool_none
abbrev abU:=@PySem.SeqAt.EqAt.bool_bool
abbrev abV:=@List.length_map
abbrev abW:=@PySem.SeqAt.EqAt.none_int
abbrev abX:=@PySem.SeqAt.EqAt.none_str
abbrev abY:=@PySem.SeqAt.EqAt.bool_int
abbrev abZ:=@PySem.SeqAt.EqAt.bool_str
abbrev ab0:=@PySem.SeqAt.EqAt.int_none
abbrev ab1:=@PySem.SeqAt.EqAt.int_bool
abbrev ab2:=@PySem.SeqAt.EqAt.str_none
abbrev ab3:=@PySem.SeqAt.EqAt.str_bool
abbrev ab4:=@PySem.wpAny_runValue
abbrev ab5:=@PySem.SeqAt.EqAt.int_str
abbrev ab6:=@PySem.SeqAt.EqAt.str_int
abbrev ab7:=@PySem.SeqAt.EqAt.str_str
abbrev ab8:=@if_neg
abbrev ab9:=@PySem.Code.quiet_builtin
abbrev ab_:=@PySem.tupleKind_room_in1
abbrev aca:=@PySem.Obj.data_mapFields
abbrev acb:=@Int.fmod_lt_of_pos
abbrev acd:=@Int.emod_lt_of_pos
abbrev ace:=@PySem.wpAny_standAt
abbrev acf:=@PySem.wpAny_pyIter_list
abbrev acg:=@List.ext_getElem?
abbrev ach:=@PySem.wpAny_pyIter_slot
abbrev aci:=@PySem.wpAny_dictEntries
abbrev acj:=@PySem.Obj.cls_mapFields
abbrev ack:=@List.getElem_inj
abbrev acm:=@Rat.le_of_lt
abbrev acn:=@Int.mul_ne_zero
abbrev aco:=@Int.emod_nonneg
abbrev acp:=@Int.mul_nonneg
abbrev au:=List (List Int)
abbrev aa:=List Int
abbrev aM:=List Nat
abbrev ai:=List PySem.Str
abbrev aq:=List PySem.Value
abbrev aj:=List PySem.Expr
abbrev aZ:=List PySem.Addr
abbrev aS:=List PySem.Stmt
abbrev aQ:=List Rat
abbrev aR:=Array PySem.Value
abbrev ao:=PySem.W.Frag
abbrev az:=PySem.Value->PySem.Shared->Prop
abbrev ak:=List (PySem.Addr×PySem.Obj)
abbrev ah:=PySem.Addr->Prop
abbrev bc:=PySem.Str->Option PySem.Value
abbrev aF:=PySem.Program
abbrev aG:=PySem.Around
namespace L2
open PySem PySem.Spec PyProof.Rows
end L2
namespace L2
open PySem PySem.Spec PyProof.Rows
inductive V where
 |bF|bl (b:Bool)|int (i:Int)|str (x:Str)|U5 (b:Array UInt8)|UC (b:UInt64)|ref (a:Addr)|ty (n:String)
 deriving DecidableEq
abbrev af:=List V
noncomputable def RelV:V->Value->Prop
 |.bF,u=>u=Value.none
 |.bl b,u=>u=Value.bool b
 |.int i,u=>∃t,u=Value.int i t
 |.str x,u=>∃t,u=Value.str x t
 |.U5 b,u=>∃t,u=Value.bytes b t
 |.UC b,u=>∃t,u=Value.float b t
 |.ref a,u=>u=Value.ref a
 |.ty n,u=>u=Value.type n
abbrev Vals:af->aq->Prop:=Paired RelV
theorem Vals.length{xs:af}{us:aq}(r:Vals xs us):xs.length=us.length:=Paired.length r
theorem Vals.get:∀{xs:af} {us:aq} {i:Nat} {x:V},Vals xs us->xs[i]?=some x->∃u,us[i]?=some u/\RelV x u
 |_,_,_,_,.nil,e=>by simp at e
 |_,_,0,_,.cons r _,e=>by simp at e;subst e;exact⟨_,rfl,r⟩
 |_,_,i+1,x,.cons _ t,e=>by
  obtain⟨u,h1,h2⟩:=Vals.get (i:=i) (x:=x) t (by simpa using e);exact⟨u,by simpa using h1,h2⟩
theorem Vals.set{x:V}{u:Value}(r:RelV x u):∀{xs:af} {us:aq} (i:Nat),Vals xs us->Vals (xs.set i x) (us.set i u)
 |_,_,_,.nil=>.nil
 |_,_,0,.cons _ t=>.cons r t
 |_,_,i+1,.cons q t=>.cons q (Vals.set r i t)
theorem Vals.append:∀{xs ys:af} {us ws:aq},Vals xs us->Vals ys ws->Vals (xs++ys) (us++ws)
 |_,_,_,_,.nil,s=>s
 |_,_,_,_,.cons r t,s=>.cons r (Vals.append t s)
theorem Vals.take:∀{xs:af} {us:aq} (n:Nat),Vals xs us->Vals (xs.take n) (us.take n)
 |_,_,0,_=>.nil
 |_,_,_+1,.nil=>.nil
 |_,_,n+1,.cons r t=>.cons r (Vals.take n t)
theorem Vals.drop:∀{xs:af} {us:aq} (n:Nat),Vals xs us->Vals (xs.drop n) (us.drop n)
 |_,_,0,r=>r
 |_,_,_+1,.nil=>.nil
 |_,_,n+1,.cons _ t=>Vals.drop n t
def rP:Option V->Option Value->Prop
 |some v,some u=>RelV v u
 |none,none=>True
 |_,_=>False
inductive HO where
 |lst (xs:af)|tup (xs:af)|kF (lo hi:Int)|jj (o:Obj) (u:HO)|ext (φ:Heap->Prop)
noncomputable abbrev Hp:=Addr->Option HO
noncomputable def upd(H:Hp)(a:Addr)(o:HO):Hp:=λb=>if b=a then some o else H b
variable {H:Hp}
theorem bg{a:Addr}{o:HO}:upd H a o a=some o:=by unfold upd;rw[if_pos rfl]
theorem bw{a b:Addr}{o:HO}(h:b≠a):upd H a o b=H b:=by unfold upd;rw[if_neg h]
theorem fJ{a b:Addr}{o:HO}(h:H a=some o)(h':H b=none):a≠b:=by
 intro e;subst e;rw[h]at h';cases h'
section
def cU(H:Hp)(h:Heap)(a:Addr):HO->Prop
 |.lst xs=>xs.length<=sizeLine/\∃(aL:aq) (n:Nat),Vals xs aL/\h.get? a=some { cls:=.type "list",data:=.seq aL.toArray n }
 |.tup xs=>xs.length<=sizeLine/\∃aL:aq,Vals xs aL/\IsTup h a aL.toArray
 |.kF lo hi=>∃t u v,h.get? a=some { cls:=.type "range",data:=.fields #[.int lo t,.int hi u,.int 1 v] }
 |.jj o u=>h.get? a=some o/\cU H h a u
 |.ext φ=>φ h/\(∃o,h.get? a=some o)/\∀h1 h2:Heap,φ h1->(∀o,h1.get? a=some o->h2.get? a=some o)->φ h2
def k8(H:Hp)(h:Heap):Prop:=∀a o,H a=some o->cU H h a o
end
section
variable {P:aF}{w:World}{H H':Hp}{h h':Heap}{a:Addr}{o:HO}
theorem lB(x:cU H h a o):∃u,h.get? a=some u:=by
 cases o with
 |lst xs=>obtain⟨_,_,_,_,e⟩:=x;exact⟨_,e⟩
 |tup xs=>obtain⟨_,_,_,o,e,_⟩:=x;exact⟨_,e⟩
 |kF lo hi=>obtain⟨_,_,_,e⟩:=x;exact⟨_,e⟩
 |jj o u=>exact⟨_,x.1⟩
 |ext φ=>exact x.2.1
theorem cU.lt(x:cU H h a o):a<h.objs.size:=(lB x).elim λ_ e=>aag e
theorem cU.mL(x:cU H h a o)(k:∀u,h.get? a=some u->h'.get? a=some u):cU H' h' a o:=by
 induction o with
 |lst xs=>obtain⟨z,aL,n,r,e⟩:=x;exact⟨z,aL,n,r,k _ e⟩
 |tup xs=>obtain⟨z,aL,r,ob,e,c⟩:=x;exact⟨z,aL,r,ob,k _ e,c⟩
 |kF lo hi=>obtain⟨t,u,v,e⟩:=x;exact⟨t,u,v,k _ e⟩
 |jj ob u ih=>exact⟨k _ x.1,ih x.2⟩
 |ext φ=>exact⟨x.2.2 _ _ x.1 k,x.2.1.imp k,x.2.2⟩
theorem k8.lt(x:k8 H h)(e:H a=some o):a<h.objs.size:=(x a o e).lt
theorem k8.fresh(x:k8 H h)(e:h.objs.size<=a):H a=none:=by
 cases q:H a with
 |none=>rfl
 |some u=>exact absurd (aak (x.lt q) e) (aaw _)
theorem k8.kept(x:k8 H h)(k:∀b u,h.get? b=some u->h'.get? b=some u):k8 H h':=λa o e =>
 (x a o e).mL (k a)
theorem k8.laid(x:k8 H h)(k:∀b u,h.get? b=some u->h'.get? b=some u)(hp:h.objs.size<=a)(new:cU (upd H a o) h' a o):k8 (upd H a o) h':=λb u e=>by
 have hn:=x.fresh hp;by_cases hb:b=a
 ·subst hb;rw[bg]at e;cases e;exact new
 ·rw[bw hb]at e;exact(x b u e).mL (k b)
end
def Rd(H:Hp)(a:Addr)(u:HO):Prop:=H a=some u\/∃o,H a=some (.jj o u)
variable {h:Heap}
theorem Rd.ok{a:Addr}{u:HO}(r:Rd H a u)(x:k8 H h):cU H h a u:=by
 rcases r with r|⟨o,r⟩
 ·exact x a u r
 ·obtain⟨_,q⟩:=x a _ r;exact q
noncomputable def Vf:Option HO->Prop
 |some (.lst _)=>True
 |some (.ext _)=>True
 |_=>False
section
variable {P:aF}{w:World}{H:Hp}{h h':Heap}{x e:Addr}{o':HO}
theorem k8.write(ok:k8 H h)(k:∀b u,b≠x->h.get? b=some u->h'.get? b=some u)
  (new:cU (upd H x o') h' x o'):k8 (upd H x o') h':=λb u q=>by
 by_cases hb:b=x
 ·subst hb;rw[bg]at q;cases q;exact new
 ·rw[bw hb]at q;exact(ok b u q).mL λv=>k b v hb
end
structure Un(fs ex:aZ)(H H':Hp)(h h':Heap):Prop where
 keep:∀b o,h.get? b=some o->H b=none->b∉fs->b∉ex->h'.get? b=some o
 slot:∀b o,h.get? b=some o->H b=none->b∈fs->b∉ex->∃sl,h'.get? b=some { o with slots:=sl }
 free:∀b o,h.get? b=some o->H b=none->b∉ex->H' b=none
 there:∀b o,h.get? b=some o->b∉ex->∃o',h'.get? b=some o'
 p9:∀b xs,H b=some (.tup xs)->H' b=some (.tup xs)
 oR:∀b o u,H b=some (.jj o u)->H' b=some (.jj o u)
section
variable {fs Z8 ex PR:aZ}{H H1 H2:Hp}{h h1 h2 h':Heap}{a x e:Addr}{o:HO}
theorem Un.any(u:Un fs ex H H1 h h1){b:Addr}{ob:Obj}(q:h.get? b=some ob)(n:H b=none)(hx:b∉ex):∃sl,h1.get? b=some { ob with slots:=sl }:=by
 by_cases hb:b∈fs
 ·exact u.slot b ob q n hb hx
 ·exact⟨ob.slots,u.keep b ob q n hb hx⟩
theorem Un.kept(k:∀b u,h.get? b=some u->h'.get? b=some u):Un fs ex H H h h' :=
 ⟨λb ob q _ _ _=>k b ob q,λb ob q _ _ _=>⟨ob.slots,k b ob q⟩,λ_ _ _ n _=>n,λb ob q _=>⟨ob,k b ob q⟩,λ_ _ q=>q,λ_ _ _ q=>q⟩
theorem Un.refl:Un fs ex H H h h:=Un.kept λ_ _ q=>q
theorem Un.laid(k:∀b u,h.get? b=some u->h'.get? b=some u)(hp:h.objs.size<=a)(hn:H a=none):Un fs ex H (upd H a o) h h' where
 keep:=λb u q _ _ _=>k b u q
 slot:=λb u q _ _ _=>⟨u.slots,k b u q⟩
 free:=λb u q n _=>by rw[bw (Nat.ne_of_lt (Nat.lt_of_lt_of_le (Heap.lt_size q) hp))];exact n
 there:=λb u q _=>⟨u,k b u q⟩
 p9:=λb xs q=>by rw[bw (fJ q hn)];exact q
 oR:=λb u xs q=>by rw[bw (fJ q hn)];exact q
theorem Un.write(mu:Vf (H x))(k:∀b u,b≠x->h.get? b=some u->h'.get? b=some u)(TN:∃u,h'.get? x=some u):Un fs ex H (upd H x o) h h':=by
 have hx:∀b,H b=none->b≠x:=λb n z=>by subst z;rw[n]at mu;exact mu
 have hm:∀b u,H b=some u->¬ Vf (some u)->b≠x:=λb u q nm z=>by subst z;rw[q]at mu;exact nm mu
 refine⟨λb u q n _ _=>k b u (hx b n) q,λb u q n _ _=>⟨u.slots,k b u (hx b n) q⟩,λb u q n _=>by rw[bw (hx b n)];exact n,λb u q _=>?_,
  λb xs q=>by rw[bw (hm b _ q λz=>z)];exact q,λb u xs q=>by rw[bw (hm b _ q λz=>z)];exact q⟩
 by_cases Wv:b=x
 ·subst Wv;exact TN
 ·exact⟨u,k b u Wv q⟩
end
noncomputable def QA(h:Heap)(H:Hp):aZ:=(List.range h.objs.size).filter λa=>(H a).isSome
def qP(h:Heap)(H:Hp):Heap:=PySem.W.hideAll h (QA h H)
theorem yS(h:Heap)(H:Hp):(qP h H).objs.size=h.objs.size:=PySem.W.hideAll_size _ _
variable {o:Obj}
theorem Cb{b:Addr}(e:h.get? b=some o)(n:H b=none):(qP h H).get? b=some o :=
 PySem.W.hideAll_get _ e λhm=>by
  have q:(H b).isSome=true:=(List.mem_filter.mp hm).2;rw[n]at q;simp at q
theorem Fq{b:Addr}(e:(qP h H).get? b=some o):h.get? b=some o/\H b=none:=by
 have e':h.get? b=some o:=PySem.W.of_hideAll (QA h H) e;refine⟨e',?_⟩;cases q:H b with
 |none=>rfl
 |some x =>
  have hm:b∈QA h H:=List.mem_filter.mpr ⟨List.mem_range.mpr (aag e'),by simp[q]⟩;have z:(qP h H).get? b=none:=PySem.W.hideAll_none (QA h H) hm;rw[z]at e;cases e
end L2
namespace L2
open PySem PySem.Spec PyProof.Rows
structure Mod(K:ao)(mg:bc)(base:Heap):Prop where
 SA:K.In base
 glob:base.Ns mainGlobals mg
 blt:∃mb,base.Ns builtinsNs mb/\∀x:Str,x ≠ "__name__" -> mb x=bootBuiltins x
 nolimit:base.NoLimit
structure Cx where
 prog:aF
 w:World
 K:ao
 mg:bc
 base:Heap
 A:aG
 N:ai
 s₀:Shared
 H₀:Hp
 env:Env
 outer:List Env
 stack:List Env
 ex:aZ
 fn:Str->Bool
 calm:Bool
 pn:ak
 xe:az
noncomputable def zL(l:List Env):aZ:=l.filterMap (·.frame)
abbrev Cx.fs(X:Cx):aZ:=zL X.outer
def Ml(sc:Scope)(x:Str):Prop:=sc.names.lookup x=some .local\/sc.names.lookup x=some .cell\/sc.names.lookup x=some .free
def Loc(sc:Scope)(x:Str):Prop:=sc.names.lookup x=some .local\/sc.names.lookup x=some .cell
noncomputable def Look(env:Env)(h:Heap)(m:bc)(x:Str)(u:Value):Prop :=
 (env.kindOf x=some .local/\m x=some u)\/((env.kindOf x=some .cell\/env.kindOf x=some .free)/\∃c,env.cells.lookup x=some c/\h.IsCell c (some u))
structure Cx.Ok(X:Cx):Prop where
 mod:Mod X.K X.mg X.base
 kind:X.env.scope.kind=.function
 glob:X.env.globals=mainGlobals
 blt:X.env.builtins=builtinsNs
 above:X.s₀.heap.objs.size<=X.env.locals
 inj:∀x y c,X.env.cells.lookup x=some c->X.env.cells.lookup y=some c->x=y
 has:∀x,(X.env.kindOf x=some .cell\/X.env.kindOf x=some .free)->∃c,X.env.cells.lookup x=some c
 Qh:∀x c,X.fn x=true->X.env.cells.lookup x=some c->X.s₀.heap.objs.size<=c
 hd:X.calm=true->X.A.handled=none
 frames:X.A.frames=some X.stack
 QD:X.stack=X.outer\/(X.stack=X.env::X.outer/\X.env.frame=some X.env.locals)
 WL:∀b∈X.ex,b≠X.env.locals/\∀x c,X.env.cells.lookup x=some c->c≠b
 bs:∀b o,X.base.get? b=some o->X.s₀.heap.get? b=some o/\X.H₀ b=none
 HJ:X.base.objs.size<=X.s₀.heap.objs.size
 Bp:∀b o,X.base.get? b=some o->b∉X.ex
 Gd:∀b∈X.ex,b∉X.fs
 lX:X.s₀.heap.FunFrames X.base X.outer
 Md:∀b∈X.fs,X.H₀ b=none
structure Inv(X:Cx)(pins:ak)(σ:List (Option V))(H:Hp)(s:Shared):Prop where
 ok:X.Ok
 os:s.os=X.s₀.os
 bare:AllBare s.gens
 base:Un X.fs X.ex X.H₀ H X.s₀.heap s.heap
 loc:∃m,s.heap.Ns X.env.locals m/\∀(i:Nat) (x:Str) (v:V),X.N[i]?=some x->σ[i]?=some (some v)->Ml X.env.scope x->∃u,RelV v u/\Look X.env s.heap m x u
 cell:∀x c,X.env.cells.lookup x=some c->∃v,s.heap.IsCell c v
 free:H X.env.locals=none
 iR:∀x c,X.env.cells.lookup x=some c->H c=none
 pin:∀p∈X.pn++pins,s.heap.get? p.1=some p.2/\H p.1=none/\p.1≠X.env.locals/\p.1∉X.fs/\∀v,p.2.data≠.cell v
 du:k8 H s.heap
 len:σ.length=X.N.length
variable {A:aG}{E:Value->Shared->Prop}{Q:Unit->Shared->Prop}{ch:aZ}{t':Nat}
section
variable {X:Cx}{pins:ak}{σ:List (Option V)}{H H':Hp}{s:Shared}{h':Heap}
theorem Cx.Ok.Sq(ok:X.Ok){b:Addr}{o:Obj}(e:X.base.get? b=some o):b∉X.fs:=λhb=>by
 have:=(ok.lX.mem hb).1;rw[e]at this;cases this
theorem Inv.bs(I:Inv X pins σ H s):∀b o,X.base.get? b=some o->s.heap.get? b=some o/\H b=none:=λb o e =>
 ⟨I.base.keep b o (I.ok.bs b o e).1 (I.ok.bs b o e).2 (I.ok.Sq e) (I.ok.Bp b o e),I.base.free b o (I.ok.bs b o e).1 (I.ok.bs b o e).2 (I.ok.Bp b o e)⟩
theorem Inv.bk(I:Inv X pins σ H s):∀b o,X.base.get? b=some o->s.heap.get? b=some o:=λb o e=>(I.bs b o e).1
theorem Inv.mod(I:Inv X pins σ H s):Mod X.K X.mg X.base:=I.ok.mod
theorem Inv.BK(I:Inv X pins σ H s):X.K.In s.heap:=I.ok.mod.SA.keeps I.bk
theorem Inv.lt(I:Inv X pins σ H s):X.env.locals<s.heap.objs.size:=let ⟨_,hn,_⟩:=I.loc;hn.lt
theorem Inv.sz(I:Inv X pins σ H s):X.s₀.heap.objs.size<=s.heap.objs.size:=aao I.ok.above (abR I.lt)
theorem Inv.JP(I:Inv X pins σ H s){a:Addr}(h:s.heap.objs.size<=a):a∉X.fs:=λhb=>by
 obtain⟨_,o,ho,_⟩:=I.ok.lX.mem hb;exact absurd (aak (aag ho) (aao I.sz h)) (aaw _)
theorem Inv.Lu(I:Inv X pins σ H s):∀x c,X.env.cells.lookup x=some c->c≠X.env.locals:=λx c e z=>by
 obtain⟨v,o,ho,hd⟩:=I.cell x c e;obtain⟨m,⟨o',es,ep,fW,kb,_⟩,_⟩:=I.loc;rw[z,fW]at ho;cases ho;rw[kb]at hd;cases hd
theorem Inv.lX(I:Inv X pins σ H s):s.heap.FunFrames X.base X.outer:=by
 have all:∀(l:List Env),(∀b∈zL l,b∈X.fs)->X.s₀.heap.FunFrames X.base l->s.heap.FunFrames X.base l:=by
  intro l;induction l with
  |nil=>intro _ _;trivial
  |cons env r ih =>
   intro hs hl;obtain⟨hk,⟨L,o,hf,hn,ho,hd⟩,hr⟩:=hl;have hL:L∈X.fs:=hs L (by unfold zL;rw[List.filterMap_cons,hf];exact aae);obtain⟨sl,e⟩:=I.base.slot L o ho (I.ok.Md L hL) hL λz=>I.ok.Gd L z hL;exact⟨hk,⟨L,_,hf,hn,e,hd⟩,ih (λb hb=>hs b (by unfold zL;rw[List.filterMap_cons,hf];exact aaf _ hb)) hr⟩
 exact all X.outer (λ_ hb=>hb) I.ok.lX
theorem Inv.stack(I:Inv X pins σ H s):s.heap.FunFrames X.base X.stack:=by
 rcases I.ok.QD with e|⟨e,hf⟩
 ·rw[e];exact I.lX
 ·rw[e];obtain⟨m,hn,_⟩:=I.loc;refine .cons (by rw[I.ok.kind];decide) hf hn ?_ I.lX;exact Heap.get?_none_of_le (aao I.ok.HJ I.ok.above)
theorem Inv.kK(I:Inv X pins σ H s):∀b∈zL X.stack,b∈X.env.locals::X.fs:=λb hb=>by
 rcases I.ok.QD with e|⟨e,hf⟩
 ·rw[e]at hb;exact aaf _ hb
 ·rw[e]at hb;unfold zL at hb;rw[List.filterMap_cons,hf]at hb;exact hb
theorem Inv.wy(I:Inv X pins σ H s):∀b∈zL X.stack,H b=none:=λb hb=>by
 rcases List.mem_cons.mp (I.kK b hb)with e|hb
 ·rw[e];exact I.free
 ·obtain⟨_,o,ho,_⟩:=I.ok.lX.mem hb;exact I.base.free b o ho (I.ok.Md b hb) λz=>I.ok.Gd b z hb
theorem Inv.step{g':Array GenState}{d':Drawn}(I:Inv X pins σ H s)
  (DP:∀b∈ch,(b∈X.ex\/X.s₀.heap.objs.size<=b)/\b≠X.env.locals/\(∀x c,X.env.cells.lookup x=some c->c≠b)/\∀p∈X.pn++pins,p.1≠b)
  (keep:∀b o,b≠X.env.locals->b∉X.fs->b∉ch->s.heap.get? b=some o->H b=none->h'.get? b=some o)
  (slot:∀b o,b≠X.env.locals->b∈X.fs->b∉ch->s.heap.get? b=some o->H b=none->∃sl,h'.get? b=some { o with slots:=sl }) (free:∀b o,b∉ch->s.heap.get? b=some o->H b=none->H' b=none)
  (there:∀b o,b∉ch->s.heap.get? b=some o->∃o',h'.get? b=some o')
  (p9:∀b xs,H b=some (.tup xs)->H' b=some (.tup xs)) (oR:∀b o u,H b=some (.jj o u)->H' b=some (.jj o u))
  (ns:∀m,s.heap.Ns X.env.locals m->h'.Ns X.env.locals m) (du:k8 H' h') (hg:AllBare g') :
  Inv X pins σ H' { s with heap:=h',gens:=g',drawn:=d',toks:=t' }:=by
 have VO:∀b o,X.s₀.heap.get? b=some o->b≠X.env.locals:=λb o e=>aai (aak (aag e) I.ok.above);have Ht:∀b o,X.s₀.heap.get? b=some o->b∉X.ex->b∉ch:=λb o e hx hb=>by
  rcases(DP b hb).1 with z|z
  ·exact hx z
  ·exact absurd (aak (aag e) z) (aaw _)
 have cellK:∀x c,X.env.cells.lookup x=some c->∀v,s.heap.IsCell c v->h'.IsCell c v:=λx c e v bP=>by
  obtain⟨o,ho,hd⟩:=bP;have NW:c∉ch:=λz=>(DP c z).2.2.1 x c e rfl;by_cases hc:c∈X.fs
  ·obtain⟨sl,q⟩:=slot c o (I.Lu x c e) hc NW ho (I.iR x c e);exact⟨_,q,hd⟩
  ·exact⟨o,keep c o (I.Lu x c e) hc NW ho (I.iR x c e),hd⟩
 refine⟨I.ok,I.os,hg,⟨λb o e n hb hx=>?_,λb o e n hb hx=>?_,λb o e n hx=>?_,λb o e hx=>?_,λb xs e=>p9 b xs (I.base.p9 b xs e),λb o xs e=>oR b o xs (I.base.oR b o xs e)⟩,?_,λx c e=>?_,?_,λx c e=>?_,λp hp=>?_,du,I.len⟩
 ·exact keep b o (VO b o e) hb (Ht b o e hx) (I.base.keep b o e n hb hx) (I.base.free b o e n hx)
 ·obtain⟨sl,e1⟩:=I.base.slot b o e n hb hx;obtain⟨XH,e2⟩:=slot b _ (VO b o e) hb (Ht b o e hx) e1 (I.base.free b o e n hx);exact⟨XH,e2⟩
 ·obtain⟨o',e1⟩:=I.base.there b o e hx;exact free b o' (Ht b o e hx) e1 (I.base.free b o e n hx)
 ·obtain⟨o',e1⟩:=I.base.there b o e hx;exact there b o' (Ht b o e hx) e1
 ·obtain⟨m,hn,hl⟩:=I.loc;refine⟨m,ns m hn,λi x v e1 e2 e3=>?_⟩;obtain⟨u,r,l⟩:=hl i x v e1 e2 e3;refine⟨u,r,?_⟩;rcases l with l|⟨k,c,e,z⟩
  ·exact .inl l
  ·exact .inr ⟨k,c,e,cellK x c e _ z⟩
 ·obtain⟨v,z⟩:=I.cell x c e;exact⟨v,cellK x c e v z⟩
 ·obtain⟨m,⟨o,_,_,ho,_⟩,_⟩:=I.loc;exact free _ o (λz=>(DP _ z).2.1 rfl) ho I.free
 ·obtain⟨v,o,ho,hd⟩:=I.cell x c e;exact free c o (λz=>(DP c z).2.2.1 x c e rfl) ho (I.iR x c e)
 ·obtain⟨e,n,ne,nf,d⟩:=I.pin p hp;have NW:p.1∉ch:=λz=>(DP p.1 z).2.2.2 p hp rfl;exact⟨keep p.1 p.2 ne nf NW e n,free p.1 p.2 NW e n,ne,nf,d⟩
theorem Inv.un(I:Inv X pins σ H s)(u:Un X.fs [] H H' s.heap h')(du:k8 H' h'):Inv X pins σ H' { s with heap:=h',toks:=t' }:=by
 obtain⟨m,⟨o,es,ep,ho,r⟩,_⟩:=id I.loc;obtain⟨sl,hL⟩:=u.any ho I.free (by simp);exact I.step (g':=s.gens) (d':=s.drawn) (ch:=[]) (λ_ z=>nomatch z) (λb o _ hb _ e n=>u.keep b o e n hb (by simp)) (λb o _ hb _ e n=>u.slot b o e n hb (by simp)) (λb o _ e n=>u.free b o e n (by simp)) (λb o _ e=>u.there b o e (by simp)) u.p9 u.oR (λm' hm=>by
  obtain⟨o',zM,xM,fW,r'⟩:=hm;rw[ho]at fW;cases fW;exact⟨_,zM,xM,hL,r'⟩) du I.bare
theorem Inv.call{g':Array GenState}{d':Drawn}(I:Inv X pins σ H s)(u:Un (zL X.stack) ch H H' s.heap h')(du:k8 H' h')(hg:AllBare g')
  (DP:∀b∈ch,(b∈X.ex\/X.s₀.heap.objs.size<=b)/\b≠X.env.locals/\(∀x c,X.env.cells.lookup x=some c->c≠b)/\∀p∈X.pn++pins,p.1≠b) :
  Inv X pins σ H' { s with heap:=h',gens:=g',drawn:=d',toks:=t' }:=by
 obtain⟨m,⟨o,es,ep,ho,r⟩,_⟩:=id I.loc;obtain⟨sl,hL⟩:=u.any ho I.free λz=>(DP _ z).2.1 rfl;exact I.step (ch:=ch) DP (λb o hL hb hc e n=>u.keep b o e n (λz=>(List.mem_cons.mp (I.kK b z)).elim hL hb) hc) (λb o _ _ hc e n=>u.any e n hc) (λb o hc e n=>u.free b o e n hc) (λb o hc e=>u.there b o e hc) u.p9 u.oR (λm' hm=>by
  obtain⟨o',zM,xM,fW,r'⟩:=hm;rw[ho]at fW;cases fW;exact⟨_,zM,xM,hL,r'⟩) du hg
theorem Inv.turned{it:Addr}(I:Inv X pins σ H s)(k:∀b o,b≠it->s.heap.get? b=some o->h'.get? b=some o)(hn:H it=none)(hL:it≠X.env.locals)
  (h1:it∈X.ex\/X.s₀.heap.objs.size<=it) (h2:∀x c,X.env.cells.lookup x=some c->c≠it) (h3:∀p∈X.pn++pins,p.1≠it):Inv X pins σ H { s with heap:=h',toks:=t' }:=by
 have NT:∀b u,H b=some u->b≠it:=λb u e z=>by rw[z,hn]at e;cases e
 refine I.step (g':=s.gens) (d':=s.drawn) (ch:=[it]) (λb hb=>?_) (λb o _ _ hc e _=>k b o (λz=>hc (by simp[z])) e) (λb o _ _ hc e _=>⟨o.slots,k b o (λz=>hc (by simp[z])) e⟩) (λ_ _ _ _ n=>n)
  (λb o hc e=>⟨o,k b o (λz=>hc (by simp[z])) e⟩) (λ_ _ e=>e) (λ_ _ _ e=>e) (λm hm=>?_) (λb u e=>?_) I.bare
 ·have e:b=it:=by simpa using hb
  subst e;exact⟨h1,hL,h2,h3⟩
 ·obtain⟨o,es,ep,ho,r⟩:=hm;exact⟨o,es,ep,k _ o (abj hL) ho,r⟩
 ·exact(I.du b u e).mL λv=>k b v (NT b u e)
theorem Inv.tok(I:Inv X pins σ H s)(t:Nat):Inv X pins σ H { s with toks:=t }:=I.un (h':=s.heap) (t':=t) Un.refl I.du
theorem Inv.kept{t':Nat}(I:Inv X pins σ H s)(k:∀b u,s.heap.get? b=some u->h'.get? b=some u):Inv X pins σ H { s with heap:=h',toks:=t' }:=I.un (Un.kept k) (I.du.kept k)
theorem Inv.laid{a:Addr}{o:HO}{t':Nat}(I:Inv X pins σ H s)(k:∀b u,s.heap.get? b=some u->h'.get? b=some u)(hp:s.heap.objs.size<=a)(new:cU (upd H a o) h' a o):
  Inv X pins σ (upd H a o) { s with heap:=h',toks:=t' }:=I.un (Un.laid k hp (I.du.fresh hp)) (I.du.laid k hp new)
theorem Inv.write{x:Addr}{o:HO}{t':Nat}(I:Inv X pins σ H s)(mu:Vf (H x))(k:∀b u,b≠x->s.heap.get? b=some u->h'.get? b=some u)(TN:∃u,h'.get? x=some u)
  (new:cU (upd H x o) h' x o):Inv X pins σ (upd H x o) { s with heap:=h',toks:=t' }:=I.un (Un.write mu k TN) (I.du.write k new)
theorem Inv.ja{Hn:ak}(I:Inv X pins σ H s)(h:∀p∈Hn,s.heap.get? p.1=some p.2/\H p.1=none/\p.1≠X.env.locals/\p.1∉X.fs/\∀v,p.2.data≠.cell v):Inv X Hn σ H s :=
 ⟨I.ok,I.os,I.bare,I.base,I.loc,I.cell,I.free,I.iR,λp hp=>(List.mem_append.mp hp).elim (λz=>I.pin p (aaD _ z)) (h p),I.du,I.len⟩
theorem tf{N:ai}(hN:N.Nodup){i j:Nat}{x:Str}(a:N[i]?=some x)(b:N[j]?=some x):i=j:=by
 obtain⟨h1,e1⟩:=List.getElem?_eq_some_iff.mp a;obtain⟨h2,e2⟩:=List.getElem?_eq_some_iff.mp b;exact(ack hN).mp (e1.trans e2.symm)
theorem yt{M:Model}{i:Nat}{x:Str}{v:V}{u:Value}(I:Inv X pins σ H s)(hN:X.N.Nodup)(hi:X.N[i]?=some x)(hx:Loc X.env.scope x)(r:RelV v u)
  (h:∀s',Inv X pins (σ.set i (some v)) H s'->(∃a,Heap.SameBut a s.heap s'.heap/\(a=X.env.locals\/X.env.cells.lookup x=some a))->Q () s') (hf:X.fn x=true\/X.env.scope.names.lookup x=some .local:=by first|exact .inl rfl|exact .inr rfl|assumption):wpAny M A (storeName X.env x u) Q E s:=by
 obtain⟨m,hn,hl⟩:=id I.loc;have TV:(X.env.scope.kind==.class||(X.env.scope.kind==.module&&X.env.locals != X.env.globals))=false:=by rw[I.ok.kind];rfl
 have OO:i<σ.length:=by rw[I.len];exact(List.getElem?_eq_some_iff.mp hi).1
 have Lu:=I.Lu;have tracked:∀{a:Addr} {h':Heap},(∃o,s.heap.get? a=some o/\H a=none)->Heap.SameBut a s.heap h'->k8 H h':=λ{a h'} ha hs b ob e=>by
  obtain⟨_,_,OU⟩:=ha;exact(I.du b ob e).mL λw' q=>(hs.2 b (by rintro rfl;rw[OU]at e;cases e)).trans q
 rcases hx with hk|hk
 ·refine wpAny_storeName_local hk hn (λh' zJ hs=>?_) TV;obtain⟨oL,_,_,OI,_⟩:=id hn;refine h _ ⟨I.ok,I.os,I.bare,⟨λb o e n hb hx=>?_,λb o e n hb hx=>?_,I.base.free,λb o e hx=>?_,I.base.p9,I.base.oR⟩,⟨_,zJ,λj y v' e1 e2 e3=>?_⟩,λy c e=>?_,I.free,I.iR,λp hp=>?_,tracked ⟨oL,OI,I.free⟩ hs,by simpa using I.len⟩ ⟨_,hs,.inl rfl⟩
  ·exact(hs.2 b (aai (aak (aag e) I.ok.above))).trans (I.base.keep b o e n hb hx)
  ·obtain⟨sl,e1⟩:=I.base.slot b o e n hb hx;exact⟨sl,(hs.2 b (aai (aak (aag e) I.ok.above))).trans e1⟩
  ·obtain⟨o',e1⟩:=I.base.there b o e hx;exact⟨o',(hs.2 b (aai (aak (aag e) I.ok.above))).trans e1⟩
  ·by_cases hj:j=i
   ·subst hj;rw[hi]at e1;cases e1;rw[List.getElem?_set_self OO]at e2;cases e2;exact⟨u,r,.inl ⟨hk,by simp⟩⟩
   ·rw[List.getElem?_set_ne (Ne.symm hj)]at e2;obtain⟨u',r',q⟩:=hl j y v' e1 e2 e3;refine⟨u',r',?_⟩;rcases q with ⟨k,e⟩|⟨k,c,e,z⟩
    ·refine .inl ⟨k,?_⟩;have:y≠x:=λe=>hj (tf hN e1 (e▸hi));simp[this,e]
    ·exact .inr ⟨k,c,e,z.sameBut hs (Lu y c e)⟩
  ·obtain⟨w',z⟩:=I.cell y c e;exact⟨w',z.sameBut hs (Lu y c e)⟩
  ·obtain⟨e,n,ne,nf,d⟩:=I.pin p hp;exact⟨(hs.2 p.1 ne).trans e,n,ne,nf,d⟩
 ·have DN:X.fn x=true:=by
   rcases hf with z|z
   ·exact z
   ·rw[z]at hk;cases hk
  obtain⟨c,hc⟩:=I.ok.has x (.inl hk);obtain⟨w',z⟩:=I.cell x c hc;refine wpAny_storeName_cell I.ok.kind hk hc z (λh' zK hs=>?_);obtain⟨oc,Wg,Tq⟩:=id z;refine h { s with heap:=h' } ⟨I.ok,I.os,I.bare,⟨λb o e n hb hx=>?_,λb o e n hb hx=>?_,I.base.free,λb o e hx=>?_,I.base.p9,I.base.oR⟩,⟨m,hn.sameBut hs (abj (Lu x c hc)),λj y v' e1 e2 e3=>?_⟩,λy c' e=>?_,I.free,I.iR,λp hp=>?_,tracked ⟨oc,Wg,I.iR x c hc⟩ hs,by simpa using I.len⟩ ⟨c,hs,.inr hc⟩
  ·exact(hs.2 b (aai (aak (aag e) (I.ok.Qh x c DN hc)))).trans (I.base.keep b o e n hb hx)
  ·obtain⟨sl,e1⟩:=I.base.slot b o e n hb hx;exact⟨sl,(hs.2 b (aai (aak (aag e) (I.ok.Qh x c DN hc)))).trans e1⟩
  ·obtain⟨o',e1⟩:=I.base.there b o e hx;exact⟨o',(hs.2 b (aai (aak (aag e) (I.ok.Qh x c DN hc)))).trans e1⟩
  ·by_cases hj:j=i
   ·subst hj;rw[hi]at e1;cases e1;rw[List.getElem?_set_self OO]at e2;cases e2;exact⟨u,r,.inr ⟨.inl hk,c,hc,zK⟩⟩
   ·rw[List.getElem?_set_ne (Ne.symm hj)]at e2;obtain⟨u',r',q⟩:=hl j y v' e1 e2 e3;refine⟨u',r',?_⟩;rcases q with q|⟨k,c',e,z'⟩
    ·exact .inl q
    ·refine .inr ⟨k,c',e,z'.sameBut hs ?_⟩;rintro rfl;exact hj (tf hN e1 (I.ok.inj _ _ _ e hc▸hi))
  ·by_cases Wu:c'=c
   ·subst Wu;exact⟨_,zK⟩
   ·obtain⟨w2,z2⟩:=I.cell y c' e;exact⟨w2,z2.sameBut hs Wu⟩
  ·obtain⟨e,n,ne,nf,d⟩:=I.pin p hp;refine⟨(hs.2 p.1 ?_).trans e,n,ne,nf,d⟩;intro q;rw[q,Wg]at e;have q':oc=p.2:=aas e;exact d w' (by rw[<- q'];exact Tq)
theorem mK{M:Model}{i:Nat}{x:Str}{v:V}{u:Value}(I:Inv X pins σ H s)(hN:X.N.Nodup)(hi:X.N[i]?=some x)(hx:Loc X.env.scope x)(r:RelV v u)
  (h:∀s',Inv X pins (σ.set i (some v)) H s'->Q () s') (hf:X.fn x=true\/X.env.scope.names.lookup x=some .local:=by first|exact .inl rfl|exact .inr rfl|assumption):wpAny M A (storeName X.env x u) Q E s :=
 yt I hN hi hx r (λs' I' _=>h s' I') hf
theorem Inv.Qg{s':Shared}(I:Inv X pins σ H s)(ho:s'.os=s.os)(u:Un (zL X.stack) ch H H' s.heap s'.heap)(du:k8 H' s'.heap)(hg:AllBare s'.gens)
  (DP:∀b∈ch,(b∈X.ex\/X.s₀.heap.objs.size<=b)/\b≠X.env.locals/\(∀x c,X.env.cells.lookup x=some c->c≠b)/\∀p∈X.pn++pins,p.1≠b):Inv X pins σ H' s':=by
 obtain⟨h',g',d',t',o'⟩:=s';have e:o'=s.os:=ho;subst e;exact I.call (g':=g') (t':=t') (d':=d') u du hg DP
end
noncomputable abbrev XK:=Value->Option Addr->Hp->Prop
noncomputable abbrev St:=List (Option V)
noncomputable abbrev VK:=V->Hp->Prop
noncomputable abbrev TE:=St->Hp->VK->Prop
noncomputable abbrev TT:=St->Hp->(Bool->Hp->Prop)->Prop
noncomputable abbrev TA:=St->Hp->(af->Hp->Prop)->Prop
structure Ends where
 nx:St->Hp->Prop
 rt:VK
 bk:St->Hp->Prop:=λ_ _=>False
 ct:St->Hp->Prop:=λ_ _=>False
noncomputable abbrev TS:=Ends->St->Hp->Prop
def EP(X:Cx)(pins:ak)(σ:St)(Q:VK)(u:Value)(s':Shared):Prop:=∃v H',Inv X pins σ H' s'/\RelV v u/\Q v H'
def TP(X:Cx)(pins:ak)(σ:St)(Q:Bool->Hp->Prop)(b:Bool)(s':Shared):Prop:=∃H',Inv X pins σ H' s'/\Q b H'
def AP(X:Cx)(pins:ak)(σ:St)(Q:af->Hp->Prop)(us:aq)(s':Shared):Prop:=∃vs H',Inv X pins σ H' s'/\Vals vs us/\Q vs H'
def SP(X:Cx)(pins:ak)(D:Ends)(f:Flow)(s':Shared):Prop :=
 match f with
 |.next=>∃σ' H',Inv X pins σ' H' s'/\D.nx σ' H'
 |.brk=>∃σ' H',Inv X pins σ' H' s'/\D.bk σ' H'
 |.cont=>∃σ' H',Inv X pins σ' H' s'/\D.ct σ' H'
 |.ret u=>∃v σ' H',Inv X pins σ' H' s'/\RelV v u/\D.rt v H'
noncomputable def PE(X:Cx)(e:Expr)(t:TE):Prop :=
 ∀(pins:ak) (s:Shared) (σ:St) (H:Hp) (Q:VK),Inv X pins σ H s->t σ H Q->wpAny (model X.prog X.w) X.A (eval e X.env) (EP X pins σ Q) X.xe s
noncomputable def PT(X:Cx)(e:Expr)(t:TT):Prop :=
 ∀(pins:ak) (s:Shared) (σ:St) (H:Hp) (Q:Bool->Hp->Prop),Inv X pins σ H s->t σ H Q->wpAny (model X.prog X.w) X.A (isTrue e X.env (eval e X.env)) (TP X pins σ Q) X.xe s
noncomputable def PW(X:Cx)(e:Expr)(t:TT):Prop :=
 ∀(whole:Sem Value) (pins:ak) (s:Shared) (σ:St) (H:Hp) (Q:Bool->Hp->Prop),Inv X pins σ H s->t σ H Q->wpAny (model X.prog X.w) X.A (isTrue e X.env whole) (TP X pins σ Q) X.xe s
theorem PW.pt{X:Cx}{e:Expr}{t:TT}(h:PW X e t):PT X e t:=h _
noncomputable def PA(X:Cx)(es:aj)(t:TA):Prop :=
 ∀(pos:Pos) (pins:ak) (s:Shared) (σ:St) (H:Hp) (Q:af->Hp->Prop),Inv X pins σ H s->t σ H Q->wpAny (model X.prog X.w) X.A (spliced (backTo pos (starEach es X.env))) (AP X pins σ Q) X.xe s
noncomputable def PS(X:Cx)(st:Stmt)(t:TS):Prop :=
 ∀(pins:ak) (s:Shared) (σ:St) (H:Hp) (D:Ends),Inv X pins σ H s->t D σ H->wpAny (model X.prog X.w) X.A (exec st X.env) (SP X pins D) X.xe s
noncomputable def mA(X:Cx)(st:aS)(t:TS):Prop :=
 ∀(pins:ak) (s:Shared) (σ:St) (H:Hp) (D:Ends),Inv X pins σ H s->t D σ H->wpAny (model X.prog X.w) X.A (execs st X.env) (SP X pins D) X.xe s
theorem dv{α:Type}{t:Sem α}{Q Q':α->Shared->Prop}{M:Model}{s:Shared}(h:wpAny M A t Q E s)(hQ:∀a s,Q a s->Q' a s):wpAny M A t Q' E s:=aaB h hQ λ_ _ x=>x
end L2
namespace L2
open PySem PySem.Spec PyProof.Rows
variable {E Q:Value->Shared->Prop}{H:Hp}{pos:Pos}{σ:L2.St}
section
variable {X:Cx}
noncomputable def Eh(i:Nat):TE:=λσ H Q=>∃v,σ[i]?=some (some v)/\Q v H
noncomputable def tC(v:V):TE:=λ_ H Q=>Q v H
theorem va{i:Nat}{x:Str}(hN:X.N[i]?=some x)(hv:Ml X.env.scope x)(hd:(x==("__debug__" : Str))=false:=by decide)(Cd:(x==("__classdict__" : Str))=false:=by decide):PE X (.Name x pos) (Eh i):=by
 intro pins s σ H Q I h;obtain⟨v,e,h⟩:=h;obtain⟨m,hn,hl⟩:=I.loc;obtain⟨u,r,l⟩:=hl i x v hN e hv;have fin:EP X pins σ Q u s:=⟨v,H,I,r,h⟩
 rcases l with ⟨hk,hm⟩|⟨hk,c,hc,hcell⟩
 ·exact wpAny_Name (wpAny_loadName_local I.ok.kind hk hn hm fin) hd
 ·rcases hk with hk|hk
  ·exact wpAny_Name (wpAny_loadName_cell I.ok.kind hk hc hcell fin) hd
  ·exact wpAny_Name (wpAny_loadName_free I.ok.kind hk hc hcell fin Cd) hd
theorem JD{i j pos}:PE X (.Constant (.int i) j pos) (tC (.int i)):=λ_ _ _ H _ I h=>wpAny_Constant_int ⟨.int i,H,I.tok _,⟨_,rfl⟩,h⟩
theorem NC{b j pos}:PE X (.Constant (.bool b) j pos) (tC (.bl b)):=λ_ _ _ H _ I h=>Constant_bool ⟨.bl b,H,I,rfl,h⟩
theorem JB{j pos}:PE X (.Constant .none j pos) (tC .bF):=λ_ _ _ H _ I h=>Constant_none ⟨.bF,H,I,rfl,h⟩
theorem Jy{x j pos}:PE X (.Constant (.str x) j pos) (tC (.str x)):=λ_ _ _ H _ I h=>Calls.Constant_str ⟨.str x,H,I.tok _,⟨_,rfl⟩,h⟩
def Gl(X:Cx)(x:Str):Prop:=X.env.kindOf x=some .globalImplicit
theorem xf{pins:ak}{s:Shared}{x:Str}{u:Value}(I:Inv X pins σ H s)(hg:Gl X x)(hm:X.mg x=some u)(h:Q u s)
  (hd:(x==("__debug__" : Str))=false:=by decide):wpAny (model X.prog X.w) X.A (eval (.Name x pos) X.env) Q E s :=
 Calls.Name_function_global I.ok.kind hg (Calls.loadGlobal_global (by rw[I.ok.glob];exact I.mod.glob.keeps I.bk) hm h) hd
theorem dW{pins:ak}{s:Shared}{x:Str}{u:Value}(I:Inv X pins σ H s)(hg:Gl X x)(hm:X.mg x=none)(hv:bootBuiltins x=some u)(h:Q u s)
  (hn:x ≠ "__name__":=by decide) (hd:(x==("__debug__" : Str))=false:=by decide):wpAny (model X.prog X.w) X.A (eval (.Name x pos) X.env) Q E s:=by
 obtain⟨mb,h1,h2⟩:=I.mod.blt;exact Calls.Name_function_global I.ok.kind hg (Calls.loadGlobal_builtin (by rw[I.ok.glob];exact I.mod.glob.keeps I.bk) hm (by rw[I.ok.blt];exact h1.keeps I.bk) ((h2 x hn).trans hv) h) hd
theorem EZ{x:Str}{v:V}{u:Value}(hg:Gl X x)(hm:X.mg x=some u)(r:RelV v u)(hd:(x==("__debug__" : Str))=false:=by decide):PE X (.Name x pos) (tC v) :=
 λ_ _ _ H _ I h=>xf I hg hm ⟨v,H,I,r,h⟩ hd
theorem Fc{x:Str}{v:V}{u:Value}(hg:Gl X x)(hm:X.mg x=none)(hv:bootBuiltins x=some u)(r:RelV v u)(hn:x ≠ "__name__":=by decide)(hd:(x==("__debug__" : Str))=false:=by decide):PE X (.Name x pos) (tC v) :=
 λ_ _ _ H _ I h=>dW I hg hm hv ⟨v,H,I,r,h⟩ hn hd
variable {a b:Expr}{ta tb:TE}{pos:Pos}
noncomputable def tB(t:TE):TT:=λσ H Q=>t σ H λx H1=>∃c,x=.bl c/\Q c H1
theorem Jq{e:Expr}{t:TE}(h:PE X e t)(he:∀whole,isTrue e X.env whole=(do let v <- whole;standAt e.pos;holding [v] (truthy v)):=by intro _;rfl):PT X e (tB t):=by
 intro pins s σ H Q I hw;refine isTrue_plain (dv (h pins s σ H _ I hw) λv s1 bP=>?_) (he _);obtain⟨x,H1,I1,r1,q1⟩:=bP;obtain⟨d,rfl,q⟩:=q1;cases r1;exact aaT ⟨H1,I1,q⟩
variable {tA QC:TT}{rest:aj}
noncomputable def MP(t u:TT):TT:=λσ H Q=>t σ H λc H1=>if c=true then u σ H1 Q else Q false H1
noncomputable def Vz(t u:TT):TT:=λσ H Q=>t σ H λc H1=>if c=true then Q true H1 else u σ H1 Q
noncomputable def RB(t:TT):TT:=λσ H Q=>t σ H λc H1=>Q (!c) H1
theorem ET(ha:PT X a tA):PW X (.BoolOp .And [a] pos) tA:=by
 intro wh pins s σ H Q I h;refine isTrue_and (dv (ha pins s σ H Q I h) λc s1 e=>?_);cases c with
 |true=>exact isTrue_and_nil e
 |false=>exact e
theorem Jo(ha:PT X a tA):PW X (.BoolOp .Or [a] pos) tA:=by
 intro wh pins s σ H Q I h;refine isTrue_or (dv (ha pins s σ H Q I h) λc s1 e=>?_);cases c with
 |false=>exact isTrue_or_nil e
 |true=>exact e
theorem Jp(ha:PT X a tA)(hb:PW X (.BoolOp .And (b::rest) pos) QC):PW X (.BoolOp .And (a::b::rest) pos) (MP tA QC):=by
 intro wh pins s σ H Q I h;refine isTrue_and (dv (ha pins s σ H _ I h) λc s1 ⟨H1,I1,q1⟩=>?_);cases c with
 |true=>exact hb wh pins s1 σ H1 Q I1 q1
 |false=>exact⟨H1,I1,q1⟩
theorem Nu(ha:PT X a tA)(hb:PW X (.BoolOp .Or (b::rest) pos) QC):PW X (.BoolOp .Or (a::b::rest) pos) (Vz tA QC):=by
 intro wh pins s σ H Q I h;refine isTrue_or (dv (ha pins s σ H _ I h) λc s1 ⟨H1,I1,q1⟩=>?_);cases c with
 |true=>exact⟨H1,I1,q1⟩
 |false=>exact hb wh pins s1 σ H1 Q I1 q1
theorem Jr(ha:PT X a tA):PT X (.UnaryOp .Not a pos) (RB tA):=by
 intro pins s σ H Q I h;exact isTrue_not (ha pins s σ H (λc H1=>Q (!c) H1) I h)
noncomputable def Hd(ta tb:TE):TE:=λσ H Q=>ta σ H λx H1=>∃c,x=.bl c/\if c=true then tb σ H1 Q else Q (.bl false) H1
noncomputable def MJ(ta tb:TE):TE:=λσ H Q=>ta σ H λx H1=>∃c,x=.bl c/\if c=true then Q (.bl true) H1 else tb σ H1 Q
noncomputable def MK(ta:TE):TE:=λσ H Q=>ta σ H λx H1=>∃c,x=.bl c/\Q (.bl (!c)) H1
theorem Bb{op}{t:TE}(h:PE X a t):PE X (.BoolOp op [a] pos) t:=λpins s σ H Q I hw=>BoolOp_one (h pins s σ H Q I hw)
theorem JE(ha:PE X a ta)(hb:PE X (.BoolOp .And (b::rest) pos) tb):PE X (.BoolOp .And (a::b::rest) pos) (Hd ta tb):=by
 intro pins s σ H Q I h;refine BoolOp_and (dv (ha pins s σ H _ I h) λv s1 bP=>?_);obtain⟨x,H1,I1,r1,q1⟩:=bP;obtain⟨c,rfl,q1⟩:=q1;cases r1;refine aaT ?_;cases c with
 |true=>exact hb pins s1 σ H1 Q I1 q1
 |false=>exact⟨.bl false,H1,I1,rfl,q1⟩
theorem NA(ha:PE X a ta)(hb:PE X (.BoolOp .Or (b::rest) pos) tb):PE X (.BoolOp .Or (a::b::rest) pos) (MJ ta tb):=by
 intro pins s σ H Q I h;refine BoolOp_or (dv (ha pins s σ H _ I h) λv s1 bP=>?_);obtain⟨x,H1,I1,r1,q1⟩:=bP;obtain⟨c,rfl,q1⟩:=q1;cases r1;refine aaT ?_;cases c with
 |false=>exact hb pins s1 σ H1 Q I1 q1
 |true=>exact⟨.bl true,H1,I1,rfl,q1⟩
theorem JA(ha:PE X a ta):PE X (.UnaryOp .Not a pos) (MK ta):=by
 intro pins s σ H Q I h;refine UnaryOp_ (dv (ha pins s σ H _ I h) λv s1 bP=>?_);obtain⟨x,H1,I1,r1,q1⟩:=bP;obtain⟨c,rfl,q1⟩:=q1;cases r1;exact not_of (aaT ⟨.bl (!c),H1,I1,rfl,q1⟩)
noncomputable def Xq(t:TT)(ta tb:TE):TE:=λσ H Q=>t σ H λc H1=>if c=true then ta σ H1 Q else tb σ H1 Q
theorem Bc{c:Expr}(hc:PT X c tA)(ha:PE X a ta)(hb:PE X b tb):PE X (.IfExp c a b pos) (Xq tA ta tb):=by
 intro pins s σ H Q I h;refine wpAny_IfExp (dv (hc pins s σ H _ I h) λd s1 ⟨H1,I1,q1⟩=>?_);cases d with
 |true=>exact ha pins s1 σ H1 Q I1 q1
 |false=>exact hb pins s1 σ H1 Q I1 q1
end
end L2
namespace L2
open PySem PySem.Spec PyProof.Rows
def dq(K:ao)(H:Hp)(a:Addr)(xs:af):Prop :=
 Rd H a (.lst xs) \/
  ∃(o:Obj) (aL:aR) (n:Nat),K.lookup a=some o/\o.cls=.type "list" /\ o.dict=none/\o.data=.seq aL n/\aL.size<=sizeLine/\Vals xs aL.toList
def aX(K:ao)(H:Hp)(a:Addr)(xs:af):Prop :=
 Rd H a (.tup xs) \/
  ∃(o:Obj) (aL:aR) (n:Nat),K.lookup a=some o/\o.cls=.type "tuple" /\ o.data=.seq aL n/\aL.size<=sizeLine/\Vals xs aL.toList
noncomputable def Vc:Value->Option V
 |.none=>some .bF
 |.bool b=>some (.bl b)
 |.int i _=>some (.int i)
 |.str x _=>some (.str x)
 |.bytes b _=>some (.U5 b)
 |.float b _=>some (.UC b)
 |.ref a=>some (.ref a)
 |.type n=>some (.ty n)
 |_=>none
theorem RelV.abs{x:V}{u:Value}(r:RelV x u):Vc u=some x:=by
 cases x with
 |bF=>cases r;rfl
 |bl _=>cases r;rfl
 |int _=>obtain⟨t,rfl⟩:=r;rfl
 |str _=>obtain⟨t,rfl⟩:=r;rfl
 |U5 _=>obtain⟨t,rfl⟩:=r;rfl
 |UC _=>obtain⟨t,rfl⟩:=r;rfl
 |ref _=>cases r;rfl
 |ty _=>cases r;rfl
theorem RelV.inj{x y:V}{u:Value}(r:RelV x u)(q:RelV y u):x=y:=aas (r.abs.symm.trans q.abs)
theorem Vals.inj:∀{xs ys:af} {us:aq},Vals xs us->Vals ys us->xs=ys
 |_,_,_,.nil,.nil=>rfl
 |_,_,_,.cons r t,.cons r' t'=>by rw[r.inj r',Vals.inj t t']
variable {K:ao}
section
variable {X:Cx}{pins:ak}{σ:St}{H:Hp}{s:Shared}{a:Addr}{xs ys:af}
theorem dq.of(h:H a=some (.lst xs)):dq K H a xs:=.inl (.inl h)
theorem aX.of(h:H a=some (.tup xs)):aX K H a xs:=.inl (.inl h)
theorem Inv.list(I:Inv X pins σ H s)(h:dq X.K H a xs):∃aL:aq,Vals xs aL/\PlainL s.heap a aL.toArray/\xs.length<=sizeLine:=by
 rcases h with h|⟨o,aL,n,hk,hc,hd,hs,hz,r⟩
 ·obtain⟨z,aL,n,r,e⟩:=h.ok I.du;exact⟨aL,r,⟨_,n,e,rfl,rfl,rfl⟩,z⟩
 ·refine⟨aL.toList,r,⟨o,n,I.BK a o hk,hc,hd,by simpa using hs⟩,?_⟩;have e:=r.length;simp only[Array.length_toList]at e;left
theorem Inv.tuple(I:Inv X pins σ H s)(h:aX X.K H a xs):∃aL:aq,Vals xs aL/\IsTup s.heap a aL.toArray/\xs.length<=sizeLine:=by
 rcases h with h|⟨o,aL,n,hk,hc,hs,hz,r⟩
 ·obtain⟨z,aL,r,p⟩:=h.ok I.du;exact⟨aL,r,p,z⟩
 ·refine⟨aL.toList,r,⟨o,I.BK a o hk,hc,n,by simpa using hs⟩,?_⟩;have e:=r.length;simp only[Array.length_toList]at e;left
theorem Inv.iK(I:Inv X pins σ H s)(h:dq X.K H a xs)(h':dq X.K H a ys):xs=ys:=by
 obtain⟨aL,r,⟨o,n,e,_,_,d⟩,_⟩:=I.list h;obtain⟨its',r',⟨o',n',e',_,_,d'⟩,_⟩:=I.list h';rw[e]at e';cases e';rw[d]at d';injection d' with d1 _;have:aL=its':=by simpa using congrArg Array.toList d1
 subst this;exact r.inj r'
theorem Inv.o3(I:Inv X pins σ H s)(h:aX X.K H a xs)(h':aX X.K H a ys):xs=ys:=by
 obtain⟨aL,r,⟨o,e,_,n,d⟩,_⟩:=I.tuple h;obtain⟨its',r',⟨o',e',_,n',d'⟩,_⟩:=I.tuple h';rw[e]at e';cases e';rw[d]at d';injection d' with d1 _;have:aL=its':=by simpa using congrArg Array.toList d1
 subst this;exact r.inj r'
end
noncomputable abbrev Cx.oB(X:Cx)(E:az):Cx:={ X with xe:=E }
abbrev Cx.NQ(X:Cx):Cx:=X.oB λ_ _=>False
theorem Cx.Ok.oB{X:Cx}(ok:X.Ok)(E:az):(X.oB E).Ok :=
 ⟨ok.mod,ok.kind,ok.glob,ok.blt,ok.above,ok.inj,ok.has,ok.Qh,ok.hd,ok.frames,ok.QD,ok.WL,ok.bs,ok.HJ,ok.Bp,ok.Gd,ok.lX,ok.Md⟩
variable {E:Value->Shared->Prop}{X:Cx}
theorem Cx.Ok.iB(ok:(X.oB E).Ok):X.Ok :=
 ⟨ok.mod,ok.kind,ok.glob,ok.blt,ok.above,ok.inj,ok.has,ok.Qh,ok.hd,ok.frames,ok.QD,ok.WL,ok.bs,ok.HJ,ok.Bp,ok.Gd,ok.lX,ok.Md⟩
section
variable {X:Cx}{pins:ak}{σ:St}{H:Hp}{s:Shared}{E:az}
theorem Inv.oB(I:Inv X pins σ H s)(E:az):Inv (X.oB E) pins σ H s:=⟨I.ok.oB E,I.os,I.bare,I.base,I.loc,I.cell,I.free,I.iR,I.pin,I.du,I.len⟩
theorem Inv.iB(I:Inv (X.oB E) pins σ H s):Inv X pins σ H s:=⟨I.ok.iB,I.os,I.bare,I.base,I.loc,I.cell,I.free,I.iR,I.pin,I.du,I.len⟩
theorem SP.iB{D:Ends}{f:Flow}{s':Shared}(h:SP (X.oB E) pins D f s'):SP X pins D f s':=by
 cases f with
 |next=>obtain⟨σ',H',I,q⟩:=h;exact⟨σ',H',I.iB,q⟩
 |brk=>obtain⟨σ',H',I,q⟩:=h;exact⟨σ',H',I.iB,q⟩
 |cont=>obtain⟨σ',H',I,q⟩:=h;exact⟨σ',H',I.iB,q⟩
 |ret u=>obtain⟨v,σ',H',I,r,q⟩:=h;exact⟨v,σ',H',I.iB,r,q⟩
theorem mA.NQ{st:aS}{t:TS}(h:mA X.NQ st t):mA X st t:=λpins s σ H D I hw =>
 aaB (h pins s σ H D (I.oB _) hw) (λ_ _ q=>q.iB) λ_ _ z=>False.elim z
end
variable {H:Hp}{σ:L2.St}
section
variable {X:Cx}{st:Stmt}{rest:aS}{t u:TS}{e:Expr}{te:TE}{pos:Pos}
noncomputable def MM:TS:=λD σ H=>D.nx σ H
noncomputable def Ry(t u:TS):TS:=λD σ H=>t { D with nx:=u D } σ H
theorem EU:mA X [] MM:=λ_ _ σ H _ I h=>wpAny_execs_nil ⟨σ,H,I,h⟩
theorem A2(h1:PS X st t)(h2:mA X rest u):mA X (st::rest) (Ry t u):=by
 intro pins s σ H D I h;refine wpAny_execs_cons (dv (h1 pins s σ H { D with nx:=u D } I h) λf s1 q=>?_);cases f with
 |next =>
  obtain⟨σ',H',I',q⟩:=q;exact h2 pins s1 σ' H' D I' q
 |ret v=>exact q
 |brk=>exact q
 |cont=>exact q
theorem Inv.quiet{pins:ak}{s:Shared}(I:Inv X pins σ H s):interactive X.env=false:=by simp[interactive,I.ok.kind]
noncomputable def MN(te:TE):TS:=λD σ H=>te σ H λ_ H1=>D.nx σ H1
theorem wO(he:PE X e te)(hs:swapsWith e none pos.line X.env=pure false:=by rfl):PS X (.Expr e pos) (MN te):=by
 intro pins s σ H D I h;exact wpAny_Expr_any (dv (he pins s σ H _ I h) λv s1 ⟨x,H1,I1,r1,q1⟩=>⟨σ,H1,I1,q1⟩) I.quiet hs
noncomputable def Rz(te:TE):TS:=λD σ H=>te σ H D.rt
theorem Js(he:PE X e te):PS X (.Return (some e) pos) (Rz te):=by
 intro pins s σ H D I h;exact wpAny_Return_some (dv (he pins s σ H _ I h) λv s1 ⟨x,H1,I1,r1,q1⟩=>⟨x,σ,H1,I1,r1,q1⟩)
noncomputable def RD(c:TT)(t u:TS):TS:=λD σ H=>c σ H λb H1=>if b=true then t D σ H1 else u D σ H1
theorem Nw{c:Expr}{a b:aS}{tc:TT}(hc:PT X c tc)(ha:mA X a t)(hb:mA X b u):PS X (.If c a b pos) (RD tc t u):=by
 intro pins s σ H D I h;refine wpAny_If (dv (hc pins s σ H _ I h) λd s1 ⟨H1,I1,q1⟩=>?_);cases d with
 |true=>exact ha pins s1 σ H1 D I1 q1
 |false=>exact hb pins s1 σ H1 D I1 q1
end
noncomputable abbrev TG:=V->St->Hp->(St->Hp->Prop)->Prop
noncomputable abbrev GZ:=af->St->Hp->(St->Hp->Prop)->Prop
def PG(X:Cx)(target:Expr)(t:TG):Prop :=
 ∀(pins:ak) (s:Shared) (σ:St) (H:Hp) (v:V) (u:Value) (Q:St->Hp->Prop),Inv X pins σ H s->RelV v u->t v σ H Q ->
  wpAny (model X.prog X.w) X.A (assign target X.env u) (λ_ s'=>∃σ' H',Inv X pins σ' H' s'/\Q σ' H') X.xe s
def Mm(X:Cx)(ts:aj)(t:GZ):Prop :=
 ∀(pins:ak) (s:Shared) (σ:St) (H:Hp) (vs:af) (us:aq) (Q:St->Hp->Prop),Inv X pins σ H s->Vals vs us->t vs σ H Q ->
  wpAny (model X.prog X.w) X.A (assignInOrder ((assignEach ts X.env).map (·.2)) us) (λ_ s'=>∃σ' H',Inv X pins σ' H' s'/\Q σ' H') X.xe s
noncomputable abbrev LD:=V->V->V->Hp->(Hp->Prop)->Prop
def Qv(X:Cx)(t:LD):Prop :=
 ∀(pins:ak) (s:Shared) (σ:St) (H:Hp) (o i v:V) (ov iv u:Value) (Q:Hp->Prop),Inv X pins σ H s->RelV o ov->RelV i iv->RelV v u->t o i v H Q ->
  wpAny (model X.prog X.w) X.A (setItem ov iv u) (λ_ s'=>∃H',Inv X pins σ H' s'/\Q H') X.xe s
variable {es:aj}{tg:Expr}
section
variable {X:Cx}{pos:Pos}
noncomputable def pF(i:Nat):TG:=λv σ H Q=>Q (σ.set i (some v)) H
theorem qu{i:Nat}{x:Str}(hN:X.N.Nodup)(hi:X.N[i]?=some x)(hx:Loc X.env.scope x)(hf:X.fn x=true\/X.env.scope.names.lookup x=some .local:=by first|exact .inl rfl|exact .inr rfl|assumption):PG X (.Name x pos) (pF i):=by
 intro pins s σ H v u Q I r h;exact wpAny_assign_Name (mK I hN hi hx r (λs' I'=>⟨_,H,I',h⟩) hf)
noncomputable def KJ:GZ:=λvs σ H Q=>vs=[]/\Q σ H
noncomputable def Ct(t:TG)(u:GZ):GZ:=λvs σ H Q=>∃v r,vs=v::r/\t v σ H λσ' H'=>u r σ' H' Q
theorem wW:Mm X [] KJ:=by
 intro pins s σ H vs us Q I r h;obtain⟨e,h⟩:=h;subst e;cases r;exact assignInOrder_nil ⟨σ,H,I,h⟩
theorem sY{e:Expr}{t:TG}{u:GZ}(h1:PG X e t)(h2:Mm X es u)
  (hs:(assignEach (e::es) X.env).map (·.2)=assign e X.env::(assignEach es X.env).map (·.2):=by rfl):Mm X (e::es) (Ct t u):=by
 intro pins s σ H vs us Q I r h;obtain⟨v,vr,e1,h⟩:=h;subst e1;cases r with
 |cons r rr =>
  rw[hs];refine assignInOrder_cons (dv (h1 pins s σ H _ _ _ I r h) λ_ s1 bP=>?_);obtain⟨σ1,H1,I1,q1⟩:=bP;exact h2 pins s1 σ1 H1 _ _ Q I1 rr q1
def Ux(K:ao)(n:Nat)(t:GZ):TG:=λv σ H Q=>∃a xs,v=.ref a/\aX K H a xs/\xs.length=n/\t xs σ H Q
theorem A9{k:Nat}{t:GZ}{n:Nat}(hc:X.calm=true)(h:Mm X es t)
  (hn:(assignEach es X.env).length=n:=by rfl) (oy:(assignEach es X.env).findIdx? (·.1)=none:=by rfl):PG X (.Tuple es k pos) (Ux X.K n t):=by
 intro pins s σ H v u Q I r hw;obtain⟨a,xs,e1,hq,hl,hw⟩:=hw;subst e1;cases r;obtain⟨aL,rv,ht,hz⟩:=I.tuple hq;refine assign_Tuple_tuple (I.ok.hd hc) ht (by simp[hn,<- hl,rv.length]) oy λh' hx=>?_;have I1:Inv X pins σ H { s with heap:=h' }:=I.kept (t':=s.toks) λb o e=>hx b o (aai (aag e)) e;exact h pins _ σ H xs _ Q I1 (by simpa using rv) hw
noncomputable def Uy(to ti:TE)(t:LD):TG:=λv σ H Q=>to σ H λo H1=>ti σ H1 λi H2=>t o i v H2 λH3=>Q σ H3
theorem Jw{o i:Expr}{to ti:TE}{t:LD}(ho:PE X o to)(hi:PE X i ti)(hs:Qv X t)
  (ha:∀v,assign (.Subscript o i pos) X.env v=(do
   let ov <- holding [v] (eval o X.env)
   let iv <- holding [v,ov] (eval i X.env)
   standAt pos
   holding [v,ov,iv] (setItem ov iv v)
   release [v,ov,iv] []):=by intro _;rfl):PG X (.Subscript o i pos) (Uy to ti t):=by
 intro pins s σ H v u Q I r h;rw[ha];refine Z_ (aax (dv (ho pins s σ H _ I h) λov s1 bP=>?_));obtain⟨x,H1,I1,r1,q1⟩:=bP;refine Z_ (aax (dv (hi pins s1 σ H1 _ I1 q1) λiv s2 bP=>?_));obtain⟨y,H2,I2,r2,q2⟩:=bP;refine Z_ (ace (Z_ (aax (dv (hs pins s2 σ H2 x y v ov iv u _ I2 r1 r2 r q2) λ_ s3 bP=>?_))));obtain⟨H3,I3,q3⟩:=bP;exact wpAny_release ⟨σ,H3,I3,q3⟩
noncomputable def RF(te:TE)(g:TG):TS:=λD σ H=>te σ H λx H1=>g x σ H1 D.nx
theorem A5{e:Expr}{te:TE}{g:TG}(he:PE X e te)(hg:PG X tg g)(hs:swapsWithSole [tg] e pos.line X.env=pure false:=by rfl)(hw:swappedStores [tg] e X.env=pure none:=by rfl)
  (h1:(assignEach [tg] X.env).map (·.2)=[assign tg X.env]:=by rfl):PS X (.Assign [tg] e pos) (RF te g):=by
 intro pins s σ H D I h;refine wpAny_Assign_stores (dv (he pins s σ H _ I h) λv s1 bP=>?_) hs hw;obtain⟨x,H1,I1,r1,q1⟩:=bP;rw[h1];exact dv (hg pins s1 σ H1 x v _ I1 r1 q1) λ_ s2 q=>q
noncomputable def RA(i j:Nat)(ta:TA):TS:=λD σ H=>ta σ H λvs H1=>∃v w,vs=[v,w]/\D.nx ((σ.set i (some v)).set j (some w)) H1
theorem Jt{i j:Nat}{x y:Str}{a b:Expr}{ta:TA}{px py pt:Pos}{kt k2 LO}(hc:X.calm=true)(hN:X.N.Nodup)(hi:X.N[i]?=some x)(hj:X.N[j]?=some y)(js:i≠j)
  (hx:X.env.scope.names.lookup x=some .local) (hy:X.env.scope.names.lookup y=some .local) (ha:PA X [a,b] ta)
  (hw:swappedStores [.Tuple [.Name x px,.Name y py] kt pt] (.Tuple [a,b] k2 LO) X.env=pure (some [x,y]))
  (hs:swapsWithSole [.Tuple [.Name x px,.Name y py] kt pt] (.Tuple [a,b] k2 LO) pos.line X.env=pure false:=by rfl) :
  PS X (.Assign [.Tuple [.Name x px,.Name y py] kt pt] (.Tuple [a,b] k2 LO) pos) (RA i j ta):=by
 intro pins s σ H D I h;rw[exec_Assign_arm];refine Z_ (ace ?_);rw[hs];refine Z_ (aaa ?_);rw[if_neg (by decide)];refine Z_ (Tuple_ (dv (ha _ pins s σ H _ I h) λus s1 bP=>?_));obtain⟨vs,H1,I1,r1,q1⟩:=bP;obtain⟨v,w,e1,q1⟩:=q1;subst e1;obtain⟨u1,u2,rfl,rv,ox⟩:∃u1 u2,us=[u1,u2]/\RelV v u1/\RelV w u2:=by
  cases r1 with
  |cons p q =>
   cases q with
   |cons p' q' =>
    cases q';exact⟨_,_,rfl,p,p'⟩
 refine aav ?_ (by show 2<=sizeLine;decide);have I2:Inv X pins σ H1 { s1 with heap:=s1.heap.push { cls:=.type "tuple",data:=.seq [u1,u2].toArray } }:=I1.kept (t':=s1.toks) λb o e=>aac _ e;rw[hw];refine Z_ (aaa ?_);show wpAny (model X.prog X.w) X.A (do rule "assign.swapped-stores";let items <- unpackItems (.ref s1.heap.objs.size) 2 none;assignInOrder [λv=>bindName X.env y v,λv=>bindName X.env x v] items.reverse;pure Flow.next) _ _ _;refine Z_ (abx (Z_ (unpackItems_tuple (items:=#[u1,u2]) (I.ok.hd hc) (IsTup.new s1.heap _) λh' Kj=>?_)));have I3:=I2.kept (h':=h') (t':=s1.toks) λb o e=>Kj b o (aai (aag e)) e;show wpAny _ _ (assignInOrder [λv=>bindName X.env y v,λv=>bindName X.env x v] [u2,u1] >>= λ_=>pure Flow.next) _ _ _;refine Z_ (assignInOrder_cons (wpAny_bindName (mK I3 hN hj (.inl hy) ox (λs2 I4=>?_) (.inr hy))));refine assignInOrder_cons (wpAny_bindName (mK I4 hN hi (.inl hx) rv (λs3 I5=>assignInOrder_nil (aaa ?_)) (.inr hx)));rw[List.set_comm _ _ (Ne.symm js)]at I5;exact⟨_,H1,I5,q1⟩
end
section
variable {X:Cx}{pos:Pos}
noncomputable def Iz(c:TT)(tb:TS):TS:=λD σ H=>∃W:Nat->St->Hp->Prop,(∃m,W m σ H)/\∀m σ H,W m σ H ->
 c σ H λb H1=>if b=true then ∃N:St->Hp->Prop,(∀σ' H',N σ' H'->∃m',m'<m/\W m' σ' H')/\tb { D with nx:=N,ct:=N,bk:=D.nx } σ H1 else D.nx σ H1
theorem A3{c:Expr}{body:aS}{tc:TT}{tb:TS}(hp:PassesOwn (model X.prog X.w) X.A X.env X.xe)(hc:PT X c tc)(hb:mA X body tb):PS X (.While c body [] pos) (Iz tc tb):=by
 intro pins s σ H D I h;obtain⟨W,⟨m0,w0⟩,turn⟩:=h;refine wpAny_While (codeAny_whileLoop (λn s'=>∃σ' H',Inv X pins σ' H' s'/\W n σ' H') ?_ m0 ⟨σ,H,I,w0⟩);rintro n s1 ⟨σ1,H1,I1,w1⟩;refine aaY hp (dv (hc pins s1 σ1 H1 _ I1 (turn n σ1 H1 w1)) λb s2 ⟨H2,I2,q2⟩=>?_);cases b with
 |true =>
  obtain⟨N,hN,q2⟩:=q2;rw[if_pos rfl];refine aaY hp (dv (hb pins s2 σ1 H2 _ I2 q2) λf s3 q3=>?_);cases f with
  |next =>
   obtain⟨σ3,H3,I3,n3⟩:=q3;obtain⟨m',hm,w3⟩:=hN σ3 H3 n3;exact⟨m',hm,σ3,H3,I3,w3⟩
  |cont =>
   obtain⟨σ3,H3,I3,n3⟩:=q3;obtain⟨m',hm,w3⟩:=hN σ3 H3 n3;exact⟨m',hm,σ3,H3,I3,w3⟩
  |brk=>exact q3
  |ret v=>exact q3
 |false =>
  rw[if_neg Bool.false_ne_true];exact wpAny_execs_nil ⟨σ1,H2,I2,q2⟩
end
structure It where
 go:Nat->Hp->Prop
 uD:Nat->Hp->V->Hp->Prop
 stop:Nat->Hp->Prop
noncomputable def oj(X:Cx)(pins:ak)(H:Hp)(b:Addr):Prop :=
 H b=none/\b≠X.env.locals/\b∉X.fs/\(b∈X.ex\/X.s₀.heap.objs.size<=b)/\(∀x c,X.env.cells.lookup x=some c->c≠b)/\∀p∈X.pn++pins,p.1≠b
theorem Inv.Cv{pins:ak}{H':Hp}{s:Shared}{b:Addr}(I:Inv X pins σ H s)(hb:s.heap.objs.size<=b)(hn:H' b=none):oj X pins H' b:=by
 refine⟨hn,aaq (aak I.lt hb),I.JP hb,.inr (aao I.sz hb),λx c e z=>?_,λp hp z=>?_⟩
 ·obtain⟨v,q⟩:=I.cell x c e;exact absurd (aak q.lt (by rw[z];exact hb)) (aaw _)
 ·exact absurd (aak (aag (I.pin p hp).1) (by rw[z];exact hb)) (aaw _)
structure Turn(P:aF)(w:World)(K:ao)(tg:Expr)(J:It)(fp:aZ)(it:Addr)(tn:Nat->Heap->Prop):Prop where
 mem:it∈fp
 obj:∀i h,tn i h->∀b∈fp,∃o,h.get? b=some o/\∀v,o.data≠.cell v
 keep:∀i h h',tn i h->(∀b∈fp,∀o,h.get? b=some o->h'.get? b=some o)->tn i h'
 item:∀(X:Cx),X.prog=P->X.w=w->X.K=K->X.calm=true->∀(i:Nat) (pins:ak) (s:Shared) (σ:St) (H:Hp) (E:az),Inv X pins σ H s->(∀b∈fp,oj X pins H b)->tn i s.heap->J.go i H ->
  wpAny (model P w) X.A (pyNext (.ref it)) (λr s1=>∃u,r=some u /\
   wpAny (model P w) X.A (letOwnedTupleGo tg (.ref it) u) (λ_ s2=>∃x H',Inv X pins σ H' s2/\RelV x u/\J.uD i H x H'/\tn (i+1) s2.heap/\∀b∈fp,H' b=none) E s1) E s
 done:∀(X:Cx),X.prog=P->X.w=w->X.K=K->X.calm=true->∀(i:Nat) (pins:ak) (s:Shared) (σ:St) (H:Hp) (E:az),Inv X pins σ H s->(∀b∈fp,oj X pins H b)->tn i s.heap->J.stop i H ->
  wpAny (model P w) X.A (pyNext (.ref it)) (λr s1=>r=none/\Inv X pins σ H s1) E s
 self:∀(A:aG) (i:Nat) (s:Shared) (Q:az) (E:az),tn i s.heap->Q (.ref it) s->wpAny (model P w) A (pyIter (.ref it)) Q E s
noncomputable abbrev TI:=St->Hp->(It->Hp->Prop)->Prop
def DB(X:Cx)(pins:ak)(σ:St)(tg:Expr)(R:It->Hp->Prop)(SH:Value)(s2:Shared):Prop :=
 ∃(it:Addr) (fp:aZ) (tn:Nat->Heap->Prop) (J:It) (H':Hp),SH=.ref it/\Inv X pins σ H' s2/\Turn X.prog X.w X.K tg J fp it tn/\tn 0 s2.heap/\(∀b∈fp,oj X pins H' b)/\R J H'
def PI(X:Cx)(tg iter:Expr)(wi:TI):Prop :=
 ∀(pins:ak) (s:Shared) (σ:St) (H:Hp) (R:It->Hp->Prop),Inv X pins σ H s->wi σ H R ->
  wpAny (model X.prog X.w) X.A (eval iter X.env) (λv s1=>wpAny (model X.prog X.w) X.A (pyIter v) (DB X pins σ tg R) X.xe s1) X.xe s
theorem Cp{M:Model}{A:aG}{s:Shared}{it:Addr}{u:Value}{o:Obj}{n:String}{vs:aR}{Q:Unit->Shared->Prop}(ho:s.heap.get? it=some o)(hc:o.cls=.type n)(hd:o.data=.fields vs)
    (hn:["enumerate","zip","dict_itemiterator","dict_reverseitemiterator","odict_iterator","itertools.zip_longest","itertools.pairwise"].contains n=false) (hQ:Q () s):wpAny M A (letOwnedTupleGo tg (.ref it) u) Q E s:=by
  unfold letOwnedTupleGo;cases tg<;>first
    |exact aaa hQ
    | (cases u<;>first
        |exact aaa hQ
        | (refine Z_ (wpAny_load ho ?_)
           rw[hc,hd];show wpAny M A (if (["enumerate","zip","dict_itemiterator","dict_reverseitemiterator","odict_iterator","itertools.zip_longest","itertools.pairwise"].contains n&&vs[0]?==some (rawInt _))=true then _ else _) Q E s;rw[if_neg (by intro h;rw[hn,Bool.false_and]at h;cases h)];exact aaa hQ))
def Mo(K:ao)(a:Addr):It :=
 ⟨λi H=>∃xs x,dq K H a xs/\xs[i]?=some x,λi H x H'=>H'=H/\∀xs,dq K H a xs->xs[i]?=some x,λi H=>∃xs,dq K H a xs/\xs.length<=i⟩
def Mn(K:ao)(a:Addr):It :=
 ⟨λi H=>∃xs x,aX K H a xs/\xs[i]?=some x,λi H x H'=>H'=H/\∀xs,aX K H a xs->xs[i]?=some x,λi H=>∃xs,aX K H a xs/\xs.length<=i⟩
noncomputable def zP(lo:Int)(n:Nat):It:=⟨λi _=>i<n,λi H x H'=>H'=H/\x=.int (lo+i),λi _=>n<=i⟩
variable {P:aF}{w:World}
theorem yk(a it:Addr):Turn P w K tg (Mo K a) [it] it (λi h=>h.IsListIter it a i) where
 mem:=by simp
 obj:=λi h st b hb=>by
  have e:b=it:=by simpa using hb
  subst e;obtain⟨o,e,c,d⟩:=st;exact⟨o,e,λv z=>by rw[d]at z;cases z⟩
 keep:=λi h h' st k=>st.at λo e=>k it (by simp) o e
 item:=by
  intro X hP hw hK hc i pins s σ H E I hf st hg;subst hP hw hK;obtain⟨xs,x,hq,hx⟩:=hg;obtain⟨aL,rv,p,hz⟩:=I.list hq;obtain⟨u,hu,ru⟩:=rv.get hx;obtain⟨f0,f1,f2,f3,f4,f5⟩:=hf it (by simp);refine wpAny_pyNext_list_item st p.isList (x:=u) (by simpa using hu) λh' mM sb=>?_;have I1:Inv X pins σ H { s with heap:=h' }:=I.turned (t':=s.toks) (λb o hb e=>(sb.2 b hb).trans e) f0 f1 f3 f4 f5;obtain⟨o,e,c,d⟩:=id mM;exact⟨u,rfl,Cp (s:={ s with heap:=h' }) e c d (by decide) ⟨x,H,I1,ru,⟨rfl,λys hy=>by rw[I.iK hy hq];exact hx⟩,mM,λb hb=>(hf b hb).1⟩⟩
 done:=by
  intro X hP hw hK hc i pins s σ H E I hf st hg;subst hP hw hK;obtain⟨xs,hq,hx⟩:=hg;obtain⟨aL,rv,p,hz⟩:=I.list hq;obtain⟨f0,f1,f2,f3,f4,f5⟩:=hf it (by simp);have hl:=rv.length;exact wpAny_pyNext_list_end (I.ok.hd hc) st p.isList (by simp;left) λh' eb=>⟨rfl,I.turned (t':=s.toks) (λb o hb e=>eb b o hb e) f0 f1 f3 f4 f5⟩
 self:=λ_ _ _ _ _ st h=>wpAny_pyIter_listiter st h
theorem uQ(a it:Addr):Turn P w K tg (Mn K a) [it] it (λi h=>h.IsTupleIter it a i) where
 mem:=by simp
 obj:=λi h st b hb=>by
  have e:b=it:=by simpa using hb
  subst e;obtain⟨o,e,c,d⟩:=st;exact⟨o,e,λv z=>by rw[d]at z;cases z⟩
 keep:=λi h h' st k=>st.at λo e=>k it (by simp) o e
 item:=by
  intro X hP hw hK hc i pins s σ H E I hf st hg;subst hP hw hK;obtain⟨xs,x,hq,hx⟩:=hg;obtain⟨aL,rv,p,hz⟩:=I.tuple hq;obtain⟨u,hu,ru⟩:=rv.get hx;obtain⟨f0,f1,f2,f3,f4,f5⟩:=hf it (by simp);refine wpAny_pyNext_tuple_item st (show s.heap.IsTuple a aL.toArray from p) (x:=u) (by simpa using hu) λh' mM sb=>?_;have I1:Inv X pins σ H { s with heap:=h' }:=I.turned (t':=s.toks) (λb o hb e=>(sb.2 b hb).trans e) f0 f1 f3 f4 f5;obtain⟨o,e,c,d⟩:=id mM;exact⟨u,rfl,Cp (s:={ s with heap:=h' }) e c d (by decide) ⟨x,H,I1,ru,⟨rfl,λys hy=>by rw[I.o3 hy hq];exact hx⟩,mM,λb hb=>(hf b hb).1⟩⟩
 done:=by
  intro X hP hw hK hc i pins s σ H E I hf st hg;subst hP hw hK;obtain⟨xs,hq,hx⟩:=hg;obtain⟨aL,rv,p,hz⟩:=I.tuple hq;obtain⟨f0,f1,f2,f3,f4,f5⟩:=hf it (by simp);have hl:=rv.length;exact wpAny_pyNext_tuple_end (I.ok.hd hc) st (show s.heap.IsTuple a aL.toArray from p) (by simp;left) λh' eb=>⟨rfl,I.turned (t':=s.toks) (λb o hb e=>eb b o hb e) f0 f1 f3 f4 f5⟩
 self:=λ_ _ _ _ _ st h=>wpAny_pyIter_tupleiter st h
theorem uR(it:Addr)(lo:Int)(n:Nat):Turn P w K tg (zP lo n) [it] it (λi h=>IsRangeIter h it (lo+(i:Nat)*1) ((n:Int) - (i:Nat)) 1) where
 mem:=by simp
 obj:=λi h st b hb=>by
  have e:b=it:=by simpa using hb
  subst e;exact⟨_,st,λv z=>by
   have z':Data.fields _=Data.cell v:=z;cases z'⟩
 keep:=λi h h' st k=>k it (by simp) _ st
 item:=by
  intro X hP hw hK hc i pins s σ H E I hf st hg;subst hP hw hK;obtain⟨f0,f1,f2,f3,f4,f5⟩:=hf it (by simp);have W:=Walks.range (prog:=X.prog) (w:=X.w) (I.ok.hd hc) it lo 1 n;refine W.item i s _ _ hg st λv h' tk hv mM kk=>?_;obtain⟨t,rfl⟩:=hv;have I1:Inv X pins σ H { s with heap:=h',toks:=tk }:=I.turned (λb o hb e=>kk b o (by simpa using hb) e) f0 f1 f3 f4 f5;refine⟨_,rfl,Cp (s:={ s with heap:=h',toks:=tk }) (n:="range_iterator") mM rfl rfl (by decide) ⟨.int (lo+i),H,I1,⟨t,?_⟩,⟨rfl,rfl⟩,mM,λb hb=>(hf b hb).1⟩⟩;rw[Int.mul_one]
 done:=by
  intro X hP hw hK hc i pins s σ H E I hf st hg;subst hP hw hK;obtain⟨f0,f1,f2,f3,f4,f5⟩:=hf it (by simp);exact wpAny_pyNext_range_end (I.ok.hd hc) st (by have:n<=i:=hg;left) λh' eb=>⟨rfl,I.turned (t':=s.toks) (λb o hb e=>eb b o hb e) f0 f1 f3 f4 f5⟩
 self:=λ_ _ _ _ _ st h=>wpAny_pyIter_rangeiter st h
end L2
namespace L2
open PySem PySem.Spec PyProof.Rows
variable {H:Hp}{fp:aZ}{h:Heap}{lo:Int}{pos:Pos}{tl:TE}{σ:L2.St}
section
variable {X:Cx}{tg:Expr}
def Oq(K:ao)(tl:TE):TI:=λσ H R=>tl σ H λx H1=>∃a,x=.ref a/\(∃xs,dq K H1 a xs)/\R (Mo K a) H1
def SU(K:ao)(tl:TE):TI:=λσ H R=>tl σ H λx H1=>∃a,x=.ref a/\(∃xs,aX K H1 a xs)/\R (Mn K a) H1
theorem wV{l:Expr}(hl:PE X l tl):PI X tg l (Oq X.K tl):=by
 intro pins s σ H R I h;refine dv (hl pins s σ H _ I h) λv s1 bP=>?_;obtain⟨x,H1,I1,r1,q1⟩:=bP;obtain⟨a,e,⟨xs,hq⟩,q⟩:=q1;subst e;cases r1;obtain⟨aL,rv,p,hz⟩:=I1.list hq;refine acf p.isList ?_;refine⟨s1.heap.objs.size,[s1.heap.objs.size],_,_,H1,rfl,I1.kept (t':=s1.toks) λb o e=>aac _ e,yk a _,⟨_,aaj _ rfl,rfl,rfl⟩,λb hb=>?_,q⟩;have e:b=s1.heap.objs.size:=by simpa using hb
 subst e;exact I1.Cv (aah _) (I1.du.fresh (aah _))
theorem A8{l:Expr}(hl:PE X l tl):PI X tg l (SU X.K tl):=by
 intro pins s σ H R I h;refine dv (hl pins s σ H _ I h) λv s1 bP=>?_;obtain⟨x,H1,I1,r1,q1⟩:=bP;obtain⟨a,e,⟨xs,hq⟩,q⟩:=q1;subst e;cases r1;obtain⟨aL,rv,p,hz⟩:=I1.tuple hq;refine wpAny_pyIter_tuple (show s1.heap.IsTuple a aL.toArray from p) ?_;refine⟨s1.heap.objs.size,[s1.heap.objs.size],_,_,H1,rfl,I1.kept (t':=s1.toks) λb o e=>aac _ e,uQ a _,⟨_,aaj _ rfl,rfl,rfl⟩,λb hb=>?_,q⟩;have e:b=s1.heap.objs.size:=by simpa using hb
 subst e;exact I1.Cv (aah _) (I1.du.fresh (aah _))
theorem AY{pins:ak}{s:Shared}{R:It->Hp->Prop}{E:az}{hi:Int}{t u v:Tok}{tk:Nat}(I:Inv X pins σ H s)(h1:-(2 ^ 62)<=lo)(h2:lo<2 ^ 62)(h3:-(2 ^ 62)<=hi)(h4:hi<2 ^ 62)
  (q:R (zP lo (hi - lo).toNat) H):wpAny (model X.prog X.w) X.A (pyIter (.ref s.heap.objs.size)) (DB X pins σ tg R) E { s with heap:=s.heap.push { cls:=.type "range",data:=.fields #[.int lo t,.int hi u,.int 1 v] },toks:=tk }:=by
 refine wpAny_pyIter_range (IsRange.new ..) (small_one h1 h2 h3 h4) ?_;have I1:Inv X pins σ H { s with heap:=s.heap.push { cls:=.type "range",data:=.fields #[.int lo t,.int hi u,.int 1 v] },toks:=tk }:=I.kept λb o e=>aac _ e;refine⟨(s.heap.push { cls:=.type "range",data:=.fields #[.int lo t,.int hi u,.int 1 v] }).objs.size,[(s.heap.push { cls:=.type "range",data:=.fields #[.int lo t,.int hi u,.int 1 v] }).objs.size],_,_,H,rfl,
  I1.kept (t':=tk) λb o e=>aac _ e,uR _ lo (hi - lo).toNat,?_,λb hb=>?_,q⟩
 ·have e1:lo+((0:Nat):Int)*1=lo:=by simp
  have e2:(((hi - lo).toNat:Nat):Int) - ((0:Nat):Int)=Builtin.Range.rangeSize lo hi 1:=by rw[rangeSize_one];split<;>left
  show IsRangeIter _ _ (lo+((0:Nat):Int)*1) ((((hi - lo).toNat:Nat):Int) - ((0:Nat):Int)) 1;rw[e1,e2];exact aaj _ rfl
 ·have e:b=(s.heap.push { cls:=.type "range",data:=.fields #[.int lo t,.int hi u,.int 1 v] }).objs.size:=by simpa using hb
  subst e;exact I1.Cv (aah _) (I1.du.fresh (aah _))
def Oo(ta:TA):TI:=λσ H R=>ta σ H λvs H1=>∃j:Int,vs=[.int j] /\ -(2 ^ 62)<=j/\j<2 ^ 62/\R (zP 0 j.toNat) H1
theorem pf{a:Expr}{ta:TA}{p:Pos}(hg:Gl X "range")(hm:X.mg "range" = none)(ha:PA X [a] ta)(hs:starEach [a] X.env=[(false,eval a X.env)]:=by rfl):PI X tg (.Call (.Name "range" p) [a] [] pos) (Oo ta):=by
 intro pins s σ H R I h;refine Call_ (dW I hg hm boot_range (aat (dv (ha pos pins s σ H _ I h) λus s1 bP=>?_) hs rfl));obtain⟨vs,H1,I1,r1,q1⟩:=bP;obtain⟨j,e,q1,q2,q⟩:=q1;subst e;cases r1 with
 |cons r rr =>
  cases rr;obtain⟨t,rfl⟩:=r;exact call_range_1 (AY I1 (by left) (by left) q1 q2 (by simpa using q))
noncomputable def RE(wi:TI)(g:TG)(tb:TS):TS:=λD σ H=>wi σ H λJ H1=>∃W:Nat->Nat->St->Hp->Prop,(∃m,W 0 m σ H1)/\∀i m σ H,W i m σ H ->
 (J.stop i H/\D.nx σ H)\/(J.go i H/\∃N:St->Hp->Prop,(∀σ' H',N σ' H'->∃m',m'<m/\W (i+1) m' σ' H')/\∀x H',J.uD i H x H'->g x σ H' λσ2 H2=>tb { D with nx:=N,ct:=N,bk:=D.nx } σ2 H2)
noncomputable def iG(fp:aZ)(h:Heap):ak:=fp.filterMap λb=>(h.get? b).map λo=>(b,o)
theorem gR{b:Addr}{o:Obj}(hb:b∈fp)(e:h.get? b=some o):(b,o)∈iG fp h:=List.mem_filterMap.mpr ⟨b,hb,by rw[e];rfl⟩
theorem pk{p:Addr×Obj}(hp:p∈iG fp h):p.1∈fp/\h.get? p.1=some p.2:=by
 obtain⟨b,hb,e⟩:=List.mem_filterMap.mp hp;cases q:h.get? b with
 |none=>rw[q]at e;cases e
 |some o =>
  rw[q]at e;have e':(b,o)=p:=aas e;subst e';exact⟨hb,q⟩
theorem Inv.pinned{pins:ak}{s:Shared}(I:Inv X pins σ H s)(hf:∀b∈fp,oj X pins H b)(ho:∀b∈fp,∃o,s.heap.get? b=some o/\∀v,o.data≠.cell v):Inv X (pins++iG fp s.heap) σ H s :=
 I.ja λp hp=>(List.mem_append.mp hp).elim (λz=>I.pin p (aal _ z)) λz=>by
  obtain⟨hb,e⟩:=pk z;obtain⟨f0,f1,f2,_⟩:=hf p.1 hb;obtain⟨o,e',d⟩:=ho p.1 hb;rw[e]at e';cases e';exact⟨e,f0,f1,f2,d⟩
theorem Inv.j3{pins pl:ak}{s:Shared}(I:Inv X (pins++pl) σ H s):Inv X pins σ H s:=I.ja λp hp=>I.pin p (aal _ (aaD _ hp))
theorem qq{iter:Expr}{body:aS}{wi:TI}{g:TG}{tb:TS}(hp:PassesOwn (model X.prog X.w) X.A X.env X.xe)(hc:X.calm=true)(hi:PI X tg iter wi)(hg:PG X tg g)(hb:mA X body tb)
  (hs:∀x,foldedSetIterable iter X.env x=pure x:=by intro _;rfl):PS X (.For tg iter body [] pos) (RE wi g tb):=by
 intro pins s σ H D I h;refine wpAny_For (dv (hi pins s σ H _ I h) λv s1 h1=>dv h1 λSH s2 h2=>?_) hs;obtain⟨it,fp,tn,J,H2,e,I2,T,MT,f2,W,⟨m0,w0⟩,turn⟩:=h2;subst e;have IE:∀{H':Hp},(∀b∈fp,H' b=none)->∀b∈fp,oj X pins H' b:=λhn b hb=>⟨hn b hb,(f2 b hb).2⟩
 refine codeAny_forLoop_any (λn s'=>∃i σ' H',Inv X pins σ' H' s'/\tn i s'.heap/\(∀b∈fp,H' b=none)/\W i n σ' H') ?_ m0 ⟨0,σ,H2,I2,MT,λb hb=>(f2 b hb).1,w0⟩;rintro n s3 ⟨i,σ3,H3,I3,st3,fr3,w3⟩;rcases turn i n σ3 H3 w3 with ⟨stop,qn⟩|⟨go,N,hN,step⟩
 ·refine aaY hp (dv (T.done X rfl rfl rfl hc i pins s3 σ3 H3 X.xe I3 (IE fr3) st3 stop) λr s4 bP=>?_);obtain⟨hr,I4⟩:=bP;subst hr;exact wpAny_execs_nil ⟨σ3,H3,I4,qn⟩
 ·refine aaY hp (dv (T.item X rfl rfl rfl hc i pins s3 σ3 H3 X.xe I3 (IE fr3) st3 go) λr s4 bP=>?_);obtain⟨u,hr,h4⟩:=bP;subst hr;refine aaY hp (dv h4 λ_ s5 bP=>?_);obtain⟨x,H5,I5,r5,y5,IH,UA⟩:=bP;have Vi:=I5.pinned (IE UA) (T.obj _ _ IH);refine aaY hp (dv (hg _ s5 σ3 H5 x u _ Vi r5 (step x H5 y5)) λ_ s6 bP=>?_);obtain⟨σ6,H6,I6,q6⟩:=bP;refine aaY hp (dv (hb _ s6 σ6 H6 _ I6 q6) λf s7 q7=>?_);have again:∀{σ7:St} {H7:Hp},Inv X (pins++iG fp s5.heap) σ7 H7 s7->N σ7 H7->∃m,m<n/\∃i σ' H',Inv X pins σ' H' s7/\tn i s7.heap/\(∀b∈fp,H' b=none)/\W i m σ' H':=λ{σ7 H7} I7 n7=>by
   obtain⟨m',hm,w7⟩:=hN σ7 H7 n7;refine⟨m',hm,i+1,σ7,H7,I7.j3,T.keep _ _ _ IH λb hb o e=>(I7.pin (b,o) (aal _ (aal _ (gR hb e)))).1,λb hb=>?_,w7⟩;obtain⟨o,e,d⟩:=T.obj _ _ IH b hb;exact(I7.pin (b,o) (aal _ (aal _ (gR hb e)))).2.1
  cases f with
  |next=>obtain⟨σ7,H7,I7,n7⟩:=q7;exact again I7 n7
  |cont=>obtain⟨σ7,H7,I7,n7⟩:=q7;exact again I7 n7
  |brk=>obtain⟨σ7,H7,I7,q7⟩:=q7;exact⟨σ7,H7,I7.j3,q7⟩
  |ret v=>obtain⟨x7,σ7,H7,I7,r7,q7⟩:=q7;exact⟨x7,σ7,H7,I7.j3,r7,q7⟩
end
variable {K:ao}{xs:af}
theorem Cw{a:Addr}{g:TG}{tb:TS}{D:Ends}(Pv:Nat->St->Hp->Prop)(h0:Pv 0 σ H)(hl:∀i σ H,i<=xs.length->Pv i σ H->dq K H a xs)
  (hs:∀i x σ H,xs[i]?=some x->Pv i σ H->g x σ H λσ2 H2=>tb { D with nx:=Pv (i+1),ct:=Pv (i+1),bk:=D.nx } σ2 H2) (hd:∀σ H,Pv xs.length σ H->D.nx σ H) :
  ∃W:Nat->Nat->St->Hp->Prop,(∃m,W 0 m σ H)/\∀i m σ H,W i m σ H ->
   ((Mo K a).stop i H/\D.nx σ H)\/((Mo K a).go i H/\∃N:St->Hp->Prop,(∀σ' H',N σ' H'->∃m',m'<m/\W (i+1) m' σ' H')/\∀x H',(Mo K a).uD i H x H'->g x σ H' λσ2 H2=>tb { D with nx:=N,ct:=N,bk:=D.nx } σ2 H2):=by
 refine⟨λi m σ H=>m=xs.length - i/\i<=xs.length/\Pv i σ H,⟨xs.length,by simp,aaH _,h0⟩,?_⟩;rintro i m σ H ⟨rfl,hi,p⟩;have q:=hl i σ H hi p;by_cases ig:i<xs.length
 ·refine .inr ⟨⟨xs,xs[i],q,by simp[ig]⟩,Pv (i+1),λσ' H' p'=>⟨xs.length - (i+1),by left,rfl,ig,p'⟩,λx H' y=>?_⟩;obtain⟨e,y⟩:=y;subst e;exact hs i x σ _ (y xs q) p
 ·have e:i=xs.length:=by left
  subst e;exact .inl ⟨⟨xs,q,aah _⟩,hd σ H p⟩
theorem F_{a:Addr}{g:TG}{tb:TS}{D:Ends}(Pv:Nat->St->Hp->Prop)(h0:Pv 0 σ H)(hl:∀i σ H,i<=xs.length->Pv i σ H->aX K H a xs)
  (hs:∀i x σ H,xs[i]?=some x->Pv i σ H->g x σ H λσ2 H2=>tb { D with nx:=Pv (i+1),ct:=Pv (i+1),bk:=D.nx } σ2 H2) (hd:∀σ H,Pv xs.length σ H->D.nx σ H) :
  ∃W:Nat->Nat->St->Hp->Prop,(∃m,W 0 m σ H)/\∀i m σ H,W i m σ H ->
   ((Mn K a).stop i H/\D.nx σ H)\/((Mn K a).go i H/\∃N:St->Hp->Prop,(∀σ' H',N σ' H'->∃m',m'<m/\W (i+1) m' σ' H')/\∀x H',(Mn K a).uD i H x H'->g x σ H' λσ2 H2=>tb { D with nx:=N,ct:=N,bk:=D.nx } σ2 H2):=by
 refine⟨λi m σ H=>m=xs.length - i/\i<=xs.length/\Pv i σ H,⟨xs.length,by simp,aaH _,h0⟩,?_⟩;rintro i m σ H ⟨rfl,hi,p⟩;have q:=hl i σ H hi p;by_cases ig:i<xs.length
 ·refine .inr ⟨⟨xs,xs[i],q,by simp[ig]⟩,Pv (i+1),λσ' H' p'=>⟨xs.length - (i+1),by left,rfl,ig,p'⟩,λx H' y=>?_⟩;obtain⟨e,y⟩:=y;subst e;exact hs i x σ _ (y xs q) p
 ·have e:i=xs.length:=by left
  subst e;exact .inl ⟨⟨xs,q,aah _⟩,hd σ H p⟩
theorem y6{n:Nat}{g:TG}{tb:TS}{D:Ends}(Pv:Nat->St->Hp->Prop)(h0:Pv 0 σ H)
  (hs:∀i σ H,i<n->Pv i σ H->g (.int (lo+i)) σ H λσ2 H2=>tb { D with nx:=Pv (i+1),ct:=Pv (i+1),bk:=D.nx } σ2 H2) (hd:∀σ H,Pv n σ H->D.nx σ H) :
  ∃W:Nat->Nat->St->Hp->Prop,(∃m,W 0 m σ H)/\∀i m σ H,W i m σ H ->
   ((zP lo n).stop i H/\D.nx σ H)\/((zP lo n).go i H/\∃N:St->Hp->Prop,(∀σ' H',N σ' H'->∃m',m'<m/\W (i+1) m' σ' H')/\∀x H',(zP lo n).uD i H x H'->g x σ H' λσ2 H2=>tb { D with nx:=N,ct:=N,bk:=D.nx } σ2 H2):=by
 refine⟨λi m σ H=>m=n - i/\i<=n/\Pv i σ H,⟨n,by simp,aaH _,h0⟩,?_⟩;rintro i m σ H ⟨rfl,hi,p⟩;by_cases ig:i<n
 ·refine .inr ⟨ig,Pv (i+1),λσ' H' p'=>⟨n - (i+1),by left,rfl,ig,p'⟩,λx H' y=>?_⟩;obtain⟨e,y⟩:=y;subst e y;exact hs i σ _ ig p
 ·have e:i=n:=by left
  subst e;exact .inl ⟨aah _,hd σ H p⟩
end L2
namespace L2
open PySem PySem.Spec PyProof.Rows
noncomputable abbrev R2:=V->V->Hp->VK->Prop
def kD(X:Cx)(f:Value->Value->Sem Value)(r:R2):Prop :=
 ∀(pins:ak) (s:Shared) (σ:St) (H:Hp) (x y:V) (v u:Value) (Q:VK),Inv X pins σ H s->RelV x v->RelV y u->r x y H Q ->
  wpAny (model X.prog X.w) X.A (f v u) (EP X pins σ Q) X.xe s
def Vd(X:Cx)(f:Value->Sem Value)(r:V->Hp->VK->Prop):Prop :=
 ∀(pins:ak) (s:Shared) (σ:St) (H:Hp) (x:V) (v:Value) (Q:VK),Inv X pins σ H s->RelV x v->r x H Q ->
  wpAny (model X.prog X.w) X.A (f v) (EP X pins σ Q) X.xe s
def gI(X:Cx)(f:Value)(r:af->Hp->VK->Prop):Prop :=
 ∀(pins:ak) (s:Shared) (σ:St) (H:Hp) (xs:af) (us:aq) (Q:VK),Inv X pins σ H s->Vals xs us->r xs H Q ->
  wpAny (model X.prog X.w) X.A (call f us) (EP X pins σ Q) X.xe s
noncomputable def Ei(r:R2)(ta tb:TE):TE:=λσ H Q=>ta σ H λx H1=>tb σ H1 λy H2=>r x y H2 Q
noncomputable def Xl(r:V->Hp->VK->Prop)(ta:TE):TE:=λσ H Q=>ta σ H λx H1=>r x H1 Q
noncomputable def rI(C:Int->Int->Prop)(g:Int->Int->V):R2:=λx y H Q=>∃i j,x=.int i/\y=.int j/\C i j/\Q (g i j) H
noncomputable def AZ(g:Int->Int->V):R2:=λx y H Q=>∃i j,x=.int i/\y=.int j/\Q (g i j) H
noncomputable def rU(g:Int->V):V->Hp->VK->Prop:=λx H Q=>∃i,x=.int i/\Q (g i) H
variable {H:Hp}{σ:L2.St}
section
variable {X:Cx}{a b c:Expr}{ta tb tc:TE}{pos:Pos}
theorem Lx(ha:PE X a ta)(hb:PE X b tb){pins:ak}{s:Shared}{R:V->V->Hp->Prop}(I:Inv X pins σ H s)
  (h:ta σ H λx H1=>tb σ H1 λy H2=>R x y H2) {Q:az} {f:Value->Value->Sem Value}
  (hf:∀v u s2 x y H2,Inv X pins σ H2 s2->RelV x v->RelV y u->R x y H2->wpAny (model X.prog X.w) X.A (f v u) Q X.xe s2) :
  wpAny (model X.prog X.w) X.A (eval a X.env) (λv s₁=>wpAny (model X.prog X.w) X.A (eval b X.env) (λu s₂=>wpAny (model X.prog X.w) X.A (f v u) Q X.xe s₂) X.xe s₁) X.xe s:=by
 refine dv (ha pins s σ H _ I h) λv s1 bP=>?_;obtain⟨x,H1,I1,r1,q1⟩:=bP;refine dv (hb pins s1 σ H1 _ I1 q1) λu s2 bP=>?_;obtain⟨y,H2,I2,r2,q2⟩:=bP;exact hf v u s2 x y H2 I2 r1 r2 q2
theorem Ho{op:Operator}{r:R2}(ho:kD X (binaryOp op) r)(ha:PE X a ta)(hb:PE X b tb):PE X (.BinOp a op b pos) (Ei r ta tb):=by
 intro pins s σ H Q I h;exact wpAny_BinOp (Lx ha hb I h λv u s2 x y H2 I2 rx ry q=>ho pins s2 σ H2 x y v u Q I2 rx ry q)
theorem Ny{op:UnaryOp}{r:V->Hp->VK->Prop}(ho:Vd X (unaryOp op) r)(ha:PE X a ta):PE X (.UnaryOp op a pos) (Xl r ta):=by
 intro pins s σ H Q I h;exact UnaryOp_ (dv (ha pins s σ H _ I h) λv s1 ⟨x,H1,I1,r1,q1⟩=>ho pins s1 σ H1 x v Q I1 r1 q1)
theorem NM{f:Value->Value->Sem Value}{C:Int->Int->Prop}{g:Int->Int->Int}
  (rule:∀(i j:Int) (t u:Tok) (s:Shared) (Q:az) (E:az),C i j->Q (.int (g i j) s.toks) { s with toks:=s.toks+1 }->wpAny (model X.prog X.w) X.A (f (.int i t) (.int j u)) Q E s) :
  kD X f (rI C λi j=>.int (g i j)):=by
 intro pins s σ H x y v u Q I rx ry h;obtain⟨i,j,rfl,rfl,hc,q⟩:=h;obtain⟨t,rfl⟩:=rx;obtain⟨t',rfl⟩:=ry;exact rule i j t t' s _ _ hc ⟨.int (g i j),H,I.tok _,⟨_,rfl⟩,q⟩
theorem Sj{f:Value->Value->Sem Value}{g:Int->Int->Int}
  (rule:∀(i j:Int) (t u:Tok) (s:Shared) (Q:az) (E:az),Q (.int (g i j) s.toks) { s with toks:=s.toks+1 }->wpAny (model X.prog X.w) X.A (f (.int i t) (.int j u)) Q E s) :
  kD X f (AZ λi j=>.int (g i j)):=by
 intro pins s σ H x y v u Q I rx ry h;obtain⟨i,j,rfl,rfl,q⟩:=h;obtain⟨t,rfl⟩:=rx;obtain⟨t',rfl⟩:=ry;exact rule i j t t' s _ _ ⟨.int (g i j),H,I.tok _,⟨_,rfl⟩,q⟩
theorem Fm{f:Value->Value->Sem Value}{g:Int->Int->Bool}
  (rule:∀(i j:Int) (t u:Tok) (s:Shared) (Q:az) (E:az),Q (.bool (g i j)) s->wpAny (model X.prog X.w) X.A (f (.int i t) (.int j u)) Q E s) :
  kD X f (AZ λi j=>.bl (g i j)):=by
 intro pins s σ H x y v u Q I rx ry h;obtain⟨i,j,rfl,rfl,q⟩:=h;obtain⟨t,rfl⟩:=rx;obtain⟨t',rfl⟩:=ry;exact rule i j t t' s _ _ ⟨.bl (g i j),H,I,rfl,q⟩
theorem JM:kD X (binaryOp .Add) (AZ λi j=>.int (i+j)):=Sj λ_ _ _ _ _ _ _ q=>add_int q
theorem Fh:kD X (binaryOp .Mod) (rI (λ_ j=>j≠0) λi j=>.int (i.fmod j)):=NM λ_ _ _ _ _ _ _ hc q=>mod_int' hc q
theorem Xj{f:Value->Sem Value}{g:Int->Int}
  (rule:∀(i:Int) (t:Tok) (s:Shared) (Q:az) (E:az),Q (.int (g i) s.toks) { s with toks:=s.toks+1 }->wpAny (model X.prog X.w) X.A (f (.int i t)) Q E s) :
  Vd X f (rU λi=>.int (g i)):=by
 intro pins s σ H x v Q I rx h;obtain⟨i,rfl,q⟩:=h;obtain⟨t,rfl⟩:=rx;exact rule i t s _ _ ⟨.int (g i),H,I.tok _,⟨_,rfl⟩,q⟩
theorem Iv:Vd X (unaryOp .USub) (rU λi=>.int (-i)):=Xj λ_ _ _ _ _ q=>neg_int q
end
variable {us:aq}
section
variable {X:Cx}{a b c:Expr}{ta tb tc:TE}{pos:Pos}
theorem Cz{pins:ak}{s:Shared}{Q:VK}{k k':Bool}(I:Inv X pins σ H s)(q:Q (.bl k) H)(e:k=k'):EP X pins σ Q (.bool k') s:=by
 subst e;exact⟨.bl k,H,I,rfl,q⟩
theorem NI:kD X (compareOp .Lt) (AZ λi j=>.bl (decide (i<j))):=Fm λ_ _ _ _ _ _ _ q=>lt_int q
theorem NJ:kD X (compareOp .LtE) (AZ λi j=>.bl (decide (i<=j))):=Fm λ_ _ _ _ _ _ _ q=>le_int q
theorem NK:kD X (compareOp .Gt) (AZ λi j=>.bl (decide (j<i))):=Fm λ_ _ _ _ _ _ _ q=>gt_int q
theorem NL:kD X (compareOp .GtE) (AZ λi j=>.bl (decide (j<=i))):=Fm λ_ _ _ _ _ _ _ q=>ge_int q
theorem JJ:kD X (compareOp .Is) (λx y H Q=>y=.bF/\Q (.bl (decide (x=.bF))) H):=by
 intro pins s σ H x y v u Q I rx ry h;obtain⟨rfl,q⟩:=h;cases ry;refine is_none_gen (Cz I q ?_);cases x<;>first
  | (cases rx;rfl)
  | (obtain⟨t,rfl⟩:=rx;rfl)
theorem Fg:kD X (compareOp .IsNot) (λx y H Q=>y=.bF/\Q (.bl (!decide (x=.bF))) H):=by
 intro pins s σ H x y v u Q I rx ry h;obtain⟨rfl,q⟩:=h;cases ry;refine isnot_none_gen (Cz I q ?_);cases x<;>first
  | (cases rx;rfl)
  | (obtain⟨t,rfl⟩:=rx;rfl)
theorem kD.or{f:Value->Value->Sem Value}{r r':R2}(h:kD X f r)(h':kD X f r'):kD X f (λx y H Q=>r x y H Q\/r' x y H Q):=by
 intro pins s σ H x y v u Q I rx ry q;rcases q with q|q
 ·exact h pins s σ H x y v u Q I rx ry q
 ·exact h' pins s σ H x y v u Q I rx ry q
theorem qz(b:Expr){op:CmpOp}(h:op≠.In:=by decide)(h2:op≠.NotIn:=by decide):behindInMarks op b=false:=by
 have e1:(op==CmpOp.In)=false:=by cases op<;>first|rfl|exact absurd rfl h
 have e2:(op==CmpOp.NotIn)=false:=by cases op<;>first|rfl|exact absurd rfl h2
 cases b<;>simp[behindInMarks,e1,e2]
theorem qv{op:CmpOp}{r:R2}(ho:kD X (compareOp op) r)(ha:PE X a ta)(hb:PE X b tb)(hm:behindInMarks op b=false):PE X (.Compare a [op] [b] pos) (Ei r ta tb):=by
 intro pins s σ H Q I h;exact wpAny_Compare1 (Lx ha hb I h λv u s2 x y H2 I2 rx ry q=>ho pins s2 σ H2 x y v u Q I2 rx ry q) hm
noncomputable def Hb(t:TE):TT:=λσ H Q=>t σ H λx H'=>∃k,x=.bl k/\Q k H'
theorem qp{op:CmpOp}{r:R2}(ho:kD X (compareOp op) r)(ha:PE X a ta)(hb:PE X b tb)(hm:behindInMarks op b=false):PT X (.Compare a [op] [b] pos) (Hb (Ei r ta tb)):=by
 intro pins s σ H Q I h;refine wpAny_isTrue_Compare1 (dv (ha pins s σ H _ I h) λv s1 ⟨x,H1,I1,r1,q1⟩=>dv (hb pins s1 σ H1 _ I1 q1) λu s2 ⟨y,H2,I2,r2,q2⟩ =>
  dv (ho pins s2 σ H2 x y v u _ I2 r1 r2 q2) λc s3 ⟨z,H3,I3,r3,k,e,q3⟩=>?_) hm
 subst e;cases r3;exact aaT ⟨H3,I3,q3⟩
theorem qG:(sizeLine:Nat)<2 ^ 63:=by rw[sizeLine_eq];decide
theorem vals1{x:V}(r:Vals [x] us):∃u,us=[u]/\RelV x u:=by
 cases r with
 |cons r1 r2=>cases r2;exact⟨_,rfl,r1⟩
theorem vals2{x y:V}(r:Vals [x,y] us):∃u w',us=[u,w']/\RelV x u/\RelV y w':=by
 cases r with
 |cons r1 r2 =>
  cases r2 with
  |cons r3 r4=>cases r4;exact⟨_,_,rfl,r1,r3⟩
theorem Di:gI X (.builtin "abs") (λxs H Q=>∃i,xs=[.int i]/\Q (.int (if i<0 then -i else i)) H):=by
 intro pins s σ H xs us Q I r h;obtain⟨i,rfl,q⟩:=h;obtain⟨u,rfl,t,rfl⟩:=vals1 r;exact call_abs_int λu tk=>⟨.int (if i<0 then -i else i),H,I.tok _,⟨_,rfl⟩,q⟩
theorem zj(hc:X.calm=true):gI X (.builtin "min") (λxs H Q=>∃i j,xs=[.int i,.int j]/\Q (.int (if j<i then j else i)) H):=by
 intro pins s σ H xs us Q I r h;obtain⟨i,j,rfl,q⟩:=h;obtain⟨u,w',rfl,⟨t,rfl⟩,⟨t',rfl⟩⟩:=vals2 r;refine min_two_ints (I.ok.hd hc) λh' tk k=>⟨_,H,I.kept k,?_,q⟩
 by_cases hj:j<i
 ·rw[if_pos hj,if_pos hj];exact⟨_,rfl⟩
 ·rw[if_neg hj,if_neg hj];exact⟨_,rfl⟩
end
end L2
namespace L2
open PySem PySem.Spec PyProof.Rows
theorem rP.some_of{v:V}{o:Option Value}(r:rP (some v) o):∃u,o=some u/\RelV v u:=by
 cases o with
 |none=>exact(show False from r).elim
 |some u=>exact⟨u,rfl,r⟩
theorem rP.none_of{o:Option Value}(r:rP none o):o=none:=by
 cases o with
 |none=>rfl
 |some u=>exact(show False from r).elim
end L2
namespace L2
open PySem PySem.Spec PyProof.Rows
structure gm(k:Nat)(A:aG):Prop where
 hd:A.handled=none
 dp:A.depth+3*k+5<recursionLimit
 un:A.units+16*k+200<cLine
 gd:A.guards=some []
variable {A:aG}
theorem gm.mono{j k:Nat}(r:gm k A)(h:j<=k):gm j A:=⟨r.hd,by have:=r.dp;left,by have:=r.un;left,r.gd⟩
theorem gm.deeper{k:Nat}{A:aG}(r:gm (k+1) A)(env:Env):gm k (A.deeper env) :=
 ⟨r.hd,by have:=r.dp;show A.depth+1+3*k+5<_;left,by have:=r.un;show A.units+3+16*k+200<_;left,r.gd⟩
theorem gm.depth{k:Nat}{A:aG}(r:gm k A):A.depth<recursionLimit:=by have:=r.dp;left
theorem gm.units{k:Nat}{A:aG}(r:gm k A):A.units+64<cLine:=by have:=r.un;left
noncomputable def ML:TA:=λ_ H Q=>Q [] H
noncomputable def Hc(ta:TE)(tr:TA):TA:=λσ H Q=>ta σ H λx H1=>tr σ H1 λxs H2=>Q (x::xs) H2
section
variable {X:Cx}{e:Expr}{es:aj}{te:TE}{t:TA}{pos:Pos}
theorem gg:PA X [] ML:=λ_ _ _ _ H Q I h=>abi ⟨[],H,I,.nil,h⟩
theorem dx(ha:PE X e te)(hr:PA X es t)(hs:starEach (e::es) X.env=(false,eval e X.env)::starEach es X.env:=by rfl):PA X (e::es) (Hc te t):=by
 intro pos pins s σ H Q I h;rw[hs];show wpAny _ _ (spliced ((false,eval e X.env)::backTo pos (starEach es X.env))) _ _ s;refine aba (dv (ha pins s σ H _ I h) λu s1 bP=>?_);obtain⟨x,H1,I1,r1,q1⟩:=bP;exact dv (hr pos pins s1 σ H1 _ I1 q1) λus s2 ⟨xs,H2,I2,r2,q2⟩=>⟨x::xs,H2,I2,.cons r1 r2,q2⟩
def Rx(t:TA):TE:=λσ H Q=>t σ H λxs H1=>xs.length<=sizeLine/\∀p,H1 p=none->Q (.ref p) (upd H1 p (.tup xs))
def RC(t:TA):TE:=λσ H Q=>t σ H λxs H1=>xs.length<=sizeLine/\∀p,H1 p=none->Q (.ref p) (upd H1 p (.lst xs))
theorem Jx{x1}(h:PA X es t):PE X (.Tuple es x1 pos) (Rx t):=by
 intro pins s σ H Q I hq;refine wpAny_Tuple_spliced (dv (h pos pins s σ H _ I hq) λus s1 ⟨xs,H1,I1,r,z,q⟩=>⟨by rw[<- r.length];exact z,?_⟩);have hf:H1 s1.heap.objs.size=none:=I1.du.fresh (aah _);refine⟨.ref s1.heap.objs.size,upd H1 s1.heap.objs.size (.tup xs),I1.laid (t':=s1.toks) (λb u e=>aac _ e) (aah _) ?_,rfl,q _ hf⟩;exact⟨z,us,r,⟨_,aaj _ rfl,rfl,_,rfl⟩⟩
theorem JC(h:PA X es t):PE X (.List es pos) (RC t):=by
 intro pins s σ H Q I hq;refine wpAny_List_spliced (dv (h pos pins s σ H _ I hq) λus s1 ⟨xs,H1,I1,r,z,q⟩=>⟨by rw[<- r.length];exact z,?_⟩);have hf:H1 s1.heap.objs.size=none:=I1.du.fresh (aah _);refine⟨.ref s1.heap.objs.size,upd H1 s1.heap.objs.size (.lst xs),I1.laid (t':=s1.toks) (λb u e=>aac _ e) (aah _) ?_,rfl,q _ hf⟩;exact⟨z,us,0,r,aaj _ rfl⟩
end
noncomputable abbrev Sp:=af->Hp->VK->XK->Prop
noncomputable abbrev DE:=List Env->Hp->Shared->XK->az
structure G4(P:aF)(w:World)(K:ao)(mg:bc)(base:Heap)(A:aG)(outer:List Env)(s:Shared)(H:Hp):Prop where
 frames:A.frames=some outer
 mod:Mod K mg base
 bs:∀b o,base.get? b=some o->s.heap.get? b=some o/\H b=none
 HJ:base.objs.size<=s.heap.objs.size
 lX:s.heap.FunFrames base outer
 Md:∀b∈zL outer,H b=none
 du:k8 H s.heap
 bare:AllBare s.gens
def CE(outer:List Env)(P:aF)(w:World)(H:Hp)(s:Shared)(Q:VK)(u:Value)(s':Shared):Prop :=
 ∃v H',s'.os=s.os/\AllBare s'.gens/\Un (zL outer) [] H H' s.heap s'.heap/\k8 H' s'.heap/\RelV v u/\Q v H'
noncomputable def CR(CX:DE)(outer:List Env)(P:aF)(w:World)(H:Hp)(s:Shared)(Q:VK)(E:XK)(r:Result)(s':Shared):Prop :=
 match r with
 |.ok (.ret u)=>CE outer P w H s Q u s'
 |.ok _=>False
 |.error e=>CX outer H s E e s'
structure jn(P:aF)(w:World)(K:ao)(mg:bc)(base:Heap)(CX:DE)(k:Nat)(f:Addr)(fd:FuncData)(ps:ai)(sp:Sp):Prop where
 len:∀vs H Q E,sp vs H Q E->vs.length=ps.length
 run:∀(A:aG) (outer:List Env) (s:Shared) (H:Hp) (args:Args) (us:aq) (vs:af) (Q:VK) (E:XK),gm k A->G4 P w K mg base A outer s H->BindsTo s fd args (ps.zip us)->Vals vs us->sp vs H Q E ->
  codeAny (model P w) A (.call (.ref f) args) (CR CX outer P w H s Q E) s
theorem jn.mono{P:aF}{w:World}{K:ao}{mg:bc}{base:Heap}{CX:DE}{j k:Nat}{f:Addr}{fd:FuncData}{ps:ai}{sp:Sp}(F:jn P w K mg base CX j f fd ps sp)(h:j<=k):
  jn P w K mg base CX k f fd ps sp:=⟨F.len,λA outer s H args us vs Q E hr=>F.run A outer s H args us vs Q E (hr.mono h)⟩
variable {Q:VK}
section
variable {X:Cx}{pins:ak}{σ:St}{H:Hp}{s s':Shared}
theorem Inv.UM(I:Inv X pins σ H s):G4 X.prog X.w X.K X.mg X.base X.A X.stack s H :=
 ⟨I.ok.frames,I.ok.mod,I.bs,aao I.ok.HJ I.sz,I.stack,I.wy,I.du,I.bare⟩
theorem Inv.after{u:Value}(I:Inv X pins σ H s)(h:CE X.stack X.prog X.w H s Q u s'):EP X pins σ Q u s':=by
 obtain⟨v,H',os,bare,un,du,r,q⟩:=h;obtain⟨hh,g,d,t,NH⟩:=s';obtain rfl:NH=s.os:=os;exact⟨v,H',I.call (h':=hh) (g':=g) (d':=d) (t':=t) (ch:=[]) un du bare (λb z=>absurd z (by simp)),r,q⟩
end
noncomputable def MO(sp:Sp)(fN:af)(E:XK)(t:TA):TE:=λσ H Q=>t σ H λvs H1=>sp (vs++fN) H1 Q E
noncomputable def Binds(K:ao)(fd:FuncData)(ps:ai)(ds:aq):Prop :=
 ∀(s:Shared) (us:aq),K.In s.heap->(us++ds).length=ps.length->BindsTo s fd ⟨us,[]⟩ (ps.zip (us++ds))
variable {K:ao}{N ps:ai}
theorem Binds.all{fd:FuncData}(h:∀us:aq,us.length=ps.length->bindArgs fd ⟨us,[]⟩=pure (ps.zip us)):Binds K fd ps []:=λs us _ hl=>by
 rw[List.append_nil]at hl ⊢;exact .of_eq (h us hl)
def Passes(CX:DE)(X:Cx)(E:XK):Prop:=∀(pins:ak) (σ:St) (H:Hp) (s:Shared) (e:Value) (s':Shared),Inv X pins σ H s->CX X.stack H s E e s'->X.xe e s'
variable {H:Hp}{us:aq}{vs:af}
section
variable {X:Cx}{CX:DE}{k:Nat}{f C:Addr}{fd:FuncData}{ps:ai}{sp:Sp}{fN:af}{ds:aq}{E:XK}{x m:Str}{p pos apos:Pos}{e o:Expr}{es:aj}{ta:TE}{t:TA}
theorem Jj{pins:ak}{σ:St}{s:Shared}(F:jn X.prog X.w X.K X.mg X.base CX k f fd ps sp)(hr:gm k X.A)(hb:Binds X.K fd ps ds)(hd:Vals fN ds)(hx:Passes CX X E)
  (I:Inv X pins σ H s) (r:Vals vs us) (h:sp (vs++fN) H Q E):wpAny (model X.prog X.w) X.A (call (.ref f) us) (EP X pins σ Q) X.xe s:=by
 have r2:Vals (vs++fN) (us++ds):=r.append hd;have hl:(us++ds).length=ps.length:=by rw[<- r2.length];exact F.len _ _ _ _ h
 refine wpAny_call (abk (F.run X.A X.stack s H ⟨us,[]⟩ (us++ds) (vs++fN) Q E hr I.UM (hb s us I.BK hl) r2 h) λr s' hq=>?_);cases r with
 |error e=>exact hx pins σ H s e s' I hq
 |ok fl =>
  cases fl with
  |ret u=>exact I.after hq
  |next=>exact False.elim hq
  |brk=>exact False.elim hq
  |cont=>exact False.elim hq
theorem Fb(F:jn X.prog X.w X.K X.mg X.base CX k f fd ps sp)(hr:gm k X.A)(hg:Gl X x)(hm:X.mg x=some (.ref f))(hk:PySem.W.keepIn X.K (.ref f)=true)(hb:Binds X.K fd ps ds)(hd:Vals fN ds)(hx:Passes CX X E)
  (ha:PA X (e::es) t) (O0:(x==("__debug__" : Str))=false:=by decide) (he:starEach (e::es) X.env=(false,eval e X.env)::starEach es X.env:=by rfl) (hpl:(backTo pos (starEach es X.env)).any (·.1)=false:=by rfl) :
  PE X (.Call (.Name x p) (e::es) [] pos) (MO sp fN E t):=by
 intro pins s σ H Q I h;refine aaK (xf I hg hm ?_ O0);refine PySem.W.callWith_K (h₀:=X.base) I.ok.mod.SA hk (dv (ha pos pins s σ H _ I h) λus s1 ⟨vs,H1,I1,r,q⟩=>⟨I1.BK,?_⟩) he hpl;exact Jj F hr hb hd hx I1 r q
end
structure jh(N P:ai)(sc:Scope):Prop where
 kind:sc.kind=.function
 co:sc.isCoroutine=false
 gen:sc.isGenerator=false
 nd:N.Nodup
 pre:N.take P.length=P
 par:∀x∈P,sc.names.lookup x=some .local\/sc.names.lookup x=some .cell
 JQ:∀y∈sc.names,y.2≠.free
theorem pV{kindOf:Str->Option NameKind}{x:Str}:∀{binds:List (Str×Value)} {m:bc},(∀v,(x,v)∉binds)->bindL kindOf binds m x=m x
 |[],_,_=>rfl
 | (n,v)::r,m,h=>by
  unfold bindL;rw[pV λw hw=>h w (List.mem_cons_of_mem _ hw)];split
  ·have:x≠n:=by rintro rfl;exact h v aae
   simp[this]
  ·rfl
theorem pY{kindOf:Str->Option NameKind}{x:Str}:∀{binds:List (Str×Value)} {m:bc},(∀v,(x,v)∉binds)->bindC kindOf binds m x=m x
 |[],_,_=>rfl
 | (n,v)::r,m,h=>by
  unfold bindC;rw[pY λw hw=>h w (List.mem_cons_of_mem _ hw)];split
  ·rfl
  ·have:x≠n:=by rintro rfl;exact h v aae
   simp[this]
theorem pW{kindOf:Str->Option NameKind}{x:Str}{v:Value}:∀{P:ai} {vs:aq} {i:Nat} {m:bc},P.Nodup->P[i]?=some x->vs[i]?=some v->kindOf x=some .local ->
  bindL kindOf (P.zip vs) m x=some v
 |[],_,_,_,_,h,_,_=>by simp at h
 |_::_,[],_,_,_,_,h,_=>by simp at h
 |p::P,w::vs,0,m,nd,h1,h2,hk=>by
  simp at h1 h2;subst h1;subst h2;show bindL kindOf ((p,w)::P.zip vs) m p=_;unfold bindL;rw[pV λv hv=>(List.nodup_cons.mp nd).1 (List.of_mem_zip hv).1,if_pos hk];simp
 |p::P,w::vs,i+1,m,nd,h1,h2,hk=>by
  show bindL kindOf ((p,w)::P.zip vs) m x=_;unfold bindL;exact pW (i:=i) (List.nodup_cons.mp nd).2 (by simpa using h1) (by simpa using h2) hk
theorem pZ{kindOf:Str->Option NameKind}{x:Str}{v:Value}:∀{P:ai} {vs:aq} {i:Nat} {m:bc},P.Nodup->P[i]?=some x->vs[i]?=some v->kindOf x≠some .local ->
  bindC kindOf (P.zip vs) m x=some v
 |[],_,_,_,_,h,_,_=>by simp at h
 |_::_,[],_,_,_,_,h,_=>by simp at h
 |p::P,w::vs,0,m,nd,h1,h2,hk=>by
  simp at h1 h2;subst h1;subst h2;show bindC kindOf ((p,w)::P.zip vs) m p=_;unfold bindC;rw[pY λv hv=>(List.nodup_cons.mp nd).1 (List.of_mem_zip hv).1,if_neg hk];simp
 |p::P,w::vs,i+1,m,nd,h1,h2,hk=>by
  show bindC kindOf ((p,w)::P.zip vs) m x=_;unfold bindC;exact pZ (i:=i) (List.nodup_cons.mp nd).2 (by simpa using h1) (by simpa using h2) hk
noncomputable def start(N:ai)(vs:af):St:=vs.map some++List.replicate (N.length - vs.length) none
noncomputable def vL(CX:DE)(P:aF)(w:World)(K:ao)(mg:bc)(base:Heap)(N:ai)(qual:Str)(scope:Scope)(f:Addr)(cd:Value)(A:aG)(outer:List Env)(s:Shared)(H:Hp)(E:XK):Cx where
 prog:=P
 w:=w
 K:=K
 mg:=mg
 base:=base
 A:=A.deeper (envOfC qual scope s.heap.objs.size f cd)
 N:=N
 s₀:=s
 H₀:=H
 env:=envOfC qual scope s.heap.objs.size f cd
 outer:=outer
 stack:=envOfC qual scope s.heap.objs.size f cd::outer
 ex:=[]
 calm:=true
 fn:=λ_=>true
 pn:=[]
 xe:=λe s'=>wpAny (model P w) (A.deeper (envOfC qual scope s.heap.objs.size f cd)) (leaving (envOfC qual scope s.heap.objs.size f cd) e) (λ_ RW=>CX outer H s E e RW) (λe' RW=>CX outer H s E e' RW) s'
theorem uk{sc:Scope}{n:Nat}{x:Str}(h:sc.names.lookup x=some .cell):∃c,(cellsFrom n sc.names []).lookup x=some c:=by
 have q:=PySem.W.cellsFrom_some sc.names n [] (.inl h);exact Option.isSome_iff_exists.mp q
variable {P:aF}{base:Heap}{mg:Str->Option Value}{qual:Str}{scope:Scope}{w:World}
theorem yQ{CX:DE}{f:Addr}{cd:Value}{outer:List Env}{s s1:Shared}{E:XK}  
  (S:jh N ps scope) (hd:A.handled=none) (e0:G4 P w K mg base A outer s H) (hl:vs.length=ps.length) (r:Vals vs us)
  (x:InCallC s s.heap.objs.size (bindL (envOfC qual scope s.heap.objs.size f cd).kindOf (ps.zip us) λ_=>none) (cellsFrom (s.heap.objs.size+1) scope.names []) (bindC (envOfC qual scope s.heap.objs.size f cd).kindOf (ps.zip us) λ_=>none) s1) :
  Inv (vL CX P w K mg base N qual scope f cd A outer s H E) [] (start N vs) H s1:=by
 have hpl:ps.length<=N.length:=by have:=aa5 List.length S.pre;rw[List.length_take]at this;left
 obtain⟨h1,tk,rfl,hk⟩:=x.done;have NS:∀b:Addr,b∉(vL CX P w K mg base N qual scope f cd A outer s H E).ex:=λb z=>absurd (show b∈([]:aZ) from z) (by simp);refine⟨⟨e0.mod,S.kind,rfl,rfl,aah _,λy z c h1 h2=>?_,λy hy=>?_,λy c _ h=>?_,λ_=>hd,Around.frames_deeper e0.frames,.inr ⟨rfl,rfl⟩,λb z=>absurd z (NS b),e0.bs,e0.HJ,λb _ _=>NS b,λb z=>absurd z (NS b),e0.lX,e0.Md⟩,
  rfl,e0.bare,Un.kept hk,⟨_,x.toInCall.ns,λi y v h1 h2 h3=>?_⟩,λy c h=>⟨_,x.cell y c h⟩,e0.du.fresh (aah _),λy c h=>?_,λp hp=>absurd (show p∈([]:ak) from hp) (by simp),e0.du.kept hk,?_⟩
 ·exact name_of_addr x.apart (aaV h1) (aaV h2)
 ·have hy:scope.names.lookup y=some .cell\/scope.names.lookup y=some .free:=hy;rcases hy with hy|hy
  ·exact uk hy
  ·exact absurd rfl (S.JQ _ (aaV hy))
 ·exact abR (x.above y c (aaV h))
 ·have hi:i<vs.length:=by
   unfold start at h2;by_cases hi:i<vs.length
   ·exact hi
   ·rw[List.getElem?_append_right (by simpa using hi)]at h2;rw[List.getElem?_replicate]at h2;split at h2<;>cases h2
  have ha:vs[i]?=some v:=by
   unfold start at h2;rw[List.getElem?_append_left (by simpa using hi),List.getElem?_map]at h2;cases e:vs[i]? with
   |none=>rw[e]at h2;cases h2
   |some a=>rw[e]at h2;cases h2;rfl
  obtain⟨u,hu,rv⟩:=r.get ha;have hp:ps[i]?=some y:=by
   rw[<- S.pre,List.getElem?_take_of_lt (by left)];exact h1
  have VP:ps.Nodup:=by rw[<- S.pre];exact S.nd.sublist (List.take_sublist _ _)
  refine⟨u,rv,?_⟩;rcases S.par y (aay hp)with k|k
  ·exact .inl ⟨k,pW VP hp hu k⟩
  ·obtain⟨c,e⟩:=uk (n:=s.heap.objs.size+1) k;refine .inr ⟨.inl k,c,e,?_⟩;have q:=x.cell y c e;rw[pZ VP hp hu (by show scope.names.lookup y≠_;rw[k];decide)]at q;exact q
 ·exact e0.du.fresh (abR (x.above y c (aaV h)))
 ·unfold start;show _=N.length;rw[List.length_append,List.length_map,List.length_replicate];left
theorem PM{CX:DE}{k:Nat}{f:Addr}{name:Str}{params:Arguments}{body:aS}{dV kV doc pm ju ct oc:Value}{an od:Option Addr}
  {zE:Array (Option Value)} {sp:Sp} (lk:K.lookup f=some ⟨oc,od,.func (PySem.W.fnOf name qual params body scope dV kV doc pm an ju ct),zE⟩) (Cd:PySem.W.codeIn K ju qual=true) (S:jh N ps scope)
  (len:∀vs H Q E,sp vs H Q E->vs.length=ps.length)
  (Ce:∀(A:aG) (outer:List Env) (s:Shared) (H:Hp) (vs:af) (Q:VK) (E:XK),gm k (A.deeper (envOfC qual scope s.heap.objs.size f ju))->sp vs H Q E ->
   ∃t,mA (vL CX P w K mg base N qual scope f ju A outer s H E) body t/\t { nx:=λ_ H'=>Q .bF H',rt:=Q } (start N vs) H) :
  jn P w K mg base CX (k+1) f (PySem.W.fnOf name qual params body scope dV kV doc pm an ju ct) ps sp:=by
 refine⟨len,λA outer s H args us vs Q E hr e0 hb r DK=>?_⟩;have hl:=len _ _ _ _ DK;have KX:K.In s.heap:=e0.mod.SA.keeps λb o e=>(e0.bs b o e).1;have lim:s.heap.NoLimit:=e0.mod.nolimit.keeps λb o e=>(e0.bs b o e).1;have ON:∀y∈ps.zip us,scope.names.lookup y.1=some .local\/(scope.names.lookup y.1=some .cell/\((cellsFrom (s.heap.objs.size+1) scope.names []).lookup y.1).isSome=true):=λ⟨n,v⟩ hy=>by
  rcases S.par n (List.of_mem_zip hy).1 with q|q
  ·exact .inl q
  ·exact .inr ⟨q,PySem.W.cellsFrom_some _ _ _ (.inl q)⟩
 refine codeAny_call_function hr.depth (KX _ _ lk) rfl S.co S.gen rfl (PySem.W.codeRec_of KX Cd) (hb _ _ _ _ ?_);refine wpAny_newFunctionEnv_cells S.kind ON λenv he s1 x=>?_;subst he;refine⟨lim.keeps x.toInCall.keep,codeAny_func ?_⟩;obtain⟨t,ht,hq⟩:=Ce A outer s H vs Q E (hr.deeper _) DK;have I:Inv (vL CX P w K mg base N qual scope f ju A outer s H E) [] (start N vs) H s1:=yQ S hr.hd e0 hl r x;refine aaB (ht [] s1 (start N vs) H _ I hq) (λfl s' hs=>?_) λe s' hs=>hs;have fin:∀{σ':St} {H':Hp} {v:V} {u:Value},Inv (vL CX P w K mg base N qual scope f ju A outer s H E) [] σ' H' s'->RelV v u->Q v H'->CE outer P w H s Q u s' :=
  λ{σ' H' v u} J rv q=>⟨v,H',J.os,J.bare,J.base,J.du,rv,q⟩
 cases fl with
 |ret u =>
  obtain⟨v,σ',H',J,rv,q⟩:=hs;exact fin J rv q
 |next =>
  obtain⟨σ',H',J,q⟩:=hs;exact fin (v:=V.bF) (u:=Value.none) J rfl q
 |brk =>
  obtain⟨_,_,_,q⟩:=hs;exact False.elim q
 |cont =>
  obtain⟨_,_,_,q⟩:=hs;exact False.elim q
end L2
namespace L2
open PySem PySem.Spec PyProof.Rows
section
variable {X:Cx}{x:Str}{p pos:Pos}{e:Expr}{es:aj}{t:TA}{id T:String}{r:af->Hp->VK->Prop}
noncomputable def LL(r:af->Hp->VK->Prop)(t:TA):TE:=λσ H Q=>t σ H λvs H1=>r vs H1 Q
theorem dU(hc:gI X (.builtin id) r)(hg:Gl X x)(hm:X.mg x=none)(hv:bootBuiltins x=some (.builtin id))(ha:PA X (e::es) t)(hn:x ≠ "__name__":=by decide)(O0:(x==("__debug__" : Str))=false:=by decide)
  (he:starEach (e::es) X.env=(false,eval e X.env)::starEach es X.env:=by rfl) (hpl:(backTo pos (starEach es X.env)).any (·.1)=false:=by rfl):PE X (.Call (.Name x p) (e::es) [] pos) (LL r t):=by
 intro pins s σ H Q I h;refine aaK (dW I hg hm hv ?_ hn O0);exact abb (dv (ha pos pins s σ H _ I h) λus s1 ⟨vs,H1,I1,r1,q1⟩=>hc pins s1 σ H1 vs us Q I1 r1 q1) he hpl
theorem pg(hc:gI X (.type T) r)(hg:Gl X x)(hm:X.mg x=none)(hv:bootBuiltins x=some (.type T))(ha:PA X (e::es) t)(hn:x ≠ "__name__":=by decide)(O0:(x==("__debug__" : Str))=false:=by decide)
  (he:starEach (e::es) X.env=(false,eval e X.env)::starEach es X.env:=by rfl) (hpl:(backTo pos (starEach es X.env)).any (·.1)=false:=by rfl):PE X (.Call (.Name x p) (e::es) [] pos) (LL r t):=by
 intro pins s σ H Q I h;refine aaK (dW I hg hm hv ?_ hn O0);exact aat (dv (ha pos pins s σ H _ I h) λus s1 ⟨vs,H1,I1,r1,q1⟩=>hc pins s1 σ H1 vs us Q I1 r1 q1) he hpl
end
end L2
namespace HT
open PySem PyProof.Rows
noncomputable def lexLt:aa->aa->Bool
 |[],[]=>false
 |[],_::_=>true
 |_::_,[]=>false
 |x::xs,y::ys=>if x=y then lexLt xs ys else decide (x<y)
theorem cZ(x y:Int)(xs ys:aa):lexLt (x::xs) (y::ys)=if x=y then lexLt xs ys else decide (x<y):=rfl
theorem jr:lexLt [] []=false:=rfl
theorem nj(y:Int)(ys:aa):lexLt [] (y::ys)=true:=rfl
theorem cY(x:Int)(xs:aa):lexLt (x::xs) []=false:=rfl
theorem nP(A:aG)(s:Shared)(a:Int)(t:Tok)(c:Int)(u:Tok):∃e,SeqAt.EqAt A s (.int a t) (.int c u) e/\(e=true ↔ a=c) :=
 ⟨(a==c),abu a t c u,by simp⟩
theorem AV(A:aG)(s:Shared)(a:Int)(t:Tok)(c:Int)(u:Tok)(prog:aF)(w:World)(E:az)(Q:az)(h:Q (.bool (decide (a<c))) s):
  wpAny (model prog w) A (richCompare .Lt (.int a t) (.int c u)) Q E s :=
 (PyProof.Rows.lt_int h:wpAny (model prog w) A (compareOp .Lt (.int a t) (.int c u)) Q E s)
section
open PySem.SeqAt
open PySem.AutoSeq1 (wpAny_loadPart')
open PySem.MeetsSeq PySem.MeetsSeq2 PySem.MeetsSeq3
theorem jq(l b:Addr)(items b_:aR)(n n2:Nat)(dd rX:Option Addr)(sl rR:Array (Option Value))(ns ms:aa)(hi:IntsAre items.toList ns)(hj:IntsAre b_.toList ms):
  Meets (Builtin.«tuple.__lt__» ⟨[.ref l,.ref b],[]⟩)
   (λ_ R s=>s.heap.get? l=some { cls:=.type "tuple",dict:=dd,data:=.seq items n,slots:=sl }/\s.heap.get? b=some { cls:=.type "tuple",dict:=rX,data:=.seq b_ n2,slots:=rR } /\
    R (.ok (.ret (.bool (lexLt ns ms)))) s) :=
 .of_wp λprog w A R s h=>by
  obtain⟨hp,g,d,tk,os⟩:=s;obtain⟨hl,hb,h⟩:=h;have f2:=abv;have z1:items.size=ns.length:=by rw[<- hi.length];simp
  have z2:b_.size=ms.length:=by rw[<- hj.length];simp
  wp_walk using wpAny_loadPart' hl,wpAny_loadPart' hb,wpAny_forIn_list _ (λrest b s'=>b.1=none/\s'=⟨hp,g,d,tk,os⟩/\∃(vs ws:aq) (ic rS:aa),rest=vs.zip ws /\
   IntsAre vs ic/\IntsAre ws rS/\ic.length+b_.size=rS.length+items.size/\R (.ok (.ret (.bool (lexLt ic rS)))) ⟨hp,g,d,tk,os⟩) _
  case turn =>
   rintro ⟨y,x⟩ rest b s' ⟨lV,rfl,vs,ws,ic,rS,hz,B3,zG,hlen,hR⟩;cases B3 with
   |nil=>rw[List.zip_nil_left]at hz;cases hz
   |cons a t hvi' =>
    cases zG with
    |nil=>rw[List.zip_nil_right]at hz;cases hz
    |cons c u hwi' =>
     rw[List.zip_cons_cons]at hz;injection hz with Ot tQ
     injection Ot with hy hx
     subst hy hx;rw[cZ]at hR;simp only[List.length_cons]at hlen;obtain⟨e,he,tR⟩:=nP A.in1 ⟨hp,g,d,tk,os⟩ a t c u;refine Z_ (he prog w _ _ ?_);cases e with
     |true =>
      rw[if_pos (tR.mp rfl)]at hR
      wp_walk
      exact⟨rfl,rfl,_,_,_,_,tQ,hvi',hwi',by left,hR⟩
     |false =>
      rw[if_neg (λq=>absurd (tR.mpr q) Bool.false_ne_true)]at hR;have OA:=AV A.in1 ⟨hp,g,d,tk,os⟩ a t c u prog w
      wp_walk using OA
      exact⟨_,rfl,by simpa using hR⟩
  case fin =>
   rintro ⟨b1,b2⟩ s' ⟨lV,rfl,vs,ws,ic,rS,hz,B3,zG,hlen,hR⟩;simp only at lV;subst lV;have hv:lexLt ic rS=decide (items.size<b_.size):=by
    cases B3 with
    |nil =>
     cases zG with
     |nil =>
      simp only[List.length_nil]at hlen;rw[jr];exact(abc (by left)).symm
     |cons c u hw =>
      simp only[List.length_nil,List.length_cons]at hlen;rw[nj];exact(aar (by left)).symm
    |cons a t hv =>
     cases zG with
     |nil =>
      simp only[List.length_nil,List.length_cons]at hlen;rw[cY];exact(abc (by left)).symm
     |cons c u hw =>
      rw[List.zip_cons_cons]at hz;cases hz
   rw[hv]at hR
   wp_walk
   exact⟨_,rfl,by simpa [Builtin.Tuple.tupleCompareSizes]using hR⟩
  case h =>
   exact⟨rfl,rfl,items.toList,b_.toList,ns,ms,rfl,hi,hj,by left,h⟩
end
variable {Q:Value->Shared->Prop}{items:aR}{sl:Addr}{vl vu:Value}
section
variable {prog:aF}{w:World}{A:aG}{E:az}{s:Shared}
theorem vj{l b:Addr}{b_:aR}{ns ms:aa}(hl:IsTup s.heap l items)(hb:IsTup s.heap b b_)(hi:IntsAre items.toList ns)(hj:IntsAre b_.toList ms)
  (hu:A.units<cLine) (h:Q (.bool (lexLt ns ms)) s):wpAny (model prog w) A (compareOp .Lt (.ref l) (.ref b)) Q E s:=by
 obtain⟨⟨cls,dd,data,sl⟩,ho,hc,n,hd⟩:=id hl;obtain⟨⟨C4,rX,data2,rR⟩,oz,hc2,n2,hd2⟩:=id hb;simp only at hc hd hc2 hd2;subst hc hd hc2 hd2;exact abE (op:=.Lt) ⟨_,ho,rfl⟩ ⟨_,oz,rfl⟩ abN PySem.F.entry_tuple_lt (PySem.F.args_tuple_lt_2 _ _) (jq l b items b_ n n2 dd rX sl rR ns ms hi hj)
  ⟨ho,oz,show Value.bool (lexLt ns ms)≠Value.notImplemented/\Q (.bool (lexLt ns ms)) s from⟨(λx=>nomatch x),h⟩⟩ hu
theorem GN{t b:Addr}{vs ws:aq}(ht:IsTup s.heap t vs.toArray)(hb:IsTup s.heap b ws.toArray)(hv:vs≠[])
  (h1:ws=[]->Q (.ref t) s) (h2:ws≠[]->Q (.ref s.heap.objs.size) { s with heap:=s.heap.push { cls:=.type "tuple",data:=.seq (vs++ws).toArray } })
  (hsz:vs.length+ws.length<=sizeLine):wpAny (model prog w) A (binaryOp .Add (.ref t) (.ref b)) Q E s:=by
 obtain⟨⟨cls,dd,data,sl⟩,ho,hc,n,hd⟩:=id ht;obtain⟨⟨C4,rX,data2,rR⟩,oz,hc2,n2,hd2⟩:=id hb;simp only at hc hd hc2 hd2;subst hc hd hc2 hd2;have e:vs.toArray++ws.toArray=(vs++ws).toArray:=by simp
 by_cases hw:ws=[]
 ·exact concat_meets ⟨_,ho,rfl⟩ ⟨_,oz,rfl⟩ noFill_tuple_add seq_tuple_add abF abB (abw _ _)
   (tuple_addW1 t b vs.toArray ws.toArray n n2 dd rX sl rR (by simpa using hv) (by simp[hw])) ⟨ho,oz,h1 hw⟩
 ·refine concat_meets ⟨_,ho,rfl⟩ ⟨_,oz,rfl⟩ noFill_tuple_add seq_tuple_add abF abB (abw _ _)
   (tuple_addW2 t b vs.toArray ws.toArray n n2 dd rX sl rR (by simpa using hv) (by simpa using hw) (by rw[List.size_toArray,List.size_toArray];exact hsz)) ⟨ho,oz,?_⟩
  rw[e];exact h2 hw
noncomputable def ff(n d:Nat):Option Int->Nat
 |none=>d
 |some v=>if v<0 then(v+(n:Int)).toNat else min v.toNat n
theorem AL(n d:Nat):ff n d none=d:=rfl
theorem qk(n d k:Nat):ff n d (some (k:Int))=min k n:=by
 show(if (k:Int)<0 then((k:Int)+(n:Int)).toNat else min (k:Int).toNat n)=min k n;rw[if_neg (by left),Int.toNat_natCast]
theorem Ji(n d:Nat)(hd:d<=n)(o:Option Int):ff n d o<=n:=by
 cases o with
 |none=>exact hd
 |some v =>
  show(if v<0 then(v+(n:Int)).toNat else min v.toNat n)<=n;by_cases hv:v<0
  ·rw[if_pos hv];left
  ·rw[if_neg hv];exact Nat.min_le_right _ _
theorem xU(v:Int)(n d:Nat):(if v<0 then max (v+(n:Int)) 0 else min v (n:Int))=((ff n d (some v):Nat):Int):=by
 show(if v<0 then max (v+(n:Int)) 0 else min v (n:Int))=(((if v<0 then(v+(n:Int)).toNat else min v.toNat n):Nat):Int)
 by_cases hv:v<0
 ·simp only[if_pos hv];left
 ·simp only[if_neg hv];left
theorem vW(lo hi:Option Int)(n:Nat):Builtin.Slice.sliceAdjust lo hi 1 (n:Int)=(((ff n 0 lo:Nat):Int),((ff n n hi:Nat):Int)):=by
 have h1:¬ ((1:Int)<0):=by left
 unfold Builtin.Slice.sliceAdjust;simp only[h1,if_false];refine Prod.ext ?_ ?_
 ·cases lo with
  |none=>rfl
  |some v=>exact xU v n 0
 ·cases hi with
  |none=>rfl
  |some v=>exact xU v n n
theorem u_(i j:Nat):Builtin.Slice.slicePlaces (i:Int) (j:Int) 1=j - i:=by
 unfold Builtin.Slice.slicePlaces;have h1:(1:Int)>0:=by left
 simp only[h1,if_true,Int.ediv_one];split<;>left
theorem mR{v:Value}{o:Option Int}{Q:Option Int->Shared->Prop}(p:IsPart v o)(h:Q o s):wpAny (model prog w) A (Builtin.Slice.slicePartIndex v) Q E s:=by
 cases p with
 |none=>exact slicePart_none h
 |int i t=>exact slicePart_int h
theorem gy{lo hi:Option Int}{n:Nat}{Q:Int×Int×Nat->Shared->Prop}(hs:s.heap.IsSliceOf sl vl vu .none)(pl:IsPart vl lo)(pu:IsPart vu hi)
  (h:Q (((ff n 0 lo:Nat):Int),1,ff n n hi - ff n 0 lo) s):wpAny (model prog w) A (Builtin.Slice.sliceApplied (.ref sl) (pure (n:Int))) Q E s:=by
 obtain⟨os,uE,pA,xq⟩:=id hs;unfold Builtin.Slice.sliceApplied Builtin.Slice.sliceFields;refine Z_ (Z_ (aa4 uE xq (x:=vl) rfl (Z_ (aa4 uE xq (x:=vu) rfl (Z_ (aa4 uE xq (x:=.none) rfl (aaa ?_)))))));refine Z_ (slicePart_none ?_);show wpAny _ _ (if ((1:Int)==0)=true then _ else _) _ _ s;rw[if_neg (by decide)];refine Z_ (mR pl (Z_ (mR pu (Z_ (aaa ?_)))));show wpAny _ _ (match Builtin.Slice.sliceAdjust lo hi 1 (n:Int)with | (lo,hi)=>pure (lo,(1:Int),Builtin.Slice.slicePlaces lo hi 1)) _ _ s;rw[vW lo hi n];show wpAny _ _ (pure (((ff n 0 lo:Nat):Int),(1:Int),Builtin.Slice.slicePlaces ((ff n 0 lo:Nat):Int) ((ff n n hi:Nat):Int) 1)) _ _ s;rw[u_];exact aaa h
theorem A6(xs:aR)(i k:Nat):((List.range k).filterMap λ(m:Nat)=>xs[((i:Int)+(m:Int)*1).toNat]?).toArray=((xs.toList.drop i).take k).toArray:=by
 have e:(λ(m:Nat)=>xs[((i:Int)+(m:Int)*1).toNat]?)=λm=>xs[i+m]?:=by
  funext m;have:((i:Int)+(m:Int)*1).toNat=i+m:=by left
  rw[this]
 rw[e];have:=pick_run xs i k;rw[List.filterMap_map]at this;have e2:((λx=>xs[x]?)∘λx=>i+x)=λm=>xs[i+m]?:=rfl;rw[e2]at this;rw[this]
theorem kf{t:Addr}{lo hi:Option Int}(ht:IsTup s.heap t items)(hs:s.heap.IsSliceOf sl vl vu .none)(pl:IsPart vl lo)(pu:IsPart vu hi)
  (hw:¬ (ff items.size 0 lo=0/\ff items.size items.size hi=items.size))
  (h:Q (.ref s.heap.objs.size) { s with heap:=s.heap.push { cls:=.type "tuple",data:=.seq ((items.toList.drop (ff items.size 0 lo)).take (ff items.size items.size hi - ff items.size 0 lo)).toArray } })
  (hsz:items.size<=sizeLine):wpAny (model prog w) A (getItem (.ref t) (.ref sl)) Q E s:=by
 have xl:sizeOk (.seq ((items.toList.drop (ff items.size 0 lo)).take (ff items.size items.size hi - ff items.size 0 lo)).toArray):=by
  show((items.toList.drop (ff items.size 0 lo)).take (ff items.size items.size hi - ff items.size 0 lo)).toArray.size<=sizeLine;rw[List.size_toArray,List.length_take,List.length_drop,Array.length_toList];left
 have hj:ff items.size items.size hi<=items.size:=Ji _ _ (aah _) hi;obtain⟨os,uE,pA,xq⟩:=id hs;have T7:s.TypeIs (.ref sl) "slice":=⟨os,uE,pA⟩
 unfold getItem
 try with_reducible refine aax ?_
 first|refine Z_ (aaa ?_)|skip
 refine Z_ (wpAny_sequenceKey ht.typeIs (by decide) ?_);refine Z_ (aaA (name:=Str.ofString "__getitem__") ht.typeIs aaR
  (aau aaR ht.typeIs entry_tuple_getitem ?_ (args_tuple_getitem _ _)))
 show wpAny _ _ (Builtin.Tuple.tupleItemsOf (.ref t) >>= _) _ _ s;refine Z_ (tupleItemsOf_ ht ?_);refine Z_ (abl T7 ?_);rw[if_pos (by decide)];refine Z_ (gy hs pl pu ?_);have Ts:¬ ((((ff items.size 0 lo:Nat):Int)==0&&(1:Int)==1&&(ff items.size items.size hi - ff items.size 0 lo)==items.size)=true):=by
  intro q;rw[Bool.and_eq_true,Bool.and_eq_true]at q;have q1:((ff items.size 0 lo:Nat):Int)=0:=eq_of_beq q.1.1;have q2:ff items.size items.size hi - ff items.size 0 lo=items.size:=eq_of_beq q.2;exact hw ⟨by left,by left⟩
 show wpAny _ _ (if (((ff items.size 0 lo:Nat):Int)==0&&(1:Int)==1&&(ff items.size items.size hi - ff items.size 0 lo)==items.size)=true then _ else _) _ _ s;rw[if_neg Ts,A6]
 first
  |exact Z_ (m:=Builtin.Tuple.tupleExact _) (aav (aaa ⟨_,rfl,aaa h⟩) xl)
  |exact Z_ (m:=Builtin.Tuple.tupleExact _) (aav (Z_ (aaa (aaa ⟨_,rfl,aaa h⟩))) xl)
  |exact Z_ (Z_ (m:=Builtin.Tuple.tupleExact _) (aav (aaa (aaa ⟨_,rfl,aaa h⟩)) xl))
  |exact Z_ (Z_ (m:=Builtin.Tuple.tupleExact _) (aav (aaa ⟨_,rfl,aaa h⟩) xl))
end
end HT
namespace L2
open PySem PySem.Spec PyProof.Rows
noncomputable abbrev TO:=St->Hp->(Option Int->Hp->Prop)->Prop
noncomputable def PO(X:Cx)(e:Option Expr)(t:TO):Prop :=
 ∀(pins:ak) (s:Shared) (σ:St) (H:Hp) (Q:Option Int->Hp->Prop),Inv X pins σ H s->t σ H Q ->
  wpAny (model X.prog X.w) X.A (evalPart e X.env) (λu s'=>∃o H',Inv X pins σ H' s'/\IsPart u o/\Q o H') X.xe s
noncomputable def Ej:TO:=λ_ H Q=>Q none H
noncomputable def MI(t:TE):TO:=λσ H Q=>t σ H λx H1=>∃i,x=.int i/\Q (some i) H1
theorem intsAre_of{ns:aa}:∀{us:aq},Vals (ns.map V.int) us->IntsAre us ns:=by
 induction ns with
 |nil=>intro us r;rw[List.map_nil]at r;cases r;exact .nil
 |cons n ns ih =>
  intro us r;rw[List.map_cons]at r;cases r with
  |cons r1 r2 =>
   obtain⟨t,e⟩:=r1;subst e;exact .cons n t (ih r2)
section
variable {X:Cx}{e:Expr}{te:TE}{lo hi:Option Expr}{tl th:TO}{pos p2:Pos}
theorem qt:PO X none Ej:=by
 intro pins s σ H Q I h;rw[evalPart_none];exact aaa ⟨none,H,I,.none,h⟩
theorem qr(h:PE X e te):PO X (some e) (MI te):=by
 intro pins s σ H Q I hw;rw[evalPart_some];refine dv (h pins s σ H _ I hw) λu s1 bP=>?_;obtain⟨x,H1,I1,r1,q1⟩:=bP;obtain⟨i,rfl,q⟩:=q1;obtain⟨t,rfl⟩:=r1;exact⟨some i,H1,I1,.int i t,q⟩
def HU(X:Cx)(r:V->Option Int->Option Int->Hp->VK->Prop):Prop :=
 ∀(pins:ak) (s:Shared) (σ:St) (H:Hp) (x:V) (v vl vu:Value) (lo hi:Option Int) (sl:Addr) (Q:VK),Inv X pins σ H s->RelV x v->s.heap.IsSliceOf sl vl vu .none->IsPart vl lo->IsPart vu hi->r x lo hi H Q ->
  ∃T id,typeLookup (.type T) "__getitem__" = pure (some (.builtin id))/\s.TypeIs v T/\wpAny (model X.prog X.w) X.A (getItem v (.ref sl)) (EP X pins σ Q) X.xe s
theorem HU.or{r r':V->Option Int->Option Int->Hp->VK->Prop}(h:HU X r)(h':HU X r'):HU X (λx lo hi H Q=>r x lo hi H Q\/r' x lo hi H Q):=by
 intro pins s σ H x v vl vu lo hi sl Q I rx hs pl pu q;rcases q with q|q
 ·exact h pins s σ H x v vl vu lo hi sl Q I rx hs pl pu q
 ·exact h' pins s σ H x v vl vu lo hi sl Q I rx hs pl pu q
noncomputable def Xm(r:V->Option Int->Option Int->Hp->VK->Prop)(te:TE)(tl th:TO):TE:=λσ H Q=>te σ H λx H1=>tl σ H1 λl H2=>th σ H2 λu H3=>r x l u H3 Q
theorem sZ{r:V->Option Int->Option Int->Hp->VK->Prop}(hr:HU X r)(he:PE X e te)(hl:PO X lo tl)(hu:PO X hi th):PE X (.Subscript e (.Slice lo hi none p2) pos) (Xm r te tl th):=by
 intro pins s σ H Q I h;refine Subscript_ (dv (he pins s σ H _ I h) λv s1 bP=>?_);obtain⟨x,H1,I1,r1,q1⟩:=bP;refine wpAny_Slice (dv (hl pins s1 σ H1 _ I1 q1) λvl s2 ⟨l,H2,I2,pl,q2⟩=>dv (hu pins s2 σ H2 _ I2 q2) λvu s3 bP=>?_);obtain⟨u,H3,I3,pu,q3⟩:=bP;rw[evalPart_none];refine aaa ?_;have I4:Inv X pins σ H3 { s3 with heap:=s3.heap.push { cls:=.type "slice",data:=.fields #[vl,vu,.none] } }:=I3.kept (t':=s3.toks) λb ob q=>aac _ q;obtain⟨T,id,hT,ht,hg⟩:=hr pins { s3 with heap:=s3.heap.push { cls:=.type "slice",data:=.fields #[vl,vu,.none] } } σ H3 x v vl vu l u s3.heap.objs.size Q I4 r1 (Heap.IsSliceOf.new ..) pl pu q3;show wpAny (model X.prog X.w) X.A (subscriptTail e (.Slice lo hi none p2) v (.ref s3.heap.objs.size)) (EP X pins σ Q) X.xe { s3 with heap:=s3.heap.push { cls:=.type "slice",data:=.fields #[vl,vu,.none] } };exact tail_any (ops:=[.ref s3.heap.objs.size,v]) ht hT hg (by with_unfolding_all rfl)
def zd(xs:af)(lo hi:Option Int):af:=(xs.drop (HT.ff xs.length 0 lo)).take (HT.ff xs.length xs.length hi - HT.ff xs.length 0 lo)
theorem uf(xs:af)(lo hi:Option Int):(zd xs lo hi).length<=xs.length:=by
 unfold zd;rw[List.length_take,List.length_drop];left
def R6(K:ao):V->Option Int->Option Int->Hp->VK->Prop:=λx lo hi H Q=>∃a xs,x=.ref a/\aX K H a xs /\
 ¬ (HT.ff xs.length 0 lo=0/\HT.ff xs.length xs.length hi=xs.length)/\∀p,H p=none->Q (.ref p) (upd H p (.tup (zd xs lo hi)))
theorem IS:HU X (R6 X.K):=by
 intro pins s σ H x v vl vu lo hi sl Q I rx hs pl pu h;obtain⟨a,xs,rfl,hx,hw,q⟩:=h;cases rx;obtain⟨aL,r,ht,hz⟩:=I.tuple hx;have hlen:aL.toArray.size=xs.length:=by rw[List.size_toArray];exact r.length.symm
 refine⟨"tuple",_,PyProof.Rows.slot_tuple_getitem.lookup,ht.typeIs,?_⟩;refine HT.kf ht hs pl pu (by rw[hlen];exact hw) ?_ (by rw[hlen];exact hz);rw[hlen];refine⟨.ref s.heap.objs.size,_,I.laid (t':=s.toks) (o:=.tup (zd xs lo hi)) (λb ob q=>aac _ q) (aah _) ?_,rfl,q _ (I.du.fresh (aah _))⟩;exact⟨aao (uf xs lo hi) hz,_,(r.drop (HT.ff xs.length 0 lo)).take (HT.ff xs.length xs.length hi - HT.ff xs.length 0 lo),IsTup.new _ _⟩
def Nq(K:ao):R2:=λx y H Q=>∃a b xs ys,x=.ref a/\y=.ref b/\aX K H a xs/\aX K H b ys/\xs≠[]/\xs.length+ys.length<=sizeLine /\
 (ys=[]->Q (.ref a) H)/\(ys≠[]->∀p,H p=none->Q (.ref p) (upd H p (.tup (xs++ys))))
theorem Vals.qB{xs:af}{us:aq}(r:Vals xs us):us=[] ↔ xs=[]:=by
 cases r with
 |nil=>simp
 |cons _ _=>simp
theorem Fi:kD X (binaryOp .Add) (Nq X.K):=by
 intro pins s σ H x y v u Q I rx ry h;obtain⟨a,b,xs,ys,rfl,rfl,ha,hb,hx,hz,q1,q2⟩:=h;cases rx;cases ry;obtain⟨aL,r1,p1,_⟩:=I.tuple ha;obtain⟨qK,r2,p2,_⟩:=I.tuple hb;refine HT.GN p1 p2 (λz=>hx (r1.qB.mp z)) (λz=>⟨.ref a,H,I,rfl,q1 (r2.qB.mp z)⟩) (λz=>?_) (by rw[<- r1.length,<- r2.length];exact hz);refine⟨.ref s.heap.objs.size,_,I.laid (t':=s.toks) (o:=.tup (xs++ys)) (λb ob q=>aac _ q) (aah _) ?_,rfl,q2 (λw=>z (r2.qB.mpr w)) _ (I.du.fresh (aah _))⟩;exact⟨by rw[List.length_append];exact hz,_,r1.append r2,IsTup.new _ _⟩
end
end L2
namespace L2
open PySem PySem.Spec PyProof.Rows
noncomputable def qJ(n:Nat)(i:Int):Option Nat:=if 0<=i then(if i<n then some i.toNat else none)else if -(n:Int)<=i then some (i+n).toNat else none
def Mk{α:Type}(xs:List α)(i:Int):Option α:=(qJ xs.length i).bind λj=>xs[j]?
theorem xi{n:Nat}{i:Int}{j:Nat}(h:qJ n i=some j):seqIndex? i n=some j/\j<n /\ -(n:Int)<=i/\i<n:=by
 unfold qJ at h;by_cases h0:0<=i
 ·rw[if_pos h0]at h;by_cases h1:i<n
  ·rw[if_pos h1]at h;have e:i.toNat=j:=aas h;exact⟨by rw[seqIndex_of h0 h1,e],by left,by left,h1⟩
  ·rw[if_neg h1]at h;cases h
 ·rw[if_neg h0]at h;by_cases h1:-(n:Int)<=i
  ·rw[if_pos h1]at h;have e:(i+n).toNat=j:=aas h;exact⟨by rw[seqIndex_neg (by left) h1,e],by left,h1,by left⟩
  ·rw[if_neg h1]at h;cases h
theorem x9{α:Type}{xs:List α}{i:Int}{v:α}(h:Mk xs i=some v):∃j,seqIndex? i xs.length=some j/\xs[j]?=some v/\j<xs.length /\ -(xs.length:Int)<=i/\i<xs.length:=by
 unfold Mk at h;cases e:qJ xs.length i with
 |none=>rw[e]at h;cases h
 |some j =>
  rw[e]at h;obtain⟨h1,h2,h3,h4⟩:=xi e;exact⟨j,h1,h,h2,h3,h4⟩
def mz(b:Expr):Prop:=∀o i,subscripted b false o i=operate [o,i] (getItem o i)
def Ib(X:Cx)(r:R2):Prop :=
 ∀(value slice:Expr) (pins:ak) (s:Shared) (σ:St) (H:Hp) (x y:V) (v u:Value) (Q:VK),Inv X pins σ H s->RelV x v->RelV y u->r x y H Q ->
  subscripted slice false v u=operate [v,u] (getItem v u)->wpAny (model X.prog X.w) X.A (subscriptTail value slice v u) (EP X pins σ Q) X.xe s
def W4(X:Cx)(id:String)(r:V->af->Hp->VK->Prop):Prop :=
 ∀(pins:ak) (s:Shared) (σ:St) (H:Hp) (x:V) (xs:af) (v:Value) (us:aq) (Q:VK),Inv X pins σ H s->RelV x v->Vals xs us->r x xs H Q ->
  wpAny (model X.prog X.w) X.A (call (.builtin id) (v::us)) (EP X pins σ Q) X.xe s
variable {H:Hp}{σ:L2.St}
section
variable {X:Cx}{a b:Expr}{ta tb:TE}{pos:Pos}
theorem Ib.or{r r':R2}(h:Ib X r)(h':Ib X r'):Ib X (λx y H Q=>r x y H Q\/r' x y H Q):=by
 intro value slice pins s σ H x y v u Q I rx ry q hs;rcases q with q|q
 ·exact h value slice pins s σ H x y v u Q I rx ry q hs
 ·exact h' value slice pins s σ H x y v u Q I rx ry q hs
theorem Hq{r:R2}(hr:Ib X r)(ha:PE X a ta)(hb:PE X b tb)(hs:mz b):PE X (.Subscript a b pos) (Ei r ta tb):=by
 intro pins s σ H Q I h;exact Subscript_ (Lx ha hb I h λv u s2 x y H2 I2 rx ry q=>hr a b pins s2 σ H2 x y v u Q I2 rx ry q (hs _ _))
def R9(K:ao):R2:=λx y H Q=>∃p xs i v,x=.ref p/\y=.int i/\dq K H p xs/\Mk xs i=some v/\Q v H
def R8(K:ao):R2:=λx y H Q=>∃p xs i v,x=.ref p/\y=.int i/\aX K H p xs/\Mk xs i=some v/\Q v H
theorem FN:Ib X (R9 X.K):=by
 intro value slice pins s σ H x y v u Q I rx ry h hs;obtain⟨p,xs,i,z,rfl,rfl,hq,he,q⟩:=h;cases rx;obtain⟨t,rfl⟩:=ry;obtain⟨aL,r,pl,hz⟩:=I.list hq;obtain⟨j,h1,h2,h3,h4,h5⟩:=x9 he;obtain⟨w,ew,ox⟩:=r.get h2;have hl:=r.length;have hn:=qG;have fin:EP X pins σ Q w s:=⟨z,H,I,ox,q⟩
 by_cases h0:0<=i
 ·have hj:i.toNat=j:=by
   rw[seqIndex_of h0 h5]at h1;exact aas h1
  exact item_listR pl.isList h0 (by left) (by rw[hj];simpa using ew) fin hs
 ·have hj:(i+(aL.toArray.size:Int)).toNat=j:=by
   rw[seqIndex_neg (by left) h4]at h1;rw[List.size_toArray,<- hl];exact aas h1
  exact abG (x:=w) pl.isList.typeIs slot_list_getitem.lookup
   (wpAny_getItem_list_neg (Q:=λr s'=>r=w/\EP X pins σ Q r s') pl.isList (by left) (by rw[List.size_toArray]<;>omega) (by left) (by rw[hj];simpa using ew) ⟨rfl,fin⟩) hs
theorem J9:Ib X (R8 X.K):=by
 intro value slice pins s σ H x y v u Q I rx ry h hs;obtain⟨p,xs,i,z,rfl,rfl,hq,he,q⟩:=h;cases rx;obtain⟨t,rfl⟩:=ry;obtain⟨aL,r,pl,hz⟩:=I.tuple hq;obtain⟨j,h1,h2,h3,h4,h5⟩:=x9 he;obtain⟨w,ew,ox⟩:=r.get h2;have hl:=r.length;have hn:=qG;have fin:EP X pins σ Q w s:=⟨z,H,I,ox,q⟩
 exact abG (x:=w) pl.typeIs slot_tuple_getitem.lookup
  (getItem_tuple (j:=j) (Q:=λr s'=>r=w/\EP X pins σ Q r s') pl (by left) (by left) (by rw[List.size_toArray,<- hl];exact h1) (by simpa using ew) ⟨rfl,fin⟩) hs
theorem vh(aL:aq)(n j:Nat)(u:Value):Obj.mapSeq (·.setIfInBounds j u) { cls:=.type "list",data:=.seq aL.toArray n }={ cls:=.type "list",data:=.seq (aL.set j u).toArray n }:=by
 simp[Obj.mapSeq]
theorem Inv.lst{pins:ak}{σ:St}{H:Hp}{s:Shared}{p:Addr}{xs:af}(I:Inv X pins σ H s)(h:H p=some (.lst xs)):
  ∃(aL:aq) (n:Nat),Vals xs aL/\s.heap.get? p=some { cls:=.type "list",data:=.seq aL.toArray n }/\xs.length<=sizeLine:=by
 obtain⟨z,aL,n,r,e⟩:=I.du p _ h;exact⟨aL,n,r,e,z⟩
theorem Inv.JZ{pins:ak}{s:Shared}{p:Addr}{xs ys:af}{aL its':aq}{n n':Nat}{f:Obj->Obj}(I:Inv X pins σ H s)(h:H p=some (.lst xs))
  (ho:s.heap.get? p=some { cls:=.type "list",data:=.seq aL.toArray n }) (hf:f { cls:=.type "list",data:=.seq aL.toArray n }={ cls:=.type "list",data:=.seq its'.toArray n' }) (r:Vals ys its') (hz:ys.length<=sizeLine) (t:Nat) :
  Inv X pins σ (upd H p (.lst ys)) { s with heap:=s.heap.update p f,toks:=t }:=by
 have e:(s.heap.update p f).get? p=some { cls:=.type "list",data:=.seq its'.toArray n' }:=by
  rw[Heap.get?_update_self f ho (by rw[hf]<;>rfl),hf]
 refine I.write (x:=p) (by rw[h];trivial) (λb u hb q=>(aaE _ _ (abj hb)).trans q) ⟨_,e⟩ ?_;exact⟨hz,its',n',r,e⟩
def Nl:V->V->V->Hp->(Hp->Prop)->Prop:=λo i v H Q=>∃p xs k j,o=.ref p/\i=.int k/\H p=some (.lst xs)/\qJ xs.length k=some j/\Q (upd H p (.lst (xs.set j v)))
theorem set_list:Qv X Nl:=by
 intro pins s σ H o i v ov iv u Q I ro ri rv h;obtain⟨p,xs,k,j,rfl,rfl,hp,hj,q⟩:=h;cases ro;obtain⟨t,rfl⟩:=ri;obtain⟨aL,n,r,ho,hz⟩:=I.lst hp;obtain⟨h1,h2,h3,h4⟩:=xi hj;have hl:=r.length;have hn:=qG;have I':Inv X pins σ (upd H p (.lst (xs.set j v))) { s with heap:=s.heap.update p (Obj.mapSeq (·.setIfInBounds j u)) } :=
  I.JZ hp ho (vh aL n j u) (r.set rv j) (by rw[List.length_set];exact hz) s.toks
 by_cases h0:0<=k
 ·have hk:k.toNat=j:=by
   rw[seqIndex_of h0 h4]at h1;exact aas h1
  exact PySem.W.ki_setAt ho h0 (by left) (by rw[List.size_toArray,<- hl];exact h4) (by rw[hk];exact⟨_,I',q⟩)
 ·have hk:(k+(aL.toArray.size:Int)).toNat=j:=by
   rw[seqIndex_neg (by left) h3]at h1;rw[List.size_toArray,<- hl];exact aas h1
  exact PySem.W.ki_setBack ho (by left) (by rw[List.size_toArray,<- hl];exact h3) (by left) (by rw[hk];exact⟨_,I',q⟩)
noncomputable def iT:V->Bool
 |.bF=>true
 |.bl _=>true
 |.int _=>true
 |.str _=>true
 |_=>false
noncomputable def Ge:V->V->Bool
 |.bF,.bF=>true
 |.bl a,.bl b=>a==b
 |.bl a,.int b=>(if a then 1 else 0)==b
 |.int a,.bl b=>a==(if b then 1 else 0)
 |.int a,.int b=>a==b
 |.str a,.str b=>a==b
 |_,_=>false
theorem Lg{A:aG}{s:Shared}{y x:V}{u v:Value}(ry:RelV y u)(rx:RelV x v)(fy:iT y=true)(fx:iT x=true):SeqAt.EqAt A s u v (Ge y x):=by
 cases y with
 |bF =>
  cases ry;cases x with
  |bF=>cases rx;exact abq _
  |bl b=>cases rx;exact abS b
  |int b=>obtain⟨t,rfl⟩:=rx;exact abW b t
  |str b=>obtain⟨t,rfl⟩:=rx;exact abX b t
  |_=>exact absurd (show false=true from fx) aad
 |bl a =>
  cases ry;cases x with
  |bF=>cases rx;exact abT a
  |bl b=>cases rx;exact abU a b
  |int b=>obtain⟨t,rfl⟩:=rx;exact abY a b t
  |str b=>obtain⟨t,rfl⟩:=rx;exact abZ a b t
  |_=>exact absurd (show false=true from fx) aad
 |int a =>
  obtain⟨t',rfl⟩:=ry;cases x with
  |bF=>cases rx;exact ab0 a t'
  |bl b=>cases rx;exact ab1 a t' b
  |int b=>obtain⟨t,rfl⟩:=rx;exact abu a t' b t
  |str b=>obtain⟨t,rfl⟩:=rx;exact ab5 a t' b t
  |_=>exact absurd (show false=true from fx) aad
 |str a =>
  obtain⟨t',rfl⟩:=ry;cases x with
  |bF=>cases rx;exact ab2 a t'
  |bl b=>cases rx;exact ab3 a t' b
  |int b=>obtain⟨t,rfl⟩:=rx;exact ab6 a t' b t
  |str b=>obtain⟨t,rfl⟩:=rx;exact ab7 a t' b t
  |_=>exact absurd (show false=true from fx) aad
 |_=>exact absurd (show false=true from fy) aad
def Gf(x:V)(u:Value):Bool:=match u with
 |.none=>Ge .bF x
 |.bool b=>Ge (.bl b) x
 |.int i _=>Ge (.int i) x
 |.str z _=>Ge (.str z) x
 |_=>false
theorem CB{x y:V}{u:Value}(r:RelV y u)(f:iT y=true):Gf x u=Ge y x:=by
 cases y with
 |bF=>cases r;rfl
 |bl b=>cases r;rfl
 |int i=>obtain⟨t,rfl⟩:=r;rfl
 |str z=>obtain⟨t,rfl⟩:=r;rfl
 |_=>exact absurd (show false=true from f) aad
theorem rM{x:V}:∀{xs:af} {us:aq},Vals xs us->xs.all iT=true->us.any (Gf x)=xs.any λy=>Ge y x
 |_,_,.nil,_=>rfl
 |y::xs,u::us,.cons r t,f=>by
  rw[List.all_cons,Bool.and_eq_true]at f;rw[List.any_cons,List.any_cons,CB r f.1,rM t f.2]
theorem m9{A:aG}{s:Shared}{x:V}{v:Value}(rx:RelV x v)(fx:iT x=true):∀{xs:af} {us:aq},Vals xs us->xs.all iT=true->∀u∈us,SeqAt.EqAt A s u v (Gf x u)
 |_,_,.nil,_=>λu hu=>by cases hu
 |y::xs,u::us,.cons r t,f=>λu' hu=>by
  rw[List.all_cons,Bool.and_eq_true]at f;rcases List.mem_cons.mp hu with rfl|hu
  ·rw[CB r f.1];exact Lg r rx f.1 fx
  ·exact m9 rx fx t f.2 u' hu
def QV(x:V)(xs:af):Bool:=xs.any λy=>Ge y x
def VG(K:ao)(neg:Bool):R2:=λx y H Q=>∃p xs,y=.ref p/\(dq K H p xs\/aX K H p xs)/\iT x=true/\xs.all iT=true/\Q (.bl (if neg then !QV x xs else QV x xs)) H
theorem yE:kD X (compareOp .In) (VG X.K false):=by
 intro pins s σ H x y v u Q I rx ry h;obtain⟨p,xs,rfl,hq,fx,fs,q⟩:=h;cases ry;rcases hq with hq|hq
 ·obtain⟨aL,r,pl,hz⟩:=I.list hq;refine SeqAt.in_listAt (Gf x) pl.isList (λw hw=>m9 rx fx r fs w (by simpa using hw)) ⟨.bl _,H,I,rfl,?_⟩;rw[show aL.toArray.any (Gf x)=aL.any (Gf x) by simp,rM r fs];exact q
 ·obtain⟨aL,r,pl,hz⟩:=I.tuple hq;refine SeqAt.in_tupleAt (Gf x) pl (λw hw=>m9 rx fx r fs w (by simpa using hw)) ⟨.bl _,H,I,rfl,?_⟩;rw[show aL.toArray.any (Gf x)=aL.any (Gf x) by simp,rM r fs];exact q
theorem rE:gI X (.builtin "len") (λxs H Q=>∃p ys,xs=[.ref p]/\(dq X.K H p ys\/aX X.K H p ys)/\Q (.int ys.length) H):=by
 intro pins s σ H xs us Q I r h;obtain⟨p,ys,rfl,hq,q⟩:=h;obtain⟨u,rfl,rx⟩:=vals1 r;cases rx;have hn:=qG;rcases hq with hq|hq
 ·obtain⟨aL,r',pl,hz⟩:=I.list hq;have hlen:=r'.length;exact Calls.call_len_list pl.isList (by simp only[List.size_toArray]<;>omega) ⟨.int ys.length,H,I.tok _,⟨s.toks+1,by rw[List.size_toArray,hlen]⟩,q⟩
 ·obtain⟨aL,r',pl,hz⟩:=I.tuple hq;have hlen:=r'.length;exact len_tuple pl (by simp only[List.size_toArray]<;>omega) ⟨.int ys.length,H,I.tok _,⟨s.toks+1,by rw[List.size_toArray,hlen]⟩,q⟩
theorem rC:gI X (.type "list") (λxs H Q=>∃p ys,xs=[.ref p]/\(dq X.K H p ys\/aX X.K H p ys)/\∀l,H l=none->Q (.ref l) (upd H l (.lst ys))):=by
 intro pins s σ H xs us Q I r h;obtain⟨p,ys,rfl,hq,q⟩:=h;obtain⟨u,rfl,rx⟩:=vals1 r;cases rx;have fin:∀(aL:aq),Vals ys aL->ys.length<=sizeLine->∀(h':Heap) (c':Nat),(∀b o',s.heap.get? b=some o'->h'.get? b=some o') ->
   h'.get? s.heap.objs.size=some { cls:=.type "list",dict:=none,data:=.seq aL.toArray c',slots:=#[] }->EP X pins σ Q (.ref s.heap.objs.size) { s with heap:=h' }:=λaL r' hz h' c' kp e =>
  ⟨.ref s.heap.objs.size,_,I.laid (t':=s.toks) kp (aah _) (show cU _ h' _ (.lst ys) from⟨hz,aL,c',r',e⟩),rfl,q _ (I.du.fresh (aah _))⟩
 rcases hq with hq|hq
 ·obtain⟨aL,r',pl,hz⟩:=I.list hq;have hlen:=r'.length;obtain⟨o,ho,hc,n,hd⟩:=pl.isList;exact call_list_seq p (.inl rfl) ho hc hd (λh' c' kp e=>fin aL r' hz h' c' kp e) (by simp only[List.size_toArray]<;>omega)
 ·obtain⟨aL,r',pl,hz⟩:=I.tuple hq;have hlen:=r'.length;obtain⟨o,ho,hc,n,hd⟩:=pl;exact call_list_seq p (.inr rfl) ho hc hd (λh' c' kp e=>fin aL r' hz h' c' kp e) (by simp only[List.size_toArray]<;>omega)
theorem oT:gI X (.type "tuple") (λxs H Q=>∃p ys,xs=[.ref p]/\((dq X.K H p ys/\∀l,H l=none->Q (.ref l) (upd H l (.tup ys)))\/(aX X.K H p ys/\Q (.ref p) H))):=by
 intro pins s σ H xs us Q I r h;obtain⟨p,ys,rfl,h⟩:=h;obtain⟨u,rfl,rx⟩:=vals1 r;cases rx;rcases h with ⟨hq,q⟩|⟨hq,q⟩
 ·obtain⟨aL,r',pl,hz⟩:=I.list hq;have hlen:=r'.length;refine call_tuple_list pl.isList (λh' kp=>?_) (by simp only[List.size_toArray]<;>omega);have I1:Inv X pins σ H { s with heap:=h' }:=I.kept (t':=s.toks) kp;have I2:Inv X pins σ (upd H h'.objs.size (.tup ys)) { s with heap:=h'.push { cls:=.type "tuple",data:=.seq aL.toArray } } :=
   I1.laid (t':=s.toks) (λb o e=>aac _ e) (aah _) (show cU _ _ _ (.tup ys) from⟨hz,aL,r',IsTup.new _ _⟩)
  exact⟨.ref h'.objs.size,_,I2,rfl,q _ (I1.du.fresh (aah _))⟩
 ·obtain⟨aL,r',pl,hz⟩:=I.tuple hq;exact call_tuple_same pl ⟨.ref p,H,I,rfl,q⟩
def Vx(K:ao)(T:String)(x:V)(H:Hp):Prop:=match x with
 |.ref p=>T = "list" /\ ∃xs,dq K H p xs
 |_=>False
theorem Iw{pins:ak}{s:Shared}{T:String}{x:V}{v:Value}(I:Inv X pins σ H s)(r:RelV x v)(ty:Vx X.K T x H):
  s.TypeIs v T/\∀a,v=.ref a->∃ob,s.heap.get? a=some ob/\ob.dict=none:=by
 cases x with
 |ref p =>
  cases r;obtain⟨rfl,xs,hq⟩:=ty;obtain⟨aL,_,pl,_⟩:=I.list hq;refine⟨pl.isList.typeIs,λa e=>?_⟩;cases e;obtain⟨o,n,e,c,hd,_⟩:=pl;exact⟨o,e,hd⟩
 |_=>exact False.elim ty
def Xr(K:ao)(T:String)(r:V->af->Hp->VK->Prop)(to:TE)(t:TA):TE:=λσ H Q=>to σ H λx H1=>Vx K T x H1/\t σ H1 λxs H2=>r x xs H2 Q
variable {o e:Expr}{es:aj}{to:TE}{t:TA}{name:Str}{apos vM:Pos}{T id:String}{r:V->af->Hp->VK->Prop}
theorem NB(pa:PlainAttrs T)(slot:Slot T name id)(Yj:typeOf (.builtin id)=pure (.type "method_descriptor"))(hm:W4 X id r)(ho:PE X o to)(ha:PA X (e::es) t)
  (O6:attributeBase o name X.env (eval o X.env)=eval o X.env:=by rfl)
  (hfew:((backTo vM (starEach (e::es) X.env)).all (λx=>!x.1)&&(backToKw vM (keywordEach [] X.env)).all (λx=>x.1.isSome)
   && decide ((e::es).length+([]:List Keyword).length+(if ([]:List Keyword).isEmpty then 0 else 1)<30))=true:=by rfl)
  (hline:(apos.endLine==vM.line)=true:=by rfl) (hs:starEach (e::es) X.env=(false,eval e X.env)::starEach es X.env:=by rfl) (Km:(backTo vM (starEach es X.env)).any (·.1)=false:=by rfl) :
  PE X (.Call (.Attribute o name apos) (e::es) [] vM) (Xr X.K T r to t):=by
 intro pins s σ H Q I h;refine wpAny_Call_method_late O6 hfew hline rfl (dv (ho pins s σ H _ I h) λv s1 bP=>?_);obtain⟨x,H1,I1,r1,ty,q1⟩:=bP;obtain⟨h1,h2⟩:=Iw I1 r1 ty;refine⟨T,id,pa,slot,Yj,h1,h2,?_⟩;have hA:=ha vM pins s1 σ H1 _ I1 q1;rw[hs]at hA ⊢;refine Calls.callWith_builtin (by show(false||(backTo vM (starEach es X.env)).any (·.1))=false;rw[Km]<;>rfl) (Calls.evalArgs_plain ?_);exact dv hA λus s2 ⟨vs,H2,I2,r2,q2⟩=>hm pins s2 σ H2 x vs v us Q I2 r1 r2 q2
/- xs.append(e),list.index on a module's tuple .. are W4 facts of 06m -/
end
end L2
namespace L2
open PySem PySem.Spec PyProof.Rows
def ZF(X:Cx)(id:String)(r:V->af->Hp->VK->Prop):Prop :=
 ∀(pins:ak) (s:Shared) (σ:St) (H:Hp) (x:V) (xs:af) (v:Value) (us:aq) (Q:VK),Inv X pins σ H s->RelV x v->Vals xs us->r x xs H Q ->
  wpAny (model X.prog X.w) X.A (call (.builtin id) (v::us)) (EP X pins σ Q) X.xe s
theorem Vals.one:∀{x:V} {us:aq},Vals [x] us->∃u,us=[u]/\RelV x u
 |_,_,.cons r .nil=>⟨_,rfl,r⟩
theorem Vals.reverse{xs:af}{us:aq}(h:Vals xs us):Vals xs.reverse us.reverse:=by
 induction h with
 |nil=>exact .nil
 |cons r t ih=>rw[List.reverse_cons,List.reverse_cons];exact Vals.append ih (.cons r .nil)
variable {aL:aq}{t':Nat}
section
variable {X:Cx}{pins:ak}{σ:St}{H:Hp}{s:Shared}{l b:Addr}{xs ys zs:af}
theorem Inv.lS{its':aq}{n:Nat}{f:aR->aR}(I:Inv X pins σ H s)(hH:H l=some (.lst xs))
  (e:s.heap.get? l=some { cls:=.type "list",data:=.seq aL.toArray n }) (hf:f aL.toArray=its'.toArray) (hv:Vals ys its') (hz:ys.length<=sizeLine) :
  Inv X pins σ (upd H l (.lst ys)) { s with heap:=s.heap.update l (Obj.mapSeq f),toks:=t' }:=by
 have q:=PySem.IsL.update e f;rw[hf]at q;refine I.write (x:=l) (by rw[hH];exact trivial) (λb' u hb hu=>(aaE s.heap (Obj.mapSeq f) (abj hb)).trans hu) ⟨_,q⟩ ?_;exact⟨hz,its',_,hv,q⟩
theorem Inv.J4(I:Inv X pins σ H s)(hv:Vals ys aL)(hz:ys.length<=sizeLine):
  Inv X pins σ (upd H s.heap.objs.size (.lst ys)) { s with heap:=s.heap.push { cls:=.type "list",data:=.seq aL.toArray },toks:=t' } :=
 I.laid (λ_ _ q=>aac _ q) (aah _) ⟨hz,aL,0,hv,aaj _ rfl⟩
theorem Inv.fresh(I:Inv X pins σ H s):H s.heap.objs.size=none:=I.du.fresh (aah _)
theorem Inv.J0(I:Inv X pins σ H s)(hH:H l=some (.lst xs)):xs.length<=sizeLine/\∃(aL:aq) (n:Nat),Vals xs aL/\xs.length=aL.length/\s.heap.get? l=some { cls:=.type "list",data:=.seq aL.toArray n }:=by
 obtain⟨z,aL,n,r,e⟩:=I.du l _ hH;exact⟨z,aL,n,r,r.length,e⟩
end
section
variable {X:Cx}
def ER:V->af->Hp->VK->Prop:=λx vs H Q=>∃l xs y,x=.ref l/\vs=[y]/\H l=some (.lst xs)/\xs.length<sizeLine/\Q .bF (upd H l (.lst (xs++[y])))
theorem yF:ZF X "list.append" ER:=by
 intro pins s σ H x vs v us Q I rx rv h;obtain⟨l,xs,y,rfl,rfl,hH,hz,q⟩:=h;cases rx;obtain⟨u,rfl,ru⟩:=rv.one;obtain⟨z,aL,n,r,hl,e⟩:=I.J0 hH;refine call_meets F.slot_list_append ⟨_,e,rfl⟩ F.entry_list_append (F.args_list_append_2 _ _) (PySem.list_append l aL.toArray n u (by rw[List.size_toArray];left)) ⟨e,?_⟩;refine⟨.bF,_,I.lS (its':=aL++[u]) hH e (by simp) (r.append (.cons ru .nil)) ?_,rfl,q⟩;rw[List.length_append,List.length_singleton];left
def Sa:R2:=λx y H Q=>∃l b xs zs,x=.ref l/\y=.ref b/\H l=some (.lst xs)/\H b=some (.lst zs)/\xs.length+zs.length<=sizeLine/\∀p,H p=none->Q (.ref p) (upd H p (.lst (xs++zs)))
theorem JL:kD X (binaryOp .Add) Sa:=by
 intro pins s σ H x y v u Q I rx ry h;obtain⟨l,b,xs,zs,rfl,rfl,hH,hB,hz,q⟩:=h;cases rx;cases ry;obtain⟨z,aL,n,r,hl,e⟩:=I.J0 hH;obtain⟨z2,qK,n2,r2,rT,e2⟩:=I.J0 hB;refine PySem.P.add_list e e2 ?_ (by rw[List.size_toArray,List.size_toArray];left);have ea:aL.toArray++qK.toArray=(aL++qK).toArray:=by simp
 rw[ea];exact⟨.ref _,_,I.J4 (t':=s.toks) (r.append r2) (by rw[List.length_append];left),rfl,q _ I.fresh⟩
end
end L2
namespace Att
open PySem PySem.W PySem.Calls PyProof.Rows
variable {h:Heap}
theorem lT{P:Params}:∀(ns:aa) (vs:aq),WellAll P h vs (ns.map WData.int)->IntsAre vs ns:=by
 intro ns;induction ns with
 |nil =>
  intro vs w;rw[List.map_nil]at w;cases w;exact .nil
 |cons n ns ih =>
  intro vs w;rw[List.map_cons]at w;cases w with
  |cons a b =>
   cases a;exact .cons _ _ (ih _ b)
theorem yv{l:OpenLaw}{n:Nat}(hn:l.most=some n){P:Params}{args:List WData}{vals:aq}
  (FU:l.row.toRowW.claim.pre args=true) (SW:WellAll P h vals args) :
  ∃a vs ns,vals=[Value.ref a]/\args=[WData.list (ns.map WData.int)]/\h.get? a=some { cls:=.type "list",data:=.seq vs.toArray }/\IntsAre vs ns/\ns.length<=n:=by
 have S9:WShape.hasAll [] args [.list .int]=true:=(pre_splitW FU).1;have hc:l.pre.holds [] { args:=args }=true:=(pre_splitW FU).2;obtain⟨d,r,rfl,h1,h2⟩:=hasAllW_cons S9;obtain rfl:=hasAllW_nil h2;obtain⟨xs,rfl,h3⟩:=hasW_list h1;obtain⟨ns,rfl⟩:=items_int h3;have hlen:ns.length<=n:=by
  unfold OpenLaw.pre at hc;have h4:(WTm.not (.lt (.lit (.int (n:Int))) (.len (.arg 0)))).holds [] { args:=[.list (ns.map .int)] }=true:=by
   have h4:=(holds_andW hc).1;rw[hn]at h4;exact h4
  have h5:=condW_of h4 (w_not (w_lt w_lit (w_len_list (w_arg rfl))));rw[List.length_map]at h5;refine Nat.le_of_not_lt λq=>?_;have q':(n:Int)<((ns.length:Nat):Int):=by left
  first
   | (rw[decide_eq_true q']at h5;exact absurd h5 (by decide))
   | (simp at h5;left)
 cases SW with
 |cons w1 w2 =>
  cases w2;cases w1 with
  |list ho hall=>exact⟨_,_,ns,rfl,rfl,ho,lT ns _ hall,hlen⟩
theorem yA(l:OpenLaw)(args:List WData):l.row.toRowW.claim.post args (.bool true) args=true :=
 postW_of (r:=l.row.toRowW) (X:=(true==true))
  (show WShape.has [] (.bool true) .bool=true by first|rfl|decide|simp[WShape.has,WShape.arms,WShape.armsAll])
  (show(WTm.eq .res (.lit (.bool true))).value [] { args:=args,res:=some (.bool true),after:=args }=some (.bool (true==true)) from w_eq_bool (w_res rfl) w_lit) rfl
theorem uu{l:OpenLaw}{n:Nat}{q:aF}{loose:ai}{XP:(bc)->Heap->Prop}{YP:World->Heap->Prop}{d:DefRec}
  (hn:l.most=some n) (OY:d.params.defaults=[])
  (call:∀(w:World) (s₀ s₁:Shared) (mg mb:bc) (fa:Addr) (o:Obj) (pm cd doc:Value) (a:Addr) (vs:aq) (ns:aa),
   Ground q loose [] XP w s₀ mg mb s₁.heap->YP w s₁.heap ->
   s₁.heap.get? fa=some o->o.data=.func (docDef d.name d.params d.body d.scope pm cd doc)->s₁.heap.CodeRec cd d.name->mg d.name=some (.ref fa) ->
   s₁.heap.get? a=some { cls:=.type "list",data:=.seq vs.toArray }->IntsAre vs ns->ns.length<=n->s₁.gens = #[] ->
   codeAny (model l.prog w) callerA (.call (.ref fa) ⟨[.ref a],[]⟩) (λr s'=>r=.ok (.ret (.bool true))/\OldK s₁.heap s'.heap/\s'.os=s₁.os/\AllBare s'.gens) s₁) :
  WalkO q loose XP YP l.row.toRowW d [] (λf vs=>PySem.call f vs):=by
 intro w s₀ s₁ mg mb G Y fa o pm cd doc dV kV ho hd Cd hD hmg hg args vals as FU Yv Z1 SW Z4;obtain rfl:dV=.none:=Dflts.none hD OY;obtain rfl:kV=.none:=Dflts.noKw hD;obtain⟨a,vs,ns,rfl,rfl,Kn,hints,hlen⟩:=yv hn FU SW;refine enter_call (abk (call w s₀ s₁ mg mb fa o pm cd doc a vs ns G Y ho (fd_plain hd) Cd hmg Kn hints hlen hg) λr s' hq=>?_);obtain⟨rfl,h2,h3,h4⟩:=hq;exact⟨.inl ⟨.bool true,.bool true,[],rfl,λ_=>rfl,.bool true,yA l _,λ_=>⟨List.Pairwise.nil,λ_ hm=>(nomatch hm)⟩⟩,h2,h3,h4⟩
end Att
namespace L2
open PySem PySem.Spec PyProof.Rows
theorem i4:∀{vs:aq} {ns:aa},IntsAre vs ns->Vals (ns.map V.int) vs
 |_,_,.nil=>.nil
 |_,_,.cons n t h=>.cons ⟨t,rfl⟩ (i4 h)
def G0(H:Hp):Prop:=∀b,H b=none\/∃o xs,H b=some (.jj o (.lst xs))
theorem BG{P:aF}{w:World}{K:ao}{mg mb:bc}{CX:DE}{k:Nat}{fa a:Addr}{fd:FuncData}{x:Str}{sp:Sp}{s₁:Shared}{vs:aq}{ns:aa}
  (KX:K.In s₁.heap) (zI:s₁.heap.Ns mainGlobals mg) (hb:s₁.heap.Ns builtinsNs mb) (YF:∀x:Str,x ≠ "__name__" -> mb x=bootBuiltins x) (TB:s₁.heap.NoLimit) (hg:s₁.gens = #[])
  (ha:s₁.heap.get? a=some { cls:=.type "list",data:=.seq vs.toArray }) (hi:IntsAre vs ns) (hl:ns.length<=sizeLine) (hr:gm k callerA)
  (F:∀base:Heap,K.In base->base.Ns mainGlobals mg->jn P w K mg base CX k fa fd [x] sp) (O5:∀(s:Shared) (u:Value),BindsTo s fd ⟨[u],[]⟩ [(x,u)])
  (DK:∀H:Hp,G0 H->dq K H a (ns.map V.int)->sp [.ref a] H (λv _=>v=.bl true) λ_ _ _=>False)
  (Ud:∀H e s',CX [] H s₁ (λ_ _ _=>False) e s'->False) :
  codeAny (model P w) callerA (.call (.ref fa) ⟨[.ref a],[]⟩) (λr s'=>r=.ok (.ret (.bool true))/\OldK s₁.heap s'.heap/\s'.os=s₁.os/\AllBare s'.gens) s₁:=by
 have rv:=i4 hi;have Sv:=hi.length;have core:∀H:Hp,G0 H->dq K H a (ns.map V.int)->k8 H s₁.heap->(∀b,H b≠none->b=a)->(H a≠none->K.lookup a=none) ->
   codeAny (model P w) callerA (.call (.ref fa) ⟨[.ref a],[]⟩) (λr s'=>r=.ok (.ret (.bool true))/\OldK s₁.heap s'.heap/\s'.os=s₁.os/\AllBare s'.gens) s₁:=by
  intro H hO hS du hA hK;have x2:∀{b:Addr} {o:Obj},s₁.heap.get? b=some o->H b=none->(qP s₁.heap H).get? b=some o:=λe n=>Cb e n;have NS:∀{b:Addr} {o:Obj} {es:Array DictEntry} {ep:Nat},s₁.heap.get? b=some o->o.data=.dict es ep->H b=none:=λ{b o es ep} e d=>by
   cases q:H b with
   |none=>rfl
   |some u =>
    have e':b=a:=hA b (by rw[q];simp);subst e';rw[ha]at e;cases e;have d':Data.seq vs.toArray _=Data.dict es ep:=d;cases d'
  have QR:∀{b:Addr} {m:bc},s₁.heap.Ns b m->(qP s₁.heap H).Ns b m:=λ{b m} ⟨o,es,ep,e,d,r⟩=>⟨o,es,ep,x2 e (NS e d),d,r⟩
  have WB:K.In (qP s₁.heap H):=λb o e=>x2 (KX b o e) (by
   cases q:H b with
   |none=>rfl
   |some u =>
    have e':b=a:=hA b (by rw[q];simp);subst e';rw[hK (by rw[q];simp)]at e;cases e)
  have hM:Mod K mg (qP s₁.heap H):=⟨WB,QR zI,⟨mb,QR hb,YF⟩,let ⟨mc,h1,h2⟩:=TB;⟨mc,QR h1,h2⟩⟩
  have e0:G4 P w K mg (qP s₁.heap H) callerA [] s₁ H:=⟨rfl,hM,λb o e=>Fq e,Nat.le_of_eq (yS _ _),trivial,λb hb=>absurd (show b∈([]:aZ) from hb) (by simp),du,.of_eq hg⟩
  refine abk ((F _ WB (QR zI)).run callerA [] s₁ H ⟨[.ref a],[]⟩ [.ref a] [.ref a] _ _ hr e0 (O5 s₁ (.ref a)) (.cons rfl .nil) (DK H hO hS)) λr s' h=>?_;cases r with
  |error e=>exact(Ud H e s' h).elim
  |ok fl =>
   cases fl with
   |next=>exact False.elim h
   |brk=>exact False.elim h
   |cont=>exact False.elim h
   |ret u =>
    obtain⟨v,H',os,bare,un,Tp,r',q⟩:=h;have q':v=.bl true:=q;subst q';obtain rfl:u=Value.bool true:=r';refine⟨rfl,OldK.of_keep λb o e=>?_,os,bare⟩;cases q:H b with
    |none=>exact un.keep b o e q (by intro z;exact absurd (show b∈([]:aZ) from z) (by simp)) (by simp)
    |some u =>
     rcases hO b with z|⟨ob,xs,z⟩
     ·rw[q]at z;cases z
     ·have z2:=un.oR b ob _ z;obtain⟨e1,_⟩:=du b _ z;obtain⟨e2,_⟩:=Tp b _ z2;rw[e]at e1;cases e1;exact e2
 cases hk:K.lookup a with
 |some o =>
  have e:=KX a o hk;rw[ha]at e;cases e;refine core (λ_=>none) (λ_=>.inl rfl) (.inr ⟨_,vs.toArray,_,hk,rfl,rfl,rfl,by rw[List.size_toArray,Sv];exact hl,by simpa using rv⟩) (λb u z=>by have z':(none:Option HO)=some u:=z;cases z') (λb z=>absurd rfl z) λz=>absurd rfl z
 |none =>
  refine core (λb=>if b=a then some (.jj { cls:=.type "list",data:=.seq vs.toArray } (.lst (ns.map V.int)))else none) (λb=>?_) (.inl (.inr ⟨{ cls:=.type "list",data:=.seq vs.toArray },aaO rfl⟩)) (λb u z=>?_) (λb z=>?_) λ_=>hk
  ·by_cases hb:b=a
   ·exact .inr ⟨_,_,aaO hb⟩
   ·exact .inl (ab8 hb)
  ·by_cases hb:b=a
   ·have z':=(aaO hb).symm.trans z;cases z';subst hb;exact⟨ha,by rw[List.length_map];exact hl,vs,_,rv,ha⟩
   ·have z':=(ab8 hb).symm.trans z;cases z'
  ·by_cases hb:b=a
   ·exact hb
   ·exact absurd (ab8 hb) z
end L2
namespace L2
open PySem PySem.Spec PyProof.Rows
theorem D1{l:PySem.W.OpenLaw}{n k:Nat}{q:aF}{loose:ai}{XP:(bc)->Heap->Prop}{YP:World->Heap->Prop}{d:DefRec}{K:Params->ao}{CX:World->DE}{sp:World->Sp}{x:Str}
  (hn:l.most=some n) (L6:n<=sizeLine) (OY:d.params.defaults=[]) (hr:gm k callerA)
  (hY:∀(w:World) (h:Heap),YP w h->(K w.params).In h)
  (F:∀(w:World) (mg:bc) (fa:Addr) (h:Heap),(K w.params).In h->h.Ns mainGlobals mg->mg d.name=some (.ref fa) ->
   ∃fd:FuncData,(∀(s:Shared) (u:Value),BindsTo s fd ⟨[u],[]⟩ [(x,u)]) /\
    ∀base:Heap,(K w.params).In base->base.Ns mainGlobals mg->jn l.prog w (K w.params) mg base (CX w) k fa fd [x] (sp w))
  (DK:∀(w:World) (H:Hp) (a:Addr) (ns:aa),ns.length<=n->G0 H->dq (K w.params) H a (ns.map V.int)->sp w [.ref a] H (λv _=>v=.bl true) λ_ _ _=>False)
  (Ud:∀(w:World) (H:Hp) (s:Shared) (e:Value) (s':Shared),CX w [] H s (λ_ _ _=>False) e s'->False) :
  PySem.W.WalkO q loose XP YP l.row.toRowW d [] (λf vs=>PySem.call f vs):=by
 refine Att.uu hn OY λw s₀ s₁ mg mb fa o pm cd doc a vs ns G Y ho hd Cd hmg Kn hints hlen hg=>?_;have KX:=hY w _ Y;obtain⟨fd,hb,hF⟩:=F w mg fa _ KX G.T.g hmg;exact BG KX G.T.g G.T.b G.T.builtins G.T.nolimit hg Kn hints (aao hlen L6) hr hF hb (λH hO hS=>DK w H a ns hlen hO hS) λH e s'=>Ud w H s₁ e s'
end L2
namespace L2
open PySem PySem.Spec PyProof.Rows
noncomputable def f_(s:Stmt):Arguments:=match s with
 |.FunctionDef _ a _ _ _ _ _ _ _ _=>a
 |_=>{ posonlyargs:=[],args:=[],vararg:=none,kwonlyargs:=[],kw_defaults:=[],kwarg:=none,defaults:=[] }
noncomputable def dB(s:Stmt):aS:=match s with
 |.FunctionDef _ _ b _ _ _ _ _ _ _=>b
 |_=>[]
noncomputable def bE(s:Stmt):Scope:=match s with
 |.FunctionDef _ _ _ _ _ _ sc _ _ _=>sc
 |_=>{ kind:=.function,names:=[],isGenerator:=false,isCoroutine:=false }
noncomputable abbrev zQ:DE:=λ_ _ _ _ _ _=>False
noncomputable abbrev E0:XK:=λ_ _ _=>False
theorem ND{X:Cx}:Passes zQ X E0:=λ_ _ _ _ _ _ _ h=>h.elim
structure G3(K:ao)(x qual:Str)(st:Stmt)(f:Addr)(fd:FuncData):Prop where
 ex:∃(oc:Value) (od:Option Addr) (kV doc pm:Value) (an:Option Addr) (ju ct:Value) (zE:Array (Option Value)),
  fd=PySem.W.fnOf x qual (f_ st) (dB st) (bE st) .none kV doc pm an ju ct/\K.lookup f=some ⟨oc,od,.func fd,zE⟩/\PySem.W.codeIn K ju qual=true
 kp:PySem.W.keepIn K (.ref f)=true
variable {ps:ai}{qual:Str}{st:Stmt}
section
variable {P:aF}{w:World}{K:ao}{mg:bc}{base:Heap}
theorem G3.ok{x:Str}{f:Addr}{fd:FuncData}{N:ai}{k:Nat}{sp:Sp}(F:G3 K x qual st f fd)(S:jh N ps (bE st))(len:∀vs H Q E,sp vs H Q E->vs.length=ps.length)
  (Ce:∀(ju:Value) (A:aG) (outer:List Env) (s:Shared) (H:Hp) (vs:af) (Q:VK) (E:XK),gm k (A.deeper (envOfC qual (bE st) s.heap.objs.size f ju))->sp vs H Q E ->
   ∃t,mA (vL zQ P w K mg base N qual (bE st) f ju A outer s H E).NQ (dB st) t/\t { nx:=λ_ H'=>Q .bF H',rt:=Q } (start N vs) H):jn P w K mg base zQ (k+1) f fd ps sp:=by
 obtain⟨oc,od,kV,doc,pm,an,ju,ct,zE,rfl,lk,Cd⟩:=F.ex;refine PM lk Cd S len λA outer s H vs Q E hr DK=>?_;obtain⟨t,h,q⟩:=Ce ju A outer s H vs Q E hr DK;exact⟨t,h.NQ,q⟩
theorem G3.binds{x:Str}{f:Addr}{fd:FuncData}(F:G3 K x qual st f fd)
  (h:∀(kV doc pm:Value) (an:Option Addr) (ju ct:Value) (us:aq),us.length=ps.length->bindArgs (PySem.W.fnOf x qual (f_ st) (dB st) (bE st) .none kV doc pm an ju ct) ⟨us,[]⟩=pure (ps.zip us)):Binds K fd ps []:=by
 obtain⟨oc,od,kV,doc,pm,an,ju,ct,zE,rfl,lk,Cd⟩:=F.ex;exact .all (h kV doc pm an ju ct)
theorem KN{x:Str}{f:Addr}{oc:Value}{od an:Option Addr}{zE:Array (Option Value)}{kV doc pm ju ct:Value}(l:K.lookup f=some ⟨oc,od,.func (PySem.W.fnOf x qual (f_ st) (dB st) (bE st) .none kV doc pm an ju ct),zE⟩)
  (c:PySem.W.codeIn K ju qual=true) (k:PySem.W.keepIn K (.ref f)=true):G3 K x qual st f (PySem.W.fnOf x qual (f_ st) (dB st) (bE st) .none kV doc pm an ju ct):=⟨⟨oc,od,kV,doc,pm,an,ju,ct,zE,rfl,l,c⟩,k⟩
end
theorem B4{A:aG}{k:Nat}(hr:gm k A):A.units+1<cLine:=aaz (Nat.add_le_add_left (by decide:1<=64) _) hr.units
def aI(H H':Hp):Prop:=∀b o,H b=some o->H' b=some o
theorem aI.refl(H:Hp):aI H H:=λ_ _ h=>h
variable {H H':Hp}
theorem aI.trans{H1 H2:Hp}(a:aI H H1)(b:aI H1 H2):aI H H2:=λc o h=>b c o (a c o h)
theorem aI.free(e:aI H H'){l:Addr}(h:H' l=Option.none):H l=Option.none:=by
 cases q:H l with
 |none=>rfl
 |some o =>
  rw[e l o q]at h;cases h
theorem aI.seq{K:ao}{a:Addr}{xs:af}(e:aI H H')(h:dq K H a xs):dq K H' a xs:=by
 rcases h with (h|⟨o,h⟩)|h
 ·exact .inl (.inl (e _ _ h))
 ·exact .inl (.inr ⟨o,e _ _ h⟩)
 ·exact .inr h
end L2
set_option autoImplicit false
set_option linter.all false
set_option Elab.async false
set_option maxRecDepth 100000
set_option maxHeartbeats 4000000
section
namespace DI
open PySem (Str Expr Stmt Scope NameKind)
inductive Fl where|ow|fz|al|sc
 deriving DecidableEq
inductive D where
 |bF|bl (b:Bool)|int (i:Int)|str (s:Str)
 |tup (ds:List D)
 |lst (f:Fl) (ds:List D)
 |cM (f:Fl) (ks:au) (vs:List D)
abbrev aH:=Option D
abbrev ab:=List D
mutual
noncomputable def aA(g:Fl->Fl):D->D
 |.tup ds=>.tup (av g ds)
 |.lst f ds=>.lst (g f) (av g ds)
 |.cM f ks vs=>.cM (g f) ks (av g vs)
 |.bF=>.bF
 |.bl b=>.bl b
 |.int i=>.int i
 |.str s=>.str s
noncomputable def av(g:Fl->Fl):ab->ab
 |[]=>[]
 |d::ds=>aA g d::av g ds
end
theorem aO(g:Fl->Fl):∀ds:ab,av g ds=ds.map (aA g)
 |[]=>rfl
 |d::ds=>by rw[av,aO g ds];rfl
noncomputable def aP:Fl->Fl|.ow=>.al|f=>f
noncomputable def gB:Fl->Fl|.fz=>.al|f=>f
noncomputable def aK:Fl->Fl|.sc=>.sc|_=>.fz
noncomputable def iO:Fl->Bool|.sc=>true|_=>false
mutual
noncomputable def aU(p:Fl->Bool):D->Bool
 |.tup ds=>aN p ds
 |.lst f ds=>p f||aN p ds
 |.cM f ks vs=>p f||aN p vs
 |_=>false
noncomputable def aN(p:Fl->Bool):ab->Bool
 |[]=>false
 |d::ds=>aU p d||aN p ds
end
noncomputable def bD:Fl->Bool|.al=>true|_=>false
noncomputable def eL:Fl->Bool|.ow=>true|_=>false
noncomputable def anyF:Fl->Bool:=λ_=>true
mutual
noncomputable def kj:D->D->Bool
 |.bF,.bF=>true
 |.bl a,.bl b=>a==b
 |.bl a,.int b=>(if a then 1 else 0)==b
 |.int a,.bl b=>a==(if b then 1 else 0)
 |.int a,.int b=>a==b
 |.str a,.str b=>a==b
 |.tup a,.tup b=>fu a b
 |.lst _ a,.lst _ b=>fu a b
 |_,_=>false
noncomputable def fu:ab->ab->Bool
 |[],[]=>true
 |a::as,b::bs=>kj a b&&fu as bs
 |_,_=>false
end
noncomputable def eA:Nat->D->Bool
 |_,.bF=>true
 |_,.bl _=>true
 |_,.int _=>true
 |_,.str _=>true
 |n+1,.tup ds=>ds.all (eA n)
 |n+1,.lst _ ds=>ds.all (eA n)
 |_,_=>false
noncomputable abbrev O(α:Type):=Option (Except Nat α)
abbrev aw:=ab->O D
noncomputable def ok{α:Type}(a:α):O α:=some (.ok a)
noncomputable def bd{α β:Type}(x:O α)(f:α->O β):O β:=match x with
 |some (.ok a)=>f a
 |some (.error c)=>some (.error c)
 |none=>none
@[simp]theorem QT{α:Type}{a:α}:((none:O α)=ok a)=False:=by simp[ok]
@[simp]theorem Sn{α:Type}{a b:α}:(ok a=ok b)=(a=b):=by simp[ok]
@[simp]theorem UJ{α:Type}{a:α}{c:Nat}:((some (.error c):O α)=ok a)=False:=by simp[ok]
@[simp]theorem Hy{α:Type}{p:Prop}[Decidable p]{a b:α}:((if p then ok a else none)=ok b)=(p/\a=b):=by
 by_cases h:p<;>simp[h]
@[simp]theorem SS{α:Type}{p:Prop}[Decidable p]{a b:α}:((if p then none else ok a)=ok b)=(¬ p/\a=b):=by
 by_cases h:p<;>simp[h]
theorem nk{α:Type}{a:α}{P:Prop}(h:(none:Option α)=some a):P:=nomatch h
theorem aB{α β:Type}{x:O α}{f:α->O β}{b:β}(h:bd x f=ok b):∃a,x=ok a/\f a=ok b:=by
 unfold bd at h
 match x,h with
 |some (.ok a),h=>exact⟨a,rfl,h⟩
 |some (.error c),h=>cases h
 |none,h=>cases h
inductive G5 where|add|sub|mul|fdiv|mod|pow
 deriving DecidableEq
inductive zR where|eq|ne|lt|le|gt|ge|Kf|qy|tM
 deriving DecidableEq
inductive Ty where|int|bool|str|list|tuple
 deriving DecidableEq
inductive Bf where|len|abs|min2|list1|tuple1|jz|all1|gN
 deriving DecidableEq
inductive Tg where|nm(i:Nat)|tp(is:aM)
 deriving DecidableEq
inductive IK where|kF|seq|bO(p:Nat)
 deriving DecidableEq
inductive GK where|i(z:Int)
 deriving DecidableEq
inductive CE where
 |bF|bl (b:Bool)|int (i:Int)|str (s:Str)|glo (x:Str) (i:Int)
 |v (i:Nat)
 |bin (op:G5) (a b:CE)
 |neg (a:CE)|not (a:CE)|and (es:List CE)|or (es:List CE)|ite (c a b:CE)
 |cmp (op:zR) (a b:CE)
 |jW (a:CE) (t:Ty)
 |call (f:Nat) (es:List CE)
 |bf (f:Bf) (es:List CE)
 |ix (a b:CE)
 |lS (a:CE)
 |tup (es:List CE)|lst (es:List CE)
 |bO (p:Nat) (es:List CE)
 |comp (n:Nat) (t:Tg) (caps:aM) (ik:IK) (es bI:List CE) (elt:CE)
abbrev aE:=List CE
inductive CI where|kF(a:CE)|seq(a:CE)|EW(p:Nat)(es:aE)
inductive CS where
 |asg (t:Tg) (e:CE)|par (i j:Nat) (a b:CE)|ret (e:CE)|rs (c:Nat)|ex (e:CE)
 |mut (p i:Nat) (es:aE)|app (i:Nat) (e:CE)|setI (i:Nat) (k e:CE)
 |ifs (c:CE) (a b:List CS)
 |Im (c:CE) (b:List CS)
 |fr (t:Tg) (it:CI) (b:List CS)
abbrev ag:=List CS
noncomputable abbrev bo:=List (aH)
noncomputable abbrev aY:=Nat->aw
noncomputable def big:Nat:=2 ^ 9000
def ie(i j:Int):Bool:=decide (i.natAbs<2 ^ 64)||decide (j.natAbs<2 ^ 64)||(decide (i.natAbs<big)&&decide (j.natAbs<big))
def pO(j:Int):Bool:=decide (j≠0)&&decide (j.natAbs<big)
noncomputable def wR(i j:Int):Bool:=decide (0<=j)&&decide (j<=1000000)&&decide (i.natAbs<2 ^ 64)
noncomputable def fY:Nat:=1000000
theorem pz{α:Type}{c:Prop}[inst:Decidable c]{v d:α}(h:(if c then ok v else none)=ok d):c/\v=d:=by
 cases inst with
 |isTrue hc=>exact⟨hc,Except.ok.inj (aas h)⟩
 |isFalse hc=>cases h
def bM:G5->D->D->O D
 |.add,.int i,.int j=>ok (.int (i+j))
 |.add,.lst f a,.lst g b=>if iO f=false/\iO g=false/\a.length+b.length<=fY then ok (.lst .ow (av aP (a++b)))else none
 |.add,.tup a,.tup b=>if a.length+b.length<=fY then ok (.tup (av aP (a++b)))else none
 |.sub,.int i,.int j=>ok (.int (i - j))
 |.mul,.int i,.int j=>if ie i j then ok (.int (i*j))else none
 |.fdiv,.int i,.int j=>if pO j then ok (.int (i.fdiv j))else none
 |.mod,.int i,.int j=>if j≠0 then ok (.int (i.fmod j))else none
 |.pow,.int i,.int j=>if wR i j then ok (.int (i ^ j.toNat))else none
 |_,_,_=>none
def inD(x:D):ab->Bool
 |[]=>false
 |y::ys=>kj y x||inD x ys
noncomputable def gC:D->Bool
 |.bF=>true|.bl _=>true|.int _=>true|.str _=>true|_=>false
noncomputable def Ka:D->Option (ab)
 |.tup ds=>some ds
 |.lst _ ds=>some ds
 |_=>none
def dH:zR->D->D->O D
 |.eq,a,b=>if eA 40 a&&eA 40 b then ok (.bl (kj a b))else none
 |.ne,a,b=>if eA 40 a&&eA 40 b then ok (.bl (!kj a b))else none
 |.lt,.int i,.int j=>ok (.bl (decide (i<j)))
 |.le,.int i,.int j=>ok (.bl (decide (i<=j)))
 |.gt,.int i,.int j=>ok (.bl (decide (j<i)))
 |.ge,.int i,.int j=>ok (.bl (decide (j<=i)))
 |.Kf,a,.bF=>ok (.bl (match a with|.bF=>true|_=>false))
 |.qy,a,.bF=>ok (.bl (match a with|.bF=>false|_=>true))
 |.tM,a,b=>match Ka b with
  |some ds=>if gC a&&ds.all gC then ok (.bl (inD a ds))else none
  |none=>none
 |_,_,_=>none
noncomputable def bJ:Ty->D->Bool
 |.int,.int _=>true|.int,.bl _=>true
 |.bool,.bl _=>true
 |.str,.str _=>true
 |.list,.lst _ _=>true
 |.tuple,.tup _=>true
 |_,_=>false
noncomputable def qJ(n:Nat)(i:Int):Option Nat:=if 0<=i then(if i<n then some i.toNat else none)else if -(n:Int)<=i then some (i+n).toNat else none
def mx(ds:ab)(i:Int):O D:=match(qJ ds.length i).bind λj=>ds[j]? with
 |some d=>ok (aA aP d)
 |none=>none
def BN:D->D->O D
 |.tup ds,.int i=>mx ds i
 |.lst _ ds,.int i=>mx ds i
 |_,_=>none
noncomputable def intsOf:ab->Option (aa)
 |[]=>some []
 |.int i::ds=>(intsOf ds).map (i :: ·)
 |_::_=>none
noncomputable def iV:ab->Option (List Bool)
 |[]=>some []
 |.bl i::ds=>(iV ds).map (i :: ·)
 |_::_=>none
theorem cJ:∀{ds:ab} {ns:aa},intsOf ds=some ns->ds=ns.map D.int
 |[],ns,h=>by simp[intsOf]at h;subst h;rfl
 |d::ds,ns,h=>by
  cases d<;>simp[intsOf]at h;obtain⟨ms,h1,rfl⟩:=h;rw[cJ h1];rfl
theorem uq:∀{ds:ab} {bs:List Bool},iV ds=some bs->ds=bs.map D.bl
 |[],bs,h=>by simp[iV]at h;subst h;rfl
 |d::ds,bs,h=>by
  cases d<;>simp[iV]at h;obtain⟨ms,h1,rfl⟩:=h;rw[uq h1];rfl
theorem bA:∀ns:aa,intsOf (ns.map D.int)=some ns
 |[]=>rfl
 |n::ns=>by simp[intsOf,bA ns]
theorem kZ:∀bs:List Bool,iV (bs.map D.bl)=some bs
 |[]=>rfl
 |b::bs=>by simp[iV,kZ bs]
noncomputable def sortI(ns:aa):aa:=ns.mergeSort (λa b=>decide (a<=b))
def sE(ds:ab):O D:=match intsOf ds with
 |some ns=>if ns.length<64 then ok (.lst .ow ((sortI ns).map D.int))else none
 |none=>none
def n9:Bf->aw
 |.len,xs=>match xs with
  |[.tup ds]=>ok (.int ds.length)
  |[.lst _ ds]=>ok (.int ds.length)
  |_=>none
 |.abs,xs=>match xs with
  |[.int i]=>ok (.int (if i<0 then -i else i))
  |_=>none
 |.min2,xs=>match xs with
  |[.int i,.int j]=>ok (.int (if j<i then j else i))
  |_=>none
 |.list1,xs=>match xs with
  |[.lst _ ds]=>ok (.lst .ow (av aP ds))
  |[.tup ds]=>ok (.lst .ow (av aP ds))
  |_=>none
 |.tuple1,xs=>match xs with
  |[.lst _ ds]=>ok (.tup (av aP ds))
  |_=>none
 |.jz,xs=>match xs with
  |[.lst _ ds]=>(match intsOf ds with
   |some ns=>ok (.int ns.sum)
   |none=>none)
  |_=>none
 |.all1,xs=>match xs with
  |[.lst _ ds]=>(match iV ds with
   |some bs=>ok (.bl (bs.all id))
   |none=>none)
  |_=>none
 |.gN,xs=>match xs with
  |[.tup ds]=>sE ds
  |_=>none
noncomputable def eB(ns:aa):aa:=ns.foldl (λ(m:aa) (k:Int)=>if m.any (· == k)then m else m++[k]) []
def xa:D->O D
 |.tup ds=>(match intsOf ds with
  |some ns=>if ns.length<4000 then ok (.int (eB ns).length)else none
  |none=>none)
 |_=>none
noncomputable def gL:D->O Bool
 |.bl b=>ok b
 |_=>none
noncomputable def intD:D->O Int
 |.int i=>ok i
 |_=>none
noncomputable def vc:Option (aH)->Option (ab)
 |some (some (.lst .ow ds))=>some ds
 |_=>none
theorem w5{o:Option (aH)}{ds:ab}(h:vc o=some ds):o=some (some (.lst .ow ds)):=by
 unfold vc at h;split at h<;>cases h;rfl
theorem FR{d:D}{i:Int}(h:intD d=ok i):d=.int i:=by
 cases d<;>simp[intD]at h;rw[h]
noncomputable def Fx:D->O D
 |.int i=>ok (.int (-i))
 |_=>none
def ib:aM->ab->bo->O bo
 |[],[],ρ=>ok ρ
 |i::is,d::ds,ρ=>if i<ρ.length then ib is ds (ρ.set i (some d))else none
 |_,_,_=>none
def cu:Tg->D->bo->O bo
 |.nm i,d,ρ=>if i<ρ.length then ok (ρ.set i (some d))else none
 |.tp is,.tup ds,ρ=>if aN eL ds then none else ib is ds ρ
 |_,_,_=>none
def oJ:D->O (ab)
 |.lst _ ds=>ok (av aK ds)
 |_=>none
def eK(Φ:aY):IK->ab->O (ab)
 |.bO p,xs=>bd (Φ p xs) oJ
 |.kF,[.int n]=>if n<=fY /\ -fY<=n then ok ((List.range n.toNat).map λ(k:Nat)=>D.int (k:Int))else none
 |.seq,[.tup ds]=>ok (av aK ds)
 |.seq,[.lst _ ds]=>ok (av aK ds)
 |_,_=>none
def iq(bind:D->O bo)(test:bo->O Bool)(el:bo->O D):ab->O (ab)
 |[]=>ok []
 |x::xs=>bd (bind x) λρ=>bd (test ρ) λb=>if b then bd (el ρ) λy=>bd (iq bind test el xs) λys=>ok (y::ys)else iq bind test el xs
def bK(n:Nat)(caps:aM)(ρ:bo):bo:=List.replicate n none++caps.map λi=>(ρ[i]?.getD none).map (aA aK)
def wB(o:Option (aH)):O D:=match o with
 |some (some d)=>ok (aA aP d)
 |_=>none
theorem AA{o:Option (aH)}{d:D}(h:wB o=ok d):∃d',o=some (some d')/\d=aA aP d':=by
 cases o with
 |none=>cases h
 |some z=>cases z with
  |none=>cases h
  |some z=>cases h;exact⟨z,rfl,rfl⟩
mutual
noncomputable def aW(Φ:aY):CE->bo->O D
 |.bF,_=>ok .bF
 |.bl b,_=>ok (.bl b)
 |.int i,_=>ok (.int i)
 |.str s,_=>ok (.str s)
 |.glo _ i,_=>ok (.int i)
 |.v i,ρ=>wB ρ[i]?
 |.bin op a b,ρ=>bd (aW Φ a ρ) λx=>bd (aW Φ b ρ) λy=>bM op x y
 |.neg a,ρ=>bd (aW Φ a ρ) Fx
 |.not a,ρ=>bd (bd (aW Φ a ρ) gL) λb=>ok (.bl (!b))
 |.and es,ρ=>pJ Φ es ρ
 |.or es,ρ=>y8 Φ es ρ
 |.ite c a b,ρ=>bd (bd (aW Φ c ρ) gL) λk=>if k then aW Φ a ρ else aW Φ b ρ
 |.cmp op a b,ρ=>bd (aW Φ a ρ) λx=>bd (aW Φ b ρ) λy=>dH op x y
 |.jW a t,ρ=>bd (aW Φ a ρ) λx=>ok (.bl (bJ t x))
 |.call f es,ρ=>bd (cP Φ es ρ) λxs=>bd (Φ f (av aK xs)) λr=>ok (aA gB r)
 |.bf f es,ρ=>bd (cP Φ es ρ) λxs=>n9 f xs
 |.ix a b,ρ=>bd (aW Φ a ρ) λx=>bd (aW Φ b ρ) λy=>BN x y
 |.lS a,ρ=>bd (aW Φ a ρ) λx=>xa x
 |.bO p es,ρ=>bd (cP Φ es ρ) λxs=>Φ p xs
 |.tup es,ρ=>bd (cP Φ es ρ) λxs=>ok (.tup xs)
 |.lst es,ρ=>bd (cP Φ es ρ) λxs=>ok (.lst .ow xs)
 |.comp n t caps ik es bI elt,ρ=>bd (cP Φ es ρ) λxs=>bd (eK Φ ik xs) λitems =>
   bd (iq (λd=>cu t d (bK n caps ρ)) (λρ'=>ip Φ bI ρ') (λρ'=>aW Φ elt ρ') items) λds=>if ds.length<=fY then ok (.lst .ow (av gB ds))else none
noncomputable def cP(Φ:aY):aE->bo->O (ab)
 |[],_=>ok []
 |e::es,ρ=>bd (aW Φ e ρ) λx=>bd (cP Φ es ρ) λxs=>ok (x::xs)
noncomputable def ip(Φ:aY):aE->bo->O Bool
 |[],_=>ok true
 |e::es,ρ=>bd (bd (aW Φ e ρ) gL) λb=>if b then ip Φ es ρ else ok false
noncomputable def pJ(Φ:aY):aE->bo->O D
 |[],_=>none
 |e::es,ρ=>bd (bd (aW Φ e ρ) gL) λc=>match es with
  |[]=>ok (.bl c)
  |_::_=>if c then pJ Φ es ρ else ok (.bl false)
noncomputable def y8(Φ:aY):aE->bo->O D
 |[],_=>none
 |e::es,ρ=>bd (bd (aW Φ e ρ) gL) λc=>match es with
  |[]=>ok (.bl c)
  |_::_=>if c then ok (.bl true)else y8 Φ es ρ
end
def uF(Φ:aY)(e:CE)(ρ:bo):O Bool:=bd (aW Φ e ρ) gL
inductive Fo where|nx|rt(d:D)
noncomputable def de{α β:Type}(n:Nat)(step:α->O (α ⊕ β))(a:α):O β:=match n with
 |0=>none
 |n+1=>bd (step a) λr=>match r with
  |.inl a'=>de n step a'
  |.inr b=>ok b
open Classical in
noncomputable def fF{α β:Type}(step:α->O (α ⊕ β))(a:α):O β :=
 if h:∃n,de n step a≠none then de (Classical.choose h) step a else none
theorem iN{α β:Type}(step:α->O (α ⊕ β)):∀(n m:Nat) (a:α),n<=m->de n step a≠none->de m step a=de n step a
 |0,_,_,_,h=>absurd rfl h
 |n+1,0,_,hl,_=>by left
 |n+1,m+1,a,hl,h=>by
  unfold de at h ⊢
  match hs:step a with
  |none=>rw[hs]at h;exact absurd rfl h
  |some (.error c)=>rfl
  |some (.ok (.inr b))=>rfl
  |some (.ok (.inl a')) =>
   rw[hs]at h;exact iN step n m a' (by left) h
theorem kH{α β:Type}{step:α->O (α ⊕ β)}{a:α}{n:Nat}{r:Except Nat β}(h:de n step a=some r):fF step a=some r:=by
 have hx:∃n,de n step a≠none:=⟨n,by rw[h];simp⟩
 unfold fF;rw[dif_pos hx];have hc:=Classical.choose_spec hx;rcases Nat.le_total n (Classical.choose hx)with hl|hl
 ·rw[iN step _ _ a hl (by rw[h];simp),h]
 ·rw[<- iN step _ _ a hl hc,h]
theorem kR{α β:Type}{step:α->O (α ⊕ β)}{a:α}{r:Except Nat β}(h:fF step a=some r):∃n,de n step a=some r:=by
 unfold fF at h;split at h
 ·exact⟨_,h⟩
 ·cases h
theorem mC{α β:Type}{step:α->O (α ⊕ β)}{a a':α}(h:step a=ok (.inl a')):fF step a=fF step a':=by
 match hr:fF step a' with
 |some r =>
  obtain⟨n,hn⟩:=kR hr;refine kH (n:=n+1) ?_;unfold de;rw[h];exact hn
 |none =>
  match hq:fF step a with
  |none=>rfl
  |some r =>
   obtain⟨n,hn⟩:=kR hq
   match n,hn with
   |n+1,hn =>
    unfold de at hn;rw[h]at hn;rw[kH (n:=n) hn]at hr;cases hr
theorem gK{α β:Type}{step:α->O (α ⊕ β)}{a:α}{b:β}(h:step a=ok (.inr b)):fF step a=ok b :=
 kH (n:=1) (by unfold de;rw[h];rfl)
mutual
noncomputable def gJ:CE->aM
 |.v i=>[i]
 |.bin _ a b=>gJ a++gJ b
 |.neg a=>gJ a
 |.not a=>gJ a
 |.and es=>dw es
 |.or es=>dw es
 |.ite c a b=>gJ c++(gJ a++gJ b)
 |.cmp _ a b=>gJ a++gJ b
 |.jW a _=>gJ a
 |.call _ es=>dw es
 |.bf _ es=>dw es
 |.ix a b=>gJ a++gJ b
 |.lS a=>gJ a
 |.tup es=>dw es
 |.lst es=>dw es
 |.bO _ es=>dw es
 |.comp _ _ caps _ es _ _=>caps++dw es
 |_=>[]
noncomputable def dw:aE->aM
 |[]=>[]
 |e::es=>gJ e++dw es
end
def jj(is:aM)(ρ:bo):bo:=ρ.mapIdx λi d=>if i∈is then d.map (aA aK)else d
def keep(e:CE)(d:D)(ρ:bo):D×bo:=if aU bD d then(aA aK d,jj (gJ e) ρ)else(d,ρ)
def iu(Φ:aY)(e:CE)(ρ:bo):O (D×bo):=match e with
 |.v i=>match ρ[i]? with
  |some (some d)=>if aU eL d then ok (d,ρ.set i none)else ok (d,ρ)
  |_=>none
 |_=>bd (aW Φ e ρ) λd=>ok (keep e d ρ)
def eI(Φ:aY)(it:CI)(ρ:bo):O (ab×bo):=match it with
 |.EW p es=>bd (cP Φ es ρ) λxs=>bd (Φ p xs) λd=>bd (oJ d) λitems=>ok (items,if aN bD xs then jj (dw es) ρ else ρ)
 |.kF a=>bd (aW Φ a ρ) λx=>match x with
  |.int n=>if n<=fY /\ -fY<=n then ok ((List.range n.toNat).map λ(k:Nat)=>D.int (k:Int),ρ)else none
  |_=>none
 |.seq a=>bd (aW Φ a ρ) λx=>match x with
  |.tup ds=>ok (av aK ds,if aU bD x then jj (gJ a) ρ else ρ)
  |.lst f ds=>ok (av aK ds,if aU bD x then jj (gJ a) ρ else ρ)
  |_=>none
def nr(es:aE)(xs:ab)(ρ:bo):ab×bo:=if aN bD xs then(av aK xs,jj (dw es) ρ)else(xs,ρ)
noncomputable def vf(Φ:aY)(p i:Nat)(r:ab×bo):O (Fo×bo):=match r.2[i]? with
 |some (some d)=>bd (Φ p (d::r.1)) λd'=>ok (.nx,r.2.set i (some d'))
 |_=>none
def dG(bind:D->bo->O bo)(body:bo->O (Fo×bo)):ab->bo->O (Fo×bo)
 |[],ρ=>ok (.nx,ρ)
 |d::ds,ρ=>bd (bind d ρ) λρ1=>bd (body ρ1) λr=>match r with
  | (.nx,ρ2)=>dG bind body ds ρ2
  | (.rt d,ρ2)=>ok (.rt d,ρ2)
mutual
noncomputable def gx(Φ:aY):CS->bo->O (Fo×bo)
 |.asg t e,ρ=>bd (iu Φ e ρ) λr=>bd (cu t r.1 r.2) λρ'=>ok (.nx,ρ')
 |.par i j a b,ρ=>bd (aW Φ a ρ) λx=>bd (aW Φ b ρ) λy=>if aU anyF x=false/\aU anyF y=false/\i<ρ.length/\j<ρ.length then ok (.nx,(ρ.set i (some x)).set j (some y))else none
 |.ret e,ρ=>bd (iu Φ e ρ) λr=>ok (.rt r.1,r.2)
 |.rs c,_=>some (.error c)
 |.ex e,ρ=>bd (aW Φ e ρ) λ_=>ok (.nx,ρ)
 |.mut p i es,ρ=>bd (cP Φ es ρ) λxs=>vf Φ p i (nr es xs ρ)
 |.app i e,ρ=>bd (iu Φ e ρ) λr=>match vc r.2[i]? with
  |some ds=>if ds.length<fY then ok (.nx,r.2.set i (some (.lst .ow (ds++[r.1]))))else none
  |none=>none
 |.setI i k e,ρ=>bd (iu Φ e ρ) λr=>bd (bd (aW Φ k r.2) intD) λz=>match vc r.2[i]? with
  |some ds=>match qJ ds.length z with
   |some j=>ok (.nx,r.2.set i (some (.lst .ow (ds.set j r.1))))
   |none=>none
  |none=>none
 |.ifs c a b,ρ=>bd (uF Φ c ρ) λk=>if k then aV Φ a ρ else aV Φ b ρ
 |.Im c b,ρ=>fF (λρ=>bd (uF Φ c ρ) λk=>if k then bd (aV Φ b ρ) λr=>match r with
   | (.nx,ρ')=>ok (.inl ρ')
   | (.rt d,ρ')=>ok (.inr (.rt d,ρ'))
  else ok (.inr (.nx,ρ))) ρ
 |.fr t it b,ρ=>bd (eI Φ it ρ) λr=>dG (λd ρ=>cu t d ρ) (λρ=>aV Φ b ρ) r.1 r.2
noncomputable def aV(Φ:aY):ag->bo->O (Fo×bo)
 |[],ρ=>ok (.nx,ρ)
 |s::ss,ρ=>bd (gx Φ s ρ) λr=>match r with
  | (.nx,ρ')=>aV Φ ss ρ'
  |r=>ok r
end
noncomputable def ql(Φ:aY)(n:Nat)(b:ag)(ds:ab):O D:=bd (aV Φ b (ds.map some++List.replicate (n - ds.length) none)) λr=>match r.1 with
 |.nx=>ok .bF
 |.rt d=>ok d
noncomputable def zU:aw
 |[.lst _ a,.lst _ b]=>ok (.lst .ow (List.zipWith (λx y=>.tup [x,y]) a b))
 |_=>none
end DI
end
section
namespace DI
open PySem PySem.Spec PyProof.Rows L2
noncomputable abbrev bt:=aM
noncomputable abbrev St:=L2.St
noncomputable abbrev lL:=Addr->af->Prop
inductive Nd where|l(xs:af)|d(cs:au)(as:aZ)(xs:af)(ep:Nat)
abbrev iA:=bt->Addr->Nd->Fl->Prop
structure fe(T:lL)(as:aZ)(cs:au):Prop where
 len:as.length=cs.length
 tup:∀(j:Nat) (a:Addr) (c:aa),as[j]?=some a->cs[j]?=some c->T a (c.map V.int)
variable {T T':lL}{as ch fp:aZ}
theorem fe.imp{cs:au}(h:fe T as cs)(hT:∀p xs,T p xs->T' p xs):fe T' as cs:=⟨h.len,λj a c h1 h2=>hT _ _ (h.tup j a c h1 h2)⟩
mutual
inductive Rep(T:lL)(N:iA):bt->V->D->Prop where
 |bF {q:bt}:Rep T N q .bF .bF
 |bl {q:bt} (b:Bool):Rep T N q (.bl b) (.bl b)
 |int {q:bt} (i:Int):Rep T N q (.int i) (.int i)
 |str {q:bt} (s:Str):Rep T N q (.str s) (.str s)
 |tup {q:bt} {p:Addr} {xs:af} {ds:ab} (h:T p xs) (r:aD T N q 0 xs ds):Rep T N q (.ref p) (.tup ds)
 |lst {q:bt} {p:Addr} {xs:af} {f:Fl} {ds:ab} (h:N q p (.l xs) f) (r:aD T N q 0 xs ds):Rep T N q (.ref p) (.lst f ds)
 |cM {q:bt} {p:Addr} {cs:au} {as:aZ} {xs:af} {ep:Nat} {f:Fl} {ds:ab} (h:N q p (.d cs as xs ep) f) (k:fe T as cs) (r:aD T N q 0 xs ds):Rep T N q (.ref p) (.cM f cs ds)
inductive aD(T:lL)(N:iA):bt->Nat->af->ab->Prop where
 |nil {q:bt} {n:Nat}:aD T N q n [] []
 |cons {q:bt} {n:Nat} {v:V} {d:D} {vs:af} {ds:ab} (h:Rep T N (n::q) v d) (t:aD T N q (n+1) vs ds):aD T N q n (v::vs) (d::ds)
end
variable {N N':iA}{ds ds' items:ab}
theorem Rep.Io{q:bt}{v:V}(h:Rep T N q v (.tup ds)):∃p xs,v=.ref p/\T p xs/\aD T N q 0 xs ds:=by
 cases h with
 |tup a b=>exact⟨_,_,rfl,a,b⟩
theorem Rep.uN{q:bt}{v:V}{f:Fl}(h:Rep T N q v (.lst f ds)):∃p xs,v=.ref p/\N q p (.l xs) f/\aD T N q 0 xs ds:=by
 cases h with
 |lst a b=>exact⟨_,_,rfl,a,b⟩
mutual
theorem qQ:∀d:D,aU (λ_=>false) d=false
 |.bF=>rfl
 |.bl _=>rfl
 |.int _=>rfl
 |.str _=>rfl
 |.tup ds=>gA ds
 |.lst _ ds=>gA ds
 |.cM _ _ ds=>gA ds
theorem gA:∀ds:ab,aN (λ_=>false) ds=false
 |[]=>rfl
 |d::ds=>by show(aU _ d||aN _ ds)=false;rw[qQ d,gA ds];rfl
end
theorem Be{a b:Bool}(h:(a||b)=false):a=false/\b=false:=by cases a<;>cases b<;>first|exact⟨rfl,rfl⟩|cases h
variable {k' q':bt}{vs xs xs' ys:af}
section
variable {T T':lL}{N N':iA}{g:Fl->Fl}{P:Fl->Bool}{C:bt->bt->Prop}{I:Nat->Nat->Prop}
mutual
theorem Rep.gen(hT:∀p xs,T p xs->T' p xs)(h0:I 0 0)(hI:∀n n',I n n'->I (n+1) (n'+1))(hC:∀k k' n n',C k k'->I n n'->C (n::k) (n'::k'))(hN:∀k k' p xs f,C k k'->P f=false->N k p xs f->N' k' p xs (g f)):
  ∀{k:bt} {v:V} {d:D},Rep T N k v d->∀{k':bt},C k k'->aU P d=false->Rep T' N' k' v (aA g d)
 |_,_,_,.bF,_,_,_=>.bF
 |_,_,_,.bl b,_,_,_=>.bl b
 |_,_,_,.int i,_,_,_=>.int i
 |_,_,_,.str s,_,_,_=>.str s
 |_,_,_,.tup h r,_,c,e=>.tup (hT _ _ h) (aD.gen hT h0 hI hC hN r c h0 e)
 |_,_,_,.lst h r,_,c,e=>.lst (hN _ _ _ _ _ c (Be e).1 h) (aD.gen hT h0 hI hC hN r c h0 (Be e).2)
 |_,_,_,.cM h k r,_,c,e=>.cM (hN _ _ _ _ _ c (Be e).1 h) (k.imp hT) (aD.gen hT h0 hI hC hN r c h0 (Be e).2)
theorem aD.gen(hT:∀p xs,T p xs->T' p xs)(h0:I 0 0)(hI:∀n n',I n n'->I (n+1) (n'+1))(hC:∀k k' n n',C k k'->I n n'->C (n::k) (n'::k'))(hN:∀k k' p xs f,C k k'->P f=false->N k p xs f->N' k' p xs (g f)):
  ∀{k:bt} {n:Nat} {vs:af} {ds:ab},aD T N k n vs ds->∀{k':bt} {n':Nat},C k k'->I n n'->aN P ds=false->aD T' N' k' n' vs (av g ds)
 |_,_,_,_,.nil,_,_,_,_,_=>.nil
 |_,_,_,_,.cons h t,_,_,c,i,e=>.cons (Rep.gen hT h0 hI hC hN h (hC _ _ _ _ c i) (Be e).1) (aD.gen hT h0 hI hC hN t c (hI _ _ i) (Be e).2)
end
theorem Rep.map{q:bt}(hT:∀p xs,T p xs->T' p xs)(hN:∀c p xs f,N (c++q) p xs f->N' (c++q') p xs (g f)){k:bt}{v:V}{d:D}(h:Rep T N k v d)(c:bt)(e:k=c++q):Rep T' N' (c++q') v (aA g d) :=
 Rep.gen (P:=λ_=>false) (C:=λk k'=>∃c,k=c++q/\k'=c++q') (I:=λn n'=>n=n') hT rfl (λ_ _ e=>by rw[e]) (λ_ _ n _ ⟨c,e1,e2⟩ e=>⟨n::c,by rw[e1];rfl,by rw[e2,<- e];rfl⟩) (λ_ _ p xs f ⟨c,e1,e2⟩ _ h=>by subst e1;subst e2;exact hN c p xs f h) h ⟨c,e,rfl⟩ (qQ d)
theorem aD.map{q:bt}(hT:∀p xs,T p xs->T' p xs)(hN:∀c p xs f,N (c++q) p xs f->N' (c++q') p xs (g f)){k:bt}{n:Nat}(h:aD T N k n vs ds)(c:bt)(e:k=c++q):aD T' N' (c++q') n vs (av g ds) :=
 aD.gen (P:=λ_=>false) (C:=λk k'=>∃c,k=c++q/\k'=c++q') (I:=λn n'=>n=n') hT rfl (λ_ _ e=>by rw[e]) (λ_ _ n _ ⟨c,e1,e2⟩ e=>⟨n::c,by rw[e1];rfl,by rw[e2,<- e];rfl⟩) (λ_ _ p xs f ⟨c,e1,e2⟩ _ h=>by subst e1;subst e2;exact hN c p xs f h) h ⟨c,e,rfl⟩ rfl (gA ds)
theorem Rep.iI(hT:∀p xs,T p xs->T' p xs)(hN:∀k k' p xs f,N k p xs f->N' k' p xs (g f)){k:bt}{v:V}{d:D}(h:Rep T N k v d)(k':bt):Rep T' N' k' v (aA g d) :=
 Rep.gen (P:=λ_=>false) (C:=λ_ _=>True) (I:=λ_ _=>True) hT trivial (λ_ _ e=>e) (λ_ _ _ _ e _=>e) (λk k' p xs f _ _ h=>hN k k' p xs f h) h trivial (qQ d)
theorem aD.iI(hT:∀p xs,T p xs->T' p xs)(hN:∀k k' p xs f,N k p xs f->N' k' p xs (g f)){k:bt}{n:Nat}(h:aD T N k n vs ds)(k':bt)(n':Nat):aD T' N' k' n' vs (av g ds) :=
 aD.gen (P:=λ_=>false) (C:=λ_ _=>True) (I:=λ_ _=>True) hT trivial (λ_ _ e=>e) (λ_ _ _ _ e _=>e) (λk k' p xs f _ _ h=>hN k k' p xs f h) h trivial trivial (gA ds)
end
mutual
theorem eQ:∀d:D,aA id d=d
 |.bF=>rfl
 |.bl _=>rfl
 |.int _=>rfl
 |.str _=>rfl
 |.tup ds=>by rw[aA,eX ds]
 |.lst f ds=>by rw[aA,eX ds];rfl
 |.cM f ks vs=>by rw[aA,eX vs];rfl
theorem eX:∀ds:ab,av id ds=ds
 |[]=>rfl
 |d::ds=>by rw[av,eQ d,eX ds]
end
section
variable {T T':lL}{N N':iA}
theorem Rep.imp{q:bt}(hT:∀p xs,T p xs->T' p xs)(hN:∀c p xs f,N (c++q) p xs f->N' (c++q') p xs f){v:V}{d:D}(h:Rep T N q v d):Rep T' N' q' v d:=by
 have:=Rep.map (g:=id) hT hN h [] rfl;rw[eQ]at this;exact this
theorem aD.imp{q:bt}{n:Nat}(hT:∀p xs,T p xs->T' p xs)(hN:∀c p xs f,N (c++q) p xs f->N' (c++q') p xs f)(h:aD T N q n vs ds):aD T' N' q' n vs ds:=by
 have:=aD.map (g:=id) hT hN h [] rfl;rw[eX]at this;exact this
theorem aD.length:∀{k:bt} {n:Nat} {vs:af} {ds:ab},aD T N k n vs ds->vs.length=ds.length
 |_,_,_,_,.nil=>rfl
 |_,_,_,_,.cons _ t=>by simp[aD.length t]
theorem aD.get:∀{k:bt} {n j:Nat} {vs:af} {ds:ab} {d:D},aD T N k n vs ds->ds[j]?=some d->∃v,vs[j]?=some v/\Rep T N ((n+j)::k) v d
 |_,_,_,_,_,_,.nil,e=>by simp at e
 |_,_,0,_,_,_,.cons h t,e=>by simp at e;subst e;exact⟨_,rfl,h⟩
 |_,n,j+1,_,_,_,.cons h t,e=>by
  obtain⟨v,h1,h2⟩:=aD.get (j:=j) t (by simpa using e);refine⟨v,by simpa using h1,?_⟩;have:n+1+j=n+(j+1):=by left
  rw[<- this];exact h2
theorem aD.vz:∀{k:bt} {n j:Nat} {vs:af} {ds:ab} {v:V},aD T N k n vs ds->vs[j]?=some v->∃d,ds[j]?=some d/\Rep T N ((n+j)::k) v d
 |_,_,_,_,_,_,.nil,e=>by simp at e
 |_,_,0,_,_,_,.cons h t,e=>by simp at e;subst e;exact⟨_,rfl,h⟩
 |_,n,j+1,_,_,_,.cons h t,e=>by
  obtain⟨v,h1,h2⟩:=aD.vz (j:=j) t (by simpa using e);refine⟨v,by simpa using h1,?_⟩;have:n+1+j=n+(j+1):=by left
  rw[<- this];exact h2
theorem aD.rL{k:bt}(hN:∀k k' p xs f,N k p xs f->N k' p xs f):∀{n m l:Nat} {vs ws:af} {ds es:ab},aD T N k n vs ds->aD T N k m ws es->aD T N k l (vs++ws) (ds++es)
 |_,_,_,_,_,_,_,.nil,t=>by
  have:=aD.iI (T':=T) (N':=N) (g:=id) (λ_ _ h=>h) hN t;rw[eX]at this;exact this _ _
 |_,_,_,_,_,_,_,.cons h t,u=>.cons (by
  have:=Rep.iI (T':=T) (N':=N) (g:=id) (λ_ _ h=>h) hN h;rw[eQ]at this;exact this _) (aD.rL hN t u)
end
def KL(K:ao)(a:Addr)(xs:af):Prop :=
 ∃(o:Obj) (aL:aR) (n:Nat),K.lookup a=some o/\o.cls=.type "list" /\ o.dict=none/\o.data=.seq aL n/\aL.size<=sizeLine/\Vals xs aL.toList
def DO(p:Addr)(cs:au)(as:aZ)(xs:af)(ep:Nat)(h:Heap):Prop :=
 ∃(zs:List (aa×Addr×Value)) (o:Obj) (es:Array DictEntry),zs.map (·.1)=cs/\zs.map (·.2.1)=as/\Vals xs (zs.map (·.2.2))/\h.get? p=some o/\o.ExactDict/\o.data=.dict es ep /\
  es.toList=zs.map (λz=>⟨reduceHash (Builtin.Tuple.tupleHashOf (z.1.map hashInt)),.ref z.2.1,z.2.2⟩)/\cs.Nodup/\cs.length<=sizeLine/\(p==sysModules)=false
noncomputable abbrev fi(H:Hp)(p:Addr)(n:Nd):Prop:=match n with
 |.l xs=>H p=some (.lst xs)
 |.d cs as xs ep=>H p=some (.ext (DO p cs as xs ep))
variable {H H' H1 H2:Hp}
theorem fi.ne{p:Addr}{n:Nd}(h:fi H p n):H p≠none:=by
 cases n with
 |l xs=>intro z;rw[show H p=some (.lst xs) from h]at z;cases z
 |d cs as xs ep=>intro z;rw[show H p=some (.ext (DO p cs as xs ep)) from h]at z;cases z
theorem fi.at{p:Addr}{n:Nd}(e:∀o,H p=some o->H' p=some o)(h:fi H p n):fi H' p n:=by
 cases n with
 |l xs=>exact e _ h
 |d cs as xs ep=>exact e _ h
theorem fi.same{p:Addr}{n:Nd}(e:aI H H')(h:fi H p n):fi H' p n:=h.at (e p)
theorem fi.some{H:Hp}{p:Addr}{n:Nd}(h:fi H p n):∃o,H p=some o/\(∀xs,o≠.tup xs)/\(∀a u,o≠.jj a u):=by
 cases n with
 |l xs=>exact⟨_,h,λ_ z=>(nomatch z),λ_ _ z=>(nomatch z)⟩
 |d cs as xs ep=>exact⟨_,h,λ_ z=>(nomatch z),λ_ _ z=>(nomatch z)⟩
def nd(K:ao)(R A:ah)(τ:Addr->Option bt)(H:Hp):iA:=λq p n f=>match f with
 |.ow=>fi H p n/\τ p=some q
 |.fz=>fi H p n/\R p
 |.al=>fi H p n/\A p
 |.sc=>match n with
  |.l xs=>(∃o,H p=some (.jj o (.lst xs)))\/KL K p xs
  |.d _ _ _ _=>False
variable {A F G R R' R1:Addr->Prop}{K:ao}{τ τ' τt:Addr->Option bt}
theorem nd.Hg{q:bt}{p:Addr}{n:Nd}(h:nd K R A τ H q p n .sc):∃xs,n=.l xs/\((∃o,H p=some (.jj o (.lst xs)))\/KL K p xs):=by
 cases n with
 |l xs=>exact⟨xs,rfl,h⟩
 |d _ _ _ _=>exact h.elim
theorem nd.sq{q:bt}{p:Addr}{f:Fl}(h:nd K R A τ H q p (.l xs) f):dq K H p xs:=by
 cases f with
 |ow=>exact dq.of h.1
 |fz=>exact dq.of h.1
 |al=>exact dq.of h.1
 |sc=>exact h.elim (λh=>.inl (.inr h)) .inr
theorem nd.lst{K:ao}{R A:ah}{τ:Addr->Option bt}{H:Hp}{q:bt}{p:Addr}{xs:af}{f:Fl}(h:nd K R A τ H q p (.l xs) f)(hf:iO f=false):H p=some (.lst xs):=by
 cases f with
 |ow=>exact h.1
 |fz=>exact h.1
 |al=>exact h.1
 |sc=>cases hf
variable {ep n1 t':Nat}
theorem nd.dat{q:bt}{p:Addr}{cs:au}{f:Fl}(h:nd K R A τ H q p (.d cs as xs ep) f):H p=some (.ext (DO p cs as xs ep)):=by
 cases f with
 |ow=>exact h.1
 |fz=>exact h.1
 |al=>exact h.1
 |sc=>exact h.elim
theorem Rd.same{a:Addr}{u:HO}(e:aI H H')(h:Rd H a u):Rd H' a u:=h.elim (λh=>.inl (e _ _ h)) λ⟨o,h⟩=>.inr ⟨o,e _ _ h⟩
theorem aX.same{K:ao}{H H':Hp}{a:Addr}{xs:af}(e:aI H H')(h:aX K H a xs):aX K H' a xs:=h.elim (λh=>.inl (Rd.same e h)) .inr
theorem nd.same{K:ao}{R A:ah}{τ:Addr->Option bt}{H H':Hp}{q:bt}{p:Addr}{n:Nd}{f:Fl}(e:aI H H')(h:nd K R A τ H q p n f):nd K R A τ H' q p n f:=by
 cases f with
 |ow=>exact⟨h.1.same e,h.2⟩
 |fz=>exact⟨h.1.same e,h.2⟩
 |al=>exact⟨h.1.same e,h.2⟩
 |sc=>cases n with
  |l xs=>exact h.elim (λ⟨o,h⟩=>.inl ⟨o,e _ _ h⟩) .inr
  |d _ _ _ _=>exact h.elim
theorem aI.ne(e:aI H H'){a:Addr}(h:H a≠none):H' a≠none:=by
 cases q:H a with
 |none=>exact absurd q h
 |some o=>rw[e a o q];simp
structure SI(X:Cx)(F R:ah)(τ:Addr->Option bt)(ρ:bo)(σ:St)(H:Hp):Prop where
 len:ρ.length=σ.length
 rep:∀(i:Nat) (d:D),ρ[i]?=some (some d)->∃v,σ[i]?=some (some v)/\Rep (aX X.K H) (nd X.K R (λ_=>False) τ H) [i] v d
 rt:∀p,R p->τ p=none
 rh:∀p,R p->H p≠none
 rf:∀p,R p->F p\/X.H₀ p=none
 th:∀p q,τ p=some q->H p≠none
 t0:∀p q,τ p=some q->X.H₀ p=none
 same:aI X.H₀ H
variable {X:Cx}{ρ:bo}{σ:L2.St}
theorem SI.go(S:SI X F R τ ρ σ H)(e:aI H H'):SI X F R τ ρ σ H' :=
 ⟨S.len,λi d h=>let ⟨v,h1,h2⟩:=S.rep i d h;⟨v,h1,h2.imp (λ_ _ h=>aX.same e h) λ_ _ _ _ h=>nd.same e h⟩,S.rt,λp h=>aI.ne e (S.rh p h),S.rf,λp q h=>aI.ne e (S.th p q h),S.t0,S.same.trans e⟩
def jw(G:ah)(τ:Addr->Option bt)(fv:aM)(p:Addr):Prop:=G p/\∀c i,τ p=some (c++[i])->i∈fv
variable {caps fv fv':aM}
theorem jw.mono{p:Addr}(h:jw G τ fv p)(hs:∀i∈fv,i∈fv'):jw G τ fv' p:=⟨h.1,λc i e=>hs i (h.2 c i e)⟩
def gP(X:Cx)(F:ah)(p:Addr):Prop:=F p\/X.H₀ p=none
def bR(K:ao)(G R:ah)(τ:Addr->Option bt)(fv:aM)(H H':Hp)(v:V)(d:D):Prop :=
 ∃τt:Addr->Option bt,(∀p q,τt p=some q->H p=none)/\Rep (aX K H') (nd K R (jw G τ fv) τt H') [] v d
def cz(K:ao)(G R:ah)(τ:Addr->Option bt)(fv:aM)(H H':Hp)(vs:af)(ds:ab):Prop :=
 ∃τt:Addr->Option bt,(∀p q,τt p=some q->H p=none)/\aD (aX K H') (nd K R (jw G τ fv) τt H') [] 0 vs ds
section
variable {K:ao}{G R:ah}{τ:Addr->Option bt}{fv fv':aM}{H H1 H2:Hp}{v:V}{d:D}{vs:af}{ds:ab}
theorem bR.go(h:bR K G R τ fv H H1 v d)(e:aI H1 H2):bR K G R τ fv H H2 v d :=
 let ⟨τt,h1,h2⟩:=h;⟨τt,h1,h2.imp (λ_ _ h=>aX.same e h) λ_ _ _ _ h=>nd.same e h⟩
theorem nd.mono{A':Addr->Prop}{τ:Addr->Option bt}{q:bt}{p:Addr}{xs:Nd}{f:Fl}(h:nd K R A τ H q p xs f)(hR:R p->R' p)(hA:A p->A' p)(ht:τ p=some q->τ' p=some q'):nd K R' A' τ' H q' p xs f:=by
 cases f with
 |ow=>exact⟨h.1,ht h.2⟩
 |fz=>exact⟨h.1,hR h.2⟩
 |al=>exact⟨h.1,hA h.2⟩
 |sc=>exact h
theorem bR.mono(h:bR K G R τ fv H H1 v d)(hs:∀i∈fv,i∈fv'):bR K G R τ fv' H H1 v d :=
 let ⟨τt,h1,h2⟩:=h;⟨τt,h1,h2.imp (λ_ _ h=>h) λ_ _ _ _ h=>h.mono id (λh=>h.mono hs) id⟩
theorem cz.mono(h:cz K G R τ fv H H1 vs ds)(hs:∀i∈fv,i∈fv'):cz K G R τ fv' H H1 vs ds :=
 let ⟨τt,h1,h2⟩:=h;⟨τt,h1,h2.imp (λ_ _ h=>h) λ_ _ _ _ h=>h.mono id (λh=>h.mono hs) id⟩
theorem bR.old{H0:Hp}(h:bR K G R τ fv H H1 v d)(e:aI H0 H):bR K G R τ fv H0 H1 v d :=
 let ⟨τt,h1,h2⟩:=h;⟨τt,λp q z=>e.free (h1 p q z),h2⟩
theorem bR.int{i:Int}:bR K G R τ fv H H1 (.int i) (.int i):=⟨λ_=>none,λ_ _ h=>by simp at h,.int i⟩
theorem bR.bl{b:Bool}:bR K G R τ fv H H1 (.bl b) (.bl b):=⟨λ_=>none,λ_ _ h=>by simp at h,.bl b⟩
theorem bR.str{s:Str}:bR K G R τ fv H H1 (.str s) (.str s):=⟨λ_=>none,λ_ _ h=>by simp at h,.str s⟩
theorem bR.bF:bR K G R τ fv H H1 .bF .bF:=⟨λ_=>none,λ_ _ h=>by simp at h,.bF⟩
theorem bR.isInt{i:Int}(h:bR K G R τ fv H H1 v (.int i)):v=.int i:=by obtain⟨_,_,h⟩:=h;cases h;rfl
theorem bR.yP{i:Bool}(h:bR K G R τ fv H H1 v (.bl i)):v=.bl i:=by obtain⟨_,_,h⟩:=h;cases h;rfl
def qh:bt->bt
 |[]=>[]
 |[n]=>[n+1]
 |a::b::r=>a::qh (b::r)
theorem sF(c:bt)(n:Nat):qh (c++[n])=c++[n+1]:=by
 induction c with
 |nil=>rfl
 |cons a c ih =>
  cases c with
  |nil=>rfl
  |cons b c=>show a::qh (b::c++[n])=_;rw[ih];rfl
theorem aD.shift{T:lL}{N N':iA}(hN:∀c n p xs f,N (c++[n]) p xs f->N' (c++[n+1]) p xs f):∀{n:Nat} {vs:af} {ds:ab},aD T N [] n vs ds->aD T N' [] (n+1) vs ds
 |_,_,_,.nil=>.nil
 |n,_,_,.cons h t=>.cons (h.imp (q:=[n]) (q':=[n+1]) (λ_ _ h=>h) λc p xs f h=>hN c n p xs f h) (aD.shift hN t)
theorem cz.nil:cz K G R τ fv H H1 [] []:=⟨λ_=>none,λ_ _ h=>by simp at h,.nil⟩
open Classical in
theorem cz.cons(e1:aI H H1)(e2:aI H1 H2)(h:bR K G R τ fv H H1 v d)(t:cz K G R τ fv H1 H2 vs ds):cz K G R τ fv H H2 (v::vs) (d::ds):=by
 obtain⟨τ1,f1,h1⟩:=h;obtain⟨τ2,f2,h2⟩:=t;refine⟨λp=>if H1 p=none then(τ2 p).map qh else(τ1 p).map (· ++ [0]),λp q hq=>?_,.cons (h1.imp (q':=[0]) (λ_ _ h=>aX.same e2 h) λc p xs f h=>?_) (aD.shift (λc n p xs f h=>?_) h2)⟩
 ·by_cases hp:H1 p=none
  ·exact e1.free hp
  ·simp only[hp,if_false]at hq;cases q1:τ1 p with
   |none=>rw[q1]at hq;simp at hq
   |some k=>exact f1 p k q1
 ·have h':nd K R (jw G τ fv) τ1 H2 (c++[]) p xs f:=nd.same e2 h;cases f with
  |ow =>
   have hp:H1 p≠none:=h.1.ne;refine⟨h'.1,?_⟩;simp only[hp,if_false];rw[h.2];simp
  |fz=>exact h'
  |al=>exact h'
  |sc=>exact h'
 ·cases f with
  |ow =>
   have hp:H1 p=none:=f2 p _ h.2;refine⟨h.1,?_⟩;simp only[hp,if_true];rw[h.2];simp[sF]
  |fz=>exact h
  |al=>exact h
  |sc=>exact h
end
def tD(X:Cx)(F:ah)(Φ:aY)(c:CE):TE:=λσ H Q=>∃R τ ρ d,SI X F R τ ρ σ H/\aW Φ c ρ=ok d/\∀v H',aI H H'->bR X.K (gP X F) R τ (gJ c) H H' v d->Q v H'
def qb(X:Cx)(F:ah)(Φ:aY)(cs:aE):TA:=λσ H Q=>∃R τ ρ ds,SI X F R τ ρ σ H/\cP Φ cs ρ=ok ds/\∀vs H',aI H H'->cz X.K (gP X F) R τ (dw cs) H H' vs ds->Q vs H'
def fA(X:Cx)(F:ah)(Φ:aY)(c:CE):TT:=λσ H Q=>∃R τ ρ b,SI X F R τ ρ σ H/\uF Φ c ρ=ok b/\∀H',aI H H'->Q b H'
theorem PE.imp{e:Expr}{t t':TE}(h:PE X e t)(hi:∀σ H Q,t' σ H Q->t σ H Q):PE X e t':=λpins s σ H Q I hw=>h pins s σ H Q I (hi σ H Q hw)
theorem PT.imp{e:Expr}{t t':TT}(h:PT X e t)(hi:∀σ H Q,t' σ H Q->t σ H Q):PT X e t':=λpins s σ H Q I hw=>h pins s σ H Q I (hi σ H Q hw)
theorem PW.imp{e:Expr}{t t':TT}(h:PW X e t)(hi:∀σ H Q,t' σ H Q->t σ H Q):PW X e t':=λwh pins s σ H Q I hw=>h wh pins s σ H Q I (hi σ H Q hw)
theorem PA.imp{es:aj}{t t':TA}(h:PA X es t)(hi:∀σ H Q,t' σ H Q->t σ H Q):PA X es t':=λpos pins s σ H Q I hw=>h pos pins s σ H Q I (hi σ H Q hw)
variable {st:Stmt}
theorem PS.imp{t t':TS}(h:PS X st t)(hi:∀D σ H,t' D σ H->t D σ H):PS X st t':=λpins s σ H D I hw=>h pins s σ H D I (hi D σ H hw)
theorem mA.imp{st:aS}{t t':TS}(h:mA X st t)(hi:∀D σ H,t' D σ H->t D σ H):mA X st t':=λpins s σ H D I hw=>h pins s σ H D I (hi D σ H hw)
theorem nN:∀(as bs:ab),fu as bs=true ↔ as.length=bs.length/\∀(j:Nat) (a b:D),as[j]?=some a->bs[j]?=some b->kj a b=true
 |[],[]=>by simp[fu]
 |[],b::bs=>by simp[fu]
 |a::as,[]=>by simp[fu]
 |a::as,b::bs=>by
  rw[fu,Bool.and_eq_true,nN as bs];constructor
  ·rintro ⟨h1,h2,h3⟩;refine⟨by simp[h2],λj x y hx hy=>?_⟩;cases j with
   |zero=>simp at hx hy;subst hx hy;exact h1
   |succ j=>exact h3 j x y (by simpa using hx) (by simpa using hy)
  ·rintro ⟨h2,h3⟩;exact⟨h3 0 a b rfl rfl,by simpa using h2,λj x y hx hy=>h3 (j+1) x y (by simpa using hx) (by simpa using hy)⟩
def P4(as bs:ab)(j:Nat):Bool:=match as[j]?,bs[j]? with
 |some a,some b=>kj a b
 |_,_=>false
theorem jG(as bs:ab):((List.range (min as.length bs.length)).all (P4 as bs)&&as.length==bs.length)=fu as bs:=by
 rw[Bool.eq_iff_iff,nN,Bool.and_eq_true,List.all_eq_true,beq_iff_eq];constructor
 ·rintro ⟨h1,h2⟩;refine⟨h2,λj a b ha hb=>?_⟩;have hj:j<as.length:=by
   by_cases h:j<as.length
   ·exact h
   ·rw[List.getElem?_eq_none (by left)]at ha;cases ha
  have:=h1 j (by rw[List.mem_range];left);unfold P4 at this;rw[ha,hb]at this;exact this
 ·rintro ⟨h2,h1⟩;refine⟨λj hj=>?_,h2⟩;rw[List.mem_range]at hj;unfold P4;have ha:as[j]?=some as[j]:=aan (by left);have hb:bs[j]?=some bs[j]:=aan (by left);rw[ha,hb];exact h1 j _ _ ha hb
section
variable {X:Cx}{pins:ak}{σ:St}{H:Hp}{s:Shared}{N N':iA}
theorem dy{n:Nat}(h:eA n (.tup ds)=true):∃m,n=m+1/\∀d∈ds,eA m d=true:=by
 cases n with
 |zero=>cases h
 |succ m=>exact⟨m,rfl,List.all_eq_true.mp h⟩
theorem dA{n:Nat}{f:Fl}(h:eA n (.lst f ds)=true):∃m,n=m+1/\∀d∈ds,eA m d=true:=by
 cases n with
 |zero=>cases h
 |succ m=>exact⟨m,rfl,List.all_eq_true.mp h⟩
theorem xc(I:Inv X pins σ H s){p:Addr}(h:dq X.K H p xs)(h':aX X.K H p ys):False:=by
 obtain⟨aL,_,pl,_⟩:=I.list h;obtain⟨its',_,pt,_⟩:=I.tuple h';exact SeqAt.ne_of_list_tuple pl.isList pt rfl
theorem AF(I:Inv X pins σ H s)(hN:∀q p xs f,N q p (.l xs) f->dq X.K H p xs)(Ck:∀q p xs f,N' q p (.l xs) f->dq X.K H p xs):
  ∀(n:Nat) {k k':bt} {v:V} {d d':D},Rep (aX X.K H) N k v d->Rep (aX X.K H) N' k' v d'->eA n d=true->eA n d'=true->kj d d'=true:=by
 intro n;induction n with
 |zero =>
  intro k k' v d d' h h' ho fW;cases h with
  |bF=>cases h';rfl
  |bl b=>cases h';exact aa6 b
  |int i=>cases h';exact aa6 i
  |str t=>cases h';exact aa6 t
  |tup _ _=>obtain⟨m,hm,_⟩:=dy ho;left
  |lst _ _=>obtain⟨m,hm,_⟩:=dA ho;left
  |cM _ _=>cases ho
 |succ n ih =>
  have sub:∀{q q':bt} {xs:af} {ds ds':ab},aD (aX X.K H) N q 0 xs ds->aD (aX X.K H) N' q' 0 xs ds'->(∀d∈ds,eA n d=true)->(∀d∈ds',eA n d=true)->fu ds ds'=true:=by
   intro q q' xs ds ds' r r' ho fW;rw[nN];refine⟨by rw[<- r.length,<- r'.length],λj a b ha hb=>?_⟩;obtain⟨v1,h1,r1⟩:=r.get ha;obtain⟨v2,h2,r2⟩:=r'.get hb;rw[h1]at h2;cases h2;exact ih r1 r2 (ho a (aay ha)) (fW b (aay hb))
  intro k k' v d d' h h' ho fW;cases h with
  |bF=>cases h';rfl
  |bl b=>cases h';exact aa6 b
  |int i=>cases h';exact aa6 i
  |str t=>cases h';exact aa6 t
  |tup h r =>
   obtain⟨m,hm,ho⟩:=dy ho;obtain rfl:n=m:=by left
   cases h' with
   |tup h' r' =>
    obtain⟨m,hm,fW⟩:=dy fW;obtain rfl:n=m:=by left
    obtain rfl:=I.o3 h h';exact sub r r' ho fW
   |lst h' r'=>exact(xc I (Ck _ _ _ _ h') h).elim
   |cM _ _=>cases fW
  |lst h r =>
   obtain⟨m,hm,ho⟩:=dA ho;obtain rfl:n=m:=by left
   cases h' with
   |tup h' r'=>exact(xc I (hN _ _ _ _ h) h').elim
   |lst h' r' =>
    obtain⟨m,hm,fW⟩:=dA fW;obtain rfl:n=m:=by left
    obtain rfl:=I.iK (hN _ _ _ _ h) (Ck _ _ _ _ h');exact sub r r' ho fW
   |cM _ _=>cases fW
  |cM _ _=>cases ho
structure Alike(A:aG)(s:Shared)(u u':Value)(b:Bool):Prop where
 eq:SeqAt.EqAt A s u u' b
 rc:SeqAt.RcAt A s u u' b
 ne:SeqAt.RcNeAt A s u u' (!b)
theorem alike(I:Inv X pins σ H s)(hN:∀q p xs f,N q p (.l xs) f->dq X.K H p xs)(Ck:∀q p xs f,N' q p (.l xs) f->dq X.K H p xs):
  ∀(n:Nat) (A:aG) {k k':bt} {v v':V} {u u':Value} {d d':D},Rep (aX X.K H) N k v d->Rep (aX X.K H) N' k' v' d'->eA n d=true->eA n d'=true->RelV v u->RelV v' u'->A.units+n<cLine ->
   Alike A s u u' (kj d d'):=by
 intro n;induction n with
 |zero =>
  intro A k k' v v' u u' d d' h h' ho fW r r' hu;cases h with
  |tup _ _=>obtain⟨m,hm,_⟩:=dy ho;left
  |lst _ _=>obtain⟨m,hm,_⟩:=dA ho;left
  |cM _ _=>cases ho
  |bF =>
   cases r;cases h' with
   |tup _ _=>obtain⟨m,hm,_⟩:=dy fW;left
   |lst _ _=>obtain⟨m,hm,_⟩:=dA fW;left
   |cM _ _=>cases fW
   |bF=>cases r';exact⟨abq _,SeqAt.RcAt.none_none,SeqAt.RcNeAt.none_none⟩
   |bl b=>cases r';exact⟨abS b,SeqAt.RcAt.none_bool b,SeqAt.RcNeAt.none_bool b⟩
   |int b=>obtain⟨t,rfl⟩:=r';exact⟨abW b t,SeqAt.RcAt.none_int b t,SeqAt.RcNeAt.none_int b t⟩
   |str b=>obtain⟨t,rfl⟩:=r';exact⟨abX b t,SeqAt.RcAt.none_str b t,SeqAt.RcNeAt.none_str b t⟩
  |bl a =>
   cases r;cases h' with
   |tup _ _=>obtain⟨m,hm,_⟩:=dy fW;left
   |lst _ _=>obtain⟨m,hm,_⟩:=dA fW;left
   |cM _ _=>cases fW
   |bF=>cases r';exact⟨abT a,SeqAt.RcAt.bool_none a,SeqAt.RcNeAt.bool_none a⟩
   |bl b=>cases r';exact⟨abU a b,SeqAt.RcAt.bool_bool a b,SeqAt.RcNeAt.bool_bool a b⟩
   |int b=>obtain⟨t,rfl⟩:=r';exact⟨abY a b t,SeqAt.RcAt.bool_int a b t,SeqAt.RcNeAt.bool_int a b t⟩
   |str b=>obtain⟨t,rfl⟩:=r';exact⟨abZ a b t,SeqAt.RcAt.bool_str a b t,SeqAt.RcNeAt.bool_str a b t⟩
  |int a =>
   obtain⟨t',rfl⟩:=r;cases h' with
   |tup _ _=>obtain⟨m,hm,_⟩:=dy fW;left
   |lst _ _=>obtain⟨m,hm,_⟩:=dA fW;left
   |cM _ _=>cases fW
   |bF=>cases r';exact⟨ab0 a t',SeqAt.RcAt.int_none a t',SeqAt.RcNeAt.int_none a t'⟩
   |bl b=>cases r';exact⟨ab1 a t' b,SeqAt.RcAt.int_bool a t' b,SeqAt.RcNeAt.int_bool a t' b⟩
   |int b=>obtain⟨t,rfl⟩:=r';exact⟨abu a t' b t,SeqAt.RcAt.int_int a t' b t,SeqAt.RcNeAt.int_int a t' b t⟩
   |str b=>obtain⟨t,rfl⟩:=r';exact⟨ab5 a t' b t,SeqAt.RcAt.int_str a t' b t,SeqAt.RcNeAt.int_str a t' b t⟩
  |str a =>
   obtain⟨t',rfl⟩:=r;cases h' with
   |tup _ _=>obtain⟨m,hm,_⟩:=dy fW;left
   |lst _ _=>obtain⟨m,hm,_⟩:=dA fW;left
   |cM _ _=>cases fW
   |bF=>cases r';exact⟨ab2 a t',SeqAt.RcAt.str_none a t',SeqAt.RcNeAt.str_none a t'⟩
   |bl b=>cases r';exact⟨ab3 a t' b,SeqAt.RcAt.str_bool a t' b,SeqAt.RcNeAt.str_bool a t' b⟩
   |int b=>obtain⟨t,rfl⟩:=r';exact⟨ab6 a t' b t,SeqAt.RcAt.str_int a t' b t,SeqAt.RcNeAt.str_int a t' b t⟩
   |str b=>obtain⟨t,rfl⟩:=r';exact⟨ab7 a t' b t,SeqAt.RcAt.str_str a t' b t,SeqAt.RcNeAt.str_str a t' b t⟩
 |succ n ih =>
  intro A k k' v v' u u' d d' h h' ho fW r r' hu;have dQ:A.units<cLine:=by left
  have S3:A.in1.units+n<cLine:=by show A.units+1+n<cLine;left
  have sub:∀{q q':bt} {xs xs':af} {ds ds':ab} {aL its':aq},aD (aX X.K H) N q 0 xs ds->aD (aX X.K H) N' q' 0 xs' ds'->(∀d∈ds,eA n d=true)->(∀d∈ds',eA n d=true)->Vals xs aL->Vals xs' its' ->
    ∀(j:Nat) (h1:j<aL.toArray.size) (h2:j<its'.toArray.size),SeqAt.EqAt A.in1 s aL.toArray[j] its'.toArray[j] (P4 ds ds' j):=by
   intro q q' xs xs' ds ds' aL its' rs wH hd kb rv zD j h1 h2;have l1:ds.length=aL.length:=by rw[<- rs.length,rv.length]
   have l2:ds'.length=its'.length:=by rw[<- wH.length,zD.length]
   simp only[List.size_toArray]at h1 h2;have ea:ds[j]?=some ds[j]:=aan (by left);have eb:ds'[j]?=some ds'[j]:=aan (by left);obtain⟨w1,g1,p1⟩:=rs.get ea;obtain⟨w2,g2,p2⟩:=wH.get eb;obtain⟨u1,k1,z1⟩:=rv.get g1;obtain⟨u2,k2,z2⟩:=zD.get g2;have:=(ih A.in1 p1 p2 (hd _ (aaP _)) (kb _ (aaP _)) z1 z2 S3).eq;unfold P4;rw[ea,eb];rw[List.getElem?_eq_getElem h1]at k1;rw[List.getElem?_eq_getElem h2]at k2;cases k1;cases k2;simpa using this
  cases h with
  |bF =>
   cases r;cases h' with
   |cM _ _=>cases fW
   |bF=>cases r';exact⟨abq _,SeqAt.RcAt.none_none,SeqAt.RcNeAt.none_none⟩
   |bl b=>cases r';exact⟨abS b,SeqAt.RcAt.none_bool b,SeqAt.RcNeAt.none_bool b⟩
   |int b=>obtain⟨t,rfl⟩:=r';exact⟨abW b t,SeqAt.RcAt.none_int b t,SeqAt.RcNeAt.none_int b t⟩
   |str b=>obtain⟨t,rfl⟩:=r';exact⟨abX b t,SeqAt.RcAt.none_str b t,SeqAt.RcNeAt.none_str b t⟩
   |tup h' rr=>cases r';obtain⟨aL,_,pt,_⟩:=I.tuple h';exact⟨SeqAt.EqAt.none_tuple pt dQ,SeqAt.RcAt.none_tuple pt dQ,SeqAt.RcNeAt.none_tuple pt dQ⟩
   |lst h' rr=>cases r';obtain⟨aL,_,pt,_⟩:=I.list (Ck _ _ _ _ h');exact⟨SeqAt.EqAt.none_list pt.isList dQ,SeqAt.RcAt.none_list pt.isList dQ,SeqAt.RcNeAt.none_list pt.isList dQ⟩
  |bl a =>
   cases r;cases h' with
   |cM _ _=>cases fW
   |bF=>cases r';exact⟨abT a,SeqAt.RcAt.bool_none a,SeqAt.RcNeAt.bool_none a⟩
   |bl b=>cases r';exact⟨abU a b,SeqAt.RcAt.bool_bool a b,SeqAt.RcNeAt.bool_bool a b⟩
   |int b=>obtain⟨t,rfl⟩:=r';exact⟨abY a b t,SeqAt.RcAt.bool_int a b t,SeqAt.RcNeAt.bool_int a b t⟩
   |str b=>obtain⟨t,rfl⟩:=r';exact⟨abZ a b t,SeqAt.RcAt.bool_str a b t,SeqAt.RcNeAt.bool_str a b t⟩
   |tup h' rr=>cases r';obtain⟨aL,_,pt,_⟩:=I.tuple h';exact⟨SeqAt.EqAt.bool_tuple a pt dQ,SeqAt.RcAt.bool_tuple a pt dQ,SeqAt.RcNeAt.bool_tuple a pt dQ⟩
   |lst h' rr=>cases r';obtain⟨aL,_,pt,_⟩:=I.list (Ck _ _ _ _ h');exact⟨SeqAt.EqAt.bool_list a pt.isList dQ,SeqAt.RcAt.bool_list a pt.isList dQ,SeqAt.RcNeAt.bool_list a pt.isList dQ⟩
  |int a =>
   obtain⟨t',rfl⟩:=r;cases h' with
   |cM _ _=>cases fW
   |bF=>cases r';exact⟨ab0 a t',SeqAt.RcAt.int_none a t',SeqAt.RcNeAt.int_none a t'⟩
   |bl b=>cases r';exact⟨ab1 a t' b,SeqAt.RcAt.int_bool a t' b,SeqAt.RcNeAt.int_bool a t' b⟩
   |int b=>obtain⟨t,rfl⟩:=r';exact⟨abu a t' b t,SeqAt.RcAt.int_int a t' b t,SeqAt.RcNeAt.int_int a t' b t⟩
   |str b=>obtain⟨t,rfl⟩:=r';exact⟨ab5 a t' b t,SeqAt.RcAt.int_str a t' b t,SeqAt.RcNeAt.int_str a t' b t⟩
   |tup h' rr=>cases r';obtain⟨aL,_,pt,_⟩:=I.tuple h';exact⟨SeqAt.EqAt.int_tuple a t' pt dQ,SeqAt.RcAt.int_tuple a t' pt dQ,SeqAt.RcNeAt.int_tuple a t' pt dQ⟩
   |lst h' rr=>cases r';obtain⟨aL,_,pt,_⟩:=I.list (Ck _ _ _ _ h');exact⟨SeqAt.EqAt.int_list a t' pt.isList dQ,SeqAt.RcAt.int_list a t' pt.isList dQ,SeqAt.RcNeAt.int_list a t' pt.isList dQ⟩
  |str a =>
   obtain⟨t',rfl⟩:=r;cases h' with
   |cM _ _=>cases fW
   |bF=>cases r';exact⟨ab2 a t',SeqAt.RcAt.str_none a t',SeqAt.RcNeAt.str_none a t'⟩
   |bl b=>cases r';exact⟨ab3 a t' b,SeqAt.RcAt.str_bool a t' b,SeqAt.RcNeAt.str_bool a t' b⟩
   |int b=>obtain⟨t,rfl⟩:=r';exact⟨ab6 a t' b t,SeqAt.RcAt.str_int a t' b t,SeqAt.RcNeAt.str_int a t' b t⟩
   |str b=>obtain⟨t,rfl⟩:=r';exact⟨ab7 a t' b t,SeqAt.RcAt.str_str a t' b t,SeqAt.RcNeAt.str_str a t' b t⟩
   |tup h' rr=>cases r';obtain⟨aL,_,pt,_⟩:=I.tuple h';exact⟨SeqAt.EqAt.str_tuple a t' pt dQ,SeqAt.RcAt.str_tuple a t' pt dQ,SeqAt.RcNeAt.str_tuple a t' pt dQ⟩
   |lst h' rr=>cases r';obtain⟨aL,_,pt,_⟩:=I.list (Ck _ _ _ _ h');exact⟨SeqAt.EqAt.str_list a t' pt.isList dQ,SeqAt.RcAt.str_list a t' pt.isList dQ,SeqAt.RcNeAt.str_list a t' pt.isList dQ⟩
  | @tup _ p xs ds h rs =>
   cases r;obtain⟨aL,rv,pt,_⟩:=I.tuple h;have pt:s.heap.IsTuple p aL.toArray:=pt;cases h' with
   |cM _ _=>cases fW
   |bF=>cases r';exact⟨SeqAt.EqAt.tuple_none pt dQ,SeqAt.RcAt.tuple_none pt dQ,SeqAt.RcNeAt.tuple_none pt dQ⟩
   |bl b=>cases r';exact⟨SeqAt.EqAt.tuple_bool b pt dQ,SeqAt.RcAt.tuple_bool b pt dQ,SeqAt.RcNeAt.tuple_bool b pt dQ⟩
   |int b=>obtain⟨t,rfl⟩:=r';exact⟨SeqAt.EqAt.tuple_int b t pt dQ,SeqAt.RcAt.tuple_int b t pt dQ,SeqAt.RcNeAt.tuple_int b t pt dQ⟩
   |str b=>obtain⟨t,rfl⟩:=r';exact⟨SeqAt.EqAt.tuple_str b t pt dQ,SeqAt.RcAt.tuple_str b t pt dQ,SeqAt.RcNeAt.tuple_str b t pt dQ⟩
   |lst h' rr=>cases r';obtain⟨its',_,pl,_⟩:=I.list (Ck _ _ _ _ h');exact⟨SeqAt.EqAt.tuple_list pt pl.isList dQ,SeqAt.RcAt.tuple_list pt pl.isList dQ,SeqAt.RcNeAt.tuple_list pt pl.isList dQ⟩
   | @tup _ p' xs' ds' h' wH =>
    cases r';obtain⟨m,hm,zH⟩:=dy ho;obtain rfl:n=m:=by left
    obtain⟨m,hm,oz⟩:=dy fW;obtain rfl:n=m:=by left
    obtain⟨its',zD,QM,_⟩:=I.tuple h';have QM:s.heap.IsTuple p' its'.toArray:=QM;have key:=sub rs wH zH oz rv zD;have l1:ds.length=aL.toArray.size:=by rw[List.size_toArray,<- rs.length,rv.length]
    have l2:ds'.length=its'.toArray.size:=by rw[List.size_toArray,<- wH.length,zD.length]
    have rc:SeqAt.RcAt A s (.ref p) (.ref p') (kj (.tup ds) (.tup ds')):=by
     have:=SeqAt.RcAt.tuples pt QM dQ key;rw[<- l1,<- l2,jG]at this;exact this
    refine⟨?_,rc,?_⟩
    ·by_cases hp:p=p'
     ·subst hp;rw[AF I hN Ck (n+1) (Rep.tup h rs) (Rep.tup h' wH) ho fW];exact abq _
     ·exact SeqAt.EqAt.of_refs hp rc
    ·have:=SeqAt.RcNeAt.tuples pt QM dQ key;rw[<- l1,<- l2,jG]at this;exact this
  | @lst _ p xs f ds h rs =>
   cases r;obtain⟨aL,rv,pl,_⟩:=I.list (hN _ _ _ _ h);have pl:=pl.isList;cases h' with
   |cM _ _=>cases fW
   |bF=>cases r';exact⟨SeqAt.EqAt.list_none pl dQ,SeqAt.RcAt.list_none pl dQ,SeqAt.RcNeAt.list_none pl dQ⟩
   |bl b=>cases r';exact⟨SeqAt.EqAt.list_bool b pl dQ,SeqAt.RcAt.list_bool b pl dQ,SeqAt.RcNeAt.list_bool b pl dQ⟩
   |int b=>obtain⟨t,rfl⟩:=r';exact⟨SeqAt.EqAt.list_int b t pl dQ,SeqAt.RcAt.list_int b t pl dQ,SeqAt.RcNeAt.list_int b t pl dQ⟩
   |str b=>obtain⟨t,rfl⟩:=r';exact⟨SeqAt.EqAt.list_str b t pl dQ,SeqAt.RcAt.list_str b t pl dQ,SeqAt.RcNeAt.list_str b t pl dQ⟩
   |tup h' rr=>cases r';obtain⟨its',_,pt,_⟩:=I.tuple h';exact⟨SeqAt.EqAt.list_tuple pl pt dQ,SeqAt.RcAt.list_tuple pl pt dQ,SeqAt.RcNeAt.list_tuple pl pt dQ⟩
   | @lst _ p' xs' f' ds' h' wH =>
    cases r';obtain⟨m,hm,zH⟩:=dA ho;obtain rfl:n=m:=by left
    obtain⟨m,hm,oz⟩:=dA fW;obtain rfl:n=m:=by left
    obtain⟨its',zD,DH,_⟩:=I.list (Ck _ _ _ _ h');have DH:=DH.isList;have key:=sub rs wH zH oz rv zD;have l1:ds.length=aL.toArray.size:=by rw[List.size_toArray,<- rs.length,rv.length]
    have l2:ds'.length=its'.toArray.size:=by rw[List.size_toArray,<- wH.length,zD.length]
    have two:SeqAt.RcAt A s (.ref p) (.ref p') (kj (.lst f ds) (.lst f' ds'))/\SeqAt.RcNeAt A s (.ref p) (.ref p') (!kj (.lst f ds) (.lst f' ds')):=by
     show SeqAt.RcAt A s (.ref p) (.ref p') (fu ds ds')/\SeqAt.RcNeAt A s (.ref p) (.ref p') (!fu ds ds');rw[<- jG];by_cases hl:ds.length=ds'.length
     ·have e1:(ds.length==ds'.length)=true:=by simp[hl]
      rw[e1,Bool.and_true,<- hl,Nat.min_self];have hz:aL.toArray.size=its'.toArray.size:=by rw[<- l1,<- l2,hl]
      refine⟨?_,?_⟩
      ·have:=SeqAt.RcAt.lists pl DH hz dQ key;rw[<- l1]at this;exact this
      ·have:=SeqAt.RcNeAt.lists pl DH hz dQ key;rw[<- l1]at this;exact this
     ·have e1:(ds.length==ds'.length)=false:=by simp[hl]
      rw[e1,Bool.and_false];have hz:(aL.toArray.size != its'.toArray.size)=true:=by rw[<- l1,<- l2];simp[hl]
      exact⟨SeqAt.RcAt.lists_lengths pl DH hz dQ,SeqAt.RcNeAt.lists_lengths pl DH hz dQ⟩
    refine⟨?_,two.1,two.2⟩;by_cases hp:p=p'
    ·subst hp;rw[AF I hN Ck (n+1) (Rep.lst h rs) (Rep.lst h' wH) ho fW];exact abq _
    ·exact SeqAt.EqAt.of_refs hp two.1
  |cM _ _=>cases ho
end
structure Px where
 pe:Nat->Scope->ai->Expr->Option (aj)
 pi:Nat->Scope->ai->Expr->Option (aj)
 pm:Nat->Scope->ai->Stmt->Option (Expr×aj)
structure Sx where
 sc:Scope
 N:ai
 fn:Nat->Option Str
 bl:ai
 cs:List (Str×GK)
 px:Px
noncomputable def NN:G5->Operator
 |.add=>.Add|.sub=>.Sub|.mul=>.Mult|.fdiv=>.FloorDiv|.mod=>.Mod|.pow=>.Pow
noncomputable def Sk:zR->CmpOp
 |.eq=>.Eq|.ne=>.NotEq|.lt=>.Lt|.le=>.LtE|.gt=>.Gt|.ge=>.GtE|.Kf=>.Is|.qy=>.IsNot|.tM=>.In
noncomputable def tyName:Ty->String
 |.int=>"int" |.bool=>"bool" |.str=>"str" |.list=>"list" |.tuple=>"tuple"
noncomputable def rG:Bf->String
 |.len=>"len" |.abs=>"abs" |.min2=>"min" |.list1=>"list" |.tuple1=>"tuple" |.jz=>"sum" |.all1=>"all" |.gN=>"sorted"
noncomputable def Ip(sc:Scope)(x:Str):Bool:=decide (sc.names.lookup x=some .local)||decide (sc.names.lookup x=some .cell)||decide (sc.names.lookup x=some .free)
noncomputable def jt(sc:Scope)(x:Str):Bool:=decide (sc.names.lookup x=some .globalImplicit)
noncomputable def m7(x:Str):Bool:=!(x==("__debug__" : Str))&&!(x==("__classdict__" : Str))&&decide (x≠("__name__" : Str))
noncomputable def pq:Expr->Bool
 |.Set _ _ _=>false
 |_=>true
noncomputable def sU(sc outer:Scope):Scope :=
 { sc with names:=sc.names.map λ(n,k)=>if (k==.free&&outer.kind==.function&&outer.names.lookup n==some .cell)then(n,.cell)else(n,k) }
noncomputable def b8:Expr->ai
 |.Name x _=>[x]
 |.Tuple es _ _=>es.filterMap λe=>match e with|.Name x _=>some x|_=>none
 |_=>[]
noncomputable def gh(S:Sx)(caps:aM):ai:=caps.filterMap λi=>S.N[i]?
def Sx.inner(S:Sx)(target:Expr)(caps:aM)(sc:Scope):Sx:=⟨sU sc S.sc,b8 target++gh S caps,S.fn,S.bl,S.cs,S.px⟩
noncomputable def gS:Expr->Bool
 |.Tuple _ _ _=>true
 |_=>false
noncomputable def isNm(e:Expr):Bool:=decide (e.ctorIdx=23)
theorem l_{e:Expr}(h:isNm e=true):∃x p,e=.Name x p:=Expr.Name.elim (motive_1:=λe=>∃x p,e=.Name x p) e (aab h) λx p=>⟨x,p,rfl⟩
noncomputable def X1:Expr->Bool
 |.Name ..=>true
 |.Call ..=>true
 |.BinOp ..=>true
 |.Subscript ..=>true
 |.Compare ..=>true
 |.Dict ..=>true
 |_=>false
noncomputable def QN:Expr->Bool
 |.Call ..=>true
 |.Name ..=>true
 |_=>false
theorem aJ{a b:Bool}(h:(a&&b)=true):a=true/\b=true:=by
 cases a<;>cases b<;>first|exact⟨rfl,rfl⟩|cases h
noncomputable def bx{α:Type}(o:Option α)(f:α->Bool):Bool:=match o with
 |some a=>f a
 |none=>false
theorem bz{α:Type}{o:Option α}{f:α->Bool}(h:bx o f=true):∃a,o=some a/\f a=true:=by
 cases o with
 |some a=>exact⟨a,rfl,h⟩
 |none=>cases h
theorem dI{α:Type}{c:Prop}[Decidable c]{f:c->Option α}{x:α}(h:(if h:c then f h else none)=some x):∃k:c,f k=some x:=by
 by_cases k:c
 ·rw[dif_pos k]at h;exact⟨k,h⟩
 ·rw[dif_neg k]at h;cases h
theorem bT{α β:Type}{o:Option α}{f:α->Option β}{b:β}(h:o.bind f=some b):∃a,o=some a/\f a=some b:=Option.bind_eq_some_iff.mp h
theorem gT{α:Type}{c:Prop}[Decidable c]{o:Option α}{b:α}(h:(if c then o else none)=some b):c/\o=some b:=by
 by_cases k:c
 ·rw[if_pos k]at h;exact⟨k,h⟩
 ·rw[if_neg k]at h;cases h
noncomputable def vC(e:Expr):Option Const:=if h:e.ctorIdx=19 then Expr.Constant.elim (motive_1:=λ_=>Option Const) e h (λc _ _=>some c)else none
theorem we{e:Expr}{c:Const}(h:vC e=some c):∃j p,e=.Constant c j p:=by
 obtain⟨k,h⟩:=dI h;exact Expr.Constant.elim (motive_1:=λe=>∀k:e.ctorIdx=19,Expr.Constant.elim (motive_1:=λ_=>Option Const) e k (λc _ _=>some c)=some c->∃j p,e=.Constant c j p) e k (λ_ _ _ _ h=>by cases h;exact⟨_,_,rfl⟩) k h
noncomputable def BV:Const->Bool
 |.none=>true
 |_=>false
theorem yM{c:Const}(h:BV c=true):c=.none:=by cases c<;>first|rfl|cases h
noncomputable def Hx(b:Bool):Const->Bool
 |.bool c=>decide (b=c)
 |_=>false
theorem BX{b:Bool}{c:Const}(h:Hx b c=true):c=.bool b:=by cases c<;>first | (cases h;done)|rw[of_decide_eq_true h]
noncomputable def BW(b:Int):Const->Bool
 |.int c=>decide (b=c)
 |_=>false
theorem yN{b:Int}{c:Const}(h:BW b c=true):c=.int b:=by cases c<;>first | (cases h;done)|rw[of_decide_eq_true h]
noncomputable def BU(b:Str):Const->Bool
 |.str c=>decide (b=c)
 |_=>false
theorem yL{b:Str}{c:Const}(h:BU b c=true):c=.str b:=by cases c<;>first | (cases h;done)|rw[of_decide_eq_true h]
noncomputable def Mw(e:Expr):Option Str:=if h:e.ctorIdx=23 then Expr.Name.elim (motive_1:=λ_=>Option Str) e h (λx _=>some x)else none
theorem mE{e:Expr}{x:Str}(h:Mw e=some x):∃p,e=.Name x p:=by
 obtain⟨k,h⟩:=dI h;exact Expr.Name.elim (motive_1:=λe=>∀k:e.ctorIdx=23,Expr.Name.elim (motive_1:=λ_=>Option Str) e k (λx _=>some x)=some x->∃p,e=.Name x p) e k (λ_ _ _ h=>by cases h;exact⟨_,rfl⟩) k h
noncomputable def MB(e:Expr):Option (Expr×Operator×Expr):=if h:e.ctorIdx=2 then Expr.BinOp.elim (motive_1:=λ_=>Option (Expr×Operator×Expr)) e h (λl o r _=>some (l,o,r))else none
theorem D_{e l r:Expr}{o:Operator}(h:MB e=some (l,o,r)):∃p,e=.BinOp l o r p:=by
 obtain⟨k,h⟩:=dI h;exact Expr.BinOp.elim (motive_1:=λe=>∀k:e.ctorIdx=2,Expr.BinOp.elim (motive_1:=λ_=>Option (Expr×Operator×Expr)) e k (λl o r _=>some (l,o,r))=some (l,o,r)->∃p,e=.BinOp l o r p) e k (λ_ _ _ _ _ h=>by cases h;exact⟨_,rfl⟩) k h
noncomputable def Rp(e:Expr):Option (UnaryOp×Expr):=if h:e.ctorIdx=3 then Expr.UnaryOp.elim (motive_1:=λ_=>Option (UnaryOp×Expr)) e h (λo e _=>some (o,e))else none
theorem z4{e x:Expr}{o:UnaryOp}(h:Rp e=some (o,x)):∃p,e=.UnaryOp o x p:=by
 obtain⟨k,h⟩:=dI h;exact Expr.UnaryOp.elim (motive_1:=λe=>∀k:e.ctorIdx=3,Expr.UnaryOp.elim (motive_1:=λ_=>Option (UnaryOp×Expr)) e k (λo e _=>some (o,e))=some (o,x)->∃p,e=.UnaryOp o x p) e k (λ_ _ _ _ h=>by cases h;exact⟨_,rfl⟩) k h
noncomputable def vBool(e:Expr):Option (BoolOp×aj):=if h:e.ctorIdx=0 then Expr.BoolOp.elim (motive_1:=λ_=>Option (BoolOp×aj)) e h (λo vs _=>some (o,vs))else none
theorem r_{e:Expr}{o:BoolOp}{vs:aj}(h:vBool e=some (o,vs)):∃p,e=.BoolOp o vs p:=by
 obtain⟨k,h⟩:=dI h;exact Expr.BoolOp.elim (motive_1:=λe=>∀k:e.ctorIdx=0,Expr.BoolOp.elim (motive_1:=λ_=>Option (BoolOp×aj)) e k (λo vs _=>some (o,vs))=some (o,vs)->∃p,e=.BoolOp o vs p) e k (λ_ _ _ _ h=>by cases h;exact⟨_,rfl⟩) k h
noncomputable def Vr(e:Expr):Option (Expr×Expr×Expr):=if h:e.ctorIdx=5 then Expr.IfExp.elim (motive_1:=λ_=>Option (Expr×Expr×Expr)) e h (λt x y _=>some (t,x,y))else none
theorem Ir{e t x y:Expr}(h:Vr e=some (t,x,y)):∃p,e=.IfExp t x y p:=by
 obtain⟨k,h⟩:=dI h;exact Expr.IfExp.elim (motive_1:=λe=>∀k:e.ctorIdx=5,Expr.IfExp.elim (motive_1:=λ_=>Option (Expr×Expr×Expr)) e k (λt x y _=>some (t,x,y))=some (t,x,y)->∃p,e=.IfExp t x y p) e k (λ_ _ _ _ _ h=>by cases h;exact⟨_,rfl⟩) k h
noncomputable def one{α:Type}:List α->Option α
 |[]=>none
 |x::xs=>match xs with
  |[]=>some x
  |_::_=>none
theorem ck{α:Type}{l:List α}{x:α}(h:one l=some x):l=[x]:=by
 cases l with
 |nil=>cases h
 |cons y ys=>cases ys with
  |nil=>cases h;rfl
  |cons _ _=>cases h
def two{α:Type}:List α->Option (α×α)
 |[]=>none
 |x::xs=>(one xs).map λy=>(x,y)
theorem jx{α:Type}{l:List α}{x y:α}(h:two l=some (x,y)):l=[x,y]:=by
 cases l with
 |nil=>cases h
 |cons z zs=>cases zs with
  |nil=>cases h
  |cons w ws=>cases ws with
   |nil=>cases h;rfl
   |cons _ _=>cases h
noncomputable def Rq{α:Type}:List α->Option (α×List α)
 |[]=>none
 |x::xs=>some (x,xs)
theorem Aa{α:Type}{l xs:List α}{x:α}(h:Rq l=some (x,xs)):l=x::xs:=by
 cases l with
 |nil=>cases h
 |cons y ys=>cases h;rfl
noncomputable def D9(e:Expr):Option (Expr×List CmpOp×aj):=if h:e.ctorIdx=15 then Expr.Compare.elim (motive_1:=λ_=>Option (Expr×List CmpOp×aj)) e h (λl os rs _=>some (l,os,rs))else none
theorem p8{e l:Expr}{os:List CmpOp}{rs:aj}(h:D9 e=some (l,os,rs)):∃p,e=.Compare l os rs p:=by
 obtain⟨k,h⟩:=dI h;exact Expr.Compare.elim (motive_1:=λe=>∀k:e.ctorIdx=15,Expr.Compare.elim (motive_1:=λ_=>Option (Expr×List CmpOp×aj)) e k (λl os rs _=>some (l,os,rs))=some (l,os,rs)->∃p,e=.Compare l os rs p) e k (λ_ _ _ _ _ h=>by cases h;exact⟨_,rfl⟩) k h
noncomputable def z7(e:Expr):Option (Expr×aj×List Keyword):=if h:e.ctorIdx=16 then Expr.Call.elim (motive_1:=λ_=>Option (Expr×aj×List Keyword)) e h (λf as ks _=>some (f,as,ks))else none
theorem yj{e f:Expr}{as:aj}{ks:List Keyword}(h:z7 e=some (f,as,ks)):∃p,e=.Call f as ks p:=by
 obtain⟨k,h⟩:=dI h;exact Expr.Call.elim (motive_1:=λe=>∀k:e.ctorIdx=16,Expr.Call.elim (motive_1:=λ_=>Option (Expr×aj×List Keyword)) e k (λf as ks _=>some (f,as,ks))=some (f,as,ks)->∃p,e=.Call f as ks p) e k (λ_ _ _ _ _ h=>by cases h;exact⟨_,rfl⟩) k h
def f6(e:Expr):Option (Str×aj):=(z7 e).bind λz=>if z.2.2.isEmpty=true then(Mw z.1).bind λx=>some (x,z.2.1)else none
theorem NU{α:Type}{l:List α}(h:l.isEmpty=true):l=[]:=List.isEmpty_iff.mp h
theorem cW{e:Expr}{x:Str}{as:aj}(h:f6 e=some (x,as)):∃p pos,e=.Call (.Name x p) as [] pos:=by
 obtain⟨⟨f,W2,ks⟩,hv,h⟩:=bT h;obtain⟨hc,h⟩:=gT h;obtain⟨y,hn,h⟩:=bT h;cases h;obtain⟨pos,rfl⟩:=yj hv;obtain⟨p,rfl⟩:=mE hn;obtain rfl:=NU hc;exact⟨p,pos,rfl⟩
noncomputable def r9(e:Expr):Option (Expr×Expr):=if h:e.ctorIdx=21 then Expr.Subscript.elim (motive_1:=λ_=>Option (Expr×Expr)) e h (λa b _=>some (a,b))else none
theorem i5{e a b:Expr}(h:r9 e=some (a,b)):∃p,e=.Subscript a b p:=by
 obtain⟨k,h⟩:=dI h;exact Expr.Subscript.elim (motive_1:=λe=>∀k:e.ctorIdx=21,Expr.Subscript.elim (motive_1:=λ_=>Option (Expr×Expr)) e k (λa b _=>some (a,b))=some (a,b)->∃p,e=.Subscript a b p) e k (λ_ _ _ _ h=>by cases h;exact⟨_,rfl⟩) k h
noncomputable def yi(e:Expr):Option (aj):=if h:e.ctorIdx=25 then Expr.Tuple.elim (motive_1:=λ_=>Option (aj)) e h (λes _ _=>some es)else none
theorem j0{e:Expr}{es:aj}(h:yi e=some es):∃n p,e=.Tuple es n p:=by
 obtain⟨k,h⟩:=dI h;exact Expr.Tuple.elim (motive_1:=λe=>∀k:e.ctorIdx=25,Expr.Tuple.elim (motive_1:=λ_=>Option (aj)) e k (λes _ _=>some es)=some es->∃n p,e=.Tuple es n p) e k (λ_ _ _ _ h=>by cases h;exact⟨_,_,rfl⟩) k h
noncomputable def Mx(e:Expr):Option (aj):=if h:e.ctorIdx=24 then Expr.List.elim (motive_1:=λ_=>Option (aj)) e h (λes _=>some es)else none
theorem D5{e:Expr}{es:aj}(h:Mx e=some es):∃p,e=.List es p:=by
 obtain⟨k,h⟩:=dI h;exact Expr.List.elim (motive_1:=λe=>∀k:e.ctorIdx=24,Expr.List.elim (motive_1:=λ_=>Option (aj)) e k (λes _=>some es)=some es->∃p,e=.List es p) e k (λ_ _ _ h=>by cases h;exact⟨_,rfl⟩) k h
noncomputable def G9(e:Expr):Option (Expr×List Comprehension×Scope):=if h:e.ctorIdx=8 then Expr.ListComp.elim (motive_1:=λ_=>Option (Expr×List Comprehension×Scope)) e h (λe gs sc _=>some (e,gs,sc))else none
theorem z6{e x:Expr}{gs:List Comprehension}{sc:Scope}(h:G9 e=some (x,gs,sc)):∃p,e=.ListComp x gs sc p:=by
 obtain⟨k,h⟩:=dI h;exact Expr.ListComp.elim (motive_1:=λe=>∀k:e.ctorIdx=8,Expr.ListComp.elim (motive_1:=λ_=>Option (Expr×List Comprehension×Scope)) e k (λe gs sc _=>some (e,gs,sc))=some (x,gs,sc)->∃p,e=.ListComp x gs sc p) e k (λ_ _ _ _ _ h=>by cases h;exact⟨_,rfl⟩) k h
theorem lC{a:Bool}(h:(!a)=true):a=false:=by cases a<;>first|rfl|cases h
def rA(S:Sx)(n:Nat)(t:Tg)(caps:aM)(target:Expr)(sc:Scope):Bool :=
 decide (sc.kind=.function)&&sc.names.all (λ(x,k)=>decide (k≠.cell)&&(decide (k≠.local)||decide (sc.names.lookup x=some .local))&&(decide (k≠.free)||decide (S.sc.names.lookup x=some .cell)||decide (S.sc.names.lookup x=some .free))) &&
 decide (n=(b8 target).length)&&(b8 target).all (λx=>decide (sc.names.lookup x=some .local))&&decide (b8 target++gh S caps).Nodup &&
 caps.all (λi=>match S.N[i]? with|some x=>decide (sc.names.lookup x=some .free)|none=>false) &&
 (match t with
  |.nm i=>decide (i=0)&&isNm target
  |.tp is=>bx (yi target) λes=>decide (is=List.range es.length)&&es.all isNm)
mutual
noncomputable def cj(S:Sx):CE->Expr->Bool
 |.bO p es,e0=>X1 e0&&bx (S.px.pe p S.sc S.bl e0) λxs=>bY S es xs
 |.bF,e0=>bx (vC e0) λc=>BV c
 |.bl b,e0=>bx (vC e0) λc=>Hx b c
 |.int i,e0=>bx (vC e0) λc=>BW i c
 |.str s,e0=>bx (vC e0) λc=>BU s c
 |.v i,e0=>bx (Mw e0) λx=>decide (S.N[i]?=some x)&&Ip S.sc x&&m7 x
 |.glo x i,e0=>bx (Mw e0) λy=>decide (y=x)&&jt S.sc x&&decide ((x,GK.i i)∈S.cs)&&!(x==("__debug__" : Str))
 |.bin op a b,e0=>bx (MB e0) λz=>decide (z.2.1=NN op)&&cj S a z.1&&cj S b z.2.2
 |.neg a,e0=>bx (Rp e0) λz=>decide (z.1=.USub)&&cj S a z.2
 |.not a,e0=>bx (Rp e0) λz=>decide (z.1=.Not)&&cj S a z.2
 |.and es,e0=>bx (vBool e0) λz=>decide (z.1=.And)&&bY S es z.2
 |.or es,e0=>bx (vBool e0) λz=>decide (z.1=.Or)&&bY S es z.2
 |.ite c a b,e0=>bx (Vr e0) λz=>cj S c z.1&&cj S a z.2.1&&cj S b z.2.2
 |.cmp op a b,e0=>bx (D9 e0) λz=>decide (z.2.1=[Sk op])&&cj S a z.1&&bx (one z.2.2) λr=>cj S b r&&pq r
 |.jW a t,e0=>bx (f6 e0) λz=>decide (z.1=("isinstance" : Str))&&jt S.sc z.1&&decide (z.1∈S.bl)&&bx (two z.2) λy=>cj S a y.1&&bx (Mw y.2) λx=>decide (x=(tyName t:Str))&&jt S.sc x&&decide (x∈S.bl)
 |.call f es,e0=>bx (f6 e0) λz=>decide (S.fn f=some z.1)&&jt S.sc z.1&&m7 z.1&&bx (Rq z.2) λy=>bY S es (y.1::y.2)
 |.bf f es,e0=>bx (f6 e0) λz=>decide (z.1=(rG f:Str))&&jt S.sc z.1&&decide (z.1∈S.bl)&&bx (Rq z.2) λy=>bY S es (y.1::y.2)
 |.lS a,e0=>bx (f6 e0) λz=>decide (z.1=("len" : Str))&&jt S.sc z.1&&decide (z.1∈S.bl)&&bx (one z.2) λy=>bx (f6 y) λw=>decide (w.1=("set" : Str))&&jt S.sc w.1&&decide (w.1∈S.bl)&&bx (one w.2) λu=>cj S a u
 |.ix a b,e0=>bx (r9 e0) λz=>cj S a z.1&&cj S b z.2
 |.tup es,e0=>bx (yi e0) λxs=>bY S es xs&&decide (es.length<=1000)
 |.lst es,e0=>bx (Mx e0) λxs=>bY S es xs&&decide (es.length<=1000)
 |.comp n t caps ik es bI elt,e0=>bx (G9 e0) λz=>bx (one z.2.1) λg=>decide (g.is_async=0)&&rA S n t caps g.target z.2.2&&pq g.iter&&decide (bI.length<=1)&&bY (S.inner g.target caps z.2.2) bI g.ifs&&cj (S.inner g.target caps z.2.2) elt z.1 &&
     (match ik with
      |.kF=>bx (f6 g.iter) λw=>decide (w.1=("range" : Str))&&jt S.sc w.1&&decide (w.1∈S.bl)&&bx (one w.2) λy=>bY S es [y]
      |.seq=>bY S es [g.iter]
      |.bO p=>QN g.iter&&(decide (1100<=p)||gS g.target)&&bx (S.px.pi p S.sc S.bl g.iter) λxs=>bY S es xs)
noncomputable def bY(S:Sx):aE->aj->Bool
 |[],es=>match es with
  |[]=>true
  |_::_=>false
 |c::cs,es=>match es with
  |[]=>false
  |e::es=>cj S c e&&bY S cs es
end
def Es(K:ao)(n:Nat)(m:aw):Sp:=λvs H Q _=>∃(F:ah) (ds:ab) (r:D),vs.length=n/\aD (aX K H) (nd K F (λ_=>False) (λ_=>none) H) [] 0 vs ds/\m ds=ok r /\
 ∀v H',aI H H'->(∃τt:Addr->Option bt,(∀p q,τt p=some q->H p=none)/\Rep (aX K H') (nd K (λp=>F p\/H p=none) (λ_=>False) τt H') [] v r)->Q v H'
structure LJ(X:Cx)(k:Nat)(x:Str)(m:aw):Prop where
 ex:∃(f:Addr) (fd:FuncData) (ps:ai),jn X.prog X.w X.K X.mg X.base zQ k f fd ps (Es X.K ps.length m)/\X.mg x=some (.ref f)/\PySem.W.keepIn X.K (.ref f)=true/\Binds X.K fd ps []/\∀ds r,m ds=ok r->ds.length=ps.length
noncomputable def kinds:List String:=["NoneType","bool","int","str","list","tuple","dict"]
def Om:Ty->String->Bool
 |.int,s=>s == "int" ||s == "bool"
 |t,s=>s==tyName t
theorem aI.upd{H:Hp}{p:Addr}{o:HO}(h:H p=none):aI H (upd H p o):=λb u e=>by
 rw[bw (by rintro rfl;rw[h]at e;cases e)];exact e
theorem Bv{i j:Int}(h:ie i j=true):IntMulOk i j:=by
 unfold ie at h;simp only[Bool.or_eq_true,Bool.and_eq_true,decide_eq_true_eq]at h;rcases h with (h|h)|⟨h1,h2⟩
 ·exact .of_left (intBits_le h)
 ·exact .of_right (intBits_le h)
 ·have b1:Builtin.Int.intBits i<=9000:=intBits_le h1;have b2:Builtin.Int.intBits j<=9000:=intBits_le h2;unfold IntMulOk;have hb:Builtin.Int.intTooBig ((Builtin.Int.intBits i:Int)+(Builtin.Int.intBits j:Int))=false:=by
   unfold Builtin.Int.intTooBig;have:(bitsLine:Int)=134217728:=by decide
   exact abc (by left)
  rw[hb];simp
section
variable {K:ao}{R:ah}{τ τt:Addr->Option bt}{fv:aM}{H H':Hp}
theorem Fj:kD X (binaryOp .Add) (λx y H Q=>∃a b xs ys,x=.ref a/\y=.ref b/\aX X.K H a xs/\aX X.K H b ys/\xs.length+ys.length<=sizeLine/\(xs=[]->Q (.ref b) H)/\(ys=[]->Q (.ref a) H)/\∀p,H p=none->Q (.ref p) (upd H p (.tup (xs++ys)))):=by
 intro pins s σ H x y v u Q I rx ry h;obtain⟨a,b,xs,ys,rfl,rfl,ha,hb,hz,q0,q1,q2⟩:=h;cases rx;cases ry;by_cases hx:xs=[]
 ·subst hx;obtain⟨aL,r1,p1,_⟩:=I.tuple ha;obtain⟨qK,r2,p2,_⟩:=I.tuple hb;cases r1;obtain⟨⟨cls,dd,data,sl⟩,ho,hc,n,hd⟩:=id p1;obtain⟨⟨C4,rX,data2,rR⟩,oz,hc2,n2,hd2⟩:=id p2;simp only at hc hd hc2 hd2;subst hc hd hc2 hd2;exact concat_meets ⟨_,ho,rfl⟩ ⟨_,oz,rfl⟩ noFill_tuple_add seq_tuple_add abF abB (abw _ _)
   (tuple_addW0 a b [].toArray qK.toArray n n2 dd rX sl rR rfl) ⟨ho,oz,⟨.ref b,H,I,rfl,q0 rfl⟩⟩
 ·exact Fi pins s σ H (.ref a) (.ref b) _ _ Q I rfl rfl ⟨a,b,xs,ys,rfl,rfl,ha,hb,hx,hz,q1,λ_=>q2⟩
theorem nd.pG(k k':bt)(p:Addr)(xs:Nd)(f:Fl)(h:nd K R A (λ_=>none) H k p xs f):nd K R A (λ_=>none) H k' p xs f:=by
 cases f with
 |ow=>exact nomatch h.2
 |fz=>exact h
 |al=>exact h
 |sc=>exact h
theorem NV(Si:SI X F R τ ρ σ H)(fr:∀p q,τt p=some q->H p=none)(k k':bt)(p:Addr)(xs:Nd)(f:Fl)(h:nd K R (jw (gP X F) τ fv) τt H' k p xs f):
  nd K R (jw (gP X F) τ fv) (λ_=>none) H' k' p xs (aP f):=by
 cases f with
 |ow=>exact⟨h.1,.inr (Si.same.free (fr p _ h.2)),λc i e=>absurd (fr p _ h.2) (Si.th p _ e)⟩
 |fz=>exact h
 |al=>exact h
 |sc=>exact h
theorem aD.fQ{k:bt}{n:Nat}(h:aD (aX K H') (nd K R (jw (gP X F) τ fv) τt H') k n xs ds)(Si:SI X F R τ ρ σ H)(fr:∀p q,τt p=some q->H p=none){n':Nat}:
  aD (aX K H') (nd K R (jw (gP X F) τ fv) (λ_=>none) H') k' n' xs (av aP ds):=aD.iI (λ_ _ h=>h) (NV Si fr) h _ _
theorem Rep.fQ{k:bt}{v:V}{d:D}(h:Rep (aX K H') (nd K R (jw (gP X F) τ fv) τt H') k v d)(Si:SI X F R τ ρ σ H)(fr:∀p q,τt p=some q->H p=none):
  Rep (aX K H') (nd K R (jw (gP X F) τ fv) (λ_=>none) H') k' v (aA aP d):=Rep.iI (λ_ _ h=>h) (NV Si fr) h _
theorem bR.oN{p:Addr}(hp:H p=none)(e:aI H H')(hl:H' p=some (.lst xs))(r:aD (aX K H') (nd K R (jw G τ fv) (λ_=>none) H') [] 0 xs ds):bR K G R τ fv H H' (.ref p) (.lst .ow ds):=by
 refine⟨λq=>if q=p then some []else none,λq k hq=>?_,.lst ⟨hl,by simp⟩ (r.imp (λ_ _ h=>h) λc q xs f h=>?_)⟩
 ·by_cases vv:q=p
  ·subst vv;exact hp
  ·simp[vv]at hq
 ·cases f with
  |ow=>exact nomatch h.2
  |fz=>exact h
  |al=>exact h
  |sc=>exact h
end
theorem FJ(K:ao):∀t:Ty,∀s∈kinds,PySem.W.kitOne K (.type s) (.type (tyName t))=some (Om t s):=by
 intro t s hs;simp only[kinds,List.mem_cons,List.not_mem_nil,or_false]at hs;cases t<;>rcases hs with rfl|rfl|rfl|rfl|rfl|rfl|rfl<;>rfl
structure PX(X:Cx)(sc:Scope)(bl:ai)(k:Nat):Prop where
 sc:X.env.scope=sc
 calm:X.calm=true
 room:gm k X.A
 bl:∀x∈bl,X.mg x=none
theorem PX.gl{sc:Scope}{bl:ai}{k:Nat}(L:PX X sc bl k){x:Str}(h:jt sc x=true):Gl X x:=by
 unfold Gl;show X.env.scope.names.lookup x=some .globalImplicit;rw[L.sc];exact aab h
def lN(X:Cx)(F:ah)(Φ:aY):aE->aj->Prop
 |[],[]=>True
 |c::cs,a::as=>PE X a (tD X F Φ c)/\(∀es,starEach (a::es) X.env=(false,eval a X.env)::starEach es X.env)/\mz a/\lN X F Φ cs as
 |_,_=>False
structure uy(K:ao)(H2:Hp)(vs:af)(xs:ab)(H':Hp):Prop where
 n0:∃R0:ah,aD (aX K H2) (nd K R0 (λ_=>False) (λ_=>none) H2) [] 0 vs (av aK xs)/\∀p o,R0 p->H2 p=some o->H' p=some o
 tp:∀a ys,aX K H2 a ys->aX K H' a ys
structure LC(K:ao)(J:It)(H2:Hp)(vs:af)(xs items:ab):Prop where
 go:∀i H' R',uy K H2 vs xs H'->aD (aX K H') (nd K R' (λ_=>False) (λ_=>none) H') [] 0 vs (av aK xs)->i<items.length->J.go i H'
 uD:∀i H' R' x l4,uy K H2 vs xs H'->aD (aX K H') (nd K R' (λ_=>False) (λ_=>none) H') [] 0 vs (av aK xs)->i<items.length->J.uD i H' x l4->aI H' l4/\∃d,items[i]?=some d/\Rep (aX K l4) (nd K R' (λ_=>False) (λ_=>none) l4) [] x d
 stop:∀i H' R',uy K H2 vs xs H'->aD (aX K H') (nd K R' (λ_=>False) (λ_=>none) H') [] 0 vs (av aK xs)->items.length<=i->J.stop i H'
structure v_(px:Px)(Φ:aY):Prop where
 e:∀(X:Cx) (sc:Scope) (bl:ai) (k:Nat),PX X sc bl k->∀(p:Nat) (e:Expr) (args:aj),px.pe p sc bl e=some args->∀(F:ah) (cs:aE),lN X F Φ cs args->PE X e (tD X F Φ (.bO p cs))/\PT X e (fA X F Φ (.bO p cs))
 i:∀(X:Cx) (sc:Scope) (bl:ai) (k:Nat),PX X sc bl k->∀(p:Nat) (e:Expr) (args:aj),px.pi p sc bl e=some args->∀(F:ah) (cs:aE) (tg:Expr),(decide (1100<=p)||gS tg)=true->lN X F Φ cs args ->
  ∀(pins:ak) (s:Shared) (σ:St) (H:Hp) (R:ah) (τ:Addr->Option bt) (ρ:bo) (xs:ab) (d:D) (items:ab),Inv X pins σ H s->SI X F R τ ρ σ H->cP Φ cs ρ=ok xs->Φ p xs=ok d->oJ d=ok items->∀Rr:It->Hp->Prop,
   (∀J H2 vs,aI H H2->cz X.K (gP X F) R τ (dw cs) H H2 vs xs->LC X.K J H2 vs xs items->Rr J H2) ->
   wpAny (model X.prog X.w) X.A (eval e X.env) (λv s1=>wpAny (model X.prog X.w) X.A (pyIter v) (DB X pins σ tg Rr) X.xe s1) X.xe s
def G1(K:ao):GK->Value->Prop
 |.i i,u=>RelV (.int i) u
structure Lk(X:Cx)(S:Sx)(k:Nat)(Φ:aY):Prop where
 sc:X.env.scope=S.sc
 N:X.N=S.N
 nd:X.N.Nodup
 calm:X.calm=true
 room:gm k X.A
 bl:∀x∈S.bl,X.mg x=none
 fn:∀f x,S.fn f=some x->LJ X k x (Φ f)
 cs:∀x i,(x,i)∈S.cs->∃u,X.mg x=some u/\G1 X.K i u
 pr:v_ S.px Φ
variable {S:Sx}{Φ:aY}
theorem Lk.pX{k:Nat}(L:Lk X S k Φ):PX X S.sc S.bl k:=⟨L.sc,L.calm,L.room,L.bl⟩
variable {Q:VK}{p' p1 p2 pos pos':Pos}
section
variable {X:Cx}{S:Sx}{k:Nat}{F:ah}{Φ:aY}
theorem Lk.gl(L:Lk X S k Φ){x:Str}(h:jt S.sc x=true):Gl X x:=by
 unfold Gl;show X.env.scope.names.lookup x=some .globalImplicit;rw[L.sc];exact aab h
theorem Lk.Vq(L:Lk X S k Φ){x:Str}(h:Ip S.sc x=true):Ml X.env.scope x:=by
 unfold Ml;rw[L.sc];unfold Ip at h;rw[Bool.or_eq_true,Bool.or_eq_true]at h;rcases h with (h|h)|h
 ·exact .inl (aab h)
 ·exact .inr (.inl (aab h))
 ·exact .inr (.inr (aab h))
theorem tD.intro{c:CE}{d:D}(Si:SI X F R τ ρ σ H)(e:aW Φ c ρ=ok d)(h:∀v H',aI H H'->bR X.K (gP X F) R τ (gJ c) H H' v d->Q v H'):tD X F Φ c σ H Q:=⟨R,τ,ρ,d,Si,e,h⟩
theorem RT(L:Lk X S k Φ){i:Nat}{x:Str}(h:cj S (.v i) (.Name x pos)=true):PE X (.Name x pos) (tD X F Φ (.v i)):=by
 replace h:=aJ h;replace h:=And.intro (aJ h.1) h.2;obtain⟨⟨h1,h2⟩,h3⟩:=h;unfold m7 at h3;simp only[Bool.and_eq_true,Bool.not_eq_true']at h3;refine PE.imp (va (i:=i) (by rw[L.N];exact aab h1) (L.Vq h2) h3.1.1 h3.1.2) λσ H Q hq=>?_;obtain⟨R,τ,ρ,d,Si,ev,hq⟩:=hq;obtain⟨d',hd,rfl⟩:=AA ev
 ·obtain⟨v,hv,hr⟩:=Si.rep i d' hd;refine⟨v,hv,hq v H (aI.refl H) ⟨λ_=>none,λ_ _ h=>by simp at h,?_⟩⟩;refine Rep.map (q:=[i]) (q':=[]) (λ_ _ h=>h) (λc p xs f h=>?_) hr [] rfl;cases f with
  |ow =>
   refine⟨h.1,.inr (Si.t0 p _ h.2),λc' j e=>?_⟩;rw[h.2]at e;have e':=aas e;have:=aa5 List.getLast? e';simp at this;show _∈[i];simp[this]
  |fz=>exact h
  |al=>exact h.2.elim
  |sc=>exact h
theorem mn{op:G5}{x y d:D}(OG:op≠.add/\op≠.mul)(h:bM op x y=ok d):∃i j,x=.int i/\y=.int j:=by
 cases x with
 |int i=>cases y with
  |int j=>exact⟨i,j,rfl,rfl⟩
  |_=>cases op<;>first|exact nk h | (simp at OG;done)
 |_=>cases op<;>first|exact nk h | (simp at OG;done)
theorem Ja(L:Lk X S k Φ){op:G5}{a b:CE}{l r:Expr}(ha:PE X l (tD X F Φ a))(hb:PE X r (tD X F Φ b)):PE X (.BinOp l (NN op) r pos) (tD X F Φ (.bin op a b)):=by
 have two:∀{σ:St} {H:Hp} {Q:VK} {r2:R2},(∃R τ ρ d,SI X F R τ ρ σ H/\aW Φ (.bin op a b) ρ=ok d/\(∀v H',aI H H'->bR X.K (gP X F) R τ (gJ (.bin op a b)) H H' v d->Q v H') /\
   ∀x y v u H',bM op x y=ok d->aI H H'->bR X.K (gP X F) R τ (gJ (.bin op a b)) H H' v x->bR X.K (gP X F) R τ (gJ (.bin op a b)) H H' u y->r2 v u H' Q)->Ei r2 (tD X F Φ a) (tD X F Φ b) σ H Q:=by
  rintro σ H Q r2 ⟨R,τ,ρ,d,Si,ev,hq,hr⟩;obtain⟨x,ex,ev⟩:=aB ev;obtain⟨y,ey,ev⟩:=aB ev;refine tD.intro Si ex λv H1 e1 r1=>tD.intro (Si.go e1) ey λu H2 e2 r2=>?_;exact hr x y v u H2 ev (e1.trans e2) ((r1.go e2).mono λi hi=>aaD _ hi) ((r2.old e1).mono λi hi=>aal _ hi)
 have B0:∀{C:Int->Int->Prop} {g:Int->Int->Int},kD X (binaryOp (NN op)) (rI C λi j=>.int (g i j))->(∀x y d,bM op x y=ok d->∃i j,x=.int i/\y=.int j/\C i j/\d=.int (g i j)) ->
   PE X (.BinOp l (NN op) r pos) (tD X F Φ (.bin op a b)):=by
  intro C g ho hd;refine PE.imp (Ho ho ha hb) λσ H Q hq=>?_;obtain⟨R,τ,ρ,d,Si,ev,hq⟩:=hq;refine two ⟨R,τ,ρ,d,Si,ev,hq,λx y v u H' eb e rv ru=>?_⟩;obtain⟨i,j,rfl,rfl,c,rfl⟩:=hd x y d eb;exact⟨i,j,rv.isInt,ru.isInt,c,hq _ H' e .int⟩
 cases op with
 |sub =>
  refine B0 (C:=λ_ _=>True) (g:=λi j=>i - j) (NM λ_ _ _ _ _ _ _ _ q=>sub_int q) λx y d h=>?_;obtain⟨i,j,rfl,rfl⟩:=mn (by simp) h;cases h;exact⟨_,_,rfl,rfl,trivial,rfl⟩
 |mod =>
  refine B0 (C:=λ_ j=>j≠0) (g:=λi j=>i.fmod j) Fh λx y d h=>?_;obtain⟨i,j,rfl,rfl⟩:=mn (by simp) h;obtain⟨h1,h⟩:=pz h;subst h;exact⟨_,_,rfl,rfl,h1,rfl⟩
 |fdiv =>
  refine B0 (C:=λ_ j=>pO j=true) (g:=λi j=>i.fdiv j) (NM λi j _ _ _ _ _ hc q=>?_) λx y d h=>?_
  ·unfold pO at hc;rw[Bool.and_eq_true]at hc;have h1:j≠0:=aab hc.1;have h2:j.natAbs<big:=aab hc.2;exact floordiv_int h1 q (.inl (PyProof.noPylong_of_log2 ((Nat.log2_lt (by left)).mpr h2)))
  ·obtain⟨i,j,rfl,rfl⟩:=mn (by simp) h;obtain⟨h1,h⟩:=pz h;subst h;exact⟨_,_,rfl,rfl,h1,rfl⟩
 |pow =>
  refine B0 (C:=λi j=>wR i j=true) (g:=λi j=>i ^ j.toNat) (NM λi j _ _ _ _ _ hc q=>?_) λx y d h=>?_
  ·unfold wR at hc;simp only[Bool.and_eq_true,decide_eq_true_eq]at hc;exact pow_int_small hc.1.1 hc.1.2 hc.2 q
  ·obtain⟨i,j,rfl,rfl⟩:=mn (by simp) h;obtain⟨h1,h⟩:=pz h;subst h;exact⟨_,_,rfl,rfl,h1,rfl⟩
 |mul =>
  have hi:kD X (binaryOp .Mult) (rI (λi j=>ie i j=true) λi j=>.int (i*j)):=NM λi j _ _ _ _ _ hc q=>mul_int q (Bv hc);exact B0 (C:=λi j=>ie i j=true) (g:=λi j=>i*j) hi λx y d h=>by
   obtain⟨i,j,rfl,rfl⟩:∃i j,x=.int i/\y=.int j:=by cases x<;>first | (cases h;done) | (cases y<;>first|exact⟨_,_,rfl,rfl⟩ | (cases h;done))
   obtain⟨h1,h⟩:=pz h;subst h;exact⟨_,_,rfl,rfl,h1,rfl⟩
 |add =>
  refine PE.imp (Ho ((JM.or JL).or Fj) ha hb) λσ H Q hq=>?_;obtain⟨R,τ,ρ,d,Si,ev,hq⟩:=hq;refine two ⟨R,τ,ρ,d,Si,ev,hq,λx y v u H' eb e rv ru=>?_⟩;have hz:sizeLine=16777216:=abf;have vx:fY=1000000:=rfl;cases x with
  |int i =>
   cases y with
   |int j =>
    cases eb;exact .inl (.inl ⟨i,j,rv.isInt,ru.isInt,hq _ H' e .int⟩)
   |_=>cases eb
  |lst f a =>
   cases y with
   |lst g b =>
    obtain⟨hc,eb⟩:=pz eb
    ·subst eb;obtain⟨τt,fr,rp⟩:=rv;obtain⟨Rn,Me,R4⟩:=ru;obtain⟨p,xs,rfl,hn,rs⟩:=rp.uN;cases R4 with
     | @lst _ p2 Ij _ _ L6 EJ =>
      refine .inl (.inr ⟨p,p2,xs,Ij,rfl,rfl,hn.lst hc.1,L6.lst hc.2.1,by rw[rs.length,EJ.length];left,λp' xn=>?_⟩);have es:aI H' (upd H' p' (.lst (xs++Ij))):=aI.upd xn;refine hq _ _ (e.trans es) (bR.oN (e.free xn) (e.trans es) (bg) ?_);rw[aO,List.map_append,<- aO,<- aO];exact(aD.rL nd.pG (n:=0) (m:=0) (rs.fQ Si fr) (EJ.fQ Si Me)).imp (λ_ _ h=>aX.same es h) λ_ _ _ _ h=>nd.same es h
   |_=>cases eb
  |tup a =>
   cases y with
   |tup b =>
    obtain⟨hc,eb⟩:=pz eb;subst eb;obtain⟨τt,fr,rp⟩:=rv;obtain⟨Rn,Me,R4⟩:=ru;cases rp with
    | @tup _ p xs _ hn rs =>
     cases R4 with
     | @tup _ p2 Ij _ L6 EJ =>
      have hl:=rs.length;have rT:=EJ.length;refine .inr ⟨p,p2,xs,Ij,rfl,rfl,hn,L6,by rw[hl,rT];left,λz=>?_,λz=>?_,λp' xn=>?_⟩
      ·subst z;cases rs;exact hq _ H' e ⟨λ_=>none,λ_ _ h=>by simp at h,.tup L6 (EJ.fQ Si Me)⟩
      ·subst z;cases EJ;refine hq _ H' e ⟨λ_=>none,λ_ _ h=>by simp at h,.tup hn ?_⟩;rw[List.append_nil];exact rs.fQ Si fr
      ·have es:aI H' (upd H' p' (.tup (xs++Ij))):=aI.upd xn;refine hq _ _ (e.trans es) ⟨λ_=>none,λ_ _ h=>by simp at h,.tup (aX.of bg) ?_⟩;rw[aO,List.map_append,<- aO,<- aO];exact(aD.rL nd.pG (n:=0) (m:=0) (rs.fQ Si fr) (EJ.fQ Si Me)).imp (λ_ _ h=>aX.same es h) λ_ _ _ _ h=>nd.same es h
   |_=>cases eb
  |_=>cases y<;>cases eb
end
section
variable {T T':lL}{N N':iA}{P:Fl->Bool}
theorem Rep.without(hT:∀p xs,T p xs->T' p xs)(hN:∀k k' p xs f,P f=false->N k p xs f->N' k' p xs f){k:bt}{v:V}{d:D}(h:Rep T N k v d)(e:aU P d=false)(k':bt):Rep T' N' k' v d:=by
 have:=Rep.gen (g:=id) (P:=P) (N':=N') (C:=λ_ _=>True) (I:=λ_ _=>True) hT trivial (λ_ _ e=>e) (λ_ _ _ _ e _=>e) (λk k' p xs f _ e h=>hN k k' p xs f e h) h (k':=k') trivial e;rw[eQ]at this;exact this
theorem aD.without(hT:∀p xs,T p xs->T' p xs)(hN:∀k k' p xs f,P f=false->N k p xs f->N' k' p xs f){k:bt}{n:Nat}(h:aD T N k n vs ds)(e:aN P ds=false)(k':bt)(n':Nat):aD T' N' k' n' vs ds:=by
 have:=aD.gen (g:=id) (P:=P) (N':=N') (C:=λ_ _=>True) (I:=λ_ _=>True) hT trivial (λ_ _ e=>e) (λ_ _ _ _ e _=>e) (λk k' p xs f _ e h=>hN k k' p xs f e h) h (k':=k') (n':=n') trivial trivial e;rw[eX]at this;exact this
theorem Rep.jY(hT:∀p xs,T p xs->T' p xs)(hN:∀k p xs f,P f=false->N k p xs f->N' k p xs f){k:bt}{v:V}{d:D}(h:Rep T N k v d)(e:aU P d=false):Rep T' N' k v d:=by
 have:=Rep.gen (g:=id) (P:=P) (N':=N') (C:=λa b=>a=b) (I:=λa b=>a=b) hT rfl (λ_ _ e=>by rw[e]) (λ_ _ _ _ a b=>by rw[a,b]) (λk k' p xs f c e h=>by subst c;exact hN k p xs f e h) h rfl e;rw[eQ]at this;exact this
theorem aD.jY(hT:∀p xs,T p xs->T' p xs)(hN:∀k p xs f,P f=false->N k p xs f->N' k p xs f){k:bt}{n:Nat}(h:aD T N k n vs ds)(e:aN P ds=false):aD T' N' k n vs ds:=by
 have:=aD.gen (g:=id) (P:=P) (N':=N') (C:=λa b=>a=b) (I:=λa b=>a=b) hT rfl (λ_ _ e=>by rw[e]) (λ_ _ _ _ a b=>by rw[a,b]) (λk k' p xs f c e h=>by subst c;exact hN k p xs f e h) h rfl rfl e;rw[eX]at this;exact this
end
theorem Rep.qE{k:bt}{v:V}{d:D}(h:Rep (aX K H) (nd K R (λ_=>False) (λ_=>none) H) k v d):Rep (aX K H) (nd K R (λ_=>False) (λ_=>none) H) k' v d:=by
 have:=Rep.iI (g:=id) (λ_ _ h=>h) nd.pG h k';rw[eQ]at this;exact this
def iy(X:Cx)(R:ah)(τ:Addr->Option bt)(H:Hp)(v:V)(d:D):Prop :=
 ∃τt:Addr->Option bt,(∀p q,τt p=some q->τ p=none/\¬ R p/\X.H₀ p=none/\H p≠none)/\Rep (aX X.K H) (nd X.K R (λ_=>False) τt H) [] v d
section
variable {X:Cx}{F R:ah}{τ:Addr->Option bt}{ρ:bo}{σ:St}{H H':Hp}
noncomputable def yo(i:Nat)(τt τ:Addr->Option bt):Addr->Option bt:=λp=>match τt p with|some q=>some (q++[i])|none=>τ p
theorem SI.RR{i:Nat}{v:V}{d:D}(Si:SI X F R τ ρ σ H)(ht:∀p q,τt p=some q->τ p=none/\¬ R p/\X.H₀ p=none/\H p≠none)(rp:Rep (aX X.K H) (nd X.K R (λ_=>False) τt H) [] v d)(hi:i<ρ.length):SI X F R (yo i τt τ) (ρ.set i (some d)) (σ.set i (some v)) H:=by
 refine⟨by simp[Si.len],λj d' hj=>?_,λp hp=>?_,Si.rh,Si.rf,λp q hq=>?_,λp q hq=>?_,Si.same⟩
 ·by_cases js:j=i
  ·subst js;rw[List.getElem?_set_self hi]at hj;cases hj;refine⟨v,List.getElem?_set_self (by rw[<- Si.len];exact hi),rp.imp (q':=[j]) (λ_ _ h=>h) λc p xs f h=>?_⟩;cases f with
   |ow=>rw[List.append_nil]at h;exact⟨h.1,by simp only[yo,h.2]⟩
   |fz=>exact h
   |al=>exact h
   |sc=>exact h
  ·rw[List.getElem?_set_ne (Ne.symm js)]at hj;obtain⟨w,hw,ox⟩:=Si.rep j d' hj;refine⟨w,by rw[List.getElem?_set_ne (Ne.symm js)];exact hw,ox.imp (λ_ _ h=>h) λc p xs f h=>?_⟩;cases f with
   |ow =>
    refine⟨h.1,?_⟩;cases q:τt p with
    |none=>simp only[yo,q];exact h.2
    |some k=>have:=(ht p k q).1;rw[h.2]at this;cases this
   |fz=>exact h
   |al=>exact h
   |sc=>exact h
 ·cases q:τt p with
  |none=>simp only[yo,q];exact Si.rt p hp
  |some k=>exact absurd hp (ht p k q).2.1
 ·cases z:τt p with
  |none=>simp only[yo,z]at hq;exact Si.th p q hq
  |some k=>exact(ht p k z).2.2.2
 ·cases z:τt p with
  |none=>simp only[yo,z]at hq;exact Si.t0 p q hq
  |some k=>exact(ht p k z).2.2.1
theorem SI.set{i:Nat}{v:V}{d:D}(Si:SI X F R τ ρ σ H)(r:iy X R τ H v d)(hi:i<ρ.length):∃τ',SI X F R τ' (ρ.set i (some d)) (σ.set i (some v)) H:=by
 obtain⟨τt,ht,rp⟩:=r;exact⟨_,Si.RR ht rp hi⟩
theorem yV{k:bt}{v:V}{d:D}(h:Rep (aX X.K H) (nd X.K R (λ_=>False) τ H) k v d)(ho:aU eL d=false):iy X R τ H v d :=
 ⟨λ_=>none,λ_ _ h=>by simp at h,Rep.without (P:=eL) (λ_ _ h=>h) (λk k' p xs f hf h=>by
  cases f with
  |ow=>cases hf
  |fz=>exact h
  |al=>exact h.2.elim
  |sc=>exact h) h ho _⟩
open Classical in
theorem SI.move{i:Nat}{d:D}(Si:SI X F R τ ρ σ H)(hd:ρ[i]?=some (some d)):∃v τ',σ[i]?=some (some v)/\SI X F R τ' (ρ.set i none) σ H/\iy X R τ' H v d:=by
 obtain⟨v,hv,rp⟩:=Si.rep i d hd;refine⟨v,λp=>match τ p with|some q=>if q.getLast?=some i then none else some q|none=>none,hv,⟨by simp[Si.len],λj d' hj=>?_,λp hp=>?_,Si.rh,Si.rf,λp q hq=>?_,λp q hq=>?_,Si.same⟩,
  λp=>match τ p with|some q=>if q.getLast?=some i then(if H p=none then none else some q.dropLast)else none|none=>none,λp q hq=>?_,rp.imp (q:=[i]) (q':=[]) (λ_ _ h=>h) λc p xs f h=>?_⟩
 ·by_cases js:j=i
  ·subst js;rw[List.getElem?_set]at hj;simp at hj
  ·rw[List.getElem?_set_ne (Ne.symm js)]at hj;obtain⟨w,hw,ox⟩:=Si.rep j d' hj;refine⟨w,hw,ox.imp (q:=[j]) (q':=[j]) (λ_ _ h=>h) λc p xs f h=>?_⟩;cases f with
   |ow =>
    refine⟨h.1,?_⟩;simp only[h.2];rw[if_neg (by simp;exact js)]
   |fz=>exact h
   |al=>exact h
   |sc=>exact h
 ·simp only[Si.rt p hp]
 ·cases z:τ p with
  |none=>simp only[z]at hq;cases hq
  |some k=>exact Si.th p k z
 ·cases z:τ p with
  |none=>simp only[z]at hq;cases hq
  |some k=>exact Si.t0 p k z
 ·cases z:τ p with
  |none=>simp only[z]at hq;cases hq
  |some k =>
   simp only[z]at hq ⊢;by_cases hl:k.getLast?=some i
   ·rw[if_pos hl];exact⟨rfl,(λhR=>by have:=Si.rt p hR;rw[z]at this;cases this),Si.t0 p k z,Si.th p k z⟩
   ·rw[if_neg hl]at hq;cases hq
 ·cases f with
  |ow =>
   refine⟨h.1,?_⟩;have hn:H p≠none:=h.1.ne;simp only[h.2];rw[if_pos (by simp),if_neg hn];simp
  |fz=>exact h
  |al=>exact h.2.elim
  |sc=>exact h
theorem xF(is:aM)(ρ:bo)(j:Nat)(d:D)(h:(jj is ρ)[j]?=some (some d)):∃d',ρ[j]?=some (some d')/\d=(if j∈is then aA aK d' else d'):=by
 unfold jj at h;rw[List.getElem?_mapIdx]at h;cases q:ρ[j]? with
 |none=>rw[q]at h;exact nk h
 |some o =>
  rw[q]at h;cases o with
  |none=>simp at h
  |some d' =>
   refine⟨d',rfl,?_⟩;by_cases hj:j∈is
   ·simp[hj]at h ⊢;exact h.symm
   ·simp[hj]at h ⊢;exact h.symm
open Classical in
theorem xG(Si:SI X F R τ ρ σ H)(es:aI H H'):
  ∃R' τ',(∀p,R p->R' p)/\SI X F R' τ' (jj fv ρ) σ H'/\∀τt:Addr->Option bt,(∀p q,τt p=some q->H p=none)->∀(k k':bt) (p:Addr) (xs:Nd) (f:Fl),nd X.K R (jw (gP X F) τ fv) τt H' k p xs f->nd X.K R' (λ_=>False) (λ_=>none) H' k' p xs (aK f):=by
 have iz:=Si.go es;have fresh:∀p,H p=none->jw (gP X F) τ fv p:=λp hp=>⟨.inr (Si.same.free hp),λc i e=>absurd hp (Si.th p _ e)⟩
 refine⟨λp=>R p\/(H' p≠none/\jw (gP X F) τ fv p),λp=>if jw (gP X F) τ fv p then none else τ p,λp h=>.inl h,⟨by simp[jj,Si.len],λj d' hj=>?_,λp hp=>?_,λp hp=>?_,λp hp=>?_,λp q hq=>?_,λp q hq=>?_,iz.same⟩,λτt fr k k' p xs f h=>?_⟩
 ·obtain⟨d0,h0,e0⟩:=xF _ _ _ _ hj;obtain⟨w,hw,ox⟩:=iz.rep j d0 h0;refine⟨w,hw,?_⟩;by_cases QZ:j∈fv
  ·rw[if_pos QZ]at e0;subst e0;refine Rep.map (q:=[j]) (q':=[j]) (λ_ _ h=>h) (λc p xs f h=>?_) ox [] rfl;cases f with
   |ow =>
    refine⟨h.1,.inr ⟨h.1.ne,.inr (Si.t0 p _ h.2),λc' i' e'=>?_⟩⟩;rw[h.2]at e';have:=aa5 List.getLast? (aas e');simp at this;subst this;exact QZ
   |fz=>exact⟨h.1,.inl h.2⟩
   |al=>exact h.2.elim
   |sc=>exact h
  ·rw[if_neg QZ]at e0;subst e0;refine ox.imp (q:=[j]) (q':=[j]) (λ_ _ h=>h) λc p xs f h=>?_;cases f with
   |ow =>
    refine⟨h.1,?_⟩;show(if jw (gP X F) τ fv p then none else τ p)=some (c++[j]);rw[if_neg (λz=>QZ (z.2 c j h.2))];exact h.2
   |fz=>exact⟨h.1,.inl h.2⟩
   |al=>exact h.2.elim
   |sc=>exact h
 ·rcases hp with hp|hp
  ·simp only[Si.rt p hp];split<;>rfl
  ·rw[if_pos hp.2]
 ·rcases hp with hp|hp
  ·exact iz.rh p hp
  ·exact hp.1
 ·rcases hp with hp|hp
  ·exact Si.rf p hp
  ·exact hp.2.1
 ·split at hq
  ·cases hq
  ·exact iz.th p q hq
 ·split at hq
  ·cases hq
  ·exact Si.t0 p q hq
 ·cases f with
  |ow=>exact⟨h.1,.inr ⟨h.1.ne,fresh p (fr p _ h.2)⟩⟩
  |fz=>exact⟨h.1,.inl h.2⟩
  |al=>exact⟨h.1,.inr ⟨h.1.ne,h.2⟩⟩
  |sc=>exact h
theorem qZ{v:V}{d:D}(Si:SI X F R τ ρ σ H)(es:aI H H')(r:bR X.K (gP X F) R τ fv H H' v d):
  ∃R' τ',(∀p,R p->R' p)/\SI X F R' τ' (jj fv ρ) σ H'/\Rep (aX X.K H') (nd X.K R' (λ_=>False) (λ_=>none) H') [] v (aA aK d):=by
 obtain⟨τt,fr,rp⟩:=r;obtain⟨R',τ',h1,h2,h3⟩:=xG (fv:=fv) Si es;exact⟨R',τ',h1,h2,Rep.iI (λ_ _ h=>h) (h3 τt fr) rp _⟩
theorem tX(Si:SI X F R τ ρ σ H)(es:aI H H')(r:cz X.K (gP X F) R τ fv H H' vs ds):
  ∃R' τ',(∀p,R p->R' p)/\SI X F R' τ' (jj fv ρ) σ H'/\aD (aX X.K H') (nd X.K R' (λ_=>False) (λ_=>none) H') [] 0 vs (av aK ds):=by
 obtain⟨τt,fr,rp⟩:=r;obtain⟨R',τ',h1,h2,h3⟩:=xG (fv:=fv) Si es;exact⟨R',τ',h1,h2,aD.iI (λ_ _ h=>h) (h3 τt fr) rp _ _⟩
theorem l8{v:V}{d:D}(h:Rep (aX X.K H) (nd X.K R (λ_=>False) (λ_=>none) H) [] v d):iy X R τ' H v d:=⟨λ_=>none,λ_ _ h=>by simp at h,h⟩
open Classical in
theorem Hv{e:CE}{v:V}{d:D}(Si:SI X F R τ ρ σ H)(es:aI H H')(r:bR X.K (gP X F) R τ (gJ e) H H' v d):
  ∃R' τ',(∀p,R p->R' p)/\SI X F R' τ' (keep e d ρ).2 σ H'/\iy X R' τ' H' v (keep e d ρ).1:=by
 unfold keep;by_cases ha:aU bD d=true
 ·rw[if_pos ha];obtain⟨R',τ',h1,h2,h3⟩:=qZ Si es r;exact⟨R',τ',h1,h2,l8 h3⟩
 ·obtain⟨τt,fr,rp⟩:=r;rw[if_neg ha];refine⟨R,τ,λ_ h=>h,Si.go es,λp=>if H' p=none then none else τt p,λp q hq=>?_,?_⟩
  ·dsimp only at hq;split at hq
   ·cases hq
   ·rename_i hn;have hf:=fr p q hq;refine⟨?_,λhR=>Si.rh p hR hf,Si.same.free hf,hn⟩;cases z:τ p with
    |none=>rfl
    |some k=>exact absurd hf (Si.th p k z)
  ·have Q3:aU bD d=false:=by simpa using ha
   have st:∀{k:bt} {v:V} {d:D},Rep (aX X.K H') (nd X.K R (jw (gP X F) τ (gJ e)) τt H') k v d->aU bD d=false->Rep (aX X.K H') (nd X.K R (λ_=>False) (λp=>if H' p=none then none else τt p) H') k v d:=by
    intro k v d h ha;exact Rep.jY (P:=bD) (λ_ _ h=>h) (λk p xs f hf h=>by
     cases f with
     |ow=>exact⟨h.1,by show(if H' p=none then none else τt p)=_;rw[if_neg (h.1.ne)];exact h.2⟩
     |fz=>exact h
     |al=>cases hf
     |sc=>exact h) h ha
   exact st rp Q3
open Classical in
def tK(X:Cx)(F:ah)(Φ:aY)(c:CE):TE:=λσ H Q=>∃R τ ρ r,SI X F R τ ρ σ H/\iu Φ c ρ=ok r/\∀v H' R' τ',aI H H'->(∀p,R p->R' p)->SI X F R' τ' r.2 σ H'->iy X R' τ' H' v r.1->Q v H'
end
theorem jK{env:Env}:∀(names:List (Str×NameKind)) (acc:List (Str×Addr)),(∀x,(x,NameKind.free)∈names->∃c,env.cells.lookup x=some c) ->
  ∃cl,(forIn names acc (λ(y:Str×NameKind) (cs:List (Str×Addr))=>do
    let (name,kind):=y
    let mut cs:=cs
    if kind==.free then cs:=(name,<- cellOf env name)::cs
    pure (ForInStep.yield cs)):Sem (List (Str×Addr)))=pure cl /\
   (∀x c,cl.lookup x=some c->acc.lookup x=some c\/(env.cells.lookup x=some c/\(x,NameKind.free)∈names))/\(∀x,((x,NameKind.free)∈names\/(∃c,acc.lookup x=some c))->∃c,cl.lookup x=some c)
 |[],acc,_=>⟨acc,rfl,λx c h=>.inl h,λx h=>h.elim (λh=>nomatch h) id⟩
 | (n,kd)::names,acc,h=>by
  by_cases hk:kd=.free
  ·subst hk;obtain⟨c,hc⟩:=h n aae;obtain⟨cl,e,h1,h2⟩:=jK names ((n,c)::acc) (λx hx=>h x (aaf _ hx));refine⟨cl,?_,λx c' hx=>?_,λx hx=>?_⟩
   ·rw[List.forIn_cons];have e0:cellOf env n=pure c:=by unfold cellOf;rw[hc]
    simp only[beq_self_eq_true,if_true,e0,pure_bind];exact e
   ·rcases h1 x c' hx with z|z
    ·by_cases Ou:x=n
     ·subst Ou;simp at z;subst z;exact .inr ⟨hc,aae⟩
     ·rw[List.lookup_cons]at z;have:(x==n)=false:=by simpa using Ou
      rw[this]at z;exact .inl z
    ·exact .inr ⟨z.1,aaf _ z.2⟩
   ·refine h2 x ?_;rcases hx with hx|⟨c',hx⟩
    ·rcases List.mem_cons.mp hx with z|z
     ·cases z;exact .inr ⟨c,by simp⟩
     ·exact .inl z
    ·by_cases Ou:x=n
     ·subst Ou;exact .inr ⟨c,by simp⟩
     ·refine .inr ⟨c',?_⟩;rw[List.lookup_cons];have:(x==n)=false:=by simpa using Ou
      rw[this];exact hx
  ·obtain⟨cl,e,h1,h2⟩:=jK names acc (λx hx=>h x (aaf _ hx));have hb:(kd==NameKind.free)=false:=by simpa using hk
   refine⟨cl,?_,λx c' hx=>(h1 x c' hx).imp id λz=>⟨z.1,aaf _ z.2⟩,λx hx=>h2 x ?_⟩
   ·rw[List.forIn_cons];simp only[hb,Bool.false_eq_true,if_false,pure_bind];exact e
   ·rcases hx with hx|hx
    ·rcases List.mem_cons.mp hx with z|z
     ·cases z;exact absurd rfl hk
     ·exact .inl z
    ·exact .inr hx
variable {env:Env}
theorem vN{sc:Scope}(h:∀x,(x,NameKind.free)∈sc.names->∃c,env.cells.lookup x=some c):
  ∃cl,closureFor sc env=pure cl/\(∀x c,cl.lookup x=some c->env.cells.lookup x=some c)/\(∀x,(x,NameKind.free)∈sc.names->∃c,cl.lookup x=some c):=by
 obtain⟨cl,e,h1,h2⟩:=jK (env:=env) sc.names [] h;refine⟨cl,?_,λx c hx=>(h1 x c hx).elim (λz=>by simp at z) (·.1),λx hx=>h2 x (.inl hx)⟩;unfold closureFor;simp only[bind_pure];exact e
variable {P prog:aF}{jl iter o target tg value:Expr}{w:World}
theorem rm{A:aG}{R:Result->Shared->Prop}{s:Shared}{elt:Expr}{ifs:aj}{scope:Scope}{it acc:Value}(I:Nat->Shared->Prop)
  (turn:∀n s,I n s->wpAny (model prog w) A (pyNext it) (λr s₁=>match r with
   |none=>R (.ok .next) s₁
   |some v=>wpAny (model prog w) A (letOwnedTupleGo target it v) (λ_ s₁=>wpAny (model prog w) A (assign target env v) (λ_ s₂ =>
     wpAny (model prog w) A (forIn ifs true λc r=>if r=true then do let ok <- isTrue c env (eval c env);pure (ForInStep.yield ok)else pure (ForInStep.yield r)) (λok s₃ =>
      if ok=true then wpAny (model prog w) A (eval elt env) (λx s₄ =>
       wpAny (model prog w) A (call (.builtin "list.append") [acc,x]) (λ_ s₅=>∃m,m<n/\I m s₅) (λ_ _=>False) s₄) (λ_ _=>False) s₃
      else ∃m,m<n/\I m s₃) (λ_ _=>False) s₂) (λ_ _=>False) s₁) (λ_ _=>False) s₁) (λ_ _=>False) s)
  (n:Nat) (h:I n s) :
  codeAny (model prog w) A (.compLoop (.ListComp elt [⟨target,iter,ifs,0⟩] scope pos) 0 it acc env) R s:=by
 refine codeAny_loop rfl I (λn s hI=>?_) n h;show wpAny _ A ((compTurn (.ListComp elt [⟨target,iter,ifs,0⟩] scope pos) 0 it acc env).onRaise (λx=>do noteFrame x env;theTreesLotGoes x)) _ _ s;refine wpAny_noted ?_;rw[compTurn_list];refine Z_ (ace (Z_ (aaB (turn n s hI) (λr s₁ h₁=>?_) λ_ _ h'=>h'.elim)));cases r with
 |none=>exact aaa h₁
 |some v =>
  refine Z_ (aaB h₁ (λ_ s₂ h₂=>?_) λ_ _ h'=>h'.elim);refine Z_ (aaB h₂ (λ_ s₂ h₂=>Z_ (aaB h₂ (λok s₃ h₃=>?_) λ_ _ h'=>h'.elim)) λ_ _ h'=>h'.elim);cases ok with
  |false=>exact aaa ⟨rfl,h₃⟩
  |true =>
   exact Z_ (Z_ (aaB h₃ (λx s₄ h₄=>Z_ (aaB h₄ (λ_ s₅ h₅=>aaa (aaa ⟨rfl,h₅⟩)) λ_ _ h'=>h'.elim)) λ_ _ h'=>h'.elim))
noncomputable def eM(X:Cx)(N':ai)(scope:Scope)(cl:List (Str×Addr))(C:Addr)(s₀:Shared)(H₀:Hp)(fp:aZ):Cx :=
 { X with N:=N',s₀:=s₀,H₀:=H₀,env:=compEnvC scope cl C X.env,outer:=X.stack,stack:=X.stack,ex:=fp,fn:=λ_=>false,pn:=[],xe:=λ_ _=>False }
theorem fK{env:Env}:∀{names:List (Str×NameKind)} {x:Str} {kd:NameKind},(names.map λ(n,k)=>if (k==NameKind.free&&env.scope.kind==.function&&env.kindOf n==some .cell)then(n,NameKind.cell)else(n,k)).lookup x=some kd ->
  names.lookup x=some kd\/(kd=.cell/\names.lookup x=some .free)
 |[],_,_,h=>by simp at h
 | (n,k)::r,x,kd,h=>by
  rw[List.map_cons]at h;cases hx:x==n with
  |true =>
   by_cases hc:(k==NameKind.free&&env.scope.kind==.function&&env.kindOf n==some .cell)=true
   ·simp only[hc,if_true,List.lookup_cons,hx]at h;cases h;simp only[Bool.and_eq_true,beq_iff_eq]at hc;refine .inr ⟨rfl,?_⟩;rw[List.lookup_cons,hx,hc.1.1]
   ·have zK:(k==NameKind.free&&env.scope.kind==.function&&env.kindOf n==some .cell)=false:=by simpa using hc
    simp only[zK,Bool.false_eq_true,if_false,List.lookup_cons,hx]at h;cases h;exact .inl (by rw[List.lookup_cons,hx])
  |false =>
   have:List.lookup x (r.map λ(n,k)=>if (k==NameKind.free&&env.scope.kind==.function&&env.kindOf n==some .cell)then(n,NameKind.cell)else(n,k))=some kd:=by
    by_cases hc:(k==NameKind.free&&env.scope.kind==.function&&env.kindOf n==some .cell)=true
    ·simp only[hc,if_true,List.lookup_cons,hx]at h;exact h
    ·have zK:(k==NameKind.free&&env.scope.kind==.function&&env.kindOf n==some .cell)=false:=by simpa using hc
     simp only[zK,Bool.false_eq_true,if_false,List.lookup_cons,hx]at h;exact h
   rw[List.lookup_cons,hx];exact fK this
theorem dt{env:Env}:∀{names:List (Str×NameKind)} {x:Str},names.lookup x=some .free ->
  (names.map λ(n,k)=>if (k==NameKind.free&&env.scope.kind==.function&&env.kindOf n==some .cell)then(n,NameKind.cell)else(n,k)).lookup x=some .free \/
  (names.map λ(n,k)=>if (k==NameKind.free&&env.scope.kind==.function&&env.kindOf n==some .cell)then(n,NameKind.cell)else(n,k)).lookup x=some .cell
 |[],_,h=>by simp at h
 | (n,k)::r,x,h=>by
  rw[List.map_cons];cases hx:x==n with
  |true =>
   rw[List.lookup_cons,hx]at h;cases h;by_cases hc:(NameKind.free==NameKind.free&&env.scope.kind==.function&&env.kindOf n==some .cell)=true
   ·simp only[hc,if_true,List.lookup_cons,hx];exact .inr trivial
   ·have zK:(NameKind.free==NameKind.free&&env.scope.kind==.function&&env.kindOf n==some .cell)=false:=by simpa using hc
    simp only[zK,Bool.false_eq_true,if_false,List.lookup_cons,hx];exact .inl trivial
  |false =>
   rw[List.lookup_cons,hx]at h;by_cases hc:(k==NameKind.free&&env.scope.kind==.function&&env.kindOf n==some .cell)=true
   ·simp only[hc,if_true,List.lookup_cons,hx];exact dt h
   ·have zK:(k==NameKind.free&&env.scope.kind==.function&&env.kindOf n==some .cell)=false:=by simpa using hc
    simp only[zK,Bool.false_eq_true,if_false,List.lookup_cons,hx];exact dt h
theorem dO{names:List (Str×NameKind)}{x:Str}{kd:NameKind}(h:names.lookup x=some kd):(x,kd)∈names:=aaV h
structure jV(S:Sx)(n:Nat)(t:Tg)(caps:aM)(target:Expr)(sc:Scope):Prop where
 kind:sc.kind=.function
 Bq:∀y∈sc.names,y.2≠.cell
 loc:∀y∈sc.names,y.2=.local->sc.names.lookup y.1=some .local
 free:∀x,(x,NameKind.free)∈sc.names->S.sc.names.lookup x=some .cell\/S.sc.names.lookup x=some .free
 n:n=(b8 target).length
 tl:∀x∈b8 target,sc.names.lookup x=some .local
 nd:(b8 target++gh S caps).Nodup
 fY:∀i∈caps,∃x,S.N[i]?=some x/\sc.names.lookup x=some .free
 tg:(∃x p,t=.nm 0/\target=.Name x p)\/(∃es k p,t=.tp (List.range es.length)/\target=.Tuple es k p/\es.all isNm=true)
set_option tactic.hygienic true in
theorem pQ{n:Nat}{t:Tg}{sc:Scope}(h:rA S n t caps target sc=true):jV S n t caps target sc:=by
 unfold rA at h;simp only[Bool.and_eq_true,decide_eq_true_eq,List.all_eq_true,Bool.or_eq_true]at h;obtain⟨⟨⟨⟨⟨⟨h1,h2⟩,h3⟩,h4⟩,h5⟩,h6⟩,h7⟩:=h;refine⟨h1,λy hy=>(h2 y hy).1.1,λy hy hk=>?_,λx hx=>?_,h3,h4,h5,λi hi=>?_,?_⟩
 ·rcases(h2 y hy).1.2 with z|z
  ·exact absurd hk z
  ·exact z
 ·rcases(h2 _ hx).2 with (z|z)|z
  ·exact absurd rfl z
  ·exact .inl z
  ·exact .inr z
 ·have:=h6 i hi;split at this
  ·rename_i x e;exact⟨x,e,aab this⟩
  ·cases this
 ·cases t with
  |nm i =>
   obtain⟨g1,g2⟩:=aJ h7;obtain rfl:i=0:=aab g1;obtain⟨x,p,rfl⟩:=l_ g2;exact .inl ⟨x,p,rfl,rfl⟩
  |tp is =>
   obtain⟨es,hv,g⟩:=bz h7;obtain⟨k,p,rfl⟩:=j0 hv;obtain⟨g1,g2⟩:=aJ g;obtain rfl:is=_:=aab g1;exact .inr ⟨es,k,p,rfl,rfl,g2⟩
theorem um{S:Sx}:∀{caps:aM},(∀i∈caps,∃x,S.N[i]?=some x)->(gh S caps).length=caps.length/\∀(j i:Nat),caps[j]?=some i->(gh S caps)[j]?=S.N[i]?
 |[],_=>⟨rfl,λj i h=>by simp at h⟩
 |i::caps,h=>by
  obtain⟨x,hx⟩:=h i aae;obtain⟨h1,h2⟩:=um (caps:=caps) λj hj=>h j (aaf _ hj);have e:gh S (i::caps)=x::gh S caps:=by unfold gh;rw[List.filterMap_cons,hx]
  rw[e];refine⟨by simp[h1],λj k hj=>?_⟩;cases j with
  |zero=>simp at hj;subst hj;simp[hx]
  |succ j=>simp at hj ⊢;exact h2 j k hj
section
variable {X:Cx}{S:Sx}{k:Nat}{Φ:aY}{pins:ak}{σ:St}{H2:Hp}{s₂:Shared}
noncomputable def oH(n:Nat)(caps:aM)(σ:St):St:=List.replicate n none++caps.map λi=>σ[i]?.getD none
noncomputable def fg(aL:aq)(n:Nat):Obj:={ cls:=.type "list",data:=.seq aL.toArray n }
theorem GJ{n:Nat}{t:Tg}{sc:Scope}{cl:List (Str×Addr)}(L:Lk X S k Φ)(co:jV S n t caps target sc)(I2:Inv X pins σ H2 s₂)
  (lU:∀x c,cl.lookup x=some c->X.env.cells.lookup x=some c) (vw:∀x,(x,NameKind.free)∈sc.names->∃c,cl.lookup x=some c) (F1:∀b∈fp,oj X pins H2 b) (Kq:∀b∈fp,b<s₂.heap.objs.size) :
  (eM X (b8 target++gh S caps) sc cl (s₂.heap.objs.size+1) s₂ H2 fp).Ok:=by
 have S7:=I2.kK;refine⟨I2.ok.mod,co.kind,I2.ok.glob,I2.ok.blt,aaS _,λx y c h1 h2=>I2.ok.inj x y c (lU x c h1) (lU y c h2),λx hx=>?_,(λ_ _ z=>by cases z),I2.ok.hd,I2.ok.frames,.inl rfl,λb hb=>⟨?_,λx c e=>(F1 b hb).2.2.2.2.1 x c (lU x c e)⟩,I2.bs,aao I2.ok.HJ I2.sz,λb o e hb=>?_,λb hb z=>?_,I2.stack,I2.wy⟩
 ·have Kj:(relabel sc X.env).names.lookup x=some .cell\/(relabel sc X.env).names.lookup x=some .free:=hx;rcases Kj with Kj|Kj
  ·rcases fK Kj with z|z
   ·exact absurd rfl (co.Bq _ (dO z))
   ·exact vw x (dO z.2)
  ·rcases fK Kj with z|z
   ·exact vw x (dO z)
   ·cases z.1
 ·exact aai (aap (Kq b hb))
 ·rcases(F1 b hb).2.2.2.1 with z|z
  ·exact I2.ok.Bp b o e z
  ·exact absurd (aak (aag e) (aao I2.ok.HJ z)) (aaw _)
 ·rcases List.mem_cons.mp (S7 b z)with w|w
  ·exact(F1 b hb).2.1 w
  ·exact(F1 b hb).2.2.1 w
theorem BY{n:Nat}{t:Tg}{sc:Scope}{cl:List (Str×Addr)}{h₁:Heap}{tk:Nat}(L:Lk X S k Φ)(co:jV S n t caps target sc)(I2:Inv X pins σ H2 s₂)
  (lU:∀x c,cl.lookup x=some c->X.env.cells.lookup x=some c) (vw:∀x,(x,NameKind.free)∈sc.names->∃c,cl.lookup x=some c) (F1:∀b∈fp,oj X pins H2 b) (Kq:∀b∈fp,b<s₂.heap.objs.size)
  (zI:h₁.Ns (s₂.heap.objs.size+1) λ_=>none) (old:∀b o,s₂.heap.get? b=some o->h₁.get? b=some o) (fX:h₁.get? s₂.heap.objs.size=some (fg [] 0)) :
  Inv (eM X (b8 target++gh S caps) sc cl (s₂.heap.objs.size+1) s₂ H2 fp) [(s₂.heap.objs.size,fg [] 0)] (oH n caps σ) H2 { s₂ with heap:=h₁,toks:=tk }:=by
 have vx:∀i∈caps,∃x,S.N[i]?=some x:=λi hi=>let ⟨x,e,_⟩:=co.fY i hi;⟨x,e⟩;obtain⟨Zw,Zv⟩:=um vx;refine⟨GJ L co I2 lU vw F1 Kq,rfl,I2.bare,Un.kept old,⟨_,zI,λi x v e1 e2 e3=>?_⟩,λx c e=>?_,I2.du.fresh (aaS _),λx c e=>I2.iR x c (lU x c e),λp hp=>?_,I2.du.kept old,?_⟩
 ·unfold oH at e2;have hi:n<=i:=by
   by_cases hi:i<n
   ·rw[List.getElem?_append_left (by simpa using hi),List.getElem?_replicate,if_pos hi]at e2;cases e2
   ·left
  have Mg:(b8 target++gh S caps)[i]?=some x:=e1;rw[List.getElem?_append_right (by rw[<- co.n];exact hi),<- co.n]at Mg;rw[List.getElem?_append_right (by simpa using hi),List.length_replicate,List.getElem?_map]at e2;cases hc:caps[i - n]? with
  |none=>rw[hc]at e2;cases e2
  |some ci =>
   rw[hc]at e2;rw[Zv _ _ hc]at Mg;obtain⟨x',PR,Q0⟩:=co.fY ci (aay hc);rw[PR]at Mg;cases Mg;have Zs:σ[ci]?=some (some v):=by
    have P5:σ[ci]?.getD none=some v:=aas e2;cases q:σ[ci]? with
    |none=>rw[q]at P5;cases P5
    |some o=>rw[q]at P5;simp at P5;rw[P5]
   have SY:Ml X.env.scope x:=by
    unfold Ml;rw[L.sc];rcases co.free x (dO Q0)with z|z
    ·exact .inr (.inl z)
    ·exact .inr (.inr z)
   obtain⟨m,hn,hl⟩:=I2.loc;obtain⟨u,r,lk⟩:=hl ci x v (by rw[L.N];exact PR) Zs SY;refine⟨u,r,.inr ⟨?_,?_⟩⟩
   ·rcases dt (env:=X.env) Q0 with z|z
    ·exact .inr z
    ·exact .inl z
   ·have YD:∃c,X.env.cells.lookup x=some c/\s₂.heap.IsCell c (some u):=by
     rcases lk with ⟨z,_⟩|⟨_,z⟩
     ·have z':X.env.scope.names.lookup x=some .local:=z;rw[L.sc]at z';rcases co.free x (dO Q0)with w|w<;>(rw[w]at z';cases z')
     ·exact z
    obtain⟨c,ec,o,ho,hd⟩:=YD;obtain⟨c',WN⟩:=vw x (dO Q0);have:=lU x c' WN;rw[ec]at this;cases this;exact⟨c,WN,o,old _ _ ho,hd⟩
 ·obtain⟨v,o,ho,hd⟩:=I2.cell x c (lU x c e);exact⟨v,o,old _ _ ho,hd⟩
 ·have xn:p=(s₂.heap.objs.size,fg [] 0):=by simpa [eM]using hp
  subst xn;refine⟨fX,I2.du.fresh (aah _),aai (aaL _),λz=>?_,λv z=>by cases z⟩;rcases List.mem_cons.mp (I2.kK _ z)with w|w
  ·exact absurd w (aaq I2.lt)
  ·exact I2.JP (aah _) w
 ·show(oH n caps σ).length=(b8 target++gh S caps).length;unfold oH;rw[List.length_append,List.length_append,List.length_replicate,List.length_map,Zw,co.n]
end
theorem aD.snoc{T:lL}{N:iA}{k:bt}:∀{n:Nat} {vs:af} {ds:ab} {v:V} {d:D},aD T N k n vs ds->Rep T N ((n+ds.length)::k) v d->aD T N k n (vs++[v]) (ds++[d])
 |n,_,_,_,_,.nil,h=>.cons h .nil
 |n,_,_,_,_,.cons (ds:=ds) h t,r=>.cons h (aD.snoc t (by
  have e:n+(ds.length+1)=n+1+ds.length:=by left
  rw[List.length_cons,e]at r;exact r))
open Classical in
theorem cz.snoc{K:ao}{G R:ah}{τ:Addr->Option bt}{fv:aM}{H H1 H2:Hp}{v:V}{d:D}{vs:af}{ds:ab}(e1:aI H H1)(e2:aI H1 H2)(h:cz K G R τ fv H H1 vs ds)(t:bR K G R τ fv H1 H2 v d):
  cz K G R τ fv H H2 (vs++[v]) (ds++[d]):=by
 obtain⟨τ1,f1,h1⟩:=h;obtain⟨τ2,f2,h2⟩:=t;refine⟨λp=>if H1 p=none then(τ2 p).map (· ++ [ds.length])else τ1 p,λp q hq=>?_,aD.snoc (h1.imp (q:=[]) (q':=[]) (λ_ _ h=>aX.same e2 h) λc p xs f h=>?_) ((Nat.zero_add ds.length).symm▸h2.imp (q:=[]) (q':=[ds.length]) (λ_ _ h=>h) λc p xs f h=>?_)⟩
 ·dsimp only at hq;by_cases hp:H1 p=none
  ·exact e1.free hp
  ·rw[if_neg hp]at hq;exact f1 p q hq
 ·have h':=nd.same e2 h;cases f with
  |ow =>
   refine⟨h'.1,?_⟩;show(if H1 p=none then(τ2 p).map (· ++ [ds.length])else τ1 p)=_;rw[if_neg (h.1.ne)];exact h.2
  |fz=>exact h'
  |al=>exact h'
  |sc=>exact h'
 ·cases f with
  |ow =>
   refine⟨h.1,?_⟩;show(if H1 p=none then(τ2 p).map (· ++ [ds.length])else τ1 p)=_;rw[if_pos (f2 p _ h.2),h.2];simp
  |fz=>exact h
  |al=>exact h
  |sc=>exact h
structure Yl(K:ao)(J:It)(R:ah)(H1:Hp)(items:ab):Prop where
 go:∀i H',aI H1 H'->i<items.length->J.go i H'
 uD:∀i H' x l4,aI H1 H'->i<items.length->J.uD i H' x l4->aI H' l4/\∃d,items[i]?=some d/\Rep (aX K l4) (nd K R (λ_=>False) (λ_=>none) l4) [] x d
 stop:∀i H',aI H1 H'->items.length<=i->J.stop i H'
variable {C:Addr}{s₂:Shared}
section
variable {X:Cx}{S:Sx}{k:Nat}{F:ah}{Φ:aY}
def kM(X:Cx)(F:ah)(τ:Addr->Option bt)(fv:aM)(H2:Hp)(p:Addr):Prop:=H2 p≠none/\jw (gP X F) τ fv p
theorem uZ(Si:SI X F R τ ρ σ H)(fr:∀p q,τt p=some q->H p=none)(hs:∀i∈fv,i∈fv')(kp kq:bt)(p:Addr)(xs:Nd)(f:Fl)
  (h:nd X.K R (jw (gP X F) τ fv) τt H2 kp p xs f):nd X.K (kM X F τ fv' H2) (λ_=>False) (λ_=>none) H2 kq p xs (aK f):=by
 cases f with
 |ow=>exact⟨h.1,h.1.ne,.inr (Si.same.free (fr p _ h.2)),λc i e=>absurd (fr p _ h.2) (Si.th p _ e)⟩
 |fz=>exact⟨h.1,h.1.ne,Si.rf p h.2,λc i e=>by rw[Si.rt p h.2]at e;cases e⟩
 |al=>exact⟨h.1,h.1.ne,h.2.mono hs⟩
 |sc=>exact h
theorem D0{a:Addr}{q:bt}(hl:dq X.K H1 a xs)(rs:aD (aX X.K H1) (nd X.K R (λ_=>False) (λ_=>none) H1) q 0 xs items):Yl X.K (Mo X.K a) R H1 items where
 go:=λi H' e hi=>⟨xs,xs[i]'(by rw[rs.length];exact hi),e.seq hl,aan _⟩
 uD:=λi H' x l4 e hi y=>by
  obtain⟨rfl,y⟩:=y;obtain⟨d,hd,rd⟩:=rs.vz (y xs (e.seq hl));refine⟨aI.refl _,d,hd,?_⟩;have:=Rep.iI (g:=id) (λ_ _ h=>h) nd.pG rd [];rw[eQ]at this;exact this.imp (λ_ _ h=>aX.same e h) λ_ _ _ _ h=>nd.same e h
 stop:=λi H' e hi=>⟨xs,e.seq hl,by rw[rs.length];exact hi⟩
theorem Ih{a:Addr}{q:bt}(hl:aX X.K H1 a xs)(rs:aD (aX X.K H1) (nd X.K R (λ_=>False) (λ_=>none) H1) q 0 xs items):Yl X.K (Mn X.K a) R H1 items where
 go:=λi H' e hi=>⟨xs,xs[i]'(by rw[rs.length];exact hi),aX.same e hl,aan _⟩
 uD:=λi H' x l4 e hi y=>by
  obtain⟨rfl,y⟩:=y;obtain⟨d,hd,rd⟩:=rs.vz (y xs (aX.same e hl));refine⟨aI.refl _,d,hd,?_⟩;have:=Rep.iI (g:=id) (λ_ _ h=>h) nd.pG rd [];rw[eQ]at this;exact this.imp (λ_ _ h=>aX.same e h) λ_ _ _ _ h=>nd.same e h
 stop:=λi H' e hi=>⟨xs,aX.same e hl,by rw[rs.length];exact hi⟩
theorem Ii{lo:Int}{n:Nat}:Yl X.K (zP lo n) R H1 ((List.range n).map λ(k:Nat)=>D.int (lo+(k:Int))) where
 go:=λi H' e hi=>by simpa [zP]using hi
 uD:=λi H' x l4 e hi y=>by
  obtain⟨rfl,rfl⟩:=y;have jD:i<n:=by simpa using hi
  exact⟨aI.refl _,.int (lo+i),by rw[List.getElem?_map,List.getElem?_range jD];rfl,.int _⟩
 stop:=λi H' e hi=>by simpa [zP]using hi
theorem AD{n:Nat}{t:Tg}{sc:Scope}{cl:List (Str×Addr)}(Si:SI X F R τ ρ σ H2)(hs:∀i∈caps,i∈fv):
  SI (eM X (b8 target++gh S caps) sc cl C s₂ H2 fp) (jw (gP X F) τ fv) (kM X F τ fv H2) (λ_=>none) (bK n caps ρ) (oH n caps σ) H2:=by
 refine⟨by simp[bK,oH],λi d hi=>?_,λ_ _=>rfl,λp h=>h.1,λp h=>.inl h.2,λ_ _ h=>by simp at h,λ_ _ h=>by simp at h,aI.refl _⟩;unfold bK at hi;have hn:n<=i:=by
  by_cases hn:i<n
  ·rw[List.getElem?_append_left (by simpa using hn),List.getElem?_replicate,if_pos hn]at hi;cases hi
  ·left
 rw[List.getElem?_append_right (by simpa using hn),List.length_replicate,List.getElem?_map]at hi;cases hc:caps[i - n]? with
 |none=>rw[hc]at hi;exact nk hi
 |some ci =>
  rw[hc]at hi;have jD:(ρ[ci]?.getD none).map (aA aK)=some d:=aas hi;have hr:∃d0,ρ[ci]?=some (some d0)/\aA aK d0=d:=by
   cases q:ρ[ci]? with
   |none=>rw[q]at jD;cases jD
   |some o =>
    cases o with
    |none=>rw[q]at jD;cases jD
    |some d0=>rw[q]at jD;exact⟨d0,rfl,aas jD⟩
  obtain⟨d0,h0,rfl⟩:=hr;obtain⟨v,hv,rv⟩:=Si.rep ci d0 h0;refine⟨v,?_,Rep.iI (λ_ _ h=>h) (λkp kq p xs f h=>?_) ((rv.imp (q:=[ci]) (q':=[ci]) (N':=λq p xs f=>nd X.K R (λ_=>False) τ H2 q p xs f/\(f=.ow->∃c,q=c++[ci])) (λ_ _ h=>h) λc p xs f h=>⟨h,λ_=>⟨c,rfl⟩⟩)) [i]⟩
  ·unfold oH;rw[List.getElem?_append_right (by simpa using hn),List.length_replicate,List.getElem?_map,hc];simp[hv]
  ·obtain⟨h,hq⟩:=h;cases f with
   |ow =>
    obtain⟨c,rfl⟩:=hq rfl;refine⟨h.1,h.1.ne,.inr (Si.t0 p _ h.2),λc' i' e=>?_⟩;rw[h.2]at e;have:=aa5 List.getLast? (aas e);simp at this;subst this;exact hs _ (aay hc)
   |fz=>exact⟨h.1,h.1.ne,Si.rf p h.2,λc i e=>by rw[Si.rt p h.2]at e;cases e⟩
   |al=>exact h.2.elim
   |sc=>exact h
theorem Bs:∀{es:aj},es.all isNm=true->∃xs:List (Str×Pos),es=xs.map λx=>Expr.Name x.1 x.2
 |[],_=>⟨[],rfl⟩
 |e::es,h=>by
  rw[List.all_cons,Bool.and_eq_true]at h;obtain⟨xs,rfl⟩:=Bs h.2;obtain⟨x,p,rfl⟩:=l_ h.1;exact⟨(x,p)::xs,rfl⟩
theorem uT(xs:List (Str×Pos)):(xs.map λx=>Expr.Name x.1 x.2).filterMap (λe=>match e with|.Name x _=>some x|_=>none)=xs.map (·.1):=by
 induction xs with
 |nil=>rfl
 |cons x xs ih=>simp[ih]
def Cs(i:Nat):Nat->GZ
 |0=>KJ
 |n+1=>Ct (pF i) (Cs (i+1) n)
theorem wX{X:Cx}(hN:X.N.Nodup):∀(xs:List (Str×Pos)) (i:Nat),(∀(j:Nat) x,xs[j]?=some x->X.N[i+j]?=some x.1/\X.env.scope.names.lookup x.1=some .local) ->
  Mm X (xs.map λx=>Expr.Name x.1 x.2) (Cs i xs.length)/\(assignEach (xs.map λx=>Expr.Name x.1 x.2) X.env).length=xs.length/\(assignEach (xs.map λx=>Expr.Name x.1 x.2) X.env).findIdx? (·.1)=none
 |[],_,_=>⟨wW,rfl,rfl⟩
 |x::xs,i,h=>by
  obtain⟨h1,h2,h3⟩:=wX hN xs (i+1) λj y hy=>by
   have:=h (j+1) y (by simpa using hy)
   rwa [show i+(j+1)=i+1+j by left]at this
  obtain⟨g1,g2⟩:=h 0 x rfl;refine⟨sY (qu hN g1 (.inl g2) (.inr g2)) h1 rfl,?_,?_⟩
  ·show(_::assignEach _ X.env).length=_;rw[List.length_cons,h2];rfl
  ·show(((false,assign (.Name x.1 x.2) X.env)::assignEach (xs.map λx=>Expr.Name x.1 x.2) X.env)).findIdx? (·.1)=none;rw[List.findIdx?_cons];simp[h3]
end
section
variable {X:Cx}{F R:ah}{τ:Addr->Option bt}{ρ:bo}{σ σ':St}{H:Hp}
theorem SI.AE{i:Nat}{v:V}{d:D}(Si:SI X F R τ ρ σ H)(rp:Rep (aX X.K H) (nd X.K R (λ_=>False) (λ_=>none) H) [] v d)(hi:i<ρ.length):SI X F R τ (ρ.set i (some d)) (σ.set i (some v)) H:=by
 refine⟨by simp[Si.len],λj d' hj=>?_,Si.rt,Si.rh,Si.rf,Si.th,Si.t0,Si.same⟩;by_cases js:j=i
 ·subst js;rw[List.getElem?_set_self hi]at hj;cases hj;refine⟨v,List.getElem?_set_self (by rw[<- Si.len];exact hi),rp.imp (q':=[j]) (λ_ _ h=>h) λc p xs f h=>?_⟩;cases f with
  |ow=>exact nomatch h.2
  |fz=>exact h
  |al=>exact h
  |sc=>exact h
 ·rw[List.getElem?_set_ne (Ne.symm js)]at hj;obtain⟨w,hw,ox⟩:=Si.rep j d' hj;exact⟨w,by rw[List.getElem?_set_ne (Ne.symm js)];exact hw,ox⟩
theorem SI.sig(Si:SI X F R τ ρ σ H)(hl:σ'.length=σ.length)(h:∀(i:Nat) d,ρ[i]?=some (some d)->σ'[i]?=σ[i]?):SI X F R τ ρ σ' H :=
 ⟨by rw[hl];exact Si.len,λi d hi=>let ⟨v,hv,r⟩:=Si.rep i d hi;⟨v,by rw[h i d hi];exact hv,r⟩,Si.rt,Si.rh,Si.rf,Si.th,Si.t0,Si.same⟩
theorem mS{Q:St->Hp->Prop}(σ0:St)(hi:Nat):∀{m i:Nat} {vs:af} {ds:ab} {kp:bt} {q:Nat} {σ:St} {ρ ρ':bo},i+m=hi->aD (aX X.K H) (nd X.K R (λ_=>False) (λ_=>none) H) kp q vs ds->SI X F R τ ρ σ H->ib (List.range' i m) ds ρ=ok ρ' ->
  σ.length=σ0.length->(∀j,hi<=j->σ[j]?=σ0[j]?)->(∀σ',σ'.length=σ0.length->(∀j,hi<=j->σ'[j]?=σ0[j]?)->SI X F R τ ρ' σ' H->Q σ' H)->Cs i m vs σ H Q
 |0,_,_,_,_,_,σ,_,_,_,.nil,Si,e,h1,h2,hq=>by
  cases e;exact⟨rfl,hq σ h1 h2 Si⟩
 |0,_,_,_,_,_,_,_,_,_,.cons _ _,_,e,_,_,_=>by cases e
 |m+1,_,_,_,_,_,_,_,_,_,.nil,_,e,_,_,_=>by cases e
 |m+1,i,_,_,_,_,σ,ρ,_,him,.cons (v:=v) (d:=d) h t,Si,e,h1,h2,hq=>by
  change (if _ then _ else _)=_ at e;split at e
  ·rename_i jD;have iz:=Si.AE (i:=i) (Rep.qE h) jD;refine⟨_,_,rfl,mS σ0 hi (by left) t iz e (by simpa using h1) (λj hj=>?_) hq⟩;rw[List.getElem?_set_ne (by left)];exact h2 j hj
  ·cases e
end
variable {base h:Heap}
section
variable {X:Cx}{S:Sx}{k:Nat}{F:ah}{Φ:aY}
set_option tactic.hygienic true in
theorem Iy{n:Nat}{t:Tg}{sc:Scope}{cl:List (Str×Addr)}(O4:X.calm=true)(co:jV S n t caps target sc):
  ∃g,PG (eM X (b8 target++gh S caps) sc cl C s₂ H2 fp) target g/\∀(F' R':ah) (x:V) (d:D) (σ':St) (l4:Hp) (Q:St->Hp->Prop) (ρb ρ1:bo),
   SI (eM X (b8 target++gh S caps) sc cl C s₂ H2 fp) F' R' (λ_=>none) ρb σ' l4->Rep (aX X.K l4) (nd X.K R' (λ_=>False) (λ_=>none) l4) [] x d->aU eL d=false->cu t d ρb=ok ρ1 ->
   (∀σ2,σ2.length=σ'.length->(∀j,n<=j->σ2[j]?=σ'[j]?)->SI (eM X (b8 target++gh S caps) sc cl C s₂ H2 fp) F' R' (λ_=>none) ρ1 σ2 l4->Q σ2 l4)->g x σ' l4 Q:=by
 have Ko:∀x∈b8 target,(relabel sc X.env).names.lookup x=some .local:=λx hx=>lookup_relabel_local (co.tl x hx);rcases co.tg with ⟨x,p,rfl,rfl⟩|⟨es,kk,p,rfl,rfl,yU⟩
 ·have hn:n=1:=co.n;subst hn;refine⟨pF 0,qu co.nd rfl (.inl (Ko x (List.mem_singleton.mpr rfl:x∈[x]))) (.inr (Ko x (List.mem_singleton.mpr rfl:x∈[x]))),λF' R' v d σ' l4 Q ρb ρ1 Si rp _ e hq=>?_⟩;simp only[cu]at e;split at e
  ·rename_i hi;cases e;refine hq _ (by simp) (λj hj=>?_) (Si.AE rp hi);rw[List.getElem?_set_ne (by left)]
  ·cases e
 ·obtain⟨xs,rfl⟩:=Bs yU;have hN:b8 (.Tuple (xs.map λx=>Expr.Name x.1 x.2) kk p)=xs.map (·.1):=uT xs;have hn:n=xs.length:=by rw[co.n,hN,List.length_map]
  have:=wX (X:=eM X (b8 (.Tuple (xs.map λx=>Expr.Name x.1 x.2) kk p)++gh S caps) sc cl C s₂ H2 fp) co.nd xs 0 (λj y hy=>by
   refine⟨?_,Ko y.1 (by rw[hN];exact List.mem_map.mpr ⟨y,aay hy,rfl⟩)⟩;show(b8 (.Tuple (xs.map λx=>Expr.Name x.1 x.2) kk p)++gh S caps)[0+j]?=_;have hj:j<xs.length:=by
    by_cases hj:j<xs.length
    ·exact hj
    ·rw[List.getElem?_eq_none (by left)]at hy;cases hy
   rw[hN,Nat.zero_add,List.getElem?_append_left (by simpa using hj),List.getElem?_map,hy];rfl)
  obtain⟨h1,h2,h3⟩:=this;refine⟨_,A9 O4 h1 h2 h3,λF' R' v d σ' l4 Q ρb ρ1 Si rp ho e hq=>?_⟩;cases d<;>try (simp[cu]at e;done)
  rename_i ds;simp only[cu]at e;split at e
  ·cases e
  ·cases rp with
   | @tup _ a ys _ hp rs =>
    rw[List.length_map]at e;have e':ib (List.range' 0 xs.length) ds ρb=ok ρ1:=by rw[<- List.range_eq_range'];exact e
    refine⟨a,ys,rfl,hp,?_,mS (X:=eM X (b8 (.Tuple (xs.map λx=>Expr.Name x.1 x.2) kk p)++gh S caps) sc cl C s₂ H2 fp) σ' n (by left) rs Si e' rfl (λ_ _=>rfl) hq⟩;rw[rs.length];have:∀(is:aM) (ds:ab) (ρ ρ':bo),ib is ds ρ=ok ρ'->ds.length=is.length:=by
     intro is;induction is with
     |nil=>intro ds ρ ρ' e;cases ds with|nil=>rfl|cons _ _=>cases e
     |cons i is ih=>intro ds ρ ρ' e;cases ds with
      |nil=>cases e
      |cons d ds =>
       change (if _ then _ else _)=_ at e;split at e
       ·simp[ih ds _ _ e]
       ·cases e
    rw[this _ _ _ _ e',List.length_range']
theorem VJ:∀f:Fl,eL (aK f)=false:=by intro f;cases f<;>rfl
mutual
theorem Fv:∀d:D,aU eL (aA aK d)=false
 |.bF=>by simp[aA,aU]
 |.bl _=>by simp[aA,aU]
 |.int _=>by simp[aA,aU]
 |.str _=>by simp[aA,aU]
 |.tup ds=>by simp[aA,aU,gz ds]
 |.lst f ds=>by simp[aA,aU,gz ds,VJ]
 |.cM f ks vs=>by simp[aA,aU,gz vs,VJ]
theorem gz:∀ds:ab,aN eL (av aK ds)=false
 |[]=>by simp[av,aN]
 |d::ds=>by simp[av,aN,Fv d,gz ds]
end
theorem xo{a:Addr}{o:HO}(x:k8 H h)(hn:H a=none)(new:cU (upd H a o) h a o):k8 (upd H a o) h:=λb u e=>by
 by_cases hb:b=a
 ·subst hb;rw[bg]at e;cases e;exact new
 ·rw[bw hb]at e;exact(x b u e).mL λ_ q=>q
structure ZV(X X':Cx)(F' R':ah)(n:Nat)(base:bo)(σ0:St)(fp:aZ)(tn:Nat->Heap->Prop)(H2:Hp)(D:Addr)(items:List DI.D)(bind:DI.D->O bo)(test:bo->O Bool)(el:bo->O DI.D)(all:List DI.D)(m:Nat)(s':Shared):Prop where
 ex:∃(i:Nat) (vs:af) (aL:aq) (nn:Nat) (σ':St) (H':Hp) (dn rest:List DI.D),m=items.length - i/\i<=items.length/\Inv X' [(D,fg aL nn)] σ' H' s'/\tn i s'.heap/\(∀b∈fp,H' b=none)/\Vals vs aL/\aI H2 H' /\
  SI X' F' R' (λ_=>none) base σ' H'/\cz X.K (gP X' F') R' (λ_=>none) [] H2 H' vs dn/\iq bind test el (items.drop i)=ok rest/\dn++rest=all
end
theorem cz.go(h:cz K G R τ fv H H1 vs ds)(e:aI H1 H2):cz K G R τ fv H H2 vs ds :=
 let ⟨τt,h1,h2⟩:=h;⟨τt,h1,h2.imp (λ_ _ h=>aX.same e h) λ_ _ _ _ h=>nd.same e h⟩
theorem m6:∀{ds:ab} {d:D},aN eL ds=false->d∈ds->aU eL d=false
 |[],_,_,h=>nomatch h
 |e::ds,d,h,hm=>by
  rw[aN,Bool.or_eq_false_iff]at h;rcases List.mem_cons.mp hm with rfl|z
  ·exact h.1
  ·exact m6 h.2 z
theorem yu{d:D}(h:oJ d=ok items):∀d∈items,aU eL d=false:=by
 unfold oJ at h;split at h
 ·cases h;exact λd hd=>m6 (gz _) hd
 ·cases h
theorem vq{ik:IK}{xs:ab}(h:eK Φ ik xs=ok items):∀d∈items,aU eL d=false:=by
 cases ik with
 |bO p=>obtain⟨d,_,h⟩:=aB h;exact yu h
 |kF =>
  cases xs with
  |nil=>cases h
  |cons x t=>cases x<;>first | (cases h;done) | (cases t with
   |cons _ _=>cases h
   |nil =>
    obtain⟨_,h⟩:=pz h;subst h;intro d hd;obtain⟨k,_,rfl⟩:=List.mem_map.mp hd;rfl)
 |seq =>
  cases xs with
  |nil=>cases h
  |cons x t=>cases x<;>first | (cases h;done) | (cases t with
   |cons _ _=>cases h
   |nil=>cases h;exact λd hd=>m6 (gz _) hd)
theorem vt{n:Nat}{i:Nat}{d:D}(h:(bK n caps ρ)[i]?=some (some d)):n<=i:=by
 unfold bK at h;by_cases hn:i<n
 ·rw[List.getElem?_append_left (by simpa using hn),List.getElem?_replicate,if_pos hn]at h;cases h
 ·left
variable {c' elt:CE}{bI cs es:aE}
section
variable {X:Cx}{S:Sx}{k:Nat}{F:ah}{Φ:aY}
theorem BC{n:Nat}{t:Tg}{sc:Scope}{cl:List (Str×Addr)}(L:Lk X S k Φ)(co:jV S n t caps target sc):
  Lk (eM X (b8 target++gh S caps) sc cl C s₂ H2 fp) (S.inner target caps sc) k Φ:=by
 refine⟨?_,rfl,co.nd,L.calm,L.room,L.bl,λf x h=>⟨(L.fn f x h).ex⟩,L.cs,L.pr⟩;show relabel sc X.env=sU sc S.sc;rw[<- L.sc];rfl
theorem uh(L:Lk X S k Φ){n:Nat}{t:Tg}{ik:IK}{ifs:aj}{sc:Scope}(co:jV S n t caps target sc)(zI:pq iter=true)
    (hE:∀(X':Cx) (F':ah),Lk X' (S.inner target caps sc) k Φ->PE X' jl (tD X' F' Φ elt))
    (hC:(bI=[]/\ifs=[])\/∃c e,bI=[c]/\ifs=[e]/\∀(X':Cx) (F':ah),Lk X' (S.inner target caps sc) k Φ->PT X' e (fA X' F' Φ c))
    (hI:∀(pins:ak) (s:Shared) (σ:St) (H:Hp) (R:ah) (τ:Addr->Option bt) (ρ:bo) (xs items:ab),Inv X pins σ H s->SI X F R τ ρ σ H->cP Φ es ρ=ok xs->eK Φ ik xs=ok items->∀Rr:It->Hp->Prop,
      (∀J H2,aI H H2->Yl X.K J (kM X F τ (caps++dw es) H2) H2 items->Rr J H2)->wpAny (model X.prog X.w) X.A (eval iter X.env) (λv s1=>wpAny (model X.prog X.w) X.A (pyIter v) (DB X pins σ target Rr) X.xe s1) X.xe s)
    {use:Option (Value->Sem Unit)} {Post:az} {pins:ak} {s:Shared} {d:D} {UB:Pos} (I:Inv X pins σ H s) (Si:SI X F R τ ρ σ H) (ev:aW Φ (.comp n t caps ik es bI elt) ρ=ok d)
    (OF:∀(acc C:Addr) (H1:Hp) (s1:Shared) (m:bc),s1.heap.Ns C m->(C≠X.env.locals/\X.s₀.heap.objs.size<=C/\(∀x c,X.env.cells.lookup x=some c->c≠C)/\(∀p∈X.pn++pins,p.1≠C)/\H1 C=none)->(∀h',Heap.SameBut C s1.heap h'->Inv X pins σ H1 { s1 with heap:=h' })->aI H H1 ->
      bR X.K (gP X F) R τ (gJ (.comp n t caps ik es bI elt)) H H1 (.ref acc) d->compPost (model X.prog X.w) X.A X.xe use Post (.ref acc) C (.ok .next) s1) :
    wpAny (model X.prog X.w) X.A (comprehension (.ListComp jl [⟨target,iter,ifs,0⟩] sc pos) sc X.env UB (newList []) false (eval iter X.env) use) Post X.xe s:=by
  obtain⟨xs,cp,ev⟩:=aB ev;obtain⟨items,vD,ev⟩:=aB ev;obtain⟨ds,Lh,ev⟩:=aB ev;simp only[Hy]at ev;obtain⟨vx,rfl⟩:=ev;have OK:=vq vD;obtain⟨cl,O3,lU,vw⟩:=vN (env:=X.env) (sc:=sc) (λx hx=>I.ok.has x (by
    show X.env.scope.names.lookup x=some .cell\/X.env.scope.names.lookup x=some .free;rw[L.sc];exact co.free x hx))
  have nC:∀x,foldedSetIterable iter X.env x=pure x:=by intro x;cases iter<;>first|rfl | (cases zI;done)
  refine wpAny_comprehension_free (use:=use) rfl nC O3 co.kind co.loc (aaB (hI pins s σ H R τ ρ xs items I Si cp vD (λJ H2=>aI H H2/\Yl X.K J (kM X F τ (caps++dw es) H2) H2 items) (λJ H2 e y=>⟨e,y⟩)) (λxv s₁ h₁=>aaB h₁ (λSH s₂ h₂=>?_) λ_ _ e=>e) λ_ _ e=>e);obtain⟨it,fp,tn,J,H2,rfl,I2,T,MT,f2,e2,yl⟩:=h₂;have vX:=Si.go e2;have Kq:∀b∈fp,b<s₂.heap.objs.size:=λb hb=>let ⟨o,ho,_⟩:=T.obj 0 _ MT b hb;aag ho;refine aav (wpAny_newFunctionEnv co.Bq (by intro y hy;simp at hy) (λh₁ qN nB=>?_) co.kind);dsimp only at qN nB ⊢;generalize Ub:s₂.heap.push { cls:=.type "list",dict:=none,data:=.seq ([]:aq).toArray }=G2 at qN nB ⊢;have WC:G2.objs.size=s₂.heap.objs.size+1:=by rw[<- Ub,Heap.size_push]
  have Q4:s₂.heap.objs.size≠s₂.heap.objs.size+1:=aai (aaL _);rw[WC]at qN nB;have old:∀b o,s₂.heap.get? b=some o->h₁.get? b=some o:=λb o e=>nB.extBut b o (aai (aap (aag e))) (aac _ (Ub▸aac _ e));have fX:h₁.get? s₂.heap.objs.size=some (fg [] 0):=nB.extBut _ _ Q4 (aac _ (Ub▸aaj _ rfl))
  let X':=eM X (b8 target++gh S caps) sc cl (s₂.heap.objs.size+1) s₂ H2 fp
  let F':=jw (gP X F) τ (caps++dw es)
  let R':=kM X F τ (caps++dw es) H2
  have L':Lk X' (S.inner target caps sc) k Φ:=BC L co;have I4:=λtk=>BY (h₁:=h₁) (tk:=tk) L co I2 lU vw f2 Kq (by simpa using qN) old fX;have S4:SI X' F' R' (λ_=>none) (bK n caps ρ) (oH n caps σ) H2:=AD (t:=t) vX (λi hi=>by simp[hi]);obtain⟨g,hg,Cc⟩:=Iy (X:=X) (S:=S) (cl:=cl) (fp:=fp) (s₂:=s₂) (H2:=H2) (C:=s₂.heap.objs.size+1) L.calm co;have Uc:s₂.heap.objs.size∉X'.fs:=λz=>by
    rcases List.mem_cons.mp (I2.kK _ z)with w|w
    · exact absurd w (aaq I2.lt)
    · exact I2.JP (aah _) w
  have Ks:∀x c,cl.lookup x=some c->c≠s₂.heap.objs.size:=λx c e=>by
    obtain⟨v,q⟩:=I2.cell x c (lU x c e);exact aai q.lt
  have F0:∀b∈fp,b≠X'.env.locals/\b∉X'.fs/\(b∈X'.ex\/X'.s₀.heap.objs.size<=b)/\(∀x c,X'.env.cells.lookup x=some c->c≠b):=λb hb =>
    ⟨aai (aap (Kq b hb)),λz=>by
      rcases List.mem_cons.mp (I2.kK b z)with w|w
      · exact(f2 b hb).2.1 w
      · exact(f2 b hb).2.2.1 w,.inl hb,λx c e=>(f2 b hb).2.2.2.2.1 x c (lU x c e)⟩
  have OV:∀b∈fp,b≠s₂.heap.objs.size:=λb hb=>aai (Kq b hb);have fin:∀(vs:af) (aL:aq) (nn:Nat) (σ':St) (H':Hp) (s1:Shared),Inv X' [(s₂.heap.objs.size,fg aL nn)] σ' H' s1->Vals vs aL->aI H2 H'->cz X.K (gP X' F') R' (λ_=>none) [] H2 H' vs ds ->
      compPost (model X.prog X.w) X.A X.xe use Post (.ref s₂.heap.objs.size) (s₂.heap.objs.size+1) (.ok .next) s1:=by
    intro vs aL nn σ' H' s1 I1 rv sm EI;obtain⟨m,hn,_⟩:=I1.loc;obtain⟨pD,nD,_,_,_⟩:=I1.pin (s₂.heap.objs.size,fg aL nn) (aal _ aae);have bs:=I1.base;have Ht:∀b o,s₂.heap.get? b=some o->b≠s₂.heap.objs.size+1:=λb o e=>aai (aap (aag e));have X4:∀b o,s₂.heap.get? b=some o->b≠s₂.heap.objs.size:=λb o e=>aai (aag e);have Vu:∀b u,H' b=some u->upd H' s₂.heap.objs.size (.lst vs) b=some u:=λb u e=>by rw[bw (fJ e nD)];exact e
    have hlen:vs.length<=sizeLine:=by
      obtain⟨_,_,rr⟩:=EI;have hz:sizeLine=16777216:=abf;have hc:fY=1000000:=rfl;rw[rr.length];left
    have IX:∀h',Heap.SameBut (s₂.heap.objs.size+1) s1.heap h'->Inv X pins σ (upd H' s₂.heap.objs.size (.lst vs)) { s1 with heap:=h' }:=λh' B5=>by
      have un:Un (zL X.stack) fp H2 (upd H' s₂.heap.objs.size (.lst vs)) s₂.heap h' :=
        ⟨λb o e n hb hx=>B5.extBut b o (Ht b o e) (bs.keep b o e n hb hx),
         λb o e n hb hx=>let ⟨sl,q⟩:=bs.slot b o e n hb hx;⟨sl,B5.extBut b _ (Ht b o e) q⟩,
         λb o e n hx=>by rw[bw (X4 b o e)];exact bs.free b o e n hx,
         λb o e hx=>let ⟨o',q⟩:=bs.there b o e hx;⟨o',B5.extBut b _ (Ht b o e) q⟩,
         λb xs e=>Vu b _ (bs.p9 b xs e),λb o u e=>Vu b _ (bs.oR b o u e)⟩
      have Tn:k8 H' h':=λa o e=>(I1.du a o e).mL λu q=>B5.extBut a u (by
        rintro rfl;have hf:H' (s₂.heap.objs.size+1)=none:=I1.free;rw[hf]at e;cases e) q
      have Tj:k8 (upd H' s₂.heap.objs.size (.lst vs)) h':=xo Tn nD ⟨hlen,aL,nn,rv,B5.extBut _ _ Q4 pD⟩;exact I2.Qg (ch:=fp) I1.os un Tj I1.bare λb hb=>⟨(f2 b hb).2.2.2.1,(f2 b hb).2.1,(f2 b hb).2.2.2.2.1,(f2 b hb).2.2.2.2.2⟩
    have eS:aI H' (upd H' s₂.heap.objs.size (.lst vs)):=aI.upd nD;obtain⟨τt,fr,rs⟩:=EI;have Su:s₂.heap.objs.size+1≠s₂.heap.objs.size:=Nat.succ_ne_self _;refine OF s₂.heap.objs.size (s₂.heap.objs.size+1) _ s1 m hn ⟨aaq (aap I2.lt),abD I2.sz,λx c e=>?_,λp hp=>?_,?_⟩ IX ((e2.trans sm).trans eS) ⟨λq=>if q=s₂.heap.objs.size then some []else τt q,λq z hz=>?_,.lst ⟨bg,by simp⟩ (aD.map (q:=[]) (q':=[]) (λ_ _ h=>aX.same eS h) (λc p ys f h=>?_) rs [] rfl)⟩
    · obtain⟨v,z⟩:=I2.cell x c e
      exact aai (aap z.lt)
    · exact aai (aap (aag (I2.pin p hp).1))
    · rw[bw Su];exact I1.free
    · by_cases vv:q=s₂.heap.objs.size
      · rw[vv];exact e2.free (sm.free nD)
      · simp only[vv,if_false]at hz;exact e2.free (fr q z hz)
    · have h':=nd.same eS h
      have Vb:∀p,gP X' F' p->jw (gP X F) τ (caps++dw es) p:=λp hp=>hp.elim id λz=>⟨.inr (vX.same.free z),λc i e=>absurd z (vX.th p _ e)⟩
      cases f with
      |ow =>
        have vv:p≠s₂.heap.objs.size:=by
          intro z;subst z;exact h.1.ne nD
        refine⟨h'.1,?_⟩;show(if p=s₂.heap.objs.size then some []else τt p)=_;rw[if_neg vv];exact h'.2
      |fz=>exact⟨h'.1,h'.2.2⟩
      |al=>exact⟨h'.1,Vb p h'.2.1⟩
      |sc=>exact h'
  have Xk:∀(P:ak) (ρ1:bo) (b:Bool) (σ2:St) (H5:Hp) (s6:Shared),ip Φ bI ρ1=ok b->Inv X' P σ2 H5 s6->SI X' F' R' (λ_=>none) ρ1 σ2 H5 ->
      wpAny (model X.prog X.w) X.A (forIn ifs true λc r=>if r=true then do let ok <- isTrue c X'.env (eval c X'.env);pure (ForInStep.yield ok)else pure (ForInStep.yield r)) (λSl s7=>Sl=b/\∃H7,Inv X' P σ2 H7 s7/\aI H5 H7) (λ_ _=>False) s6:=by
    intro P ρ1 b σ2 H5 s6 eb I6 S6;rcases hC with ⟨rfl,rfl⟩|⟨c,e,rfl,rfl,hPT⟩
    · rw[ip]at eb;cases eb
      exact wpAny_tests_nil ⟨rfl,H5,I6,aI.refl _⟩
    · rw[ip]at eb
      obtain⟨b',Zi,eb⟩:=aB eb;have hb:b'=b:=by
        cases b' with
        |true=>rw[if_pos rfl,ip]at eb;cases eb;rfl
        |false=>rw[if_neg (by simp)]at eb;cases eb;rfl
      subst hb;refine wpAny_tests_one (aaB (hPT X' F' L' P s6 σ2 H5 (λWZ H7=>WZ=b'/\aI H5 H7) I6 ⟨R',_,ρ1,b',S6,Zi,λH7 e7=>⟨rfl,e7⟩⟩) (λWZ s7 ⟨H7,I7,hb,e7⟩=>⟨hb,H7,I7,e7⟩) λ_ _ e=>e)
  have loop:∀tk,codeAny (model X.prog X.w) X.A (.compLoop (.ListComp jl [⟨target,iter,ifs,0⟩] sc pos) 0 (.ref it) (.ref s₂.heap.objs.size) X'.env)
      (compPost (model X.prog X.w) X.A X.xe use Post (.ref s₂.heap.objs.size) (s₂.heap.objs.size+1)) { s₂ with heap:=h₁,toks:=tk }:=by
    intro tk;refine rm (ZV X X' F' R' n (bK n caps ρ) (oH n caps σ) fp tn H2 s₂.heap.objs.size items (λd=>cu t d (bK n caps ρ)) (λρ'=>ip Φ bI ρ') (λρ'=>aW Φ elt ρ') ds) ?_ items.length
      ⟨0,[],[],0,oH n caps σ,H2,[],ds,rfl,aaH _,I4 tk,T.keep _ _ _ MT (λb _ o e=>old b o e),λb hb=>(f2 b hb).1,.nil,aI.refl _,S4,.nil,by rw[List.drop_zero];exact Lh,rfl⟩
    rintro m s' ⟨i,vs,aL,nn,σ',H',dn,rest,hm,hi,I',mM,fr',rv,sm,iz,EI,fM,eall⟩;have KO:∀b∈fp,oj X' [(s₂.heap.objs.size,fg aL nn)] H' b:=λb hb=>⟨fr' b hb,(F0 b hb).1,(F0 b hb).2.1,(F0 b hb).2.2.1,(F0 b hb).2.2.2,λp hp=>by
      have xn:p=(s₂.heap.objs.size,fg aL nn):=by simpa [X',eM]using hp
      rw[xn];exact(OV b hb).symm⟩
    by_cases ig:i<items.length
    · refine aaB (T.item X' rfl rfl rfl L.calm i _ s' σ' H' (λ_ _=>False) I' KO mM (yl.go i H' sm ig)) (λr s1 h4=>?_) λ_ _ e=>e
      obtain⟨u,hr,h4⟩:=h4;subst hr;refine aaB h4 (λ_ s5 h5=>?_) λ_ _ e=>e;obtain⟨x,H5,I5,r5,y5,IH,UA⟩:=h5;obtain⟨e5,dd,hd,rd⟩:=yl.uD i H' x H5 sm ig y5;have Vi:=I5.pinned (fp:=fp) (λb hb=>⟨UA b hb,(KO b hb).2⟩) (T.obj _ _ IH);have tT:items.drop i=dd::items.drop (i+1):=by
        rw[List.drop_eq_getElem_cons ig];rw[List.getElem?_eq_getElem ig]at hd;cases hd;rfl
      rw[tT,iq]at fM;obtain⟨ρ1,eb,fM⟩:=aB fM;obtain⟨bb,et,fM⟩:=aB fM;refine aaB (hg _ s5 σ' H5 x u (λσ2 H6=>H6=H5/\σ2.length=σ'.length/\(∀j,n<=j->σ2[j]?=σ'[j]?)/\SI X' F' R' (λ_=>none) ρ1 σ2 H5) Vi r5
        (Cc F' R' x dd σ' H5 _ (bK n caps ρ) ρ1 (iz.go e5) rd (OK dd (aay hd)) eb λσ2 g1 g2 g3=>⟨rfl,g1,g2,g3⟩)) (λ_ s6 h6=>?_) λ_ _ e=>e
      obtain⟨σ2,H6,I6,rfl,g1,g2,S6⟩:=h6;refine aaB (Xk _ ρ1 bb σ2 H6 s6 et I6 S6) (λSl s7 h7=>?_) λ_ _ e=>e;obtain⟨rfl,H7,I7,e7⟩:=h7;have Rv:∀{P:ak} {σ3:St} {H8:Hp} {s8:Shared},Inv X' (P++iG fp s5.heap) σ3 H8 s8->tn (i+1) s8.heap/\∀b∈fp,H8 b=none:=λ{P σ3 H8 s8} I8 =>
        ⟨T.keep _ _ _ IH λb hb o e=>(I8.pin (b,o) (aal _ (aal _ (gR hb e)))).1,λb hb=>by
          obtain⟨o,e,_⟩:=T.obj _ _ IH b hb;exact(I8.pin (b,o) (aal _ (aal _ (gR hb e)))).2.1⟩
      have HK:∀{H8:Hp},aI H7 H8->SI X' F' R' (λ_=>none) (bK n caps ρ) σ2 H8:=λ{H8} e8=>(iz.go ((e5.trans e7).trans e8)).sig g1 λj d hj=>g2 j (vt hj);cases Sl with
      |false =>
        rw[if_neg (by simp)]at fM ⊢;exact⟨items.length - (i+1),by left,i+1,vs,aL,nn,σ2,H7,dn,rest,rfl,ig,I7.j3,(Rv I7).1,(Rv I7).2,rv,(sm.trans e5).trans e7,HK (aI.refl _),EI.go (e5.trans e7),fM,eall⟩
      |true =>
        rw[if_pos rfl]at fM ⊢;obtain⟨y,ey,fM⟩:=aB fM;obtain⟨ys,kU,fM⟩:=aB fM;cases fM;refine aaB (hE X' F' L' _ s7 σ2 H7 (λv H8=>aI H7 H8/\bR X.K (gP X' F') R' (λ_=>none) [] H7 H8 v y) I7 ⟨R',_,ρ1,y,S6.go e7,ey,λv H8 e8 r8=>⟨e8,?_⟩⟩) (λu8 s8 h8=>?_) λ_ _ e=>e
        · obtain⟨τt,fr,rr⟩:=r8
          exact⟨τt,fr,rr.imp (q:=[]) (q':=[]) (λ_ _ h=>h) λc p ys f h=>h.mono id (λh=>⟨h.1,λ_ _ e=>by cases e⟩) id⟩
        · obtain⟨v8,H8,I8,XN,e8,r8⟩:=h8
          obtain⟨pD,nD,_,_,_⟩:=I8.pin (s₂.heap.objs.size,fg aL nn) (aal _ (aaD _ aae));have hlen:aL.length<=1000000:=by
            obtain⟨_,_,rr⟩:=EI;have h1:dn.length<=ds.length:=by rw[<- eall,List.length_append];left
            have hc:fY=1000000:=rfl;rw[<- rv.length,rr.length];left
          have hz:sizeLine=16777216:=abf;refine call_meets PySem.F.slot_list_append ⟨_,pD,rfl⟩ PySem.F.entry_list_append (PySem.F.args_list_append_2 _ _) (PySem.list_append s₂.heap.objs.size aL.toArray nn u8 (by rw[List.size_toArray];left)) ⟨pD,?_⟩;have q:=PySem.IsL.update pD (λx=>x.push u8);have OD:aL.toArray.push u8=(aL++[u8]).toArray:=by simp
          rw[OD]at q;obtain⟨QU,q'⟩:∃QU,(s8.heap.update s₂.heap.objs.size (Obj.mapSeq λx=>x.push u8)).get? s₂.heap.objs.size=some (fg (aL++[u8]) QU):=⟨_,q⟩
          have ZG:Inv X' (iG fp s5.heap) σ2 H8 s8:=I8.ja λp hp=>I8.pin p (aal _ (aal _ hp));have W5:Inv X' (iG fp s5.heap) σ2 H8 { s8 with heap:=s8.heap.update s₂.heap.objs.size (Obj.mapSeq λx=>x.push u8),toks:=s8.toks } :=
            ZG.turned (it:=s₂.heap.objs.size) (λb o hb e=>(aaE s8.heap (Obj.mapSeq λx=>x.push u8) (abj hb)).trans e) nD Q4 (.inr (aah _)) Ks λp hp=>by
              have xn:p∈iG fp s5.heap:=by simpa [X',eM]using hp
              exact OV p.1 (pk xn).1
          have kp:=Rv (P:=[]) (by rw[List.nil_append];exact W5);refine⟨items.length - (i+1),by left,i+1,vs++[v8],aL++[u8],QU,σ2,H8,dn++[y],ys,rfl,ig,W5.ja (λp hp=>?_),kp.1,kp.2,rv.append (.cons XN .nil),((sm.trans e5).trans e7).trans e8,HK e8,cz.snoc ((sm.trans e5).trans e7) e8 (EI.go (e5.trans e7)) r8,kU,by rw[List.append_assoc];exact eall⟩;have xn:p=(s₂.heap.objs.size,fg (aL++[u8]) QU):=by simpa using hp
          rw[xn];exact⟨q',nD,Q4,Uc,λv z=>by cases z⟩
    · refine aaB (T.done X' rfl rfl rfl L.calm i _ s' σ' H' (λ_ _=>False) I' KO mM (yl.stop i H' sm (by left))) (λr s1 h1=>?_) λ_ _ e=>e
      obtain⟨hr,I1⟩:=h1;subst hr;have Tu:items.drop i=[]:=List.drop_eq_nil_of_le (by left);rw[Tu,iq]at fM;cases fM;rw[List.append_nil]at eall;subst eall;exact fin vs aL nn σ' H' s1 I1 rv sm EI
  have key:=λtk=>codeAny_compStart_list (loop tk) (T.self X.A 0 _ _ _ (T.keep _ _ _ MT λb _ o e=>old b o e) (loop tk));rw[WC];exact key _
theorem EB(L:Lk X S k Φ){n:Nat}{t:Tg}{ik:IK}{ifs:aj}{sc:Scope}(co:jV S n t caps target sc)(zI:pq iter=true)
  (hE:∀(X':Cx) (F':ah),Lk X' (S.inner target caps sc) k Φ->PE X' jl (tD X' F' Φ elt))
  (hC:(bI=[]/\ifs=[])\/∃c e,bI=[c]/\ifs=[e]/\∀(X':Cx) (F':ah),Lk X' (S.inner target caps sc) k Φ->PT X' e (fA X' F' Φ c))
  (hI:∀(pins:ak) (s:Shared) (σ:St) (H:Hp) (R:ah) (τ:Addr->Option bt) (ρ:bo) (xs items:ab),Inv X pins σ H s->SI X F R τ ρ σ H->cP Φ es ρ=ok xs->eK Φ ik xs=ok items->∀Rr:It->Hp->Prop,
   (∀J H2,aI H H2->Yl X.K J (kM X F τ (caps++dw es) H2) H2 items->Rr J H2)->wpAny (model X.prog X.w) X.A (eval iter X.env) (λv s1=>wpAny (model X.prog X.w) X.A (pyIter v) (DB X pins σ target Rr) X.xe s1) X.xe s) :
  PE X (.ListComp jl [⟨target,iter,ifs,0⟩] sc pos) (tD X F Φ (.comp n t caps ik es bI elt)):=by
 intro pins s σ H Q I hq;obtain⟨R,τ,ρ,d,Si,ev,hq⟩:=hq;rw[eval_ListComp];refine uh L co zI hE hC hI (use:=none) (Post:=EP X pins σ Q) I Si ev λacc C H1 s1 m hn _ IX sm rt=>?_;exact⟨m,hn,λh' B5=>⟨.ref acc,H1,IX h' B5,rfl,hq _ _ sm rt⟩⟩
end
section
variable {X:Cx}{pins:ak}{s:Shared}{σ:L2.St}{H:Hp}
theorem tJ{A:aG}{E:az}{l:Addr}{items:aR}{Q:az}{s:Shared}(hl:s.heap.IsList l items)
  (h:∀s₂:Shared,s₂={ s with heap:=s.heap.push { cls:=.type "list_iterator",data:=.fields #[.ref l,.int 0 0] } }->s₂.heap.IsListIter s.heap.objs.size l 0/\s₂.heap.IsList l items->(∀b∈[s.heap.objs.size,l],b<s₂.heap.objs.size)->l≠s.heap.objs.size->Q (.ref s.heap.objs.size) s₂) :
  wpAny (model prog w) A (pyIter (.ref l)) Q E s:=by
 have ig:l<s.heap.objs.size:=by obtain⟨_,e,_⟩:=hl;exact aag e
 refine acf hl (h _ rfl ⟨⟨_,aaj _ rfl,rfl,rfl⟩,hl.push _⟩ (λb hb=>?_) (aai ig));have hz:(s.heap.push { cls:=.type "list_iterator",data:=.fields #[.ref l,.int 0 0] }).objs.size=s.heap.objs.size+1:=aby ..;have lV:b=s.heap.objs.size\/b=l:=by simpa using hb
 show b<_;rw[hz];rcases lV with e|e
 ·rw[e];exact aaL _
 ·rw[e];exact aap ig
theorem tG{h':Heap}{o₀:Obj}{s:Shared}(hk:∀b o,b∉[s.heap.objs.size]->(s.heap.push o₀).get? b=some o->h'.get? b=some o):∀b o,s.heap.get? b=some o->h'.get? b=some o:=λb o e =>
 hk b o (λhm=>absurd ((by simpa using hm:b=s.heap.objs.size)▸aag e) (aaw _)) (aac _ e)
theorem cI{a:Addr}{aL:aR}(p:PlainL h a aL):h.IsList a aL:=let ⟨o,n,h1,h2,_,h4⟩:=p;⟨o,h1,h2,n,h4⟩
theorem lu(val:Nat->Int)(ns:aa)(hv:∀i,val i=ns.getD i 0):∀k,k<=ns.length->preSum val k=(ns.take k).sum
 |0,_=>by simp[preSum]
 |k+1,h=>by
  have hk:k<ns.length:=by left
  rw[preSum,lu val ns hv k (by left),hv k,List.take_add_one,List.sum_append];simp[List.getD,hk]
theorem zh(hc:X.calm=true):gI X (.builtin "sum") (λxs H Q=>∃(p:Addr) (ns:aa),xs=[.ref p]/\dq X.K H p (ns.map V.int)/\Q (.int ns.sum) H):=by
 intro pins s σ H xs us Q I r h;obtain⟨p,ns,rfl,hq,q⟩:=h;obtain⟨u,rfl,ru⟩:=r.one;cases ru;obtain⟨aL,rv,pl,hz⟩:=I.list hq;have hlen:aL.length=ns.length:=by have:=rv.length;simpa using this.symm
 refine call_sum_walkG (tJ (cI pl) λs₂ e st F1 TC=>?_);subst e;refine⟨_,_,_,_,_,_,λi=>ns.getD i 0,rfl,Walks.list (A:=X.A.in1) (I.ok.hd hc) _ p TC aL.toArray,st,F1,λi v hP=>?_,λh' tk t' hk=>?_⟩
 ·have hv:aL[i]?=some v:=by simpa using hP
  have hi:i<aL.length:=by
   by_cases z:i<aL.length
   ·exact z
   ·rw[List.getElem?_eq_none (by left)]at hv;cases hv
  have hn:(ns.map V.int)[i]?=some (.int (ns.getD i 0)):=by
   rw[List.getElem?_map,List.getElem?_eq_getElem (by left)];simp[List.getD,show i<ns.length by left]
  obtain⟨u,hu,ru⟩:=rv.get hn;rw[hv]at hu;cases hu;exact ru
 ·refine⟨.int ns.sum,H,I.kept (t':=tk) (tG hk),⟨t',?_⟩,q⟩;have hz:preSum (λi=>ns.getD i 0) aL.toArray.size=ns.sum:=by
   rw[List.size_toArray,hlen,lu _ ns (λ_=>rfl) _ (Nat.le_refl _),List.take_length]
  rw[hz]
theorem range_all{α:Type}(l:List α)(f:α->Bool)(tr:Nat->Bool)(h:∀i a,l[i]?=some a->tr i=f a):(List.range l.length).all tr=l.all f:=by
 rw[Bool.eq_iff_iff,List.all_eq_true,List.all_eq_true];constructor
 ·intro z a ha;obtain⟨i,hi,e⟩:=List.mem_iff_getElem.mp ha;have:=z i (List.mem_range.mpr hi);rw[h i a (by rw[List.getElem?_eq_getElem hi,e])]at this;exact this
 ·intro z i hi;have hi:=List.mem_range.mp hi;rw[h i l[i] (List.getElem?_eq_getElem hi)];exact z _ (aaP hi)
theorem zk(hc:X.calm=true):gI X (.builtin "all") (λxs H Q=>∃(p:Addr) (bs:List Bool),xs=[.ref p]/\dq X.K H p (bs.map V.bl)/\Q (.bl (bs.all id)) H):=by
 intro pins s σ H xs us Q I r h;obtain⟨p,bs,rfl,hq,q⟩:=h;obtain⟨u,rfl,ru⟩:=r.one;cases ru;obtain⟨aL,rv,pl,hz⟩:=I.list hq;have hlen:aL.length=bs.length:=by have:=rv.length;simpa using this.symm
 refine call_all_walk (tJ (cI pl) λs₂ e st F1 TC=>?_);subst e;refine⟨_,_,_,_,_,_,λi=>bs.getD i false,rfl,Walks.list (A:=X.A.in1) (I.ok.hd hc) _ p TC aL.toArray,st,λi v s' Q' E' hP hQ=>?_,λh' tk hk=>?_⟩
 ·have hv:aL[i]?=some v:=by simpa using hP
  have hi:i<aL.length:=by
   by_cases z:i<aL.length
   ·exact z
   ·rw[List.getElem?_eq_none (by left)]at hv;cases hv
  have hn:(bs.map V.bl)[i]?=some (.bl (bs.getD i false)):=by
   rw[List.getElem?_map,List.getElem?_eq_getElem (by left)];simp[List.getD,show i<bs.length by left]
  obtain⟨u,hu,ru⟩:=rv.get hn;rw[hv]at hu;cases hu;cases ru;exact aaT hQ
 ·refine⟨.bl (bs.all id),H,I.kept (t':=tk) (tG hk),?_,q⟩;show Value.bool _=Value.bool _;rw[List.size_toArray,hlen,range_all bs id _ λi a e=>by simp[List.getD,e]]
end
variable {ns:aa}
section
variable {prog:aF}{w:World}{A:aG}{E:az}{s:Shared}
theorem n4{l:Addr}{vs:aq}{Q:aq->Shared->Prop}{o:Obj}{n:Nat}(ho:s.heap.get? l=some o)(hc:o.cls=.type "tuple")(hd:o.data=.seq vs.toArray n)
  (h:Q vs { s with heap:=(s.heap.push (seqObj "list" #[] 0)).update s.heap.objs.size (Obj.mapSeq (· ++ vs.toArray)) }) (hsz:vs.length<=sizeLine):wpAny (model prog w) A (collect (.ref l)) Q E s:=by
 unfold collect;refine Z_ (ab4 (aaJ entry_proto_collect' ?_));show wpAny _ _ (newList [] >>= λz=>again (.builtin "list.__iadd__" ⟨[z,.ref l],[]⟩)) _ _ s;refine Z_ (abK (aaa ⟨ab9 _ (by decide +kernel),aaJ entry_list_iadd' ?_⟩));have z1:(s.heap.push (seqObj "list" #[] 0)).get? l=some o:=aac _ ho;have z2:(s.heap.push (seqObj "list" #[] 0)).get? s.heap.objs.size=some (seqObj "list" #[] 0):=aaj _ rfl;show wpAny _ _ (Builtin.List.listExtendWith (.ref s.heap.objs.size) (.ref l) (.ref s.heap.objs.size)) _ _ ({ s with heap:=s.heap.push (seqObj "list" #[] 0) }:Shared);unfold Builtin.List.listExtendWith;refine Z_ (abl (T:="tuple") ⟨o,z1,hc⟩ ?_);rw[aaO (by rw[show(Value.type "tuple" == Value.type "tuple")=true from rfl,Bool.or_true])];refine Z_ (listItems_at z1 hd (Z_ (listItems_at z2 rfl ?_)));rw[if_neg (by simp)];refine Z_ (listUpdate_at z2 rfl ?_ (aaH _) (by
  show(#[]++vs.toArray).size<=sizeLine+1;rw[Array.size_append,List.size_toArray];exact abD (by simpa using hsz)))
 refine aaa ?_;show wpAny (model prog w) A (load s.heap.objs.size >>= λo=>match o.data with
   |.seq xs _=>pure xs.toList
   |_=>unsupported "internal:collect") Q E ({ s with heap:=(s.heap.push (seqObj "list" #[] 0)).update s.heap.objs.size (Obj.mapSeq (· ++ vs.toArray)) }:Shared)
 refine Z_ (wpAny_load (get?_update_seq z2 _) ?_);show wpAny _ _ (pure ((#[]:aR)++vs.toArray).toList) Q E _;rw[show((#[]:aR)++vs.toArray).toList=vs by simp];exact aaa h
theorem oG{l:Addr}{vs:aq}{Q:az}{o:Obj}{n:Nat}(ho:s.heap.get? l=some o)(hc:o.cls=.type "tuple")(hd:o.data=.seq vs.toArray n)(hI:IntsAre vs ns)(rW:vs.length<64)
  (h:∀(out:aR) (ic:aa),IntsAre out.toList ic->ic.Perm ns->ic.Pairwise (· <= ·)->Q (.ref (s.heap.objs.size+1)) { s with heap:=sortedAll s.heap vs out }):wpAny (model prog w) A (call (.builtin "sorted") [.ref l]) Q E s:=by
 refine abr kind_sorted plain_sorted entry_sorted (args_sorted1 _) ?_;unfold Builtin.«sorted»;have hz:vs.length<=sizeLine:=by rw[sizeLine_eq];left
 refine Z_ (m:=checkCount "sorted" 1 1 _) (aaa (Z_ (n4 ho hc hd (Z_ (abK ?_)) hz)));have e1:((s.heap.push (seqObj "list" #[] 0)).update s.heap.objs.size (Obj.mapSeq (· ++ vs.toArray))).objs.size=s.heap.objs.size+1:=by rw[Heap.size_update,size_push']
 have e2:(((s.heap.push (seqObj "list" #[] 0)).update s.heap.objs.size (Obj.mapSeq (· ++ vs.toArray))).push (seqObj "list" vs.toArray 0)).get? (s.heap.objs.size+1)=some (seqObj "list" vs.toArray 0):=by
  rw[<- e1];exact aaj _ rfl
 show wpAny _ _ _ _ _ ({ s with heap:=((s.heap.push (seqObj "list" #[] 0)).update s.heap.objs.size (Obj.mapSeq (· ++ vs.toArray))).push (seqObj "list" vs.toArray 0) }:Shared);rw[e1];refine Z_ (aax (aau slot_list_sort ⟨_,e2,rfl⟩ entry_list_sort (list_sort_tree e2 hI rW λout ic a1 a2 a3=>⟨_,rfl,aaa ⟨_,rfl,h out ic a1 a2 a3⟩⟩) (args_list_sort _)))
end
theorem sortI_perm(ns:aa):(sortI ns).Perm ns:=aaW ..
theorem mQ(ns:aa):(sortI ns).Pairwise (· <= ·):=by
 have:=abC (le:=λa b:Int=>decide (a<=b)) (by intro a b c;simp;left) (by intro a b;simp;left) ns;unfold sortI;simpa using this
theorem di:∀{vs:aq} {ns:aa},Vals (ns.map V.int) vs->IntsAre vs ns
 |_,[],h=>by cases h;exact .nil
 |_,n::ns,h=>by
  cases h with
  |cons r t=>obtain⟨tk,rfl⟩:=r;exact .cons n tk (di t)
theorem rB:gI X (.builtin "sorted") (λxs H Q=>∃(p:Addr) (ns:aa),xs=[.ref p]/\(dq X.K H p (ns.map V.int)\/aX X.K H p (ns.map V.int))/\ns.length<64/\∀l,H l=none->Q (.ref l) (upd H l (.lst ((sortI ns).map V.int)))):=by
 intro pins s σ H xs us Q I r h;obtain⟨p,ns,rfl,hq,rW,q⟩:=h;obtain⟨u,rfl,ru⟩:=r.one;cases ru;have fin:∀(vs:aq) (out:aR) (ic:aa),IntsAre out.toList ic->ic.Perm ns->ic.Pairwise (· <= ·)->EP X pins σ Q (.ref (s.heap.objs.size+1)) { s with heap:=sortedAll s.heap vs out }:=by
  intro vs out ic h1 h2 h3;obtain rfl:ic=sortI ns:=PySem.W.ksm_same (h2.trans (sortI_perm ns).symm) h3 (mQ ns);obtain⟨e,he⟩:=sortedAll_at s.heap vs out;have hn:H (s.heap.objs.size+1)=none:=I.du.fresh (aaS _);refine⟨.ref (s.heap.objs.size+1),upd H (s.heap.objs.size+1) (.lst ((sortI ns).map V.int)),I.laid (t':=s.toks) (λb u z=>sortedAll_old z) (aaS _) ⟨?_,out.toList,e,i4 h1,by simpa using he⟩,rfl,q _ hn⟩;rw[List.length_map,(sortI_perm ns).length_eq,sizeLine_eq];left
 rcases hq with hq|hq
 ·obtain⟨aL,rv,pl,hz⟩:=I.list hq;have hl:aL.length<64:=by rw[<- rv.length];simpa using rW
  exact sorted_ints (cI pl) (di rv) hl λout ic h1 h2 h3=>fin aL out ic h1 h2 h3
 ·obtain⟨aL,rv,⟨o,ho,hc,n,hd⟩,hz⟩:=I.tuple hq;have hl:aL.length<64:=by rw[<- rv.length];simpa using rW
  exact oG ho hc hd (di rv) hl λout ic h1 h2 h3=>fin aL out ic h1 h2 h3
theorem Ac:isSubtype (.type "tuple") (.type "set")=pure false:=by rw[isSubtype_type];kernel_rfl
theorem sf:isSubtype (.type "tuple") (.type "frozenset")=pure false:=by rw[isSubtype_type];kernel_rfl
noncomputable abbrev lP(led:Bool):Obj:={ cls:=.type "set",dict:=none,data:=.set #[] 0 (.fresh 0 0 led) }
noncomputable abbrev dist(ns:aa):aa:=firstMet (λi=>ns.getD i 0) ns.length
section
variable {prog:aF}{w:World}{A:aG}{E:az}{s:Shared}
theorem uY{l:Addr}{aL:aq}{Q:az}(hh:A.handled=none)(hl:s.heap.IsTuple l aL.toArray)(hi:IntsAre aL ns)(hb:aL.length+1<scanBound)
  (h:∀(h':Heap) (tk:Nat),h'.SetOf (intKind prog w) s.heap.objs.size (λk=>(dist ns).any (· == k)) (dist ns).length->(∀b o,b<s.heap.objs.size->s.heap.get? b=some o->h'.get? b=some o)->Q (.ref s.heap.objs.size) { s with heap:=h',toks:=tk }) :
  wpAny (model prog w) A (call (.type "set") [.ref l]) Q E s:=by
 have Tt:aL.length=ns.length:=hi.length;obtain⟨c,tl,k1⟩:=F.called_set.mro;have k2:=F.called_set.made;have k3:=F.called_set.sub;have k4:=F.called_set.notType;have k5:=F.called_set.canCreate;have k6:=F.typeCall_set_1 (.ref l);refine wpAny_call (codeAny_of_tree (show wpAny _ _ (callAny (.type "set") _) _ _ _ from aaa ⟨ab9 _ (by decide +kernel),aaJ F.entry_type_call ?_⟩));rw[Around.under_plain (weight_type_call_type "set" [.ref l] []) rfl]
 repeat (any_goals (first|assumption|wp_step))
 refine abk (code_set_new_1 (.ref l) (E:=E) (Q₁:=λz s₁=>∃led:Bool,z=.ref s.heap.objs.size/\s₁={ s with heap:=s.heap.push (lP led) }) λled=>⟨led,rfl,rfl⟩) λr s₁ hr=>?_;cases r with
 |error e=>exact hr
 |ok fl =>
  cases fl with
  |next=>exact hr.elim
  |brk=>exact hr.elim
  |cont=>exact hr.elim
  |ret z =>
   obtain⟨led,rfl,rfl⟩:=hr;have g1:(s.heap.push (lP led)).get? s.heap.objs.size=some (lP led):=aaj _ rfl;have g2:Shared.TypeIs { s with heap:=s.heap.push (lP led) } (.ref s.heap.objs.size) "set":=⟨_,g1,rfl⟩
   have g3:=F.called_set.init.lookup;have g4:=F.called_set.init.bind (.ref s.heap.objs.size)
   repeat (any_goals (first|assumption|wp_step))
   refine abk (codeAny_call_builtin (R:=wants (λr s₂=>r=.none/\∃h' tk,s₂={ s with heap:=h',toks:=tk }/\h'.SetOf (intKind prog w) s.heap.objs.size (λk=>(dist ns).any (· == k)) (dist ns).length/\∀b o,b<s.heap.objs.size->s.heap.get? b=some o->h'.get? b=some o) E) F.called_set.init.plain F.entry_set_init (check_set_init_1 g2 ?_)) λr₂ s₂ iQ=>?_
   ·obtain⟨ot,FV,O2,nt,F2⟩:=hl;obtain⟨oc,od,X2,zE⟩:=ot;simp only at O2 F2;subst O2;subst F2;have u1:(s.heap.push (lP led)).get? l=some { cls:=.type "tuple",dict:=od,data:=.seq aL.toArray nt,slots:=zE }:=aac _ FV;have u2:=Ac;have u3:=sf;have u4:(Value.type "tuple" == Value.type "dict")=false:=by decide
    have u5:(s.heap.push (lP led)).IsTuple l aL.toArray:=⟨_,u1,rfl,nt,rfl⟩
    unfold Builtin.«set.__init__» noKeywords Builtin.Frozenset.updateFrom;generalize T_:pyIter=PI
    wp_walk
    subst T_;refine wpAny_pyIter_tuple u5 (Z_ (ab4 ?_));have u6:l<s.heap.objs.size:=aag FV;have u7:A.in1.in1.in1.handled=none:=by simp[hh]
    have hz:(s.heap.push (lP led)).objs.size=s.heap.objs.size+1:=aby ..;have u8:l≠(s.heap.push (lP led)).objs.size:=by rw[hz];exact aai (aap u6)
    have u9:s.heap.objs.size∉[(s.heap.push (lP led)).objs.size,l]:=by
     rw[hz];intro m;simp at m;exact absurd m (aaq u6)
    have v1:∀(i:Nat) (v:Value),aL.toArray[i]?=some v->∃t,v=.int ((λi=>ns.getD i 0) i) t:=λi v hv=>hi.int_at i v (by simpa using hv);refine codeAny_set_update_loopS ((Walks.tuple u7 _ l u8 aL.toArray).toS) s.heap.objs.size u9 (λi=>ns.getD i 0) v1 (by rw[List.size_toArray];exact hb) (aL.toArray.size - 0) 0 _ (by left) (aaH _) ⟨⟨_,aaj _ rfl,rfl,rfl⟩,u5.push _⟩ ?hS0 ?hR
    case hS0 =>
     have y1:((s.heap.push (lP led)).push { cls:=.type "tuple_iterator",data:=.fields #[.ref l,.int 0 0] }).get? s.heap.objs.size=some (lP led):=aac _ g1;exact SetOf_congr ((setObjOf_fresh (knd:=intKind prog w) led).setOf y1 (by unfold scanBound;left)) (λ_=>rfl) rfl
    case hR =>
     intro s' hm rV;obtain⟨h',g',d',MG,NH⟩:=s';cases (show g'=s.gens from hm.gens);cases (show d'=s.drawn from hm.drawn);cases (show NH=s.os from hm.os);have rV:h'.SetOf (intKind prog w) s.heap.objs.size (λk=>(dist ns).any (· == k)) (dist ns).length:=by
      have e:aL.toArray.size=ns.length:=by rw[List.size_toArray,Tt]
      rw[e]at rV;exact rV
     refine aaa (show wpAny _ _ (ret Value.none) _ _ _ from aaa ⟨rfl,h',MG,rfl,rV,λb o hb e=>hm.heap b o (λm=>?_) (aac _ (aac _ e))⟩);rcases List.mem_cons.mp m with m|m
     ·exact aai hb m
     ·have m:b=(s.heap.push (lP led)).objs.size:=by simpa using m
      rw[hz]at m;exact aai (aap hb) m
   ·cases r₂ with
    |error e=>exact iQ
    |ok Cy =>
     cases Cy with
     |ret r =>
      obtain⟨rfl,h',tk,rfl,rV,B9⟩:=iQ
      repeat (any_goals (first|assumption|wp_step))
      exact h _ _ rV B9
     |next=>exact iQ.elim
     |brk=>exact iQ.elim
     |cont=>exact iQ.elim
end
theorem nU(ns:aa):dist ns=eB ns:=by
 unfold dist firstMet eB;have e:(List.range ns.length).map (λi=>ns.getD i 0)=ns:=by
  refine abp (by simp) λi h1 h2=>?_;simp at h1;simp[h1]
 rw[e];rfl
def XR(K:ao):af->Hp->VK->Prop:=λxs H Q=>∃(p:Addr) (ns:aa),xs=[.ref p]/\aX K H p (ns.map V.int)/\ns.length<4000/\Q (.int (eB ns).length) H
theorem boot_set:bootBuiltins ("set" : Str)=some (.type "set"):=by decide +kernel
theorem EY{e:Expr}{t:TA}{p:Pos}(hc:X.calm=true)(OT:Gl X ("len" : Str))(Tx:X.mg ("len" : Str)=none)(TK:Gl X ("set" : Str))(OL:X.mg ("set" : Str)=none)(ha:PA X [e] t)
  (oy:∀es,starEach (e::es) X.env=(false,eval e X.env)::starEach es X.env):PE X (.Call (.Name ("len" : Str) p) [.Call (.Name ("set" : Str) p') [e] [] pos'] [] pos) (LL (XR X.K) t):=by
 intro pins s σ H Q I h;refine aaK (dW I OT Tx PySem.boot_len ?_ (by decide) (by decide));refine abb ?_ rfl rfl;show wpAny _ _ (spliced ((false,eval (.Call (.Name ("set" : Str) p') [e] [] pos') X.env)::[])) _ _ s;refine aba ?_;refine aaK (dW I TK OL boot_set ?_ (by decide) (by decide));refine aat (dv (ha pos' pins s σ H _ I h) λus s1 bP=>?_) (oy _) rfl;obtain⟨vs,H1,I1,r1,q1⟩:=bP;obtain⟨a,ns,rfl,hq,hl,q⟩:=q1;obtain⟨u,rfl,ru⟩:=r1.one;cases ru;obtain⟨aL,rv,it,hz⟩:=I1.tuple hq;have hle:aL.length=ns.length:=by rw[<- rv.length];simp
 refine uY (I1.ok.hd hc) it (di rv) (by unfold scanBound;left) λh' tk hS kp=>abi ?_;rw[nU]at hS;obtain⟨o,es,ep,tb,g1,g2,g3,_,_,g6,g7,g8⟩:=hS;refine call_len_set g1 g2 g3 g7 (by unfold scanBound at g6;omega) ?_;exact⟨.int (eB ns).length,H1,I1.kept (t':=tk+1+1) λb u z=>kp b u (aag z) z,⟨_,by rw[g8]⟩,q⟩
variable {args elts:aj}
section
variable {X:Cx}{S:Sx}{k:Nat}{F:ah}{Φ:aY}
theorem Lk.Vw(L:Lk X S k Φ):X.A.units+40<cLine:=by have:=L.room.units;left
def QI(K:ao)(neg:Bool):R2:=λv u H Q=>∃(d d':D) (N N':iA) (k k':bt),Rep (aX K H) N k v d/\Rep (aX K H) N' k' u d'/\(∀q p xs f,N q p (.l xs) f->dq K H p xs)/\(∀q p xs f,N' q p (.l xs) f->dq K H p xs)/\eA 40 d=true/\eA 40 d'=true /\
 Q (.bl (if neg then !kj d d' else kj d d')) H
theorem JK(hu:X.A.units+40<cLine):kD X (compareOp .Eq) (QI X.K false):=by
 intro pins s σ H x y v u Q I rx ry h;obtain⟨d,d',N,N',k,k',r1,r2,n1,n2,o1,o2,q⟩:=h;exact(alike I n1 n2 40 X.A r1 r2 o1 o2 rx ry hu).rc X.prog X.w X.xe _ ⟨.bl _,H,I,rfl,q⟩
theorem JI(hu:X.A.units+40<cLine):kD X (compareOp .NotEq) (QI X.K true):=by
 intro pins s σ H x y v u Q I rx ry h;obtain⟨d,d',N,N',k,k',r1,r2,n1,n2,o1,o2,q⟩:=h;exact(alike I n1 n2 40 X.A r1 r2 o1 o2 rx ry hu).ne X.prog X.w X.xe _ ⟨.bl _,H,I,rfl,q⟩
theorem AU{k:bt}{v v':V}{d d':D}(h:Rep T N k v d)(h':Rep T' N' k' v' d')(f:gC d=true)(f':gC d'=true):iT v=true/\Ge v v'=kj d d':=by
 cases h<;>first | (cases f;done) | (cases h'<;>first | (cases f';done)|exact⟨rfl,rfl⟩)
theorem pd{k:bt}{v:V}{d:D}(h:Rep T N k v d)(f:gC d=true):iT v=true:=by
 cases h<;>first | (cases f;done)|rfl
theorem qo{T T':lL}{N N':iA}{k':bt}{v:V}{d:D}(hv:Rep T' N' k' v d)(f:gC d=true):∀{k:bt} {n:Nat} {xs:af} {ds:ab},aD T N k n xs ds->ds.all gC=true->xs.all iT=true/\QV v xs=inD d ds
 |_,_,_,_,.nil,_=>⟨rfl,rfl⟩
 |_,_,_,_,.cons h t,fs=>by
  rw[List.all_cons,Bool.and_eq_true]at fs;obtain⟨h1,h2⟩:=qo hv f t fs.2;obtain⟨g1,g2⟩:=AU h hv fs.1 f;refine⟨by rw[List.all_cons,g1,h1];rfl,?_⟩;unfold QV at h2 ⊢;rw[List.any_cons,g2,h2];rfl
def Jm(K:ao)(op:zR):R2:=match op with
 |.eq=>QI K false
 |.ne=>QI K true
 |.lt=>AZ λi j=>.bl (decide (i<j))
 |.le=>AZ λi j=>.bl (decide (i<=j))
 |.gt=>AZ λi j=>.bl (decide (j<i))
 |.ge=>AZ λi j=>.bl (decide (j<=i))
 |.Kf=>λx y H Q=>y=.bF/\Q (.bl (decide (x=.bF))) H
 |.qy=>λx y H Q=>y=.bF/\Q (.bl (!decide (x=.bF))) H
 |.tM=>VG K false
theorem Bi(L:Lk X S k Φ)(op:zR):kD X (compareOp (Sk op)) (Jm X.K op):=by
 cases op with
 |eq=>exact JK L.Vw
 |ne=>exact JI L.Vw
 |lt=>exact NI
 |le=>exact NJ
 |gt=>exact NK
 |ge=>exact NL
 |Kf=>exact JJ
 |qy=>exact Fg
 |tM=>exact yE
theorem Br{op:CmpOp}{r:Expr}(h:pq r=true):behindInMarks op r=false:=by
 cases r<;>first|rfl | (cases h;done)
theorem mj{op:zR}{x y d:D}(OG:op=.lt\/op=.le\/op=.gt\/op=.ge)(h:dH op x y=ok d):∃i j,x=.int i/\y=.int j:=by
 cases x with
 |int i=>cases y with
  |int j=>exact⟨i,j,rfl,rfl⟩
  |_=>rcases OG with rfl|rfl|rfl|rfl<;>exact nk h
 |_=>rcases OG with rfl|rfl|rfl|rfl<;>exact nk h
theorem uj{op:zR}{a b:CE}(hq:tD X F Φ (.cmp op a b) σ H Q):Ei (Jm X.K op) (tD X F Φ a) (tD X F Φ b) σ H Q:=by
 obtain⟨R,τ,ρ,d,Si,ev,hq⟩:=hq;obtain⟨x,ex,ev⟩:=aB ev;obtain⟨y,ey,ev⟩:=aB ev;refine tD.intro Si ex λv H1 e1 r1=>tD.intro (Si.go e1) ey λu H2 e2 r2=>?_;have e:=e1.trans e2;have rv:=r1.go e2;have ru:=r2;obtain⟨τ1,f1,p1⟩:=rv;obtain⟨τ2,f2,p2⟩:=ru;have sq:∀{A:ah} {τ:Addr->Option bt} (q:bt) (p:Addr) (xs:af) (f:Fl),nd X.K R A τ H2 q p (.l xs) f->dq X.K H2 p xs:=λq p xs f h=>h.sq;cases op with
 |eq =>
  obtain⟨hc,ev⟩:=pz ev
  ·subst ev;rw[Bool.and_eq_true]at hc;exact⟨x,y,_,_,_,_,p1,p2,sq,sq,hc.1,hc.2,hq _ H2 e .bl⟩
 |ne =>
  obtain⟨hc,ev⟩:=pz ev
  ·subst ev;rw[Bool.and_eq_true]at hc;exact⟨x,y,_,_,_,_,p1,p2,sq,sq,hc.1,hc.2,hq _ H2 e .bl⟩
 |lt=>obtain⟨i,j,rfl,rfl⟩:=mj (by simp) ev;cases ev;exact⟨_,_,(r1.go e2).isInt,r2.isInt,hq _ H2 e .bl⟩
 |le=>obtain⟨i,j,rfl,rfl⟩:=mj (by simp) ev;cases ev;exact⟨_,_,(r1.go e2).isInt,r2.isInt,hq _ H2 e .bl⟩
 |gt=>obtain⟨i,j,rfl,rfl⟩:=mj (by simp) ev;cases ev;exact⟨_,_,(r1.go e2).isInt,r2.isInt,hq _ H2 e .bl⟩
 |ge=>obtain⟨i,j,rfl,rfl⟩:=mj (by simp) ev;cases ev;exact⟨_,_,(r1.go e2).isInt,r2.isInt,hq _ H2 e .bl⟩
 |Kf =>
  cases y<;>simp[dH]at ev;cases p2;refine⟨rfl,hq _ H2 e ?_⟩;cases ev;cases p1<;>exact .bl
 |qy =>
  cases y<;>simp[dH]at ev;cases p2;refine⟨rfl,hq _ H2 e ?_⟩;cases ev;cases p1<;>exact .bl
 |tM =>
  simp only[dH]at ev;split at ev
  ·rename_i ds hi;split at ev
   ·rename_i hc;rw[Bool.and_eq_true]at hc;cases ev;cases p2 with
    |tup h rs=>cases hi;obtain⟨g1,g2⟩:=qo p1 hc.1 rs hc.2;exact⟨_,_,rfl,.inr h,pd p1 hc.1,g1,by rw[g2];exact hq _ H2 e .bl⟩
    |lst h rs=>cases hi;obtain⟨g1,g2⟩:=qo p1 hc.1 rs hc.2;exact⟨_,_,rfl,.inl h.sq,pd p1 hc.1,g1,by rw[g2];exact hq _ H2 e .bl⟩
    |_=>cases hi
   ·cases ev
  ·cases ev
theorem Ao{c:CE}{Q:Bool->Hp->Prop}(h:fA X F Φ c σ H Q):tB (tD X F Φ c) σ H Q:=by
 obtain⟨R,τ,ρ,b,Si,ev,hq⟩:=h;unfold uF at ev;obtain⟨d,ed,et⟩:=aB ev;refine tD.intro Si ed λv H' e r=>?_;cases d<;>simp[gL]at et;cases et;exact⟨_,r.yP,hq H' e⟩
theorem cv{c:CE}{e:Expr}(h:PE X e (tD X F Φ c))(he:∀whole,isTrue e X.env whole=(do let v <- whole;standAt e.pos;holding [v] (truthy v))):PT X e (fA X F Φ c) :=
 PT.imp (Jq h he) λ_ _ _ h=>Ao h
theorem yr{op:zR}{a b:CE}{Q:Bool->Hp->Prop}(h:fA X F Φ (.cmp op a b) σ H Q):Hb (Ei (Jm X.K op) (tD X F Φ a) (tD X F Φ b)) σ H Q :=
 uj (Ao h)
theorem dictAt{pins:ak}{s:Shared}{p:Addr}{cs:au}(I:Inv X pins σ H s)(h:H p=some (.ext (DO p cs as xs ep))):∃o,s.heap.get? p=some o/\o.cls=.type "dict":=by
 obtain⟨⟨zs,o,es,_,_,_,ho,hx,_⟩,_⟩:=(show cU H s.heap p (.ext (DO p cs as xs ep)) from I.du p _ h)
 exact⟨o,ho,hx.1⟩
theorem J8(L:Lk X S k Φ)(t:Ty):gI X (.builtin "isinstance") (λxs H Q=>∃(x:V) (d:D) (N:iA) (k:bt),xs=[x,.ty (tyName t)]/\Rep (aX X.K H) N k x d/\(∀q p xs f,N q p (.l xs) f->dq X.K H p xs)/\(∀q p cs as xs ep f,N q p (.d cs as xs ep) f->H p=some (.ext (DO p cs as xs ep)))/\Q (.bl (bJ t d)) H):=by
 intro pins s σ H xs us Q I r h;obtain⟨x,d,N,k,rfl,rp,hN,YR,q⟩:=h;obtain⟨u,w',rfl,ru,ox⟩:=vals2 r;cases (show w'=Value.type (tyName t) from ox);have kt:=FJ X.K t;have fin:∀b:Bool,b=bJ t d->∀tk,EP X pins σ Q (.bool b) { s with toks:=tk }:=λb e tk=>⟨.bl b,H,I.tok tk,rfl,by rw[e];exact q⟩
 cases rp with
 |bF=>cases ru;exact aaZ PySem.W.kitx_none I.BK True.intro (kt "NoneType" (by simp[kinds])) (λz=>nomatch z) (fin _ (by cases t<;>rfl))
 |bl b=>cases ru;exact aaZ PySem.W.kitx_bool I.BK True.intro (kt "bool" (by simp[kinds])) (λz=>nomatch z) (fin _ (by cases t<;>rfl))
 |int i=>obtain⟨t',rfl⟩:=ru;exact aaZ PySem.W.kitx_int I.BK True.intro (kt "int" (by simp[kinds])) (λz=>nomatch z) (fin _ (by cases t<;>rfl))
 |str y=>obtain⟨t',rfl⟩:=ru;exact aaZ PySem.W.kitx_str I.BK True.intro (kt "str" (by simp[kinds])) (λz=>nomatch z) (fin _ (by cases t<;>rfl))
 |tup h _ =>
  cases ru;obtain⟨aL,_,⟨o,h1,h2,_⟩,_⟩:=I.tuple h;exact aaZ PySem.W.kitx_tuple I.BK ⟨o,h1,h2⟩ (kt "tuple" (by simp[kinds])) (λz=>nomatch z) (fin _ (by cases t<;>rfl))
 |lst h _ =>
  cases ru;obtain⟨aL,_,⟨o,n,h1,h2,_⟩,_⟩:=I.list (hN _ _ _ _ h);exact aaZ PySem.W.kitx_list I.BK ⟨o,h1,h2⟩ (kt "list" (by simp[kinds])) (λz=>nomatch z) (fin _ (by cases t<;>rfl))
 |cM h _ _ =>
  cases ru;obtain⟨o,h1,h2⟩:∃o,s.heap.get? _=some o/\o.cls=.type "dict":=dictAt I (YR _ _ _ _ _ _ _ h);exact aaZ PySem.W.kitx_dict I.BK ⟨o,h1,h2⟩ (kt "dict" (by simp[kinds])) (λz=>nomatch z) (fin _ (by cases t<;>rfl))
theorem GP(t:Ty):bootBuiltins (tyName t:Str)=some (.type (tyName t)):=by
 cases t<;>decide +kernel
theorem oZ(t:Ty):(tyName t:Str) ≠ "__name__" /\ ((tyName t:Str)==("__debug__" : Str))=false:=by
 cases t<;>decide +kernel
theorem I_(L:Lk X S k Φ){a:CE}{t:Ty}{e:Expr}{p:Pos}(hf:jt S.sc ("isinstance" : Str)=true)(TL:("isinstance" : Str)∈S.bl)(hg:jt S.sc (tyName t:Str)=true)(TJ:(tyName t:Str)∈S.bl)
  (ha:PE X e (tD X F Φ a)) (oy:∀es,starEach (e::es) X.env=(false,eval e X.env)::starEach es X.env):PE X (.Call (.Name ("isinstance" : Str) p) [e,.Name (tyName t:Str) p'] [] pos) (tD X F Φ (.jW a t)):=by
 have hT:PE X (.Name (tyName t:Str) p') (tC (.ty (tyName t))):=Fc (L.gl hg) (L.bl _ TJ) (GP t) rfl (oZ t).1 (oZ t).2;refine PE.imp (dU (J8 L t) (L.gl hf) (L.bl _ TL) PyProof.Rows.boot_isinstance (dx ha (dx hT gg) (oy _)) (he:=oy _)) λσ H Q hq=>?_;obtain⟨R,τ,ρ,d,Si,ev,hq⟩:=hq;obtain⟨x,ex,ev⟩:=aB ev;cases ev;refine tD.intro Si ex λv H1 e1 r1=>?_;obtain⟨τ1,f1,p1⟩:=r1;exact⟨v,x,_,_,rfl,p1,λq p xs f h=>h.sq,λq p cs as xs ep f h=>h.dat,hq _ H1 e1 .bl⟩
theorem J_:@DI.qJ=@L2.qJ:=rfl
set_option tactic.hygienic true in
theorem M4(L:Lk X S k Φ){a b:CE}{e i:Expr}(ha:PE X e (tD X F Φ a))(hb:PE X i (tD X F Φ b))(hp:mz i):PE X (.Subscript e i pos) (tD X F Φ (.ix a b)):=by
 refine PE.imp (Hq (FN.or J9) ha hb hp) λσ H Q hq=>?_;obtain⟨R,τ,ρ,d,Si,ev,hq⟩:=hq;obtain⟨x,ex,ev⟩:=aB ev;obtain⟨y,ey,ev⟩:=aB ev;refine tD.intro Si ex λv H1 e1 r1=>tD.intro (Si.go e1) ey λu H2 e2 r2=>?_;have ee:=e1.trans e2;have rv:=(r1.go e2).mono (fv':=gJ (.ix a b)) λj hj=>aaD _ hj;have item:∀{q:bt} {xs:af} {ds:ab} {τt:Addr->Option bt} {j:Int},(∀p q,τt p=some q->H p=none)->aD (aX X.K H2) (nd X.K R (jw (gP X F) τ (gJ (.ix a b))) τt H2) q 0 xs ds->mx ds j=ok d->∃w,L2.Mk xs j=some w/\Q w H2:=by
  intro q xs ds τt j fr rs h;unfold mx at h;split at h
  ·rename_i d' hd;cases h;cases hx:DI.qJ ds.length j with
   |none=>rw[hx]at hd;cases hd
   |some m =>
    rw[hx]at hd;obtain⟨w,hw,ox⟩:=rs.get (show ds[m]?=some d' from hd);refine⟨w,?_,hq w H2 ee ⟨λ_=>none,λ_ _ h=>by simp at h,ox.fQ Si fr⟩⟩;unfold L2.Mk;rw[<- J_,rs.length,hx];exact hw
  ·cases h
 cases y with
 |int j =>
  obtain⟨τt,fr,rp⟩:=rv;cases r2.isInt;cases x with
  |tup ds =>
   cases rp with
   | @tup _ p xs _ h rs=>obtain⟨w,h1,h2⟩:=item fr rs ev;exact .inr ⟨p,xs,j,w,rfl,rfl,h,h1,h2⟩
  |lst f ds =>
   cases rp with
   | @lst _ p xs _ _ h rs=>obtain⟨w,h1,h2⟩:=item fr rs ev;exact .inl ⟨p,xs,j,w,rfl,rfl,h.sq,h1,h2⟩
  |_=>exact nk ev
 |_=>cases x<;>cases ev
theorem nK:∀(cs:aE) {ρ:bo} {ds:ab},cP Φ cs ρ=ok ds->ds.length=cs.length
 |[],_,_,h=>by cases h;rfl
 |c::cs,_,_,h=>by
  obtain⟨x,_,h⟩:=aB h;obtain⟨xs,hx,h⟩:=aB h;cases h;simp[nK cs hx]
theorem IW{es:aj}{n:Nat}(h:PA X es (qb X F Φ cs))(hl:cs.length<=1000):PE X (.Tuple es n pos) (tD X F Φ (.tup cs)):=by
 refine PE.imp (Jx h) λσ H Q hq=>?_;obtain⟨R,τ,ρ,d,Si,ev,hq⟩:=hq;obtain⟨ds,Lh,ev⟩:=aB ev;cases ev;refine⟨R,τ,ρ,ds,Si,Lh,λvs H1 e1 r1=>?_⟩;obtain⟨τt,fr,rs⟩:=r1;have hz:sizeLine=16777216:=abf;refine⟨by rw[rs.length,nK cs Lh];left,λp hp=>?_⟩;have es:aI H1 (upd H1 p (.tup vs)):=aI.upd hp;exact hq _ _ (e1.trans es) ⟨τt,fr,.tup (aX.of bg) (rs.imp (λ_ _ h=>aX.same es h) λ_ _ _ _ h=>nd.same es h)⟩
theorem I0{es:aj}(h:PA X es (qb X F Φ cs))(hl:cs.length<=1000):PE X (.List es pos) (tD X F Φ (.lst cs)):=by
 refine PE.imp (JC h) λσ H Q hq=>?_;obtain⟨R,τ,ρ,d,Si,ev,hq⟩:=hq;obtain⟨ds,Lh,ev⟩:=aB ev;cases ev;refine⟨R,τ,ρ,ds,Si,Lh,λvs H1 e1 r1=>?_⟩;obtain⟨τt,fr,rs⟩:=r1;have hz:sizeLine=16777216:=abf;refine⟨by rw[rs.length,nK cs Lh];left,λp hp=>?_⟩;have es:aI H1 (upd H1 p (.lst vs)):=aI.upd hp;refine hq _ _ (e1.trans es) ⟨λq=>if q=p then some []else τt q,λq z hq=>?_,.lst ⟨bg,by simp⟩ (rs.imp (λ_ _ h=>aX.same es h) λc q xs f h=>?_)⟩
 ·by_cases vv:q=p
  ·subst vv;exact e1.free hp
  ·simp only[vv,if_false]at hq;exact fr q z hq
 ·have h':=nd.same es h;cases f with
  |ow =>
   have vv:q≠p:=by
    intro z;subst z;exact h.1.ne hp
   exact⟨h'.1,by simp only[vv,if_false];exact h'.2⟩
  |fz=>exact h'
  |al=>exact h'
  |sc=>exact h'
theorem EC(L:Lk X S k Φ){f:Nat}{x:Str}{y:Expr}{ys:aj}{p:Pos}(hf:S.fn f=some x)(hg:jt S.sc x=true)(hn:m7 x=true)(ha:PA X (y::ys) (qb X F Φ cs))
  (oy:∀es,starEach (y::es) X.env=(false,eval y X.env)::starEach es X.env) (hpl:∀pos,(backTo pos (starEach ys X.env)).any (·.1)=false):PE X (.Call (.Name x p) (y::ys) [] pos) (tD X F Φ (.call f cs)):=by
 obtain⟨a,fd,ps,Fo,hm,hk,hb,hl⟩:=(L.fn f x hf).ex;unfold m7 at hn;simp only[Bool.and_eq_true,Bool.not_eq_true']at hn;refine PE.imp (Fb Fo L.room (L.gl hg) hm hk hb .nil (ND (X:=X)) ha hn.1.1 (oy _) (hpl _)) λσ H Q hq=>?_;obtain⟨R,τ,ρ,d,Si,ev,hq⟩:=hq;obtain⟨xs,cp,ev⟩:=aB ev;obtain⟨r,er,ev⟩:=aB ev;cases ev;refine⟨R,τ,ρ,xs,Si,cp,λvs H1 e1 r1=>?_⟩;obtain⟨τt,fr,rs⟩:=r1;have fresh:∀p,H p=none->jw (gP X F) τ (dw cs) p:=λp hp=>⟨.inr (Si.same.free hp),λc i e=>absurd hp (Si.th p _ e)⟩
 have hR:∀p,R p->jw (gP X F) τ (dw cs) p:=λp hp=>⟨Si.rf p hp,λc i e=>by rw[Si.rt p hp]at e;cases e⟩
 rw[List.append_nil];refine⟨jw (gP X F) τ (dw cs),av aK xs,r,by rw[rs.length,<- hl _ _ er,aO,List.length_map],aD.iI (λ_ _ h=>h) (λk k' p xs f h=>?_) rs _ _,er,λv H2 e2 rr=>?_⟩
 ·cases f with
  |ow=>exact⟨h.1,fresh p (fr p _ h.2)⟩
  |fz=>exact⟨h.1,hR p h.2⟩
  |al=>exact h
  |sc=>exact h
 ·obtain⟨τ2,Me,rp⟩:=rr;refine hq v H2 (e1.trans e2) ⟨τ2,λp q h=>e1.free (Me p q h),Rep.map (q:=[]) (q':=[]) (λ_ _ h=>h) (λc p xs f h=>?_) rp [] rfl⟩;cases f with
  |ow=>exact h
  |fz=>exact⟨h.1,h.2.elim id λz=>fresh p (e1.free z)⟩
  |al=>exact h.2.elim
  |sc=>exact h
def VH(K:ao)(f:Bf):af->Hp->VK->Prop:=match f with
 |.len=>λxs H Q=>∃p ys,xs=[.ref p]/\(dq K H p ys\/aX K H p ys)/\Q (.int ys.length) H
 |.abs=>λxs H Q=>∃i,xs=[.int i]/\Q (.int (if i<0 then -i else i)) H
 |.min2=>λxs H Q=>∃i j,xs=[.int i,.int j]/\Q (.int (if j<i then j else i)) H
 |.list1=>λxs H Q=>∃p ys,xs=[.ref p]/\(dq K H p ys\/aX K H p ys)/\∀l,H l=none->Q (.ref l) (upd H l (.lst ys))
 |.tuple1=>λxs H Q=>∃p ys,xs=[.ref p]/\((dq K H p ys/\∀l,H l=none->Q (.ref l) (upd H l (.tup ys)))\/(aX K H p ys/\Q (.ref p) H))
 |.jz=>λxs H Q=>∃(p:Addr) (ns:aa),xs=[.ref p]/\dq K H p (ns.map V.int)/\Q (.int ns.sum) H
 |.all1=>λxs H Q=>∃(p:Addr) (bs:List Bool),xs=[.ref p]/\dq K H p (bs.map V.bl)/\Q (.bl (bs.all id)) H
 |.gN=>λxs H Q=>∃(p:Addr) (ns:aa),xs=[.ref p]/\(dq K H p (ns.map V.int)\/aX K H p (ns.map V.int))/\ns.length<64/\∀l,H l=none->Q (.ref l) (upd H l (.lst ((sortI ns).map V.int)))
theorem aD.one{k:bt}{n:Nat}{d:D}(h:aD T N k n vs [d]):∃v,vs=[v]/\Rep T N (n::k) v d:=by
 cases h with
 |cons h t=>cases t;exact⟨_,rfl,h⟩
theorem aD.two{k:bt}{n:Nat}{d e:D}(h:aD T N k n vs [d,e]):∃v w,vs=[v,w]/\Rep T N (n::k) v d/\Rep T N ((n+1)::k) w e:=by
 cases h with
 |cons h t=>obtain⟨w,rfl,h'⟩:=t.one;exact⟨_,_,rfl,h,h'⟩
theorem aD.ints1{k:bt}{n:Nat}{i:Int}(h:aD T N k n vs [.int i]):vs=[.int i]:=by
 obtain⟨v,rfl,z⟩:=h.one;cases z;rfl
theorem aD.ints2{k:bt}{n:Nat}{i j:Int}(h:aD T N k n vs [.int i,.int j]):vs=[.int i,.int j]:=by
 obtain⟨v,w,rfl,z,z'⟩:=h.two;cases z;cases z';rfl
noncomputable def Bf.one:Bf->Bool
 |.min2=>false
 |_=>true
theorem Ly{f:Bf}{xs:ab}{d:D}(hf:f.one=true)(h:n9 f xs=ok d):∃x,xs=[x]:=by
 cases xs with
 |nil=>cases f<;>exact nk h
 |cons x xs=>cases xs with
  |nil=>exact⟨x,rfl⟩
  |cons y ys=>cases f<;>first | (cases hf;done) | (cases x<;>exact nk h)
theorem Zz{xs:ab}{d:D}(h:n9 .min2 xs=ok d):∃i j,xs=[.int i,.int j]:=by
 cases xs with
 |nil=>cases h
 |cons x xs=>cases xs with
  |nil=>cases x<;>cases h
  |cons y ys=>cases ys with
   |cons z zs=>cases x<;>first | (cases h;done) | (cases y<;>cases h)
   |nil=>cases x<;>first | (cases h;done) | (cases y<;>first|exact⟨_,_,rfl⟩ | (cases h;done))
theorem aD.ofInts{T:lL}{N:iA}{k:bt}:∀{ns:aa} {n:Nat} {vs:af},aD T N k n vs (ns.map D.int)->vs=ns.map V.int
 |[],_,_,h=>by cases h;rfl
 |i::ns,_,_,h=>by
  cases h with
  |cons h t=>cases h;rw[aD.ofInts t];rfl
theorem aD.Hs{T:lL}{N:iA}{k:bt}:∀{ns:List Bool} {n:Nat} {vs:af},aD T N k n vs (ns.map D.bl)->vs=ns.map V.bl
 |[],_,_,h=>by cases h;rfl
 |i::ns,_,_,h=>by
  cases h with
  |cons h t=>cases h;rw[aD.Hs t];rfl
theorem jd{T:lL}{N:iA}{k:bt}:∀(ns:aa) {n:Nat},aD T N k n (ns.map V.int) (ns.map D.int)
 |[],_=>.nil
 |i::ns,_=>.cons (.int i) (jd ns)
set_option tactic.hygienic true in
theorem GQ{f:Bf}(hq:tD X F Φ (.bf f cs) σ H Q):LL (VH X.K f) (qb X F Φ cs) σ H Q:=by
 obtain⟨R,τ,ρ,d,Si,ev,hq⟩:=hq;obtain⟨xs,cp,ev⟩:=aB ev;refine⟨R,τ,ρ,xs,Si,cp,λvs H1 e1 r1=>?_⟩;obtain⟨τt,fr,rs⟩:=r1;cases f with
 |len =>
  obtain⟨x,rfl⟩:=Ly rfl ev;obtain⟨v,rfl,rv⟩:=rs.one;cases x with
  |tup ds=>cases ev;obtain⟨_,_,rfl,h,r⟩:=rv.Io;exact⟨_,_,rfl,.inr h,by rw[r.length];exact hq _ H1 e1 .int⟩
  |lst f ds=>cases ev;obtain⟨_,_,rfl,h,r⟩:=rv.uN;exact⟨_,_,rfl,.inl h.sq,by rw[r.length];exact hq _ H1 e1 .int⟩
  |_=>exact nk ev
 |abs =>
  obtain⟨x,rfl⟩:=Ly rfl ev;cases x with
  |int i=>cases ev;cases rs.ints1;exact⟨_,rfl,hq _ H1 e1 .int⟩
  |_=>exact nk ev
 |min2 =>
  obtain⟨i,j,rfl⟩:=Zz ev;cases ev;cases rs.ints2;exact⟨_,_,rfl,hq _ H1 e1 .int⟩
 |list1 =>
  obtain⟨x,rfl⟩:=Ly rfl ev;obtain⟨v,rfl,rv⟩:=rs.one;cases x with
  |tup ds =>
   cases ev;obtain⟨_,_,rfl,h,r⟩:=rv.Io;refine⟨_,_,rfl,.inr h,λl hl=>?_⟩;exact hq _ _ (e1.trans (aI.upd hl)) (bR.oN (e1.free hl) (e1.trans (aI.upd hl)) bg ((r.fQ Si fr).imp (λ_ _ h=>aX.same (aI.upd hl) h) λ_ _ _ _ h=>nd.same (aI.upd hl) h))
  |lst f ds =>
   cases ev;obtain⟨_,_,rfl,h,r⟩:=rv.uN;refine⟨_,_,rfl,.inl h.sq,λl hl=>?_⟩;exact hq _ _ (e1.trans (aI.upd hl)) (bR.oN (e1.free hl) (e1.trans (aI.upd hl)) bg ((r.fQ Si fr).imp (λ_ _ h=>aX.same (aI.upd hl) h) λ_ _ _ _ h=>nd.same (aI.upd hl) h))
  |_=>exact nk ev
 |tuple1 =>
  obtain⟨x,rfl⟩:=Ly rfl ev;obtain⟨v,rfl,rv⟩:=rs.one;cases x with
  |lst f ds =>
   cases ev;obtain⟨_,_,rfl,h,r⟩:=rv.uN;refine⟨_,_,rfl,.inl ⟨h.sq,λl hl=>?_⟩⟩;exact hq _ _ (e1.trans (aI.upd hl)) ⟨λ_=>none,λ_ _ h=>by simp at h,.tup (aX.of bg) ((r.fQ Si fr).imp (λ_ _ h=>aX.same (aI.upd hl) h) λ_ _ _ _ h=>nd.same (aI.upd hl) h)⟩
  |_=>exact nk ev
 |jz =>
  obtain⟨x,rfl⟩:=Ly rfl ev;obtain⟨v,rfl,rv⟩:=rs.one;cases x with
  |lst f ds =>
   have ev:(match intsOf ds with|some ns=>ok (.int ns.sum)|none=>none)=ok d:=ev;cases hn:intsOf ds with
   |none=>rw[hn]at ev;cases ev
   |some ns =>
    rw[hn]at ev;cases ev;cases cJ hn;cases rv with
    |lst h r=>cases r.ofInts;exact⟨_,ns,rfl,h.sq,hq _ H1 e1 .int⟩
  |_=>exact nk ev
 |all1 =>
  obtain⟨x,rfl⟩:=Ly rfl ev;obtain⟨v,rfl,rv⟩:=rs.one;cases x with
  |lst f ds =>
   have ev:(match iV ds with|some bs=>ok (.bl (bs.all id))|none=>none)=ok d:=ev;cases hn:iV ds with
   |none=>rw[hn]at ev;cases ev
   |some ns =>
    rw[hn]at ev;cases ev;cases uq hn;cases rv with
    |lst h r=>cases r.Hs;exact⟨_,ns,rfl,h.sq,hq _ H1 e1 .bl⟩
  |_=>exact nk ev
 |gN =>
  obtain⟨x,rfl⟩:=Ly rfl ev;obtain⟨v,rfl,rv⟩:=rs.one;have fin:∀ds,sE ds=ok d->∃ns:aa,ds=ns.map D.int/\ns.length<64/\∀l,H1 l=none->Q (.ref l) (upd H1 l (.lst ((sortI ns).map V.int))):=by
   intro ds e;unfold sE at e;split at e
   ·rename_i ns hn;split at e
    ·rename_i rW;cases e;refine⟨ns,cJ hn,rW,λl hl=>hq _ _ (e1.trans (aI.upd hl)) (bR.oN (e1.free hl) (e1.trans (aI.upd hl)) bg (jd _))⟩
    ·cases e
   ·cases e
  cases x with
  |tup ds =>
   obtain⟨ns,rfl,rW,q⟩:=fin ds ev;cases rv with
   |tup h r=>cases r.ofInts;exact⟨_,ns,rfl,.inr h,rW,q⟩
  |_=>exact nk ev
theorem M5(L:Lk X S k Φ){f:Bf}{y:Expr}{ys:aj}{p:Pos}(hg:jt S.sc (rG f:Str)=true)(hb:(rG f:Str)∈S.bl)(ha:PA X (y::ys) (qb X F Φ cs))
  (oy:∀es,starEach (y::es) X.env=(false,eval y X.env)::starEach es X.env) (hpl:∀pos,(backTo pos (starEach ys X.env)).any (·.1)=false):PE X (.Call (.Name (rG f:Str) p) (y::ys) [] pos) (tD X F Φ (.bf f cs)):=by
 refine PE.imp (t:=LL (VH X.K f) (qb X F Φ cs)) ?_ λσ H Q hq=>GQ hq;cases f with
 |len=>exact dU rE (L.gl hg) (L.bl _ hb) PySem.boot_len ha (he:=oy _) (hpl:=hpl _)
 |abs=>exact dU Di (L.gl hg) (L.bl _ hb) (by decide +kernel) ha (he:=oy _) (hpl:=hpl _)
 |min2=>exact dU (zj L.calm) (L.gl hg) (L.bl _ hb) (by decide +kernel) ha (he:=oy _) (hpl:=hpl _)
 |list1=>exact pg rC (L.gl hg) (L.bl _ hb) (by decide +kernel) ha (he:=oy _) (hpl:=hpl _)
 |tuple1=>exact pg oT (L.gl hg) (L.bl _ hb) (by decide +kernel) ha (he:=oy _) (hpl:=hpl _)
 |jz=>exact dU (zh L.calm) (L.gl hg) (L.bl _ hb) (by decide +kernel) ha (he:=oy _) (hpl:=hpl _)
 |gN=>exact dU rB (L.gl hg) (L.bl _ hb) (by decide +kernel) ha (he:=oy _) (hpl:=hpl _)
 |all1=>exact dU (zk L.calm) (L.gl hg) (L.bl _ hb) (by decide +kernel) ha (he:=oy _) (hpl:=hpl _)
set_option tactic.hygienic true in
theorem EA(L:Lk X S k Φ){a:CE}{e:Expr}{p:Pos}(hf:jt S.sc ("len" : Str)=true)(TL:("len" : Str)∈S.bl)(hg:jt S.sc ("set" : Str)=true)(TJ:("set" : Str)∈S.bl)
  (ha:PE X e (tD X F Φ a)) (oy:∀es,starEach (e::es) X.env=(false,eval e X.env)::starEach es X.env):PE X (.Call (.Name ("len" : Str) p) [.Call (.Name ("set" : Str) p') [e] [] pos'] [] pos) (tD X F Φ (.lS a)):=by
 refine PE.imp (EY L.calm (L.gl hf) (L.bl _ TL) (L.gl hg) (L.bl _ TJ) (dx ha gg (oy _)) oy) λσ H Q hq=>?_;obtain⟨R,τ,ρ,d,Si,ev,hq⟩:=hq;obtain⟨x,ex,ev⟩:=aB ev;refine tD.intro Si ex λv H1 e1 r1=>?_;obtain⟨τ1,f1,rv⟩:=r1;cases x with
 |tup ds =>
  simp only[xa]at ev;split at ev
  ·rename_i ns hn;split at ev
   ·rename_i hl;cases ev;cases cJ hn;cases rv with
    |tup h r=>cases r.ofInts;exact⟨_,ns,rfl,h,hl,hq _ H1 e1 .int⟩
   ·cases ev
  ·cases ev
 |_=>exact nk ev
theorem IY{a:CE}{e:Expr}(h:PE X e (tD X F Φ a)):PE X (.UnaryOp .Not e pos) (tD X F Φ (.not a)):=by
 refine PE.imp (JA h) λσ H Q hq=>?_;obtain⟨R,τ,ρ,d,Si,ev,hq⟩:=hq;obtain⟨b,eb,ev⟩:=aB ev;obtain⟨x,ex,eb⟩:=aB eb;cases ev;refine tD.intro Si ex λv H1 e1 r1=>?_;cases x<;>simp[gL]at eb;cases eb;exact⟨_,r1.yP,hq _ H1 e1 .bl⟩
theorem IF{a:CE}{e:Expr}(h:PT X e (fA X F Φ a)):PT X (.UnaryOp .Not e pos) (fA X F Φ (.not a)):=by
 refine PT.imp (Jr h) λσ H Q hq=>?_;obtain⟨R,τ,ρ,b,Si,ev,hq⟩:=hq;unfold uF at ev;obtain⟨d,ed,ev⟩:=aB ev;obtain⟨c,ec,ed⟩:=aB ed;cases ed;have UI:b=!c:=by
  have e2:ok (!c)=ok b:=ev;exact(Except.ok.inj (aas e2)).symm
 subst UI;exact⟨R,τ,ρ,c,Si,ec,λH' e=>hq H' e⟩
theorem I9{c a b:CE}{t x y:Expr}(hc:PT X t (fA X F Φ c))(ha:PE X x (tD X F Φ a))(hb:PE X y (tD X F Φ b)):PE X (.IfExp t x y pos) (tD X F Φ (.ite c a b)):=by
 refine PE.imp (Bc hc ha hb) λσ H Q hq=>?_;obtain⟨R,τ,ρ,d,Si,ev,hq⟩:=hq;obtain⟨w,ew,ev⟩:=aB ev;refine⟨R,τ,ρ,w,Si,ew,λH1 e1=>?_⟩;cases w with
 |true=>exact tD.intro (Si.go e1) ev λv H' e r=>hq v H' (e1.trans e) ((r.old e1).mono λi hi=>by simp[gJ,hi])
 |false=>exact tD.intro (Si.go e1) ev λv H' e r=>hq v H' (e1.trans e) ((r.old e1).mono λi hi=>by simp[gJ,hi])
theorem IG{c a b:CE}{t x y:Expr}(hc:PT X t (fA X F Φ c))(ha:PT X x (fA X F Φ a))(hb:PT X y (fA X F Φ b)):PT X (.IfExp t x y pos) (fA X F Φ (.ite c a b)):=by
 intro pins s σ H Q I hq;obtain⟨R,τ,ρ,d,Si,ev,hq⟩:=hq;unfold uF at ev;obtain⟨x',PR,et⟩:=aB ev;obtain⟨w,ew,ev⟩:=aB PR;refine isTrue_IfExp (dv (hc pins s σ H (λw' H1=>w'=w/\aI H H1) I ⟨R,τ,ρ,w,Si,ew,λH1 e1=>⟨rfl,e1⟩⟩) λw' s1 bP=>?_);obtain⟨H1,I1,hw,e1⟩:=bP;subst hw;cases w' with
 |true=>exact ha pins s1 σ H1 Q I1 ⟨R,τ,ρ,d,Si.go e1,by unfold uF;rw[show aW Φ a ρ=ok x' from ev];exact et,λH' e=>hq H' (e1.trans e)⟩
 |false=>exact hb pins s1 σ H1 Q I1 ⟨R,τ,ρ,d,Si.go e1,by unfold uF;rw[show aW Φ b ρ=ok x' from ev];exact et,λH' e=>hq H' (e1.trans e)⟩
theorem IZ{a:CE}{e:Expr}(h:PE X e (tD X F Φ a)):PE X (.UnaryOp .USub e pos) (tD X F Φ (.neg a)):=by
 refine PE.imp (Ny Iv h) λσ H Q hq=>?_;obtain⟨R,τ,ρ,d,Si,ev,hq⟩:=hq;obtain⟨x,ex,ev⟩:=aB ev;refine tD.intro Si ex λv H1 e1 r1=>?_;cases x<;>simp[Fx]at ev;cases ev;exact⟨_,r1.isInt,hq _ H1 e1 .int⟩
theorem GW{c:CE}(hq:tD X F Φ (.and [c]) σ H Q):tD X F Φ c σ H Q:=by
 obtain⟨R,τ,ρ,d,Si,ev,hq⟩:=hq;obtain⟨b,eb,ev⟩:=aB ev;obtain⟨x,ex,eb⟩:=aB eb;cases ev;refine tD.intro Si ex λv H1 e1 r1=>?_;cases x<;>simp[gL]at eb;cases eb;rw[r1.yP];exact hq _ H1 e1 .bl
theorem JH{c:CE}(hq:tD X F Φ (.or [c]) σ H Q):tD X F Φ c σ H Q:=by
 obtain⟨R,τ,ρ,d,Si,ev,hq⟩:=hq;obtain⟨b,eb,ev⟩:=aB ev;obtain⟨x,ex,eb⟩:=aB eb;cases ev;refine tD.intro Si ex λv H1 e1 r1=>?_;cases x<;>simp[gL]at eb;cases eb;rw[r1.yP];exact hq _ H1 e1 .bl
theorem Dl{c:CE}{Q:Bool->Hp->Prop}(hq:fA X F Φ (.and [c]) σ H Q):fA X F Φ c σ H Q:=by
 obtain⟨R,τ,ρ,d,Si,ev,hq⟩:=hq;unfold uF at ev;obtain⟨b,eb,ev⟩:=aB ev;obtain⟨x,ex,eb⟩:=aB eb;cases eb;cases ev;exact⟨R,τ,ρ,_,Si,ex,hq⟩
theorem Fe{c:CE}{Q:Bool->Hp->Prop}(hq:fA X F Φ (.or [c]) σ H Q):fA X F Φ c σ H Q:=by
 obtain⟨R,τ,ρ,d,Si,ev,hq⟩:=hq;unfold uF at ev;obtain⟨b,eb,ev⟩:=aB ev;obtain⟨x,ex,eb⟩:=aB eb;cases eb;cases ev;exact⟨R,τ,ρ,_,Si,ex,hq⟩
theorem Dm{c:CE}(hq:tD X F Φ (.and (c::c'::cs)) σ H Q):Hd (tD X F Φ c) (tD X F Φ (.and (c'::cs))) σ H Q:=by
 obtain⟨R,τ,ρ,d,Si,ev,hq⟩:=hq;obtain⟨b,eb,ev⟩:=aB ev;obtain⟨x,ex,eb⟩:=aB eb;refine tD.intro Si ex λv H1 e1 r1=>?_;cases x<;>simp[gL]at eb;cases eb;refine⟨_,r1.yP,?_⟩;cases b with
 |true =>
  rw[if_pos rfl]at ev ⊢;exact tD.intro (Si.go e1) ev λv H' e r=>hq v H' (e1.trans e) ((r.old e1).mono λi hi=>aal _ hi)
 |false =>
  rw[if_neg (by simp)]at ev ⊢;cases ev;exact hq _ H1 e1 .bl
theorem Ff{c:CE}(hq:tD X F Φ (.or (c::c'::cs)) σ H Q):MJ (tD X F Φ c) (tD X F Φ (.or (c'::cs))) σ H Q:=by
 obtain⟨R,τ,ρ,d,Si,ev,hq⟩:=hq;obtain⟨b,eb,ev⟩:=aB ev;obtain⟨x,ex,eb⟩:=aB eb;refine tD.intro Si ex λv H1 e1 r1=>?_;cases x<;>simp[gL]at eb;cases eb;refine⟨_,r1.yP,?_⟩;cases b with
 |false =>
  rw[if_neg (by simp)]at ev ⊢;exact tD.intro (Si.go e1) ev λv H' e r=>hq v H' (e1.trans e) ((r.old e1).mono λi hi=>aal _ hi)
 |true =>
  rw[if_pos rfl]at ev ⊢;cases ev;exact hq _ H1 e1 .bl
theorem zv{c:CE}{Q:Bool->Hp->Prop}(hq:fA X F Φ (.and (c::c'::cs)) σ H Q):MP (fA X F Φ c) (fA X F Φ (.and (c'::cs))) σ H Q:=by
 obtain⟨R,τ,ρ,d,Si,ev,hq⟩:=hq;unfold uF at ev;obtain⟨x,ex,et⟩:=aB ev;obtain⟨b,eb,ev⟩:=aB ex;refine⟨R,τ,ρ,b,Si,eb,λH1 e1=>?_⟩;cases b with
 |true =>
  rw[if_pos rfl]at ev ⊢;exact⟨R,τ,ρ,d,Si.go e1,by unfold uF;rw[show aW Φ (.and (c'::cs)) ρ=ok x from ev];exact et,λH' e=>hq H' (e1.trans e)⟩
 |false =>
  rw[if_neg (by simp)]at ev ⊢;cases ev;cases et;exact hq H1 e1
theorem Bd{c:CE}{Q:Bool->Hp->Prop}(hq:fA X F Φ (.or (c::c'::cs)) σ H Q):Vz (fA X F Φ c) (fA X F Φ (.or (c'::cs))) σ H Q:=by
 obtain⟨R,τ,ρ,d,Si,ev,hq⟩:=hq;unfold uF at ev;obtain⟨x,ex,et⟩:=aB ev;obtain⟨b,eb,ev⟩:=aB ex;refine⟨R,τ,ρ,b,Si,eb,λH1 e1=>?_⟩;cases b with
 |false =>
  rw[if_neg (by simp)]at ev ⊢;exact⟨R,τ,ρ,d,Si.go e1,by unfold uF;rw[show aW Φ (.or (c'::cs)) ρ=ok x from ev];exact et,λH' e=>hq H' (e1.trans e)⟩
 |true =>
  rw[if_pos rfl]at ev ⊢;cases ev;cases et;exact hq H1 e1
theorem gM{Q:af->Hp->Prop}(hq:qb X F Φ [] σ H Q):ML σ H Q:=by
 obtain⟨R,τ,ρ,d,Si,ev,hq⟩:=hq;cases ev;exact hq _ H (aI.refl H) .nil
theorem eV{c:CE}{Q:af->Hp->Prop}(hq:qb X F Φ (c::cs) σ H Q):Hc (tD X F Φ c) (qb X F Φ cs) σ H Q:=by
 obtain⟨R,τ,ρ,d,Si,ev,hq⟩:=hq;obtain⟨x,ex,ev⟩:=aB ev;obtain⟨xs,cp,ev⟩:=aB ev;cases ev;refine tD.intro Si ex λv H1 e1 r1=>⟨R,τ,ρ,xs,Si.go e1,cp,λvs H2 e2 r2=>hq _ H2 (e1.trans e2) (cz.cons e1 e2 (r1.mono λi hi=>aaD _ hi) (r2.mono λi hi=>aal _ hi))⟩
theorem cy{c:CE}{e:Expr}(h:cj S c e=true)(es:aj)(env:Env):starEach (e::es) env=(false,eval e env)::starEach es env:=by
 cases e<;>first|rfl | (cases c<;>exact(aad h).elim)
theorem vO:∀{cs:aE} {es:aj},bY S cs es=true->∀(pos:Pos) (env:Env),(backTo pos (starEach es env)).any (·.1)=false
 |[],[],_,_,_=>rfl
 |[],_::_,h,_,_=>by exact(aad h).elim
 |_::_,[],h,_,_=>by exact(aad h).elim
 |c::cs,e::es,h,pos,env=>by
  replace h:=aJ h;rw[cy h.1];have:=vO h.2 pos env;unfold backTo at this ⊢;simp only[List.map_cons,List.any_cons,Bool.false_or];exact this
theorem pR{c:CE}{e:Expr}(h:cj S c e=true):mz e:=by
 intro o i;cases e<;>first|rfl | (cases c<;>exact(aad h).elim)
theorem AH{j:Nat}:PE X (.Constant .none j pos) (tD X F Φ .bF):=PE.imp JB λσ H Q bP=>by obtain⟨R,τ,ρ,d,Si,ev,hq⟩:=bP;cases ev;exact hq _ H (aI.refl H) .bF
theorem Hf{b:Bool}{j:Nat}:PE X (.Constant (.bool b) j pos) (tD X F Φ (.bl b)):=PE.imp NC λσ H Q bP=>by obtain⟨R,τ,ρ,d,Si,ev,hq⟩:=bP;cases ev;exact hq _ H (aI.refl H) .bl
theorem AI{i:Int}{j:Nat}:PE X (.Constant (.int i) j pos) (tD X F Φ (.int i)):=PE.imp JD λσ H Q bP=>by obtain⟨R,τ,ρ,d,Si,ev,hq⟩:=bP;cases ev;exact hq _ H (aI.refl H) .int
theorem AG{i:Str}{j:Nat}:PE X (.Constant (.str i) j pos) (tD X F Φ (.str i)):=PE.imp Jy λσ H Q bP=>by obtain⟨R,τ,ρ,d,Si,ev,hq⟩:=bP;cases ev;exact hq _ H (aI.refl H) .str
theorem Kd(L:Lk X S k Φ){y:Expr}{p Kg:Pos}(g1:jt S.sc ("range" : Str)=true)(g2:("range" : Str)∈S.bl)(pa:PA X [y] (qb X F Φ es))(yU:bY S es [y]=true)
  (pins:ak) (s:Shared) (σ:St) (H:Hp) (R:ah) (τ:Addr->Option bt) (ρ:bo) (xs items:ab) (I:Inv X pins σ H s) (Si:SI X F R τ ρ σ H) (cp:cP Φ es ρ=ok xs) (vD:eK Φ .kF xs=ok items) (Rr:It->Hp->Prop)
  (hR:∀J H2,aI H H2->Yl X.K J (kM X F τ (caps++dw es) H2) H2 items->Rr J H2) :
  wpAny (model X.prog X.w) X.A (eval (.Call (.Name ("range" : Str) p) [y] [] Kg) X.env) (λv s1=>wpAny (model X.prog X.w) X.A (pyIter v) (DB X pins σ target Rr) X.xe s1) X.xe s:=by
 match es,yU with
 |[c],yU =>
  replace yU:=aJ yU;refine pf (L.gl g1) (L.bl _ g2) pa (cy yU.1 _ _) pins s σ H Rr I ⟨R,τ,ρ,xs,Si,cp,λvs H1 e1 rv=>?_⟩;obtain⟨τt,fr,rs⟩:=rv;obtain⟨n,rfl⟩:∃n,xs=[.int n]:=by
   cases xs with
   |nil=>cases vD
   |cons x t=>cases x<;>first | (cases vD;done) | (cases t with|nil=>exact⟨_,rfl⟩|cons _ _=>cases vD)
  cases rs.ints1
  ·obtain⟨⟨c1,c2⟩,vD⟩:=pz vD;subst vD;have vx:(fY:Int)=1000000:=rfl;refine⟨n,rfl,by left,by left,hR _ H1 e1 ?_⟩;have:=Ii (X:=X) (lo:=0) (n:=n.toNat) (R:=kM X F τ (caps++dw [c]) H1) (H1:=H1);simpa using this
 |[],yU=>exact(aad yU).elim
 |_::_::_,yU=>exact(aad (aJ yU).2).elim
theorem Kc(L:Lk X S k Φ){c:CE}{y:Expr}(pe:PE X y (tD X F Φ c))
  (pins:ak) (s:Shared) (σ:St) (H:Hp) (R:ah) (τ:Addr->Option bt) (ρ:bo) (xs items:ab) (I:Inv X pins σ H s) (Si:SI X F R τ ρ σ H) (cp:cP Φ [c] ρ=ok xs) (vD:eK Φ .seq xs=ok items) (Rr:It->Hp->Prop)
  (hR:∀J H2,aI H H2->Yl X.K J (kM X F τ (caps++dw [c]) H2) H2 items->Rr J H2) :
  wpAny (model X.prog X.w) X.A (eval y X.env) (λv s1=>wpAny (model X.prog X.w) X.A (pyIter v) (DB X pins σ target Rr) X.xe s1) X.xe s:=by
 obtain⟨x,ex,cp⟩:=aB cp;obtain⟨xs',UE,cp⟩:=aB cp;cases UE;cases cp;have Wr:∀i∈gJ c,i∈caps++dw [c]:=λi hi=>aal _ (aaD _ hi);cases x with
 |tup ds =>
  cases vD;refine A8 pe pins s σ H Rr I (tD.intro Si ex λv H1 e1 rv=>?_);obtain⟨τt,fr,rp⟩:=rv;cases rp with
  | @tup _ p ys _ hp rs=>exact⟨p,rfl,⟨ys,hp⟩,hR _ H1 e1 (Ih (q:=[]) hp (aD.iI (λ_ _ h=>h) (uZ Si fr Wr) rs _ _))⟩
 |lst f ds =>
  cases vD;refine wV pe pins s σ H Rr I (tD.intro Si ex λv H1 e1 rv=>?_);obtain⟨τt,fr,rp⟩:=rv;cases rp with
  | @lst _ p ys _ _ hp rs=>exact⟨p,rfl,⟨ys,hp.sq⟩,hR _ H1 e1 (D0 (q:=[]) hp.sq (aD.iI (λ_ _ h=>h) (uZ Si fr Wr) rs _ _))⟩
 |_=>cases vD
theorem Mq{xs:ab}{J:It}(Si:SI X F R τ ρ σ H)(hs:∀i∈fv,i∈fv')(r:cz X.K (gP X F) R τ fv H H2 vs xs)(y:LC X.K J H2 vs xs items):
  Yl X.K J (kM X F τ fv' H2) H2 items:=by
 obtain⟨τt,fr,rs⟩:=r;have at':∀H',aI H2 H'->aD (aX X.K H') (nd X.K (kM X F τ fv' H2) (λ_=>False) (λ_=>none) H') [] 0 vs (av aK xs):=λH' e =>
  (aD.iI (T':=aX X.K H2) (λ_ _ h=>h) (uZ Si fr hs) rs [] 0).imp (λ_ _ h=>aX.same e h) λ_ _ _ _ h=>nd.same e h
 have st:∀H',aI H2 H'->uy X.K H2 vs xs H':=λH' e=>⟨⟨_,at' H2 (aI.refl H2),λp o _ h=>e p o h⟩,λ_ _ h=>aX.same e h⟩
 exact⟨λi H' e hi=>y.go i H' _ (st H' e) (at' H' e) hi,λi H' x l4 e hi hy=>y.uD i H' _ x l4 (st H' e) (at' H' e) hi hy,λi H' e hi=>y.stop i H' _ (st H' e) (at' H' e) hi⟩
theorem Ke(L:Lk X S k Φ){p:Nat}{y:Expr}(hp:S.px.pi p S.sc S.bl y=some args)(ht:(decide (1100<=p)||gS target)=true)(hs:lN X F Φ es args)
  (pins:ak) (s:Shared) (σ:St) (H:Hp) (R:ah) (τ:Addr->Option bt) (ρ:bo) (xs items:ab) (I:Inv X pins σ H s) (Si:SI X F R τ ρ σ H) (cp:cP Φ es ρ=ok xs) (vD:eK Φ (.bO p) xs=ok items) (Rr:It->Hp->Prop)
  (hR:∀J H2,aI H H2->Yl X.K J (kM X F τ (caps++dw es) H2) H2 items->Rr J H2) :
  wpAny (model X.prog X.w) X.A (eval y X.env) (λv s1=>wpAny (model X.prog X.w) X.A (pyIter v) (DB X pins σ target Rr) X.xe s1) X.xe s:=by
 obtain⟨d,ed,ei⟩:=aB (show bd (Φ p xs) oJ=ok items from vD);exact L.pr.i X _ _ k L.pX p y args hp F es target ht hs pins s σ H R τ ρ xs d items I Si cp ed ei Rr λJ H2 vs e2 r yz=>hR J H2 e2 (Mq Si (λi hi=>by simp[hi]) r yz)
theorem ug{S':Sx}{ifs:aj}(h3:bI.length<=1)(h4:bY S' bI ifs=true)
  (pA:∀(X':Cx) (F':ah),Lk X' S' k Φ->∀(j:Nat) (c:CE) (e:Expr),bI[j]?=some c->ifs[j]?=some e->PE X' e (tD X' F' Φ c)/\PT X' e (fA X' F' Φ c)) :
  (bI=[]/\ifs=[])\/∃c e,bI=[c]/\ifs=[e]/\∀(X':Cx) (F':ah),Lk X' S' k Φ->PT X' e (fA X' F' Φ c):=by
 cases bI with
 |nil=>cases ifs with
  |nil=>exact .inl ⟨rfl,rfl⟩
  |cons _ _=>exact(aad h4).elim
 |cons c cs=>cases cs with
  |cons _ _=>simp at h3
  |nil=>cases ifs with
   |nil=>exact(aad h4).elim
   |cons e ifs=>cases ifs with
    |cons _ _=>exact(aad (aJ h4).2).elim
    |nil=>exact .inr ⟨c,e,rfl,rfl,λX' F' L'=>(pA X' F' L' 0 c e rfl rfl).2⟩
def Qd(S:Sx)(ik:IK)(es:aE)(target iter:Expr):Bool:=match ik with
 |.kF=>bx (f6 iter) λw=>decide (w.1=("range" : Str))&&jt S.sc w.1&&decide (w.1∈S.bl)&&bx (one w.2) λy=>bY S es [y]
 |.seq=>bY S es [iter]
 |.bO p=>QN iter&&(decide (1100<=p)||gS target)&&bx (S.px.pi p S.sc S.bl iter) λxs=>bY S es xs
theorem BS(L:Lk X S k Φ){ik:IK}(yU:∀l,bY S es l=true->PA X l (qb X F Φ es))
  (pA:∀l,bY S es l=true->∀(j:Nat) (c:CE) (e:Expr),es[j]?=some c->l[j]?=some e->PE X e (tD X F Φ c)/\PT X e (fA X F Φ c)) (Yo:∀l,bY S es l=true->lN X F Φ es l) (h6:Qd S ik es target iter=true) :
  ∀(pins:ak) (s:Shared) (σ:St) (H:Hp) (R:ah) (τ:Addr->Option bt) (ρ:bo) (xs items:ab),Inv X pins σ H s->SI X F R τ ρ σ H->cP Φ es ρ=ok xs->eK Φ ik xs=ok items->∀(Rr:It->Hp->Prop),
   (∀J H2,aI H H2->Yl X.K J (kM X F τ (caps++dw es) H2) H2 items->Rr J H2) ->
   wpAny (model X.prog X.w) X.A (eval iter X.env) (λv s1=>wpAny (model X.prog X.w) X.A (pyIter v) (DB X pins σ target Rr) X.xe s1) X.xe s:=by
 cases ik with
 |kF =>
  obtain⟨⟨x,as⟩,hv,h6⟩:=bz h6;obtain⟨p,Kg,rfl⟩:=cW hv;obtain⟨KC,g3⟩:=aJ h6;obtain⟨KA,g2⟩:=aJ KC;obtain⟨Kz,g1⟩:=aJ KA;obtain rfl:x=_:=aab Kz;obtain⟨y,hu,F9⟩:=bz g3;obtain rfl:as=[y]:=ck hu;exact Kd L g1 (aab g2) (yU _ F9) F9
 |seq =>
  have Ti:=pA _ h6;cases es with
  |nil=>exact(aad h6).elim
  |cons c cs=>cases cs with
   |cons _ _=>exact(aad (aJ h6).2).elim
   |nil=>exact Kc L (Ti 0 c _ rfl rfl).1
 |bO p =>
  obtain⟨h6,g3⟩:=aJ h6;obtain⟨xs,ha,F9⟩:=bz g3;exact Ke L ha (aJ h6).2 (Yo _ F9)
mutual
theorem bp:∀(c:CE) (X:Cx) (S:Sx) (F:ah) (L:Lk X S k Φ) (e:Expr),cj S c e=true->PE X e (tD X F Φ c)/\PT X e (fA X F Φ c)
 |.bO p cs,X,S,F,L,e,h=>by
  obtain⟨args,ha,hb⟩:=bz (aJ h).2;exact L.pr.e X _ _ k L.pX p e args ha F cs (i8 cs X S F L args hb)
 |.bF,X,S,F,L,e,h=>by
  obtain⟨c,hv,gV⟩:=bz h;obtain⟨j,p,rfl⟩:=we hv;obtain rfl:=yM gV;exact⟨AH,cv AH λ_=>rfl⟩
 |.bl b,X,S,F,L,e,h=>by
  obtain⟨c,hv,gV⟩:=bz h;obtain⟨j,p,rfl⟩:=we hv;obtain rfl:=BX gV;exact⟨Hf,cv Hf λ_=>rfl⟩
 |.int i,X,S,F,L,e,h=>by
  obtain⟨c,hv,gV⟩:=bz h;obtain⟨j,p,rfl⟩:=we hv;obtain rfl:=yN gV;exact⟨AI,cv AI λ_=>rfl⟩
 |.str t,X,S,F,L,e,h=>by
  obtain⟨c,hv,gV⟩:=bz h;obtain⟨j,p,rfl⟩:=we hv;obtain rfl:=yL gV;exact⟨AG,cv AG λ_=>rfl⟩
 |.v i,X,S,F,L,e,h=>by
  obtain⟨x,hv,h'⟩:=bz h;obtain⟨p,rfl⟩:=mE hv;have:=RT (F:=F) L h;exact⟨this,cv this λ_=>rfl⟩
 |.glo x i,X,S,F,L,e,h=>by
  obtain⟨y,hv,gV⟩:=bz h;obtain⟨pos,rfl⟩:=mE hv;obtain⟨lW,h3⟩:=aJ gV;obtain⟨qS,h2⟩:=aJ lW;obtain⟨F7,h1⟩:=aJ qS;obtain rfl:=aab F7;obtain⟨u,hm,r⟩:=L.cs _ _ (aab h2);have this:PE X (.Name y pos) (tD X F Φ (.glo y i)):=PE.imp (EZ (v:=.int i) (L.gl h1) hm r (lC h3)) λσ H Q bP=>by obtain⟨R,τ,ρ,d,Si,ev,hq⟩:=bP;cases ev;exact hq _ H (aI.refl H) .int
  exact⟨this,cv this λ_=>rfl⟩
 |.bin op a b,X,S,F,L,e,h=>by
  obtain⟨⟨l,o,r⟩,hv,gV⟩:=bz h;obtain⟨pos,rfl⟩:=D_ hv;obtain⟨lW,h2⟩:=aJ gV;obtain⟨qS,h1⟩:=aJ lW;obtain rfl:o=NN op:=aab qS;have:=Ja (F:=F) (pos:=pos) L (op:=op) (bp a X S F L _ h1).1 (bp b X S F L _ h2).1;exact⟨this,cv this λ_=>rfl⟩
 |.neg a,X,S,F,L,e,h=>by
  obtain⟨⟨o,x⟩,hv,gV⟩:=bz h;obtain⟨pos,rfl⟩:=z4 hv;obtain⟨lW,h1⟩:=aJ gV;obtain rfl:o=.USub:=aab lW;have:=IZ (F:=F) (Φ:=Φ) (pos:=pos) (bp a X S F L _ h1).1;exact⟨this,cv this λ_=>rfl⟩
 |.not a,X,S,F,L,e,h=>by
  obtain⟨⟨o,x⟩,hv,gV⟩:=bz h;obtain⟨pos,rfl⟩:=z4 hv;obtain⟨lW,h1⟩:=aJ gV;obtain rfl:o=.Not:=aab lW;exact⟨IY (bp a X S F L _ h1).1,IF (bp a X S F L _ h1).2⟩
 |.and cs,X,S,F,L,e,h=>by
  obtain⟨⟨o,vs⟩,hv,gV⟩:=bz h;obtain⟨pos,rfl⟩:=r_ hv;obtain⟨lW,h1⟩:=aJ gV;obtain rfl:o=.And:=aab lW;exact⟨(kL cs X S F L vs h1 pos).1,(kL cs X S F L vs h1 pos).2.pt⟩
 |.or cs,X,S,F,L,e,h=>by
  obtain⟨⟨o,vs⟩,hv,gV⟩:=bz h;obtain⟨pos,rfl⟩:=r_ hv;obtain⟨lW,h1⟩:=aJ gV;obtain rfl:o=.Or:=aab lW;exact⟨(mO cs X S F L vs h1 pos).1,(mO cs X S F L vs h1 pos).2.pt⟩
 |.ite c a b,X,S,F,L,e,h=>by
  obtain⟨⟨t,x,y⟩,hv,gV⟩:=bz h;obtain⟨pos,rfl⟩:=Ir hv;obtain⟨lW,h2⟩:=aJ gV;obtain⟨h0,h1⟩:=aJ lW;exact⟨I9 (bp c X S F L _ h0).2 (bp a X S F L _ h1).1 (bp b X S F L _ h2).1,IG (bp c X S F L _ h0).2 (bp a X S F L _ h1).2 (bp b X S F L _ h2).2⟩
 |.cmp op a b,X,S,F,L,e,h=>by
  obtain⟨⟨l,os,rs⟩,hv,gV⟩:=bz h;obtain⟨pos,rfl⟩:=p8 hv;obtain⟨lW,h2⟩:=aJ gV;obtain⟨qS,h1⟩:=aJ lW;obtain⟨r,hr,Uk⟩:=bz h2;obtain⟨Pj,h3⟩:=aJ Uk;obtain rfl:os=[Sk op]:=aab qS;obtain rfl:rs=[r]:=ck hr;exact⟨PE.imp (qv (Bi L op) (bp a X S F L _ h1).1 (bp b X S F L _ Pj).1 (Br h3)) λ_ _ _ qS=>uj qS,PT.imp (qp (Bi L op) (bp a X S F L _ h1).1 (bp b X S F L _ Pj).1 (Br h3)) λ_ _ _ qS=>yr qS⟩
 |.jW a t,X,S,F,L,e,h=>by
  obtain⟨⟨f,as⟩,hv,gV⟩:=bz h;obtain⟨p,pos,rfl⟩:=cW hv;obtain⟨lW,h5⟩:=aJ gV;obtain⟨qS,h2⟩:=aJ lW;obtain⟨F7,h1⟩:=aJ qS;obtain rfl:f=_:=aab F7;obtain⟨⟨e,g⟩,hw,F8⟩:=bz h5;obtain rfl:as=[e,g]:=jx hw;obtain⟨Pf,h6⟩:=aJ F8;obtain⟨x,hn,KC⟩:=bz h6;obtain⟨p',rfl⟩:∃p,g=.Name x p:=mE hn;obtain⟨KA,h4⟩:=aJ KC;obtain⟨Kz,h3⟩:=aJ KA;obtain rfl:=aab Kz;have:=I_ (F:=F) (p:=p) (p':=p') (pos:=pos) L h1 (aab h2) h3 (aab h4) (bp a X S F L _ Pf).1 (λes=>cy Pf es _);exact⟨this,cv this λ_=>rfl⟩
 |.call f cs,X,S,F,L,e,h=>by
  obtain⟨⟨x,as⟩,hv,gV⟩:=bz h;obtain⟨p,pos,rfl⟩:=cW hv;obtain⟨lW,h4⟩:=aJ gV;obtain⟨qS,h3⟩:=aJ lW;obtain⟨h1,h2⟩:=aJ qS;obtain⟨⟨y,ys⟩,hu,qT⟩:=bz h4;obtain rfl:as=y::ys:=Aa hu;cases cs with
  |nil=>exact(aad qT).elim
  |cons c cs' =>
   have Pg:=aJ qT;have:=EC (F:=F) (p:=p) (pos:=pos) L (aab h1) h2 h3 (fH (c::cs') X S F L (y::ys) qT) (λes=>cy Pg.1 es _) (λpos=>vO Pg.2 pos _);exact⟨this,cv this λ_=>rfl⟩
 |.bf f cs,X,S,F,L,e,h=>by
  obtain⟨⟨x,as⟩,hv,gV⟩:=bz h;obtain⟨p,pos,rfl⟩:=cW hv;obtain⟨lW,h4⟩:=aJ gV;obtain⟨qS,h3⟩:=aJ lW;obtain⟨F7,h2⟩:=aJ qS;obtain rfl:x=_:=aab F7;obtain⟨⟨y,ys⟩,hu,qT⟩:=bz h4;obtain rfl:as=y::ys:=Aa hu;cases cs with
  |nil=>exact(aad qT).elim
  |cons c cs' =>
   have Pg:=aJ qT;have:=M5 (F:=F) (p:=p) (pos:=pos) L h2 (aab h3) (fH (c::cs') X S F L (y::ys) qT) (λes=>cy Pg.1 es _) (λpos=>vO Pg.2 pos _);exact⟨this,cv this λ_=>rfl⟩
 |.lS a,X,S,F,L,e,h=>by
  obtain⟨⟨x,as⟩,hv,gV⟩:=bz h;obtain⟨p,pos,rfl⟩:=cW hv;obtain⟨lW,h4⟩:=aJ gV;obtain⟨qS,h2⟩:=aJ lW;obtain⟨F7,h1⟩:=aJ qS;obtain rfl:x=_:=aab F7;obtain⟨y,hu,qT⟩:=bz h4;obtain rfl:as=[y]:=ck hu;obtain⟨⟨z,bs⟩,hw,h4_3⟩:=bz qT;obtain⟨p',pos',rfl⟩:=cW hw;obtain⟨Ui,h5⟩:=aJ h4_3;obtain⟨Uh,h6⟩:=aJ Ui;obtain⟨Ug,h3⟩:=aJ Uh;obtain rfl:z=_:=aab Ug;obtain⟨u,S0,F8⟩:=bz h5;obtain rfl:bs=[u]:=ck S0;have:=EA (F:=F) (p:=p) (p':=p') (pos:=pos) (pos':=pos') L h1 (aab h2) h3 (aab h6) (bp a X S F L _ F8).1 (λes=>cy F8 es _);exact⟨this,cv this λ_=>rfl⟩
 |.ix a b,X,S,F,L,e,h=>by
  obtain⟨⟨l,r⟩,hv,gV⟩:=bz h;obtain⟨pos,rfl⟩:=i5 hv;obtain⟨h1,h2⟩:=aJ gV;have:=M4 (F:=F) (pos:=pos) L (bp a X S F L _ h1).1 (bp b X S F L _ h2).1 (pR h2);exact⟨this,cv this λ_=>rfl⟩
 |.tup cs,X,S,F,L,e,h=>by
  obtain⟨es,hv,gV⟩:=bz h;obtain⟨n,pos,rfl⟩:=j0 hv;obtain⟨h1,h2⟩:=aJ gV;have:=IW (F:=F) (n:=n) (pos:=pos) (fH cs X S F L es h1) (aab h2);exact⟨this,cv this λ_=>rfl⟩
 |.lst cs,X,S,F,L,e,h=>by
  obtain⟨es,hv,gV⟩:=bz h;obtain⟨pos,rfl⟩:=D5 hv;obtain⟨h1,h2⟩:=aJ gV;have:=I0 (F:=F) (pos:=pos) (fH cs X S F L es h1) (aab h2);exact⟨this,cv this λ_=>rfl⟩
 |.comp n t caps ik es bI elt,X,S,F,L,e,h=>by
  obtain⟨⟨jl,gens,sc⟩,hv,gV⟩:=bz h;obtain⟨pos,rfl⟩:=z6 hv;obtain⟨⟨target,iter,ifs,a⟩,hg,lW⟩:=bz gV;obtain rfl:gens=_:=ck hg;obtain⟨qS,h6⟩:=aJ lW;obtain⟨F7,h5⟩:=aJ qS;obtain⟨YL,h4⟩:=aJ F7;obtain⟨YK,h3⟩:=aJ YL;obtain⟨YJ,h2⟩:=aJ YK;obtain⟨YI,h1⟩:=aJ YJ;obtain rfl:a=0:=aab YI;have pA:=λ(X':Cx) (F':ah) (L':Lk X' (S.inner target caps sc) k Φ)=>iE bI X' _ F' L' ifs h4;have this:PE X (.ListComp jl [⟨target,iter,ifs,0⟩] sc pos) (tD X F Φ (.comp n t caps ik es bI elt)) :=
   EB L (pQ h1) h2 (λX' F' L'=>(bp elt X' _ F' L' jl h5).1) (ug (aab h3) h4 pA) (BS L (λl=>fH es X S F L l) (λl=>iE es X S F L l) (λl=>i8 es X S F L l) h6)
  exact⟨this,cv this λ_=>rfl⟩
theorem iE:∀(cs:aE) (X:Cx) (S:Sx) (F:ah) (L:Lk X S k Φ) (es:aj),bY S cs es=true->∀(j:Nat) (c:CE) (e:Expr),cs[j]?=some c->es[j]?=some e->PE X e (tD X F Φ c)/\PT X e (fA X F Φ c)
 |[],X,S,F,L,_,_=>λj c e h _=>by simp at h
 |_::_,X,S,F,L,[],h=>by exact(aad h).elim
 |c::cs,X,S,F,L,e::es,h=>λj c' e' hc he=>by
  replace h:=aJ h;cases j with
  |zero=>simp at hc he;subst hc he;exact bp c X S F L e h.1
  |succ j=>exact iE cs X S F L es h.2 j c' e' (by simpa using hc) (by simpa using he)
theorem i8:∀(cs:aE) (X:Cx) (S:Sx) (F:ah) (L:Lk X S k Φ) (es:aj),bY S cs es=true->lN X F Φ cs es
 |[],X,S,F,L,[],_=>trivial
 |[],X,S,F,L,_::_,h=>by exact(aad h).elim
 |_::_,X,S,F,L,[],h=>by exact(aad h).elim
 |c::cs,X,S,F,L,e::es,h=>by
  replace h:=aJ h;exact⟨(bp c X S F L e h.1).1,λl=>cy h.1 l _,pR h.1,i8 cs X S F L es h.2⟩
theorem fH:∀(cs:aE) (X:Cx) (S:Sx) (F:ah) (L:Lk X S k Φ) (es:aj),bY S cs es=true->PA X es (qb X F Φ cs)
 |[],X,S,F,L,[],_=>PA.imp gg λ_ _ _ h=>gM h
 |[],X,S,F,L,_::_,h=>by exact(aad h).elim
 |_::_,X,S,F,L,[],h=>by exact(aad h).elim
 |c::cs,X,S,F,L,e::es,h=>by
  replace h:=aJ h;exact PA.imp (dx (bp c X S F L e h.1).1 (fH cs X S F L es h.2) (cy h.1 es _)) λ_ _ _ h=>eV h
theorem kL:∀(cs:aE) (X:Cx) (S:Sx) (F:ah) (L:Lk X S k Φ) (es:aj),bY S cs es=true->∀pos,PE X (.BoolOp .And es pos) (tD X F Φ (.and cs))/\PW X (.BoolOp .And es pos) (fA X F Φ (.and cs))
 |[],X,S,F,L,_,_,pos=>⟨λ_ _ _ _ _ _ ⟨_,_,_,_,_,ev,_⟩=>(by cases ev),λ_ _ _ _ _ _ _ bP=>by obtain⟨_,_,_,_,_,ev,_⟩:=bP;cases ev⟩
 |[c],X,S,F,L,[e],h,pos=>by
  replace h:=aJ h;exact⟨PE.imp (Bb (bp c X S F L e h.1).1) λ_ _ _ h=>GW h,PW.imp (ET (bp c X S F L e h.1).2) λ_ _ _ h=>Dl h⟩
 |[_],X,S,F,L,[],h,_=>by exact(aad h).elim
 |[_],X,S,F,L,_::_::_,h,_=>by exact(aad (aJ h).2).elim
 |_::_::_,X,S,F,L,[],h,_=>by exact(aad h).elim
 |_::_::_,X,S,F,L,[_],h,_=>by exact(aad (aJ h).2).elim
 |c::c'::cs,X,S,F,L,e::e'::es,h,pos=>by
  replace h:=aJ h;have r:=kL (c'::cs) X S F L (e'::es) h.2 pos;exact⟨PE.imp (JE (bp c X S F L e h.1).1 r.1) λ_ _ _ h=>Dm h,PW.imp (Jp (bp c X S F L e h.1).2 r.2) λ_ _ _ h=>zv h⟩
theorem mO:∀(cs:aE) (X:Cx) (S:Sx) (F:ah) (L:Lk X S k Φ) (es:aj),bY S cs es=true->∀pos,PE X (.BoolOp .Or es pos) (tD X F Φ (.or cs))/\PW X (.BoolOp .Or es pos) (fA X F Φ (.or cs))
 |[],X,S,F,L,_,_,pos=>⟨λ_ _ _ _ _ _ ⟨_,_,_,_,_,ev,_⟩=>(by cases ev),λ_ _ _ _ _ _ _ bP=>by obtain⟨_,_,_,_,_,ev,_⟩:=bP;cases ev⟩
 |[c],X,S,F,L,[e],h,pos=>by
  replace h:=aJ h;exact⟨PE.imp (Bb (bp c X S F L e h.1).1) λ_ _ _ h=>JH h,PW.imp (Jo (bp c X S F L e h.1).2) λ_ _ _ h=>Fe h⟩
 |[_],X,S,F,L,[],h,_=>by exact(aad h).elim
 |[_],X,S,F,L,_::_::_,h,_=>by exact(aad (aJ h).2).elim
 |_::_::_,X,S,F,L,[],h,_=>by exact(aad h).elim
 |_::_::_,X,S,F,L,[_],h,_=>by exact(aad (aJ h).2).elim
 |c::c'::cs,X,S,F,L,e::e'::es,h,pos=>by
  replace h:=aJ h;have r:=mO (c'::cs) X S F L (e'::es) h.2 pos;exact⟨PE.imp (NA (bp c X S F L e h.1).1 r.1) λ_ _ _ h=>Ff h,PW.imp (Nu (bp c X S F L e h.1).2 r.2) λ_ _ _ h=>Bd h⟩
end
theorem iD(L:Lk X S k Φ)(c:CE)(e:Expr)(h:cj S c e=true):PE X e (tD X F Φ c)/\PT X e (fA X F Φ c):=bp c X S F L e h
theorem mN(L:Lk X S k Φ)(cs:aE)(es:aj)(h:bY S cs es=true):lN X F Φ cs es:=i8 cs X S F L es h
theorem wA(L:Lk X S k Φ)(cs:aE)(es:aj)(h:bY S cs es=true):PA X es (qb X F Φ cs):=fH cs X S F L es h
end
section
variable {T T':lL}{N N':iA}
theorem aD.child{q:bt}(hT:∀p xs,T p xs->T' p xs)(hN:∀c m p xs f,N (c++(m::q)) p xs f->N' (c++(m::q)) p xs f):∀{n:Nat} {vs:af} {ds:ab},aD T N q n vs ds->aD T' N' q n vs ds
 |_,_,_,.nil=>.nil
 |n,_,_,.cons h t=>.cons (Rep.imp (q:=n::q) (q':=n::q) hT (λc p xs f h=>hN c n p xs f h) h) (aD.child hT hN t)
theorem aD.Az{q:bt}{v:V}{d:D}:∀{n:Nat} {vs:af} {ds:ab},aD T N q n vs ds->Rep T N ((n+ds.length)::q) v d->aD T N q n (vs++[v]) (ds++[d])
 |n,_,_,.nil,h=>.cons (by simpa using h) .nil
 |n,_,_,.cons (ds:=ds) h t,h'=>.cons h (aD.Az t (by
   have e:n+(ds.length+1)=n+1+ds.length:=by left
   rw[List.length_cons,e]at h';exact h'))
theorem aD.setAt{q:bt}{v:V}{d:D}:∀{n j:Nat} {vs:af} {ds:ab},aD T N q n vs ds->Rep T N ((n+j)::q) v d->aD T N q n (vs.set j v) (ds.set j d)
 |_,_,_,_,.nil,_=>by simp;exact .nil
 |_,0,_,_,.cons _ t,h'=>.cons (by simpa using h') t
 |n,j+1,_,_,.cons h t,h'=>.cons h (aD.setAt (j:=j) t (by
   have e:n+(j+1)=n+1+j:=by left
   rw[e]at h';exact h'))
end
variable {d0 d1:D}{n':Nd}
section
variable {X:Cx}{F R:ah}{τ:Addr->Option bt}{ρ:bo}{σ:St}{H:Hp}
theorem SI.own{i:Nat}(Si:SI X F R τ ρ σ H)(hi:ρ[i]?=some (some (.lst .ow ds))):∃p xs,σ[i]?=some (some (.ref p))/\H p=some (.lst xs)/\xs.length=ds.length/\τ p=some [i]/\aD (aX X.K H) (nd X.K R (λ_=>False) τ H) [i] 0 xs ds:=by
 obtain⟨v,hv,rp⟩:=Si.rep i _ hi;cases rp with
 |lst h r=>exact⟨_,_,hv,h.1,r.length,h.2,r⟩
theorem Au{H:Hp}{p:Addr}{n:Nd}{o:HO}(hp:fi H p n){a:Addr}(h:aX K H a ys):aX K (upd H p o) a ys:=by
 obtain⟨o0,L5,OE,L4⟩:=fi.some hp;have nO:∀a u,H a=some u->u≠o0->a≠p:=λa u e h z=>by subst z;rw[L5]at e;cases e;exact h rfl
 rcases h with (h|⟨o',h⟩)|h
 ·exact .inl (.inl (by rw[bw (nO a _ h λz=>OE _ z.symm)];exact h))
 ·exact .inl (.inr ⟨o',by rw[bw (nO a _ h λz=>L4 _ _ z.symm)];exact h⟩)
 ·exact .inr h
theorem SI.Sg{i m:Nat}{v:V}{d:D}{p:Addr}{n:Nd}{o:HO}(Si:SI X F R τ ρ σ H)(hi:ρ[i]?=some (some d0))(hv:σ[i]?=some (some (.ref p)))(hp:fi H p n)(ht:τ p=some [i])
  (rs:aD (aX X.K H) (nd X.K R (λ_=>False) τ H) [i] 0 xs ds) (rk:iy X R τ H v d) (zJ:fi (upd H p o) p n')
  (mk:∀{N:iA},N [i] p n' .ow->aD (aX X.K (upd H p o)) N [i] 0 xs' ds'->Rep (aX X.K (upd H p o)) N [i] (.ref p) d1)
  (hb:∀{N:iA},aD (aX X.K (upd H p o)) N [i] 0 xs ds->Rep (aX X.K (upd H p o)) N (m::[i]) v d->aD (aX X.K (upd H p o)) N [i] 0 xs' ds') :
  ∃τ',SI X F R τ' (ρ.set i (some d1)) σ (upd H p o)/\τ' p=some [i]/\aD (aX X.K (upd H p o)) (nd X.K R (λ_=>False) τ' (upd H p o)) [i] 0 xs' ds':=by
 obtain⟨τt,hτ,rp⟩:=rk;have Wm:i<ρ.length:=by
  by_cases z:i<ρ.length
  ·exact z
  ·rw[List.getElem?_eq_none (by left)]at hi;cases hi
 obtain⟨o0,L5,OE,L4⟩:=fi.some hp;have nR:∀a,R a->a≠p:=λa ha e=>by subst e;rw[Si.rt _ ha]at ht;cases ht
 have nT:∀a q,τt a=some q->a≠p:=λa q e z=>by subst z;rw[(hτ _ q e).1]at ht;cases ht
 have nO:∀a u,H a=some u->u≠o0->a≠p:=λa u e h z=>by subst z;rw[L5]at e;cases e;exact h rfl
 have keep:∀a,a≠p->(upd H p o) a=H a:=λa h=>bw h;have Ky:∀a ys,aX X.K H a ys->aX X.K (upd H p o) a ys:=λa ys h=>by
  rcases h with (h|⟨o',h⟩)|h
  ·exact .inl (.inl (by rw[keep a (nO a _ h λz=>OE _ z.symm)];exact h))
  ·exact .inl (.inr ⟨o',by rw[keep a (nO a _ h λz=>L4 _ _ z.symm)];exact h⟩)
  ·exact .inr h
 have Q6:∀a (z:Nd),a≠p->fi H a z->fi (upd H p o) a z:=λa z ne h=>h.at λu e=>by rw[keep a ne];exact e
 have Wx:∀{τ1:Addr->Option bt} q q' a (z:Nd),nd X.K R (λ_=>False) τ1 H q a z .sc->∀τ2,nd X.K R (λ_=>False) τ2 (upd H p o) q' a z .sc:=λq q' a z h τ2=>by
  obtain⟨ys,rfl,h⟩:=h.Hg;exact h.elim (λ⟨o',w⟩=>.inl ⟨o',by rw[keep a (nO a _ w λz=>L4 _ _ z.symm)];exact w⟩) .inr
 have WA:∀q a ys f,q≠[i]->nd X.K R (λ_=>False) τ H q a ys f->nd X.K R (λ_=>False) (λa=>match τt a with|some q=>some (q++[m,i])|none=>τ a) (upd H p o) q a ys f:=λq a ys f hq h=>by
  cases f with
  |ow =>
   have ne:a≠p:=λz=>by
    subst z;have:=h.2.symm.trans ht;exact hq (aas this)
   refine⟨Q6 a ys ne h.1,?_⟩;cases z:τt a with
   |none=>simp only[z];exact h.2
   |some k=>have:=(hτ a k z).1;rw[h.2]at this;cases this
  |fz=>exact⟨Q6 a ys (nR a h.2) h.1,h.2⟩
  |al=>exact h.2.elim
  |sc=>exact Wx q q a ys h _
 have Wf:(match τt p with|some q=>some (q++[m,i])|none=>τ p)=some [i]:=by
  cases z:τt p with
  |none=>exact ht
  |some k=>exact absurd rfl (nT p k z)
 have Wz:aD (aX X.K (upd H p o)) (nd X.K R (λ_=>False) (λa=>match τt a with|some q=>some (q++[m,i])|none=>τ a) (upd H p o)) [i] 0 xs' ds':=hb (aD.child Ky (λc n a ys f h=>WA _ a ys f (λz=>by
  have:=aa5 List.length z;simp at this) h) rs) (rp.imp (q:=[]) (q':=[m,i]) Ky λc a ys f h=>by
  cases f with
  |ow =>
   rw[List.append_nil]at h;exact⟨Q6 a ys (nT a _ h.2) h.1,by simp only[h.2]⟩
  |fz=>exact⟨Q6 a ys (nR a h.2) h.1,h.2⟩
  |al=>exact h.2.elim
  |sc=>exact Wx _ _ a ys h _)
 refine⟨λa=>match τt a with|some q=>some (q++[m,i])|none=>τ a,⟨by simp[Si.len],λj d' hj=>?_,λa ha=>?_,λa ha=>?_,Si.rf,λa q hq=>?_,λa q hq=>?_,?_⟩,Wf,Wz⟩
 ·by_cases js:j=i
  ·subst js;rw[List.getElem?_set_self Wm]at hj;cases hj;exact⟨.ref p,hv,mk ⟨zJ,Wf⟩ Wz⟩
  ·rw[List.getElem?_set_ne (Ne.symm js)]at hj;obtain⟨u,hu,ru⟩:=Si.rep j d' hj;refine⟨u,hu,ru.imp (q:=[j]) (q':=[j]) Ky λc a ys f h=>WA _ a ys f (λz=>?_) h⟩;have:=aa5 List.getLast? z;simp at this;exact js this
 ·cases z:τt a with
  |none=>simp only[z];exact Si.rt a ha
  |some k=>exact absurd ha (hτ a k z).2.1
 ·rw[keep a (nR a ha)];exact Si.rh a ha
 ·by_cases Ww:a=p
  ·subst Ww;rw[bg];simp
  ·rw[keep a Ww];cases z:τt a with
   |none=>simp only[z]at hq;exact Si.th a q hq
   |some k=>exact(hτ a k z).2.2.2
 ·cases z:τt a with
  |none=>simp only[z]at hq;exact Si.t0 a q hq
  |some k=>exact(hτ a k z).2.2.1
 ·intro a u e;have ne:a≠p:=λz=>by subst z;rw[Si.t0 _ _ ht]at e;cases e
  rw[keep a ne];exact Si.same a u e
theorem SI.Nv{i m:Nat}{v:V}{d:D}{p:Addr}{n:Nd}{o:HO}(Si:SI X F R τ ρ σ H)(hi:ρ[i]?=some (some d0))(hv:σ[i]?=some (some (.ref p)))(hp:fi H p n)(ht:τ p=some [i])
  (rs:aD (aX X.K H) (nd X.K R (λ_=>False) τ H) [i] 0 xs ds) (rk:iy X R τ H v d) (zJ:fi (upd H p o) p n')
  (mk:∀{N:iA},N [i] p n' .ow->aD (aX X.K (upd H p o)) N [i] 0 xs' ds'->Rep (aX X.K (upd H p o)) N [i] (.ref p) d1)
  (hb:∀{N:iA},aD (aX X.K (upd H p o)) N [i] 0 xs ds->Rep (aX X.K (upd H p o)) N (m::[i]) v d->aD (aX X.K (upd H p o)) N [i] 0 xs' ds') :
  ∃τ',SI X F R τ' (ρ.set i (some d1)) σ (upd H p o):=(Si.Sg hi hv hp ht rs rk zJ mk hb).imp λ_ h=>h.1
theorem SI.put{i m:Nat}{v:V}{d:D}{g:af->af}{p:Addr}(Si:SI X F R τ ρ σ H)(hi:ρ[i]?=some (some (.lst .ow ds)))(hv:σ[i]?=some (some (.ref p)))(hp:H p=some (.lst xs))(ht:τ p=some [i])
  (rs:aD (aX X.K H) (nd X.K R (λ_=>False) τ H) [i] 0 xs ds) (rk:iy X R τ H v d)
  (hb:∀{N:iA},aD (aX X.K (upd H p (.lst (g xs)))) N [i] 0 xs ds->Rep (aX X.K (upd H p (.lst (g xs)))) N (m::[i]) v d->aD (aX X.K (upd H p (.lst (g xs)))) N [i] 0 (g xs) ds') :
  ∃τ',SI X F R τ' (ρ.set i (some (.lst .ow ds'))) σ (upd H p (.lst (g xs))) :=
 Si.Nv (n:=.l xs) (n':=.l (g xs)) hi hv hp ht rs rk bg (λh r=>.lst h r) hb
end
section
variable {X:Cx}{S:Sx}{k:Nat}{F:ah}{Φ:aY}
set_option tactic.hygienic true in
theorem qg(L:Lk X S k Φ)(c:CE)(e:Expr)(h:cj S c e=true):PE X e (tK X F Φ c):=by
 by_cases hv:∃i,c=.v i
 ·obtain⟨i,rfl⟩:=hv;obtain⟨x,hx,ha⟩:=bz h;obtain⟨p,rfl⟩:=mE hx;obtain⟨hb,h3⟩:=aJ ha;obtain⟨h1,h2⟩:=aJ hb;unfold m7 at h3;simp only[Bool.and_eq_true,Bool.not_eq_true']at h3;refine PE.imp (va (i:=i) (by rw[L.N];exact aab h1) (L.Vq h2) h3.1.1 h3.1.2) λσ H Q hq=>?_;obtain⟨R,τ,ρ,r,Si,ev,hq⟩:=hq;simp only[iu]at ev;split at ev
  ·rename_i d hd;split at ev
   ·cases ev;obtain⟨v,τ',hv,iz,rk⟩:=Si.move hd;exact⟨v,hv,hq v H R τ' (aI.refl H) (λ_ h=>h) iz rk⟩
   ·rename_i ho;cases ev;obtain⟨v,hv,rp⟩:=Si.rep i d hd;exact⟨v,hv,hq v H R τ (aI.refl H) (λ_ h=>h) Si (yV rp (by simpa using ho))⟩
  ·cases ev
 ·refine PE.imp (iD (F:=F) L c e h).1 λσ H Q hq=>?_;obtain⟨R,τ,ρ,r,Si,ev,hq⟩:=hq;have UI:bd (aW Φ c ρ) (λd=>ok (keep c d ρ))=ok r:=by
   cases c<;>first|exact ev|exact absurd ⟨_,rfl⟩ hv
  obtain⟨d,ed,er⟩:=aB UI;cases er;refine tD.intro Si ed λv H' e' r'=>?_;obtain⟨R',τ',h1,h2,h3⟩:=Hv Si e' r';exact hq v H' R' τ' e' h1 h2 h3
end
structure Kp(R:ah)(H:Hp)(R':ah)(H':Hp):Prop where
 r:∀p,R p->R' p
 l:∀p (o:HO),R p->H p=some o->H' p=some o
 t:∀p xs,H p=some (.tup xs)->H' p=some (.tup xs)
 z:∀p o u,H p=some (.jj o u)->H' p=some (.jj o u)
theorem Kp.refl(R:ah)(H:Hp):Kp R H R H:=⟨λ_ h=>h,λ_ _ _ h=>h,λ_ _ h=>h,λ_ _ _ h=>h⟩
theorem Kp.of(e:aI H H')(h:∀p,R p->R' p):Kp R H R' H':=⟨h,λp xs _ h=>e _ _ h,λp xs h=>e _ _ h,λp o u h=>e _ _ h⟩
theorem Kp.trans{R2:Addr->Prop}(a:Kp R H R1 H1)(b:Kp R1 H1 R2 H2):Kp R H R2 H2 :=
 ⟨λp h=>b.r p (a.r p h),λp xs h e=>b.l p xs (a.r p h) (a.l p xs h e),λp xs h=>b.t p xs (a.t p xs h),λp o u h=>b.z p o u (a.z p o u h)⟩
theorem Kp.QE(a:Kp R H R' H'){p:Addr}(h:aX K H p xs):aX K H' p xs:=by
 rcases h with (h|⟨o,h⟩)|h
 ·exact .inl (.inl (a.t p xs h))
 ·exact .inl (.inr ⟨o,a.z p o _ h⟩)
 ·exact .inr h
theorem Kp.nd{K:ao}{R R':ah}{H H':Hp}(a:Kp R H R' H'){q:bt}{p:Addr}{xs:Nd}{f:Fl}(h:DI.nd K R (λ_=>False) (λ_=>none) H q p xs f):DI.nd K R' (λ_=>False) (λ_=>none) H' q p xs f:=by
 cases f with
 |ow=>exact nomatch h.2
 |fz=>exact⟨h.1.at λo e=>a.l p o h.2 e,a.r p h.2⟩
 |al=>exact h.2.elim
 |sc =>
  obtain⟨ys,rfl,h⟩:=h.Hg;exact h.elim (λ⟨o,h⟩=>.inl ⟨o,a.z p o _ h⟩) .inr
theorem Kp.rep(a:Kp R H R' H'){k:bt}{v:V}{d:D}(h:Rep (aX K H) (DI.nd K R (λ_=>False) (λ_=>none) H) k v d):Rep (aX K H') (DI.nd K R' (λ_=>False) (λ_=>none) H') k v d :=
 h.imp (λ_ _ h=>a.QE h) λ_ _ _ _ h=>a.nd h
theorem Kp.R5(a:Kp R H R' H'){k:bt}{n:Nat}{v:af}{d:ab}(h:aD (aX K H) (DI.nd K R (λ_=>False) (λ_=>none) H) k n v d):aD (aX K H') (DI.nd K R' (λ_=>False) (λ_=>none) H') k n v d :=
 h.imp (λ_ _ h=>a.QE h) λ_ _ _ _ h=>a.nd h
def DA(X:Cx)(F:ah)(H':Hp)(v:V)(d:D):Prop:=∃τt:Addr->Option bt,(∀p q,τt p=some q->X.H₀ p=none)/\Rep (aX X.K H') (nd X.K (gP X F) (λ_=>False) τt H') [] v d
theorem iy.ret{v:V}{d:D}(Si:SI X F R τ ρ σ H)(h:iy X R τ H v d):DA X F H v d:=by
 obtain⟨τt,ht,rp⟩:=h;exact⟨τt,λp q e=>(ht p q e).2.2.1,rp.imp (λ_ _ h=>h) λ_ _ _ _ h=>h.mono (λh=>Si.rf _ h) id id⟩
def lO(X:Cx)(F:ah)(D:Ends)(R:ah)(H:Hp):Fo×bo->Prop
 | (.nx,ρ')=>∀σ' H' R' τ',SI X F R' τ' ρ' σ' H'->Kp R H R' H'->D.nx σ' H'
 | (.rt d,_)=>∀v H',aI X.H₀ H'->DA X F H' v d->D.rt v H'
def qc(X:Cx)(F:ah)(Φ:aY)(c:CS):TS:=λD σ H=>∃R τ ρ r,SI X F R τ ρ σ H/\gx Φ c ρ=ok r/\lO X F D R H r
def oF(X:Cx)(F:ah)(Φ:aY)(cs:ag):TS:=λD σ H=>∃R τ ρ r,SI X F R τ ρ σ H/\aV Φ cs ρ=ok r/\lO X F D R H r
noncomputable def J3(sc:Scope)(x:Str):Bool:=decide (sc.names.lookup x=some .local)||decide (sc.names.lookup x=some .cell)
def lY(S:Sx)(i:Nat):Expr->Bool
 |.Name x _=>decide (S.N[i]?=some x)&&J3 S.sc x
 |_=>false
def Ss:Expr->Bool
 |.Name x _=>m7 x
 |_=>true
def C7(S:Sx):aM->aj->Bool
 |[],es=>match es with
  |[]=>true
  |_::_=>false
 |i::is,es=>match es with
  |[]=>false
  |e::es=>lY S i e&&C7 S is es
def ze(S:Sx):Tg->Expr->Bool
 |.nm i,e=>lY S i e
 |.tp is,e=>bx (yi e) λes=>C7 S is es
noncomputable def gU(e:Expr):Bool:=decide (e.ctorIdx=8)
noncomputable def isTup:Expr->Bool
 |.Tuple _ _ _=>true
 |_=>false
noncomputable def RN(S:Sx)(tg v:Expr):Bool:=match tg,v with
 |.Name x p,.ListComp _ _ sc pos=>(S.sc.names.lookup x==some .local)&&(p.line==pos.line)&&!(sc.names.any λ(n,k)=>n==x&&(k==.local||k==.cell))
 |_,_=>false
noncomputable def Iq(e:Expr):Option (Str×Pos):=if h:e.ctorIdx=23 then Expr.Name.elim (motive_1:=λ_=>Option (Str×Pos)) e h (λx p=>some (x,p))else none
theorem wc{e:Expr}{x:Str}{p:Pos}(h:Iq e=some (x,p)):e=.Name x p:=by
 obtain⟨k,h⟩:=dI h;exact Expr.Name.elim (motive_1:=λe=>∀k:e.ctorIdx=23,Expr.Name.elim (motive_1:=λ_=>Option (Str×Pos)) e k (λx p=>some (x,p))=some (x,p)->e=.Name x p) e k (λ_ _ _ h=>by cases h;rfl) k h
def C6(S:Sx)(i j:Nat)(tg v:Expr):Bool :=
 bx (yi tg) λts=>bx (two ts) λt=>bx (Iq t.1) λx=>bx (Iq t.2) λy=>bx (yi v) λvs=>bx (two vs) λw =>
  decide (S.N[i]?=some x.1)&&decide (S.N[j]?=some y.1)&&decide (i≠j)&&decide (S.sc.names.lookup x.1=some .local)&&decide (S.sc.names.lookup y.1=some .local)&&decide (x.1≠y.1) &&
   decide (x.2.line=y.2.line)&&!([w.1,w.2].all (foldedForSure 8))&&!([w.1,w.2].all (constantsAlone 8))&&decide (([w.1,w.2].any λe=>match e with|.Starred ..=>true|_=>false)=false)
def Qe(S:Sx)(it:CI)(e:Expr):Bool:=match it with
 |.kF a=>bx (f6 e) λw=>decide (w.1=("range" : Str))&&jt S.sc w.1&&decide (w.1∈S.bl)&&bx (one w.2) λy=>cj S a y
 |.seq a=>cj S a e&&pq e
 |.EW p es=>QN e&&bx (S.px.pi p S.sc S.bl e) λxs=>bY S es xs
noncomputable def Bo:CI->Bool
 |.EW p _=>decide (1100<=p)
 |_=>true
noncomputable def z9(s:Stmt):Option (aj×Expr):=if h:s.ctorIdx=5 then Stmt.Assign.elim (motive_2:=λ_=>Option (aj×Expr)) s h (λts v _=>some (ts,v))else none
theorem l5{s:Stmt}{ts:aj}{v:Expr}(h:z9 s=some (ts,v)):∃p,s=.Assign ts v p:=by
 obtain⟨k,h⟩:=dI h;exact Stmt.Assign.elim (motive_2:=λs=>∀k:s.ctorIdx=5,Stmt.Assign.elim (motive_2:=λ_=>Option (aj×Expr)) s k (λts v _=>some (ts,v))=some (ts,v)->∃p,s=.Assign ts v p) s k (λ_ _ _ _ h=>by cases h;exact⟨_,rfl⟩) k h
noncomputable def Mv(s:Stmt):Option (Option Expr):=if h:s.ctorIdx=3 then Stmt.Return.elim (motive_2:=λ_=>Option (Option Expr)) s h (λv _=>some v)else none
theorem D4{s:Stmt}{v:Option Expr}(h:Mv s=some v):∃p,s=.Return v p:=by
 obtain⟨k,h⟩:=dI h;exact Stmt.Return.elim (motive_2:=λs=>∀k:s.ctorIdx=3,Stmt.Return.elim (motive_2:=λ_=>Option (Option Expr)) s k (λv _=>some v)=some v->∃p,s=.Return v p) s k (λ_ _ _ h=>by cases h;exact⟨_,rfl⟩) k h
noncomputable def Qx(s:Stmt):Option Expr:=if h:s.ctorIdx=24 then Stmt.Expr.elim (motive_2:=λ_=>Option Expr) s h (λv _=>some v)else none
theorem uO{s:Stmt}{v:Expr}(h:Qx s=some v):∃p,s=.Expr v p:=by
 obtain⟨k,h⟩:=dI h;exact Stmt.Expr.elim (motive_2:=λs=>∀k:s.ctorIdx=24,Stmt.Expr.elim (motive_2:=λ_=>Option Expr) s k (λv _=>some v)=some v->∃p,s=.Expr v p) s k (λ_ _ _ h=>by cases h;exact⟨_,rfl⟩) k h
noncomputable def My(s:Stmt):Option (Expr×aS×aS):=if h:s.ctorIdx=12 then Stmt.If.elim (motive_2:=λ_=>Option (Expr×aS×aS)) s h (λt x y _=>some (t,x,y))else none
theorem D6{s:Stmt}{t:Expr}{x y:aS}(h:My s=some (t,x,y)):∃q,s=.If t x y q:=by
 obtain⟨k,h⟩:=dI h;exact Stmt.If.elim (motive_2:=λs=>∀k:s.ctorIdx=12,Stmt.If.elim (motive_2:=λ_=>Option (Expr×aS×aS)) s k (λt x y _=>some (t,x,y))=some (t,x,y)->∃q,s=.If t x y q) s k (λ_ _ _ _ _ h=>by cases h;exact⟨_,rfl⟩) k h
noncomputable def Mt(s:Stmt):Option (Expr×aS×aS):=if h:s.ctorIdx=11 then Stmt.While.elim (motive_2:=λ_=>Option (Expr×aS×aS)) s h (λt x y _=>some (t,x,y))else none
theorem D2{s:Stmt}{t:Expr}{x y:aS}(h:Mt s=some (t,x,y)):∃q,s=.While t x y q:=by
 obtain⟨k,h⟩:=dI h;exact Stmt.While.elim (motive_2:=λs=>∀k:s.ctorIdx=11,Stmt.While.elim (motive_2:=λ_=>Option (Expr×aS×aS)) s k (λt x y _=>some (t,x,y))=some (t,x,y)->∃q,s=.While t x y q) s k (λ_ _ _ _ _ h=>by cases h;exact⟨_,rfl⟩) k h
noncomputable def Mz(s:Stmt):Option (Expr×Expr×aS×aS):=if h:s.ctorIdx=9 then Stmt.For.elim (motive_2:=λ_=>Option (Expr×Expr×aS×aS)) s h (λtg it x y _=>some (tg,it,x,y))else none
theorem D7{s:Stmt}{it:Expr}{x y:aS}(h:Mz s=some (tg,it,x,y)):∃q,s=.For tg it x y q:=by
 obtain⟨k,h⟩:=dI h;exact Stmt.For.elim (motive_2:=λs=>∀k:s.ctorIdx=9,Stmt.For.elim (motive_2:=λ_=>Option (Expr×Expr×aS×aS)) s k (λtg it x y _=>some (tg,it,x,y))=some (tg,it,x,y)->∃q,s=.For tg it x y q) s k (λ_ _ _ _ _ _ h=>by cases h;exact⟨_,rfl⟩) k h
noncomputable def z8(e:Expr):Option (Expr×Str×Pos):=if h:e.ctorIdx=20 then Expr.Attribute.elim (motive_1:=λ_=>Option (Expr×Str×Pos)) e h (λo a p=>some (o,a,p))else none
theorem se{e:Expr}{a:Str}{p:Pos}(h:z8 e=some (o,a,p)):e=.Attribute o a p:=by
 obtain⟨k,h⟩:=dI h;exact Expr.Attribute.elim (motive_1:=λe=>∀k:e.ctorIdx=20,Expr.Attribute.elim (motive_1:=λ_=>Option (Expr×Str×Pos)) e k (λo a p=>some (o,a,p))=some (o,a,p)->e=.Attribute o a p) e k (λ_ _ _ _ h=>by cases h;rfl) k h
noncomputable def uP(e:Expr):Option (Expr×aj×List Keyword×Pos):=if h:e.ctorIdx=16 then Expr.Call.elim (motive_1:=λ_=>Option (Expr×aj×List Keyword×Pos)) e h (λf as ks p=>some (f,as,ks,p))else none
theorem oY{e f:Expr}{as:aj}{ks:List Keyword}{p:Pos}(h:uP e=some (f,as,ks,p)):e=.Call f as ks p:=by
 obtain⟨k,h⟩:=dI h;exact Expr.Call.elim (motive_1:=λe=>∀k:e.ctorIdx=16,Expr.Call.elim (motive_1:=λ_=>Option (Expr×aj×List Keyword×Pos)) e k (λf as ks p=>some (f,as,ks,p))=some (f,as,ks,p)->e=.Call f as ks p) e k (λ_ _ _ _ _ h=>by cases h;rfl) k h
noncomputable def isNil{α:Type}:List α->Bool
 |[]=>true
 |_::_=>false
theorem nv{α:Type}{l:List α}(h:isNil l=true):l=[]:=by cases l<;>first|rfl|cases h
noncomputable def FQ:Stmt->Bool
 |.Raise _ _ _=>true
 |_=>false
theorem xV{i:Nat}{e:Expr}(h:lY S i e=true):∃x p,e=.Name x p:=by
 cases e<;>first|exact⟨_,_,rfl⟩|exact(aad h).elim
theorem yO{e:Expr}(h:gU e=true):∃x g sc p,e=.ListComp x g sc p:=Expr.ListComp.elim (motive_1:=λe=>∃x g sc p,e=.ListComp x g sc p) e (aab h) λ_ _ _ _=>⟨_,_,_,_,rfl⟩
mutual
noncomputable def Qc(S:Sx):CS->Stmt->Bool
 |.asg t e,s0=>bx (z9 s0) λz=>bx (one z.1) λtg=>cj S e z.2&&ze S t tg&&!(isTup z.2&&isTup tg)&&(!gU z.2||isNm tg)
 |.par i j a b,s0=>bx (z9 s0) λz=>bx (one z.1) λtg=>cj S (.tup [a,b]) z.2&&C6 S i j tg z.2
 |.ret e,s0=>bx (Mv s0) λz=>bx z λv=>cj S e v
 |.rs _,s0=>FQ s0
 |.mut p i es,s0=>bx (S.px.pm p S.sc S.bl s0) λz=>lY S i z.1&&Ss z.1&&bY S es z.2
 |.app i e,s0=>bx (Qx s0) λc=>bx (uP c) λz=>isNil z.2.2.1&&bx (z8 z.1) λa=>decide (a.2.1=("append" : Str))&&lY S i a.1&&Ss a.1&&(a.2.2.endLine==z.2.2.2.line)&&bx (one z.2.1) λv=>cj S e v
 |.setI i k e,s0=>bx (z9 s0) λz=>bx (one z.1) λtg=>bx (r9 tg) λw=>lY S i w.1&&Ss w.1&&cj S k w.2&&cj S e z.2&&!gU z.2
 |.ex e,s0=>bx (Qx s0) λv=>cj S e v&&!gU v
 |.ifs c a b,s0=>bx (My s0) λz=>cj S c z.1&&kr S a z.2.1&&kr S b z.2.2
 |.Im c b,s0=>bx (Mt s0) λz=>isNil z.2.2&&cj S c z.1&&kr S b z.2.1
 |.fr t it b,s0=>bx (Mz s0) λz=>isNil z.2.2.2&&ze S t z.1&&Qe S it z.2.1&&(gS z.1||Bo it)&&kr S b z.2.2.1
noncomputable def kr(S:Sx):ag->aS->Bool
 |[],ss=>match ss with
  |[]=>true
  |_::_=>false
 |c::cs,ss=>match ss with
  |[]=>false
  |s::ss=>Qc S c s&&kr S cs ss
end
structure LH(px:Px)(Φ:aY):Prop where
 m:∀(X:Cx) (sc:Scope) (bl:ai) (k:Nat),PX X sc bl k->X.N.Nodup->(∀x,X.fn x=true)->∀(p:Nat) (st:Stmt) (x:Str) (pos:Pos) (args:aj),px.pm p sc bl st=some (.Name x pos,args)->∀(i:Nat),X.N[i]?=some x->L2.Loc X.env.scope x->PE X (.Name x pos) (Eh i) ->
  ∀(F:ah) (cs:aE),lN X F Φ cs args->PS X st (qc X F Φ (.mut p i cs))
structure oV(X:Cx)(S:Sx)(k:Nat)(Φ:aY):Prop extends Lk X S k Φ where
 Ga:∀x,X.fn x=true
 px:PassesOwn (model X.prog X.w) X.A X.env X.xe
 fk:S.sc.kind=.function
 pm:LH S.px Φ
section
variable {X:Cx}{S:Sx}{k:Nat}{F:ah}{Φ:aY}
theorem oV.loc(L:oV X S k Φ){x:Str}(h:J3 S.sc x=true):L2.Loc X.env.scope x:=by
 unfold L2.Loc;rw[L.sc];unfold J3 at h;rw[Bool.or_eq_true]at h;exact h.imp aab aab
theorem He(L:oV X S k Φ){x:Str}{p:Pos}{l:Nat}{elt:Expr}{gens:List Comprehension}{sc:Scope}:swapsWith (.ListComp elt gens sc pos) (some (.Name x p)) l X.env=pure (RN S (.Name x p) (.ListComp elt gens sc pos)):=by
 have hb:X.env.blockKind=.function:=by unfold Env.blockKind;rw[L.sc,L.fk];rfl
 have hk:(X.env.kindOf x==some .local)=(S.sc.names.lookup x==some .local):=by
  unfold Env.kindOf;rw[L.sc]
 unfold swapsWith RN;simp only[hb,hk];rfl
theorem n5{c:CE}{e:Expr}(h:cj S c e=true)(hc:gU e=false)(t:Option Expr)(l:Nat)(env:Env):swapsWith e t l env=pure false:=by
 cases e<;>first|rfl | (cases hc;done) | (cases c<;>exact(aad h).elim)
def Uz:aM->GZ
 |[]=>KJ
 |i::is=>Ct (pF i) (Uz is)
theorem Ba(L:oV X S k Φ){i:Nat}{e:Expr}(h:lY S i e=true):PG X e (pF i):=by
 cases e<;>try (exact(aad h).elim;done)
 replace h:=aJ h;exact qu L.nd (by rw[L.N];exact aab h.1) (L.loc h.2) (.inl (L.Ga _))
theorem Fw{i:Nat}{e:Expr}(h:lY S i e=true)(es:aj)(env:Env):assignEach (e::es) env=(false,assign e env)::assignEach es env:=by
 cases e<;>first|rfl | (exact(aad h).elim;done)
theorem A_(L:oV X S k Φ):∀{is:aM} {es:aj},C7 S is es=true->Mm X es (Uz is)/\(assignEach es X.env).length=is.length/\(assignEach es X.env).findIdx? (·.1)=none
 |[],[],_=>⟨wW,rfl,rfl⟩
 |[],_::_,h=>by exact(aad h).elim
 |_::_,[],h=>by exact(aad h).elim
 |i::is,e::es,h=>by
  replace h:=aJ h;obtain⟨h1,h2,h3⟩:=A_ L h.2;have he:=Fw h.1 es X.env;refine⟨sY (Ba L h.1) h1 (by rw[he];rfl),by rw[he];simp[h2],?_⟩;rw[he,List.findIdx?_cons];simp[h3]
theorem sI{H:Hp}{R:ah}{Q:St->Hp->Prop}:∀{is:aM} {vs:af} {ds:ab} {kp:bt} {n:Nat} {σ:St} {τ:Addr->Option bt} {ρ ρ':bo},aD (aX X.K H) (nd X.K R (λ_=>False) (λ_=>none) H) kp n vs ds->SI X F R τ ρ σ H->ib is ds ρ=ok ρ' ->
  (∀σ' τ',SI X F R τ' ρ' σ' H->Q σ' H)->Uz is vs σ H Q
 |[],_,_,_,_,σ,τ,_,_,.nil,Si,e,hq=>by
  cases e;exact⟨rfl,hq σ τ Si⟩
 |[],_,_,_,_,_,_,_,_,.cons _ _,_,e,_=>by cases e
 |_::_,_,_,_,_,_,_,_,_,.nil,_,e,_=>by cases e
 |i::is,_,_,_,_,σ,τ,ρ,_,.cons (v:=v) (d:=d) h t,Si,e,hq=>by
  change (if _ then _ else _)=_ at e;split at e
  ·rename_i hi;obtain⟨τ',iz⟩:=Si.set (i:=i) (l8 (τ':=τ) (Rep.qE h)) hi;exact⟨_,_,rfl,sI t iz e hq⟩
  ·cases e
set_option tactic.hygienic true in
theorem Ai(L:oV X S k Φ){t:Tg}(h:ze S t tg=true):∃g,PG X tg g/\∀(v:V) (σ:St) (H:Hp) (Q:St->Hp->Prop) (R:ah) (τ:Addr->Option bt) (ρ ρ':bo) (d:D),SI X F R τ ρ σ H->iy X R τ H v d->cu t d ρ=ok ρ' ->
  (∀σ' τ',SI X F R τ' ρ' σ' H->Q σ' H)->g v σ H Q:=by
 cases t with
 |nm i =>
  refine⟨pF i,Ba L h,λv σ H Q R τ ρ ρ' d Si rk e hq=>?_⟩;simp only[cu]at e;split at e
  ·rename_i hi;cases e;obtain⟨τ',iz⟩:=Si.set rk hi;exact hq _ τ' iz
  ·cases e
 |tp is =>
  obtain⟨es,hx,ha⟩:=bz h;obtain⟨nn,pp,rfl⟩:=j0 hx;obtain⟨h1,h2,h3⟩:=A_ L ha;refine⟨_,A9 L.calm h1 h2 h3,λv σ H Q R τ ρ ρ' d Si rk e hq=>?_⟩;cases d<;>try (simp[cu]at e;done)
  rename_i ds;simp only[cu]at e;split at e
  ·cases e
  ·rename_i ho;obtain⟨τt,ht,rp⟩:=rk;cases rp with
   | @tup _ p xs _ hp rs =>
    have wH:aD (aX X.K H) (nd X.K R (λ_=>False) (λ_=>none) H) [] 0 xs ds:=aD.without (P:=eL) (λ_ _ h=>h) (λk k' p xs f hf h=>by
     cases f with
     |ow=>cases hf
     |fz=>exact h
     |al=>exact h.2.elim
     |sc=>exact h) rs (by simpa using ho) _ _
    refine⟨p,xs,rfl,hp,?_,sI wH Si e hq⟩;rw[rs.length];have:∀(is:aM) (ds:ab) (ρ ρ':bo),ib is ds ρ=ok ρ'->ds.length=is.length:=by
     intro is;induction is with
     |nil=>intro ds ρ ρ' e;cases ds with|nil=>rfl|cons _ _=>cases e
     |cons i is ih=>intro ds ρ ρ' e;cases ds with
      |nil=>cases e
      |cons d ds =>
       change (if _ then _ else _)=_ at e;split at e
       ·simp[ih ds _ _ e]
       ·cases e
    exact this _ _ _ _ e
end
section
variable {X:Cx}{S:Sx}{k:Nat}{F:ah}{Φ:aY}
theorem As(L:oV X S k Φ){t:Tg}{e:CE}{v:Expr}(he:cj S e v=true)(ht:ze S t tg=true)(hp:(isTup v&&isTup tg)=false)(S5:swapsWithSole [tg] v pos.line X.env=pure false):PS X (.Assign [tg] v pos) (qc X F Φ (.asg t e)):=by
 obtain⟨g,hg,Cc⟩:=Ai (F:=F) L ht;have G_:(∃x p,tg=.Name x p)\/∃es n p,tg=.Tuple es n p:=by
  cases t with
  |nm i=>cases tg<;>first|exact .inl ⟨_,_,rfl⟩|exact(aad ht).elim
  |tp is=>cases tg<;>first|exact .inr ⟨_,_,_,rfl⟩|exact(aad ht).elim
 have each:(assignEach [tg] X.env).map (·.2)=[assign tg X.env]:=by
  rcases G_ with ⟨x,p,rfl⟩|⟨es,n,p,rfl⟩<;>rfl
 have hw:swappedStores [tg] v X.env=pure none:=by
  rcases G_ with ⟨x,p,rfl⟩|⟨es,n,p,rfl⟩
  ·first|rfl | (cases v<;>rfl)
  ·cases v<;>first|rfl|exact absurd hp (by simp[isTup])
 refine PS.imp (A5 (qg (F:=F) L.toLk e v he) hg S5 hw each) λD σ H hq=>?_;obtain⟨R,τ,ρ,r,Si,ev,hq⟩:=hq;obtain⟨r1,vB,ev⟩:=aB ev;obtain⟨ρ',eρ,ev⟩:=aB ev;cases ev;exact⟨R,τ,ρ,r1,Si,vB,λv H' R' τ' es hR iz rk=>Cc v σ H' _ R' τ' r1.2 ρ' r1.1 iz rk eρ λσ' zS LG=>hq σ' H' R' zS LG (Kp.of es hR)⟩
theorem Er(L:oV X S k Φ){i n:Nat}{t:Tg}{ik:IK}{x:Str}{p MZ:Pos}{gens:List Comprehension}{sc:Scope}
  (he:cj S (.comp n t caps ik es bI elt) (.ListComp jl gens sc pos)=true) (hn:lY S i (.Name x p)=true) (S5:swapsWith (.ListComp jl gens sc pos) (some (.Name x p)) MZ.line X.env=pure true) :
  PS X (.Assign [.Name x p] (.ListComp jl gens sc pos) MZ) (qc X F Φ (.asg (.nm i) (.comp n t caps ik es bI elt))):=by
 intro pins s σ H D I hq;obtain⟨R,τ,ρ,r,Si,ev,hq⟩:=hq;obtain⟨r1,vB,ev⟩:=aB ev;obtain⟨ρ',eρ,ev⟩:=aB ev;cases ev;have vB:bd (aW Φ (.comp n t caps ik es bI elt) ρ) (λd=>ok (keep (.comp n t caps ik es bI elt) d ρ))=ok r1:=vB;obtain⟨d,ed,vB⟩:=aB vB;cases vB;have hg:=Ba L hn;rw[exec_Assign_Name_used _ _ _ _ S5];refine Z_ (ace (Z_ ?_));obtain⟨⟨e0,g0,s0⟩,Yh,LZ⟩:=bz he;cases Yh;obtain⟨⟨target,iter,ifs,a⟩,OT,hz⟩:=bz LZ;obtain rfl:gens=_:=ck OT;obtain⟨hz,h6⟩:=aJ hz;obtain⟨hz,h5⟩:=aJ hz;obtain⟨hz,h4⟩:=aJ hz;obtain⟨hz,h3⟩:=aJ hz;obtain⟨hz,h2⟩:=aJ hz;obtain⟨hz,h1⟩:=aJ hz;obtain rfl:a=0:=aab hz;have hC:=ug (aab h3) h4 (λ(X':Cx) (F':ah) (L':Lk X' (S.inner target caps sc) k Φ)=>iE bI X' _ F' L' ifs h4);have run:wpAny (model X.prog X.w) X.A (comprehension (.ListComp jl [⟨target,iter,ifs,0⟩] sc pos) sc X.env (firstIterPos [⟨target,iter,ifs,0⟩] pos) (newList []) false (eval iter X.env) (some (assign (.Name x p) X.env))) (λ_ s'=>SP X pins D .next s') X.xe s:=by
  refine uh (F:=F) (k:=k) L.toLk (pQ h1) h2 (λX' F' L'=>(iD (F:=F') L' elt jl h5).1) hC ?_ (use:=some (assign (.Name x p) X.env)) (Post:=λ_ s'=>SP X pins D .next s') I Si ed ?_
  ·exact BS L.toLk (λl=>wA (F:=F) L.toLk es l) (λl=>iE es X S F L.toLk l) (λl=>mN L.toLk es l) h6
  ·intro acc C H1 s1 m zI hc IX sm rt;obtain⟨c1,c2,c3,c4,c5⟩:=hc;obtain⟨R',τ',hR,iz,rk⟩:=Hv (e:=.comp n t caps ik es bI elt) Si sm rt;have I1:Inv X pins σ H1 s1:=IX s1.heap (.refl ..);obtain⟨oC,Y9,Y_,Yq,Wt,Yn⟩:=zI;have Zx:C∉X.fs:=λz=>by
    obtain⟨_,o,ho,_⟩:=I1.ok.lX.mem z;exact absurd (aak (aag ho) c2) (aaw _)
   have I2:Inv X ((C,oC)::pins) σ H1 s1:=I1.ja λq hq=>by
    rcases List.mem_cons.mp hq with rfl|hq
    ·exact⟨Yq,c5,c1,Zx,λv z=>by rw[Wt]at z;cases z⟩
    ·exact I1.pin q (aal _ hq)
   simp only[cu]at eρ;split at eρ
   ·rename_i hi;cases eρ;obtain⟨τ2,vX⟩:=iz.set rk hi;show wpAny _ _ (assign (.Name x p) X.env (.ref acc)) _ _ _;refine aaB (hg ((C,oC)::pins) s1 σ H1 (.ref acc) (.ref acc) (λσ' H'=>σ'=σ.set i (some (.ref acc))/\H'=H1) I2 rfl ⟨rfl,rfl⟩) (λ_ s2 h2=>?_) λ_ _ z=>z;obtain⟨σ',H',I3,rfl,rfl⟩:=h2;have YS:=(I3.pin (C,oC) (aal _ aae)).1;refine⟨m,⟨oC,Y9,Y_,YS,Wt,Yn⟩,λh' B5=>?_⟩;have I4:Inv X pins (σ.set i (some (.ref acc))) H' s2:=I3.ja λq hq=>I3.pin q (aal _ (aaf _ hq));have I5:=I4.turned (t':=s2.toks) (h':=h') (it:=C) (λb o hb e=>(B5.2 b hb).trans e) c5 c1 (.inr c2) c3 c4;exact⟨_,H',I5,hq _ H' R' τ2 vX (Kp.of sm hR)⟩
   ·cases eρ
 exact Z_ (aaB run (λ_ s' h=>aaa (aaa h)) λ_ _ z=>z)
theorem II(L:oV X S k Φ){e:CE}{v:Expr}(he:cj S e v=true):PS X (.Return (some v) pos) (qc X F Φ (.ret e)):=by
 refine PS.imp (Js (qg (F:=F) L.toLk e v he)) λD σ H hq=>?_;obtain⟨R,τ,ρ,r,Si,ev,hq⟩:=hq;obtain⟨r1,vB,ev⟩:=aB ev;cases ev;exact⟨R,τ,ρ,r1,Si,vB,λv H' R' τ' es hR iz rk=>hq v H' iz.same (rk.ret iz)⟩
theorem MY(L:oV X S k Φ){e:CE}{v:Expr}(he:cj S e v=true)(Tv:gU v=false):PS X (.Expr v pos) (qc X F Φ (.ex e)):=by
 refine PS.imp (wO (iD (F:=F) L.toLk e v he).1 (n5 he Tv _ _ _)) λD σ H hq=>?_;obtain⟨R,τ,ρ,r,Si,ev,hq⟩:=hq;obtain⟨d,ed,ev⟩:=aB ev;cases ev;exact tD.intro Si ed λv H' es rv=>hq σ H' R τ (Si.go es) (Kp.of es λ_ h=>h)
theorem lO.from{D:Ends}{r:Fo×bo}(h:lO X F D R H r)(kp:Kp R H R1 H1):lO X F D R1 H1 r:=by
 obtain⟨fo,ρ'⟩:=r;cases fo with
 |nx=>exact λσ' H' R' τ' Si k2=>h σ' H' R' τ' Si (kp.trans k2)
 |rt d=>exact h
theorem MX(L:oV X S k Φ){c:CE}{a b:ag}{t:Expr}{x y:aS}(hc:cj S c t=true)(ha:mA X x (oF X F Φ a))(hb:mA X y (oF X F Φ b)):PS X (.If t x y pos) (qc X F Φ (.ifs c a b)):=by
 refine PS.imp (Nw (iD (F:=F) L.toLk c t hc).2 ha hb) λD σ H hq=>?_;obtain⟨R,τ,ρ,r,Si,ev,hq⟩:=hq;obtain⟨w,ew,ev⟩:=aB ev;refine⟨R,τ,ρ,w,Si,ew,λH1 e1=>?_⟩;cases w with
 |true=>rw[if_pos rfl]at ev ⊢;exact⟨R,τ,ρ,r,Si.go e1,ev,hq.from (Kp.of e1 λ_ h=>h)⟩
 |false=>rw[if_neg (by simp)]at ev ⊢;exact⟨R,τ,ρ,r,Si.go e1,ev,hq.from (Kp.of e1 λ_ h=>h)⟩
theorem Ar(L:oV X S k Φ){c:CE}{b:ag}{t:Expr}{x:aS}(hc:cj S c t=true)(hb:mA X x (oF X F Φ b)):PS X (.While t x [] pos) (qc X F Φ (.Im c b)):=by
 refine PS.imp (A3 L.px (iD (F:=F) L.toLk c t hc).2 hb) λD σ H hq=>?_;obtain⟨R,τ,ρ,r,Si,ev,hq⟩:=hq;obtain⟨n,hn⟩:=kR ev;refine⟨λm σ' H'=>∃R' τ' ρ',SI X F R' τ' ρ' σ' H'/\Kp R H R' H'/\de m _ ρ'=ok r,⟨n,R,τ,ρ,Si,Kp.refl R H,hn⟩,?_⟩;rintro m σ1 H1 ⟨R1,τ1,ρ1,zO,k1,e1⟩;cases m with
 |zero=>simp[de]at e1
 |succ m =>
  rw[de]at e1;obtain⟨st,es,e1⟩:=aB e1;obtain⟨w,ew,es⟩:=aB es;refine⟨R1,τ1,ρ1,w,zO,ew,λH2 e2=>?_⟩;cases w with
  |false =>
   rw[if_neg (by simp)]at es ⊢;cases es;cases e1;exact hq σ1 H2 R1 τ1 (zO.go e2) (k1.trans (Kp.of e2 λ_ h=>h))
  |true =>
   rw[if_pos rfl]at es ⊢;obtain⟨⟨fo,ρ2⟩,eb,es⟩:=aB es;refine⟨λσ' H'=>∃R' τ' ρ',SI X F R' τ' ρ' σ' H'/\Kp R H R' H'/\de m _ ρ'=ok r,λσ' H' h=>⟨m,aaL m,h⟩,R1,τ1,ρ1,(fo,ρ2),zO.go e2,eb,?_⟩;have k2:Kp R H R1 H2:=k1.trans (Kp.of e2 λ_ h=>h);cases fo with
   |nx=>cases es;exact λσ' H' R' τ' iz k3=>⟨R',τ',ρ2,iz,k2.trans k3,e1⟩
   |rt d=>cases es;cases e1;exact hq
def kE(X:Cx)(F:ah)(Φ:aY)(t:Tg)(b:ag)(R1:ah)(H1:Hp)(r:Fo×bo)(items:List DI.D)(i:Nat)(σ:St)(H:Hp):Prop :=
 ∃R' τ' ρ',SI X F R' τ' ρ' σ H/\Kp R1 H1 R' H/\dG (λd ρ=>cu t d ρ) (λρ=>aV Φ b ρ) (items.drop i) ρ'=ok r
theorem nG{g:TG}{t:Tg}{b:ag}{D:Ends}{r:Fo×bo}{items:List DI.D}{q:bt}
  (Cc:∀(v:V) (σ:St) (H:Hp) (Q:St->Hp->Prop) (R:ah) (τ:Addr->Option bt) (ρ ρ':bo) (d:DI.D),SI X F R τ ρ σ H->iy X R τ H v d->cu t d ρ=ok ρ'->(∀σ' τ',SI X F R τ' ρ' σ' H->Q σ' H)->g v σ H Q)
  (rs:aD (aX X.K H1) (nd X.K R1 (λ_=>False) (λ_=>none) H1) q 0 xs items) (hq:lO X F D R1 H1 r) (i:Nat) (x:V) (σ:St) (H:Hp) (hx:xs[i]?=some x) (h:kE X F Φ t b R1 H1 r items i σ H) :
  g x σ H λσ2 H2=>oF X F Φ b { D with nx:=kE X F Φ t b R1 H1 r items (i+1),ct:=kE X F Φ t b R1 H1 r items (i+1),bk:=D.nx } σ2 H2:=by
 obtain⟨R',τ',ρ',Si,kp,ef⟩:=h;obtain⟨d,hd,rd⟩:=rs.vz hx;have hi:i<items.length:=by
  by_cases hi:i<items.length
  ·exact hi
  ·rw[List.getElem?_eq_none (by left)]at hd;cases hd
 have tT:items.drop i=d::items.drop (i+1):=by
  rw[List.drop_eq_getElem_cons hi];rw[List.getElem?_eq_getElem hi]at hd;cases hd;rfl
 rw[tT,dG]at ef;obtain⟨ρ1,e1,ef⟩:=aB ef;obtain⟨⟨fo,ρ2⟩,e2,ef⟩:=aB ef;refine Cc x σ H _ R' τ' ρ' ρ1 d Si (l8 (Rep.qE (kp.rep rd))) e1 λσ' zS iz=>⟨R',zS,ρ1,(fo,ρ2),iz,e2,?_⟩
 cases fo with
 |nx=>exact λσ3 H3 R3 τ3 LF k3=>⟨R3,τ3,ρ2,LF,kp.trans k3,ef⟩
 |rt d=>cases ef;exact hq
theorem md{t:Tg}{b:ag}{D:Ends}{r:Fo×bo}{items:List DI.D}{n:Nat}(hn:n=items.length)(hq:lO X F D R1 H1 r)(σ:St)(H:Hp)(h:kE X F Φ t b R1 H1 r items n σ H):D.nx σ H:=by
 obtain⟨R',τ',ρ',Si,kp,ef⟩:=h;subst hn;rw[List.drop_length,dG]at ef;cases ef;exact hq σ H R' τ' Si kp
theorem xE(ρ:bo):jj [] ρ=ρ:=by
 unfold jj;apply acg;intro i;rw[List.getElem?_mapIdx];cases ρ[i]? with
 |none=>rfl
 |some o=>simp
theorem xH{v:V}{d:DI.D}(Si:SI X F R τ ρ σ H)(es:aI H H')(r:bR X.K (gP X F) R τ fv H H' v d):
  ∃R' τ',(∀p,R p->R' p)/\SI X F R' τ' (if aU bD d then jj fv ρ else ρ) σ H'/\Rep (aX X.K H') (nd X.K R' (λ_=>False) (λ_=>none) H') [] v (aA aK d):=by
 by_cases ha:aU bD d=true
 ·rw[if_pos ha];exact qZ Si es r
 ·rw[if_neg ha];have r':bR X.K (gP X F) R τ [] H H' v d:=by
   obtain⟨τt,fr,rp⟩:=r;exact⟨τt,fr,Rep.jY (P:=bD) (λ_ _ h=>h) (λk p xs f hf h=>by
    cases f with
    |ow=>exact h
    |fz=>exact h
    |al=>cases hf
    |sc=>exact h) rp (by simpa using ha)⟩
  have:=qZ Si es r';rw[xE]at this;exact this
theorem Cu{ds:List DI.D}(Si:SI X F R τ ρ σ H)(es:aI H H')(r:cz X.K (gP X F) R τ fv H H' vs ds):
  ∃R' τ',(∀p,R p->R' p)/\SI X F R' τ' (if aN bD ds then jj fv ρ else ρ) σ H'/\aD (aX X.K H') (nd X.K R' (λ_=>False) (λ_=>none) H') [] 0 vs (av aK ds):=by
 by_cases ha:aN bD ds=true
 ·rw[if_pos ha];exact tX Si es r
 ·rw[if_neg ha];have r':cz X.K (gP X F) R τ [] H H' vs ds:=by
   obtain⟨τt,fr,rp⟩:=r;exact⟨τt,fr,aD.jY (P:=bD) (λ_ _ h=>h) (λk p xs f hf h=>by
    cases f with
    |ow=>exact h
    |fz=>exact h
    |al=>cases hf
    |sc=>exact h) rp (by simpa using ha)⟩
  have:=tX Si es r';rw[xE]at this;exact this
def Xi(X:Cx)(F:ah)(Φ:aY)(p:Nat)(cs:aE):TI:=λσ H Rr=>∃R τ ρ xs d items,SI X F R τ ρ σ H/\cP Φ cs ρ=ok xs/\Φ p xs=ok d/\oJ d=ok items /\
 ∀J H2 vs,aI H H2->cz X.K (gP X F) R τ (dw cs) H H2 vs xs->LC X.K J H2 vs xs items->Rr J H2
theorem Ep(L:oV X S k Φ){t:Tg}{p:Nat}{b:ag}{x:aS}(ht:ze S t tg=true)(hi:S.px.pi p S.sc S.bl iter=some args)(hc:bY S cs args=true)(Kl:QN iter=true)(Yk:(decide (1100<=p)||gS tg)=true)(hb:mA X x (oF X F Φ b)):PS X (.For tg iter x [] pos) (qc X F Φ (.fr t (.EW p cs) b)):=by
 obtain⟨g,hg,Cc⟩:=Ai (F:=F) L ht;have nC:∀y,foldedSetIterable iter X.env y=pure y:=by
  intro y;cases iter<;>first|rfl | (cases Kl;done)
 have pi:PI X tg iter (Xi X F Φ p cs):=λpins s σ H Rr I ⟨R,τ,ρ,xs,d,items,Si,cp,ed,ei,hR⟩ =>
  L.pr.i X _ _ k L.toLk.pX p iter args hi F cs tg Yk (mN L.toLk cs args hc) pins s σ H R τ ρ xs d items I Si cp ed ei Rr hR
 refine PS.imp (qq L.px L.calm pi hg hb nC) λD σ H hq=>?_;obtain⟨R,τ,ρ,r,Si,ev,hq⟩:=hq;obtain⟨⟨items,ρ1⟩,ei,ef⟩:=aB ev;obtain⟨xs,cp,ei⟩:=aB ei;obtain⟨d,ed,ei⟩:=aB ei;obtain⟨SJ,Ze,ei⟩:=aB ei;cases ei;refine⟨R,τ,ρ,xs,d,items,Si,cp,ed,Ze,λJ H2 vs e2 EI yz=>?_⟩;obtain⟨R',τ',hR,iz,rs⟩:=Cu Si e2 EI;have yR:=hq.from (Kp.of e2 hR);refine⟨λi m σ' H'=>m=items.length - i/\i<=items.length/\kE X F Φ t b R' H2 r items i σ' H',⟨_,rfl,aaH _,R',τ',_,iz,Kp.refl R' H2,by rw[List.drop_zero];exact ef⟩,?_⟩;rintro i m σ1 H1 ⟨rfl,Wm,hf⟩;obtain⟨R1,τ1,ρ2,zO,k1,e1⟩:=id hf;have Ni:=k1.R5 rs;have RP:uy X.K H2 vs xs H1:=⟨⟨R',rs,k1.l⟩,λa ys h=>k1.QE h⟩
 by_cases ig:i<items.length
 ·refine .inr ⟨yz.go i H1 R1 RP Ni ig,λσ' H'=>kE X F Φ t b R' H2 r items (i+1) σ' H',λσ' H' h=>⟨items.length - (i+1),by left,rfl,ig,h⟩,λv H3 hy=>?_⟩;obtain⟨e3,dd,hd,rd⟩:=yz.uD i H1 R1 v H3 RP Ni ig hy;have tT:items.drop i=dd::items.drop (i+1):=by
   rw[List.drop_eq_getElem_cons ig];rw[List.getElem?_eq_getElem ig]at hd;cases hd;rfl
  rw[tT,dG]at e1;obtain⟨ρ3,eb,e1⟩:=aB e1;obtain⟨⟨fo,ρ4⟩,e4,e1⟩:=aB e1;have k3:Kp R' H2 R1 H3:=k1.trans (Kp.of e3 λ_ h=>h);refine Cc v σ1 H3 _ R1 τ1 ρ2 ρ3 dd (zO.go e3) (l8 rd) eb λσ' zS LG=>⟨R1,zS,ρ3,(fo,ρ4),LG,e4,?_⟩
  cases fo with
  |nx=>exact λσ3 H4 R3 τ3 LF k4=>⟨R3,τ3,ρ4,LF,k3.trans k4,e1⟩
  |rt d=>cases e1;exact yR
 ·exact .inl ⟨yz.stop i H1 R1 RP Ni (by left),md (n:=i) (by left) yR σ1 H1 hf⟩
theorem aD.ints{T:lL}{N:iA}:∀(is:aa) {k:bt} {n:Nat},aD T N k n (is.map V.int) (is.map DI.D.int)
 |[],_,_=>.nil
 |i::is,_,_=>.cons (.int i) (aD.ints is)
set_option tactic.hygienic true in
theorem IL(L:oV X S k Φ){t:Tg}{it:CI}{b:ag}{x:aS}(ht:ze S t tg=true)(hi:Qe S it iter=true)(Yr:(gS tg||Bo it)=true)(hb:mA X x (oF X F Φ b)):PS X (.For tg iter x [] pos) (qc X F Φ (.fr t it b)):=by
 obtain⟨g,hg,Cc⟩:=Ai (F:=F) L ht;have nC:∀y,foldedSetIterable iter X.env y=pure y:=by
  intro y;cases iter<;>first|rfl | (cases it<;>first|exact(aad hi).elim|exact(aad (aJ hi).2).elim)
 have kF:∀{lo:Int} {n:Nat} {D:Ends} {R:ah} {τ:Addr->Option bt} {ρ:bo} {σ:St} {H H1:Hp} {r:Fo×bo},SI X F R τ ρ σ H->aI H H1->lO X F D R H r ->
   dG (λd ρ=>cu t d ρ) (λρ=>aV Φ b ρ) ((List.range n).map λ(k:Nat)=>DI.D.int (lo+(k:Int))) ρ=ok r ->
   ∃W:Nat->Nat->L2.St->Hp->Prop,(∃m,W 0 m σ H1)/\∀i m σ H,W i m σ H ->
    ((zP lo n).stop i H/\D.nx σ H)\/((zP lo n).go i H/\∃N:L2.St->Hp->Prop,(∀σ' H',N σ' H'->∃m',m'<m/\W (i+1) m' σ' H')/\∀x H',(zP lo n).uD i H x H'->g x σ H' λσ2 H2=>oF X F Φ b { D with nx:=N,ct:=N,bk:=D.nx } σ2 H2):=by
  intro lo n D R τ ρ σ H H1 r Si e1 hq ef;have rs:aD (aX X.K H1) (nd X.K R (λ_=>False) (λ_=>none) H1) [] 0 ((List.range n).map λ(k:Nat)=>V.int (lo+(k:Int))) ((List.range n).map λ(k:Nat)=>DI.D.int (lo+(k:Int))):=by
   have:=aD.ints (T:=aX X.K H1) (N:=nd X.K R (λ_=>False) (λ_=>none) H1) ((List.range n).map λ(k:Nat)=>lo+(k:Int)) (k:=[]) (n:=0);rw[List.map_map,List.map_map]at this;exact this
  have yR:=hq.from (Kp.of e1 (R':=R) λ_ h=>h);refine y6 (kE X F Φ t b R H1 r _) ⟨R,τ,ρ,Si.go e1,Kp.refl R H1,by rw[List.drop_zero];exact ef⟩ (λi σ' H' FZ h=>?_) (λσ' H' h=>md (by simp) yR σ' H' h);exact nG Cc rs yR i (.int (lo+i)) σ' H' (by rw[List.getElem?_map,List.getElem?_range FZ];rfl) h
 intro pins s σ H D I Td;cases it with
 |EW p cs =>
  obtain⟨Kl,hz⟩:=aJ hi;obtain⟨args,ha,FT⟩:=bz hz;exact Ep L ht ha FT Kl (by rw[Bool.or_comm];exact Yr) hb pins s σ H D I Td
 |kF a =>
  obtain⟨R,τ,ρ,r,Si,ev,hq⟩:=Td;obtain⟨⟨items,ρ1⟩,ei,ef⟩:=aB ev;obtain⟨⟨y,as⟩,hv,hz⟩:=bz hi;obtain⟨p,Kg,rfl⟩:=cW hv;obtain⟨Wc,FT⟩:=aJ hz;obtain⟨Yd,h2⟩:=aJ Wc;obtain⟨Yc,h1⟩:=aJ Yd;obtain rfl:y=_:=aab Yc;obtain⟨e,hu,h3⟩:=bz FT;obtain rfl:as=[e]:=ck hu;have pa:PA X [e] (qb X F Φ [a]):=PA.imp (dx (iD (F:=F) L.toLk a e h3).1 gg (cy h3 _ _)) λ_ _ _ h=>by
   have:=eV h;obtain⟨R,τ,ρ,d,Si,ev,hq⟩:=this;exact⟨R,τ,ρ,d,Si,ev,λv H' e r=>gM (hq v H' e r)⟩
  refine qq L.px L.calm (pf (L.gl h1) (L.bl _ (aab h2)) pa (cy h3 _ _)) hg hb nC pins s σ H D I ?_;obtain⟨d,ed,ei⟩:=aB ei;cases d<;>try (simp at ei;done)
  rename_i n;simp at ei;obtain⟨⟨c1,c2⟩,rfl,rfl⟩:=ei;have vx:(fY:Int)=1000000:=rfl;refine⟨R,τ,ρ,[.int n],Si,by show bd (aW Φ a ρ) _=_;rw[ed];rfl,λvs H1 e1 rv=>?_⟩;obtain⟨τt,fr,rs⟩:=rv;cases rs.ints1
  ·refine⟨n,rfl,by left,by left,?_⟩;refine kF (lo:=0) Si e1 hq ?_;simpa using ef
 |seq a =>
  obtain⟨R,τ,ρ,r,Si,ev,hq⟩:=Td;obtain⟨⟨items,ρ1⟩,ei,ef⟩:=aB ev;replace hi:=aJ hi;obtain⟨d,ed,ei⟩:=aB ei;have pe:=(iD (F:=F) L.toLk a iter hi.1).1;cases d<;>try (simp at ei;done)
  ·rename_i ds;simp at ei;obtain⟨rfl,rfl⟩:=ei;refine qq L.px L.calm (A8 pe) hg hb nC pins s σ H D I (tD.intro Si ed λv H1 e1 rv=>?_);obtain⟨R',τ',hR,iz,rp⟩:=xH Si e1 rv;rw[aA]at rp;cases rp with
   | @tup _ p xs _ hp rs =>
    have yR:=hq.from (Kp.of e1 hR);refine⟨p,rfl,⟨xs,hp⟩,F_ (xs:=xs) (kE X F Φ t b R' H1 r (av aK ds)) ⟨R',τ',_,iz,Kp.refl R' H1,by rw[List.drop_zero];exact ef⟩ (λi σ' H' _ h=>?_) (λi x σ' H' hx h=>nG Cc rs yR i x σ' H' hx h) (λσ' H' h=>md (rs.length) yR σ' H' h)⟩;obtain⟨R2,τ2,ρ2,_,kp,_⟩:=h;exact kp.QE hp
  ·rename_i f ds;simp at ei;obtain⟨rfl,rfl⟩:=ei;refine qq L.px L.calm (wV pe) hg hb nC pins s σ H D I (tD.intro Si ed λv H1 e1 rv=>?_);obtain⟨R',τ',hR,iz,rp⟩:=xH Si e1 rv;rw[aA]at rp;obtain⟨p,xs,rfl,hp,rs⟩:=rp.uN;have yR:=hq.from (Kp.of e1 hR);refine⟨p,rfl,⟨xs,hp.sq⟩,Cw (xs:=xs) (kE X F Φ t b R' H1 r (av aK ds)) ⟨R',τ',_,iz,Kp.refl R' H1,by rw[List.drop_zero];exact ef⟩ (λi σ' H' _ h=>?_) (λi x σ' H' hx h=>nG Cc rs yR i x σ' H' hx h) (λσ' H' h=>md (rs.length) yR σ' H' h)⟩;obtain⟨R2,τ2,ρ2,_,kp,_⟩:=h;exact(kp.nd hp).sq
theorem vo{ρ':bo}{p:Addr}{q:bt}{n:Nd}{o:HO}(Si:SI X F R' τ' ρ' σ H1)(es:aI H H1)(hR:∀p,R p->R' p)(hp:fi H1 p n)(ht:τ' p=some q):Kp R H R' (upd H1 p o):=by
 obtain⟨o0,L5,OE,L4⟩:=fi.some hp;exact⟨hR,λa u ha e=>by
  have ne:a≠p:=λz=>by subst z;rw[Si.rt _ (hR _ ha)]at ht;cases ht
  rw[bw ne];exact es _ _ e,λa zs e=>by
  have e1:=es _ _ e;have ne:a≠p:=λz=>by subst z;rw[L5]at e1;cases e1;exact OE _ rfl
  rw[bw ne];exact e1,λa o u e=>by
  have e1:=es _ _ e;have ne:a≠p:=λz=>by subst z;rw[L5]at e1;cases e1;exact L4 _ _ rfl
  rw[bw ne];exact e1⟩
theorem iy.go{v:V}{d:DI.D}(h:iy X R τ H v d)(e:aI H H'):iy X R τ H' v d :=
 let ⟨τt,h1,h2⟩:=h;⟨τt,λp q z=>let ⟨a,b,c,d⟩:=h1 p q z;⟨a,b,c,aI.ne e d⟩,h2.imp (λ_ _ h=>aX.same e h) λ_ _ _ _ h=>nd.same e h⟩
set_option tactic.hygienic true in
theorem Sr(L:oV X S k Φ){i:Nat}(h:lY S i o=true)(hv:∀x p,o=.Name x p->m7 x=true):∃x p,o=.Name x p/\X.N[i]?=some x/\L2.Loc X.env.scope x/\PE X o (Eh i):=by
 cases o<;>try (exact(aad h).elim;done)
 rename_i x p;have hn:=hv x p rfl;replace h:=aJ h;unfold m7 at hn;simp only[Bool.and_eq_true,Bool.not_eq_true']at hn;have hN:X.N[i]?=some x:=by rw[L.N];exact aab h.1
 have hl:=L.loc h.2;exact⟨x,p,rfl,hN,hl,va hN (hl.imp id .inl) hn.1.1 hn.1.2⟩
theorem xJ{e:CE}{r:DI.D×bo}{i:Nat}{ds:List DI.D}(h:iu Φ e ρ=ok r)(ho:r.2[i]?=some (some (.lst .ow ds))):ρ[i]?=some (some (.lst .ow ds)):=by
 by_cases hv:∃j,e=.v j
 ·obtain⟨j,rfl⟩:=hv;simp only[iu]at h;split at h
  ·split at h
   ·cases h;by_cases js:i=j
    ·subst js;rw[List.getElem?_set]at ho;simp at ho
    ·rw[List.getElem?_set_ne (Ne.symm js)]at ho;exact ho
   ·cases h;exact ho
  ·cases h
 ·have h':bd (aW Φ e ρ) (λd=>ok (keep e d ρ))=ok r:=by
   cases e<;>first|exact h|exact absurd ⟨_,rfl⟩ hv
  obtain⟨d,_,er⟩:=aB h';cases er;unfold keep at ho;split at ho
  ·obtain⟨d',h1,h2⟩:=xF _ _ _ _ ho;split at h2
   ·cases d'<;>simp[aA]at h2;rename_i f ds';cases f<;>simp[aK]at h2
   ·rw[h2];exact h1
  ·exact ho
set_option tactic.hygienic true in
theorem IM(L:oV X S k Φ){i:Nat}{e:CE}{x:Str}{v:Expr}{p:Pos}(hn:lY S i (.Name x p)=true)(hx:m7 x=true)(he:cj S e v=true)(QY:(p1.endLine==p2.line)=true):PS X (.Expr (.Call (.Attribute (.Name x p) ("append" : Str) p1) [v] [] p2) pos) (qc X F Φ (.app i e)):=by
 obtain⟨_,_,z,hN,hl,pe⟩:=Sr L hn (λy q e=>by cases e;exact hx);cases z;refine PS.imp (wO (NB PySem.F.plainAttrs_list PySem.F.slot_list_append PySem.F.type_list_append yF pe (dx (qg (F:=F) L.toLk e v he) gg (cy he _ _)) (hfew:=by rw[cy he];rfl) (hline:=QY) (hs:=cy he _ _))) λD σ H hq=>?_;obtain⟨R,τ,ρ,r,Si,ev,hq⟩:=hq;obtain⟨r1,vB,ev⟩:=aB ev;split at ev
 ·rename_i ds ho;split at ev
  ·rename_i hc;cases ev;have ho:=w5 ho;obtain⟨a,xs,hv,ha,Yf,Ym,_⟩:=Si.own (xJ vB ho);refine⟨.ref a,hv,⟨rfl,_,dq.of ha⟩,R,τ,ρ,r1,Si,vB,λw H1 R1 τ1 es hR zO rk=>?_⟩;obtain⟨a1,Xe,QX,T5,Ye,Ox,Ni⟩:=zO.own ho;rw[hv]at QX;cases QX;have hz:sizeLine=16777216:=abf;have vx:fY=1000000:=rfl;refine⟨a,Xe,w,rfl,rfl,T5,by left,?_⟩;obtain⟨τ2,vX⟩:=zO.put (m:=ds.length) (g:=λys=>ys++[w]) ho hv T5 Ox Ni rk λrs r=>aD.Az rs (by simpa using r);exact hq σ _ R1 τ2 vX (vo (n:=.l _) zO es hR T5 Ox)
  ·cases ev
 ·cases ev
theorem Eo(L:oV X S k Φ){i:Nat}{c e:CE}{x:Str}{ke v:Expr}{p:Pos}(hn:lY S i (.Name x p)=true)(hx:m7 x=true)(hk:cj S c ke=true)(he:cj S e v=true)(Tv:gU v=false):PS X (.Assign [.Subscript (.Name x p) ke p1] v pos) (qc X F Φ (.setI i c e)):=by
 obtain⟨_,_,z,hN,hl,pe⟩:=Sr L hn (λy q e=>by cases e;exact hx);cases z;have hw:swappedStores [.Subscript (.Name x p) ke p1] v X.env=pure none:=by cases v<;>rfl
 have ha:∀u,assign (.Subscript (.Name x p) ke p1) X.env u=(do
   let ov <- holding [u] (eval (.Name x p) X.env)
   let iv <- holding [u,ov] (eval ke X.env)
   standAt p1
   holding [u,ov,iv] (setItem ov iv u)
   release [u,ov,iv] []):=by
  intro u;cases ke<;>first|rfl | (cases c<;>exact(aad hk).elim)
 refine PS.imp (A5 (qg (F:=F) L.toLk e v he) (Jw pe (iD (F:=F) L.toLk c ke hk).1 set_list ha) (by first|rfl | (cases v<;>rfl) | (unfold swapsWithSole;exact n5 he Tv _ _ _)) hw rfl) λD σ H hq=>?_;obtain⟨R,τ,ρ,r,Si,ev,hq⟩:=hq;obtain⟨r1,vB,ev⟩:=aB ev;obtain⟨n,en,ev⟩:=aB ev;obtain⟨d,ed,en⟩:=aB en;have en:=FR en;subst en;split at ev
 ·rename_i ds ho;split at ev
  ·rename_i j hj;cases ev;have ho:=w5 ho;obtain⟨a,xs,hv,ha,Yf,Ym,_⟩:=Si.own (xJ vB ho);refine⟨R,τ,ρ,r1,Si,vB,λw H1 R1 τ1 es hR zO rk=>?_⟩;refine⟨.ref a,hv,tD.intro zO ed λu H2 e2 ru=>?_⟩;cases ru.isInt;have vX:=zO.go e2;obtain⟨a2,Ij,QW,T4,SV,Ow,EJ⟩:=vX.own ho;rw[hv]at QW;cases QW;refine⟨a,Ij,n,j,rfl,rfl,T4,by rw[SV];exact hj,?_⟩;obtain⟨τ3,LF⟩:=vX.put (m:=j) (g:=λys=>ys.set j w) ho hv T4 Ow EJ (rk.go e2) λrs r=>aD.setAt (j:=j) rs (by simpa using r);exact hq σ _ R1 τ3 LF (vo (n:=.l _) vX (es.trans e2) hR T4 Ow)
  ·cases ev
 ·cases ev
end
section
variable {X:Cx}{S:Sx}{k:Nat}{F:ah}{Φ:aY}
theorem Ju(x:Str)(p:Pos):(Expr.Name x p).pos=p:=rfl
theorem uU{x y:Str}{px py pt LO:Pos}{kt k2:Nat}{a b:Expr}(hk:env.scope.kind=.function)(hx:env.scope.names.lookup x=some .local)(hy:env.scope.names.lookup y=some .local)(Wd:x≠y)(hl:px.line=py.line)
  (h1:[a,b].all (foldedForSure 8)=false) (h2:[a,b].all (constantsAlone 8)=false) (h3:([a,b].any λe=>match e with|.Starred ..=>true|_=>false)=false) :
  swappedStores [.Tuple [.Name x px,.Name y py] kt pt] (.Tuple [a,b] k2 LO) env=pure (some [x,y]):=by
 have hb:env.blockKind=.function:=by unfold Env.blockKind;rw[hk];rfl
 have kx:env.kindOf x=some .local:=hx;have ky:env.kindOf y=some .local:=hy;have e1:([x,y].eraseDups.length != [x,y].length)=false:=by
  have:¬ (y==x)=true:=by simp;exact λz=>Wd z.symm
  have h':(y==x)=false:=by simpa using this
  simp[List.eraseDups_cons,List.filter,h',Wd]
 unfold swappedStores;simp only[hb,h3,List.filterMap_cons,List.filterMap_nil,kx,ky,hl,Ju,List.head?_cons,Option.map_some,Option.getD_some,h1,h2];simp only[beq_self_eq_true,Bool.and_self,if_true];rw[if_neg (by simp)];refine(ab8 ?_).trans ?_
 ·intro z;exact aad (h3.symm.trans z)
 rw[if_neg (by
  rw[e1];simp),if_neg Bool.false_ne_true,if_neg Bool.false_ne_true]
theorem mU{kp:bt}{v:V}{d:DI.D}(h:Rep (aX X.K H) (nd X.K R A τ H) kp v d)(hf:aU anyF d=false):iy X R' τ' H v d :=
 ⟨λ_=>none,λ_ _ h=>by simp at h,Rep.without (P:=anyF) (λ_ _ h=>h) (λk k' p xs f hf h=>by cases hf) h hf _⟩
theorem IJ(L:oV X S k Φ){i j:Nat}{a b:CE}{v:Expr}(he:cj S (.tup [a,b]) v=true)(hp:C6 S i j tg v=true):PS X (.Assign [tg] v pos) (qc X F Φ (.par i j a b)):=by
 obtain⟨ts,QX,q1⟩:=bz hp;obtain⟨kt,pt,rfl⟩:=j0 QX;obtain⟨⟨t1,t2⟩,QW,q2⟩:=bz q1;obtain rfl:ts=[t1,t2]:=jx QW;obtain⟨⟨x,px⟩,hv3,q3⟩:=bz q2;obtain rfl:t1=_:=wc hv3;obtain⟨⟨y,py⟩,hv4,q4⟩:=bz q3;obtain rfl:t2=_:=wc hv4;obtain⟨vs,Yg,q5⟩:=bz q4;obtain⟨k2,LO,rfl⟩:=j0 Yg;obtain⟨⟨ea,eb⟩,hv6,q6⟩:=bz q5;obtain rfl:vs=[ea,eb]:=jx hv6
 ·obtain⟨q7,DR⟩:=aJ q6;obtain⟨q8,h9⟩:=aJ q7;obtain⟨q9,h8⟩:=aJ q8;obtain⟨Sf,h7⟩:=aJ q9;obtain⟨X0,h6⟩:=aJ Sf;obtain⟨XZ,h5⟩:=aJ X0;obtain⟨XY,h4⟩:=aJ XZ;obtain⟨XX,h3⟩:=aJ XY;obtain⟨h1,h2⟩:=aJ XX;replace h1:S.N[i]?=some x:=aab h1;replace h2:S.N[j]?=some y:=aab h2;replace h3:=aab h3;replace h4:=aab h4;replace h5:=aab h5;replace h6:=aab h6;replace h7:=aab h7;replace h8:=lC h8;replace h9:=lC h9;replace DR:=aab DR;replace he:=aJ he;have pa:=wA (F:=F) L.toLk [a,b] [ea,eb] he.1;refine PS.imp (Jt L.calm L.nd (by rw[L.N];exact h1) (by rw[L.N];exact h2) h3 (by rw[L.sc];exact h4) (by rw[L.sc];exact h5) pa (uU (by rw[L.sc];exact L.fk) (by rw[L.sc];exact h4) (by rw[L.sc];exact h5) h6 h7 h8 h9 DR)) λD σ H hq=>?_;obtain⟨R,τ,ρ,r,Si,ev,hq⟩:=hq;obtain⟨d1,Zg,ev⟩:=aB ev;obtain⟨d2,Zf,ev⟩:=aB ev;simp only[Hy]at ev;obtain⟨⟨f1,f2,l1,l2⟩,rfl⟩:=ev;refine⟨R,τ,ρ,[d1,d2],Si,by show bd (aW Φ a ρ) _=_;rw[Zg];show bd (bd (aW Φ b ρ) _) _=_;rw[Zf];rfl,λvs H1 e1 rv=>?_⟩;obtain⟨τt,fr,rs⟩:=rv;obtain⟨v1,v2,rfl,r1,r2⟩:=rs.two
  ·obtain⟨τ1,S1⟩:=(Si.go e1).set (i:=i) (mU r1 f1) l1;obtain⟨τ2,S2⟩:=S1.set (i:=j) (mU r2 f2) (by simpa using l2);exact⟨v1,v2,rfl,hq _ H1 R τ2 S2 (Kp.of e1 λ_ h=>h)⟩
mutual
theorem IQ(L:oV X S k Φ):∀(c:CS) (st:Stmt),Qc S c st=true->PS X st (qc X F Φ c)
 |.asg t e,st,h=>by
  obtain⟨⟨G_,v⟩,v1,q1⟩:=bz h;obtain⟨pos,rfl⟩:=l5 v1;obtain⟨tg,v2,q2⟩:=bz q1;obtain rfl:G_=[tg]:=ck v2;obtain⟨q3,h4⟩:=aJ q2;obtain⟨q4,h3⟩:=aJ q3;obtain⟨h1,h2⟩:=aJ q4;have h1:cj S e v=true:=h1;replace h3:(isTup v&&isTup tg)=false:=lC h3;cases hc:gU v with
  |false=>exact As L h1 h2 h3 (n5 h1 hc _ _ _)
  |true =>
   have h4:(!gU v||isNm tg)=true:=h4;rw[hc]at h4;obtain⟨x,p,rfl⟩:=l_ h4;obtain⟨jl,gens,sc,Ms,rfl⟩:=yO hc;cases e<;>try (exact(aad h1).elim)
   cases t with
   |tp is=>exact(aad h2).elim
   |nm i =>
    cases hb:RN S (.Name x p) (.ListComp jl gens sc Ms)with
    |true=>exact Er L h1 h2 (by rw[He L,hb])
    |false=>exact As L h1 h2 h3 (by
      show swapsWith (.ListComp jl gens sc Ms) (some (.Name x p)) pos.line X.env=_;rw[He L,hb])
 |.par i j a b,st,h=>by
  obtain⟨⟨G_,v⟩,v1,q1⟩:=bz h;obtain⟨pos,rfl⟩:=l5 v1;obtain⟨tg,v2,q2⟩:=bz q1;obtain rfl:G_=[tg]:=ck v2;exact IJ L (aJ q2).1 (aJ q2).2
 |.ret e,st,h=>by
  obtain⟨z,v1,q1⟩:=bz h;obtain⟨pos,rfl⟩:=D4 v1;obtain⟨v,v2,q2⟩:=bz q1;obtain rfl:z=some v:=v2;exact II L q2
 |.rs c,st,h=>λ_ _ _ _ _ _ bP=>by obtain⟨R,τ,ρ,r,Si,ev,hq⟩:=bP;cases ev
 |.ex e,st,h=>by
  obtain⟨v,v1,q1⟩:=bz h;obtain⟨pos,rfl⟩:=uO v1;exact MY L (aJ q1).1 (lC (aJ q1).2)
 |.mut p i es,st,h=>by
  obtain⟨⟨o,args⟩,ha,q1⟩:=bz h;obtain⟨q2,h3⟩:=aJ q1;obtain⟨h1,h2⟩:=aJ q2;obtain⟨x,pp,rfl,hN,hl,pe⟩:=Sr L h1 (λy q e=>by cases e;exact h2);exact L.pm.m X _ _ k L.toLk.pX L.nd L.Ga p st x pp args ha i hN hl pe F es (mN L.toLk es args h3)
 |.app i e,st,h=>by
  obtain⟨c,v1,q1⟩:=bz h;obtain⟨pos,rfl⟩:=uO v1;obtain⟨⟨fn,as,ks,p2⟩,v2,q2⟩:=bz q1;obtain rfl:c=_:=oY v2;obtain⟨q3,q4⟩:=aJ q2;obtain rfl:ks=[]:=nv q3;obtain⟨⟨o,a,p1⟩,v3,q5⟩:=bz q4;obtain rfl:fn=_:=se v3;obtain⟨q6,q7⟩:=aJ q5;obtain⟨v,v4,h4⟩:=bz q7;obtain rfl:as=[v]:=ck v4;obtain⟨q8,h5⟩:=aJ q6;obtain⟨q9,h2⟩:=aJ q8;obtain⟨Sf,h1⟩:=aJ q9;obtain rfl:a=_:=aab Sf;obtain⟨x,p,rfl⟩:∃x p,o=.Name x p:=xV h1;exact IM L h1 h2 h4 h5
 |.setI i k e,st,h=>by
  obtain⟨⟨G_,v⟩,v1,q1⟩:=bz h;obtain⟨pos,rfl⟩:=l5 v1;obtain⟨tg,v2,q2⟩:=bz q1;obtain rfl:G_=[tg]:=ck v2;obtain⟨⟨o,ke⟩,v3,q3⟩:=bz q2;obtain⟨p1,rfl⟩:=i5 v3;obtain⟨q4,h5⟩:=aJ q3;obtain⟨q5,h4⟩:=aJ q4;obtain⟨q6,h3⟩:=aJ q5;obtain⟨h1,h2⟩:=aJ q6;obtain⟨x,p,rfl⟩:∃x p,o=.Name x p:=xV h1;exact Eo L h1 h2 h3 h4 (lC h5)
 |.ifs c a b,st,h=>by
  obtain⟨⟨t,x,y⟩,v1,q1⟩:=bz h;obtain⟨pos,rfl⟩:=D6 v1;obtain⟨q2,h3⟩:=aJ q1;obtain⟨h1,h2⟩:=aJ q2;exact MX L h1 (i7 L a _ h2) (i7 L b _ h3)
 |.Im c b,st,h=>by
  obtain⟨⟨t,x,y⟩,v1,q1⟩:=bz h;obtain⟨pos,rfl⟩:=D2 v1;obtain⟨q2,h3⟩:=aJ q1;obtain⟨h1,h2⟩:=aJ q2;obtain rfl:y=[]:=nv h1;exact Ar L h2 (i7 L b _ h3)
 |.fr t it b,st,h=>by
  obtain⟨⟨tg,iter,x,y⟩,v1,q1⟩:=bz h;obtain⟨pos,rfl⟩:=D7 v1;obtain⟨q2,h5⟩:=aJ q1;obtain⟨q3,h4⟩:=aJ q2;obtain⟨q4,h3⟩:=aJ q3;obtain⟨h1,h2⟩:=aJ q4;obtain rfl:y=[]:=nv h1;exact IL L h2 h3 h4 (i7 L b _ h5)
theorem i7(L:oV X S k Φ):∀(cs:ag) (eH:aS),kr S cs eH=true->mA X eH (oF X F Φ cs)
 |[],[],_=>mA.imp EU λD σ H bP=>by obtain⟨R,τ,ρ,r,Si,ev,hq⟩:=bP;cases ev;exact hq σ H R τ Si (Kp.refl R H)
 |[],_::_,h=>by exact(aad h).elim
 |_::_,[],h=>by exact(aad h).elim
 |c::cs,st::eH,h=>by
  replace h:=aJ h;have h1:PS X st (qc X F Φ c):=IQ L c st h.1;have h2:mA X eH (oF X F Φ cs):=i7 L cs eH h.2;refine mA.imp (A2 h1 h2) λD σ H hq=>?_;obtain⟨R,τ,ρ,r,Si,ev,hq⟩:=hq;obtain⟨⟨fo,ρ1⟩,e1,ev⟩:=aB ev;refine⟨R,τ,ρ,(fo,ρ1),Si,e1,?_⟩;cases fo with
  |nx=>exact λσ' H' R' τ' iz kp=>⟨R',τ',ρ1,r,iz,ev,hq.from kp⟩
  |rt d=>cases ev;exact hq
end
end
variable {mg:Str->Option Value}{ps:ai}{qual:Str}
theorem tY{x:Str}{f:Addr}{fd:FuncData}{k:Nat}{N bl:ai}{cs:List (Str×GK)}{px:Px}{Ga:Nat->Option Str}{m:aw}{body:ag}
  (Fu:G3 K x qual st f fd) (Sc:jh N ps (bE st)) (Kr:kr ⟨bE st,N,Ga,bl,cs,px⟩ body (dB st)=true) (Kl:v_ px Φ) (Tf:LH px Φ)
  (F4:∀y∈bl,mg y=none) (pA:∀y i,(y,i)∈cs->∃u,mg y=some u/\G1 K i u)
  (DN:∀g y,Ga g=some y->∃(f:Addr) (fd:FuncData) (ps:ai),jn P w K mg base zQ k f fd ps (Es K ps.length (Φ g))/\mg y=some (.ref f)/\PySem.W.keepIn K (.ref f)=true/\Binds K fd ps []/\∀ds r,Φ g ds=ok r->ds.length=ps.length)
  (hm:∀ds r,m ds=ok r->ds.length=ps.length/\ql Φ N.length body ds=ok r):jn P w K mg base zQ (k+1) f fd ps (Es K ps.length m):=by
 refine Fu.ok (N:=N) Sc (λvs H Q E ⟨_,_,_,h,_⟩=>h) λju A outer s H vs Q E hr DK=>?_;obtain⟨F,ds,r,hl,rs,er,hq⟩:=DK;obtain⟨Z6,B6⟩:=hm ds r er
 let X:=(vL zQ P w K mg base N qual (bE st) f ju A outer s H E).NQ
 have L:oV X ⟨bE st,N,Ga,bl,cs,px⟩ k Φ:=⟨⟨rfl,rfl,Sc.nd,rfl,hr,F4,λg y h=>⟨DN g y h⟩,pA,Kl⟩,λ_=>rfl,PassesOwn.never,Sc.kind,Tf⟩
 refine⟨oF X F Φ body,i7 L body _ Kr,?_⟩;unfold ql at B6;obtain⟨⟨fo,ρ'⟩,eb,B6⟩:=aB B6;have hpl:ps.length<=N.length:=by have:=aa5 List.length Sc.pre;rw[List.length_take]at this;left
 have L0:vs.length=ds.length:=rs.length;refine⟨λp=>F p/\H p≠none,λ_=>none,_,(fo,ρ'),⟨?_,λi d hi=>?_,λ_ _=>rfl,λp h=>h.2,λp h=>.inl h.1,λ_ _ h=>by simp at h,λ_ _ h=>by simp at h,aI.refl H⟩,eb,?_⟩
 ·unfold L2.start;simp[L0]
 ·have OQ:i<ds.length:=by
   by_cases jD:i<ds.length
   ·exact jD
   ·rw[List.getElem?_append_right (by simpa using jD)]at hi;rw[List.getElem?_replicate]at hi;split at hi<;>simp at hi
  rw[List.getElem?_append_left (by simpa using OQ),List.getElem?_map]at hi;have hd:ds[i]?=some d:=by
   cases q:ds[i]? with
   |none=>rw[q]at hi;cases hi
   |some z=>rw[q]at hi;simp at hi;rw[hi]
  obtain⟨v,hv,rv⟩:=rs.get hd;refine⟨v,?_,rv.imp (q:=[0+i]) (q':=[i]) (λ_ _ h=>h) λc p xs f h=>?_⟩
  ·unfold L2.start;rw[List.getElem?_append_left (by rw[List.length_map,L0];exact OQ),List.getElem?_map,hv];rfl
  ·cases f with
   |ow=>exact nomatch h.2
   |fz=>exact⟨h.1,h.2,h.1.ne⟩
   |al=>exact h.2.elim
   |sc=>exact h
 ·cases fo with
  |nx =>
   cases B6;exact λσ' H' R' τ' iz kp=>hq .bF H' iz.same ⟨λ_=>none,λ_ _ h=>by simp at h,.bF⟩
  |rt d =>
   cases B6;exact λv H' es rr=>hq v H' es rr
structure Ent(P:aF)(w:World)(K:ao)(mg:bc)(base:Heap)(k:Nat)(y:Str)(m:aw):Prop where
 ex:∃(f:Addr) (fd:FuncData) (ps:ai),jn P w K mg base zQ k f fd ps (Es K ps.length m)/\mg y=some (.ref f)/\PySem.W.keepIn K (.ref f)=true/\Binds K fd ps []/\∀ds r,m ds=ok r->ds.length=ps.length
theorem Ent.up{k k':Nat}{y:Str}{m:aw}(h:Ent P w K mg base k y m)(hk:k<=k'):Ent P w K mg base k' y m:=by
 obtain⟨f,fd,ps,h1,h2⟩:=h.ex;exact⟨f,fd,ps,h1.mono hk,h2⟩
theorem ent{x:Str}{f:Addr}{fd:FuncData}{k:Nat}{N bl:ai}{cs:List (Str×GK)}{px:Px}{Ga:Nat->Option Str}{m:aw}{body:ag}
  (Fu:G3 K x qual st f fd) (hmg:mg x=some (.ref f)) (hb:Binds K fd ps []) (Sc:jh N ps (bE st)) (Kr:kr ⟨bE st,N,Ga,bl,cs,px⟩ body (dB st)=true) (Kl:v_ px Φ) (Tf:LH px Φ) (F4:∀y∈bl,mg y=none) (pA:∀y i,(y,i)∈cs->∃u,mg y=some u/\G1 K i u)
  (DN:∀g y,Ga g=some y->Ent P w K mg base k y (Φ g)) (hm:∀ds r,m ds=ok r->ds.length=ps.length/\ql Φ N.length body ds=ok r):Ent P w K mg base (k+1) x m :=
 ⟨f,fd,ps,tY Fu Sc Kr Kl Tf F4 pA (λg y h=>(DN g y h).ex) hm,hmg,Fu.kp,hb,λds r h=>(hm ds r h).1⟩
noncomputable def dK{α:Type}(P:α->Prop):List α->Prop
 |[]=>True
 |a::l=>P a/\dK P l
theorem dK.mem{α:Type}{P:α->Prop}:∀{l:List α},dK P l->∀a∈l,P a
 |[],_,_,h=>by cases h
 |_::_,h,_,hm=>(List.mem_cons.mp hm).elim (λe=>e▸h.1) (dK.mem h.2 _)
theorem dK.tab{β:Type}{P:Nat->β->Prop}:∀{l:List (Nat×β)},dK (λp=>P p.1 p.2) l->∀g y,l.lookup g=some y->P g y
 |[],_,_,_,h=>by cases h
 | (k,b)::l,h,g,y,e=>by
  rw[List.lookup_cons]at e;cases hg:g==k with
  |true=>rw[hg]at e;cases e;rw[eq_of_beq hg];exact h.1
  |false=>rw[hg]at e;exact dK.tab h.2 g y e
theorem dK.two{β γ:Type}{P:β->γ->Prop}{l:List (β×γ)}(h:dK (λp=>P p.1 p.2) l)(y:β)(i:γ)(hm:(y,i)∈l):P y i:=dK.mem h _ hm
theorem Ob{α:Type}{l:List α}(h:l.length=1):∃a,l=[a]:=List.length_eq_one_iff.mp h
theorem Oa{α:Type}{l:List α}(h:l.length=2):∃a b,l=[a,b]:=by
 cases l with
 |nil=>cases h
 |cons a l=>obtain⟨b,rfl⟩:=Ob (Nat.succ.inj h);exact⟨a,b,rfl⟩
theorem N_{α:Type}{l:List α}(h:l.length=3):∃a b c,l=[a,b,c]:=by
 cases l with
 |nil=>cases h
 |cons a l=>obtain⟨b,c,rfl⟩:=Oa (Nat.succ.inj h);exact⟨a,b,c,rfl⟩
theorem Sw{α:Type}{l:List α}(h:l.length=4):∃a b c d,l=[a,b,c,d]:=by
 cases l with
 |nil=>cases h
 |cons a l=>obtain⟨b,c,d,rfl⟩:=N_ (Nat.succ.inj h);exact⟨a,b,c,d,rfl⟩
noncomputable def nA:ab->Option (aa)
 |[]=>some []
 |.int i::ds=>(nA ds).map (i :: ·)
 |_::_=>none
theorem ny:∀ns:aa,nA (ns.map D.int)=some ns
 |[]=>rfl
 |n::ns=>by simp[nA,ny ns]
theorem s_:∀{ds:ab} {ns:aa},nA ds=some ns->ds=ns.map D.int
 |[],ns,h=>by simp[nA]at h;subst h;rfl
 |d::ds,ns,h=>by
  cases d<;>simp[nA]at h;obtain⟨ms,h1,rfl⟩:=h;rw[s_ h1];rfl
def qF:aw
 |[.lst .sc ds]=>match nA ds with
  |some ns=>if ns.length<=63 then ok (.bl true)else none
  |none=>none
 |_=>none
theorem FC(h:ns.length<=63):qF [.lst .sc (ns.map D.int)]=ok (.bl true):=by
 simp[qF,ny,h]
set_option tactic.hygienic true in
theorem BA{n:Nat}{b:ag}(h:∀ns:aa,ns.length<=63->ql Φ n b [.lst .sc (ns.map D.int)]=ok (.bl true)):∀ds r,qF ds=ok r->ds.length=1/\ql Φ n b ds=ok r:=by
 intro ds r e
 match ds,e with
 |[.lst .sc ds],e =>
  simp only[qF]at e;split at e
  ·rename_i ns zI;split at e
   ·rename_i hl;cases e;obtain rfl:=s_ zI;exact⟨rfl,h ns hl⟩
   ·cases e
  ·cases e
theorem J7(K:ao)(H:Hp)(a:Addr)(ns:aa)(m:aw)(hm:m [.lst .sc (ns.map D.int)]=ok (.bl true))(hO:G0 H)(hS:dq K H a (ns.map V.int)):Es K 1 m [.ref a] H (λv _=>v=.bl true) λ_ _ _=>False:=by
 refine⟨λ_=>True,_,.bl true,rfl,.cons (.lst ?_ (aD.ints ns)) .nil,hm,λv H' _ bP=>by obtain⟨τt,_,rp⟩:=bP;cases rp;rfl⟩;rcases hS with (h|h)|h
 ·rcases hO a with z|⟨o,xs,z⟩
  ·rw[h]at z;cases z
  ·rw[h]at z;cases z
 ·exact .inl h
 ·exact .inr h
def dJ(f:Str)(sc:Scope)(bl:ai)(e:Expr):Option (aj):=(f6 e).bind λz=>(one z.2).bind λ_=>if z.1=f/\jt sc z.1=true/\z.1∈bl then some z.2 else none
theorem fC{f:Str}{sc:Scope}{bl:ai}{e:Expr}(h:dJ f sc bl e=some args):∃p pos a,e=.Call (.Name f p) [a] [] pos/\args=[a]/\jt sc f=true/\f∈bl:=by
 obtain⟨⟨x,as⟩,hv,h⟩:=bT h;obtain⟨a,hw,h⟩:=bT h;obtain⟨hc,h⟩:=gT h;cases h;obtain⟨rfl,h1,h2⟩:=hc;obtain⟨p,pos,rfl⟩:=cW hv;obtain rfl:=ck hw;exact⟨_,_,_,rfl,rfl,h1,h2⟩
section
variable {prog:aF}{w:World}{A:aG}{E:az}{s:Shared}
theorem tx{fin:Bool}{Q:Bool->Shared->Prop}:∀{aL FL:aq} {ns ms:aa} (i:Nat),IntsAre aL ns->IntsAre FL ms->fin=decide (aL.length<FL.length)->Q (HT.lexLt ns ms) s->PySem.W.KatLex prog w A true fin Q (aL.zip FL) i s
 |_,_,_,_,i,.nil,.nil,hf,h=>by subst hf;exact h
 |_,_,_,_,i,.nil,.cons _ _ _,hf,h=>by subst hf;exact h
 |_,_,_,_,i,.cons _ _ _,.nil,hf,h=>by subst hf;exact h
 |_,_,_,_,i,.cons (ns:=ns) a t h1,.cons (ns:=ms) b u h2,hf,h=>by
  rw[HT.cZ]at h;refine PySem.W.kat_cons (wpAny_eqBool_int (PySem.W.kat_go (λe=>?_) λe=>?_))
  ·have e:a=b:=by simpa using e
   rw[if_pos e]at h;exact PySem.W.kat_yes (tx (i+1) h1 h2 (by rw[hf];simp) h)
  ·have e:¬ a=b:=by simpa using e
   rw[if_neg e]at h;refine PySem.W.kat_no ?_;rw[Bool.true_and];cases i==0 with
   |true=>exact oneLt_int h
   |false=>exact PySem.W.kat_one _ _ (lt_int h)
end
noncomputable def iF(ns:aa):D:=.tup (ns.map D.int)
set_option tactic.hygienic true in
theorem Fy{n i:Nat}{xs:ab}{r:Fo×bo}(ev:vf Φ n i (nr cs xs ρ)=ok r)(ha:aN bD xs=false):∃d d',ρ[i]?=some (some d)/\Φ n (d::xs)=ok d'/\r=(.nx,ρ.set i (some d')):=by
 unfold nr at ev;rw[if_neg (by rw[ha];exact Bool.false_ne_true)]at ev;unfold vf at ev;split at ev
 ·rename_i d hd;obtain⟨d',h1,h2⟩:=aB ev;cases h2;exact⟨d,d',hd,h1,rfl⟩
 ·cases ev
set_option tactic.hygienic true in
theorem JR{n i:Nat}{xs:ab}{r:Fo×bo}(ev:vf Φ n i (nr cs xs ρ)=ok r)(ha:aN bD xs=true):∃d d',Φ n (d::av aK xs)=ok d':=by
 unfold nr at ev;rw[if_pos ha]at ev;unfold vf at ev;split at ev
 ·rename_i d hd;obtain⟨d',h1,h2⟩:=aB ev;exact⟨d,d',h1⟩
 ·cases ev
def G8(m:Str)(st:Stmt):Option (Expr×aj):=(Qx st).bind λc=>(uP c).bind λz=>(z8 z.1).bind λy=>if y.2.1=m/\z.2.2.1.isEmpty=true/\(y.2.2.endLine==z.2.2.2.line)=true then some (y.1,z.2.1)else none
theorem z5{m:Str}{as:aj}(h:G8 m st=some (o,as)):∃p1 p2 pos,st=.Expr (.Call (.Attribute o m p1) as [] p2) pos/\(p1.endLine==p2.line)=true:=by
 obtain⟨c,h1,h⟩:=bT h;obtain⟨⟨f,W2,ks,p2⟩,h2,h⟩:=bT h;obtain⟨⟨o',a,p1⟩,h3,h⟩:=bT h;obtain⟨hc,h⟩:=gT h;cases h;obtain⟨pos,rfl⟩:=uO h1;obtain rfl:=oY h2;obtain rfl:=se h3;obtain rfl:=NU hc.2.1;obtain rfl:=hc.1;exact⟨p1,p2,pos,rfl,hc.2.2⟩
section
variable {α β:Type}
noncomputable def cC:au->List α->aa->Option α
 |c'::cs,v::vs,c=>if c'=c then some v else cC cs vs c
 |_,_,_=>none
noncomputable def setC:au->List α->aa->α->List α
 |c'::cs,v'::vs,c,v=>(if c'=c then v else v')::setC cs vs c v
 |_,_,_,_=>[]
noncomputable def bL(cs:au)(c:aa):au:=if c∈cs then cs else cs++[c]
noncomputable def ux(cs:au)(as:List α)(c:aa)(a:α):List α:=if c∈cs then as else as++[a]
def cS(cs:au)(vs:List α)(c:aa)(v:α):List α:=if c∈cs then setC cs vs c v else vs++[v]
end
section
variable {zs:List (aa×Addr×Value)}{c:aa}
theorem k0:∀(zs:List (aa×Addr×Value)) (c:aa),(atKey zs c).map (·.2)=cC (zs.map (·.1)) (zs.map (·.2.2)) c
 |[],_=>rfl
 |z::zs,c=>by
  have ih:=k0 zs c;unfold atKey at ih ⊢;rw[List.find?_cons];show _=if z.1=c then some z.2.2 else cC (zs.map (·.1)) (zs.map (·.2.2)) c
  by_cases e:z.1=c
  ·rw[decide_eq_true e,if_pos e];rfl
  ·rw[decide_eq_false e,if_neg e];exact ih
theorem eN:∀(zs:List (aa×Addr×Value)) (c:aa),(atKey zs c).isSome=true ↔ c∈zs.map (·.1)
 |[],c=>by simp[atKey]
 |z::zs,c=>by
  have ih:=eN zs c;unfold atKey at ih ⊢;rw[List.find?_cons,List.map_cons,List.mem_cons];by_cases e:z.1=c
  ·rw[decide_eq_true e];simp[e]
  ·rw[decide_eq_false e];rw[ih];exact⟨.inr,λh=>h.resolve_left λz=>e z.symm⟩
theorem lj(a:Addr)(v:Value):(storedH zs c a v).map (·.1)=bL (zs.map (·.1)) c:=by
 unfold storedH bL;by_cases h:c∈zs.map (·.1)
 ·rw[if_pos ((eN zs c).mpr h),if_pos h,List.map_map];refine aam λz _=>?_;show(putAt c v z).1=z.1;unfold putAt;split<;>rfl
 ·rw[if_neg (λz=>h ((eN zs c).mp z)),if_neg h,List.map_append];rfl
theorem sC(a:Addr)(v:Value):(storedH zs c a v).map (·.2.1)=ux (zs.map (·.1)) (zs.map (·.2.1)) c a:=by
 unfold storedH ux;by_cases h:c∈zs.map (·.1)
 ·rw[if_pos ((eN zs c).mpr h),if_pos h,List.map_map];refine aam λz _=>?_;show(putAt c v z).2.1=z.2.1;unfold putAt;split<;>rfl
 ·rw[if_neg (λz=>h ((eN zs c).mp z)),if_neg h,List.map_append];rfl
theorem sV(v:Value):∀zs:List (aa×Addr×Value),(zs.map (putAt c v)).map (·.2.2)=setC (zs.map (·.1)) (zs.map (·.2.2)) c v
 |[]=>rfl
 |z::zs=>by
  show(putAt c v z).2.2::((zs.map (putAt c v)).map (·.2.2))=(if z.1=c then v else z.2.2)::setC (zs.map (·.1)) (zs.map (·.2.2)) c v;rw[sV v zs];unfold putAt;by_cases e:z.1=c
  ·rw[if_pos e,if_pos e]
  ·rw[if_neg e,if_neg e]
theorem sA(a:Addr)(v:Value):(storedH zs c a v).map (·.2.2)=cS (zs.map (·.1)) (zs.map (·.2.2)) c v:=by
 unfold storedH cS;by_cases h:c∈zs.map (·.1)
 ·rw[if_pos ((eN zs c).mpr h),if_pos h];exact sV v zs
 ·rw[if_neg (λz=>h ((eN zs c).mp z)),if_neg h,List.map_append];rfl
end
theorem rZ{c:aa}{v:V}{u:Value}(r:RelV v u):∀{cs:au} {xs:af} {us:aq},Vals xs us->Vals (setC cs xs c v) (setC cs us c u)
 |[],_,_,h=>by cases h<;>exact .nil
 |c'::cs,_,_,h=>by
  cases h with
  |nil=>exact .nil
  |cons h t =>
   refine .cons ?_ (rZ r t);show RelV (if c'=c then v else _) (if c'=c then u else _);by_cases e:c'=c
   ·rw[if_pos e,if_pos e];exact r
   ·rw[if_neg e,if_neg e];exact h
theorem oX{v:V}{u:Value}(r:RelV v u):∀{xs:af} {us:aq},Vals xs us->Vals (xs++[v]) (us++[u])
 |_,_,.nil=>.cons r .nil
 |_,_,.cons h t=>.cons h (oX r t)
theorem z3{cs:au}{us:aq}(h:Vals xs us){c:aa}{v:V}{u:Value}(r:RelV v u):Vals (cS cs xs c v) (cS cs us c u):=by
 unfold cS;by_cases e:c∈cs
 ·rw[if_pos e,if_pos e];exact rZ r h
 ·rw[if_neg e,if_neg e];exact oX r h
theorem mD:∀{cs:au} {xs:af} {us:aq} (_:Vals xs us) (c:aa),rP (cC cs xs c) (cC cs us c)
 |[],_,_,_,_=>by cases ‹Vals _ _› <;> exact True.intro
 |c'::cs,_,_,h,c=>by
  cases h with
  |nil=>exact True.intro
  |cons h t =>
   show rP (if c'=c then some _ else _) (if c'=c then some _ else _);by_cases e:c'=c
   ·rw[if_pos e,if_pos e];exact h
   ·rw[if_neg e,if_neg e];exact mD t c
section
variable {X:Cx}{pins:ak}{σ:St}{H:Hp}{s:Shared}{p b:Addr}{cs:au}{as:aZ}{xs:af}{ep:Nat}{c:aa}{A:aG}{E:az}
theorem items_int:∀{c:aa} {aL:aq},Vals (c.map V.int) aL->ItemsAre (intKind X.prog X.w) c aL
 |[],_,h=>by cases h;exact .nil
 |i::c,_,h=>by
  cases h with
  |cons h t =>
   obtain⟨t',rfl⟩:=h;exact .cons (by simp[intKind,Value.isInt]) (items_int t)
theorem qI(I:Inv X pins σ H s)(h:aX X.K H b (c.map V.int)):(tupleKind (intKind X.prog X.w)).is s.heap c b:=by
 obtain⟨aL,rv,⟨o,h1,h2,n,h3⟩,_⟩:=I.tuple h;exact⟨o,aL.toArray,n,h1,h2,h3,by simpa using items_int rv⟩
theorem rl(I:Inv X pins σ H s)(h:H p=some (.ext (DO p cs as xs ep)))(k:fe (aX X.K H) as cs):
  ∃(zs:List (aa×Addr×Value)) (o:Obj) (es:Array DictEntry),zs.map (·.1)=cs/\zs.map (·.2.1)=as/\Vals xs (zs.map (·.2.2))/\s.heap.get? p=some o/\o.ExactDict/\o.data=.dict es ep /\
   s.heap.DictOfH (tupleKind (intKind X.prog X.w)) p zs/\es.toList=zs.map (entryOfKey (tupleKind (intKind X.prog X.w)))/\cs.length<=sizeLine/\(p==sysModules)=false:=by
 obtain⟨⟨zs,o,es,e1,e2,e3,ho,hx,hd,he,hn,hl,hs⟩,_⟩:=(show cU H s.heap p (.ext (DO p cs as xs ep)) from I.du p _ h)
 refine⟨zs,o,es,e1,e2,e3,ho,hx,hd,⟨o,es,ep,ho,hx,hd,he,λz hz=>?_,by rw[e1];exact hn⟩,he,hl,hs⟩;obtain⟨j,hj⟩:=List.mem_iff_getElem?.mp hz;exact qI I (k.tup j z.2.1 z.1 (by rw[<- e2,List.getElem?_map,hj];rfl) (by rw[<- e1,List.getElem?_map,hj];rfl))
theorem dict_cls(I:Inv X pins σ H s)(h:H p=some (.ext (DO p cs as xs ep))):s.TypeIs (.ref p) "dict" /\ ∀b,Value.ref p=.ref b->∃ob,s.heap.get? b=some ob/\ob.dict=none:=by
 obtain⟨⟨zs,o,es,e1,e2,e3,ho,hx,_⟩,_⟩:=(show cU H s.heap p (.ext (DO p cs as xs ep)) from I.du p _ h)
 exact⟨⟨o,ho,hx.1⟩,λb q=>by cases q;exact⟨o,ho,hx.2.1⟩⟩
theorem GG{d:V}{r:Value}{Q:az}(hu:A.units+1<cLine)(I:Inv X pins σ H s)(h:H p=some (.ext (DO p cs as xs ep)))(k:fe (aX X.K H) as cs)(hb:aX X.K H b (c.map V.int))(rd:RelV d r)(hQ:∀w' s',Inv X pins σ H s'->RelV ((cC cs xs c).getD d) w'->Q w' s'):
  wpAny (model X.prog X.w) A (call (.builtin "dict.get") [.ref p,.ref b,r]) Q E s:=by
 obtain⟨zs,o,es,e1,e2,e3,ho,hx,hd,dd,_,hl,hs⟩:=rl I h k;refine call_meetsIn PySem.F.slot_dict_get dd.typeIs PySem.F.entry_dict_get (PySem.F.args_dict_get_3 _ _ _) (meetsH_dict_get_default (tupleKind (intKind X.prog X.w)) p b hs r) ⟨ab_ hu,c,zs,qI I hb,dd,hQ _ _ (I.tok _) ?_⟩;rw[k0,e1];have hg:=mD (cs:=cs) e3 c;cases q:cC cs xs c with
 |none =>
  rw[q]at hg;rw[rP.none_of hg];exact rd
 |some v =>
  rw[q]at hg;obtain⟨u,HA,ru⟩:=rP.some_of hg;rw[HA];exact ru
theorem vK{v:V}{r:Value}{Q:Unit->Shared->Prop}(hu:A.units+1<cLine)(I:Inv X pins σ H s)(h:H p=some (.ext (DO p cs as xs ep)))(k:fe (aX X.K H) as cs)(hb:aX X.K H b (c.map V.int))(rv:RelV v r)(ig:cs.length<sizeLine)
  (hQ:∀xM s',Inv X pins σ (upd H p (.ext (DO p (bL cs c) (ux cs as c b) (cS cs xs c v) xM))) s'->Q () s') :
  wpAny (model X.prog X.w) A (setItem (.ref p) (.ref b) r) Q E s:=by
 obtain⟨zs,o,es,e1,e2,e3,ho,hx,hd,dd,_,hl,hs⟩:=rl I h k;have hz:zs.length<=sizeLine:=by rw[<- e1,List.length_map]at hl;exact hl
 refine wpAny_setItem_heap (hsz:=hz) (ab_ hu) (qI I hb) dd λh' Zu B5=>?_;obtain⟨q,zM,xM,hq,h2,h3,h4,_,h5⟩:=Zu;refine hQ xM _ (I.write (x:=p) (by rw[h];exact True.intro) (λb q hb z=>(B5.2 b hb).trans z) ⟨q,hq⟩ ⟨⟨storedH zs c b r,q,zM,?_,?_,?_,hq,h2,h3,h4,?_,?_,hs⟩,⟨q,hq⟩,?_⟩)
 ·rw[lj,e1]
 ·rw[sC,e1,e2]
 ·rw[sA,e1];exact z3 e3 rv
 ·rw[<- e1,<- lj (zs:=zs) (c:=c) b r];exact h5
 ·unfold bL;split
  ·exact hl
  ·rw[List.length_append,List.length_singleton];left
 ·rintro h1 Y0 ⟨Qw,o',es'',f1,f2,f3,f4,f5⟩ kk;exact⟨Qw,o',es'',f1,f2,f3,kk _ f4,f5⟩
theorem E_:PE X (.Dict [] [] pos) (λ_ H Q=>∀p,H p=none->Q (.ref p) (upd H p (.ext (DO p [] [] [] 0)))):=λpins s σ H Q I h=>by
 have TY:sysModules<s.heap.objs.size:=abm (by decide) (show mainGlobals<s.heap.objs.size from(I.mod.glob.keeps I.bk).lt);refine wpAny_Dict_empty ⟨.ref s.heap.objs.size,_,I.laid (a:=s.heap.objs.size) (o:=.ext (DO s.heap.objs.size [] [] [] 0)) (t':=s.toks) (λ_ _ q=>aac _ q) (aah _) ?_,rfl,h _ (I.du.fresh (aah _))⟩;have hg:(s.heap.push { cls:=.type "dict",data:=.dict #[] }).get? s.heap.objs.size=some { cls:=.type "dict",data:=.dict #[] }:=aaj _ rfl;refine⟨⟨[],_,#[],rfl,rfl,.nil,hg,⟨rfl,rfl,rfl⟩,rfl,rfl,aaQ,aaH _,beq_eq_false_iff_ne.mpr (abj (aai TY))⟩,⟨_,hg⟩,?_⟩;rintro h1 Y0 ⟨Qw,o',es'',f1,f2,f3,f4,f5⟩ kk;exact⟨Qw,o',es'',f1,f2,f3,kk _ f4,f5⟩
end
section
variable {X:Cx}{pins:ak}{σ:St}{H:Hp}{s:Shared}{h':Heap}
theorem wg(I:Inv X pins σ H s)(hf:∀b∈ch,oj X pins H b)(k:∀b u,b∉ch->s.heap.get? b=some u->h'.get? b=some u):Inv X pins σ H { s with heap:=h',toks:=t' }:=by
 have NT:∀b u,H b=some u->b∉ch:=λb u e z=>by rw[(hf b z).1]at e;cases e
 refine I.step (g':=s.gens) (d':=s.drawn) (ch:=ch) (λb hb=>⟨(hf b hb).2.2.2.1,(hf b hb).2.1,(hf b hb).2.2.2.2.1,(hf b hb).2.2.2.2.2⟩) (λb o _ _ hc e _=>k b o hc e) (λb o _ _ hc e _=>⟨o.slots,k b o hc e⟩) (λ_ _ _ _ n=>n)
  (λb o hc e=>⟨o,k b o hc e⟩) (λ_ _ e=>e) (λ_ _ _ e=>e) (λm hm=>?_) (λb u e=>?_) I.bare
 ·obtain⟨o,es,ep,ho,r⟩:=hm;exact⟨o,es,ep,k _ o (λz=>(hf _ z).2.1 rfl) ho,r⟩
 ·exact(I.du b u e).mL λv=>k b v (NT b u e)
theorem wj{T:Addr}{o:HO}(I:Inv X pins σ H s)(hf:∀b∈ch,oj X pins H b)(k:∀b u,b∉ch->s.heap.get? b=some u->h'.get? b=some u)(hT:s.heap.objs.size<=T)(new:cU (upd H T o) h' T o):
  Inv X pins σ (upd H T o) { s with heap:=h',toks:=t' }:=by
 have NT:∀b u,H b=some u->b∉ch:=λb u e z=>by rw[(hf b z).1]at e;cases e
 have hn:H T=none:=I.du.fresh hT;have ne:∀b (u:Obj),s.heap.get? b=some u->b≠T:=λb u e z=>absurd (aag e) (by rw[z];exact Nat.not_lt.mpr hT);have up:∀b u,H b=some u->upd H T o b=some u:=λb u e=>by rw[bw (fJ e hn)];exact e
 refine I.step (g':=s.gens) (d':=s.drawn) (ch:=ch) (λb hb=>⟨(hf b hb).2.2.2.1,(hf b hb).2.1,(hf b hb).2.2.2.2.1,(hf b hb).2.2.2.2.2⟩) (λb o _ _ hc e _=>k b o hc e) (λb o _ _ hc e _=>⟨o.slots,k b o hc e⟩) (λb u _ e n=>by rw[bw (ne b u e)];exact n)
  (λb o hc e=>⟨o,k b o hc e⟩) (λ_ _ e=>up _ _ e) (λ_ _ _ e=>up _ _ e) (λm hm=>?_) (xo (λb u e=>?_) hn new) I.bare
 ·obtain⟨o,es,ep,ho,r⟩:=hm;exact⟨o,es,ep,k _ o (λz=>(hf _ z).2.1 rfl) ho,r⟩
 ·exact(I.du b u e).mL λv=>k b v (NT b u e)
end
def Vg(K:ao)(a b:Addr):It :=
  ⟨λi H=>∃xs ys x y,dq K H a xs/\dq K H b ys/\xs[i]?=some x/\ys[i]?=some y,
   λi H v H'=>∃T x y,(∀xs,dq K H a xs->xs[i]?=some x)/\(∀ys,dq K H b ys->ys[i]?=some y)/\H T=none/\v=.ref T/\H'=upd H T (.tup [x,y]),
   λi H=>∃xs ys,dq K H a xs/\dq K H b ys/\(xs.length<=i\/ys.length<=i)⟩
theorem qa{T:Addr}{x y:V}{u v:Value}(rx:RelV x u)(ry:RelV y v)(e:h.get? T=some { cls:=.type "tuple",data:=.seq #[u,v] }):cU H h T (.tup [x,y]) :=
 ⟨by rw[sizeLine_eq];simp,[u,v],.cons rx (.cons ry .nil),⟨_,e,rfl,_,rfl⟩⟩
theorem dg{a b:Addr}{o u:Obj}(ha:h.get? a=some o)(hb:h.get? b=some u)(hc:o.cls≠u.cls):a≠b:=λz=>by
 subst z;rw[ha]at hb;cases hb;exact hc rfl
theorem Ab{tp:Pos}{a b z TI TO i1 i2:Addr}(YM:TI≠TO)(Ma:i1≠i2):
  Turn P w K (.Tuple elts n1 tp) (Vg K a b) [z,TI,TO,i1,i2] z (λi h=>IsZip h z TI TO .none/\IsPair h TI (.ref i1) (.ref i2)/\(∃x y,IsPair h TO x y)/\h.IsListIter i1 a i/\h.IsListIter i2 b i):=by
 have apart:∀{h:Heap} {x y:Value} {xs ys:aR} {i:Nat},IsZip h z TI TO .none->IsPair h TI (.ref i1) (.ref i2)->IsPair h TO x y->h.IsListIter i1 a i->h.IsListIter i2 b i->h.IsList a xs->h.IsList b ys->ZipApart z TI TO i1 i2 a b:=by
  intro h x y xs ys i hz hI hO l1 l2 ha hb;obtain⟨o1,e1,c1,_⟩:=l1;obtain⟨o2,e2,c2,_⟩:=l2;obtain⟨oa,ea,ca,_⟩:=ha;obtain⟨ob,eb,cb,_⟩:=hb;exact⟨dg hI hz (by simp),dg hO hz (by simp),dg e1 hz (by rw[c1];simp),dg e2 hz (by rw[c2];simp),YM,dg hI e1 (by rw[c1];simp),dg hI e2 (by rw[c2];simp),dg hO e1 (by rw[c1];simp),dg hO e2 (by rw[c2];simp),Ma,
   dg ea hz (by rw[ca];simp),dg ea hO (by rw[ca];simp),dg ea e1 (by rw[ca,c1];simp),dg ea e2 (by rw[ca,c2];simp),dg eb hz (by rw[cb];simp),dg eb hO (by rw[cb];simp),dg eb e1 (by rw[cb,c1];simp),dg eb e2 (by rw[cb,c2];simp)⟩
 refine⟨by simp,λi h st c hc=>?_,λi h h' st k=>?_,?_,?_,λA i s Q E st hQ=>wpAny_pyIter_zip st.1 hQ⟩
 ·obtain⟨hz,hI,⟨x,y,hO⟩,⟨o1,e1,_,d1⟩,⟨o2,e2,_,d2⟩⟩:=st;simp only[List.mem_cons,List.not_mem_nil,or_false]at hc;rcases hc with rfl|rfl|rfl|rfl|rfl
  ·exact⟨_,hz,λv q=>by cases q⟩
  ·exact⟨_,hI,λv q=>by cases q⟩
  ·exact⟨_,hO,λv q=>by cases q⟩
  ·exact⟨o1,e1,λv q=>by rw[d1]at q;cases q⟩
  ·exact⟨o2,e2,λv q=>by rw[d2]at q;cases q⟩
 ·obtain⟨hz,hI,⟨x,y,hO⟩,l1,l2⟩:=st;exact⟨k z (by simp) _ hz,k TI (by simp) _ hI,⟨x,y,k TO (by simp) _ hO⟩,l1.at λo e=>k i1 (by simp) o e,l2.at λo e=>k i2 (by simp) o e⟩
 ·intro X hP hw hK hc i pins s σ H E I hf st hg;subst hP hw hK;obtain⟨xs,ys,x,y,q1,q2,ex,ey⟩:=hg;obtain⟨hz,hI,⟨x0,y0,hO⟩,l1,l2⟩:=st;obtain⟨aL,rv,p,_⟩:=I.list q1;obtain⟨its',zD,p',_⟩:=I.list q2;obtain⟨u,hu,ru⟩:=rv.get ex;obtain⟨u',HA,XO⟩:=zD.get ey;have D:=apart hz hI hO l1 l2 p.isList p'.isList;refine wpAny_pyNext_zip_item D hz hI hO l1 l2 p.isList p'.isList (x:=u) (y:=u') (by simpa using hu) (by simpa using HA) λh1 z1 o1 a1 b1 t1 MR k1=>⟨_,rfl,?_⟩
  refine wpAny_letOwnedTupleGo_zip z1 λh2 z2 DG=>?_;have Xd:s.heap.objs.size≠z:=aaq (aag hz);have kk:∀c o,c∉[z,TI,TO,i1,i2]->s.heap.get? c=some o->h2.get? c=some o:=λc o hc e=>by
   simp only[List.mem_cons,List.not_mem_nil,or_false,not_or]at hc;exact DG.extBut c o hc.1 (k1 c o hc.1 hc.2.2.1 hc.2.2.2.1 hc.2.2.2.2 e)
  have hT:h2.get? s.heap.objs.size=some { cls:=.type "tuple",data:=.seq #[u,u'] }:=DG.extBut _ _ Xd t1;have hn:H s.heap.objs.size=none:=I.du.fresh (aah _);refine⟨.ref s.heap.objs.size,upd H s.heap.objs.size (.tup [x,y]),wj (s:=s) (h':=h2) (t':=s.toks) I hf kk (aah _) (qa ru XO hT),rfl,⟨_,x,y,λzs hz=>by rw[I.iK hz q1];exact ex,λzs hz=>by rw[I.iK hz q2];exact ey,hn,rfl,rfl⟩,⟨z2,DG.extBut _ _ D.TIz (k1 _ _ D.TIz D.TITO D.TIi1 D.TIi2 hI),⟨_,_,DG.extBut _ _ D.TOz o1⟩,a1.extBut DG.extBut D.i1z,b1.extBut DG.extBut D.i2z⟩,λc hc=>?_⟩;rw[bw]
  ·exact(hf c hc).1
  ·intro z;subst z;simp only[List.mem_cons,List.not_mem_nil,or_false]at hc;rcases hc with e|e|e|e|e
   ·exact absurd (aag hz) (by rw[<- e];exact aaw _)
   ·exact absurd (aag hI) (by rw[<- e];exact aaw _)
   ·exact absurd (aag hO) (by rw[<- e];exact aaw _)
   ·obtain⟨_,w,_⟩:=l1;exact absurd (aag w) (by rw[<- e];exact aaw _)
   ·obtain⟨_,w,_⟩:=l2;exact absurd (aag w) (by rw[<- e];exact aaw _)
 ·intro X hP hw hK hc i pins s σ H E I hf st hg;subst hP hw hK;obtain⟨xs,ys,q1,q2,hl⟩:=hg;obtain⟨hz,hI,⟨x0,y0,hO⟩,l1,l2⟩:=st;obtain⟨aL,rv,p,_⟩:=I.list q1;obtain⟨its',zD,p',_⟩:=I.list q2;have e1:=rv.length;have e2:=zD.length;refine wpAny_pyNext_zip_end (I.ok.hd hc) (apart hz hI hO l1 l2 p.isList p'.isList) hz hI hO l1 l2 p.isList p'.isList (by simp;left) λh1 k1=>⟨rfl,wg (t':=s.toks) I hf λc o hc e=>?_⟩
  simp only[List.mem_cons,List.not_mem_nil,or_false,not_or]at hc;exact k1 c o hc.1 hc.2.2.1 hc.2.2.2.1 hc.2.2.2.2 e
variable {ta:TA}
theorem Jv{e1 e2:Expr}{tp p:Pos}(hg:Gl X "zip")(hm:X.mg "zip" = none)(ha:PA X [e1,e2] ta)(hs:∀es,starEach (e1::es) X.env=(false,eval e1 X.env)::starEach es X.env)(S_:∀es,starEach (e2::es) X.env=(false,eval e2 X.env)::starEach es X.env):
  PI X (.Tuple elts n1 tp) (.Call (.Name "zip" p) [e1,e2] [] pos) (λσ H R=>ta σ H λvs H1=>∃a b,vs=[.ref a,.ref b]/\(∃xs,dq X.K H1 a xs)/\(∃ys,dq X.K H1 b ys)/\R (Vg X.K a b) H1):=by
 intro pins s σ H R I h;refine Call_ (dW I hg hm boot_zip (aat (dv (ha pos pins s σ H _ I h) λus s1 bP=>?_) (hs _) (by rw[S_];rfl)));obtain⟨vs,H1,I1,r1,q1⟩:=bP;obtain⟨a,b,e,⟨xs,q1⟩,⟨ys,q2⟩,q⟩:=q1;subst e;obtain⟨u,v,rfl,ru,rv⟩:=vals2 r1;cases ru;cases rv;obtain⟨aL,_,p1,_⟩:=I1.list q1;obtain⟨its',_,p2,_⟩:=I1.list q2;refine call_zip_2 p1.isList p2.isList λh' z t o l1 l2 sz k=>wpAny_pyIter_zip z ?_;refine⟨s1.heap.objs.size+4,[s1.heap.objs.size+4,s1.heap.objs.size+2,s1.heap.objs.size+3,s1.heap.objs.size,s1.heap.objs.size+1],_,_,H1,rfl,I1.kept (t':=s1.toks) k,Ab (aai (aaL _)) (aai (aaL _)),⟨z,t,⟨_,_,o⟩,l1,l2⟩,λb hb=>?_,q⟩;have lV:s1.heap.objs.size<=b:=by
  simp only[List.mem_cons,List.not_mem_nil,or_false]at hb;rcases hb with rfl|rfl|rfl|rfl|rfl<;>first|exact Nat.le_add_right .. |exact aah _
 exact I1.Cv lV (I1.du.fresh lV)
def n6(sc:Scope)(bl:ai)(e:Expr):Option (aj):=(f6 e).bind λz=>(two z.2).bind λ_=>if z.1=("zip" : Str)/\jt sc z.1=true/\z.1∈bl then some z.2 else none
theorem pS{sc:Scope}{bl:ai}{e:Expr}(h:n6 sc bl e=some args):∃p pos a b,e=.Call (.Name ("zip" : Str) p) [a,b] [] pos/\args=[a,b]/\jt sc ("zip" : Str)=true/\("zip" : Str)∈bl:=by
 obtain⟨⟨x,as⟩,hv,h⟩:=bT h;obtain⟨⟨a,b⟩,hw,h⟩:=bT h;obtain⟨hc,h⟩:=gT h;cases h;obtain⟨rfl,h1,h2⟩:=hc;obtain⟨p,pos,rfl⟩:=cW hv;obtain rfl:=jx hw;exact⟨p,pos,a,b,rfl,rfl,h1,h2⟩
theorem mY{a b:Expr}(h:lN X F Φ cs [a,b]):(∃c d,cs=[c,d]/\PE X a (tD X F Φ c)/\PE X b (tD X F Φ d))/\PA X [a,b] (qb X F Φ cs)/\(∀es,starEach (a::es) X.env=(false,eval a X.env)::starEach es X.env)/\(∀es,starEach (b::es) X.env=(false,eval b X.env)::starEach es X.env):=by
 match cs,h with
 |[c,d],h =>
  obtain⟨h1,h2,_,h3,h4,_,_⟩:=h;exact⟨⟨c,d,rfl,h1,h3⟩,PA.imp (dx h1 (PA.imp (dx h3 (PA.imp gg λ_ _ _ h=>gM h) (h4 _)) λ_ _ _ h=>eV h) (h2 _)) λ_ _ _ h=>eV h,h2,h4⟩
 |[],h=>exact h.elim
 |[_],h=>exact h.2.2.2.elim
 |_::_::_::_,h=>exact h.2.2.2.2.2.2.elim
theorem Rep.Ru{k:bt}{v:V}{d:D}(e:aI H H')(h:Rep (aX K H) (nd K R (λ_=>False) (λ_=>none) H) k v d):Rep (aX K H') (nd K R (λ_=>False) (λ_=>none) H') k' v d :=
 (Rep.qE h (k':=k')).imp (λ_ _ h=>aX.same e h) λ_ _ _ _ h=>nd.same e h
theorem DZ{p q:Addr}{f g:Fl}{a b:ab}:LC K (Vg K p q) H2 [.ref p,.ref q] [.lst f a,.lst g b] (av aK (List.zipWith (λx y=>.tup [x,y]) a b)):=by
 have len:(av aK (List.zipWith (λx y=>D.tup [x,y]) a b)).length=min a.length b.length:=by rw[aO];simp
 have two:∀{H':Hp} {R':ah},aD (aX K H') (nd K R' (λ_=>False) (λ_=>none) H') [] 0 [.ref p,.ref q] (av aK [.lst f a,.lst g b]) ->
   ∃xs ys,dq K H' p xs/\dq K H' q ys/\aD (aX K H') (nd K R' (λ_=>False) (λ_=>none) H') [0] 0 xs (av aK a)/\aD (aX K H') (nd K R' (λ_=>False) (λ_=>none) H') [1] 0 ys (av aK b):=by
  intro H' R' h;rw[av,aA,av,aA,av]at h;cases h with
  |cons h t=>cases t with
   |cons h' t=>cases h with
    |lst h r=>cases h' with
     |lst h' r'=>exact⟨_,_,h.sq,h'.sq,r,r'⟩
 refine⟨λi H' R' _ h hi=>?_,λi H' R' x l4 _ h hi hy=>?_,λi H' R' _ h hi=>?_⟩
 ·obtain⟨xs,ys,h1,h2,r1,r2⟩:=two h;rw[len]at hi;have l1:=r1.length;have l2:=r2.length;rw[aO,List.length_map]at l1 l2;exact⟨xs,ys,xs[i]'(by left),ys[i]'(by left),h1,h2,aan _,aan _⟩
 ·obtain⟨xs,ys,h1,h2,r1,r2⟩:=two h;obtain⟨T,u,v,g1,g2,hn,rfl,rfl⟩:=hy;obtain⟨d1,e1,p1⟩:=r1.vz (g1 xs h1);obtain⟨d2,e2,p2⟩:=r2.vz (g2 ys h2);have es:aI H' (upd H' T (.tup [u,v])):=aI.upd hn;refine⟨es,.tup [d1,d2],?_,.tup (aX.of bg) (.cons (p1.Ru es) (.cons (p2.Ru es) .nil))⟩;rw[aO,List.getElem?_map]at e1 e2 ⊢;obtain⟨c1,q1,rfl⟩:=Option.map_eq_some_iff.mp e1;obtain⟨c2,q2,rfl⟩:=Option.map_eq_some_iff.mp e2;rw[List.getElem?_zipWith,q1,q2];simp[aA,av]
 ·obtain⟨xs,ys,h1,h2,r1,r2⟩:=two h;rw[len]at hi;have l1:=r1.length;have l2:=r2.length;rw[aO,List.length_map]at l1 l2;exact⟨xs,ys,h1,h2,by left⟩
theorem Ig{n:Nat}(hΦ:Φ n=zU){sc:Scope}{bl:ai}{k:Nat}(L:PX X sc bl k){e:Expr}(he:n6 sc bl e=some args)(ht:gS tg=true)(hs:lN X F Φ cs args)
  {pins:ak} {s:Shared} {xs:ab} {d:D} (I:Inv X pins σ H s) (Si:SI X F R τ ρ σ H) (cp:cP Φ cs ρ=ok xs) (ed:Φ n xs=ok d) (ei:oJ d=ok items) (Rr:It->Hp->Prop)
  (hR:∀J H2 vs,aI H H2->cz X.K (gP X F) R τ (dw cs) H H2 vs xs->LC X.K J H2 vs xs items->Rr J H2) :
  wpAny (model X.prog X.w) X.A (eval e X.env) (λv s1=>wpAny (model X.prog X.w) X.A (pyIter v) (DB X pins σ tg Rr) X.xe s1) X.xe s:=by
 obtain⟨p,pos,a,b,rfl,rfl,h1,h2⟩:=pS he;cases tg<;>try (cases ht;done)
 obtain⟨_,pa,s1,s2⟩:=mY hs;refine Jv (L.gl h1) (L.bl _ h2) pa s1 s2 pins s σ H Rr I ⟨R,τ,ρ,xs,Si,cp,λvs H1 e1 rv=>?_⟩;have RX:=rv;obtain⟨τt,fr,rs⟩:=rv;rw[hΦ]at ed;unfold zU at ed;split at ed
 ·cases ed;cases ei;obtain⟨v,w,rfl,rx,ry⟩:=rs.two;cases rx with
  |lst hx _=>cases ry with
   |lst hy _=>exact⟨_,_,rfl,⟨_,hx.sq⟩,⟨_,hy.sq⟩,hR _ H1 _ e1 RX DZ⟩
 ·cases ed
theorem i_{k:bt}{v:V}{d:D}(h:Rep T N k v d)(hf:aU anyF d=false):Rep T N' k' v d:=by
 have:=Rep.gen (T':=T) (N':=N') (g:=id) (P:=anyF) (C:=λ_ _=>True) (I:=λ_ _=>True) (λ_ _ h=>h) trivial (λ_ _ e=>e) (λ_ _ _ _ e _=>e) (λk k' p xs f _ hz _=>nomatch hz) h (k':=k') trivial hf;rw[eQ]at this;exact this
theorem mT{T:lL}{N:iA}:∀{cs:au} {k:bt} {n:Nat} {xs:af} {ds:ab} (_:aD T N k n xs ds) (c:aa),(cC cs xs c=none/\cC cs ds c=none)\/∃v d k',cC cs xs c=some v/\cC cs ds c=some d/\Rep T N k' v d/\d∈ds
 |[],_,_,_,_,_,_=>by cases ‹aD _ _ _ _ _ _› <;> exact .inl ⟨rfl,rfl⟩
 |c'::cs,_,_,_,_,r,c=>by
  cases r with
  |nil=>exact .inl ⟨rfl,rfl⟩
  | @cons _ _ v d vs ds h t =>
   by_cases e:c'=c
   ·exact .inr ⟨v,d,_,aaO e,aaO e,h,aae⟩
   ·have e1:∀{α:Type} (a:α) (l:List α),cC (c'::cs) (a::l) c=cC cs l c:=λa l=>ab8 e;rw[e1,e1];rcases mT (cs:=cs) t c with h|⟨v',d',k',h1,h2,h3,h4⟩
    ·exact .inl h
    ·exact .inr ⟨v',d',k',h1,h2,h3,aaf _ h4⟩
theorem pB{p:Fl->Bool}:∀{ds:ab},aN p ds=false->∀d∈ds,aU p d=false
 |[],_,_,h=>nomatch h
 |d::ds,h,d',hd=>by
  have h:=Be h;rcases List.mem_cons.mp hd with rfl|hd
  ·exact h.1
  ·exact pB h.2 d' hd
theorem sR{T:lL}{N:iA}{c:aa}{v:V}{d:D}(hv:∀k,Rep T N k v d):∀{cs:au} {k:bt} {n:Nat} {xs:af} {ds:ab},aD T N k n xs ds->aD T N k n (setC cs xs c v) (setC cs ds c d)
 |[],_,_,_,_,r=>by cases r<;>exact .nil
 |c'::cs,_,_,_,_,r=>by
  cases r with
  |nil=>exact .nil
  |cons h t =>
   refine .cons ?_ (sR hv t);show Rep _ _ _ (if c'=c then v else _) (if c'=c then d else _);by_cases e:c'=c
   ·rw[if_pos e,if_pos e];exact hv _
   ·rw[if_neg e,if_neg e];exact h
theorem o9{T:lL}{N:iA}{v:V}{d:D}(hv:∀k,Rep T N k v d):∀{k:bt} {n:Nat} {xs:af} {ds:ab},aD T N k n xs ds->aD T N k n (xs++[v]) (ds++[d])
 |_,_,_,_,.nil=>.cons (hv _) .nil
 |_,_,_,_,.cons h t=>.cons h (o9 hv t)
theorem AR{c:aa}{v:V}{d:D}(hv:∀k,Rep T N k v d){cs:au}{k:bt}{n:Nat}(r:aD T N k n xs ds):aD T N k n (cS cs xs c v) (cS cs ds c d):=by
 unfold cS;by_cases e:c∈cs
 ·rw[if_pos e,if_pos e];exact sR hv r
 ·rw[if_neg e,if_neg e];exact o9 hv r
theorem BI{cs:au}(k:fe T as cs){b:Addr}{c:aa}(hb:T b (c.map V.int)):fe T (ux cs as c b) (bL cs c):=by
 unfold ux bL;by_cases e:c∈cs
 ·rw[if_pos e,if_pos e];exact k
 ·rw[if_neg e,if_neg e];refine⟨by rw[List.length_append,List.length_append,k.len];rfl,λj a c' ha hc=>?_⟩;by_cases hj:j<as.length
  ·rw[List.getElem?_append_left hj]at ha;rw[List.getElem?_append_left (by rw[<- k.len];exact hj)]at hc;exact k.tup j a c' ha hc
  ·rw[List.getElem?_append_right (by left)]at ha;rw[List.getElem?_append_right (by rw[<- k.len];left),<- k.len]at hc;cases hz:j - as.length with
   |zero =>
    rw[hz]at ha hc;cases ha;cases hc;exact hb
   |succ m=>rw[hz]at ha;cases ha
theorem bR.newD{p:Addr}(hp:H p=none)(hl:H' p=some (.ext (DO p [] [] [] 0))):bR K G R τ fv H H' (.ref p) (.cM .ow [] []):=by
 refine⟨λq=>if q=p then some []else none,λq k hq=>?_,.cM (ep:=0) (as:=[]) (xs:=[]) ⟨hl,by simp⟩ ⟨rfl,λj a c h=>by simp at h⟩ .nil⟩;by_cases vv:q=p
 ·subst vv;exact hp
 ·simp[vv]at hq
noncomputable def CT(xs:ab):O D:=match xs with
 |[]=>ok (.cM .ow [] [])
 |_::_=>none
noncomputable def rq(_:Scope)(_:ai)(e:Expr):Option (aj):=match e with
 |.Dict [] [] _=>some []
 |_=>none
theorem Gz{n:Nat}(hΦ:Φ n=CT){sc:Scope}{bl:ai}{k:Nat}(L:PX X sc bl k){e:Expr}(he:rq sc bl e=some args)(hs:lN X F Φ cs args):PE X e (tD X F Φ (.bO n cs))/\PT X e (fA X F Φ (.bO n cs)):=by
 have h1:∃pos,e=.Dict [] [] pos/\args=[]:=by
  unfold rq at he;split at he
  ·cases he;exact⟨_,rfl,rfl⟩
  ·cases he
 obtain⟨pos,rfl,rfl⟩:=h1;cases cs with
 |cons _ _=>exact hs.elim
 |nil =>
  have this:PE X (.Dict [] [] pos) (tD X F Φ (.bO n [])):=by
   refine PE.imp (E_ (X:=X) (pos:=pos)) λσ H Q hq p hp=>?_;obtain⟨R,τ,ρ,d,Si,ev,hq⟩:=hq;have ev:Φ n []=ok d:=ev;rw[hΦ]at ev;cases ev;exact hq _ _ (aI.upd hp) (bR.newD hp bg)
  exact⟨this,cv this λ_=>rfl⟩
noncomputable def three{α:Type}:List α->Option (α×α×α)
 |[a,b,c]=>some (a,b,c)
 |_=>none
theorem so{α:Type}{l:List α}{z:α×α×α}(h:three l=some z):l=[z.1,z.2.1,z.2.2]:=by
 rcases l with _|⟨a,_|⟨b,_|⟨c,_|⟨d,l⟩⟩⟩⟩<;>cases h;rfl
noncomputable def iU:D->Option (au×ab)
 |.cM _ cs vs=>some (cs,vs)
 |_=>none
def keyOf:D->Option (aa)
 |.tup ks=>intsOf ks
 |_=>none
theorem nY{d:D}{z:au×ab}(h:iU d=some z):∃f,d=.cM f z.1 z.2:=by
 cases d<;>first | (cases h;done) | (cases h;exact⟨_,rfl⟩)
theorem nq{d:D}{c:aa}(h:keyOf d=some c):d=.tup (c.map D.int):=by
 cases d<;>first | (cases h;done)|skip
 rw[cJ (show intsOf _=some c from h)]
def CV(xs:ab):O D:=match two xs with
 |some z=>match iU z.1 with
  |some d=>match keyOf z.2 with
   |some c=>match cC d.1 d.2 c with
    |some v=>if aU anyF v=false then ok v else none
    |none=>none
   |none=>none
  |none=>none
 |none=>none
theorem GC{xs:ab}{r:D}(h:CV xs=ok r):∃f cs vs c,xs=[.cM f cs vs,.tup (c.map D.int)]/\cC cs vs c=some r/\aU anyF r=false:=by
 unfold CV at h;cases h1:two xs with
 |none=>rw[h1]at h;cases h
 |some z =>
  rw[h1]at h;have h:(match iU z.1 with|some d=>(match keyOf z.2 with|some c=>(match cC d.1 d.2 c with|some v=>if aU anyF v=false then ok v else none|none=>none)|none=>none)|none=>none)=ok r:=h;cases h2:iU z.1 with
  |none=>rw[h2]at h;cases h
  |some d =>
   rw[h2]at h;have h:(match keyOf z.2 with|some c=>(match cC d.1 d.2 c with|some v=>if aU anyF v=false then ok v else none|none=>none)|none=>none)=ok r:=h;cases h3:keyOf z.2 with
   |none=>rw[h3]at h;cases h
   |some c =>
    rw[h3]at h;have h:(match cC d.1 d.2 c with|some v=>if aU anyF v=false then ok v else none|none=>none)=ok r:=h;cases h4:cC d.1 d.2 c with
    |none=>rw[h4]at h;cases h
    |some v =>
     rw[h4]at h;obtain⟨hf,rfl⟩:=pz (show(if aU anyF v=false then ok v else none)=ok r from h);obtain⟨f,e1⟩:=nY h2;exact⟨f,d.1,d.2,c,by rw[jx h1,e1,nq h3],h4,hf⟩
def R_(K:ao):R2:=λx y H Q=>∃p b cs as xs ep c v,x=.ref p/\y=.ref b/\H p=some (.ext (DO p cs as xs ep))/\fe (aX K H) as cs/\aX K H b (c.map V.int)/\cC cs xs c=some v/\Q v H
theorem FO(hu:X.A.units+1<cLine):Ib X (R_ X.K):=by
 intro value slice pins s σ H x y v u Q I rx ry h hs;obtain⟨p,b,cs,as,xs,ep,c,w,rfl,rfl,hp,hk,hb,hg,q⟩:=h;cases rx;cases ry;obtain⟨zs,o,es,e1,e2,e3,ho,hx,hd,dd,_,hl,Oy⟩:=rl I hp hk;have Wq:=mD (cs:=cs) e3 c;rw[hg]at Wq;obtain⟨u,HA,ru⟩:=rP.some_of Wq;have:(atKey zs c).map (·.2)=some u:=by rw[k0,e1];exact HA
 obtain⟨q',L3,rfl⟩:=Option.map_eq_some_iff.mp this;exact abG (x:=q'.2) dd.typeIs PySem.F.slot_dict_getitem.lookup
  (wpAny_getItem_heap (Q:=λr s'=>r=q'.2/\EP X pins σ Q r s') (ab_ hu) (qI I hb) dd L3 ⟨rfl,w,H,I.tok _,ru,q⟩) hs
def vQ(_:Scope)(_:ai)(e:Expr):Option (aj):=match r9 e with
 |some z=>some [z.1,z.2]
 |none=>none
theorem Lq{n:Nat}(hΦ:Φ n=CV){sc:Scope}{bl:ai}{k:Nat}(L:PX X sc bl k){e:Expr}(he:vQ sc bl e=some args)(hs:lN X F Φ cs args):PE X e (tD X F Φ (.bO n cs))/\PT X e (fA X F Φ (.bO n cs)):=by
 unfold vQ at he;cases h1:r9 e with
 |none=>rw[h1]at he;cases he
 |some z =>
  rw[h1]at he;cases he;obtain⟨pos,rfl⟩:=i5 h1;obtain⟨⟨c1,c2,rfl,p1,p2⟩,_⟩:=mY hs;have this:PE X (.Subscript z.1 z.2 pos) (tD X F Φ (.bO n [c1,c2])):=by
   refine PE.imp (Hq (FO (B4 L.room)) p1 p2 hs.2.2.2.2.2.1) λσ H Q hq=>?_;obtain⟨R,τ,ρ,d,Si,ev,hq⟩:=hq;obtain⟨xs,cp,ev⟩:=aB ev;rw[hΦ]at ev;obtain⟨f,cs,vs,c,rfl,hg,hf⟩:=GC ev;obtain⟨x,ex,cp⟩:=aB cp;obtain⟨ys,kU,cp⟩:=aB cp;obtain⟨y,ey,UD⟩:=aB kU;cases UD;cases cp;refine tD.intro Si ex λv H1 e1 r1=>tD.intro (Si.go e1) ey λu H2 e2 r2=>?_;obtain⟨τ1,f1,q1⟩:=r1;obtain⟨τ2,f2,q2⟩:=r2;cases q1 with
   |cM hn hk hr=>cases q2 with
    |tup ht OB =>
     cases OB.ofInts;rcases mT hr c with ⟨_,hz⟩|⟨w,d',k',g1,g2,g3,_⟩
     ·rw[hg]at hz;cases hz
     ·rw[hg]at g2;cases g2;refine⟨_,_,_,_,_,_,c,w,rfl,rfl,e2 _ _ hn.dat,hk.imp λ_ _ h=>aX.same e2 h,ht,g1,hq w H2 (e1.trans e2) ⟨λ_=>none,λ_ _ h=>by simp at h,?_⟩⟩;exact(i_ (N':=nd X.K R (jw (gP X F) τ (gJ (.bO n [c1,c2]))) (λ_=>none) H1) (k':=[]) g3 hf).imp (λ_ _ h=>aX.same e2 h) λ_ _ _ _ h=>nd.same e2 h
  exact⟨this,cv this λ_=>rfl⟩
def uc(xs:ab):O D:=match three xs with
 |some z=>match iU z.1 with
  |some d=>match keyOf z.2.1 with
   |some c=>if aN anyF d.2=false/\aU anyF z.2.2=false then ok ((cC d.1 d.2 c).getD z.2.2)else none
   |none=>none
  |none=>none
 |none=>none
theorem CW{xs:ab}{r:D}(h:uc xs=ok r):∃f cs vs c x,xs=[.cM f cs vs,.tup (c.map D.int),x]/\aN anyF vs=false/\aU anyF x=false/\r=(cC cs vs c).getD x:=by
 unfold uc at h;cases h1:three xs with
 |none=>rw[h1]at h;cases h
 |some z =>
  rw[h1]at h;have h:(match iU z.1 with|some d=>(match keyOf z.2.1 with|some c=>if aN anyF d.2=false/\aU anyF z.2.2=false then ok ((cC d.1 d.2 c).getD z.2.2)else none|none=>none)|none=>none)=ok r:=h;cases h2:iU z.1 with
  |none=>rw[h2]at h;cases h
  |some d =>
   rw[h2]at h;have h:(match keyOf z.2.1 with|some c=>if aN anyF d.2=false/\aU anyF z.2.2=false then ok ((cC d.1 d.2 c).getD z.2.2)else none|none=>none)=ok r:=h;cases h3:keyOf z.2.1 with
   |none=>rw[h3]at h;cases h
   |some c =>
    rw[h3]at h;obtain⟨⟨hf,hx⟩,rfl⟩:=pz (show(if aN anyF d.2=false/\aU anyF z.2.2=false then ok ((cC d.1 d.2 c).getD z.2.2)else none)=ok r from h);obtain⟨f,e1⟩:=nY h2;exact⟨f,d.1,d.2,c,z.2.2,by rw[so h1,e1,nq h3],hf,hx,rfl⟩
def rz(_:Scope)(_:ai)(e:Expr):Option (aj):=(G8 ("get" : Str) (.Expr e ⟨0,0,0,0⟩)).bind λz=>(two z.2).bind λy=>if isNm z.1=true then some [z.1,y.1,y.2]else none
theorem vR{sc:Scope}{bl:ai}{e:Expr}(h:rz sc bl e=some args):∃x p p1 p2 a b,e=.Call (.Attribute (.Name x p) ("get" : Str) p1) [a,b] [] p2/\args=[.Name x p,a,b]/\(p1.endLine==p2.line)=true:=by
 obtain⟨⟨o,as⟩,h1,h⟩:=bT h;obtain⟨⟨a,b⟩,h3,h⟩:=bT h;obtain⟨hn,h⟩:=gT h;cases h;obtain⟨x,p,rfl⟩:=l_ hn;obtain rfl:=jx h3;obtain⟨p1,p2,pos,e1,hl⟩:=z5 h1;cases e1;exact⟨x,p,p1,p2,a,b,rfl,rfl,hl⟩
theorem yD{x:Str}{p:Pos}{a b:Expr}{td:TE}(hu:X.A.units+1<cLine)(ho:PE X (.Name x p) td)(ha:PA X [a,b] ta)(s1:∀es,starEach (a::es) X.env=(false,eval a X.env)::starEach es X.env)(s2:∀es,starEach (b::es) X.env=(false,eval b X.env)::starEach es X.env)(hl:(p1.endLine==p2.line)=true):
  PE X (.Call (.Attribute (.Name x p) ("get" : Str) p1) [a,b] [] p2) (λσ H Q=>td σ H λv H1=>∃q cs as xs ep,v=.ref q/\H1 q=some (.ext (DO q cs as xs ep))/\ta σ H1 λys H2=>∃k c z,ys=[.ref k,z]/\H2 q=some (.ext (DO q cs as xs ep))/\fe (aX X.K H2) as cs/\aX X.K H2 k (c.map V.int)/\Q ((cC cs xs c).getD z) H2):=by
 intro pins s σ H Q I h;refine wpAny_Call_method rfl (by rw[s1,s2];rfl) hl PySem.F.plainAttrs_dict PySem.F.slot_dict_get PySem.F.type_dict_get (dv (ho pins s σ H _ I h) λu XI bP=>?_);obtain⟨v,H1,I1,rx,q,cs,as,xs,ep,ex,hd,q1⟩:=bP;subst ex;obtain rfl:u=Value.ref q:=rx;obtain⟨t1,t2⟩:=dict_cls I1 hd;refine⟨t1,t2,?_⟩;have hA:=ha p2 pins XI σ H1 _ I1 q1;rw[s1]at hA ⊢;refine Calls.callWith_builtin (by show(false||(backTo p2 (starEach [b] X.env)).any (·.1))=false;rw[s2];rfl) (Calls.evalArgs_plain ?_);refine dv hA λus s3 bP=>?_;obtain⟨ys,H2,I2,r2,k,c,z,ey,hd2,hk,hb,q2⟩:=bP;subst ey;obtain⟨w1,w2,rfl,XM,XJ⟩:=vals2 r2;cases XM;exact GG hu I2 hd2 hk hb XJ λw' s4 I4 ox=>⟨_,H2,I4,ox,q2⟩
theorem GD{n:Nat}(hΦ:Φ n=uc){sc:Scope}{bl:ai}{k:Nat}(L:PX X sc bl k){e:Expr}(he:rz sc bl e=some args)(hs:lN X F Φ cs args):PE X e (tD X F Φ (.bO n cs))/\PT X e (fA X F Φ (.bO n cs)):=by
 obtain⟨x,p,p1,p2,a,b,rfl,rfl,hl⟩:=vR he;cases cs with
 |nil=>exact hs.elim
 |cons c0 cs =>
  obtain⟨h0,_,_,L1⟩:=hs;obtain⟨⟨c1,c2,rfl,_,_⟩,pa,s1,s2⟩:=mY L1;have this:PE X (.Call (.Attribute (.Name x p) ("get" : Str) p1) [a,b] [] p2) (tD X F Φ (.bO n [c0,c1,c2])):=by
   refine PE.imp (yD (B4 L.room) h0 pa s1 s2 hl) λσ H Q hq=>?_;obtain⟨R,τ,ρ,d,Si,ev,hq⟩:=hq;obtain⟨xs,cp,ev⟩:=aB ev;rw[hΦ]at ev;obtain⟨f,cs,vs,c,y,rfl,hf,hy,rfl⟩:=CW ev;obtain⟨x0,ex,cp⟩:=aB cp;obtain⟨ys,kU,cp⟩:=aB cp;cases cp;refine tD.intro Si ex λv H1 e1 r1=>?_;obtain⟨τ1,f1,q1⟩:=r1;cases q1 with
   |cM hn hk hr =>
    refine⟨_,_,_,_,_,rfl,hn.dat,R,τ,ρ,_,Si.go e1,kU,λus H2 e2 r2=>?_⟩;obtain⟨τ2,f2,q2⟩:=r2;obtain⟨u1,u2,rfl,RZ,RY⟩:=q2.two;obtain⟨_,_,rfl,ht,OB⟩:=RZ.Io;cases OB.ofInts;refine⟨_,c,u2,rfl,e2 _ _ hn.dat,hk.imp λ_ _ h=>aX.same e2 h,ht,?_⟩;refine hq _ H2 (e1.trans e2) ⟨λ_=>none,λ_ _ h=>by simp at h,?_⟩;rcases mT hr c with ⟨g1,g2⟩|⟨w,d',k',g1,g2,g3,g4⟩
    ·rw[g1,g2];exact i_ (T:=aX X.K H2) RY hy
    ·rw[g1,g2];exact(i_ (N':=nd X.K R (jw (gP X F) τ (gJ (.bO n [c0,c1,c2]))) (λ_=>none) H1) (k':=[]) g3 (pB hf _ g4)).imp (λ_ _ h=>aX.same e2 h) λ_ _ _ _ h=>nd.same e2 h
  exact⟨this,cv this λ_=>rfl⟩
def t_(xs:ab):O D:=match three xs with
 |some z=>match z.1 with
  |.cM f cs vs=>match keyOf z.2.2 with
   |some c=>if eL f=true/\aU anyF z.2.1=false/\cs.length<fY then ok (.cM .ow (bL cs c) (cS cs vs c z.2.1))else none
   |none=>none
  |_=>none
 |none=>none
set_option tactic.hygienic true in
theorem t8{d:D}{xs:ab}{r:D}(h:t_ (d::xs)=ok r):∃cs vs c x,d=.cM .ow cs vs/\xs=[x,.tup (c.map D.int)]/\aU anyF x=false/\cs.length<fY/\r=.cM .ow (bL cs c) (cS cs vs c x):=by
 unfold t_ at h;cases h1:three (d::xs)with
 |none=>rw[h1]at h;cases h
 |some z =>
  rw[h1]at h;have e0:=so h1;obtain⟨d',x,y⟩:=z;obtain⟨rfl,rfl⟩:d=d'/\xs=[x,y]:=aa1 e0;cases d<;>first | (cases h;done)|skip
  rename_i f cs vs;have h:(match keyOf y with|some c=>if eL f=true/\aU anyF x=false/\cs.length<fY then ok (D.cM .ow (bL cs c) (cS cs vs c x))else none|none=>none)=ok r:=h;cases h3:keyOf y with
  |none=>rw[h3]at h;cases h
  |some c =>
   rw[h3]at h;obtain⟨⟨hf,hx,hl⟩,rfl⟩:=pz (show(if eL f=true/\aU anyF x=false/\cs.length<fY then ok (D.cM .ow (bL cs c) (cS cs vs c x))else none)=ok r from h);cases f<;>first | (cases hf;done)|exact⟨cs,vs,c,x,rfl,by rw[nq h3],hx,hl,rfl⟩
def rn(_:Scope)(_:ai)(st:Stmt):Option (Expr×aj):=(z9 st).bind λz=>(one z.1).bind λt=>(r9 t).bind λy=>some (y.1,[z.2,y.2])
theorem vP{sc:Scope}{bl:ai}(h:rn sc bl st=some (o,args)):∃v i pos' pos,st=.Assign [.Subscript o i pos'] v pos/\args=[v,i]:=by
 obtain⟨⟨ts,v⟩,h1,h⟩:=bT h;obtain⟨t,h3,h⟩:=bT h;obtain⟨⟨o',i⟩,h5,h⟩:=bT h;cases h;obtain rfl:=ck h3;obtain⟨pos,rfl⟩:=l5 h1;obtain⟨pos',rfl⟩:=i5 h5;exact⟨v,i,pos',pos,rfl,rfl⟩
mutual
theorem any_map(g:Fl->Fl):∀d:D,aU anyF (aA g d)=aU anyF d
 |.bF=>rfl
 |.bl _=>rfl
 |.int _=>rfl
 |.str _=>rfl
 |.tup ds=>uv g ds
 |.lst _ ds=>rfl
 |.cM _ _ ds=>rfl
theorem uv(g:Fl->Fl):∀ds:ab,aN anyF (av g ds)=aN anyF ds
 |[]=>rfl
 |d::ds=>by show(aU _ _||aN _ _)=(aU _ d||aN _ ds);rw[any_map g d,uv g ds]
end
mutual
theorem vV:∀d:D,aU anyF d=false->aU bD d=false
 |.bF,_=>rfl
 |.bl _,_=>rfl
 |.int _,_=>rfl
 |.str _,_=>rfl
 |.tup ds,h=>yb ds h
 |.lst _ ds,h=>nomatch h
 |.cM _ _ ds,h=>nomatch h
theorem yb:∀ds:ab,aN anyF ds=false->aN bD ds=false
 |[],_=>rfl
 |d::ds,h=>by
  have h:=Be h;show(aU _ d||aN _ ds)=false;rw[vV d h.1,yb ds h.2];rfl
end
theorem any_ints:∀c:aa,aN anyF (c.map D.int)=false
 |[]=>rfl
 |i::c=>any_ints c
theorem IC{i:Expr}{l:Nat}:swapsWith value (some (.Subscript o i pos')) l env=pure false:=by
 unfold swapsWith;cases value<;>rfl
theorem A4{x:Str}{p0:Pos}{i:Expr}{tv to ti:TE}(hu:X.A.units+1<cLine)(hv:PE X value tv)(ho:PE X (.Name x p0) to)(hi:PE X i ti):
  PS X (.Assign [.Subscript (.Name x p0) i pos'] value pos) (λD σ H=>tv σ H λv H1=>to σ H1 λo H2=>ti σ H2 λy H3=>∃q b cs as xs ep c,o=.ref q/\y=.ref b/\H3 q=some (.ext (DO q cs as xs ep))/\fe (aX X.K H3) as cs/\aX X.K H3 b (c.map V.int)/\cs.length<sizeLine /\
   ∀xM,D.nx σ (upd H3 q (.ext (DO q (bL cs c) (ux cs as c b) (cS cs xs c v) xM)))):=by
 intro pins s σ H D I h;refine wpAny_Assign_Subscript (dv (hv pins s σ H _ I h) λr s1 ⟨v,H1,I1,rv,q1⟩=>dv (ho pins s1 σ H1 _ I1 q1) λu s2 ⟨o,H2,I2,rx,q2⟩=>dv (hi pins s2 σ H2 _ I2 q2) λiv s3 bP=>?_) IC;obtain⟨y,H3,I3,ry,q,b,cs,as,xs,ep,c,eo,ey,hd,hk,hb,hl,q3⟩:=bP;subst eo ey;obtain rfl:u=Value.ref q:=rx;obtain rfl:iv=Value.ref b:=ry;exact vK hu I3 hd hk hb rv hl λxM s4 I4=>⟨σ,_,I4,q3 xM⟩
theorem SI.NG{i:Nat}{cs:au}(Si:SI X F R τ ρ σ H)(hi:ρ[i]?=some (some (.cM .ow cs ds))):
  ∃p as xs ep,σ[i]?=some (some (.ref p))/\H p=some (.ext (DO p cs as xs ep))/\τ p=some [i]/\fe (aX X.K H) as cs/\aD (aX X.K H) (nd X.K R (λ_=>False) τ H) [i] 0 xs ds:=by
 obtain⟨v,hv,rp⟩:=Si.rep i _ hi;cases rp with
 |cM h k r=>exact⟨_,_,_,_,hv,h.1,h.2,k,r⟩
theorem Gy{n:Nat}(hΦ:Φ n=t_){sc:Scope}{bl:ai}{k:Nat}(L:PX X sc bl k)(hN:X.N.Nodup)(DN:∀x,X.fn x=true){x:Str}(he:rn sc bl st=some (.Name x pos,args))
  {i:Nat} (hi:X.N[i]?=some x) (hl:L2.Loc X.env.scope x) (pe:PE X (.Name x pos) (Eh i)) (hs:lN X F Φ cs args):PS X st (qc X F Φ (.mut n i cs)):=by
 obtain⟨v,ix,p1,p2,rfl,rfl⟩:=vP he;obtain⟨⟨c1,c2,rfl,h1,h2⟩,_⟩:=mY hs;refine PS.imp (A4 (B4 L.room) h1 pe h2) λD σ H hq=>?_;obtain⟨R,τ,ρ,r,Si,ev,hq⟩:=hq;obtain⟨xs,cp,ev⟩:=aB ev;obtain⟨y,ey,cp⟩:=aB cp;obtain⟨ys,kU,cp⟩:=aB cp;cases cp;obtain⟨kd,ek,UD⟩:=aB kU;cases UD;have key:∃cs vs c,kd=.tup (c.map DI.D.int)/\ρ[i]?=some (some (.cM .ow cs vs))/\aU anyF y=false/\cs.length<fY/\r=(.nx,ρ.set i (some (.cM .ow (bL cs c) (cS cs vs c y)))):=by
  cases hz:aN bD [y,kd]with
  |true =>
   obtain⟨d,d',h⟩:=JR ev hz;rw[hΦ]at h;obtain⟨cs,vs,c,x',_,e1,e2,_⟩:=t8 h;have e3:aA aK y=x'/\aA aK kd=.tup (c.map DI.D.int):=by
    have:=aa1 e1;exact⟨this.1,(aa1 this.2).1⟩
   have a1:aU bD y=false:=vV y (by rw[<- any_map aK y,e3.1];exact e2);have a2:aU bD kd=false:=vV kd (by rw[<- any_map aK kd,e3.2];exact any_ints c);have:aN bD [y,kd]=false:=by show(aU bD y||(aU bD kd||false))=false;rw[a1,a2];rfl
   rw[this]at hz;cases hz
  |false =>
   obtain⟨d,d',h,h',rfl⟩:=Fy ev hz;rw[hΦ]at h';obtain⟨cs,vs,c,x',rfl,e1,e2,e3,rfl⟩:=t8 h';cases e1;exact⟨cs,vs,c,rfl,h,e2,e3,rfl⟩
 obtain⟨cs,vs,c,rfl,ho,hf,hc,rfl⟩:=key;obtain⟨p,as,zs,ep,hv,hd,ht,hk,rs⟩:=Si.NG ho;refine tD.intro Si ey λu H1 e1 ru=>⟨.ref p,hv,tD.intro (Si.go e1) ek λw H2 e2 ox=>?_⟩
 obtain⟨τ1,f1,q1⟩:=ru;obtain⟨τ2,f2,q2⟩:=ox;cases q2 with
 | @tup _ b _ _ hb OB =>
  cases OB.ofInts;have es:=e1.trans e2;have vX:=Si.go es;have hd2:=es _ _ hd;have vx:fY=1000000:=rfl;have hz:sizeLine=16777216:=abf;refine⟨p,b,cs,as,zs,ep,c,rfl,rfl,hd2,hk.imp λ_ _ h=>aX.same es h,hb,by left,λxM=>?_⟩;have hn:fi H2 p (.d cs as zs ep):=hd2;have rk:iy X R τ H2 u y:=mU ((i_ (N':=nd X.K R (λ_=>False) τ H1) (k':=[]) q1 hf).imp (λ_ _ h=>aX.same e2 h) λ_ _ _ _ h=>nd.same e2 h) hf;obtain⟨p',W2,Qw,Za,We,kb,Z0,B9,wH⟩:=vX.NG ho;rw[hv]at We;cases We;rw[hd2]at kb;obtain⟨τ3,LF⟩:=vX.Nv (m:=0) (n':=.d (bL cs c) (ux cs as c b) (cS cs zs c u) xM) (o:=.ext (DO p (bL cs c) (ux cs as c b) (cS cs zs c u) xM)) (d1:=.cM .ow (bL cs c) (cS cs vs c y)) (xs':=cS cs zs c u) (ds':=cS cs vs c y) ho hv hn ht (rs.imp (λ_ _ h=>aX.same es h) λ_ _ _ _ h=>nd.same es h) rk bg
   (λhN r=>.cM hN (BI ((hk.imp λ_ _ h=>aX.same es h).imp λ_ _ h=>Au hn h) (Au hn hb)) r) (λrs r=>AR (λk=>i_ r hf) rs)
  exact hq σ _ R τ3 LF (vo vX es (λ_ h=>h) hn ht)
end DI
end
section
namespace DI
open PySem PySem.Spec PyProof.Rows L2 PySem.W
noncomputable def cV{α:Type}(lt:Nat->Nat->Bool):KasT α->α
 |.ret a=>a
 |.ask i j k=>cV lt (k (lt i j))
theorem gD{α β:Type}(lt:Nat->Nat->Bool)(f:α->KasT β):∀t:KasT α,cV lt (t.bind f)=cV lt (f (cV lt t))
 |.ret a=>rfl
 |.ask i j k=>gD lt f (k (lt i j))
section
noncomputable def jo{α:Type}(n:Nat)(lt:Nat->Nat->Bool):KasT α->Prop
 |.ret _=>True
 |.ask i j k=>i<n/\j<n/\jo n lt (k (lt i j))
end
theorem x_{α:Type}{cmp:Nat->Nat->(Bool->Shared->Prop)->Shared->Prop}{lt:Nat->Nat->Bool}{s:Shared}{n:Nat}(hc:∀i j C,i<n->j<n->C (lt i j) s->cmp i j C s){Q:α->Shared->Prop}:
  ∀(t:KasT α),jo n lt t->Q (cV lt t) s->t.kasWp cmp Q s
 |.ret a,_,h=>h
 |.ask i j k,⟨h1,h2,h3⟩,h=>hc i j _ h1 h2 (x_ hc (k (lt i j)) h3 h)
theorem fD{α β:Type}{lt:Nat->Nat->Bool}{n:Nat}{f:α->KasT β}:∀{t:KasT α},jo n lt t->jo n lt (f (cV lt t))->jo n lt (t.bind f)
 |.ret _,_,h=>h
 |.ask i j k,⟨h1,h2,h3⟩,h=>⟨h1,h2,fD h3 h⟩
structure Ord(lt:Nat->Nat->Bool)(n:Nat):Prop where
 tr:∀a b c,a<n->b<n->c<n->lt a b=true->lt b c=true->lt a c=true
 as:∀a b,a<n->b<n->lt a b=true->lt b a=false
 QB:∀a b,a<n->b<n->a≠b->lt a b=true\/lt b a=true
structure Arr(p:Array Nat)(n:Nat):Prop where
 sz:p.size=n
 pm:p.toList.Perm (List.range n)
section
variable {lt:Nat->Nat->Bool}{n:Nat}{p:Array Nat}
theorem Arr.bd(h:Arr p n){i:Nat}(hi:i<n):p.getD i 0<n:=by
 have jD:i<p.size:=by rw[h.sz];exact hi
 have:p.getD i 0=p[i]:=by simp[Array.getD,jD]
 rw[this];have hm:p[i]∈p.toList:=Array.getElem_mem_toList jD;exact List.mem_range.mp (h.pm.mem_iff.mp hm)
theorem Arr.inj(h:Arr p n){i j:Nat}(hi:i<n)(hj:j<n)(e:p.getD i 0=p.getD j 0):i=j:=by
 have jD:i<p.toList.length:=by rw[Array.length_toList,h.sz];exact hi
 have TH:j<p.toList.length:=by rw[Array.length_toList,h.sz];exact hj
 have nd:p.toList.Nodup:=h.pm.nodup_iff.mpr List.nodup_range;have e1:p.getD i 0=p.toList[i]:=by simp[Array.getD,show i<p.size by rw[h.sz];exact hi]
 have e2:p.getD j 0=p.toList[j]:=by simp[Array.getD,show j<p.size by rw[h.sz];exact hj]
 rw[e1,e2]at e;exact(ack nd).mp e
def Up(lt:Nat->Nat->Bool)(p:Array Nat)(k:Nat):Prop:=∀i j,i<j->j<k->lt (p.getD i 0) (p.getD j 0)=true
def Dn(lt:Nat->Nat->Bool)(p:Array Nat)(k:Nat):Prop:=∀i j,i<j->j<k->lt (p.getD j 0) (p.getD i 0)=true
theorem Up.snoc(O:Ord lt n)(h:Arr p n){k:Nat}(hk:k<n)(h1:1<=k)(u:Up lt p k)(hl:lt (p.getD (k - 1) 0) (p.getD k 0)=true):Up lt p (k+1):=λi j js hj=>by
 by_cases e:j=k
 ·subst e;by_cases e2:i=j - 1
  ·subst e2;exact hl
  ·exact O.tr _ _ _ (h.bd (by left)) (h.bd (by left)) (h.bd hk) (u i (j - 1) (by left) (by left)) hl
 ·exact u i j js (by left)
theorem Dn.snoc(O:Ord lt n)(h:Arr p n){k:Nat}(hk:k<n)(h1:1<=k)(u:Dn lt p k)(hl:lt (p.getD k 0) (p.getD (k - 1) 0)=true):Dn lt p (k+1):=λi j js hj=>by
 by_cases e:j=k
 ·subst e;by_cases e2:i=j - 1
  ·subst e2;exact hl
  ·exact O.tr _ _ _ (h.bd hk) (h.bd (by left)) (h.bd (by left)) hl (u i (j - 1) (by left) (by left))
 ·exact u i j js (by left)
theorem rK(O:Ord lt n)(h:Arr p n):∀(f k:Nat),1<=k->k+f<=n->Up lt p k->jo n lt (kas_asc p f k)/\k<=cV lt (kas_asc p f k)/\cV lt (kas_asc p f k)<=k+f/\Up lt p (cV lt (kas_asc p f k))
 |0,k,_,_,u=>⟨trivial,aah _,aah _,u⟩
 |f+1,k,h1,hf,u=>by
  have a1:p.getD k 0<n:=h.bd (by left);have a2:p.getD (k - 1) 0<n:=h.bd (by left);cases c:lt (p.getD k 0) (p.getD (k - 1) 0)with
  |true =>
   have e:cV lt (kas_asc p (f+1) k)=k:=by
    show cV lt (if lt (p.getD k 0) (p.getD (k - 1) 0)=true then .ret k else kas_asc p f (k+1))=k;rw[c];rfl
   refine⟨⟨a1,a2,?_⟩,by rw[e];exact aah _,by rw[e];left,by rw[e];exact u⟩;show jo n lt (if lt (p.getD k 0) (p.getD (k - 1) 0)=true then .ret k else kas_asc p f (k+1));rw[c];trivial
  |false =>
   have e:cV lt (kas_asc p (f+1) k)=cV lt (kas_asc p f (k+1)):=by
    show cV lt (if lt (p.getD k 0) (p.getD (k - 1) 0)=true then .ret k else kas_asc p f (k+1))=_;rw[c];rfl
   have hl:lt (p.getD (k - 1) 0) (p.getD k 0)=true:=by
    rcases O.QB _ _ a2 a1 (λz=>absurd (h.inj (by left) (by left) z) (by left))with z|z
    ·exact z
    ·rw[c]at z;cases z
   obtain⟨b1,b2,b3,b4⟩:=rK O h f (k+1) (by left) (by left) (u.snoc O h (by left) h1 hl);refine⟨⟨a1,a2,?_⟩,by rw[e];left,by rw[e];left,by rw[e];exact b4⟩;show jo n lt (if lt (p.getD k 0) (p.getD (k - 1) 0)=true then .ret k else kas_asc p f (k+1));rw[c];exact b1
theorem xQ(O:Ord lt n)(h:Arr p n):∀(f k:Nat),1<=k->k+f<=n->Dn lt p k->jo n lt (kas_desc f p k 0)/\∃m,cV lt (kas_desc f p k 0)=(p,m,0)/\k<=m/\m<=k+f/\Dn lt p m
 |0,k,_,_,u=>⟨trivial,k,rfl,aah _,aah _,u⟩
 |f+1,k,h1,hf,u=>by
  have a1:p.getD k 0<n:=h.bd (by left);have a2:p.getD (k - 1) 0<n:=h.bd (by left);cases c:lt (p.getD k 0) (p.getD (k - 1) 0)with
  |true =>
   obtain⟨b1,m,b2,b3,b4,b5⟩:=xQ O h f (k+1) (by left) (by left) (u.snoc O h (by left) h1 c);have e:kas_desc (f+1) p k 0=.ask (p.getD k 0) (p.getD (k - 1) 0) λc=>if c=true then(if (0:Nat)>0 then kas_desc f (kas_rev p (k - (0+1)) k) (k+1) 0 else kas_desc f p (k+1) 0)else .ask (p.getD (k - 1) 0) (p.getD k 0) λd=>if d=true then .ret (p,k,0)else kas_desc f p (k+1) (0+1):=rfl
   rw[e];refine⟨⟨a1,a2,?_⟩,m,?_,by left,by left,b5⟩
   ·rw[c];exact b1
   ·show cV lt (if lt (p.getD k 0) (p.getD (k - 1) 0)=true then _ else _)=_;rw[c];exact b2
  |false =>
   have hl:lt (p.getD (k - 1) 0) (p.getD k 0)=true:=by
    rcases O.QB _ _ a2 a1 (λz=>absurd (h.inj (by left) (by left) z) (by left))with z|z
    ·exact z
    ·rw[c]at z;cases z
   have e:kas_desc (f+1) p k 0=.ask (p.getD k 0) (p.getD (k - 1) 0) λc=>if c=true then(if (0:Nat)>0 then kas_desc f (kas_rev p (k - (0+1)) k) (k+1) 0 else kas_desc f p (k+1) 0)else .ask (p.getD (k - 1) 0) (p.getD k 0) λd=>if d=true then .ret (p,k,0)else kas_desc f p (k+1) (0+1):=rfl
   rw[e];refine⟨⟨a1,a2,?_⟩,k,?_,aah _,by left,u⟩
   ·rw[c];exact⟨a2,a1,by rw[hl];trivial⟩
   ·show cV lt (if lt (p.getD k 0) (p.getD (k - 1) 0)=true then _ else _)=_;rw[c];show cV lt (if lt (p.getD (k - 1) 0) (p.getD k 0)=true then _ else _)=_;rw[hl];rfl
theorem ma{p q:Array Nat}{i j:Nat}(h:p[i]?=q[j]?):p.getD i 0=q.getD j 0:=by
 rw[Array.getD_eq_getD_getElem?,Array.getD_eq_getD_getElem?,h]
theorem Jk(h:Arr p n){m:Nat}(hm:m<=n):Arr (kas_rev p 0 m) n/\(Dn lt p m->Up lt (kas_rev p 0 m) m):=by
 have hs:(kas_rev p 0 m).size=p.size:=mirror_size _ _ _ _;refine⟨⟨by rw[hs];exact h.sz,?_⟩,λu i j js hj=>?_⟩
 ·have:=(mirror_perm p 0 m ((m - 0) / 2)).toList;exact this.trans h.pm
 ·have g:∀k,k<m->(kas_rev p 0 m).getD k 0=p.getD (m - 1 - k) 0:=λk hk=>by
   refine ma ?_;rw[show kas_rev p 0 m=mirror p 0 m ((m - 0) / 2) from rfl,getElem?_mirror_all (by rw[h.sz];exact hm),if_pos ⟨Nat.zero_le _,hk⟩];congr 1;left
  rw[g i (by left),g j hj];exact u (m - 1 - j) (m - 1 - i) (by left) (by left)
theorem Ak(O:Ord lt n)(h:Arr p n){m:Nat}(h1:1<=m)(hm:m<=n)(u:Dn lt p m):jo n lt (kas_tail3 m n p)/\∃r,cV lt (kas_tail3 m n p)=r/\Arr r.2 n/\1<=r.1/\r.1<=n/\Up lt r.2 r.1:=by
 obtain⟨a1,a2⟩:=Jk (lt:=lt) h hm;obtain⟨b1,b2,b3,b4⟩:=rK O a1 (n - m) m h1 (by left) (a2 u);unfold kas_tail3;refine⟨fD b1 trivial,_,rfl,?_⟩;rw[gD];exact⟨a1,aao h1 b2,by show cV lt _<=n;left,b4⟩
theorem C1(O:Ord lt n)(h:Arr p n)(hn:2<=n):jo n lt (kas_count n p)/\∃r,cV lt (kas_count n p)=r/\Arr r.2 n/\1<=r.1/\r.1<=n/\Up lt r.2 r.1:=by
 obtain⟨b1,b2,b3,b4⟩:=rK O h (n - 1) 1 (aah _) (by left) (λi j _ _=>by left);generalize hk:cV lt (kas_asc p (n - 1) 1)=k at *;have key:∀t:KasT (Nat×Array Nat),t=(if (k==n)=true then .ret (k,p)else if k>1 then .ask (p.getD 0 0) (p.getD (k - 1) 0) λc=>if c=true then .ret (k,p)else kas_descPart k n (kas_rev p 0 k)else kas_descPart k n p) ->
   jo n lt t/\∃r,cV lt t=r/\Arr r.2 n/\1<=r.1/\r.1<=n/\Up lt r.2 r.1:=by
  intro t ht;by_cases e:k=n
  ·rw[if_pos (by simpa using e)]at ht;subst ht;exact⟨trivial,(k,p),rfl,h,b2,by show k<=n;left,b4⟩
  ·rw[if_neg (by simpa using e)]at ht;by_cases e1:k>1
   ·rw[if_pos e1]at ht;subst ht;have hl:lt (p.getD 0 0) (p.getD (k - 1) 0)=true:=b4 0 (k - 1) (by left) (by left);refine⟨⟨h.bd (by left),h.bd (by left),by rw[hl];trivial⟩,(k,p),?_,h,b2,by left,b4⟩;show cV lt (if lt (p.getD 0 0) (p.getD (k - 1) 0)=true then _ else _)=_;rw[hl];rfl
   ·rw[if_neg e1]at ht;have Yx:k=1:=by left
    subst Yx;subst ht;have hl:lt (p.getD 1 0) (p.getD 0 0)=true:=by
     have a1:p.getD 1 0<n:=h.bd (by left);have a0:p.getD 0 0<n:=h.bd (by left);cases c:lt (p.getD 1 0) (p.getD 0 0)with
     |true=>rfl
     |false =>
      exfalso;obtain⟨f,hf⟩:∃f,n - 1=f+1:=⟨n - 2,by left⟩
      rw[hf]at hk;have e':cV lt (kas_asc p (f+1) 1)=cV lt (kas_asc p f 2):=by
       show cV lt (if lt (p.getD 1 0) (p.getD (1 - 1) 0)=true then .ret 1 else kas_asc p f 2)=_;rw[show(1 - 1:Nat)=0 from rfl,c];rfl
      rw[e']at hk;have u2:Up lt p 2:=λi j js hj=>by
       have:i=0/\j=1:=by left
       obtain⟨rfl,rfl⟩:=this;rcases O.QB _ _ a0 a1 (λz=>absurd (h.inj (by left) (by left) z) (by left))with z|z
       ·exact z
       ·rw[c]at z;cases z
      obtain⟨_,c2,_,_⟩:=rK O h f 2 (by left) (by left) u2;left
    have d2:Dn lt p 2:=λi j js hj=>by
     have:i=0/\j=1:=by left
     obtain⟨rfl,rfl⟩:=this;exact hl
    obtain⟨c1,m,c2,c3,c4,c5⟩:=xQ O h (n - 2) 2 (by left) (by left) d2;obtain⟨t1,r,t2,t3⟩:=Ak O h (m:=m) (by left) (by left) c5;unfold kas_descPart;refine⟨fD c1 ?_,r,?_,t3⟩
    ·rw[show(1+1:Nat)=2 from rfl,show n - 2=n - 2 from rfl,c2];exact t1
    ·rw[gD,show(1+1:Nat)=2 from rfl,c2];exact t2
 have e:=key _ rfl;refine⟨?_,?_⟩
 ·unfold kas_count;exact fD b1 (by rw[hk];exact e.1)
 ·unfold kas_count;rw[gD,hk];exact e.2
theorem Arr.or(O:Ord lt n)(h:Arr p n){i j:Nat}(hi:i<n)(hj:j<n)(e:i≠j)(c:lt (p.getD i 0) (p.getD j 0)=false):lt (p.getD j 0) (p.getD i 0)=true:=by
 rcases O.QB _ _ (h.bd hi) (h.bd hj) (λz=>e (h.inj hi hj z))with z|z
 ·rw[c]at z;cases z
 ·exact z
theorem mW(O:Ord lt n)(h:Arr p n){k:Nat}(hk:k<n)(u:Up lt p k):∀(f l r:Nat),l<=r->r<=k->r - l<=f->(∀i,i<l->lt (p.getD i 0) (p.getD k 0)=true)->(∀i,r<=i->i<k->lt (p.getD k 0) (p.getD i 0)=true) ->
  jo n lt (kas_place p k f l r)/\∃m,cV lt (kas_place p k f l r)=m/\m<=k/\(∀i,i<m->lt (p.getD i 0) (p.getD k 0)=true)/\∀i,m<=i->i<k->lt (p.getD k 0) (p.getD i 0)=true
 |0,l,r,hl,hr,hf,a,b=>by
  have:l=r:=by left
  subst this;exact⟨trivial,l,rfl,hr,a,b⟩
 |f+1,l,r,hl,hr,hf,a,b=>by
  have e:kas_place p k (f+1) l r=if l ≥ r then .ret l else .ask (p.getD k 0) (p.getD ((l+r) / 2) 0) λc=>if c=true then kas_place p k f l ((l+r) / 2)else kas_place p k f ((l+r) / 2+1) r:=rfl
  rw[e];by_cases FW:l ≥ r
  ·rw[if_pos FW];have:l=r:=by left
   subst this;exact⟨trivial,l,rfl,hr,a,b⟩
  ·rw[if_neg FW];have hm:l<=(l+r) / 2/\(l+r) / 2<r:=by left
   generalize (l+r) / 2=m at *;have b1:p.getD k 0<n:=h.bd hk;have b2:p.getD m 0<n:=h.bd (by left);cases c:lt (p.getD k 0) (p.getD m 0)with
   |true =>
    obtain⟨c1,m',c2,c3⟩:=mW O h hk u f l m hm.1 (by left) (by left) a λi h1 h2=>by
     by_cases e:i=m
     ·subst e;exact c
     ·exact O.tr _ _ _ b1 b2 (h.bd (by left)) c (u m i (by left) h2)
    refine⟨⟨b1,b2,by rw[c];exact c1⟩,m',?_,c3⟩;show cV lt (if lt (p.getD k 0) (p.getD m 0)=true then _ else _)=_;rw[c];exact c2
   |false =>
    have jC:=h.or O hk (by left) (by left) c;obtain⟨c1,m',c2,c3⟩:=mW O h hk u f (m+1) r (by left) hr (by left) (λi hi=>by
     by_cases e:i=m
     ·subst e;exact jC
     ·exact O.tr _ _ _ (h.bd (by left)) b2 b1 (u i m (by left) (by left)) jC) b
    refine⟨⟨b1,b2,by rw[c];exact c1⟩,m',?_,c3⟩;show cV lt (if lt (p.getD k 0) (p.getD m 0)=true then _ else _)=_;rw[c];exact c2
theorem zp(h:Arr p n){k m:Nat}(hk:k<n)(hm:m<=k)(u:Up lt p k)(a:∀i,i<m->lt (p.getD i 0) (p.getD k 0)=true)(b:∀i,m<=i->i<k->lt (p.getD k 0) (p.getD i 0)=true):
  Arr (bubble p k (k - m)) n/\Up lt (bubble p k (k - m)) (k+1):=by
 have hs:(bubble p k (k - m)).size=p.size:=bubble_size _ _ _;refine⟨⟨by rw[hs];exact h.sz,(bubble_perm p k (k - m)).toList.trans h.pm⟩,λi j js hj=>?_⟩;have g:∀t,(bubble p k (k - m)).getD t 0=if t=m then p.getD k 0 else if m<t/\t<=k then p.getD (t - 1) 0 else p.getD t 0:=λt=>by
  have e:=getElem?_bubble (xs:=p) (src:=k) (by rw[h.sz];exact hk) (k - m) (Nat.sub_le _ _) t;rw[show k - (k - m)=m by left]at e;by_cases h1:t=m
  ·rw[if_pos h1]at e ⊢;exact ma e
  ·rw[if_neg h1]at e ⊢;by_cases h2:m<t/\t<=k
   ·rw[if_pos h2]at e ⊢;exact ma e
   ·rw[if_neg h2]at e ⊢;exact ma e
 rw[g i,g j];by_cases i1:i=m
 ·rw[if_pos i1,if_neg (by left),if_pos (by left)];exact b (j - 1) (by left) (by left)
 ·rw[if_neg i1];by_cases i2:m<i/\i<=k
  ·rw[if_pos i2,if_neg (by left),if_pos (by left)];exact u (i - 1) (j - 1) (by left) (by left)
  ·rw[if_neg i2];by_cases j1:j=m
   ·rw[if_pos j1];exact a i (by left)
   ·rw[if_neg j1];by_cases j2:m<j/\j<=k
    ·rw[if_pos j2];by_cases e:i=j - 1
     ·left
     ·exact u i (j - 1) (by left) (by left)
    ·rw[if_neg j2];exact u i j js (by left)
end
theorem Dj{lt:Nat->Nat->Bool}{n:Nat}(O:Ord lt n):∀(f:Nat) {p:Array Nat} {k:Nat},Arr p n->k+f=n->Up lt p k->jo n lt (kas_bin f p k)/\Arr (cV lt (kas_bin f p k)) n/\Up lt (cV lt (kas_bin f p k)) n
 |0,p,k,h,hk,u=>⟨trivial,h,by rw[<- hk];exact u⟩
 |f+1,p,k,h,hk,u=>by
  obtain⟨a1,m,a2,a3,a4,a5⟩:=mW O h (k:=k) (by left) u k 0 k (aaH _) (aah _) (aah _) (λi hi=>by left) (λi h1 h2=>by left);obtain⟨b1,b2⟩:=zp h (by left) a3 u a4 a5;obtain⟨c1,c2,c3⟩:=Dj O f b1 (by left) b2;have e:kas_bin (f+1) p k=(kas_place p k k 0 k).bind λl=>kas_bin f (bubble p k (k - l)) (k+1):=rfl;rw[e];refine⟨fD a1 (by rw[a2];exact c1),?_⟩;rw[gD,a2];exact⟨c2,c3⟩
theorem Et{lt:Nat->Nat->Bool}{n:Nat}(O:Ord lt n)(hn:2<=n):jo n lt (kas_sort n)/\Arr (cV lt (kas_sort n)) n/\Up lt (cV lt (kas_sort n)) n:=by
 have h0:Arr (List.toArray (List.range n)) n:=⟨by simp,by simp⟩
 obtain⟨a1,r,a2,a3,a4,a5,a6⟩:=C1 O h0 hn;unfold kas_sort;have key:∀t,t=(if r.1<n then kas_bin (n - max r.1 1) r.2 (max r.1 1)else .ret r.2)->jo n lt t/\Arr (cV lt t) n/\Up lt (cV lt t) n:=by
  intro t ht;by_cases h:r.1<n
  ·rw[if_pos h]at ht;subst ht;rw[show max r.1 1=r.1 by left];exact Dj O _ a3 (by left) a6
  ·rw[if_neg h]at ht;subst ht;have:r.1=n:=by left
   exact⟨trivial,a3,by rw[this]at a6;exact a6⟩
 have e:=key _ rfl;refine⟨fD a1 (by rw[a2];exact e.1),?_⟩;rw[gD,a2];exact e.2
end DI
end
section
namespace DI
open PySem PySem.Spec PyProof.Rows L2
def oU(h:Heap)(vs:aq)(nss:au):Prop:=vs.length=nss.length/\∀(i:Nat) (ns:aa),nss[i]?=some ns->∃t aL,vs[i]?=some (.ref t)/\IsTup h t aL.toArray/\IntsAre aL ns
variable {h h':Heap}{nss:au}{vs:aq}
theorem oU.mono(k:∀b o,h.get? b=some o->h'.get? b=some o)(t:oU h vs nss):oU h' vs nss :=
 ⟨t.1,λi ns e=>let ⟨a,aL,e1,⟨o,ho,r⟩,e3⟩:=t.2 i ns e;⟨a,aL,e1,⟨o,k _ _ ho,r⟩,e3⟩⟩
theorem oU.mem(t:oU h vs nss){v:Value}(hv:v∈vs):∃a aL ns,v=.ref a/\IsTup h a aL.toArray/\IntsAre aL ns:=by
 obtain⟨i,hi⟩:=List.mem_iff_getElem?.mp hv;have hl:i<nss.length:=by rw[<- t.1];exact(List.getElem?_eq_some_iff.mp hi).1
 obtain⟨a,aL,e1,e2,e3⟩:=t.2 i _ (aan hl);rw[hi]at e1;cases e1;exact⟨a,aL,_,rfl,e2,e3⟩
section
variable {prog:aF}{w:World}{A:aG}{E:az}{s:Shared}
theorem nI:∀{vs:aq} {nss:au} {Q:List (Option Value)->Shared->Prop},oU s.heap vs nss->(∀fs:List (Option Value),fs.length=vs.length->(∀f∈fs,∀v,f=some v->∃n t,v=.int n t)->Q fs s)->wpAny (model prog w) A (vs.mapM firstOfTuple') Q E s
 |[],_,_,_,h=>by rw[List.mapM_nil];exact aaa (h [] rfl λ_ h=>nomatch h)
 |v::vs,[],_,t,_=>by have:=t.1;simp at this
 |v::vs,ns::nss,Q,t,h=>by
  obtain⟨a,aL,e,⟨o,ho,hc,n,hd⟩,hi⟩:=t.2 0 ns rfl;cases e;rw[List.mapM_cons];refine Z_ ?_;rw[PySem.W.kas_first_eq];refine Z_ (PySem.W.Looks.here (show PySem.W.Looks (model prog w) s.heap (typeOf (.ref a)) o.cls from(PySem.W.Looks.ld ho).andThen .now) ?_);rw[hc,if_neg (by first|decide|simp)];refine Z_ (listItems_at ho hd (aaa ?_));refine Z_ (nI (vs:=vs) (nss:=nss) ⟨by simpa using t.1,λi ms e=>t.2 (i+1) ms e⟩ λfs h1 h2=>aaa (h _ (by simp[h1]) λf hf v hv=>?_));rcases List.mem_cons.mp hf with rfl|hf
  ·cases hi with
   |nil=>simp at hv
   |cons a' tk hi=>simp at hv;exact⟨_,_,hv.symm⟩
  ·exact h2 f hf v hv
def DC(κ:SortKind):Prop:=κ=tuples' true\/κ=general'\/κ=oneType'
theorem kind_any{Q:SortKind->Shared->Prop}(t:oU s.heap vs nss)(xp:vs≠[])(h:∀κ,DC κ->Q κ s):wpAny (model prog w) A (keyKind' vs.toArray) Q E s:=by
 obtain⟨v0,vr,rfl⟩:∃v0 vr,vs=v0::vr:=by
  cases vs with
  |nil=>exact absurd rfl xp
  |cons v0 vr=>exact⟨v0,vr,rfl⟩
 rw[kat_kind_eq,List.mapM_toArray,map_eq_pure_bind];refine Z_ (Z_ (nI t λfs hl hf=>aaa ?_));by_cases ha:(fs.toArray.all λx=>x.isSome)=true
 ·rw[if_pos ha];refine Z_ (abx ?_);obtain⟨gs,hg,hgi⟩:∃gs:aq,fs=gs.map some/\∀v∈gs,∃n t,v=.int n t:=by
   clear h hl t;induction fs with
   |nil=>exact⟨[],rfl,λ_ h=>nomatch h⟩
   |cons f fs ih =>
    simp only[List.all_toArray,List.all_cons,Bool.and_eq_true]at ha;obtain⟨gs,e1,e2⟩:=ih (λf TM=>hf f (aaf _ TM)) (by simpa using ha.2);cases f with
    |none=>simp at ha
    |some v =>
     exact⟨v::gs,by rw[e1];rfl,λu hu=>by
      rcases List.mem_cons.mp hu with rfl|hu
      ·exact hf _ aae _ rfl
      ·exact e2 u hu⟩
  subst hg;obtain⟨g0,gr,rfl⟩:∃g0 gr,gs=g0::gr:=by
   cases gs with
   |nil=>simp at hl
   |cons a b=>exact⟨a,b,rfl⟩
  have Yz:(((g0::gr).map some).toArray.filterMap id)=(g0::gr).toArray:=by simp
  rw[Yz,oneTypeOnly'_eq,List.mapM_toArray,map_eq_pure_bind];refine Z_ (Z_ (Z_ (PySem.W.kas_mapM (r:=Value.type "int") _ (λv hv Q' hq=>by
   obtain⟨n,t,rfl⟩:=hgi v hv;exact(PySem.W.Looks.of_pure (M:=model prog w) rfl).here hq) (aaa ?_))))
  have Cj:((List.map (λ_=>Value.type "int") (g0::gr)).toArray.all λx=>x==Value.type "int")=true:=by
   simp only[List.all_toArray,List.all_map,List.all_eq_true];intro _ _;show(Value.type "int" == Value.type "int")=true;decide
  have h0:(List.map (λ_=>Value.type "int") (g0::gr)).toArray[0]?=some (Value.type "int"):=by simp
  rw[h0];simp only[Cj,if_true];exact aaa (aaa (h _ (.inl rfl)))
 ·rw[if_neg ha];by_cases hb:((fs.toArray[0]?.bind id).isSome)=true
  ·rw[if_pos hb];exact aaa (h _ (.inr (.inl rfl)))
  ·rw[if_neg hb];rw[oneTypeOnly'_eq,List.mapM_toArray,map_eq_pure_bind];refine Z_ (Z_ (Z_ (PySem.W.kas_mapM (r:=Value.type "tuple") _ (λv hv Q' hq=>by
    obtain⟨a,aL,ns,rfl,⟨o,ho,hc,_⟩,_⟩:=t.mem hv;refine PySem.W.Looks.here (show PySem.W.Looks (model prog w) s.heap (typeOf (.ref a)) o.cls from(PySem.W.Looks.ld ho).andThen .now) ?_;rw[hc];exact hq) (aaa ?_))))
   have Cj:((List.map (λ_=>Value.type "tuple") (v0::vr)).toArray.all λx=>x==Value.type "tuple")=true:=by
    simp only[List.all_toArray,List.all_map,List.all_eq_true];intro _ _;show(Value.type "tuple" == Value.type "tuple")=true;decide
   have h0:(List.map (λ_=>Value.type "tuple") (v0::vr)).toArray[0]?=some (Value.type "tuple"):=by simp
   rw[h0];simp only[Cj,if_true];exact aaa (aaa (h _ (.inr (.inr rfl))))
theorem JX{κ:SortKind}(hk:DC κ)(hu:A.units<cLine){a b:Addr}{aL FL:aq}{ns ms:aa}{Q:Bool->Shared->Prop}(ha:IsTup s.heap a aL.toArray)(hb:IsTup s.heap b FL.toArray)(hi:IntsAre aL ns)(hj:IntsAre FL ms)(h:Q (HT.lexLt ns ms) s):
  wpAny (model prog w) A (keyLt' κ (.ref a) (.ref b)) Q E s:=by
 rcases hk with rfl|rfl|rfl
 ·obtain⟨o,ho,_,n,hd⟩:=ha;obtain⟨o',fW,_,n',kb⟩:=hb;exact PySem.W.kat_lt ho hd fW kb (tx 0 hi hj (by simp) h)
 ·exact PySem.W.kat_one _ _ (HT.vj ha hb (by simpa using hi) (by simpa using hj) hu h)
 ·show wpAny (model prog w) A (oneLt' true (.ref a) (.ref b)) Q E s;rw[oneLt'_eq];simp only[if_true];refine Z_ (wpAny_cRoomFor hu ?_);obtain⟨⟨cls,dd,data,sl⟩,ho,hc,n,hd⟩:=id ha;obtain⟨⟨C4,rX,data2,rR⟩,oz,hc2,n2,hd2⟩:=id hb;simp only at hc hd hc2 hd2;subst hc hd hc2 hd2;refine Z_ (wpAny_callSpecialIfBound?_slot (name:=Str.ofString "__lt__") ⟨_,ho,rfl⟩ abN (call_meets abN ⟨_,ho,rfl⟩ PySem.F.entry_tuple_lt (PySem.F.args_tuple_lt_2 _ _) (HT.jq a b _ _ n n2 dd rX sl rR ns ms (by simpa using hi) (by simpa using hj)) ⟨ho,oz,?_⟩));exact aaT h
end
def rQ(h:Heap)(d:Addr)(es:Array DictEntry)(ep:Nat):Prop:=∃o,h.get? d=some o/\o.ExactDict/\o.data=.dict es ep
variable {Q:Value->Shared->Prop}
section
variable {prog:aF}{w:World}{A:aG}{E:az}{s:Shared}{d it:Addr}{es:Array DictEntry}{ep i:Nat}
theorem rQ.typeIs(h:rQ s.heap d es ep):s.TypeIs (.ref d) "dict":=let ⟨o,ho,hx,_⟩:=h;⟨o,ho,hx.1⟩
theorem GB(hd:(d==sysModules)=false)(hm:rQ s.heap d es ep)
  (hQ:Q (.ref s.heap.objs.size) { s with heap:=s.heap.push { cls:=.type "dict_keyiterator",data:=.fields #[.ref d,.int 0 0,.int es.size 0,.int ep 0] } }):wpAny (model prog w) A (pyIter (.ref d)) Q E s:=by
 have hT:=hm.typeIs;obtain⟨o,ho,hx,O1⟩:=hm;refine ach hT PySem.F.slot_dict_iter (aau PySem.F.slot_dict_iter hT PySem.F.entry_dict_iter ?_ (PySem.F.args_dict_iter_1 _));unfold Builtin.«dict.__iter__» Builtin.Dict.dictSlotNone;refine Z_ (Z_ (wpAny_notOrdered_dict hT (aaa ?_)));show wpAny _ _ (Builtin.Dict.showsAll d >>= _) _ _ s;unfold Builtin.Dict.showsAll;rw[if_neg (by rw[hd];exact Bool.false_ne_true)];refine Z_ (aaa (Z_ (aci ho O1 (Z_ (wpAny_dictEpoch ho O1 ?_)))));exact Z_ (aav (aaa ⟨_,rfl,"dict_keyiterator",_,⟨_,aaj _ rfl,rfl⟩,PySem.F.slot_dict_keyiterator_next.lookup,hQ⟩))
theorem GA{Q:Option Value->Shared->Prop}(hit:s.heap.IsKeyIter it d i es.size ep)(hm:rQ s.heap d es ep)(ig:i<es.size)
  (hQ:∀h',h'.IsKeyIter it d (i+1) es.size ep->Heap.SameBut it s.heap h'->Q (some es[i].key) { s with heap:=h' }):wpAny (model prog w) A (pyNext (.ref it)) Q E s:=by
 obtain⟨o,ho,hc,hd⟩:=id hit;obtain⟨od,OH,Cd,OZ⟩:=hm;unfold pyNext;refine Z_ (aa2 (aaA (name:=Str.ofString "__next__") hit.typeIs aaN (aau aaN hit.typeIs PySem.F.entry_dict_keyiterator_next ?_ (PySem.F.args_dict_keyiterator_next_1 _))));refine Z_ (aaa (Z_ (Z_ ?_)))
 first|refine Z_ (aaU hit.typeIs (aaa ?_))|refine Z_ (aa7 hit.typeIs (aaa ?_))
 refine Z_ (abn ho hd ?_);simp only[show Builtin.Dict_items.ownsTuple "dict_keyiterator" = false by decide,Bool.false_eq_true,if_false];show wpAny _ _ (if (Value.ref d==Value.none)=true then _ else _) _ _ s;rw[if_neg (show ¬ ((Value.ref d==Value.none)=true) from Bool.false_ne_true)];refine Z_ (aaa (Z_ (aci OH OZ ?_)));rw[if_neg (by simp)];refine Z_ (aaa (Z_ (wpAny_dictEpoch OH OZ ?_)));rw[if_neg (by simp)];refine aaa ?_;simp only[show ¬ ((i:Int)<0) from by left,if_false,Int.toNat_natCast,Array.getElem?_eq_getElem ig];refine Z_ ?_
 first|refine Z_ (aaU hit.typeIs (aaa ?_))|refine Z_ (aa7 hit.typeIs (aaa ?_))
 refine Z_ (wpAny_isOneOf_keyiter hit.typeIs ?_);show wpAny _ _ (setField (.ref it) 1 (rawInt ((i:Int)+1)) >>= _) _ _ s;refine Z_ (aaX ho hd (by simp) ?_);have FY:(s.heap.update it (Obj.mapFields (·.setIfInBounds 1 (rawInt ((i:Int)+1))))).IsKeyIter it d (i+1) es.size ep :=
  ⟨_,aaC _ ho (abO (aca hd _)),(acj ..).trans hc,by rw[Obj.data_mapFields hd];simp[rawInt]⟩
 refine Z_ (aax (Z_ (wpAny_isOneOf_keyiter (s:={ s with heap:=s.heap.update it (Obj.mapFields (·.setIfInBounds 1 (rawInt ((i:Int)+1)))) }) FY.typeIs ?_)));show wpAny _ _ (pure es[i].key) _ _ _;exact aaa (aaa ⟨_,rfl,aaa (hQ _ FY (aaF ..))⟩)
theorem Lp{Q:Option Value->Shared->Prop}(hh:A.handled=none)(hit:s.heap.IsKeyIter it d i es.size ep)(hm:rQ s.heap d es ep)(Yy:es.size<=i)
  (hQ:∀h',Heap.ExtBut it s.heap h'->Q none { s with heap:=h' }):wpAny (model prog w) A (pyNext (.ref it)) Q E s:=by
 obtain⟨o,ho,hc,hd⟩:=id hit;obtain⟨od,OH,Cd,OZ⟩:=hm;unfold pyNext;refine Z_ (aa2 (aaA (name:=Str.ofString "__next__") hit.typeIs aaN (aau aaN hit.typeIs PySem.F.entry_dict_keyiterator_next ?_ (PySem.F.args_dict_keyiterator_next_1 _))));refine Z_ (aaa (Z_ (Z_ ?_)))
 first|refine Z_ (aaU hit.typeIs (aaa ?_))|refine Z_ (aa7 hit.typeIs (aaa ?_))
 refine Z_ (abn ho hd ?_);simp only[show Builtin.Dict_items.ownsTuple "dict_keyiterator" = false by decide,Bool.false_eq_true,if_false];show wpAny _ _ (if (Value.ref d==Value.none)=true then _ else _) _ _ s;rw[if_neg (show ¬ ((Value.ref d==Value.none)=true) from Bool.false_ne_true)];refine Z_ (aaa (Z_ (aci OH OZ ?_)));rw[if_neg (by simp)];refine Z_ (aaa (Z_ (wpAny_dictEpoch OH OZ ?_)));rw[if_neg (by simp)];refine aaa ?_;simp only[show ¬ ((i:Int)<0) from by left,if_false,Int.toNat_natCast,Array.getElem?_eq_none Yy];refine Z_ ?_
 first|refine Z_ (aaU hit.typeIs (aaa ?_))|refine Z_ (aa7 hit.typeIs (aaa ?_))
 show wpAny _ _ (setField (.ref it) 0 .none >>= _) _ _ s;refine Z_ (aaX ho hd (by simp) ?_);show wpAny _ _ (newExc (.type "StopIteration") [] >>= _) _ _ _;refine Z_ ?_;simp only[newExc,newTuple];refine Z_ (aav ?_ (by size_fits));refine Z_ (m:=firstArgMember _ _) (wpAny_of_eq (a:=Value.none) (by first|rfl | (simp only[firstArgMember];rfl)) ?_);refine aav ?_ (by size_fits);simp only[raiseNew];refine Z_ (wpAny_handled ?_);rw[show A.in1.handled=none from hh];refine Z_ (aaa (wpAny_throw ?_));refine Z_ (abM (T:="StopIteration") (b:=true) ⟨_,aaj _ rfl,rfl⟩ isSubtype_stop ?_);exact aaa (hQ _ (((aaF ..).extBut.push _).push _))
end
theorem vm:∀a b c:aa,HT.lexLt a b=true->HT.lexLt b c=true->HT.lexLt a c=true
 |[],[],_,h,_=>by rw[HT.jr]at h;cases h
 |[],_::_,[],_,h=>by rw[HT.cY]at h;cases h
 |[],_::_,_::_,_,_=>rfl
 |_::_,[],_,h,_=>by rw[HT.cY]at h;cases h
 |_::_,_::_,[],_,h=>by rw[HT.cY]at h;cases h
 |x::a,y::b,z::c,h1,h2=>by
  rw[HT.cZ]at *;by_cases e1:x=y
  ·subst e1;rw[if_pos rfl]at h1;by_cases e2:x=z
   ·subst e2;rw[if_pos rfl]at h2 ⊢;exact vm a b c h1 h2
   ·rw[if_neg e2]at h2 ⊢;exact h2
  ·rw[if_neg e1]at h1;have l1:x<y:=aab h1;by_cases e2:y=z
   ·subst e2;rw[if_neg (by left)];exact aar l1
   ·rw[if_neg e2]at h2;have l2:y<z:=aab h2;rw[if_neg (by left)];exact aar (by left)
theorem qH:∀a b:aa,HT.lexLt a b=true->HT.lexLt b a=false
 |[],[],_=>rfl
 |[],_::_,_=>rfl
 |_::_,[],h=>by rw[HT.cY]at h;cases h
 |x::a,y::b,h=>by
  rw[HT.cZ]at *;by_cases e:x=y
  ·subst e;rw[if_pos rfl]at h ⊢;exact qH a b h
  ·rw[if_neg e]at h;have l:x<y:=aab h;rw[if_neg (by left)];exact abc (by left)
theorem l9:∀a b:aa,a≠b->HT.lexLt a b=true\/HT.lexLt b a=true
 |[],[],h=>absurd rfl h
 |[],_::_,_=>.inl rfl
 |_::_,[],_=>.inr rfl
 |x::a,y::b,h=>by
  rw[HT.cZ,HT.cZ];by_cases e:x=y
  ·subst e;rw[if_pos rfl,if_pos rfl];exact l9 a b λz=>h (by rw[z])
  ·rw[if_neg e,if_neg (Ne.symm e)];rcases Int.lt_or_gt_of_ne e with l|l
   ·exact .inl (aar l)
   ·exact .inr (aar l)
def bV(nss:au):au:=nss.mergeSort λa b=>!HT.lexLt b a
def iw(nss:au):Prop:=nss.Pairwise λa b=>HT.lexLt a b=true
theorem wK:∀{l m:au},iw l->iw m->l.Perm m->l=m
 |[],m,_,_,p=>(List.perm_nil.mp p.symm).symm
 |a::l,[],_,_,p=>by have:=p.length_eq;simp at this
 |a::l,b::m,h1,h2,p=>by
  have e:a=b:=by
   have ha:a∈b::m:=p.mem_iff.mp aae;have hb:b∈a::l:=p.mem_iff.mpr aae;rcases List.mem_cons.mp ha with e|ha
   ·exact e
   ·rcases List.mem_cons.mp hb with e|hb
    ·exact e.symm
    ·have l1:=(List.pairwise_cons.mp h2).1 a ha;have l2:=(List.pairwise_cons.mp h1).1 b hb;rw[qH _ _ l1]at l2;cases l2
  subst e;rw[wK (List.pairwise_cons.mp h1).2 (List.pairwise_cons.mp h2).2 (List.perm_cons a |>.mp p)]
theorem mP(h:nss.Nodup):iw (bV nss):=by
 have p:(bV nss).Perm nss:=aaW _ _;have nd:(bV nss).Nodup:=p.nodup_iff.mpr h;have sd:(bV nss).Pairwise λa b=>(!HT.lexLt b a)=true:=abC (λa b c h1 h2=>by
  cases e:HT.lexLt c a with
  |false=>rfl
  |true =>
   exfalso;by_cases qR:b=c
   ·subst qR;rw[e]at h1;cases h1
   ·rcases l9 b c qR with l|l
    ·rw[vm _ _ _ l e]at h1;cases h1
    ·rw[l]at h2;cases h2) (λa b=>by
  cases e:HT.lexLt b a with
  |false=>rfl
  |true=>rw[qH _ _ e];rfl) nss
 exact(sd.and nd).imp λ{a b} ⟨h1,h2⟩=>by
  rcases l9 a b h2 with l|l
  ·exact l
  ·rw[l]at h1;cases h1
theorem Ax{l:au}(h:nss.Nodup)(hr:iw l)(p:l.Perm nss):l=bV nss:=wK hr (mP h) (p.trans (aaW _ _).symm)
def ltN(nss:au)(i j:Nat):Bool:=HT.lexLt (nss.getD i []) (nss.getD j [])
theorem JF(h:nss.Nodup):Ord (ltN nss) nss.length :=
 ⟨λa b c _ _ _ h1 h2=>vm _ _ _ h1 h2,λa b _ _ h=>qH _ _ h,λa b ha hb qR=>l9 _ _ λe=>qR (by
  have e1:nss.getD a []=nss[a]:=by simp[ha]
  have e2:nss.getD b []=nss[b]:=by simp[hb]
  rw[e1,e2]at e;exact(ack h).mp e)⟩
theorem o7(h:nss.Nodup){p:Array Nat}(ha:Arr p nss.length)(hu:Up (ltN nss) p nss.length):(p.toList.map λi=>nss.getD i [])=bV nss:=by
 refine Ax h ?_ ?_
 ·refine List.pairwise_iff_getElem.mpr λi j hi hj js=>?_;simp only[List.length_map,Array.length_toList]at hi hj;have:=hu i j js (by rw[<- ha.sz];exact hj);unfold ltN at this;have e:∀k (hk:k<p.size),p.getD k 0=p[k]:=λk hk=>by simp[Array.getD,hk]
  rw[e i hi,e j hj]at this;simpa using this
 ·have e:nss=(List.range nss.length).map λi=>nss.getD i []:=by
   refine abp (by simp) λi h1 h2=>?_;simp[h1]
  refine(ha.pm.map λi=>nss.getD i []).trans ?_;rw[<- e]
variable {ep k1 k2 n1 t':Nat}
section
variable {prog:aF}{w:World}{A:aG}{E:az}{s:Shared}
theorem Av{a:Addr}{n:Nat}{P:PySem.Fin->Shared->Prop}(ho:s.heap.get? a=some (seqObj "list" vs.toArray n))(rW:vs.length<64)(DL:nss.Nodup)
  (hl:vs.length=nss.length) (KP:SortKind->Prop) (Yw:vs≠[]->∀(Q:SortKind->Shared->Prop),(∀κ,KP κ->Q κ { s with heap:=(((s.heap.update a (Obj.mapSeq λ_=>#[])).push (seqObj "tuple" vs.toArray 0)).push (seqObj "list" #[] 0)) })->wpAny (model prog w) A (keyKind' vs.toArray) Q E { s with heap:=(((s.heap.update a (Obj.mapSeq λ_=>#[])).push (seqObj "tuple" vs.toArray 0)).push (seqObj "list" #[] 0)) })
  (ig:∀κ,KP κ->∀(i j:Nat) (hi:i<nss.length) (hj:j<nss.length) (E':az) (Q:Bool->Shared->Prop),Q (HT.lexLt nss[i] nss[j]) { s with heap:=(((s.heap.update a (Obj.mapSeq λ_=>#[])).push (seqObj "tuple" vs.toArray 0)).push (seqObj "list" #[] 0)) }->wpAny (model prog w) A (keyLt' κ (vs.getD i Value.none) (vs.getD j Value.none)) Q E' { s with heap:=(((s.heap.update a (Obj.mapSeq λ_=>#[])).push (seqObj "tuple" vs.toArray 0)).push (seqObj "list" #[] 0)) })
  (h:∀p:Array Nat,Arr p vs.length->(p.toList.map λi=>nss.getD i [])=bV nss->P (.done (.ret .none)) { s with heap:=sortedHeap s.heap a vs (List.toArray (p.toList.map λi=>vs.getD i Value.none)) }) :
  wpAny (model prog w) A (Builtin.«list.sort» ⟨[.ref a],[]⟩) P E s:=by
 rw[list_sort_plain];have ha:a<s.heap.objs.size:=aag ho;have hsz:vs.toArray.size=vs.length:=by simp
 have hz:vs.length<=sizeLine:=by rw[sizeLine_eq];left
 refine Z_ (listItems_at ho rfl (Z_ (listUpdate_at ho rfl ?_ (by rw[hsz];exact hz) (aaH _))));obtain⟨e1,zH⟩:∃e1,(s.heap.update a (Obj.mapSeq λ_=>#[])).get? a=some (seqObj "list" #[] e1):=⟨_,get?_update_seq ho (λ_=>#[])⟩
 refine Z_ (seqEpoch_at zH rfl (Z_ (wpAny_newTuple (Z_ (abK (aax ?_) (aaH _))) (by simpa using hz))));have Wh:(((s.heap.update a (Obj.mapSeq λ_=>#[])).push (seqObj "tuple" vs.toArray 0)).push (seqObj "list" #[] 0)).get? a=some (seqObj "list" #[] e1):=aac _ (aac _ zH);show wpAny (model prog w) A _ P E ({ s with heap:=((s.heap.update a (Obj.mapSeq λ_=>#[])).push (seqObj "tuple" vs.toArray 0)).push (seqObj "list" #[] 0) }:Shared);dsimp only;have fin:∀(mM:SortSt) (p:Array Nat),Arr p vs.length->(p.toList.map λi=>nss.getD i [])=bV nss->(arrOf mM).map (·.2)=List.toArray (p.toList.map λi=>vs.getD i Value.none)->failedOf mM=none->wpAny (model prog w) A (do
   let touched:=(<- seqEpoch a) != e1
   Builtin.List.listUpdate (.ref a) λ_=>(arrOf mM).map (·.2)
   if let some e:=failedOf mM then rule "list.sort.comparison-raised";throw e
   if touched then rule "list.sort.modified";raiseError "ValueError" "list modified during sort"
   ret .none) P E ({ s with heap:=((s.heap.update a (Obj.mapSeq λ_=>#[])).push (seqObj "tuple" vs.toArray 0)).push (seqObj "list" #[] 0) }:Shared):=by
  intro mM p hp hs hA hF;refine Z_ (seqEpoch_at Wh rfl ?_);rw[hA];refine Z_ (listUpdate_at Wh rfl ?_ (aaH _) (by rw[List.size_toArray,List.length_map,Array.length_toList,hp.sz];exact abD hz));rw[hF];simp only[bne_self_eq_false,Bool.false_eq_true,if_false];exact aaa (h p hp hs)
 by_cases h2:vs.toArray.size<2
 ·rw[if_pos h2,if_pos h2];refine Z_ (aaa ?_);rw[StateT.run_pure];refine Z_ (aaa ?_);rw[hsz]at h2;have T6:Arr (List.toArray (List.range vs.length)) vs.length:=⟨by simp,by simp⟩
  refine fin (SortSt.mk' general' (vs.toArray.zip vs.toArray) #[] 7 none) (List.toArray (List.range vs.length)) T6 ?_ ?_ rfl
  ·rw[hl]at T6 ⊢;exact o7 DL T6 λi j js hj=>by left
  ·apply Array.toList_inj.mp;show(Array.map (·.2) (vs.toArray.zip vs.toArray)).toList=_;rw[Array.toList_map,show(vs.toArray.zip vs.toArray)=pairsOf vs from rfl,pairsOf_toList,List.map_snd_zip (Nat.le_refl _)];refine abp (by simp) λi h1 h2=>?_;simp[h1]
 ·rw[if_neg h2,if_neg h2];rw[hsz]at h2;refine Z_ (Yw (λz=>by rw[z]at h2;simp at h2) _ λκ hk=>?_);have ok:=Et (JF DL) (by rw[<- hl];left);refine Z_ (aaB (PySem.W.kat_run (ks:=vs) (vs:=vs) (κ:=κ) (Q:=λmM s'=>s'=({ s with heap:=((s.heap.update a (Obj.mapSeq λ_=>#[])).push (seqObj "tuple" vs.toArray 0)).push (seqObj "list" #[] 0) }:Shared)/\∃p,Arr p vs.length/\(p.toList.map λi=>nss.getD i [])=bV nss/\(arrOf mM).map (·.2)=List.toArray (p.toList.map λi=>vs.getD i Value.none)/\failedOf mM=none)
   (G:=λp s'=>s'=({ s with heap:=((s.heap.update a (Obj.mapSeq λ_=>#[])).push (seqObj "tuple" vs.toArray 0)).push (seqObj "list" #[] 0) }:Shared)/\Arr p vs.length/\(p.toList.map λi=>nss.getD i [])=bV nss) rfl (by left) rW (λp mM s' Z2 YG hf hG=>⟨hG.1,p,hG.2.1,hG.2.2,PySem.W.kat_snds rfl YG,hf⟩) ?_) (λr s' ⟨e,p,hp,hs,hA,hF⟩=>?_) λ_ _ e=>e)
  rotate_left
  ·subst e;exact fin r.2 p hp hs hA hF
  ·rw[hl];refine x_ (lt:=ltN nss) (n:=nss.length) (λi j C hi hj hC=>?_) _ ok.1 ⟨rfl,ok.2.1,o7 DL ok.2.1 ok.2.2⟩;unfold PySem.W.kas_ask;have e3:nss.getD i []=nss[i]:=by simp[hi]
   have e4:nss.getD j []=nss[j]:=by simp[hj]
   have WE:C (HT.lexLt (nss.getD i []) (nss.getD j [])) _:=hC;rw[e3,e4]at WE;exact ig κ hk i j hi hj _ _ WE
theorem Aw{a:Addr}{n:Nat}{P:PySem.Fin->Shared->Prop}(hu:A.units<cLine)(ho:s.heap.get? a=some (seqObj "list" vs.toArray n))(rW:vs.length<64)(DL:nss.Nodup)
  (ht:oU (((s.heap.update a (Obj.mapSeq λ_=>#[])).push (seqObj "tuple" vs.toArray 0)).push (seqObj "list" #[] 0)) vs nss)
  (h:∀p:Array Nat,Arr p vs.length->(p.toList.map λi=>nss.getD i [])=bV nss->P (.done (.ret .none)) { s with heap:=sortedHeap s.heap a vs (List.toArray (p.toList.map λi=>vs.getD i Value.none)) }) :
  wpAny (model prog w) A (Builtin.«list.sort» ⟨[.ref a],[]⟩) P E s :=
 Av ho rW DL ht.1 DC (λxp Q hQ=>kind_any ht xp hQ) (λκ hk i j hi hj E' Q hq=>by
  obtain⟨x,aL,e1,i1,i2⟩:=ht.2 i _ (aan hi);obtain⟨y,FL,e2,j1,j2⟩:=ht.2 j _ (aan hj);rw[show vs.getD i Value.none=.ref x by simp[e1],show vs.getD j Value.none=.ref y by simp[e2]];exact JX hk hu i1 j1 i2 j2 hq) h
theorem CU{es:Array DictEntry}(hh:A.handled=none)(I d:Addr)(xp:d≠I):Walks prog w A I [I,d] [I] es.size (λi v=>∃e,es[i]?=some e/\v=e.key) (λi h=>h.IsKeyIter I d i es.size ep/\rQ h d es ep) where
 sub:=λb hb=>by simp at hb;simp[hb]
 frame:=λ_ _ _ st hk=>⟨st.1.at λo e=>hk I (by simp) o e,let ⟨o,ho,r⟩:=st.2;⟨o,hk d (by simp) o ho,r⟩⟩
 item:=λi s Q E hi st hQ=>GA st.1 st.2 hi λh' FY L1=>hQ _ h' s.toks ⟨es[i],aaM hi,rfl⟩ ⟨FY,let ⟨o,ho,r⟩:=st.2;⟨o,L1.extBut d o xp ho,r⟩⟩ λb o hb e=>L1.extBut b o (λh=>hb (by simp[h])) e
 done:=λs Q E st hQ=>Lp hh st.1 st.2 (aah _) λh' YC=>hQ h' s.toks λb o hb e=>YC b o (λh=>hb (by simp[h])) e
 self:=λ_ _ _ _ st hQ=>wpAny_pyIter_keyiter st.1 hQ
theorem Lo{d:Addr}{es:Array DictEntry}(lo:(d==sysModules)=false):PySem.W.KdlSrc prog w "dict" d d es.size (λi v=>∃e,es[i]?=some e/\v=e.key) (λh=>rQ h d es ep) where
 type:=λ_ hm=>hm.typeIs
 there:=λ_ hm=>let ⟨_,ho,_⟩:=hm;⟨aag ho,aag ho⟩
 keep:=λ_ _ hm hk=>let ⟨o,ho,r⟩:=hm;⟨o,hk d (.inl rfl) o ho,r⟩
 notList:=by decide
 notTuple:=by decide
 hint:=λ_ _ _ _ hm hq=>PySem.W.kdl_hint_dict hm.typeIs hq
 iter:=λ_ _ hh hm=>⟨_,_,(λ_ _ hq=>GB lo hm hq),CU hh _ d (let ⟨_,ho,_⟩:=hm;aai (aag ho)),⟨⟨_,aaj _ rfl,rfl,rfl⟩,let ⟨o,ho,r⟩:=hm;⟨o,aac _ ho,r⟩⟩⟩
theorem sD{d:Addr}{es:Array DictEntry}(hh:A.handled=none)(hu:A.units+2<cLine)(lo:(d==sysModules)=false)(hm:rQ s.heap d es ep)(rW:es.size<64)(DL:nss.Nodup)(ht:oU s.heap (es.toList.map (·.key)) nss)
  (h:∀(S:Addr) (h':Heap) (tk e:Nat) (p:Array Nat),s.heap.get? S=none->(∀b o,s.heap.get? b=some o->h'.get? b=some o)->Arr p es.size->(p.toList.map λi=>nss.getD i [])=bV nss ->
   h'.get? S=some (seqObj "list" (List.toArray (p.toList.map λi=>(es.toList.map (·.key)).getD i Value.none)) e)->Q (.ref S) { s with heap:=h',toks:=tk }) :
  wpAny (model prog w) A (call (.builtin "sorted") [.ref d]) Q E s:=by
 refine abr kind_sorted plain_sorted entry_sorted (args_sorted1 _) ?_;unfold Builtin.«sorted»;have hz:es.size<=sizeLine:=by rw[sizeLine_eq];left
 refine Z_ (m:=checkCount "sorted" 1 1 _) (aaa (Z_ (PySem.W.kdu_collect (A:=A.in1) (Lo lo) hh hm hz λh1 tk acc hk fX=>?_)));have Pd:acc.toList=es.toList.map (·.key):=by
  refine acg λi=>?_;rw[List.getElem?_map,Array.getElem?_toList,Array.getElem?_toList];by_cases hi:i<es.size
  ·have Wn:i<acc.size:=by rw[fX.1];exact hi
   obtain⟨e,he,hv⟩:=fX.2 i acc[i] (aaM Wn);rw[Array.getElem?_eq_getElem Wn,he,hv];rfl
  ·rw[Array.getElem?_eq_none (by rw[fX.1];left),Array.getElem?_eq_none (by left)];rfl
 rw[Pd];generalize SY:es.toList.map (·.key)=vs at *;have L0:vs.length=es.size:=by rw[<- SY];simp
 refine Z_ (abK ?_ (by rw[L0];exact hz));show wpAny _ _ _ _ _ ({ s with heap:=h1.push (seqObj "list" vs.toArray 0),toks:=tk }:Shared);have OI:(h1.push (seqObj "list" vs.toArray 0)).get? h1.objs.size=some (seqObj "list" vs.toArray 0):=aaj _ rfl;have k6:∀b o,s.heap.get? b=some o->((((h1.push (seqObj "list" vs.toArray 0)).update h1.objs.size (Obj.mapSeq λ_=>#[])).push (seqObj "tuple" vs.toArray 0)).push (seqObj "list" #[] 0)).get? b=some o:=λb o e=>by
  refine aac _ (aac _ ?_);rw[Heap.get?_update_other _ _ (Nat.ne_of_gt (Heap.lt_size (hk b o e)))];exact aac _ (hk b o e)
 have hle:s.heap.get? h1.objs.size=none:=by
  cases q:s.heap.get? h1.objs.size with
  |none=>rfl
  |some o=>exact absurd (aag (hk _ o q)) (aaw _)
 refine Z_ (aax (aau slot_list_sort ⟨_,OI,rfl⟩ entry_list_sort (Aw (s:={ s with heap:=h1.push (seqObj "list" vs.toArray 0),toks:=tk }) (nss:=nss) (show A.in1.in1.units<cLine by show A.units+1+1<cLine;left) OI (by rw[L0];exact rW) DL (ht.mono k6) λp hp hs=>⟨_,rfl,?_⟩) (args_list_sort _)));obtain⟨e,he⟩:=sortedHeap_at (out:=List.toArray (p.toList.map λi=>vs.getD i Value.none)) OI;refine aaa ⟨_,rfl,h h1.objs.size _ tk e p hle (λb o e=>?_) (by rw[<- L0];exact hp) hs he⟩;have ig:=aag (hk b o e);rw[sortedHeap_old (Nat.ne_of_lt ig) (by rw[size_push'];exact Nat.lt_succ_of_lt ig)];exact aac _ (hk b o e)
end
noncomputable abbrev rN(h:Heap)(z TI TO a:Addr)(f:Bool):Prop :=
 h.get? z=some { cls:=.type "zip",dict:=none,data:=.fields #[rawInt a,.bool f,.bool false,.ref TI,.ref TO],slots:=#[] }
variable {i1 i2 l1 l2:Addr}{oa:Obj}{xs ys:aR}
section
variable {prog:aF}{w:World}{A:aG}{E:az}{s:Shared}
theorem zT{a:Addr}{o:Obj}{Q:Option Obj->Shared->Prop}(ho:s.heap.get? a=some o)(h:Q (some o) s):wpAny (model prog w) A (loadIfAlive a) Q E s:=by
 have h':Q (s.heap.get? a) s:=by rw[ho];exact h
 exact λ_ _ _=>h'
theorem wa{z TI TO a:Addr}{f:Bool}{Q:Bool->Shared->Prop}(hz:rN s.heap z TI TO a f)(ha:s.heap.get? a=some oa)(hQ:∀h',rN h' z TI TO a true->Heap.SameBut z s.heap h'->Q false { s with heap:=h' }):
  wpAny (model prog w) A (Builtin.SmallTypes.ownedTupleIsFree (.ref z)) Q E s:=by
 unfold Builtin.SmallTypes.ownedTupleIsFree;refine Z_ (aa4 hz rfl (x:=rawInt a) rfl ?_);show wpAny _ _ (loadIfAlive ((a:Int).toNat) >>= _) _ _ _;rw[Int.toNat_natCast];refine Z_ (zT ha ?_);simp only[Option.isNone_some,Bool.false_eq_true,if_false];refine Z_ (aa4 hz rfl (x:=.bool f) rfl ?_);cases f with
 |true =>
  rw[if_neg (show ¬ ((Value.bool true != Value.bool true)=true) from Bool.false_ne_true)];exact aaa (hQ s.heap hz (Heap.SameBut.refl _ _))
 |false =>
  rw[if_pos (show(Value.bool false != Value.bool true)=true from rfl)];exact Z_ (wpAny_setField_rec hz (by simp) λh₃ OW lF=>aaa (hQ h₃ OW lF))
theorem rY{z TI TO a:Addr}{f:Bool}{x y:Value}(D:ZipApart z TI TO i1 i2 l1 l2)
  (hz:rN s.heap z TI TO a f) (ha:s.heap.get? a=some oa) (DQ:IsPair s.heap TI (.ref i1) (.ref i2))
  (h1:s.heap.IsListIter i1 l1 k1) (h2:s.heap.IsListIter i2 l2 k2) (DM:s.heap.IsList l1 xs) (rT:s.heap.IsList l2 ys) (hx:xs[k1]?=some x) (hy:ys[k2]?=some y)
  (hQ:∀h',rN h' z TI TO a true->h'.IsListIter i1 l1 (k1+1)->h'.IsListIter i2 l2 (k2+1)->IsPair h' s.heap.objs.size x y->h'.objs.size=s.heap.objs.size+1 ->
   (∀c o,c≠z->c≠i1->c≠i2->s.heap.get? c=some o->h'.get? c=some o)->Q (.ref s.heap.objs.size) { s with heap:=h' }) :
  wpAny (model prog w) A (Builtin.«zip.__next__» ⟨[.ref z],[]⟩) (λfin s'=>∃v,fin=.done (.ret v)/\Q v s') E s:=by
 show wpAny _ _ (field (.ref z) 2 >>= _) _ _ _;refine Z_ (aa4 hz rfl (x:=.bool false) rfl ?_);show wpAny _ _ (field (.ref z) 3 >>= _) _ _ _;refine Z_ (aa4 hz rfl (x:=.ref TI) rfl ?_);refine Z_ (abz DQ rfl ?_);show wpAny _ _ (Builtin.SmallTypes.ownedTupleIsFree (.ref z) >>= _) _ _ _;refine Z_ (wa hz ha λh₁ Hz fL=>?_);simp only[Bool.false_eq_true,if_false];refine Z_ ?_;rw[<- Array.forIn_toList];simp only[List.forIn_cons,List.forIn_nil];refine Z_ (Z_ (aax ?_));show wpAny _ _ (Builtin.SmallTypes.nextOf (.ref i1) >>= _) _ _ _;refine Z_ (abH (h1.extBut fL.extBut D.i1z) (DM.extBut fL.extBut D.l1z) hx λh₂ HE iP=>aaa ?_);refine aaa ?_;refine Z_ (Z_ (aax ?_));show wpAny _ _ (Builtin.SmallTypes.nextOf (.ref i2) >>= _) _ _ _;refine Z_ (abH ((h2.extBut fL.extBut D.i2z).extBut iP.extBut D.i12.symm) ((rT.extBut fL.extBut D.l2z).extBut iP.extBut D.l2i1) hy λh₃ Ph lF=>aaa ?_);refine aaa ?_;refine aaa ?_;have hsz:h₃.objs.size=s.heap.objs.size:=by rw[lF.1,iP.1,fL.1]
 refine Z_ (wpAny_newTuple ?_ (by show 2<=_;rw[sizeLine_eq];decide));refine aaa ⟨_,rfl,?_⟩;show Q (.ref h₃.objs.size) _;have ig:∀{c o},h₃.get? c=some o->c≠h₃.objs.size:=λe=>aai (aag e);have hk:∀c o,c≠z->c≠i1->c≠i2->s.heap.get? c=some o->(h₃.push { cls:=.type "tuple",data:=.seq #[x,y] }).get? c=some o:=λc o c1 c2 c3 e=>aac _ (lF.extBut _ _ c3 (iP.extBut _ _ c2 (fL.extBut _ _ c1 e)));rw[hsz];refine hQ _ (aac _ (lF.extBut _ _ D.i2z.symm (iP.extBut _ _ D.i1z.symm Hz))) ((HE.extBut lF.extBut D.i12).at λo e=>aac _ e) (Ph.at λo e=>aac _ e) ?_ (by rw[Heap.size_push,hsz]) hk;rw[<- hsz];exact aaj _ rfl
theorem uI{z TI TO a:Addr}{f:Bool}{Q:Fin->Shared->Prop}(hh:A.handled=none)(D:ZipApart z TI TO i1 i2 l1 l2)
  (hz:rN s.heap z TI TO a f) (ha:s.heap.get? a=some oa) (DQ:IsPair s.heap TI (.ref i1) (.ref i2))
  (h1:s.heap.IsListIter i1 l1 k1) (h2:s.heap.IsListIter i2 l2 k2) (DM:s.heap.IsList l1 xs) (rT:s.heap.IsList l2 ys) (tS:xs[k1]?=none\/ys[k2]?=none)
  (hE:∀h' e,(∀c o,c≠z->c≠i1->c≠i2->s.heap.get? c=some o->h'.get? c=some o)->(∃o,h'.get? e=some o/\o.cls=.type "StopIteration")->E (.ref e) { s with heap:=h' }) :
  wpAny (model prog w) A (Builtin.«zip.__next__» ⟨[.ref z],[]⟩) Q E s:=by
 show wpAny _ _ (field (.ref z) 2 >>= _) _ _ _;refine Z_ (aa4 hz rfl (x:=.bool false) rfl ?_);show wpAny _ _ (field (.ref z) 3 >>= _) _ _ _;refine Z_ (aa4 hz rfl (x:=.ref TI) rfl ?_);refine Z_ (abz DQ rfl ?_);show wpAny _ _ (Builtin.SmallTypes.ownedTupleIsFree (.ref z) >>= _) _ _ _;refine Z_ (wa hz ha λh₁ Hz fL=>?_);simp only[Bool.false_eq_true,if_false];refine Z_ ?_;rw[<- Array.forIn_toList];simp only[List.forIn_cons,List.forIn_nil];refine Z_ (Z_ (aax ?_));show wpAny _ _ (Builtin.SmallTypes.nextOf (.ref i1) >>= _) _ _ _;cases hx:xs[k1]? with
 |none =>
  refine Z_ (wpAny_nextOf_list_end hh (h1.extBut fL.extBut D.i1z) (DM.extBut fL.extBut D.l1z) hx λh₂ e iP he=>?_);exact hE h₂ e (λc o c1 c2 c3 x=>iP _ _ c2 (fL.extBut _ _ c1 x)) he
 |some x =>
  have hy:ys[k2]?=none:=by rcases tS with h|h;rw[hx]at h;cases h;exact h
  refine Z_ (abH (h1.extBut fL.extBut D.i1z) (DM.extBut fL.extBut D.l1z) hx λh₂ HE iP=>aaa ?_);refine aaa ?_;refine Z_ (Z_ (aax ?_));show wpAny _ _ (Builtin.SmallTypes.nextOf (.ref i2) >>= _) _ _ _;refine Z_ (wpAny_nextOf_list_end hh ((h2.extBut fL.extBut D.i2z).extBut iP.extBut D.i12.symm) ((rT.extBut fL.extBut D.l2z).extBut iP.extBut D.l2i1) hy λh₃ e lF he=>?_);exact hE h₃ e (λc o c1 c2 c3 x=>lF _ _ c3 (iP.extBut _ _ c2 (fL.extBut _ _ c1 x))) he
theorem mB{z TI TO a:Addr}{f:Bool}{x y:Value}{Q:Option Value->Shared->Prop}(D:ZipApart z TI TO i1 i2 l1 l2)
  (hz:rN s.heap z TI TO a f) (ha:s.heap.get? a=some oa) (DQ:IsPair s.heap TI (.ref i1) (.ref i2))
  (h1:s.heap.IsListIter i1 l1 k1) (h2:s.heap.IsListIter i2 l2 k2) (DM:s.heap.IsList l1 xs) (rT:s.heap.IsList l2 ys) (hx:xs[k1]?=some x) (hy:ys[k2]?=some y)
  (hQ:∀h',rN h' z TI TO a true->h'.IsListIter i1 l1 (k1+1)->h'.IsListIter i2 l2 (k2+1)->IsPair h' s.heap.objs.size x y->h'.objs.size=s.heap.objs.size+1 ->
   (∀c o,c≠z->c≠i1->c≠i2->s.heap.get? c=some o->h'.get? c=some o)->Q (some (.ref s.heap.objs.size)) { s with heap:=h' }) :
  wpAny (model prog w) A (pyNext (.ref z)) Q E s:=by
 have hT:s.TypeIs (.ref z) "zip":=⟨_,hz,rfl⟩
 unfold pyNext;exact Z_ (aa2 (aaA (name:=Str.ofString "__next__") hT abo
  (aau abo hT PySem.F.entry_zip_next
   (rY D hz ha DQ h1 h2 DM rT hx hy λh' a1 a2 a3 a4 a5 a6=>aaa (hQ h' a1 a2 a3 a4 a5 a6)) (PySem.F.args_zip_next_1 _))))
theorem oA{z TI TO a:Addr}{f:Bool}{Q:Option Value->Shared->Prop}(hh:A.handled=none)(D:ZipApart z TI TO i1 i2 l1 l2)
  (hz:rN s.heap z TI TO a f) (ha:s.heap.get? a=some oa) (DQ:IsPair s.heap TI (.ref i1) (.ref i2))
  (h1:s.heap.IsListIter i1 l1 k1) (h2:s.heap.IsListIter i2 l2 k2) (DM:s.heap.IsList l1 xs) (rT:s.heap.IsList l2 ys) (tS:xs[k1]?=none\/ys[k2]?=none)
  (hQ:∀h',(∀c o,c≠z->c≠i1->c≠i2->s.heap.get? c=some o->h'.get? c=some o)->Q none { s with heap:=h' }):wpAny (model prog w) A (pyNext (.ref z)) Q E s:=by
 have hT:s.TypeIs (.ref z) "zip":=⟨_,hz,rfl⟩
 unfold pyNext;refine Z_ (aa2 (aaA (name:=Str.ofString "__next__") hT abo
  (aau abo hT PySem.F.entry_zip_next (uI hh D hz ha DQ h1 h2 DM rT tS λh' e hk he=>?_) (PySem.F.args_zip_next_1 _))))
 obtain⟨o,ho,hc⟩:=he;refine Z_ (abM (T:="StopIteration") (b:=true) ⟨o,ho,hc⟩ isSubtype_stop ?_);exact aaa (hQ _ hk)
end
theorem Ie:typeLookup (.type "zip") "__len__" = pure none:=by rw[typeLookup_type,builtinLookup_eq_fast];kernel_rfl
theorem Mp:typeLookup (.type "zip") "__length_hint__" = pure none:=by rw[typeLookup_type,builtinLookup_eq_fast];kernel_rfl
section
variable {prog:aF}{w:World}{A:aG}{E:az}{s:Shared}
theorem DW{z:Addr}(hT:s.TypeIs (.ref z) "zip"){Q:Bool->Shared->Prop}(h:Q true s):wpAny (model prog w) A (Builtin.List.listLengthHint (.ref z)) Q E s:=by
 unfold Builtin.List.listLengthHint;refine Z_ (wpAny_specialOf hT Ie ?_);refine aa0 (λqR=>absurd qR (by decide)) (λ_=>?_);refine aa0 (λqR=>absurd qR (by decide)) (λ_=>?_);refine Z_ (wpAny_specialOf hT Mp ?_);exact aaa h
end
structure Zl(h:Heap)(z TI TO i1 i2 l1 l2 S:Addr)(xs ys:aR)(i:Nat):Prop where
 st:(IsZip h z TI TO .none/\∃a b,IsPair h TO a b)\/∃a f oa,rN h z TI TO a f/\h.get? a=some oa/\S<a
 ti:IsPair h TI (.ref i1) (.ref i2)
 w1:h.IsListIter i1 l1 i
 w2:h.IsListIter i2 l2 i
 q1:h.IsList l1 xs
 q2:h.IsList l2 ys
structure Below(z TI TO i1 i2 l1 l2 S:Addr):Prop where
 D:ZipApart z TI TO i1 i2 l1 l2
 z:z<S
 TI:TI<S
 TO:TO<S
 i1:i1<S
 i2:i2<S
 l1:l1<S
 l2:l2<S
section
variable {prog:aF}{w:World}{A:aG}{E:az}{s:Shared}{z TI TO i1 i2 l1 l2 S:Addr}{xs ys:aR}{i:Nat}
theorem Zl.keep(B:Below z TI TO i1 i2 l1 l2 S)(Z:Zl h z TI TO i1 i2 l1 l2 S xs ys i)(hk:∀b o,b≠S->h.get? b=some o->h'.get? b=some o):Zl h' z TI TO i1 i2 l1 l2 S xs ys i:=by
 have n:∀{b},b<S->b≠S:=λh=>aai h;refine⟨?_,hk _ _ (n B.TI) Z.ti,Z.w1.at λo e=>hk _ o (n B.i1) e,Z.w2.at λo e=>hk _ o (n B.i2) e,Z.q1.at λo e=>hk _ o (n B.l1) e,Z.q2.at λo e=>hk _ o (n B.l2) e⟩;rcases Z.st with ⟨h1,a,b,h2⟩|⟨a,f,oa,h1,h2,h3⟩
 ·exact .inl ⟨hk _ _ (n B.z) h1,a,b,hk _ _ (n B.TO) h2⟩
 ·exact .inr ⟨a,f,oa,hk _ _ (n B.z) h1,hk _ _ (aaq h3) h2,h3⟩
theorem DU{x y:Value}{Q:Option Value->Shared->Prop}(B:Below z TI TO i1 i2 l1 l2 S)(Z:Zl s.heap z TI TO i1 i2 l1 l2 S xs ys i)(hS:S<s.heap.objs.size)(hx:xs[i]?=some x)(hy:ys[i]?=some y)
  (hQ:∀h',Zl h' z TI TO i1 i2 l1 l2 S xs ys (i+1)->IsPair h' s.heap.objs.size x y->h'.objs.size=s.heap.objs.size+1->(∀c o,c≠z->c≠TO->c≠i1->c≠i2->s.heap.get? c=some o->h'.get? c=some o)->Q (some (.ref s.heap.objs.size)) { s with heap:=h' }) :
  wpAny (model prog w) A (pyNext (.ref z)) Q E s:=by
 have D:=B.D;rcases Z.st with ⟨hz,a,b,L_⟩|⟨a,f,oa,hz,ha,hSa⟩
 ·refine wpAny_pyNext_zip_item D hz Z.ti L_ Z.w1 Z.w2 Z.q1 Z.q2 hx hy λh' z1 o1 a1 b1 t1 MR k1=>hQ h' ?_ t1 MR k1;exact⟨.inr ⟨s.heap.objs.size,false,_,z1,t1,hS⟩,k1 _ _ D.TIz D.TITO D.TIi1 D.TIi2 Z.ti,a1,b1,Z.q1.at λo e=>k1 _ o D.l1z D.l1TO D.l1i1 D.l1i2 e,Z.q2.at λo e=>k1 _ o D.l2z D.l2TO D.l2i1 D.l2i2 e⟩
 ·refine mB D hz ha Z.ti Z.w1 Z.w2 Z.q1 Z.q2 hx hy λh' z1 a1 b1 t1 MR k1=>hQ h' ?_ t1 MR λc o c1 _ c3 c4 e=>k1 c o c1 c3 c4 e;have n:∀{b},b<S->a≠b:=λh=>aaq (abm h hSa);exact⟨.inr ⟨a,true,oa,z1,k1 _ _ (n B.z) (n B.i1) (n B.i2) ha,hSa⟩,k1 _ _ D.TIz D.TIi1 D.TIi2 Z.ti,a1,b1,Z.q1.at λo e=>k1 _ o D.l1z D.l1i1 D.l1i2 e,Z.q2.at λo e=>k1 _ o D.l2z D.l2i1 D.l2i2 e⟩
theorem DX{Q:Option Value->Shared->Prop}(hh:A.handled=none)(B:Below z TI TO i1 i2 l1 l2 S)(Z:Zl s.heap z TI TO i1 i2 l1 l2 S xs ys i)(tS:xs[i]?=none\/ys[i]?=none)
  (hQ:∀h',(∀c o,c≠z->c≠TO->c≠i1->c≠i2->s.heap.get? c=some o->h'.get? c=some o)->Q none { s with heap:=h' }):wpAny (model prog w) A (pyNext (.ref z)) Q E s:=by
 have D:=B.D;rcases Z.st with ⟨hz,a,b,L_⟩|⟨a,f,oa,hz,ha,hSa⟩
 ·exact wpAny_pyNext_zip_end hh D hz Z.ti L_ Z.w1 Z.w2 Z.q1 Z.q2 tS hQ
 ·exact oA hh D hz ha Z.ti Z.w1 Z.w2 Z.q1 Z.q2 tS λh' k=>hQ h' λc o c1 _ c3 c4 e=>k c o c1 c3 c4 e
end
structure Qr(xs ys:aR)(lo:Addr)(h:Heap)(as:aZ):Prop where
 above:∀a∈as,lo<a
 nd:as.Nodup
 pairs:∀(j:Nat) (a:Addr),as[j]?=some a->∃x y,xs[j]?=some x/\ys[j]?=some y/\IsPair h a x y
section
variable {prog:aF}{w:World}{A:aG}{s:Shared}{R:Result->Shared->Prop}{z TI TO i1 i2 l1 l2 S:Addr}{xs ys:aR}
theorem DT(hh:A.handled=none)(B:Below z TI TO i1 i2 l1 l2 S)(hn:min xs.size ys.size<=sizeLine)(res:Value){h₁:Heap}
  (hR:∀h' tk acc c as,(∀b o,b≠S->b≠z->b≠TO->b≠i1->b≠i2->h₁.get? b=some o->h'.get? b=some o)->h'.get? S=some { cls:=.type "list",dict:=none,data:=.seq acc c,slots:=#[] }->as.length=min xs.size ys.size->Qr xs ys S h' as ->
   acc.toList=as.map Value.ref->R (.ok (.ret res)) { s with heap:=h',toks:=tk }) :
  ∀(k i:Nat) (h:Heap) (tk c:Nat) (acc:aR) (as:aZ),min xs.size ys.size - i=k->i<=min xs.size ys.size->Zl h z TI TO i1 i2 l1 l2 S xs ys i->(∀b o,b≠S->b≠z->b≠TO->b≠i1->b≠i2->h₁.get? b=some o->h.get? b=some o) ->
   h.get? S=some { cls:=.type "list",dict:=none,data:=.seq acc c,slots:=#[] }->acc.toList=as.map Value.ref->as.length=i->Qr xs ys S h as ->
   codeAny (model prog w) A (.builtin "list.extend.loop" ⟨[.ref S,.ref z,res],[]⟩) R { s with heap:=h,toks:=tk }:=by
 have nz:S≠z:=aaq B.z;have nO:S≠TO:=aaq B.TO;have n1:S≠i1:=aaq B.i1;have n2:S≠i2:=aaq B.i2;have Vv:∀{a:Addr},S<a->a≠z/\a≠TO/\a≠i1/\a≠i2:=λh=>⟨aaq (abm B.z h),aaq (abm B.TO h),aaq (abm B.i1 h),aaq (abm B.i2 h)⟩
 intro k;induction k with
 |zero =>
  intro i h tk c acc as hk hi Z B8 hS fX Pc hG;refine aaJ PySem.F.entry_extend_loop ?_;rw[Around.under_plainId PySem.F.plain_extend_loop _];show wpAny _ A.in1 (pyNext (.ref z) >>= _) _ _ _;have tS:xs[i]?=none\/ys[i]?=none:=by
   rcases Nat.le_total xs.size ys.size with q|q
   ·exact .inl (Array.getElem?_eq_none (by left))
   ·exact .inr (Array.getElem?_eq_none (by left))
  refine Z_ (DX (s:={ s with heap:=h,toks:=tk }) (A:=A.in1) hh B Z tS λh' he=>?_);refine aaa (hR h' tk acc c as (λb o h1 h2 h3 h4 h5 e=>he b o h2 h3 h4 h5 (B8 b o h1 h2 h3 h4 h5 e)) (he S _ nz nO n1 n2 hS) (by left) ⟨hG.above,hG.nd,λj a hj=>?_⟩ fX);obtain⟨x,y,e1,e2,e3⟩:=hG.pairs j a hj;obtain⟨a1,a2,a3,a4⟩:=Vv (hG.above a (aay hj));exact⟨x,y,e1,e2,he a _ a1 a2 a3 a4 e3⟩
 |succ k ih =>
  intro i h tk c acc as hk hi Z B8 hS fX Pc hG;have ig:i<min xs.size ys.size:=by left
  have hx:xs[i]?=some (xs[i]'(by left)):=aaM _;have hy:ys[i]?=some (ys[i]'(by left)):=aaM _;have hsz:acc.size=i:=by rw[<- Array.length_toList,fX,List.length_map,Pc]
  have T9:S<h.objs.size:=aag hS;refine aaJ PySem.F.entry_extend_loop ?_;rw[Around.under_plainId PySem.F.plain_extend_loop _];show wpAny _ A.in1 (pyNext (.ref z) >>= _) _ _ _;refine Z_ (DU (s:={ s with heap:=h,toks:=tk }) B Z T9 hx hy λh' Z' ht hz L7=>?_);dsimp only at ht hz L7 ⊢;have rV:=L7 S _ nz nO n1 n2 hS;have up:∀b o,b≠S->h'.get? b=some o->(h'.update S (Obj.mapSeq (·.push (Value.ref h.objs.size)))).get? b=some o:=λb o hb e=>(aaE _ _ (abj hb)).trans e;show wpAny _ A.in1 (updateSeq S (·.push (Value.ref h.objs.size)) >>= _) _ _ _;refine Z_ ?_;refine abd rV rfl (aaa ⟨aa_ PySem.F.plain_extend_loop _,ih (i+1) _ tk _ (acc.push (Value.ref h.objs.size)) (as++[h.objs.size]) (by left) ig (Z'.keep B up)
   (λb o h1 h2 h3 h4 h5 e=>up b o h1 (L7 b o h2 h3 h4 h5 (B8 b o h1 h2 h3 h4 h5 e))) (aaC _ rV rfl) (by rw[Array.toList_push,fX,List.map_append];rfl) (by rw[List.length_append,Pc];rfl) ⟨?_,?_,?_⟩⟩) (by rw[hsz];left) (by show(acc.push (Value.ref h.objs.size)).size<=sizeLine+1;rw[Array.size_push,hsz];left)
  ·intro a ha;rcases List.mem_append.mp ha with ha|ha
   ·exact hG.above a ha
   ·rw[List.mem_singleton.mp ha];exact T9
  ·refine List.nodup_append.mpr ⟨hG.nd,List.nodup_cons.mpr ⟨List.not_mem_nil,aaQ⟩,λa ha b hb e=>?_⟩;rw[List.mem_singleton.mp hb]at e;subst e;obtain⟨j,hj⟩:=List.mem_iff_getElem?.mp ha;obtain⟨_,_,_,_,e⟩:=hG.pairs j _ hj;exact absurd (aag e) (aaw _)
  ·intro j b hj;rcases Nat.lt_trichotomy j as.length with q|q|q
   ·rw[List.getElem?_append_left q]at hj;obtain⟨x',y',e1,e2,e3⟩:=hG.pairs j b hj;have hb:=hG.above b (aay hj);obtain⟨a1,a2,a3,a4⟩:=Vv hb;exact⟨x',y',e1,e2,up b _ (aaq hb) (L7 b _ a1 a2 a3 a4 e3)⟩
   ·subst q;have hb:h.objs.size=b:=by simpa using hj
    subst hb;exact⟨_,_,by rw[Pc];exact hx,by rw[Pc];exact hy,up _ _ (aaq T9) ht⟩
   ·have OJ:(as++[h.objs.size])[j]?=none:=List.getElem?_eq_none (by rw[List.length_append,List.length_singleton];left);rw[OJ]at hj;exact nk hj
theorem yg(hh:A.handled=none)(B:Below z TI TO i1 i2 l1 l2 S)(hn:min xs.size ys.size<=sizeLine)(Z:Zl s.heap z TI TO i1 i2 l1 l2 S xs ys 0)(LZ:IsZip s.heap z TI TO .none)(res:Value)(c₀:Nat)(hS:s.heap.get? S=some { cls:=.type "list",data:=.seq #[] c₀ })
  (hR:∀h' tk acc c as,(∀b o,b≠S->b≠z->b≠TO->b≠i1->b≠i2->s.heap.get? b=some o->h'.get? b=some o)->h'.get? S=some { cls:=.type "list",dict:=none,data:=.seq acc c,slots:=#[] }->as.length=min xs.size ys.size->Qr xs ys S h' as ->
   acc.toList=as.map Value.ref->R (.ok (.ret res)) { s with heap:=h',toks:=tk }) :
  wpAny (model prog w) A.in1 (Builtin.List.listExtendWith (.ref S) (.ref z) res)
   (λfin s'=>match fin with|.done f=>R (.ok f) s'|.again c'=>c'.quiet=true/\codeAny (model prog w) A c' R s') (λe s'=>R (.error e) s') s:=by
 have YN:S≠z:=aaq B.z;have hT:s.TypeIs (.ref z) "zip":=⟨_,LZ,rfl⟩
 unfold Builtin.List.listExtendWith;refine Z_ (abl (T:="zip") hT ?_);have h1:Builtin.List.listSameRef (.ref S) (.ref z)=false:=by simp[Builtin.List.listSameRef,YN]
 have h2:(Value.type "zip" == Value.type "list")=false:=by decide
 have h3:(Value.type "zip" == Value.type "tuple")=false:=by decide
 simp only[h1,h2,h3,Bool.or_false,Bool.false_eq_true,if_false];refine Z_ (wpAny_pyIter_zip LZ ?_);refine Z_ (aax (DW hT ?_));refine aa0 (λ_=>?_) (λqR=>absurd rfl qR);refine Z_ (abx ?_);refine Z_ ?_;show wpAny _ _ (updateSeq S (·.push .none) >>= λ_=>updateSeq S (·.pop)) _ _ _;refine Z_ (abd hS rfl ?_);have xx:=aaC (Obj.mapSeq (·.push Value.none)) hS rfl;refine abd (hz:=by seq_fits) xx rfl ?_;have Pe:=aaC (Obj.mapSeq (·.pop)) xx rfl;have LP:∀b o,b≠S->s.heap.get? b=some o->((s.heap.update S (Obj.mapSeq (·.push Value.none))).update S (Obj.mapSeq (·.pop))).get? b=some o:=λb o hb e=>(aaE _ _ (abj hb)).trans ((aaE _ _ (abj hb)).trans e);refine aaa ⟨aa_ PySem.F.plain_extend_loop _,?_⟩;exact DT hh B hn res (s:=s) (h₁:=s.heap) hR (min xs.size ys.size) 0 _ s.toks _ #[] [] (Nat.sub_zero _) (aaH _) (Z.keep B LP) (λb o h1 _ _ _ _ e=>LP b o h1 e) Pe rfl rfl ⟨(λ_ ha=>nomatch ha),aaQ,λj a hj=>by simp at hj⟩
theorem DV(hh:A.handled=none)(B:Below z TI TO i1 i2 l1 l2 S)(hn:min xs.size ys.size<=sizeLine)(Z:Zl s.heap z TI TO i1 i2 l1 l2 S xs ys 0)(LZ:IsZip s.heap z TI TO .none)(hS:s.heap.get? S=some { cls:=.type "list",data:=.seq #[] })
  (hR:∀h' tk acc c as,(∀b o,b≠S->b≠z->b≠TO->b≠i1->b≠i2->s.heap.get? b=some o->h'.get? b=some o)->h'.get? S=some { cls:=.type "list",dict:=none,data:=.seq acc c,slots:=#[] }->as.length=min xs.size ys.size->Qr xs ys S h' as ->
   acc.toList=as.map Value.ref->R (.ok (.ret .none)) { s with heap:=h',toks:=tk }) :
  wpAny (model prog w) A.in1 (Builtin.«list.__init__» ⟨[.ref S,.ref z],[]⟩)
   (λfin s'=>match fin with|.done f=>R (.ok f) s'|.again c'=>c'.quiet=true/\codeAny (model prog w) A c' R s') (λe s'=>R (.error e) s') s:=by
 show wpAny _ _ (do let old <- Builtin.List.listItems (.ref S);Builtin.List.listUpdate (.ref S) (λ_=>#[]);letGo old.toList.reverse;Builtin.List.listExtendWith (.ref S) (.ref z) .none) _ _ s;refine Z_ ?_;unfold Builtin.List.listItems;refine Z_ (abz hS rfl (aaa ?_));show wpAny _ _ (updateSeq S (λ_=>#[]) >>= λ_=>letGo (#[]:aR).toList.reverse >>= λ_=>Builtin.List.listExtendWith (.ref S) (.ref z) .none) _ _ s;refine Z_ (abd hS rfl ?_);have xx:=aaC (Obj.mapSeq (λ_=>(#[]:aR))) hS rfl;have LP:∀b o,b≠S->s.heap.get? b=some o->(s.heap.update S (Obj.mapSeq (λ_=>(#[]:aR)))).get? b=some o :=
  λb o hb e=>(aaE _ _ (abj hb)).trans e
 refine Z_ (wpAny_letGo ?_);refine yg hh B hn (Z.keep B LP) (LP _ _ (aai B.z) LZ) .none _ xx λh' tk acc c as hk rV hl hG fX=>?_;exact hR h' tk acc c as (λb o h1 h2 h3 h4 h5 e=>hk b o h1 h2 h3 h4 h5 (LP b o h1 e)) rV hl hG fX
end
section
variable {prog:aF}{w:World}{A:aG}{E:az}{s:Shared}{z TI TO i1 i2 l1 l2:Addr}{xs ys:aR}
theorem DY(hh:A.handled=none)(D:ZipApart z TI TO i1 i2 l1 l2)(hn:min xs.size ys.size<=sizeLine)(hz:IsZip s.heap z TI TO .none)(DQ:IsPair s.heap TI (.ref i1) (.ref i2)){a b:Value}(L_:IsPair s.heap TO a b)(h1:s.heap.IsListIter i1 l1 0)(h2:s.heap.IsListIter i2 l2 0)(q1:s.heap.IsList l1 xs)(q2:s.heap.IsList l2 ys)
  (hQ:∀h' tk acc c as,(∀b o,b≠z->b≠TO->b≠i1->b≠i2->s.heap.get? b=some o->h'.get? b=some o)->h'.get? s.heap.objs.size=some { cls:=.type "list",dict:=none,data:=.seq acc c,slots:=#[] }->as.length=min xs.size ys.size->Qr xs ys s.heap.objs.size h' as ->
   acc.toList=as.map Value.ref->Q (.ref s.heap.objs.size) { s with heap:=h',toks:=tk }) :
  wpAny (model prog w) A (call (.type "list") [.ref z]) Q E s:=by
 refine callType_codes (Q₁:=λobj s₁=>obj=.ref s.heap.objs.size/\s₁={ s with heap:=s.heap.push { cls:=.type "list",data:=.seq #[] } }) PySem.F.called_list (PySem.F.typeCall_list_1 _) PySem.F.entry_list_init
  (code_list_new _ ⟨rfl,rfl⟩) λobj s₁ h₁=>?_
 obtain⟨rfl,rfl⟩:=h₁;have hS:(s.heap.push { cls:=.type "list",data:=.seq #[] }).get? s.heap.objs.size=some { cls:=.type "list",data:=.seq #[] }:=aaj _ rfl;have up:∀b o,s.heap.get? b=some o->(s.heap.push { cls:=.type "list",data:=.seq #[] }).get? b=some o:=λb o e=>aac _ e;have B:Below z TI TO i1 i2 l1 l2 s.heap.objs.size:=⟨D,aag hz,aag DQ,aag L_,(by obtain⟨_,e,_⟩:=h1;exact aag e),(by obtain⟨_,e,_⟩:=h2;exact aag e),(by obtain⟨_,e,_⟩:=q1;exact aag e),(by obtain⟨_,e,_⟩:=q2;exact aag e)⟩
 refine⟨⟨_,hS,rfl⟩,PySem.F.args_list_init_2 _ _,DV (A:=A.in1) hh B hn ⟨.inl ⟨up _ _ hz,a,b,up _ _ L_⟩,up _ _ DQ,h1.at λo e=>up _ o e,h2.at λo e=>up _ o e,q1.at λo e=>up _ o e,q2.at λo e=>up _ o e⟩ (up _ _ hz) hS λh' tk acc c as hk rV hl hG fX=>?_⟩;exact⟨rfl,hQ h' tk acc c as (λb o h2 h3 h4 h5 e=>hk b o (aai (aag e)) h2 h3 h4 h5 (up b o e)) rV hl hG fX⟩
end
variable {H:Hp}{X:Cx}{σ:L2.St}
theorem Inv.Og{pins:ak}{H':Hp}{s:Shared}(I:Inv X pins σ H s)(k:∀b u,s.heap.get? b=some u->h'.get? b=some u)(up:∀b u,H b=some u->H' b=some u)
  (nw:∀b u,H' b=some u->H b=some u\/(s.heap.objs.size<=b/\cU H' h' b u)):Inv X pins σ H' { s with heap:=h',toks:=t' }:=by
 refine I.step (g':=s.gens) (d':=s.drawn) (ch:=[]) (λb hb=>nomatch hb) (λb o _ _ _ e _=>k b o e) (λb o _ _ _ e _=>⟨o.slots,k b o e⟩) (λb u _ e n=>?_)
  (λb o _ e=>⟨o,k b o e⟩) (λ_ _ e=>up _ _ e) (λ_ _ _ e=>up _ _ e) (λm hm=>?_) (λb u e=>?_) I.bare
 ·cases q:H' b with
  |none=>rfl
  |some v =>
   rcases nw b v q with z|⟨z,_⟩
   ·rw[n]at z;exact nk z
   ·exact absurd (aag e) (Nat.not_lt.mpr z)
 ·obtain⟨o,es,ep,ho,r⟩:=hm;exact⟨o,es,ep,k _ o ho,r⟩
 ·rcases nw b u e with e|⟨_,e⟩
  ·exact(I.du b u e).mL (k b)
  ·exact e
def oP(H:Hp):List (Addr×V×V)->Hp
 |[]=>H
 |q::r=>upd (oP H r) q.1 (.tup [q.2.1,q.2.2])
theorem j9{H:Hp}{b:Addr}{u:HO}(e:H b=some u):∀{r:List (Addr×V×V)},(∀q∈r,H q.1=none)->oP H r b=some u
 |[],_=>e
 |q::r,h=>by
  have hn:b≠q.1:=λz=>by rw[z,h q List.mem_cons_self]at e;cases e
  show upd (oP H r) q.1 _ b=_;rw[bw hn];exact j9 e λq hq=>h q (aaf _ hq)
theorem xh{H:Hp}:∀{r:List (Addr×V×V)},(r.map (·.1)).Nodup->∀q∈r,oP H r q.1=some (.tup [q.2.1,q.2.2])
 |[],_,_,h=>nomatch h
 |q'::r,hn,q,h=>by
  show upd (oP H r) q'.1 _ q.1=_;have zJ:=List.nodup_cons.mp hn;rcases List.mem_cons.mp h with rfl|h
  ·exact bg
  ·have:q.1≠q'.1:=λz=>zJ.1 (by show q'.1∈_;rw[<- z];exact aaI h);rw[bw this];exact xh zJ.2 q h
theorem tF{H:Hp}{b:Addr}{u:HO}:∀{r:List (Addr×V×V)},oP H r b=some u->H b=some u\/∃q∈r,q.1=b/\u=.tup [q.2.1,q.2.2]
 |[],e=>.inl e
 |q::r,e=>by
  replace e:upd (oP H r) q.1 (.tup [q.2.1,q.2.2]) b=some u:=e;by_cases z:b=q.1
  ·subst z;rw[bg]at e;cases e;exact .inr ⟨q,aae,rfl,rfl⟩
  ·rw[bw z]at e;rcases tF e with h|⟨q',h1,h2⟩
   ·exact .inl h
   ·exact .inr ⟨q',aaf _ h1,h2⟩
def Xo(K:ao)(ta:TA):TE:=λσ H Q=>ta σ H λvs H1=>∃a b xs ys,vs=[.ref a,.ref b]/\dq K H1 a xs/\dq K H1 b ys /\
 ∀(l:Addr) (r:List (Addr×V×V)),H1 l=none->(∀q∈r,H1 q.1=none)->(r.map (·.1)).Nodup->l∉r.map (·.1)->r.map (·.2)=xs.zip ys->Q (.ref l) (upd (oP H1 r) l (.lst (r.map λq=>V.ref q.1)))
variable {e1:Expr}{p' pos pos':Pos}{ta:TA}
theorem EX{e2:Expr}{p:Pos}(hc:X.calm=true)(OS:Gl X "list")(Tw:X.mg "list" = none)(hg:Gl X "zip")(hm:X.mg "zip" = none)(ha:PA X [e1,e2] ta)(hs:∀es,starEach (e1::es) X.env=(false,eval e1 X.env)::starEach es X.env)(S_:∀es,starEach (e2::es) X.env=(false,eval e2 X.env)::starEach es X.env):
  PE X (.Call (.Name "list" p') [.Call (.Name "zip" p) [e1,e2] [] pos] [] pos') (Xo X.K ta):=by
 intro pins s σ H Q I h;refine aaK (dW I OS Tw boot_list ?_);refine aat ?_;show wpAny _ _ (spliced ((false,eval (.Call (.Name "zip" p) [e1,e2] [] pos) X.env)::backTo pos' (starEach [] X.env))) _ _ s;refine aba ?_;refine Call_ (dW I hg hm boot_zip (aat (dv (ha pos pins s σ H _ I h) λus s1 bP=>?_) (hs _) (by rw[S_];rfl)));obtain⟨vs,H1,I1,r1,q1⟩:=bP;obtain⟨a,b,xs,ys,e,q1,q2,hq⟩:=q1;subst e;obtain⟨u,v,rfl,ru,rv⟩:=vals2 r1;cases ru;cases rv;obtain⟨aL,rx,p1,Wc⟩:=I1.list q1;obtain⟨its',ry,p2,FT⟩:=I1.list q2;refine call_zip_2 p1.isList p2.isList λh' z t o l1 l2 sz k=>abi ?_;have DM:h'.IsList a aL.toArray:=p1.isList.at λo e=>k _ o e;have rT:h'.IsList b its'.toArray:=p2.isList.at λo e=>k _ o e;have cls:∀{x y:Addr} {o u:Obj},h'.get? x=some o->h'.get? y=some u->o.cls≠u.cls->x≠y:=λh1 h2 h3=>dg h1 h2 h3;have al:@LT.lt Nat _ a s1.heap.objs.size:=by obtain⟨_,e,_⟩:=p1.isList;exact aag e
 have bl:@LT.lt Nat _ b s1.heap.objs.size:=by obtain⟨_,e,_⟩:=p2.isList;exact aag e
 have D:ZipApart (s1.heap.objs.size+4) (s1.heap.objs.size+2) (s1.heap.objs.size+3) s1.heap.objs.size (s1.heap.objs.size+1) a b:=by
  constructor<;>first|exact aai (by left)|exact aaq (by left)
 have lx:=rx.length;have ly:=ry.length;have hn:min aL.toArray.size its'.toArray.size<=sizeLine:=by simp;left
 refine DY (s:={ s1 with heap:=h' }) (I1.ok.hd hc) D hn z t o l1 l2 DM rT λY6 tk acc c as hk hS hl hG fX=>?_;dsimp only at hk hS hG ⊢;have hlen:as.length=(xs.zip ys).length:=by rw[hl,List.length_zip];simp;left
 have keep:∀b o,s1.heap.get? b=some o->Y6.get? b=some o:=λb o e=>by
  have:@LT.lt Nat _ b s1.heap.objs.size:=aag e;exact hk b o (aai (by left)) (aai (by left)) (aai (by left)) (aai (by left)) (k b o e)
 have fresh:∀c,s1.heap.objs.size<=c->H1 c=none:=λc h=>I1.du.fresh h;have Z7:h'.objs.size=s1.heap.objs.size+5:=sz
 let r:List (Addr×V×V):=as.zip (xs.zip ys)
 have r1:r.map (·.1)=as:=List.map_fst_zip (by left);have r2:r.map (·.2)=xs.zip ys:=List.map_snd_zip (by left);have qR:∀c∈as,@LT.lt Nat _ h'.objs.size c:=hG.above;have Ta:∀q∈r,H1 q.1=none:=λq hq=>fresh _ (by have:=qR q.1 (by rw[<- r1];exact aaI hq);left);have QY:H1 h'.objs.size=none:=fresh _ (by left);have FW:h'.objs.size∉r.map (·.1):=by rw[r1];exact λz=>absurd (qR _ z) (aaw _)
 have DL:(r.map (·.1)).Nodup:=by rw[r1];exact hG.nd
 have B7:(as.map V.ref)=r.map λq=>V.ref q.1:=by rw[<- r1,List.map_map];rfl
 refine⟨.ref h'.objs.size,upd (oP H1 r) h'.objs.size (.lst (r.map λq=>V.ref q.1)),?_,rfl,hq _ r QY Ta DL FW r2⟩;refine Inv.Og (s:=s1) (t':=tk) I1 keep (λb u e=>?_) λb u e=>?_
 ·rw[bw λz=>by rw[z,QY]at e;cases e];exact j9 e Ta
 ·by_cases zb:b=h'.objs.size
  ·subst zb;rw[bg]at e;cases e;refine .inr ⟨by left,?_,acc.toList,c,?_,by rw[Array.toArray_toList];exact hS⟩
   ·rw[<- B7,List.length_map,hlen,List.length_zip];left
   ·rw[<- B7,fX];clear fX B7 hG hl hlen r1 qR DL r r2 Ta FW hS hk keep;induction as with
    |nil=>exact .nil
    |cons a as ih=>exact .cons rfl ih
  ·rw[bw zb]at e;rcases tF e with e|⟨q,hq,rfl,rfl⟩
   ·exact .inl e
   ·have hm:q.1∈as:=by rw[<- r1];exact aaI hq
    refine .inr ⟨by have:=qR _ hm;left,?_⟩;obtain⟨j,hj⟩:=List.mem_iff_getElem?.mp hq;have TH:as[j]?=some q.1/\(xs.zip ys)[j]?=some q.2:=by
     have:=List.getElem?_zip_eq_some.mp hj;exact this
    obtain⟨x,y,ex,ey,hp⟩:=hG.pairs j q.1 TH.1;obtain⟨e1,e2⟩:xs[j]?=some q.2.1/\ys[j]?=some q.2.2:=List.getElem?_zip_eq_some.mp TH.2;obtain⟨u1,S3,RZ⟩:=rx.get e1;obtain⟨u2,Yi,RY⟩:=ry.get e2;rw[List.getElem?_toArray,S3]at ex;rw[List.getElem?_toArray,Yi]at ey;cases ex;cases ey;exact qa RZ RY hp
theorem Inv.Of{pins:ak}{s:Shared}{a:Addr}{o:HO}(I:Inv X pins σ H s)(k:∀b u,s.heap.get? b=some u->h'.get? b=some u)(ha:s.heap.get? a=none)(new:cU (upd H a o) h' a o):
  H a=none/\Inv X pins σ (upd H a o) { s with heap:=h',toks:=t' }:=by
 have hn:H a=none:=by
  cases q:H a with
  |none=>rfl
  |some u =>
   obtain⟨z,hz⟩:=lB (I.du a u q);rw[ha]at hz;exact nk hz
 have up:∀b u,H b=some u->upd H a o b=some u:=λb u e=>by rw[bw (fJ e hn)];exact e
 refine⟨hn,I.step (g':=s.gens) (d':=s.drawn) (ch:=[]) (λb hb=>nomatch hb) (λb o _ _ _ e _=>k b o e) (λb o _ _ _ e _=>⟨o.slots,k b o e⟩) (λb u _ e n=>?_)
  (λb o _ e=>⟨o,k b o e⟩) (λ_ _ e=>up _ _ e) (λ_ _ _ e=>up _ _ e) (λm hm=>?_) (λb u e=>?_) I.bare⟩
 ·rw[bw λz=>by rw[z,ha]at e;cases e];exact n
 ·obtain⟨o,es,ep,ho,r⟩:=hm;exact⟨o,es,ep,k _ o ho,r⟩
 ·by_cases z:b=a
  ·subst z;rw[bg]at e;cases e;exact new
  ·rw[bw z]at e;exact(I.du b u e).mL (k b)
section
variable {X:Cx}{pins:ak}{σ:St}{H:Hp}{s:Shared}{d:Addr}{cs:au}{as:aZ}{xs:af}{ep:Nat}
theorem Jl(I:Inv X pins σ H s)(h:H d=some (.ext (DO d cs as xs ep))):∃es:Array DictEntry,rQ s.heap d es ep/\es.size=as.length/\es.toList.map (·.key)=as.map Value.ref/\cs.Nodup/\as.length=cs.length/\(d==sysModules)=false:=by
 obtain⟨⟨zs,o,es,e1,e2,e3,ho,hx,hd,he,hn,hl,hs⟩,_⟩:=(show cU H s.heap d (.ext (DO d cs as xs ep)) from I.du d _ h)
 refine⟨es,⟨o,ho,hx,hd⟩,?_,?_,hn,?_,hs⟩
 ·rw[<- Array.length_toList,he,<- e2,List.length_map,List.length_map]
 ·rw[he,<- e2,List.map_map,List.map_map];rfl
 ·rw[<- e1,<- e2,List.length_map,List.length_map]
end
def U3(xs:ab):O D:=match one xs with
 |some d=>match iU d with
  |some z=>ok (.lst .ow (z.1.map iF))
  |none=>none
 |none=>none
theorem lD(g:Fl->Fl):∀cs:au,av g (cs.map iF)=cs.map iF
 |[]=>rfl
 |c::cs=>by
  show aA g (iF c)::av g (cs.map iF)=_;rw[lD g cs];have:∀c:aa,av g (c.map D.int)=c.map D.int:=λc=>by
   induction c with
   |nil=>rfl
   |cons i c ih=>show D.int i::av g (c.map D.int)=_;rw[ih];rfl
  show D.tup (av g (c.map D.int))::_=_;rw[this];rfl
theorem EO{T:lL}{N:iA}{k:bt}{a:Addr}{c:aa}(h:T a (c.map V.int)):Rep T N k (.ref a) (iF c):=.tup h (aD.ints c)
theorem vS(hc:X.calm=true)(hu:X.A.units+2<cLine):gI X (.builtin "sorted") (λxs H Q=>∃(d:Addr) (cs:au) (as:aZ) (ys:af) (ep:Nat),xs=[.ref d]/\H d=some (.ext (DO d cs as ys ep))/\fe (aX X.K H) as cs/\cs.length<64 /\
  ∀(l:Addr) (bs:aZ),H l=none->fe (aX X.K H) bs (bV cs)->Q (.ref l) (upd H l (.lst (bs.map V.ref)))):=by
 intro pins s σ H xs us Q I r h;obtain⟨d,cs,as,ys,ep,rfl,hd,hk,rW,q⟩:=h;obtain⟨u,rfl,ru⟩:=r.one;cases ru;obtain⟨es,Tc,hz,HD,Tr,hlen,Oy⟩:=Jl I hd;have ht:oU s.heap (es.toList.map (·.key)) cs:=by
  rw[HD];refine⟨by rw[List.length_map,hlen],λi ns e=>?_⟩;have hi:i<as.length:=by rw[hlen];exact(List.getElem?_eq_some_iff.mp e).1
  obtain⟨FL,rj,ij,_⟩:=I.tuple (hk.tup i as[i] ns (aan hi) e);exact⟨as[i],FL,by rw[List.getElem?_map,List.getElem?_eq_getElem hi];rfl,ij,di rj⟩
 refine sD (I.ok.hd hc) hu Oy Tc (by rw[hz,hlen];exact rW) Tr ht λS h' tk e p hS L7 hp hs hl=>?_;rw[HD]at hl;have Th:(p.toList.map λi=>(as.map Value.ref).getD i Value.none)=(p.toList.map λi=>as.getD i 0).map Value.ref:=by
  rw[List.map_map];refine aam λi hi=>?_;have jD:i<as.length:=by
   have:=List.mem_range.mp (hp.pm.mem_iff.mp hi);left
  simp[jD]
 rw[Th]at hl;have TX:fe (aX X.K H) (p.toList.map λi=>as.getD i 0) (bV cs):=by
  rw[<- hs];refine⟨by simp,λj a c h1 h2=>?_⟩;rw[List.getElem?_map]at h1 h2;cases hj:p.toList[j]? with
  |none=>rw[hj]at h1;exact nk h1
  |some i =>
   rw[hj]at h1 h2;have jD:i<as.length:=by
    have:=List.mem_range.mp (hp.pm.mem_iff.mp (aay hj));left
   cases h1;cases h2;exact hk.tup i _ _ (by simp[jD]) (by simp[show i<cs.length by left])
 have Ov:∀l:aZ,Vals (l.map V.ref) (l.map Value.ref):=λl=>by
  induction l with
  |nil=>exact .nil
  |cons a l ih=>exact .cons rfl ih
 have hsz:sizeLine=16777216:=abf;obtain⟨hn,I'⟩:=Inv.Of (t':=tk) (o:=.lst ((p.toList.map λi=>as.getD i 0).map V.ref)) I L7 hS ⟨by rw[List.length_map,List.length_map,Array.length_toList,hp.sz];left,_,e,Ov _,hl⟩;exact⟨.ref S,_,I',rfl,q S _ hn TX⟩
def nS(xs:ab):O D:=match one xs with
 |some d=>match iU d with
  |some z=>if z.1.length<64 then ok (.lst .ow ((bV z.1).map iF))else none
  |none=>none
 |none=>none
theorem y_{xs:ab}{r:D}(h:nS xs=ok r):∃f cs vs,xs=[.cM f cs vs]/\cs.length<64/\r=.lst .ow ((bV cs).map iF):=by
 unfold nS at h;cases h1:one xs with
 |none=>rw[h1]at h;exact nk h
 |some d =>
  rw[h1]at h;have h:(match iU d with|some z=>if z.1.length<64 then ok (D.lst .ow ((bV z.1).map iF))else none|none=>none)=ok r:=h;cases h2:iU d with
  |none=>rw[h2]at h;exact nk h
  |some z =>
   rw[h2]at h;obtain⟨hl,rfl⟩:=pz (show(if z.1.length<64 then ok (D.lst .ow ((bV z.1).map iF))else none)=ok r from h);obtain⟨f,e⟩:=nY h2;exact⟨f,z.1,z.2,by rw[ck h1,e],hl,rfl⟩
theorem o_{T:lL}{N:iA}:∀{bs:aZ} {cs:au} {k:bt} {n:Nat},fe T bs cs->aD T N k n (bs.map V.ref) (cs.map iF)
 |[],[],_,_,_=>.nil
 |[],_::_,_,_,h=>by have:=h.len;simp at this
 |_::_,[],_,_,h=>by have:=h.len;simp at this
 |b::bs,c::cs,_,_,h=>.cons (EO (h.tup 0 b c rfl rfl)) (o_ ⟨by have:=h.len;simpa using this,λj a c' h1 h2=>h.tup (j+1) a c' h1 h2⟩)
variable {F:Addr->Prop}{args elts:aj}{cs:aE}{Φ:aY}
theorem CP{n:Nat}(hΦ:Φ n=nS){sc:Scope}{bl:ai}{k:Nat}(L:PX X sc bl k){e:Expr}(he:dJ ("sorted" : Str) sc bl e=some args)(hs:lN X F Φ cs args):PE X e (tD X F Φ (.bO n cs))/\PT X e (fA X F Φ (.bO n cs)):=by
 obtain⟨p,pos,a,rfl,rfl,h1,h2⟩:=fC he;cases cs with
 |nil=>exact hs.elim
 |cons c cs=>cases cs with
  |cons _ _=>exact hs.2.2.2.elim
  |nil =>
   have pa:PA X [a] (qb X F Φ [c]):=PA.imp (dx hs.1 (PA.imp gg λ_ _ _ h=>gM h) (hs.2.1 _)) λ_ _ _ h=>eV h;have hu:X.A.units+2<cLine:=aaz (Nat.add_le_add_left (by decide:2<=64) _) L.room.units;have this:PE X (.Call (.Name ("sorted" : Str) p) [a] [] pos) (tD X F Φ (.bO n [c])):=by
    refine PE.imp (dU (vS L.calm hu) (L.gl h1) (L.bl _ h2) (by decide +kernel) pa (he:=hs.2.1 _)) λσ H Q hq=>?_;obtain⟨R,τ,ρ,d,Si,ev,hq⟩:=hq;obtain⟨xs,cp,ev⟩:=aB ev;rw[hΦ]at ev;obtain⟨f,ks,vs,rfl,hl,rfl⟩:=y_ ev;refine⟨R,τ,ρ,_,Si,cp,λus H1 e1 r1=>?_⟩;obtain⟨τt,fr,rs⟩:=r1;obtain⟨v,rfl,rv⟩:=rs.one;cases rv with
    |cM hn hk hr =>
     refine⟨_,ks,_,_,_,rfl,hn.dat,hk,hl,λl bs jC TX=>hq _ _ (e1.trans (aI.upd jC)) (bR.oN (e1.free jC) (e1.trans (aI.upd jC)) bg ?_)⟩;exact o_ (TX.imp λ_ _ h=>aX.same (aI.upd jC) h)
   exact⟨this,cv this λ_=>rfl⟩
def Vh(K:ao)(a:Addr):It :=
  ⟨λi H=>∃xs x,dq K H a xs/\xs[i]?=some x,
   λi H v H'=>∃T x,(∀xs,dq K H a xs->xs[i]?=some x)/\H T=none/\v=.ref T/\H'=upd H T (.tup [.int i,x]),
   λi H=>∃xs,dq K H a xs/\xs.length<=i⟩
variable {K:ao}
theorem ym{P:aF}{w:World}{tp:Pos}{a e it:Addr}(xp:e≠it):
  Turn P w K (.Tuple elts n1 tp) (Vh K a) [e,it] e (λi h=>(∃old,IsEnum h e it (i:Int) old)/\h.IsListIter it a i):=by
 refine⟨by simp,λi h st c hc=>?_,λi h h' st k=>?_,?_,?_,λA i s Q E st hQ=>?_⟩
 ·obtain⟨⟨old,he⟩,⟨o1,e1,_,d1⟩⟩:=st;simp only[List.mem_cons,List.not_mem_nil,or_false]at hc;rcases hc with rfl|rfl
  ·exact⟨_,he,λv q=>by cases q⟩
  ·exact⟨o1,e1,λv q=>by rw[d1]at q;cases q⟩
 ·obtain⟨⟨old,he⟩,l1⟩:=st;exact⟨⟨old,k e (by simp) _ he⟩,l1.at λo z=>k it (by simp) o z⟩
 ·intro X hP hw hK hc i pins s σ H E I hf st hg;subst hP hw hK;obtain⟨xs,x,q1,ex⟩:=hg;obtain⟨⟨old,he⟩,l1⟩:=st;obtain⟨aL,rv,p,_⟩:=I.list q1;obtain⟨u,hu,ru⟩:=rv.get ex;refine wpAny_pyNext_enum_item he l1 p.isList (x:=u) (by simpa using hu) xp λh1 e1 a1 t1 MR k1=>⟨_,rfl,?_⟩
  refine wpAny_letOwnedTupleGo_enum e1 λh2 e2 DG=>?_;have Zb:s.heap.objs.size≠e:=aaq (aag he);have kk:∀c o,c∉[e,it]->s.heap.get? c=some o->h2.get? c=some o:=λc o hc z=>by
   simp only[List.mem_cons,List.not_mem_nil,or_false,not_or]at hc;exact DG.extBut c o hc.1 (k1 c o hc.1 hc.2 z)
  have hT:h2.get? s.heap.objs.size=some { cls:=.type "tuple",data:=.seq #[.int i s.toks,u] }:=DG.extBut _ _ Zb t1;have hn:H s.heap.objs.size=none:=I.du.fresh (aah _);have ci:((i+1:Nat):Int)=(i:Int)+1:=by push_cast;rfl
  refine⟨.ref s.heap.objs.size,upd H s.heap.objs.size (.tup [.int i,x]),wj (s:=s) (h':=h2) (t':=s.toks+1) I hf kk (aah _) (qa ⟨_,rfl⟩ ru hT),rfl,⟨_,x,λzs hz=>by rw[I.iK hz q1];exact ex,hn,rfl,rfl⟩,⟨⟨u,by rw[ci];exact e2⟩,a1.extBut DG.extBut xp.symm⟩,λc hc=>?_⟩;rw[bw]
  ·exact(hf c hc).1
  ·intro z;subst z;simp only[List.mem_cons,List.not_mem_nil,or_false]at hc;rcases hc with z|z
   ·exact absurd (aag he) (by rw[<- z];exact aaw _)
   ·obtain⟨_,w,_⟩:=l1;exact absurd (aag w) (by rw[<- z];exact aaw _)
 ·intro X hP hw hK hc i pins s σ H E I hf st hg;subst hP hw hK;obtain⟨xs,q1,hl⟩:=hg;obtain⟨⟨old,he⟩,l1⟩:=st;obtain⟨aL,rv,p,_⟩:=I.list q1;have e1:=rv.length;refine wpAny_pyNext_enum_end (I.ok.hd hc) he l1 p.isList (by simp;left) λh1 k1=>⟨rfl,wg (t':=s.toks) I hf λc o hc z=>?_⟩
  simp only[List.mem_cons,List.not_mem_nil,or_false,not_or]at hc;exact k1 c o hc.2 z
 ·obtain⟨⟨old,he⟩,_⟩:=st;exact wpAny_pyIter_enum he hQ
theorem zq:bootBuiltins "enumerate" = some (.type "enumerate"):=by decide +kernel
theorem EV{tp p:Pos}(hg:Gl X "enumerate")(hm:X.mg "enumerate" = none)(ha:PA X [e1] ta)(hs:∀es,starEach (e1::es) X.env=(false,eval e1 X.env)::starEach es X.env):
  PI X (.Tuple elts n1 tp) (.Call (.Name "enumerate" p) [e1] [] pos) (λσ H R=>ta σ H λvs H1=>∃a,vs=[.ref a]/\(∃xs,dq X.K H1 a xs)/\R (Vh X.K a) H1):=by
 intro pins s σ H R I h;refine Call_ (dW I hg hm zq (aat (dv (ha pos pins s σ H _ I h) λus s1 bP=>?_) (hs _) rfl));obtain⟨vs,H1,I1,r1,q1⟩:=bP;obtain⟨a,e,⟨xs,q1⟩,q⟩:=q1;subst e;obtain⟨u,rfl,ru⟩:=vals1 r1;cases ru;obtain⟨aL,_,p1,_⟩:=I1.list q1;refine call_enumerate_list p1.isList λh' z l1 sz k=>wpAny_pyIter_enum z ?_;refine⟨s1.heap.objs.size+1,[s1.heap.objs.size+1,s1.heap.objs.size],_,_,H1,rfl,I1.kept (t':=s1.toks) k,ym (Nat.succ_ne_self _),⟨⟨_,z⟩,l1⟩,λb hb=>?_,q⟩;have lV:s1.heap.objs.size<=b:=by
  simp only[List.mem_cons,List.not_mem_nil,or_false]at hb;rcases hb with rfl|rfl<;>first|exact Nat.le_add_right .. |exact aah _
 exact I1.Cv lV (I1.du.fresh lV)
noncomputable def cx(k:Nat):ab->ab
 |[]=>[]
 |x::xs=>.tup [.int k,x]::cx (k+1) xs
def t4:aw
 |[.lst _ a]=>ok (.lst .ow (cx 0 a))
 |_=>none
theorem kn:∀(a:ab) (k i:Nat),(cx k a)[i]?=(a[i]?).map λx=>.tup [.int ((k+i:Nat):Int),x]
 |[],k,i=>by simp[cx]
 |x::xs,k,0=>by simp[cx]
 |x::xs,k,i+1=>by
  rw[cx,List.getElem?_cons_succ,List.getElem?_cons_succ,kn xs (k+1) i,show k+1+i=k+(i+1) by left]
theorem km:∀(a:ab) (k:Nat),(cx k a).length=a.length
 |[],k=>rfl
 |x::xs,k=>by rw[cx,List.length_cons,List.length_cons,km xs]
theorem wY{a:Expr}(h:lN X F Φ cs [a]):PA X [a] (qb X F Φ cs)/\(∀es,starEach (a::es) X.env=(false,eval a X.env)::starEach es X.env):=by
 match cs,h with
 |[c],h =>
  obtain⟨h1,h2,_,_⟩:=h;exact⟨PA.imp (dx h1 (PA.imp gg λ_ _ _ h=>gM h) (h2 _)) λ_ _ _ h=>eV h,h2⟩
 |[],h=>exact h.elim
 |_::_::_,h=>exact h.2.2.2.elim
theorem zV{p:Addr}{f:Fl}{a:ab}{H2:Hp}:LC K (Vh K p) H2 [.ref p] [.lst f a] (av aK (cx 0 a)):=by
 have len:(av aK (cx 0 a)).length=a.length:=by rw[aO,List.length_map,km]
 have two:∀{H':Hp} {R':ah},aD (aX K H') (nd K R' (λ_=>False) (λ_=>none) H') [] 0 [.ref p] (av aK [.lst f a]) ->
   ∃xs,dq K H' p xs/\aD (aX K H') (nd K R' (λ_=>False) (λ_=>none) H') [0] 0 xs (av aK a):=by
  intro H' R' h;rw[av,aA,av]at h;cases h with
  |cons h t=>cases h with
   |lst h r=>exact⟨_,h.sq,r⟩
 refine⟨λi H' R' _ h hi=>?_,λi H' R' x l4 _ h hi hy=>?_,λi H' R' _ h hi=>?_⟩
 ·obtain⟨xs,h1,r1⟩:=two h;rw[len]at hi;have l1:=r1.length;rw[aO,List.length_map]at l1;exact⟨xs,xs[i]'(by left),h1,aan _⟩
 ·obtain⟨xs,h1,r1⟩:=two h;obtain⟨T,u,g1,hn,rfl,rfl⟩:=hy;obtain⟨d1,e1,p1⟩:=r1.vz (g1 xs h1);have es:aI H' (upd H' T (.tup [.int i,u])):=aI.upd hn;refine⟨es,.tup [.int i,d1],?_,.tup (aX.of bg) (.cons (.int _) (.cons (p1.Ru es) .nil))⟩;rw[aO,List.getElem?_map]at e1 ⊢;obtain⟨c1,q1,rfl⟩:=Option.map_eq_some_iff.mp e1;rw[kn,q1];simp[aA,av]
 ·obtain⟨xs,h1,r1⟩:=two h;rw[len]at hi;have l1:=r1.length;rw[aO,List.length_map]at l1;exact⟨xs,h1,by left⟩
theorem Gj{n:Nat}(hΦ:Φ n=t4){sc:Scope}{bl:ai}{k:Nat}(L:PX X sc bl k){e:Expr}(he:dJ "enumerate" sc bl e=some args){tg:Expr}(ht:gS tg=true)(hs:lN X F Φ cs args)
  {pins:ak} {s:Shared} {R:ah} {τ:Addr->Option bt} {ρ:bo} {xs:ab} {d:D} {items:ab} (I:Inv X pins σ H s) (Si:SI X F R τ ρ σ H) (cp:cP Φ cs ρ=ok xs) (ed:Φ n xs=ok d) (ei:oJ d=ok items) (Rr:It->Hp->Prop)
  (hR:∀J H2 vs,aI H H2->cz X.K (gP X F) R τ (dw cs) H H2 vs xs->LC X.K J H2 vs xs items->Rr J H2) :
  wpAny (model X.prog X.w) X.A (eval e X.env) (λv s1=>wpAny (model X.prog X.w) X.A (pyIter v) (DB X pins σ tg Rr) X.xe s1) X.xe s:=by
 obtain⟨p,pos,a,rfl,rfl,h1,h2⟩:=fC he;cases tg<;>try (cases ht;done)
 obtain⟨pa,s1⟩:=wY hs;refine EV (L.gl h1) (L.bl _ h2) pa s1 pins s σ H Rr I ⟨R,τ,ρ,xs,Si,cp,λvs H1 e1 rv=>?_⟩;have RX:=rv;obtain⟨τt,fr,rs⟩:=rv;rw[hΦ]at ed;unfold t4 at ed;split at ed
 ·cases ed;cases ei;obtain⟨v,rfl,rx⟩:=rs.one;cases rx with
  |lst hx _=>exact⟨_,rfl,⟨_,hx.sq⟩,hR _ H1 _ e1 RX zV⟩
 ·cases ed
theorem aD.CQ{T:lL}{N:iA}{k:bt}:∀(j:Nat) {n:Nat} {vs:af} {ds:ab},aD T N k n vs ds->aD T N k (n+j) (vs.drop j) (ds.drop j)
 |0,_,_,_,h=>h
 |j+1,_,_,_,.nil=>.nil
 |j+1,n,_,_,.cons h t=>by
  rw[show n+(j+1)=n+1+j by left];exact aD.CQ j t
theorem aD.Ha{T:lL}{N:iA}{k:bt}:∀(j:Nat) {n:Nat} {vs:af} {ds:ab},aD T N k n vs ds->aD T N k n (vs.take j) (ds.take j)
 |0,_,_,_,_=>by rw[List.take_zero,List.take_zero];exact .nil
 |j+1,_,_,_,.nil=>.nil
 |j+1,n,_,_,.cons h t=>.cons h (aD.Ha j t)
noncomputable def nZ{α:Type}(b:Bool)(k:Nat)(xs:List α):List α:=if b then xs.drop k else xs.take k
def Np(K:ao)(b:Bool):V->Option Int->Option Int->Hp->VK->Prop:=λx lo hi H Q=>∃(a:Addr) (xs:af) (k:Nat),x=.ref a/\dq K H a xs/\lo=(if b then some (k:Int)else none)/\hi=(if b then none else some (k:Int))/\∀p,H p=none->Q (.ref p) (upd H p (.lst (nZ b k xs)))
theorem Ex(b:Bool):HU X (Np X.K b):=by
 intro pins s σ H x v vl vu lo hi sl Q I rx hs pl pu h;obtain⟨a,xs,k,rfl,hx,rfl,rfl,q⟩:=h;cases rx;obtain⟨aL,r,DH,hz⟩:=I.list hx;have hl:=cI DH;have hlen:aL.length=xs.length:=r.length.symm;refine⟨"list",_,slot_list_getitem.lookup,hl.typeIs,wpAny_getItem_list_slice hl hs pl pu .none (by simp) ?_ (by rw[List.size_toArray,hlen];exact hz)⟩;have e:slicePick aL.toArray (if b then some (k:Int)else none) (if b then none else some (k:Int)) none=(nZ b k aL).toArray:=by
  cases b with
  |true=>exact slicePick_from' aL.toArray k
  |false=>exact slicePick_upto' aL.toArray k
 have rc:Vals (nZ b k xs) (nZ b k aL):=by
  cases b with
  |true=>exact r.drop k
  |false=>exact r.take k
 have lc:(nZ b k xs).length<=xs.length:=by
  cases b with
  |true=>show(xs.drop k).length<=_;rw[List.length_drop];left
  |false=>show(xs.take k).length<=_;rw[List.length_take];left
 rw[e];exact⟨.ref s.heap.objs.size,_,I.J4 (t':=s.toks) rc (aao lc hz),rfl,q _ I.fresh⟩
def cutD(b:Bool)(xs:ab):O D:=match two xs with
 |some z=>match z.1 with
  |.lst _ ds=>match z.2 with
   |.int k=>if 0<=k then ok (.lst .ow (av aP (nZ b k.toNat ds)))else none
   |_=>none
  |_=>none
 |none=>none
set_option tactic.hygienic true in
theorem GI{b:Bool}{x y d:D}(h:cutD b [x,y]=ok d):∃(f:Fl) (ds:ab) (k:Nat),x=.lst f ds/\y=.int k/\d=.lst .ow (av aP (nZ b k ds)):=by
 cases x<;>first|exact nk h | (cases h;done) | (cases y<;>first|exact nk h | (cases h;done)|skip)
 obtain⟨h1,h3⟩:=pz h;rename_i f ds k;exact⟨f,ds,k.toNat,rfl,by rw[Int.toNat_of_nonneg h1],h3.symm⟩
noncomputable def MA(b:Bool)(e:Expr):Option Expr:=match e with
 |.Slice lo hi st _=>match st with
  |none=>match b with
   |true=>match hi with
    |none=>lo
    |some _=>none
   |false=>match lo with
    |none=>hi
    |some _=>none
  |some _=>none
 |_=>none
set_option tactic.hygienic true in
theorem D8{b:Bool}{e k:Expr}(h:MA b e=some k):∃p,e=.Slice (if b then some k else none) (if b then none else some k) none p:=by
 cases e<;>first|exact nk h | (cases h;done)|skip
 rename_i lo hi st p;cases st with
 |some _=>cases h
 |none=>cases b with
  |true=>cases hi with
   |some _=>cases h
   |none=>cases h;exact⟨p,rfl⟩
  |false=>cases lo with
   |some _=>cases h
   |none=>cases h;exact⟨p,rfl⟩
def kX(b:Bool)(_:Scope)(_:ai)(e:Expr):Option (aj):=(r9 e).bind λz=>(MA b z.2).bind λk=>some [z.1,k]
theorem pT{b:Bool}{sc:Scope}{bl:ai}{e:Expr}(h:kX b sc bl e=some args):∃a k p pos,e=.Subscript a (.Slice (if b then some k else none) (if b then none else some k) none p) pos/\args=[a,k]:=by
 obtain⟨⟨a,s⟩,hv,h⟩:=bT h;obtain⟨k,hw,h⟩:=bT h;cases h;obtain⟨pos,rfl⟩:=i5 hv;obtain⟨p,rfl⟩:=D8 hw;exact⟨a,k,p,pos,rfl,rfl⟩
theorem CZ{b:Bool}{n:Nat}(hΦ:Φ n=cutD b){sc:Scope}{bl:ai}{k:Nat}(L:PX X sc bl k){e:Expr}(he:kX b sc bl e=some args)(hs:lN X F Φ cs args):PE X e (tD X F Φ (.bO n cs))/\PT X e (fA X F Φ (.bO n cs)):=by
 obtain⟨a,ke,p,pos,rfl,rfl⟩:=pT he;cases cs with
 |nil=>exact hs.elim
 |cons c cs=>cases cs with
  |nil=>exact hs.2.2.2.elim
  |cons c' cs=>cases cs with
   |cons _ _=>exact hs.2.2.2.2.2.2.elim
   |nil =>
    obtain⟨h1,_,_,h2,_,_,_⟩:=hs;have this:PE X (.Subscript a (.Slice (if b then some ke else none) (if b then none else some ke) none p) pos) (tD X F Φ (.bO n [c,c'])):=by
     have go:∀{tl th:TO},PO X (if b then some ke else none) tl->PO X (if b then none else some ke) th->(∀(H1:Hp) (R:ah) (τ:Addr->Option bt) (ρ:bo) (k:Nat) (σ:St) (Q:Option Int->Option Int->Hp->Prop),SI X F R τ ρ σ H1->aW Φ c' ρ=ok (.int k)->(∀H2,aI H1 H2->Q (if b then some (k:Int)else none) (if b then none else some (k:Int)) H2)->tl σ H1 λl H2=>th σ H2 λu H3=>Q l u H3)->PE X (.Subscript a (.Slice (if b then some ke else none) (if b then none else some ke) none p) pos) (tD X F Φ (.bO n [c,c'])):=by
      intro tl th pl pu hh;refine PE.imp (sZ (Ex b) h1 pl pu) λσ H Q hq=>?_;obtain⟨R,τ,ρ,d,Si,ev,hq⟩:=hq;obtain⟨xs,cp,ev⟩:=aB ev;obtain⟨x,ex,cp⟩:=aB cp;obtain⟨ys,kU,cp⟩:=aB cp;cases cp;obtain⟨y,ey,kU⟩:=aB kU;cases kU;rw[hΦ]at ev;obtain⟨f,ds,j,rfl,rfl,rfl⟩:=GI ev;refine tD.intro Si ex λv H1 e1 r1=>hh H1 R τ ρ j σ (λl u H3=>Np X.K b v l u H3 Q) (Si.go e1) ey λH2 e2=>?_;have r2:=(r1.go e2).mono (fv':=gJ (.bO n [c,c'])) λi hi=>aaD _ hi;obtain⟨τt,fr,rp⟩:=r2;obtain⟨q,xs,rfl,hn,rs⟩:=rp.uN;have ee:=e1.trans e2;refine⟨q,xs,j,rfl,hn.sq,rfl,rfl,λl hl=>hq _ _ (ee.trans (aI.upd hl)) (bR.oN (ee.free hl) (ee.trans (aI.upd hl)) bg ?_)⟩;have rc:∃n',aD (aX X.K H2) (nd X.K R (jw (gP X F) τ (gJ (.bO n [c,c']))) τt H2) [] n' (nZ b j xs) (nZ b j ds):=by
       cases b with
       |true=>exact⟨_,rs.CQ j⟩
       |false=>exact⟨_,rs.Ha j⟩
      obtain⟨n',rc⟩:=rc;exact(rc.fQ Si fr).imp (λ_ _ h=>aX.same (aI.upd hl) h) λ_ _ _ _ h=>nd.same (aI.upd hl) h
     cases b with
     |true =>
      refine go (qr h2) qt λH1 R τ ρ k σ Q Si ek hk=>tD.intro Si ek λv H2 e2 r2=>?_;cases r2.isInt;exact⟨k,rfl,hk H2 e2⟩
     |false =>
      refine go qt (qr h2) λH1 R τ ρ k σ Q Si ek hk=>tD.intro Si ek λv H2 e2 r2=>?_;cases r2.isInt;exact⟨k,rfl,hk H2 e2⟩
    exact⟨this,cv this λ_=>by cases b<;>rfl⟩
noncomputable def pairD(x y:D):D:=.tup [x,y]
def N5(xs:ab):O D:=match two xs with
 |some z=>match z.1 with
  |.lst _ a=>match z.2 with
   |.lst _ b=>ok (.lst .ow (av aP (List.zipWith pairD a b)))
   |_=>none
  |_=>none
 |none=>none
theorem JW{x y d:D}(h:N5 [x,y]=ok d):∃f a g b,x=.lst f a/\y=.lst g b/\d=.lst .ow (av aP (List.zipWith pairD a b)):=by
 cases x<;>first|exact nk h | (cases h;done)|skip
 cases y<;>first|exact nk h | (cases h;done)|skip
 cases h;exact⟨_,_,_,_,rfl,rfl,rfl⟩
def Dc(sc:Scope)(bl:ai)(e:Expr):Option (aj):=(f6 e).bind λz=>(one z.2).bind λi=>if z.1=("list" : Str)/\jt sc z.1=true/\z.1∈bl then n6 sc bl i else none
theorem C_{sc:Scope}{bl:ai}{e:Expr}(h:Dc sc bl e=some args):∃p pos i,e=.Call (.Name ("list" : Str) p) [i] [] pos/\jt sc ("list" : Str)=true/\("list" : Str)∈bl/\n6 sc bl i=some args:=by
 obtain⟨⟨x,as⟩,hv,h⟩:=bT h;obtain⟨a,hw,h⟩:=bT h;obtain⟨hc,hz⟩:=gT h;obtain⟨rfl,h1,h2⟩:=hc;obtain⟨p,pos,rfl⟩:=cW hv;obtain rfl:=ck hw;exact⟨p,pos,a,rfl,h1,h2,hz⟩
theorem sQ{T:lL}{N:iA}(hN:∀k k' p xs f,N k p xs f->N k' p xs f):∀{r:List (Addr×V×V)} {xs ys:af} {a b:ab} {k1 k2 k:bt} {n1 n2 n:Nat},aD T N k1 n1 xs a->aD T N k2 n2 ys b->r.map (·.2)=xs.zip ys->(∀q∈r,T q.1 [q.2.1,q.2.2])->aD T N k n (r.map λq=>V.ref q.1) (List.zipWith pairD a b)
 |[],xs,ys,a,b,_,_,_,_,_,_,r1,r2,e,_=>by
  have l1:=r1.length;have l2:=r2.length;have e':=aa5 List.length e;rw[List.length_zip]at e';have:List.zipWith pairD a b=[]:=List.eq_nil_of_length_eq_zero (by rw[List.length_zipWith];simp at e';left);rw[this];exact .nil
 |q::r,xs,ys,a,b,k1,k2,k,n1,n2,n,r1,r2,e,ht=>by
  cases r1 with
  |nil=>cases e
  |cons h1 t1=>cases r2 with
   |nil=>cases e
   |cons h2 t2 =>
    have e1:q.2=(_,_):=(aa1 e).1;have e2:=(aa1 e).2;refine .cons (.tup (ht q aae) ?_) (sQ hN t1 t2 e2 λq hq=>ht q (aaf _ hq));rw[e1];have m1:=Rep.iI (T':=T) (N':=N) (g:=id) (λ_ _ h=>h) hN h1 (0::n::k);have m2:=Rep.iI (T':=T) (N':=N) (g:=id) (λ_ _ h=>h) hN h2 (1::n::k);rw[eQ]at m1 m2;exact .cons m1 (.cons m2 .nil)
theorem f7(g:Fl->Fl):∀a b:ab,av g (List.zipWith pairD a b)=List.zipWith pairD (av g a) (av g b)
 |[],_=>by cases ‹ab› <;> rfl
 |_::_,[]=>rfl
 |x::a,y::b=>by
  show aA g (pairD x y)::av g (List.zipWith pairD a b)=_;rw[f7 g a b];rfl
theorem N4{n:Nat}(hΦ:Φ n=N5){sc:Scope}{bl:ai}{k:Nat}(L:PX X sc bl k){e:Expr}(he:Dc sc bl e=some args)(hs:lN X F Φ cs args):PE X e (tD X F Φ (.bO n cs))/\PT X e (fA X F Φ (.bO n cs)):=by
 obtain⟨p,pos,i,rfl,h1,h2,hz⟩:=C_ he;obtain⟨p',pos',a,b,rfl,rfl,h3,h4⟩:=pS hz;obtain⟨⟨c,d,rfl,_,_⟩,pa,s1,s2⟩:=mY hs;have this:PE X (.Call (.Name ("list" : Str) p) [.Call (.Name ("zip" : Str) p') [a,b] [] pos'] [] pos) (tD X F Φ (.bO n [c,d])):=by
  refine PE.imp (EX L.calm (L.gl h1) (L.bl _ h2) (L.gl h3) (L.bl _ h4) pa s1 s2) λσ H Q hq=>?_;obtain⟨R,τ,ρ,d',Si,ev,hq⟩:=hq;obtain⟨xs,cp,ev⟩:=aB ev;rw[hΦ]at ev;refine⟨R,τ,ρ,xs,Si,cp,λvs H1 e1 r1=>?_⟩;obtain⟨τt,fr,rs⟩:=r1;have hl:∃x y,xs=[x,y]:=by
   unfold N5 at ev;cases hw:two xs with
   |none=>rw[hw]at ev;exact nk ev
   |some z=>exact⟨z.1,z.2,jx hw⟩
  obtain⟨x,y,rfl⟩:=hl;obtain⟨f,da,g,db,rfl,rfl,rfl⟩:=JW ev;obtain⟨v,w,rfl,rx,ry⟩:=rs.two;cases rx with
  |lst hx ax=>cases ry with
   |lst hy ay =>
    refine⟨_,_,_,_,rfl,hx.sq,hy.sq,λl r hl hr hn FW hz=>hq _ _ ?_ ?_⟩
    ·intro b o e;have e':=e1 b o e;rw[bw λz=>by rw[z,hl]at e';cases e'];exact j9 e' hr
    ·have sm:aI H1 (upd (oP H1 r) l (.lst (r.map λq=>V.ref q.1))):=λb o e=>by
      rw[bw λz=>by rw[z,hl]at e;cases e];exact j9 e hr
     refine bR.oN (e1.free hl) (e1.trans sm) bg ?_;rw[f7];refine sQ nd.pG ((ax.fQ Si fr (k':=[]) (n':=0)).imp (λ_ _ h=>aX.same sm h) λ_ _ _ _ h=>nd.same sm h) ((ay.fQ Si fr (k':=[]) (n':=0)).imp (λ_ _ h=>aX.same sm h) λ_ _ _ _ h=>nd.same sm h) hz λq hq=>?_;have yR:q.1≠l:=λz=>FW (by rw[<- z];exact aaI hq);exact aX.of (by rw[bw yR];exact xh hn q hq)
 exact⟨this,cv this λ_=>rfl⟩
noncomputable def zB(n:Int):aa:=(List.range n.toNat).map λ(k:Nat)=>(k:Int)
def N7(xs:ab):O D:=match one xs with
 |some x=>match x with
  |.int n=>if n<=fY /\ -fY<=n then ok (.lst .ow ((zB n).map D.int))else none
  |_=>none
 |none=>none
set_option tactic.hygienic true in
theorem J1{xs:ab}{d:D}(h:N7 xs=ok d):∃n:Int,xs=[.int n]/\n<=fY /\ -fY<=n/\d=.lst .ow ((zB n).map D.int):=by
 unfold N7 at h;cases hw:one xs with
 |none=>rw[hw]at h;exact nk h
 |some x =>
  obtain rfl:=ck hw;rw[hw]at h;cases x<;>first|exact nk h | (cases h;done)|skip
  rename_i n;obtain⟨⟨h1,h2⟩,h3⟩:=pz h;exact⟨n,rfl,h1,h2,h3.symm⟩
def xW(sc:Scope)(bl:ai)(e:Expr):Option (aj):=match f6 e with
 |some z=>match one z.2 with
  |some i=>if z.1=("list" : Str)/\jt sc z.1=true/\z.1∈bl then dJ ("range" : Str) sc bl i else none
  |none=>none
 |none=>none
theorem Dd{sc:Scope}{bl:ai}{e:Expr}(h:xW sc bl e=some args):∃p pos i,e=.Call (.Name ("list" : Str) p) [i] [] pos/\jt sc ("list" : Str)=true/\("list" : Str)∈bl/\dJ ("range" : Str) sc bl i=some args:=by
 unfold xW at h;cases hv:f6 e with
 |none=>rw[hv]at h;exact nk h
 |some z =>
  obtain⟨x,as⟩:=z;rw[hv]at h;obtain⟨p,pos,rfl⟩:=cW hv;have h2:(match one as with|some i=>if x=("list" : Str)/\jt sc x=true/\x∈bl then dJ ("range" : Str) sc bl i else none|none=>none)=some args:=h;clear h;cases hw:one as with
  |none=>rw[hw]at h2;exact nk h2
  |some a =>
   rw[hw]at h2;have h3:(if x=("list" : Str)/\jt sc x=true/\x∈bl then dJ ("range" : Str) sc bl a else none)=some args:=h2;clear h2;obtain rfl:=ck hw;by_cases hc:x=("list" : Str)/\jt sc x=true/\x∈bl
   ·rw[if_pos hc]at h3;obtain⟨rfl,h1,h2⟩:=hc;exact⟨_,_,_,rfl,h1,h2,h3⟩
   ·rw[if_neg hc]at h3;cases h3
def Xp(ta:TA):TE:=λσ H Q=>ta σ H λvs H1=>∃n:Int,vs=[.int n]/\n<=fY /\ -fY<=n/\∀l,H1 l=none->Q (.ref l) (upd H1 l (.lst ((zB n).map V.int)))
theorem r6:∀{ns:aa} {us:aq},us.length=ns.length->(∀(i:Nat) (u:Value),us[i]?=some u->∃t,u=.int (ns.getD i 0) t)->Vals (ns.map V.int) us
 |[],[],_,_=>.nil
 |[],_::_,h,_=>by simp at h
 |_::_,[],h,_=>by simp at h
 |n::ns,u::us,h,hu=>.cons (hu 0 u rfl) (r6 (by simpa using h) λi v hv=>hu (i+1) v hv)
theorem yC{p:Pos}(hc:X.calm=true)(OS:Gl X "list")(Tw:X.mg "list" = none)(hg:Gl X "range")(hm:X.mg "range" = none)(ha:PA X [e1] ta)(hs:starEach [e1] X.env=[(false,eval e1 X.env)]):
  PE X (.Call (.Name "list" p') [.Call (.Name "range" p) [e1] [] pos] [] pos') (Xp ta):=by
 intro pins s σ H Q I h;refine aaK (dW I OS Tw boot_list ?_);refine aat ?_;show wpAny _ _ (spliced ((false,eval (.Call (.Name "range" p) [e1] [] pos) X.env)::backTo pos' (starEach [] X.env))) _ _ s;refine aba ?_;refine Call_ (dW I hg hm boot_range (aat (dv (ha pos pins s σ H _ I h) λus s1 bP=>?_) hs rfl));obtain⟨vs,H1,I1,r1,q1⟩:=bP;obtain⟨n,e,n1,n2,hq⟩:=q1;subst e;have ZY:n<=1000000:=n1;have ZX:-1000000<=n:=n2;cases r1 with
 |cons r rr =>
  cases rr;obtain⟨t,rfl⟩:=r;refine call_range_1 (abi ?_);have e2:Builtin.Range.rangeSize 0 n 1=((n.toNat:Nat):Int):=by rw[rangeSize_one];split<;>left
  refine call_list_range (I1.ok.hd hc) (IsRange.new ..) (small_one (by left) (by left) (by left) (by left)) e2 (by left) λh' tk LB c' hk hS fX=>?_;have keep:∀b o,s1.heap.get? b=some o->h'.get? b=some o:=λb o e=>hk b o (aac _ e);have hsz:LB.size=n.toNat:=fX.1;refine⟨.ref _,upd H1 _ (.lst ((zB n).map V.int)),I1.laid (t':=tk) keep ?_ ⟨?_,LB.toList,c',?_,?_⟩,rfl,hq _ (I1.du.fresh ?_)⟩
  ·show s1.heap.objs.size<=(s1.heap.push _).objs.size;simp[Heap.push]
  ·rw[sizeLine_eq];simp[zB];left
  ·refine r6 (by simp[zB,hsz]) λi u hu=>?_;have HA:LB[i]?=some u:=by simpa using hu
   have hi:i<n.toNat:=by rw[<- hsz];exact(Array.getElem?_eq_some_iff.mp HA).1
   obtain⟨t,rfl⟩:=fX.2 i u HA;refine⟨t,?_⟩;have:(zB n).getD i 0=(i:Int):=by unfold zB;simp[List.getD,hi]
   rw[this];congr 1;left
  ·rw[Array.toArray_toList];exact hS
  ·show s1.heap.objs.size<=(s1.heap.push _).objs.size;simp[Heap.push]
theorem N6{n:Nat}(hΦ:Φ n=N7){sc:Scope}{bl:ai}{k:Nat}(L:PX X sc bl k){e:Expr}(he:xW sc bl e=some args)(hs:lN X F Φ cs args):PE X e (tD X F Φ (.bO n cs))/\PT X e (fA X F Φ (.bO n cs)):=by
 obtain⟨p,pos,i,rfl,h1,h2,hz⟩:=Dd he;obtain⟨p',pos',a,rfl,rfl,h3,h4⟩:=fC hz;cases cs with
 |nil=>exact hs.elim
 |cons c cs=>cases cs with
  |cons _ _=>exact hs.2.2.2.elim
  |nil =>
   have pa:PA X [a] (qb X F Φ [c]):=PA.imp (dx hs.1 (PA.imp gg λ_ _ _ h=>gM h) (hs.2.1 _)) λ_ _ _ h=>eV h;have this:PE X (.Call (.Name ("list" : Str) p) [.Call (.Name ("range" : Str) p') [a] [] pos'] [] pos) (tD X F Φ (.bO n [c])):=by
    refine PE.imp (yC L.calm (L.gl h1) (L.bl _ h2) (L.gl h3) (L.bl _ h4) pa (hs.2.1 _)) λσ H Q hq=>?_;obtain⟨R,τ,ρ,d,Si,ev,hq⟩:=hq;obtain⟨xs,cp,ev⟩:=aB ev;rw[hΦ]at ev;obtain⟨m,rfl,m1,m2,rfl⟩:=J1 ev;refine⟨R,τ,ρ,_,Si,cp,λvs H1 e1 r1=>?_⟩;obtain⟨τt,fr,rs⟩:=r1;obtain⟨v,rfl,rv⟩:=rs.one;cases rv;refine⟨m,rfl,m1,m2,λl hl=>hq _ _ ?_ ?_⟩
    ·intro b o e;have e':=e1 b o e;rw[bw λz=>by rw[z,hl]at e';cases e'];exact e'
    ·refine bR.oN (e1.free hl) (λb o e=>?_) bg (jd _);have e':=e1 b o e;rw[bw λz=>by rw[z,hl]at e';cases e'];exact e'
   exact⟨this,cv this λ_=>rfl⟩
def xX(f g:Str)(sc:Scope)(bl:ai)(e:Expr):Option (aj):=match dJ f sc bl e with
 |some z=>match one z with
  |some i=>dJ g sc bl i
  |none=>none
 |none=>none
theorem Dh{f g:Str}{sc:Scope}{bl:ai}{e:Expr}(h:xX f g sc bl e=some args):∃p pos p' pos' a,e=.Call (.Name f p) [.Call (.Name g p') [a] [] pos'] [] pos/\args=[a]/\jt sc f=true/\f∈bl/\jt sc g=true/\g∈bl:=by
 unfold xX at h;cases h1:dJ f sc bl e with
 |none=>rw[h1]at h;exact nk h
 |some z =>
  rw[h1]at h;obtain⟨p,pos,i,rfl,rfl,g1,g2⟩:=fC h1;have h:dJ g sc bl i=some args:=h;obtain⟨p',pos',a,rfl,rfl,g3,g4⟩:=fC h;exact⟨p,pos,p',pos',a,rfl,rfl,g1,g2,g3,g4⟩
end DI
end
section
namespace SX
open PySem
def iw(xs:Array Nat):Prop:=∀a b,a<b->b<xs.size->xs.getD a 0<xs.getD b 0
theorem oe{xs:Array Nat}(hr:iw xs)(j:Nat):∀(fuel lo hi:Nat),hi - lo<=fuel->lo<=hi->hi<=xs.size->(∀i,i<lo->xs.getD i 0<j)->(∀i,hi<=i->i<xs.size->j<=xs.getD i 0) ->
  SetTable.below.go xs j fuel lo hi<=xs.size/\(∀i,i<SetTable.below.go xs j fuel lo hi->xs.getD i 0<j)/\∀i,SetTable.below.go xs j fuel lo hi<=i->i<xs.size->j<=xs.getD i 0
 |0,lo,hi,h1,h2,h3,h4,h5=>by
  have e:lo=hi:=by left
  subst e;exact⟨h3,h4,h5⟩
 |fuel+1,lo,hi,h1,h2,h3,h4,h5=>by
  rw[SetTable.below.go];by_cases c:lo<hi
  ·rw[if_pos c];have hm:(lo+hi) / 2<xs.size:=by left
   have e:xs.getD ((lo+hi) / 2) j=xs.getD ((lo+hi) / 2) 0:=by simp[hm]
   show _<=_/\_;dsimp only;rw[e];by_cases d:xs.getD ((lo+hi) / 2) 0<j
   ·rw[if_pos d];refine oe hr j fuel _ hi (by left) (by left) h3 (λi jD=>?_) h5;rcases abe (show i<=(lo+hi) / 2 by left)with q|q
    ·exact abm (hr i _ q hm) d
    ·rw[q];exact d
   ·rw[if_neg d];refine oe hr j fuel lo _ (by left) (by left) (by left) h4 λi jD hs=>?_;rcases abe jD with q|q
    ·have:=hr _ i q hs;left
    ·rw[<- q];left
  ·rw[if_neg c];have e:lo=hi:=by left
   subst e;exact⟨h3,h4,h5⟩
theorem n_{xs:Array Nat}(hr:iw xs)(j:Nat):SetTable.below xs j<=xs.size/\(∀i,i<SetTable.below xs j->xs.getD i 0<j)/\∀i,SetTable.below xs j<=i->i<xs.size->j<=xs.getD i 0 :=
 oe hr j _ _ _ (by left) (by left) (aah _) (λi h=>absurd h (by left)) λi h h'=>absurd h' (by left)
theorem j_{xs:Array Nat}{p x:Nat}(hp:p<=xs.size)(i:Nat):(SetTable.insertAt xs p x).getD i 0=if i<p then xs.getD i 0 else if i=p then x else xs.getD (i - 1) 0:=by
 rw[Array.getD_eq_getD_getElem?,<- Array.getElem?_toList,SetTable.toList_insertAt];by_cases c:i<p
 ·rw[if_pos c,List.getElem?_append_left (by simp;left),List.getElem?_take,if_pos c,Array.getElem?_toList,<- Array.getD_eq_getD_getElem?]
 ·rw[if_neg c,List.getElem?_append_right (by simp;left)];have e:(List.take p xs.toList).length=p:=by simp;left
  rw[e];by_cases d:i=p
  ·rw[if_pos d,d,Nat.sub_self];rfl
  ·rw[if_neg d];obtain⟨k,rfl⟩:∃k,i=p+1+k:=⟨i - (p+1),by left⟩
   rw[show p+1+k - p=k+1 by left,List.getElem?_cons_succ,List.getElem?_drop,Array.getElem?_toList,<- Array.getD_eq_getD_getElem?,show p+1+k - 1=p+k by left]
theorem oQ{α:Type}(xs:Array α)(p:Nat)(x:α):(SetTable.insertAt xs p x).size=xs.size+1:=by
 have:=(SetTable.insertAt_perm xs p x).length_eq;simpa using this
theorem iw.insert{xs:Array Nat}(hr:iw xs){j:Nat}(hn:xs[SetTable.below xs j]?≠some j):iw (SetTable.insertAt xs (SetTable.below xs j) j):=λa b qR hb=>by
 obtain⟨h1,h2,h3⟩:=n_ hr j;have h4:∀i,SetTable.below xs j<=i->i<xs.size->j<xs.getD i 0:=λi hi hs=>by
  rcases abe hi with q|q
  ·have:=hr _ i q hs;have:=h3 _ (aah _) (by left);left
  ·rcases abe (h3 i hi hs)with z|z
   ·exact z
   ·exfalso;refine hn ?_;rw[q,Array.getElem?_eq_getElem hs];simp[hs]at z;rw[<- z]
 rw[oQ]at hb;rw[j_ h1,j_ h1];generalize SetTable.below xs j=p at *;by_cases a1:a<p
 ·rw[if_pos a1];by_cases b1:b<p
  ·rw[if_pos b1];exact hr a b qR (by left)
  ·rw[if_neg b1];by_cases b2:b=p
   ·rw[if_pos b2];exact h2 a a1
   ·rw[if_neg b2];have:=h2 a a1;have:=h4 (b - 1) (by left) (by left);left
 ·rw[if_neg a1,if_neg (show ¬ b<p by left),if_neg (show ¬ b=p by left)];by_cases a2:a=p
  ·rw[if_pos a2];exact h4 (b - 1) (by left) (by left)
  ·rw[if_neg a2];exact hr (a - 1) (b - 1) (by left) (by left)
theorem EL{l:aM}(h:l.Pairwise (· < ·)):iw l.toArray:=λa b qR hb=>by
 rw[List.size_toArray]at hb;have:=List.pairwise_iff_getElem.mp h a b (by left) hb qR;have ha:a<l.length:=by left
 simpa [ha,hb]using this
structure fw(b:Bool)(t:SetTable):Prop where
 led:t.led=b
 U2:t.dummies = #[]
 rise:t.plain=true->iw t.place
theorem fw.fresh(b:Bool):fw b (.fresh 0 0 b):=⟨rfl,rfl,λ_ a c _ h=>by simp[SetTable.fresh]at h⟩
theorem fw.standIn{b:Bool}{t:SetTable}(I:fw b t)(n:Nat):fw b (t.standIn n):=⟨I.led,rfl,λh=>by simp[SetTable.standIn]at h⟩
theorem fw.off{b:Bool}{t:SetTable}(I:fw b t):fw b { t with plain:=false }:=⟨I.led,I.U2,λh=>by simp at h⟩
theorem xw(j:Nat):SetTable.has #[] j=false:=by simp[SetTable.has]
theorem zw(t:SetTable)(p:SetTable.Probe):(t.advance p).dummy=p.dummy:=by
 unfold SetTable.advance;split<;>rfl
theorem mV{t:SetTable}(hd:t.dummies = #[]){ha:Nat->Int}{h:Int}:∀(fuel:Nat) (p:SetTable.Probe) {j:Nat} {d:Option Nat},p.dummy=none->SetTable.probe.go t ha h fuel p=some (.empty j d)->t.slot j=.empty/\d=none
 |0,p,j,d,_,e=>by cases e
 |fuel+1,p,j,d,hp,e=>by
  rw[SetTable.probe.go]at e;cases hs:t.slot p.j with
  |empty =>
   rw[hs]at e;cases e;exact⟨hs,hp⟩
  |dummy =>
   unfold SetTable.slot at hs;rw[hd,xw]at hs;dsimp only at hs;split at hs
   ·cases hs
   ·simp at hs
  |live i =>
   rw[hs]at e;dsimp only at e;split at e
   ·cases e
   ·exact mV hd fuel _ ((zw t p).trans hp) e
theorem fw.layNew{b:Bool}{t:SetTable}(I:fw b t)(es:Array (Int×Value))(h:Int)(x:Value):fw b (layNew t es h x).2.1:=by
 unfold PySem.layNew;cases hf:t.freeSlot h with
 |none=>exact I.standIn _
 |some z =>
  obtain⟨slot,wd⟩:=z;dsimp only;have key:t.slot slot=.empty:=by
   unfold SetTable.freeSlot at hf;split at hf
   ·rename_i j d hm;obtain⟨e1,e2⟩:=mV I.U2 _ _ (by rfl) (show SetTable.probe.go t _ h (10*SetTable.turns t.mask) (t.probeStart h)=_ from hm);subst e2;cases hf;exact e1
   ·cases hf
  have X3:t.place[SetTable.below t.place slot]?≠some slot:=λz=>by
   unfold SetTable.slot at key;dsimp only at key;rw[if_pos (by rw[z];simp)]at key;cases key
  have P:fw b (t.put slot).1:=⟨I.led,by
   show(if SetTable.has t.dummies slot then _ else t.dummies)=_;rw[I.U2,xw];rfl,λhp=>(I.rise hp).insert X3⟩
  unfold SetTable.orStandIn;split
  ·exact P
  ·exact P.standIn _
theorem fw.Nk{b:Bool}{t:SetTable}(I:fw b t)(es:Array (Int×Value))(n:Nat):fw b (relayAll t es n).2.1:=by
 unfold relayAll;cases hr:t.relaid (es.map (·.1)) n with
 |none=>exact I.standIn _
 |some z =>
  obtain⟨t',order⟩:=z;dsimp only;have P:fw b t':=by
   unfold SetTable.relaid SetTable.laid at hr;cases ho:SetTable.layClean (SetTable.sizeAbove n - 1) (es.map (·.1))with
   |none=>rw[ho]at hr;cases hr
   |some ow =>
    rw[ho]at hr;cases hr;refine⟨I.led,rfl,λ_=>EL ?_⟩;rw[List.pairwise_map];refine List.Pairwise.filterMap _ ?_ (List.pairwise_lt_range (n:=SetTable.sizeAbove n - 1+1));intro a a' YH x hx y hy;obtain⟨x',_,rfl⟩:=Option.map_eq_some_iff.mp hx;obtain⟨y',_,rfl⟩:=Option.map_eq_some_iff.mp hy;exact YH
  split
  ·exact P
  ·exact I.standIn _
variable {prog:aF}{w:World}{A:aG}{E:az}{s:Shared}
noncomputable def lZ(prog:aF)(w:World)(b:Bool)(h:Heap)(a:Addr)(S:Int->Bool)(n:Nat):Prop :=
 ∃o es ep t,h.get? a=some o/\o.ExactSet/\o.data=Data.set es ep t/\ElemsOf (intKind prog w) es.toList/\(∀k,S k=true ↔ ∃e∈es.toList,(intKind prog w).is k e.2=true)/\es.size<scanBound/\t.fits es.size=true/\es.size=n/\fw b t
variable {h:Heap}
theorem lZ.keep{b:Bool}{h':Heap}{a:Addr}{S:Int->Bool}{n:Nat}(x:lZ prog w b h a S n)(k:∀o,h.get? a=some o->h'.get? a=some o):lZ prog w b h' a S n :=
 let ⟨o,es,ep,t,e,r⟩:=x;⟨o,es,ep,t,k _ e,r⟩
variable {ep:Nat}{o:Obj}
theorem wN{a:Addr}{es:Array (Int×Value)}{t:SetTable}(ho:h.get? a=some o)(hd:o.data=.set es ep t)(zM:Array (Int×Value))(t':SetTable):
  (h.update a (Obj.putSet zM t')).get? a=some { o with data:=.set zM (ep+1) t' }:=by
 have e:=putSet_of zM t' hd;have:=aaC (Obj.putSet zM t') ho (by rw[e];rfl)
 rwa [e]at this
theorem sv{b:Bool}{g:Bool->Sem Unit}(hg:∀(c:Bool) (s₁:Shared) (Q':Unit->Shared->Prop),Q' () s₁->wpAny (model prog w) A (g c) Q' E s₁){a:Addr}{es lI:Array (Int×Value)}{t t2:SetTable}{wd:Bool}{R:Option Bool->Shared->Prop}(ho:s.heap.get? a=some o)(hd:o.data=.set es ep t)(hz:lI.size<scanBound)(hf:t2.fits lI.size=true)(I:fw b t2)
  (h:∀h' xK Gi t3,Heap.SameBut a s.heap h'->h'.get? a=some { o with data:=.set xK Gi t3 }->xK.toList.Perm lI.toList->t3.fits xK.size=true->fw b t3->R (some true) { s with heap:=h' }) :
  wpAny (model prog w) A (do storeSet a lI t2;if (!wd&&t2.tooFull)=true then do { g (relayAll t2 lI (SetTable.grown lI.size)).2.2;storeSet a (relayAll t2 lI (SetTable.grown lI.size)).1 (relayAll t2 lI (SetTable.grown lI.size)).2.1;pure (some true) } else pure (some true)) R E s:=by
 have zl:lI.size<=sizeLine:=by rw[sizeLine_eq];unfold scanBound at hz;omega
 refine Z_ (wpAny_storeSet_of ho hd ?_ zl);have g1:=wN ho hd lI t2;have s1:=aaF s.heap a (Obj.putSet lI t2);by_cases c:(!wd&&t2.tooFull)=true
 ·rw[if_pos c];have p1:=relayAll_perm t2 lI (SetTable.grown lI.size);have f1:=relayAll_fits t2 lI (SetTable.grown lI.size);have i1:=I.Nk lI (SetTable.grown lI.size);generalize relayAll t2 lI (SetTable.grown lI.size)=X at *;have zs:X.1.size=lI.size:=by simpa using p1.length_eq
  refine Z_ (hg _ _ _ (Z_ (wpAny_storeSet_of g1 rfl (aaa ?_) (by left))));exact h _ X.1 _ X.2.1 (s1.trans (aaF _ a _)) (wN g1 rfl X.1 X.2.1) p1 f1 i1
 ·rw[if_neg c];exact aaa (h _ lI _ t2 s1 g1 (abA _) hf I)
theorem add_int{b:Bool}{a:Addr}{S:Int->Bool}{n:Nat}{k:Int}{tk:Tok}{Q:Bool->Shared->Prop}(hS:lZ prog w b s.heap a S n)(room:n+1<scanBound)
  (h:∀h',Heap.SameBut a s.heap h'->lZ prog w b h' a (λz=>S z||decide (z=k)) (if S k then n else n+1)->Q (!S k) { s with heap:=h' }) :
  wpAny (model prog w) A (setAddHashed a (.int k tk) ((intKind prog w).hash k)) Q E s:=by
 obtain⟨o,es,ep,t,ho,hex,hd,Q1,hm,hz,hf,rfl,I⟩:=hS;have hk:(intKind prog w).is k (.int k tk)=true:=intKind_is _ _ _ _;unfold setAddHashed setAddHashedIn;refine aax (Z_ (aa3 ho hd hf ?_));dsimp only;rw[byScan_of (x:=.int k tk) rfl hz Q1,if_pos rfl];unfold setAddByScan;refine Z_ (Z_ (abx (Z_ (wpAny_setScan_of hk ho hd hf Q1 ?_))));cases hr:List.findIdx? (λe=>(intKind prog w).is k e.2) es.toList with
 |some j =>
  obtain⟨hj,pj,_⟩:=List.findIdx?_eq_some_iff_getElem.mp hr;have sk:S k=true:=(hm k).mpr ⟨_,aaP hj,pj⟩;have q:=h s.heap (Heap.SameBut.refl a s.heap) ⟨o,es,ep,t,ho,hex,hd,Q1,λz=>by
   rw[Bool.or_eq_true,decide_eq_true_eq,<- hm z];exact⟨λy=>y.elim id λe=>by rw[e];exact sk,.inl⟩,hz,hf,by rw[sk];rfl,I⟩
  rw[sk]at q;exact aaa (aaa q)
 |none =>
  have sk:S k=false:=by
   cases c:S k with
   |false=>rfl
   |true =>
    obtain⟨e,he,pe⟩:=(hm k).mp c;rw[List.findIdx?_eq_none_iff.mp hr e he]at pe;cases pe
  have p1:=layNew_perm t es ((intKind prog w).hash k) (.int k tk);have f1:=layNew_fits t es ((intKind prog w).hash k) (.int k tk);have i1:=I.layNew es ((intKind prog w).hash k) (.int k tk);generalize layNew t es ((intKind prog w).hash k) (.int k tk)=L at *;obtain⟨lI,t1,wd,gv⟩:=L;dsimp only at p1 f1 i1 ⊢;rw[Array.toList_push]at p1;have zs:lI.size=es.size+1:=by simpa using p1.length_eq
  have fin:∀h' xK Gi t3,Heap.SameBut a s.heap h'->h'.get? a=some { o with data:=.set xK Gi t3 }->xK.toList.Perm lI.toList->t3.fits xK.size=true->fw b t3->Q true { s with heap:=h' }:=λh' xK Gi t3 sb e p3 f3 i3=>by
   have zz:xK.size=es.size+1:=by have:=p3.length_eq;simp at this;left
   have q:=h h' sb ⟨_,xK,Gi,t3,e,hex,rfl,(Q1.push hk rfl).perm (p3.trans p1),mem_push_iff hk hm (p3.trans p1),by left,f3,by rw[sk];exact zz,i3⟩;rw[sk]at q;exact q
  have gw:∀(c:Bool) (s₁:Shared) (Q':Unit->Shared->Prop),Q' () s₁->wpAny (model prog w) A (match c with|true=>rule "set.scan.the-table-gave-way" |false=>pure ()) Q' E s₁:=λc s₁ Q' q=>by
   cases c with
   |true=>exact abx q
   |false=>exact aaa q
  refine Z_ (gw _ _ _ ?_);split
  ·rw[hashByValue_scannable 8 (x:=.int k tk) rfl];refine Z_ (aaa ?_);refine sv gw ho hd (by left) ?_ ?_ λh' xK Gi t3 a1 a2 a3 a4 a5=>aaa (fin h' xK Gi t3 a1 a2 a3 a4 a5)
   ·split
    ·exact f1
    ·exact SetTable.fits_plain_off f1
   ·split
    ·exact i1
    ·exact i1.off
  ·refine Z_ (aaa ?_);rw[if_pos rfl];exact sv gw ho hd (by left) f1 i1 λh' xK Gi t3 a1 a2 a3 a4 a5=>aaa (fin h' xK Gi t3 a1 a2 a3 a4 a5)
end SX
end
section
namespace SX
open PySem PyProof.Rows
noncomputable def vT(w:World):Bool:=w.params.followText "set-order"
abbrev lR(w:World):Obj:={ cls:=.type "set",dict:=none,data:=.set #[] 0 (.fresh 0 0 (!vT w)) }
section
variable {prog:aF}{w:World}{A:aG}{R:Result->Shared->Prop}{I:Addr}{fp wr:aZ}{G:Array GenState->Array GenState->Prop}{n:Nat}{P:Nat->Value->Prop}{St:Nat->Shared->Prop}
theorem y7{b:Bool}(W:WalksS prog w A.in1 I fp wr G n P St)(D:Addr)(hD:D∉fp)(f:Nat->Int)(hf:∀i v,P i v->∃t,v=.int (f i) t)(hb:n+1<scanBound):∀(k i:Nat) (s:Shared),i+k=n->St i s->lZ prog w b s.heap D (λz=>(firstMet f i).any (· == z)) (firstMet f i).length ->
   (∀s',Moved (D::wr) G s s'->lZ prog w b s'.heap D (λz=>(firstMet f n).any (· == z)) (firstMet f n).length->R (.ok (.ret .none)) s') ->
   codeAny (model prog w) A (.builtin "set.update.loop" ⟨[.ref D,.ref I],[]⟩) R s:=by
 have nw:D∉wr:=λz=>hD (W.sub _ z);have up:∀c∈wr,c∈D::wr:=λc h=>aaf _ h;intro k;induction k with
 |zero =>
  intro i s hk st hS hR;obtain rfl:i=n:=by left
  refine aaJ F.entry_set_update_loop ?_;rw[Around.under_plainId F.plain_set_update_loop _];refine(show wpAny _ A.in1 (pyNext (.ref I) >>= _) _ _ s from Z_ (W.done s _ _ st λs' m=>?_));exact(show wpAny _ A.in1 (ret Value.none) _ _ s' from aaa (hR s' (m.mono up) (hS.keep λo e=>m.heap D o nw e)))
 |succ k ih =>
  intro i s hk st hS hR;have hi:i<n:=by left
  refine aaJ F.entry_set_update_loop ?_;rw[Around.under_plainId F.plain_set_update_loop _];refine(show wpAny _ A.in1 (pyNext (.ref I) >>= _) _ _ s from Z_ (W.item i s _ _ hi st λv s' p mM m=>?_));obtain⟨t,rfl⟩:=hf i v p;have YQ:lZ prog w b s'.heap D (λz=>(firstMet f i).any (· == z)) (firstMet f i).length:=hS.keep λo e=>m.heap D o nw e;refine(show wpAny _ A.in1 (holding [Value.int (f i) t] (setAdd D (.int (f i) t)) >>= _) _ _ s' from Z_ (aax ?_));unfold setAdd;have room:(firstMet f i).length+1<scanBound:=by have:=firstMet_length_le f i;left
  refine aax (Z_ ((intKind prog w).pyHash (k:=f i) (intKind_is _ _ _ _) (add_int (s:={ s' with toks:=s'.toks+1 }) YQ room λh' sb Wy=>?_)));have e1:(λz=>(firstMet f i).any (· == z)||decide (z=f i))=λz=>(firstMet f (i+1)).any (· == z):=funext λz=>by rw[firstMet_succ,step_any]
  have e2:(if (firstMet f i).any (· == f i)then(firstMet f i).length else(firstMet f i).length+1)=(firstMet f (i+1)).length:=by rw[firstMet_succ,step_length]
  rw[e1,e2]at Wy;refine aaa ⟨aa_ F.plain_set_update_loop _,ih (i+1) _ (by left) (W.frame _ s' _ _ mM (aaS _) λc hc o e=>?_) Wy λs2 m2 YO=>hR s2 (Moved.trans W.gtrans ((m.mono up).then_heap (aaS _) λc o hc e=>?_) m2) YO⟩
  ·rw[sb.2 c λz:c=D=>hD (z▸hc)];exact e
  ·rw[sb.2 c λz:c=D=>hc (by rw[z];exact List.mem_cons_self)];exact e
end
variable {Q:Value->Shared->Prop}{h h':Heap}
section
variable {prog:aF}{w:World}{A:aG}{E:az}{s:Shared}
theorem Ez(v:Value)(h:Q (.ref s.heap.objs.size) { s with heap:=s.heap.push (lR w) }):codeAny (model prog w) A (.call (.builtin "set.__new__") ⟨[.type "set",v],[]⟩) (wants Q E) s:=by
 refine codeAny_of_tree (show wpAny _ A.in1 (do checkBuiltinCall "set.__new__" ⟨[.type "set",v],[]⟩;again (.builtin "set.__new__" ⟨[.type "set",v],[]⟩)) _ _ s from Z_ (wpAny_of_eq (F.newCall_set_1 v) (aaa ⟨aa_ F.plain_set_new _,aaJ F.entry_set_new ?_⟩)));rw[Around.under_plainId F.plain_set_new _];unfold Builtin.«set.__new__» Builtin.Frozenset.newClass;have e:=sub_set_self;obtain⟨hp,g,d,tk,os⟩:=s;dsimp only at h ⊢
 wp_walk
 refine wpAny_askSetting (aaa ?_);dsimp only;simp only[newObj];exact Z_ (wpAny_alloc (aaa (aaa h)))
theorem y3{a:Addr}(e:h.get? a=some (lR w))(f:Nat->Int):lZ prog w (!vT w) h a (λz=>(firstMet f 0).any (· == z)) (firstMet f 0).length :=
 ⟨_,#[],0,_,e,⟨rfl,rfl,rfl⟩,rfl,λx hx=>by simp at hx,λk=>by simp[firstMet_zero],by decide,rfl,rfl,.fresh _⟩
theorem set_list{l:Addr}{aL:aq}{ns:aa}(hh:A.handled=none)(hl:s.heap.IsList l aL.toArray)(hi:IntsAre aL ns)(hb:aL.length+1<scanBound)
  (h:∀(h':Heap) (tk:Nat),lZ prog w (!vT w) h' s.heap.objs.size (λz=>(firstMet (λi=>ns.getD i 0) ns.length).any (· == z)) (firstMet (λi=>ns.getD i 0) ns.length).length->(∀b o,b<s.heap.objs.size->s.heap.get? b=some o->h'.get? b=some o)->Q (.ref s.heap.objs.size) { s with heap:=h',toks:=tk }) :
  wpAny (model prog w) A (call (.type "set") [.ref l]) Q E s:=by
 have Tt:aL.length=ns.length:=hi.length;obtain⟨c,tl,k1⟩:=F.called_set.mro;have k2:=F.called_set.made;have k3:=F.called_set.sub;have k4:=F.called_set.notType;have k5:=F.called_set.canCreate;have k6:=F.typeCall_set_1 (.ref l);refine wpAny_call (codeAny_of_tree (show wpAny _ _ (callAny (.type "set") _) _ _ _ from aaa ⟨ab9 _ (by decide +kernel),aaJ F.entry_type_call ?_⟩));rw[Around.under_plain (weight_type_call_type "set" [.ref l] []) rfl]
 repeat (any_goals (first|assumption|wp_step))
 refine abk (Ez (.ref l) (E:=E) (Q:=λz s₁=>z=.ref s.heap.objs.size/\s₁={ s with heap:=s.heap.push (lR w) }) ⟨rfl,rfl⟩) λr s₁ hr=>?_;cases r with
 |error e=>exact hr
 |ok fl =>
  cases fl with
  |next=>exact hr.elim
  |brk=>exact hr.elim
  |cont=>exact hr.elim
  |ret z =>
   obtain⟨rfl,rfl⟩:=hr;have g1:(s.heap.push (lR w)).get? s.heap.objs.size=some (lR w):=aaj _ rfl;have g2:Shared.TypeIs { s with heap:=s.heap.push (lR w) } (.ref s.heap.objs.size) "set":=⟨_,g1,rfl⟩
   have g3:=F.called_set.init.lookup;have g4:=F.called_set.init.bind (.ref s.heap.objs.size)
   repeat (any_goals (first|assumption|wp_step))
   refine abk (codeAny_call_builtin (R:=wants (λr s₂=>r=.none/\∃h' tk,s₂={ s with heap:=h',toks:=tk }/\lZ prog w (!vT w) h' s.heap.objs.size (λz=>(firstMet (λi=>ns.getD i 0) ns.length).any (· == z)) (firstMet (λi=>ns.getD i 0) ns.length).length/\∀b o,b<s.heap.objs.size->s.heap.get? b=some o->h'.get? b=some o) E) F.called_set.init.plain F.entry_set_init (check_set_init_1 g2 ?_)) λr₂ s₂ iQ=>?_
   ·obtain⟨ot,FV,O2,nt,F2⟩:=hl;obtain⟨oc,od,X2,zE⟩:=ot;simp only at O2 F2;subst O2;subst F2;have u1:(s.heap.push (lR w)).get? l=some { cls:=.type "list",dict:=od,data:=.seq aL.toArray nt,slots:=zE }:=aac _ FV;have u2:=F.sub_list_set;have u3:=F.sub_list_frozenset;have u4:(Value.type "list" == Value.type "dict")=false:=by decide
    have u5:(s.heap.push (lR w)).IsList l aL.toArray:=⟨_,u1,rfl,nt,rfl⟩
    unfold Builtin.«set.__init__» noKeywords Builtin.Frozenset.updateFrom;generalize T_:pyIter=PI
    wp_walk
    subst T_;refine acf u5 (Z_ (ab4 ?_));have u6:l<s.heap.objs.size:=aag FV;have u7:A.in1.in1.in1.handled=none:=by simp[hh]
    have hz:(s.heap.push (lR w)).objs.size=s.heap.objs.size+1:=aby ..;have u8:l≠(s.heap.push (lR w)).objs.size:=by rw[hz];exact aai (aap u6)
    have u9:s.heap.objs.size∉[(s.heap.push (lR w)).objs.size,l]:=by
     rw[hz];intro m;simp at m;exact absurd m (aaq u6)
    have v1:∀(i:Nat) (v:Value),aL.toArray[i]?=some v->∃t,v=.int ((λi=>ns.getD i 0) i) t:=λi v hv=>hi.int_at i v (by simpa using hv);refine y7 (b:=!vT w) ((Walks.list u7 _ l u8 aL.toArray).toS) s.heap.objs.size u9 (λi=>ns.getD i 0) v1 (by rw[List.size_toArray];exact hb) aL.toArray.size 0 _ (by left) ⟨⟨_,aaj _ rfl,rfl,rfl⟩,u5.push _⟩ ?hS0 ?hR
    case hS0=>exact y3 (aac _ g1) _
    case hR =>
     intro s' hm rV;obtain⟨h',g',d',MG,NH⟩:=s';cases (show g'=s.gens from hm.gens);cases (show d'=s.drawn from hm.drawn);cases (show NH=s.os from hm.os);have e:aL.toArray.size=ns.length:=by rw[List.size_toArray,Tt]
     rw[e]at rV;refine aaa (show wpAny _ _ (ret Value.none) _ _ _ from aaa ⟨rfl,h',MG,rfl,rV,λb o hb e=>hm.heap b o (λm=>?_) (aac _ (aac _ e))⟩);rcases List.mem_cons.mp m with m|m
     ·exact aai hb m
     ·have m:b=(s.heap.push (lR w)).objs.size:=by simpa using m
      rw[hz]at m;exact aai (aap hb) m
   ·cases r₂ with
    |error e=>exact iQ
    |ok Cy =>
     cases Cy with
     |ret r =>
      obtain⟨rfl,h',tk,rfl,rV,B9⟩:=iQ
      repeat (any_goals (first|assumption|wp_step))
      exact h _ _ rV B9
     |next=>exact iQ.elim
     |brk=>exact iQ.elim
     |cont=>exact iQ.elim
end
theorem dS:Slot "set_iterator" "__next__" "set_iterator.__next__" :=
 .of (owner:="set_iterator") (n:="__next__") (by rw[typeLookup_type,builtinLookup_eq_fast];kernel_rfl) (by decide +kernel) (by decide +kernel) (by decide +kernel) (by first|exact .inl (by decide +kernel)|exact .inr (by decide +kernel)) (by rw[isSubtype_type];kernel_rfl)
theorem mf:entryFor table "set_iterator.__next__" = some Builtin.«set_iterator.__next__»:=entryFor_of_tree (by kernel_rfl)
theorem Hr:Manifest.owners.lookup (String.ofList ['r','o','t','a','r','e','t','i','_','t','e','s'].reverse)=some Manifest.sig_set_iterator:=by kernel_rfl
theorem my(a:Value):argsOk "set_iterator.__next__" ⟨[a],[]⟩:=by
 unfold argsOk;rw[signature?_of (id:="set_iterator.__next__") (n:=['_','_','t','x','e','n','_','_']) (o:=['r','o','t','a','r','e','t','i','_','t','e','s']) (by kernel_rfl) Hr]
 kernel_rfl
theorem wC:Slot "set_iterator" "__iter__" "set_iterator.__iter__" :=
 .of (owner:="set_iterator") (n:="__iter__") (by rw[typeLookup_type,builtinLookup_eq_fast];kernel_rfl) (by decide +kernel) (by decide +kernel) (by decide +kernel) (by first|exact .inl (by decide +kernel)|exact .inr (by decide +kernel)) (by rw[isSubtype_type];kernel_rfl)
theorem Gn:entryFor table "set_iterator.__iter__" = some Builtin.«dict_keyiterator.__iter__»:=entryFor_alias (id':="dict_keyiterator.__iter__") (by kernel_rfl) rfl (by decide +kernel) (by kernel_rfl)
theorem GV(a:Value):argsOk "set_iterator.__iter__" ⟨[a],[]⟩:=by
 unfold argsOk;rw[signature?_of (id:="set_iterator.__iter__") (n:=['_','_','r','e','t','i','_','_']) (o:=['r','o','t','a','r','e','t','i','_','t','e','s']) (by kernel_rfl) Hr]
 kernel_rfl
theorem Gp:entryFor table "set.__iter__" = some Builtin.«frozenset.__iter__»:=entryFor_alias (id':="frozenset.__iter__") (by kernel_rfl) rfl (by decide +kernel) (by kernel_rfl)
def SI(h:Heap)(it:Addr)(first:Value)(i:Nat)(a:Addr)(n ep:Nat):Prop:=∃o,h.get? it=some o/\o.cls=.type "set_iterator" /\ o.data=.fields #[first,.int i 0,.ref a,.int n 0,.int ep 0]
variable {prog:aF}{w:World}{A:aG}{E:az}{s:Shared}
variable {ep slot:Nat}{first:Value}{it:Addr}
theorem SI.typ{a:Addr}{i n:Nat}(x:SI s.heap it first i a n ep):s.TypeIs (.ref it) "set_iterator":=let ⟨o,e,c,_⟩:=x;⟨o,e,c⟩
theorem SI.keep{a:Addr}{i n:Nat}(x:SI h it first i a n ep)(k:∀o,h.get? it=some o->h'.get? it=some o):SI h' it first i a n ep:=let ⟨o,e,c⟩:=x;⟨o,k _ e,c⟩
theorem SI.AE{a:Addr}{v:Value}{i n:Nat}(x:SI h it first i a n ep):SI (h.update it (Obj.mapFields (·.setIfInBounds 0 v))) it v i a n ep :=
 let ⟨_,e,c,d⟩:=x;⟨_,aaC _ e (abO (aca d _)),(acj ..).trans c,by rw[Obj.data_mapFields d];simp⟩
theorem SI.M1{a:Addr}{i n:Nat}(x:SI h it first i a n ep):SI (h.update it (Obj.mapFields (·.setIfInBounds 1 (rawInt ((i:Int)+1))))) it first (i+1) a n ep :=
 let ⟨_,e,c,d⟩:=x;⟨_,aaC _ e (abO (aca d _)),(acj ..).trans c,by rw[Obj.data_mapFields d];simp[rawInt]⟩
structure uB(h:Heap)(a:Addr)(es:Array (Int×Value))(ep:Nat)(t:SetTable):Prop where
 obj:∃o,h.get? a=some o/\o.ExactSet/\o.data=.set es ep t
 fit:t.fits es.size=true
theorem uB.keep{a:Addr}{es:Array (Int×Value)}{t:SetTable}(x:uB h a es ep t)(k:∀o,h.get? a=some o->h'.get? a=some o):uB h' a es ep t:=let ⟨⟨o,e,r⟩,f⟩:=x;⟨⟨o,k _ e,r⟩,f⟩
theorem wx{h0:Heap}{s:Shared}{Q:Option Value->Shared->Prop}(hh:A.handled=none)(hx:Heap.ExtBut it h0 s.heap)(hQ:∀h',Heap.ExtBut it h0 h'->Q none { s with heap:=h' }):
  wpAny (model prog w) A.in1 (do raiseNew (<- newExc (.type "StopIteration") [])) (λfin s'=>∃v,fin=Fin.done (Flow.ret v)/\wpAny (model prog w) A (pure (some v)) Q E s') (λe s'=>wpAny (model prog w) A (do if <- isInstance e (.type "StopIteration")then pure none else throw e) Q E s') s:=by
 refine Z_ ?_;simp only[newExc,newTuple];refine Z_ (aav ?_ (by size_fits));refine Z_ (m:=firstArgMember _ _) (wpAny_of_eq (a:=Value.none) (by first|rfl | (simp only[firstArgMember];rfl)) ?_);refine aav ?_ (by size_fits);simp only[raiseNew];refine Z_ (wpAny_handled ?_);rw[show A.in1.handled=none from hh];refine Z_ (aaa (wpAny_throw ?_));refine Z_ (abM (T:="StopIteration") (b:=true) ⟨_,aaj _ rfl,rfl⟩ isSubtype_stop ?_);exact aaa (hQ _ ((hx.push _).push _))
theorem Bt{a:Addr}{i nx:Nat}{es:Array (Int×Value)}{t:SetTable}{x:Value}{Q:Option Value->Shared->Prop}(hI:SI s.heap it (.int slot 0) i a es.size ep)(hS:uB s.heap a es ep t)
  (hn:∀(E:az) (Q':Option (Value×Nat)->Shared->Prop),Q' (some (x,nx)) s->wpAny (model prog w) A.in1 (setNext a slot i ep) Q' E s)
  (hQ:∀h',SI h' it (.int nx 0) (i+1) a es.size ep->Heap.ExtBut it s.heap h'->Q (some x) { s with heap:=h' }):wpAny (model prog w) A (pyNext (.ref it)) Q E s:=by
 obtain⟨o,ho,hc,hd⟩:=id hI;obtain⟨⟨os,uE,hex,xq⟩,hf⟩:=id hS;unfold pyNext;refine Z_ (aa2 (aaA (name:=Str.ofString "__next__") hI.typ dS (aau dS hI.typ mf ?_ (my _))));unfold Builtin.«set_iterator.__next__»;refine Z_ (aaa (Z_ (abn ho hd ?_)));dsimp only;refine Z_ (aa9 uE xq hf ?_);rw[if_neg (by simp)];rw[Int.toNat_natCast,Int.toNat_natCast,Int.toNat_natCast];refine Z_ (hn _ _ ?_);dsimp only;have e1:=hI.AE (v:=rawInt (nx:Int));have e2:=e1.M1;obtain⟨o1,zH,YE,L8⟩:=id e1;refine Z_ (aaX ho hd (by simp) (Z_ (aaX zH L8 (by simp) ?_)));exact aaa ⟨_,rfl,aaa (hQ _ e2 ((aaF ..).trans (aaF ..)).extBut)⟩
theorem Gk{a:Addr}{i:Nat}{es:Array (Int×Value)}{t:SetTable}{Q:Option Value->Shared->Prop}(hh:A.handled=none)(hI:SI s.heap it (.int slot 0) i a es.size ep)(hS:uB s.heap a es ep t)
  (hn:∀(E:az) (Q':Option (Value×Nat)->Shared->Prop),Q' none s->wpAny (model prog w) A.in1 (setNext a slot i ep) Q' E s)
  (hQ:∀h',Heap.ExtBut it s.heap h'->Q none { s with heap:=h' }):wpAny (model prog w) A (pyNext (.ref it)) Q E s:=by
 obtain⟨o,ho,hc,hd⟩:=id hI;obtain⟨⟨os,uE,hex,xq⟩,hf⟩:=id hS;unfold pyNext;refine Z_ (aa2 (aaA (name:=Str.ofString "__next__") hI.typ dS (aau dS hI.typ mf ?_ (my _))));unfold Builtin.«set_iterator.__next__»;refine Z_ (aaa (Z_ (abn ho hd ?_)));dsimp only;refine Z_ (aa9 uE xq hf ?_);rw[if_neg (by simp)];rw[Int.toNat_natCast,Int.toNat_natCast,Int.toNat_natCast];refine Z_ (hn _ _ (Z_ (aaX ho hd (by simp) ?_)));exact wx hh (aaF ..).extBut hQ
variable {ps:aR}
theorem Bu{a tp:Addr}{i pl:Nat}{tk:Tok}{es:Array (Int×Value)}{t:SetTable}{x:Int×Value}{Q:Option Value->Shared->Prop}(hI:SI s.heap it (.ref tp) i a es.size ep)(hS:uB s.heap a es ep t)(hT:s.heap.IsTuple tp ps)(hp:ps[i]?=some (.int pl tk))(hx:es[pl]?=some x)
  (hQ:∀h',SI h' it (.ref tp) (i+1) a es.size ep->Heap.ExtBut it s.heap h'->Q (some x.2) { s with heap:=h' }):wpAny (model prog w) A (pyNext (.ref it)) Q E s:=by
 obtain⟨o,ho,hc,hd⟩:=id hI;obtain⟨⟨os,uE,hex,xq⟩,hf⟩:=id hS;obtain⟨ot,FV,_,nt,F2⟩:=id hT;unfold pyNext;refine Z_ (aa2 (aaA (name:=Str.ofString "__next__") hI.typ dS (aau dS hI.typ mf ?_ (my _))));unfold Builtin.«set_iterator.__next__»;refine Z_ (aaa (Z_ (abn ho hd ?_)));dsimp only;refine Z_ (aa9 uE xq hf ?_);rw[if_neg (by simp)];refine Z_ (abz FV F2 ?_);dsimp only;rw[Int.toNat_natCast,hp];dsimp only;unfold setNextDrawn;refine Z_ (Z_ (aa3 uE xq hf ?_));dsimp only;rw[if_neg (by simp),Int.toNat_natCast,hx];dsimp only;refine aaa ?_;refine Z_ (aaX ho hd (by simp) ?_);exact aaa ⟨_,rfl,aaa (hQ _ hI.M1 (aaF ..).extBut)⟩
theorem Gm{a tp:Addr}{i:Nat}{es:Array (Int×Value)}{t:SetTable}{Q:Option Value->Shared->Prop}(hh:A.handled=none)(hI:SI s.heap it (.ref tp) i a es.size ep)(hS:uB s.heap a es ep t)(hT:s.heap.IsTuple tp ps)(hp:ps[i]?=none)
  (hQ:∀h',Heap.ExtBut it s.heap h'->Q none { s with heap:=h' }):wpAny (model prog w) A (pyNext (.ref it)) Q E s:=by
 obtain⟨o,ho,hc,hd⟩:=id hI;obtain⟨⟨os,uE,hex,xq⟩,hf⟩:=id hS;obtain⟨ot,FV,_,nt,F2⟩:=id hT;unfold pyNext;refine Z_ (aa2 (aaA (name:=Str.ofString "__next__") hI.typ dS (aau dS hI.typ mf ?_ (my _))));unfold Builtin.«set_iterator.__next__»;refine Z_ (aaa (Z_ (abn ho hd ?_)));dsimp only;refine Z_ (aa9 uE xq hf ?_);rw[if_neg (by simp)];refine Z_ (abz FV F2 ?_);dsimp only;rw[Int.toNat_natCast,hp];dsimp only;have e1:=hI.AE (v:=rawInt 0);obtain⟨o1,zH,YE,L8⟩:=id e1;refine Z_ (aaX ho hd (by simp) (Z_ (aaX zH L8 (by simp) ?_)));exact wx hh ((aaF ..).trans (aaF ..)).extBut hQ
theorem wF{a:Addr}{i n:Nat}(hI:SI s.heap it first i a n ep)(h:Q (.ref it) s):wpAny (model prog w) A (pyIter (.ref it)) Q E s:=by
 refine ach hI.typ wC (aau wC hI.typ Gn ?_ (GV _));show wpAny _ _ (ret (.ref it)) _ _ s;exact aaa ⟨_,rfl,"set_iterator",_,hI.typ,dS.lookup,h⟩
variable {prog:aF}{w:World}{A:aG}{E:az}{s:Shared}
theorem ml{Q:Bool->Shared->Prop}(h:Q (vT w) s):wpAny (model prog w) A setsByText Q E s:=by
 unfold setsByText;exact Z_ (wpAny_askSetting (aaa h))
theorem nL{α:Type}:∀(l:List α) (i:Nat) (h:i<l.length),(l[i]::l.eraseIdx i).Perm l
 |x::l,0,_=>abA _
 |x::l,i+1,h=>by
  show(l[i]'(by simpa using h)::x::l.eraseIdx i).Perm (x::l);exact(List.Perm.swap x _ _).trans (List.Perm.cons x (nL l i (by simpa using h)))
theorem wU{α:Type}(f:Nat->Nat):∀(n k:Nat) (l:List α) (out:Array α),l.length=n->(pickOrder.go f n k l out).toList.Perm (out.toList++l)
 |0,k,l,out,h=>by
  obtain rfl:l=[]:=List.length_eq_zero_iff.mp h;rw[pickOrder.go,List.append_nil]
 |n+1,k,l,out,h=>by
  rw[pickOrder.go];have hl:f k % l.length<l.length:=Nat.mod_lt _ (by left);rw[List.getElem?_eq_getElem hl];dsimp only;refine(wU f n (k+1) _ _ (by rw[List.length_eraseIdx_of_lt hl];left)).trans ?_;rw[Array.toList_push,List.append_assoc];exact List.Perm.append_left _ (nL l _ hl)
theorem yB{α:Type}(f:Nat->Nat)(xs:Array α):(pickOrder f xs).toList.Perm xs.toList:=by
 have:=wU f xs.size 0 xs.toList #[] (by simp);simpa [pickOrder]using this
theorem Fs(hb:vT w=true){a:Addr}{es:Array (Int×Value)}{i:Nat}{t:SetTable}(hS:uB s.heap a es ep t){Q:Option (Value×Nat)->Shared->Prop}(h:Q (((pickOrder (w.params.setOrder a ep) es)[i]?).map λe=>(e.2,0)) s):wpAny (model prog w) A (setNext a 0 i ep) Q E s:=by
 obtain⟨⟨o,ho,hex,hd⟩,hf⟩:=hS;unfold setNext;refine Z_ (aa3 ho hd hf ?_);dsimp only;refine Z_ (ml ?_);rw[hb,if_pos rfl,if_neg (by simp)];refine Z_ ?_;unfold setWalk;refine Z_ (aa3 ho hd hf ?_);dsimp only;refine Z_ (ml ?_);rw[hb,if_pos rfl];exact Z_ (wpAny_askSetting (aaa (aaa h)))
noncomputable def slotAt(xs:Array Nat):Nat->Nat
 |0=>0
 |i+1=>xs.getD i 0+1
theorem below_at{xs:Array Nat}(hr:iw xs):∀{i:Nat},i<=xs.size->SetTable.below xs (slotAt xs i)=i
 |0,_=>by
  obtain⟨_,h2,_⟩:=n_ hr 0;show SetTable.below xs 0=0;cases e:SetTable.below xs 0 with
  |zero=>rfl
  |succ k=>have:=h2 0 (by left);left
 |i+1,hi=>by
  obtain⟨h1,h2,h3⟩:=n_ hr (xs.getD i 0+1);show SetTable.below xs (xs.getD i 0+1)=i+1;generalize SetTable.below xs (xs.getD i 0+1)=r at *;rcases Nat.lt_trichotomy r (i+1)with c|c|c
  ·have:=h3 r (aah _) (by left);rcases abe (show r<=i by left)with d|d
   ·have:=hr r i d (by left);left
   ·rw[d]at this;left
  ·exact c
  ·have:=h2 (i+1) c;have:=hr i (i+1) (by left) (by left);left
theorem Ft(hb:vT w=false){a:Addr}{es:Array (Int×Value)}{i:Nat}{t:SetTable}(hS:uB s.heap a es ep t)(I:fw true t)(hp:(!t.plain&&decide (es.size>1))=false)(hi:i<=es.size){Q:Option (Value×Nat)->Shared->Prop}(h:Q ((es[i]?).map λe=>(e.2,slotAt t.place (i+1))) s):wpAny (model prog w) A (setNext a (slotAt t.place i) i ep) Q E s:=by
 obtain⟨⟨o,ho,hex,hd⟩,hf⟩:=hS;have fz:t.place.size=es.size:=by unfold SetTable.fits at hf;simp at hf;exact hf.1
 have hr:iw t.place:=by
  cases c:t.plain with
  |true=>exact I.rise c
  |false =>
   rw[c]at hp;simp at hp;intro x y h1 h2;left
 unfold setNext;refine Z_ (aa3 ho hd hf ?_);dsimp only;refine Z_ (ml ?_);rw[hb,if_neg (by simp)];refine aa0 (λc=>?_) λ_=>?_
 ·have c':(!t.plain&&decide (es.size>1))=true:=c;rw[hp]at c';cases c'
 ·refine Z_ ?_;show wpAny _ _ (if (!t.led&&!es.isEmpty)=true then _ else _) _ _ s;rw[if_neg (by rw[I.led];simp)];refine aaa ?_;rw[below_at hr (by left)];refine aaa ?_;by_cases c:i<es.size
  ·rw[Array.getElem?_eq_getElem c]at h ⊢;rw[Array.getElem?_eq_getElem (show i<t.place.size by left)];have e:slotAt t.place (i+1)=t.place[i]+1:=by
    show t.place.getD i 0+1=_;simp[show i<t.place.size by left]
   rw[e]at h;exact h
  ·rw[Array.getElem?_eq_none (by left)]at h ⊢;exact h
theorem uM{src:Source}{n:Nat}(hn:0<n){Q:Nat->Shared->Prop}(h:∀i,i<n->Q i { s with drawn:=s.drawn.bump src }):wpAny (model prog w) A (choose src n) Q E s:=λΓ p _=>by
 unfold choose;rw[Sem.wp_choose];exact⟨by left,h _ (Nat.mod_lt _ hn)⟩
theorem pM{α:Type}:∀(n:Nat) (xs:List α) (s:Shared) {Q:List α->Shared->Prop},xs.length=n->(∀out d,out.Perm xs->Q out { s with drawn:=d })->wpAny (model prog w) A (drawOrder n xs) Q E s
 |0,xs,s,Q,hn,h=>by
  obtain rfl:xs=[]:=List.length_eq_zero_iff.mp hn;rw[drawOrder];exact aaa (h [] s.drawn (abA _))
 |n+1,[],s,Q,hn,h=>by cases hn
 |n+1,x::xs,s,Q,hn,h=>by
  rw[drawOrder]
  ·refine Z_ (uM (by simp) λi hi=>?_);rw[List.getElem?_eq_getElem hi];dsimp only;refine Z_ (pM n _ _ (by rw[List.length_eraseIdx_of_lt hi];left) λout d p=>aaa (h _ d ?_));exact(List.Perm.cons _ p).trans (nL _ _ hi)
  ·intro e;cases e
variable {prog:aF}{w:World}{A:aG}{E:az}{s:Shared}
noncomputable abbrev PO(ord:List (Int×Value)):Nat->Value->Prop:=λi v=>(ord[i]?).map (·.2)=some v
theorem zX(hh:A.handled=none){a:Addr}(ne:a≠it){es:Array (Int×Value)}{t:SetTable}{ord:List (Int×Value)}(hl:ord.length=es.size)(sl:Nat->Nat)
  (hn:∀(s:Shared) (i:Nat),i<=es.size->uB s.heap a es ep t->∀(E:az) (Q':Option (Value×Nat)->Shared->Prop),Q' ((ord[i]?).map λe=>(e.2,sl (i+1))) s->wpAny (model prog w) A.in1 (setNext a (sl i) i ep) Q' E s) :
  Walks prog w A it [it,a] [it] es.size (PO ord) (λi h=>SI h it (.int (sl i) 0) i a es.size ep/\uB h a es ep t) where
 sub:=λb hb=>by rw[List.mem_singleton.mp hb];exact aae
 frame:=λi h h' st k=>⟨st.1.keep λo e=>k it aae o e,st.2.keep λo e=>k a (by simp) o e⟩
 item:=λi s Q E hi st hQ=>by
  have jD:i<ord.length:=by left
  refine Bt (x:=ord[i].2) (nx:=sl (i+1)) st.1 st.2 (λE Q' q=>hn s i (by left) st.2 E Q' (by rw[List.getElem?_eq_getElem jD];exact q)) λh' i1 x=>?_;exact hQ _ h' s.toks (by show(ord[i]?).map (·.2)=_;rw[List.getElem?_eq_getElem jD];rfl) ⟨i1,st.2.keep λo e=>x a o ne e⟩ λb o hb e=>x b o (λz=>hb (by rw[z];exact List.mem_singleton.mpr rfl)) e
 done:=λs Q E st hQ=>Gk hh st.1 st.2 (λE Q' q=>hn s _ (aah _) st.2 E Q' (by rw[List.getElem?_eq_none (by left)];exact q)) λh' x=>hQ h' s.toks λb o hb e=>x b o (λz=>hb (by rw[z];exact List.mem_singleton.mpr rfl)) e
 self:=λi s Q E st hQ=>wF st.1 hQ
theorem zY(hh:A.handled=none){a tp:Addr}(ne:a≠it)(nt:tp≠it){es:Array (Int×Value)}{t:SetTable}{pl:aM}(hp:pl.Perm (List.range es.size)):
  Walks prog w A it [it,a,tp] [it] es.size (PO (pl.map λj=>es.getD j (0,.none))) (λi h=>SI h it (.ref tp) i a es.size ep/\uB h a es ep t/\h.IsTuple tp (pl.map λj:Nat=>rawInt (j:Int)).toArray) where
 sub:=λb hb=>by rw[List.mem_singleton.mp hb];exact aae
 frame:=λi h h' st k=>⟨st.1.keep λo e=>k it aae o e,st.2.1.keep λo e=>k a (by simp) o e,let ⟨o,e,r⟩:=st.2.2;⟨o,k tp (by simp) o e,r⟩⟩
 item:=λi s Q E hi st hQ=>by
  have hl:pl.length=es.size:=by rw[hp.length_eq,List.length_range]
  have jD:i<pl.length:=by left
  have hj:pl[i]<es.size:=List.mem_range.mp (hp.mem_iff.mp (aaP jD));refine Bu (pl:=pl[i]) (tk:=0) (x:=es[pl[i]]) st.1 st.2.1 st.2.2 (by simp[jD,rawInt]) (aaM hj) λh' i1 x=>?_;exact hQ _ h' s.toks (by show((pl.map λj=>es.getD j (0,.none))[i]?).map (·.2)=_;rw[List.getElem?_map,List.getElem?_eq_getElem jD];simp[hj]) ⟨i1,st.2.1.keep λo e=>x a o ne e,let ⟨o,e,r⟩:=st.2.2;⟨o,x tp o nt e,r⟩⟩ λb o hb e=>x b o (λz=>hb (by rw[z];exact List.mem_singleton.mpr rfl)) e
 done:=λs Q E st hQ=>by
  have hl:pl.length=es.size:=by rw[hp.length_eq,List.length_range]
  exact Gm hh st.1 st.2.1 st.2.2 (by simp[hl]) λh' x=>hQ h' s.toks λb o hb e=>x b o (λz=>hb (by rw[z];exact List.mem_singleton.mpr rfl)) e
 self:=λi s Q E st hQ=>wF st.1 hQ
structure uC(s s':Shared):Prop where
 heap:∀b o,s.heap.get? b=some o->s'.heap.get? b=some o
 gens:s'.gens=s.gens
 os:s'.os=s.os
 toks:s.toks<=s'.toks
 size:s.heap.objs.size<=s'.heap.objs.size
theorem BO(hh:A.handled=none){a:Addr}{es:Array (Int×Value)}{t:SetTable}(hS:uB s.heap a es ep t)(I:fw (!vT w) t)(hz:es.size<scanBound) 
  (h:∀(it:Addr) (s1:Shared) (fp:aZ) (ord:List (Int×Value)) (St:Nat->Heap->Prop),Walks prog w A it fp [it] es.size (PO ord) St->St 0 s1.heap->(∀b∈fp,b=a\/s.heap.objs.size<=b)->(∀b∈fp,b<s1.heap.objs.size)->ord.Perm es.toList->uC s s1->s.heap.objs.size<=it->Q (.ref it) s1):wpAny (model prog w) A (pyIter (.ref a)) Q E s:=by
 obtain⟨⟨o,ho,hex,hd⟩,hf⟩:=id hS;have hT:s.TypeIs (.ref a) "set":=⟨o,ho,hex.1⟩
 have al:=aag ho;refine ach hT F.slot_set_iter (aau F.slot_set_iter hT Gp ?_ (F.args_set_iter_1 _));unfold Builtin.«frozenset.__iter__»;refine Z_ (show wpAny _ _ (Builtin.Frozenset.addrOf (.ref a)) _ _ s from aaa ?_);refine Z_ ?_;unfold Builtin.Frozenset.sizeOf;refine Z_ (aa9 ho hd hf (aaa ?_));refine Z_ ?_;unfold setDrawn;refine Z_ (aa3 ho hd hf ?_);dsimp only;refine Z_ (ml (aaa ?_));show wpAny _ _ (if (!vT w&&(!t.plain&&decide (es.size>1)))=true then _ else _) _ _ s;by_cases c:(!vT w&&(!t.plain&&decide (es.size>1)))=true
 ·rw[if_pos c];refine Z_ (pM _ _ s (by simp) λpl d hp=>?_);have Z3:({ s with drawn:=d }:Shared).heap.get? a=some o:=ho;refine Z_ ?_;simp only[newTuple];refine aav ?_ (by
   show(pl.map λi:Nat=>rawInt (i:Int)).toArray.size<=_;have:=hp.length_eq;simp at this;rw[List.size_toArray,List.length_map,this,sizeLine_eq];unfold scanBound at hz;omega)
  have zH:=aac { cls:=.type "tuple",data:=.seq (pl.map λi:Nat=>rawInt (i:Int)).toArray } ho;refine Z_ (wpAny_setEpoch_of zH hd hf ?_);refine Z_ ?_;unfold newFields;refine aav (aaa ⟨_,rfl,"set_iterator",_,⟨_,aaj _ rfl,rfl⟩,dS.lookup,?_⟩);have z1:∀ob:Obj,(s.heap.push ob).objs.size=s.heap.objs.size+1:=λ_=>aby ..;refine h _ _ [(s.heap.push { cls:=.type "tuple",data:=.seq (pl.map λi:Nat=>rawInt (i:Int)).toArray }).objs.size,a,s.heap.objs.size] (pl.map λj=>es.getD j (0,.none)) _ (zY (t:=t) (ep:=ep) hh (by rw[z1];exact aai (aap al)) (by rw[z1];exact aai (aaL _)) hp) ⟨⟨_,aaj _ rfl,rfl,rfl⟩,hS.keep λo e=>aac _ (aac _ e),⟨_,aac _ (aaj _ rfl),rfl,0,rfl⟩⟩ (λb hb=>?_) (λb hb=>?_) ?_ ⟨λb o e=>aac _ (aac _ e),rfl,rfl,aah _,by show _<=(Heap.push _ _).objs.size;rw[Heap.size_push,z1];exact abD (aaS _)⟩ (by rw[z1];exact aaS _)
  ·simp only[List.mem_cons,List.not_mem_nil,or_false]at hb;rcases hb with e|e|e
   ·rw[e,z1];exact .inr (aaS _)
   ·exact .inl e
   ·rw[e];exact .inr (aah _)
  ·show b<(Heap.push _ _).objs.size;rw[Heap.size_push,z1];simp only[List.mem_cons,List.not_mem_nil,or_false]at hb;rcases hb with e|e|e
   ·rw[e,z1];exact aaL _
   ·rw[e];exact aap (aap al)
   ·rw[e];exact aap (aaL _)
  ·refine(hp.map _).trans ?_;have:(List.range es.size).map (λj=>es.getD j (0,.none))=es.toList:=by
    refine abp (by simp) λi h1 h2=>?_;simp at h1;simp[h1]
   rw[this]
 ·rw[if_neg c];refine Z_ (aaa (Z_ (wpAny_setEpoch_of ho hd hf (Z_ ?_))));unfold newFields;refine aav (aaa ⟨_,rfl,"set_iterator",_,⟨_,aaj _ rfl,rfl⟩,dS.lookup,?_⟩);have fin:∀(ord:List (Int×Value)) (sl:Nat->Nat),sl 0=0->ord.Perm es.toList->(∀(s:Shared) (i:Nat),i<=es.size->uB s.heap a es ep t->∀(E:az) (Q':Option (Value×Nat)->Shared->Prop),Q' ((ord[i]?).map λe=>(e.2,sl (i+1))) s->wpAny (model prog w) A.in1 (setNext a (sl i) i ep) Q' E s)->Q (.ref s.heap.objs.size) { s with heap:=s.heap.push { cls:=.type "set_iterator",data:=.fields #[rawInt 0,rawInt 0,.ref a,rawInt es.size,rawInt ep] } }:=λord sl s0 p hn=>by
   refine h _ _ [s.heap.objs.size,a] ord _ (zX (t:=t) (ep:=ep) hh (aai al) (by simpa using p.length_eq) sl hn) ⟨⟨_,aaj _ rfl,rfl,by rw[s0];rfl⟩,hS.keep λo e=>aac _ e⟩ (λb hb=>?_) (λb hb=>?_) p ⟨λb o e=>aac _ e,rfl,rfl,aah _,by show _<=(Heap.push _ _).objs.size;rw[Heap.size_push];exact aaS _⟩ (aah _)
   ·simp only[List.mem_cons,List.not_mem_nil,or_false]at hb;rcases hb with e|e
    ·rw[e];exact .inr (aah _)
    ·exact .inl e
   ·show b<(Heap.push _ _).objs.size;rw[Heap.size_push];simp only[List.mem_cons,List.not_mem_nil,or_false]at hb;rcases hb with e|e
    ·rw[e];exact aaL _
    ·rw[e];exact aap al
  cases hb:vT w with
  |true=>exact fin (pickOrder (w.params.setOrder a ep) es).toList (λ_=>0) rfl (yB _ _) λs i _ hS E Q' q=>Fs hb hS (by rw[<- Array.getElem?_toList];exact q)
  |false =>
   rw[hb]at c I;have c':(!t.plain&&decide (es.size>1))=false:=by simpa using c
   exact fin es.toList (slotAt t.place) rfl (abA _) λs i hi hS E Q' q=>Ft hb hS I c' hi (by rw[<- Array.getElem?_toList];exact q)
theorem Ca{a:Addr}{Q:Bool->Shared->Prop}(hT:s.TypeIs (.ref a) "set")(h:Q false s):wpAny (model prog w) A (Builtin.List.listLengthHint (.ref a)) Q E s:=by
 unfold Builtin.List.listLengthHint;refine Z_ (wpAny_specialOf hT F.slot_set_len.lookup ?_);generalize OQ:("set.__len__" : String)=id0
 wp_delta
 rw[show splitId id0=some ("set","__len__") from by subst OQ;decide +kernel];subst OQ;refine Z_ (abM (T:="set") (b:=true) hT sub_set_self ?_);refine aa0 (λz=>absurd z (by decide)) (λ_=>aa0 (λ_=>?_) λz=>absurd (by decide +kernel) z);exact Z_ (abl hT (aaa h))
variable {prog:aF}{w:World}{A:aG}{E:az}{s:Shared}
theorem BP{ord:List (Int×Value)}{acc:aR}{n:Nat}(hn:ord.length=n)(h:ItemsOf (PO ord) acc n):acc.toList=ord.map (·.2):=by
 obtain⟨h1,h2⟩:=h;refine acg λi=>?_;rw[Array.getElem?_toList,List.getElem?_map];by_cases c:i<acc.size
 ·rw[Array.getElem?_eq_getElem c];exact(h2 i _ (aaM c)).symm
 ·rw[Array.getElem?_eq_none (by left),List.getElem?_eq_none (by left)];rfl
theorem ui(hh:A.handled=none){a:Addr}{es:Array (Int×Value)}{t:SetTable}(hS:uB s.heap a es ep t)(I:fw (!vT w) t)(hz:es.size<scanBound){Q:aq->Shared->Prop}(h:∀(ord:List (Int×Value)) (s':Shared),ord.Perm es.toList->uC s s'->Q (ord.map (·.2)) s'):wpAny (model prog w) A (collect (.ref a)) Q E s:=by
 obtain⟨⟨o,ho,hex,hd⟩,hf⟩:=id hS;have al:=aag ho;have zl:es.size<=sizeLine:=by rw[sizeLine_eq];unfold scanBound at hz;omega
 unfold collect;refine Z_ (ab4 (aaJ F.entry_proto_collect ?_));rw[Around.under_plainId F.plain_proto_collect _];refine(show wpAny _ A.in1 (newList [] >>= λl=>again (.builtin "list.__iadd__" ⟨[l,.ref a],[]⟩)) _ _ s from Z_ (aav (aaa ⟨aa_ F.plain_list_iadd _,aaJ F.entry_list_iadd ?_⟩)));rw[Around.under_plainId F.plain_list_iadd _]
 let lo:Obj:={ cls:=.type "list",data:=.seq ([]:aq).toArray }
 have g0:(s.heap.push lo).get? s.heap.objs.size=some lo:=aaj _ rfl;have S1:uB (s.heap.push lo) a es ep t:=hS.keep λo e=>aac _ e;have T1:Shared.TypeIs { s with heap:=s.heap.push lo } (.ref a) "set":=⟨o,aac _ ho,hex.1⟩
 show wpAny _ A.in1 (Builtin.List.listExtendWith (.ref s.heap.objs.size) (.ref a) (.ref s.heap.objs.size)) _ _ ({ s with heap:=s.heap.push lo }:Shared);unfold Builtin.List.listExtendWith;refine Z_ (abl T1 ?_);have h1:Builtin.List.listSameRef (.ref s.heap.objs.size) (.ref a)=false:=by
  simp[Builtin.List.listSameRef];exact aaq al
 have h2:(Value.type "set" == Value.type "list")=false:=by decide
 have h3:(Value.type "set" == Value.type "tuple")=false:=by decide
 simp only[h1,h2,h3,Bool.or_false,Bool.false_eq_true,if_false];refine Z_ (BO (s:={ s with heap:=s.heap.push lo }) (show A.in1.handled=none from hh) S1 I hz λit s2 fp ord St W st fa fl p G il=>?_);have lz:(s.heap.push lo).objs.size=s.heap.objs.size+1:=aby ..;have nf:s.heap.objs.size∉fp:=λz=>by
  rcases fa _ z with e|e
  ·exact aaq al e
  ·rw[show({ s with heap:=s.heap.push lo }:Shared).heap.objs.size=s.heap.objs.size+1 from lz]at e;exact absurd e (Nat.not_succ_le_self _)
 have g2:s2.heap.get? s.heap.objs.size=some lo:=G.heap _ _ g0;have T2:s2.TypeIs (.ref a) "set":=⟨o,G.heap _ _ (aac _ ho),hex.1⟩
 refine Z_ (aax (Ca T2 ?_));have Yp:ord.length=es.size:=by simpa using p.length_eq
 have key:∀(R:Result->Shared->Prop) (h':Heap) (c:Nat),(∀b o,b≠s.heap.objs.size->s2.heap.get? b=some o->h'.get? b=some o)->h'.get? s.heap.objs.size=some { cls:=.type "list",data:=.seq #[] c } ->
   (∀s' c',uC s s'->s'.heap.get? s.heap.objs.size=some { cls:=.type "list",dict:=none,data:=.seq (ord.map (·.2)).toArray c',slots:=#[] }->R (.ok (.ret (.ref s.heap.objs.size))) s') ->
   codeAny (model prog w) A (.builtin "list.extend.loop" ⟨[.ref s.heap.objs.size,.ref it,.ref s.heap.objs.size],[]⟩) R { s2 with heap:=h' }:=λR h' c hk hc hR=>by
  refine codeAny_extend_loopS W.toS zl s.heap.objs.size nf (.ref s.heap.objs.size) es.size 0 _ #[] c (by left) (aaH _) (W.frame 0 _ _ st λb hb o e=>hk b o (λz=>nf (z▸hb)) e) hc (ItemsOf.nil _) λs' acc c' m e ia=>?_;have ea:=BP Yp ia;refine hR s' c' ⟨λb o hb=>?_,m.gens.trans G.gens,m.os.trans G.os,aao G.toks m.toks,abR (aag e)⟩ (by rw[<- ea];simpa using e);have hl:=aag hb;refine m.heap b o (λz=>?_) (hk b o (aai hl) (G.heap b o (aac _ hb)));rcases List.mem_cons.mp z with z|z
  ·exact aai hl z
  ·rw[List.mem_singleton.mp z]at hl;have V9:(s.heap.push lo).objs.size<=it:=il;rw[lz]at V9;exact absurd (aak hl (aao (aaS _) V9)) (aaw _)
 have fin:∀s' c',uC s s'->s'.heap.get? s.heap.objs.size=some { cls:=.type "list",dict:=none,data:=.seq (ord.map (·.2)).toArray c',slots:=#[] }->wpAny (model prog w) A (load s.heap.objs.size >>= λo=>match o.data with
   |.seq xs _=>pure xs.toList
   |_=>unsupported "internal:collect") Q E s':=λs' c' g e=>Z_ (wpAny_load e (aaa (by simpa using h ord s' p g)))
 refine aa0 (λ_=>?_) λ_=>aaa ⟨aa_ F.plain_extend_loop _,key _ _ 0 (λb o _ e=>e) g2 fin⟩;refine Z_ (abx (Z_ ?_));show wpAny _ _ (updateSeq s.heap.objs.size (·.push .none) >>= λ_=>updateSeq s.heap.objs.size (·.pop)) _ _ _;refine Z_ (abd g2 rfl ?_);have g3:=aaC (Obj.mapSeq (·.push Value.none)) g2 rfl;refine abd (hz:=by seq_fits) g3 rfl ?_;have g4:=aaC (Obj.mapSeq (·.pop)) g3 rfl;refine aaa ⟨aa_ F.plain_extend_loop _,key _ _ _ (λb o hb e=>?_) g4 fin⟩;exact(aaE _ _ (abj hb)).trans ((aaE _ _ (abj hb)).trans e)
theorem uW(hh:A.handled=none){a:Addr}{es:Array (Int×Value)}{t:SetTable}(hS:uB s.heap a es ep t)(I:fw (!vT w) t)(hz:es.size<64){ks:aa}(hk:IntsAre (es.toList.map (·.2)) ks) 
  (h:∀(l:Addr) (s':Shared) (out:aq) (ns:aa) (c:Nat),uC s s'->s.heap.objs.size<=l->s'.heap.get? l=some (seqObj "list" out.toArray c)->IntsAre out ns->ns.Perm ks->ns.Pairwise (· <= ·)->Q (.ref l) s'):wpAny (model prog w) A (call (.builtin "sorted") [.ref a]) Q E s:=by
 refine abr kind_sorted plain_sorted entry_sorted (args_sorted1 _) ?_;unfold Builtin.«sorted»;refine Z_ (m:=checkCount "sorted" 1 1 _) (aaa (Z_ (ui (A:=A.in1) hh hS I (by unfold scanBound;left) λord s1 p G=>?_)));have ol:ord.length=es.size:=by simpa using p.length_eq
 have TF:(ord.map (·.2)).length<64:=by rw[List.length_map,ol];exact hz
 refine Z_ (abK ?_ (by rw[sizeLine_eq];left));obtain⟨Sz,i1,p1⟩:∃Sz,IntsAre (ord.map (·.2)) Sz/\Sz.Perm ks:=by
  have key:∀{xs ys:aq},xs.Perm ys->∀{ms:aa},IntsAre ys ms->∃ns,IntsAre xs ns/\ns.Perm ms:=λ{xs ys} q=>by
   induction q with
   |nil=>intro ms hm;exact⟨ms,hm,abA _⟩
   |cons x _ ih =>
    intro ms hm;cases hm with
    |cons k tk hm =>
     obtain⟨ns,n1,n2⟩:=ih hm;exact⟨_,.cons k tk n1,List.Perm.cons _ n2⟩
   |swap x y l =>
    intro ms hm;cases hm with
    |cons k tk hm=>cases hm with
     |cons k' MG hm=>exact⟨_,.cons k' MG (.cons k tk hm),List.Perm.swap _ _ _⟩
   |trans _ _ ih1 ih2 =>
    intro ms hm;obtain⟨n2,b1,b2⟩:=ih2 hm;obtain⟨n1,c1,c2⟩:=ih1 b1;exact⟨n1,c1,c2.trans b2⟩
  exact key (p.map _) hk
 have g1:(s1.heap.push (seqObj "list" (ord.map (·.2)).toArray 0)).get? s1.heap.objs.size=some (seqObj "list" (ord.map (·.2)).toArray 0):=aaj _ rfl;have up:s.heap.objs.size<=s1.heap.objs.size:=G.size;show wpAny _ _ _ _ _ ({ s1 with heap:=s1.heap.push (seqObj "list" (ord.map (·.2)).toArray 0) }:Shared);refine Z_ (aax (aau slot_list_sort ⟨_,g1,rfl⟩ entry_list_sort (list_sort_tree g1 i1 TF λout ic a1 a2 a3=>⟨_,rfl,aaa ⟨_,rfl,?_⟩⟩) (args_list_sort _)));obtain⟨c,e⟩:=sortedHeap_at g1 (out:=out);refine h s1.heap.objs.size _ out.toList ic c ⟨λb o hb=>?_,G.gens,G.os,G.toks,abR (aaz up (aag e))⟩ up (by simpa using e) a1 (a2.trans p1) a3;have hl:=aag (G.heap b o hb);refine(sortedHeap_old (aai hl) (by rw[Heap.size_push];exact aap hl)).trans (aac _ (G.heap b o hb))
end SX
end
section
namespace DI
open PySem PySem.Spec PyProof.Rows L2
def LM(xs:ab):O D:=match one xs with
 |some x=>match x with
  |.lst _ ds=>match intsOf ds with
   |some ns=>if ns.length<64 then ok (.lst .ow ((sortI (eB ns)).map D.int))else none
   |none=>none
  |_=>none
 |none=>none
variable {xs:ab}
theorem IP{d:D}(h:LM xs=ok d):∃(f:Fl) (ns:aa),xs=[.lst f (ns.map D.int)]/\ns.length<64/\d=.lst .ow ((sortI (eB ns)).map D.int):=by
 unfold LM at h;cases hw:one xs with
 |none=>rw[hw]at h;exact nk h
 |some x =>
  obtain rfl:=ck hw;rw[hw]at h;cases x<;>first|exact nk h | (cases h;done)|skip
  rename_i f ds;have h:(match intsOf ds with|some ns=>if ns.length<64 then ok (D.lst .ow ((sortI (eB ns)).map D.int))else none|none=>none)=ok d:=h;cases hn:intsOf ds with
  |none=>rw[hn]at h;exact nk h
  |some ns =>
   rw[hn]at h;obtain⟨h1,h2⟩:=pz h;cases cJ hn;exact⟨f,ns,rfl,h1,h2.symm⟩
theorem m5:∀{a b:aa},a.Nodup->(∀x∈a,x∈b)->b.length=a.length->b.Perm a
 |[],b,_,_,hl=>by rw[List.length_eq_zero_iff.mp hl]
 |x::a,b,hn,hm,hl=>by
  obtain⟨n1,n2⟩:=List.nodup_cons.mp hn;have hx:=hm x aae;refine(List.perm_cons_erase hx).trans (List.Perm.cons x (m5 n2 (λy hy=>?_) ?_))
  ·exact(List.mem_erase_of_ne λz:y=x=>n1 (z▸hy)).mpr (hm y (aaf _ hy))
  ·rw[List.length_erase_of_mem hx,hl];rfl
theorem uV{σ:aa}{v:Int}(h:σ.Nodup):(step_dedup σ v).Nodup:=by
 unfold step_dedup;split
 ·exact h
 ·rename_i c;refine List.nodup_append.mpr ⟨h,by simp,λa ha b hb z=>?_⟩;rw[List.mem_singleton.mp hb]at z;subst z;exact c (List.any_eq_true.mpr ⟨a,ha,by simp⟩)
theorem lH(f:Nat->Int):∀n,(firstMet f n).Nodup
 |0=>by rw[firstMet_zero];exact aaQ
 |n+1=>by rw[firstMet_succ];exact uV (lH f n)
theorem nQ{prog:aF}{w:World}:∀{l:List (Int×Value)},ElemsOf (intKind prog w) l->∃ks:aa,IntsAre (l.map (·.2)) ks/\∀k,k∈ks ↔ ∃e∈l,(intKind prog w).is k e.2=true
 |[],_=>⟨[],.nil,λk=>by simp⟩
 |e::l,h=>by
  obtain⟨ks,i1,i2⟩:=nQ (l:=l) h.tail;obtain⟨⟨k,hk,_⟩,_⟩:=h.head;obtain⟨h0,v⟩:=e;have hv:∃t,v=.int k t:=Value.isInt_shape (show Value.isInt k v=true from hk);obtain⟨t,rfl⟩:=hv;refine⟨k::ks,.cons k t i1,λj=>?_⟩;rw[List.mem_cons,i2];constructor
  ·rintro (rfl|⟨e,he,p⟩)
   ·exact⟨_,aae,intKind_is _ _ _ _⟩
   ·exact⟨e,aaf _ he,p⟩
  ·rintro ⟨e,he,p⟩;rcases List.mem_cons.mp he with rfl|he
   ·exact .inl ((intKind prog w).inj _ _ _ p (intKind_is _ _ _ _))
   ·exact .inr ⟨e,he,p⟩
variable {X:Cx}
theorem Inv.Zt{pins:ak}{σ:St}{H:Hp}{s s':Shared}(I:Inv X pins σ H s)(hh:s'.heap=s.heap)(ho:s'.os=s.os)(hg:s'.gens=s.gens):Inv X pins σ H s' :=
 ⟨I.ok,ho.trans I.os,by rw[hg];exact I.bare,by rw[hh];exact I.base,by rw[hh];exact I.loc,by rw[hh];exact I.cell,I.free,I.iR,by rw[hh];exact I.pin,by rw[hh];exact I.du,I.len⟩
def XQ(K:ao):af->Hp->VK->Prop:=λxs H Q=>∃(p:Addr) (ns:aa),xs=[.ref p]/\dq K H p (ns.map V.int)/\ns.length<64/\∀l,H l=none->Q (.ref l) (upd H l (.lst ((sortI (eB ns)).map V.int)))
theorem rF:bootBuiltins ("sorted" : Str)=some (.builtin "sorted"):=by decide +kernel
variable {pos:Pos}
theorem Nz{e:Expr}{t:TA}{p p' pos':Pos}(hc:X.calm=true)(OT:Gl X ("sorted" : Str))(Tx:X.mg ("sorted" : Str)=none)(TK:Gl X ("set" : Str))(OL:X.mg ("set" : Str)=none)(ha:PA X [e] t)
  (oy:∀es,starEach (e::es) X.env=(false,eval e X.env)::starEach es X.env):PE X (.Call (.Name ("sorted" : Str) p) [.Call (.Name ("set" : Str) p') [e] [] pos'] [] pos) (LL (XQ X.K) t):=by
 intro pins s σ H Q I h;refine aaK (dW I OT Tx rF ?_ (by decide) (by decide));refine abb ?_ rfl rfl;show wpAny _ _ (spliced ((false,eval (.Call (.Name ("set" : Str) p') [e] [] pos') X.env)::[])) _ _ s;refine aba ?_;refine aaK (dW I TK OL boot_set ?_ (by decide) (by decide));refine aat (dv (ha pos' pins s σ H _ I h) λus s1 bP=>?_) (oy _) rfl;obtain⟨vs,H1,I1,r1,q1⟩:=bP;obtain⟨a,ns,rfl,hq,hl,q⟩:=q1;obtain⟨u,rfl,ru⟩:=r1.one;cases ru;obtain⟨aL,rv,pl,hz⟩:=I1.list hq;have hle:aL.length=ns.length:=by rw[<- rv.length];simp
 refine SX.set_list (I1.ok.hd hc) (cI pl) (ns:=ns) (di rv) (by unfold scanBound;left) λh' tk hS kp=>abi ?_;change SX.lZ X.prog X.w (!SX.vT X.w) h' s1.heap.objs.size (λz=>(dist ns).any (· == z)) (dist ns).length at hS;obtain⟨o,es,ep,tb,g1,g2,g3,g4,g5,g6,g7,g8,g9⟩:=hS;obtain⟨ks,k1,k2⟩:=nQ g4;have dl:(dist ns).length<=ns.length:=firstMet_length_le _ _;have I2:Inv X pins σ H1 { s1 with heap:=h',toks:=tk }:=I1.kept (t':=tk) λb u z=>kp b u (aag z) z;have kl:ks.length=es.size:=by have:=k1.length;simp at this;left
 have X6:ks.Perm (dist ns):=m5 (lH _ _) (λx hx=>(k2 x).mpr ((g5 x).mp (List.any_eq_true.mpr ⟨x,hx,by simp⟩))) (by left);refine SX.uW (s:={ s1 with heap:=h',toks:=tk }) (I1.ok.hd hc) ⟨⟨o,g1,g2,g3⟩,g7⟩ g9 (by left) k1 λl s' out ic c G jC e1 i1 p1 p2=>?_;have en:ic=sortI (eB ns):=by
  refine PySem.W.ksm_same ((p1.trans X6).trans ?_) p2 (mQ _);rw[nU];exact(sortI_perm _).symm
 subst en;have hn:H1 l=none:=I2.du.fresh jC;have L:=I2.laid (t':=s'.toks) (h':=s'.heap) (a:=l) (o:=.lst ((sortI (eB ns)).map V.int)) G.heap jC ⟨by
  have:=(sortI_perm (eB ns)).length_eq;rw[List.length_map,this,<- nU,sizeLine_eq];left,out,c,i4 i1,e1⟩
 exact⟨.ref l,_,Inv.Zt L rfl G.os G.gens,rfl,q l hn⟩
variable {F:Addr->Prop}{args:aj}{cs:aE}{Φ:aY}
theorem MW{n:Nat}(hΦ:Φ n=LM){sc:Scope}{bl:ai}{k:Nat}(L:PX X sc bl k){e:Expr}(he:xX ("sorted" : Str) ("set" : Str) sc bl e=some args)(hs:lN X F Φ cs args):PE X e (tD X F Φ (.bO n cs))/\PT X e (fA X F Φ (.bO n cs)):=by
 obtain⟨p,pos,p',pos',a,rfl,rfl,h1,h2,h3,h4⟩:=Dh he;obtain⟨pa,s1⟩:=wY hs;cases cs with
 |nil=>exact hs.elim
 |cons c cs=>cases cs with
  |cons _ _=>exact hs.2.2.2.elim
  |nil =>
   have this:PE X (.Call (.Name ("sorted" : Str) p) [.Call (.Name ("set" : Str) p') [a] [] pos'] [] pos) (tD X F Φ (.bO n [c])):=by
    refine PE.imp (Nz L.calm (L.gl h1) (L.bl _ h2) (L.gl h3) (L.bl _ h4) pa s1) λσ H Q hq=>?_;obtain⟨R,τ,ρ,d,Si,ev,hq⟩:=hq;obtain⟨xs,cp,ev⟩:=aB ev;rw[hΦ]at ev;obtain⟨f,ns,rfl,hl,rfl⟩:=IP ev;refine⟨R,τ,ρ,_,Si,cp,λvs H1 e1 r1=>?_⟩;obtain⟨τt,fr,rs⟩:=r1;obtain⟨v,rfl,rv⟩:=rs.one;cases rv with
    |lst h r =>
     cases r.ofInts;refine⟨_,ns,rfl,h.sq,hl,λl hn=>hq _ _ (e1.trans (aI.upd hn)) (bR.oN (e1.free hn) (e1.trans (aI.upd hn)) (bg ..) ?_)⟩;exact jd (k:=[]) (sortI (eB ns)) (n:=0)
   exact⟨this,cv this λ_=>rfl⟩
variable {ms ns:aa}{vs ws:aq}
section
open PySem.SeqAt
open PySem.AutoSeq1 (wpAny_loadPart')
open PySem.MeetsSeq PySem.MeetsSeq2 PySem.MeetsSeq3
theorem AX(A:aG)(s:Shared)(a:Int)(t:Tok)(c:Int)(u:Tok)(prog:aF)(w:World)(E:az)(Q:az)(h:Q (.bool (decide (a ≥ c))) s):wpAny (model prog w) A (richCompare .GtE (.int a t) (.int c u)) Q E s :=
 (PyProof.Rows.ge_int h:wpAny (model prog w) A (compareOp .GtE (.int a t) (.int c u)) Q E s)
theorem FF{m n:Nat}(h1:IntsAre vs ns)(h2:IntsAre ws ms)(hz:vs.zip ws=[])(hl:ns.length+n=ms.length+m):(!HT.lexLt ns ms)=decide (m ≥ n):=by
 cases h1 with
 |nil=>cases h2 with
  |nil=>simp only[List.length_nil]at hl;exact(aar (by left)).symm
  |cons c u h=>simp only[List.length_nil,List.length_cons]at hl;exact(abc (by left)).symm
 |cons a t h=>cases h2 with
  |nil=>simp only[List.length_nil,List.length_cons]at hl;exact(aar (by left)).symm
  |cons c u h=>rw[List.zip_cons_cons]at hz;cases hz
theorem oE(l b:Addr)(items b_:aR)(n n2:Nat)(dd rX:Option Addr)(sl rR:Array (Option Value))(ns ms:aa)(hi:IntsAre items.toList ns)(hj:IntsAre b_.toList ms):
  Meets (Builtin.«tuple.__ge__» ⟨[.ref l,.ref b],[]⟩) (λ_ R s=>s.heap.get? l=some { cls:=.type "tuple",dict:=dd,data:=.seq items n,slots:=sl }/\s.heap.get? b=some { cls:=.type "tuple",dict:=rX,data:=.seq b_ n2,slots:=rR }/\R (.ok (.ret (.bool (!HT.lexLt ns ms)))) s) :=
 .of_wp λprog w A R s h=>by
  obtain⟨hp,g,d,tk,os⟩:=s;obtain⟨hl,hb,h⟩:=h;have f2:=abv;have z1:items.size=ns.length:=by rw[<- hi.length];simp
  have z2:b_.size=ms.length:=by rw[<- hj.length];simp
  wp_walk using wpAny_loadPart' hl,wpAny_loadPart' hb,wpAny_forIn_list _ (λrest b s'=>b.1=none/\s'=⟨hp,g,d,tk,os⟩/\∃(vs ws:aq) (ic rS:aa),rest=vs.zip ws/\IntsAre vs ic/\IntsAre ws rS/\ic.length+b_.size=rS.length+items.size/\R (.ok (.ret (.bool (!HT.lexLt ic rS)))) ⟨hp,g,d,tk,os⟩) _
  case turn =>
   rintro ⟨y,x⟩ rest b s' ⟨lV,rfl,vs,ws,ic,rS,hz,B3,zG,hlen,hR⟩;cases B3 with
   |nil=>rw[List.zip_nil_left]at hz;cases hz
   |cons a t hvi'=>cases zG with
    |nil=>rw[List.zip_nil_right]at hz;cases hz
    |cons c u hwi' =>
     rw[List.zip_cons_cons]at hz;injection hz with Ot tQ
     injection Ot with hy hx
     subst hy hx;rw[HT.cZ]at hR;simp only[List.length_cons]at hlen;obtain⟨e,he,tR⟩:=HT.nP A.in1 ⟨hp,g,d,tk,os⟩ a t c u;refine Z_ (he prog w _ _ ?_);cases e with
     |true =>
      rw[if_pos (tR.mp rfl)]at hR
      wp_walk
      exact⟨rfl,rfl,_,_,_,_,tQ,hvi',hwi',by left,hR⟩
     |false =>
      have xp:¬ a=c:=λq=>absurd (tR.mpr q) aad;rw[if_neg xp,show(!decide (a<c))=decide (a ≥ c) by by_cases q:a<c<;>simp[q]<;>left]at hR;have OA:=AX A.in1 ⟨hp,g,d,tk,os⟩ a t c u prog w
      wp_walk using OA
      exact⟨_,rfl,by simpa using hR⟩
  case fin =>
   rintro ⟨b1,b2⟩ s' ⟨lV,rfl,vs,ws,ic,rS,hz,B3,zG,hlen,hR⟩;simp only at lV;subst lV;rw[FF B3 zG hz.symm hlen]at hR
   wp_walk
   exact⟨_,rfl,by simpa [Builtin.Tuple.tupleCompareSizes]using hR⟩
  case h=>exact⟨rfl,rfl,items.toList,b_.toList,ns,ms,rfl,hi,hj,by left,h⟩
end
def Nn(K:ao):R2:=λx y H Q=>∃a b ns ms,x=.ref a/\y=.ref b/\aX K H a (ns.map V.int)/\aX K H b (ms.map V.int)/\Q (.bl (!HT.lexLt ns ms)) H
theorem Bh(hu:X.A.units<cLine):kD X (compareOp .GtE) (Nn X.K):=by
 intro pins s σ H x y v u Q I rx ry h;obtain⟨a,b,ns,ms,rfl,rfl,ha,hb,q⟩:=h;cases rx;cases ry;obtain⟨aL,r1,⟨⟨cls,dd,data,sl⟩,ho,hc,n,hd⟩,_⟩:=I.tuple ha;obtain⟨qK,r2,⟨⟨C4,rX,data2,rR⟩,oz,hc2,n2,hd2⟩,_⟩:=I.tuple hb;simp only at hc hd hc2 hd2;subst hc hd hc2 hd2;exact abE (op:=.GtE) ⟨_,ho,rfl⟩ ⟨_,oz,rfl⟩ PySem.F.slot_tuple_ge PySem.F.entry_tuple_ge (PySem.F.args_tuple_ge_2 _ _) (oE a b aL.toArray qK.toArray n n2 dd rX sl rR ns ms (intsAre_of r1) (intsAre_of r2))
  ⟨ho,oz,show Value.bool (!HT.lexLt ns ms)≠Value.notImplemented/\EP X pins σ Q (.bool (!HT.lexLt ns ms)) s from⟨(λx=>nomatch x),⟨.bl _,H,I,rfl,q⟩⟩⟩ hu
def Mb(xs:ab):O D:=match two xs with
 |some z=>match z.1 with
  |.tup a=>match z.2 with
   |.tup b=>match intsOf a with
    |some ns=>match intsOf b with
     |some ms=>ok (.bl (!HT.lexLt ns ms))
     |none=>none
    |none=>none
   |_=>none
  |_=>none
 |none=>none
set_option tactic.hygienic true in
theorem KH{x y d:D}(h:Mb [x,y]=ok d):∃ns ms:aa,x=.tup (ns.map D.int)/\y=.tup (ms.map D.int)/\d=.bl (!HT.lexLt ns ms):=by
 cases x<;>first|exact nk h | (cases h;done) | (cases y<;>first|exact nk h | (cases h;done)|skip)
 rename_i a b;have h:(match intsOf a with|some ns=>(match intsOf b with|some ms=>ok (D.bl (!HT.lexLt ns ms))|none=>none)|none=>none)=ok d:=h;cases h1:intsOf a with
 |none=>rw[h1]at h;exact nk h
 |some ns=>cases h2:intsOf b with
  |none=>rw[h1,h2]at h;cases h
  |some ms =>
   rw[h1,h2]at h;cases h;exact⟨ns,ms,by rw[cJ h1],by rw[cJ h2],rfl⟩
def Dg(_:Scope)(_:ai)(e:Expr):Option (aj):=(D9 e).bind λz=>(one z.2.2).bind λr=>if z.2.1=[.GtE]then some [z.1,r]else none
theorem De{sc:Scope}{bl:ai}{e:Expr}(h:Dg sc bl e=some args):∃l r p,e=.Compare l [.GtE] [r] p/\args=[l,r]:=by
 obtain⟨⟨l,os,rs⟩,hv,h⟩:=bT h;obtain⟨r,hw,h⟩:=bT h;obtain⟨hc,h⟩:=gT h;cases h;obtain rfl:=hc;obtain⟨p,rfl⟩:=p8 hv;obtain rfl:=ck hw;exact⟨l,r,p,rfl,rfl⟩
theorem PF{n:Nat}(hΦ:Φ n=Mb){sc:Scope}{bl:ai}{k:Nat}(L:PX X sc bl k){e:Expr}(he:Dg sc bl e=some args)(hs:lN X F Φ cs args):PE X e (tD X F Φ (.bO n cs))/\PT X e (fA X F Φ (.bO n cs)):=by
 obtain⟨l,r,p,rfl,rfl⟩:=De he;have hu:X.A.units<cLine:=by have:=L.room.units;left
 cases cs with
 |nil=>exact hs.elim
 |cons c cs=>cases cs with
  |nil=>exact hs.2.2.2.elim
  |cons c' cs=>cases cs with
   |cons _ _=>exact hs.2.2.2.2.2.2.elim
   |nil =>
    obtain⟨h1,_,_,h2,_,_,_⟩:=hs;have key:∀{σ:St} {H:Hp} {R:ah} {τ:Addr->Option bt} {ρ:bo} {d:D} {Q:VK},SI X F R τ ρ σ H->aW Φ (.bO n [c,c']) ρ=ok d->(∀b H2,d=.bl b->aI H H2->Q (.bl b) H2)->Ei (Nn X.K) (tD X F Φ c) (tD X F Φ c') σ H Q:=by
     intro σ H R τ ρ d Q Si ev hq;obtain⟨xs,cp,ev⟩:=aB ev;obtain⟨x,ex,cp⟩:=aB cp;obtain⟨ys,kU,cp⟩:=aB cp;cases cp;obtain⟨y,ey,kU⟩:=aB kU;cases kU;rw[hΦ]at ev;obtain⟨ns,ms,rfl,rfl,rfl⟩:=KH ev;refine tD.intro Si ex λv H1 e1 r1=>tD.intro (Si.go e1) ey λu H2 e2 r2=>?_;obtain⟨_,_,p1⟩:=r1.go e2;obtain⟨_,_,p2⟩:=r2;cases p1 with
     |tup t1 s1=>cases p2 with
      |tup t2 s2 =>
       cases s1.ofInts;cases s2.ofInts;exact⟨_,_,ns,ms,rfl,rfl,t1,t2,hq _ H2 rfl (e1.trans e2)⟩
    refine⟨PE.imp (qv (Bh hu) h1 h2 (qz _)) λσ H Q hq=>?_,PT.imp (qp (Bh hu) h1 h2 (qz _)) λσ H Q hq=>?_⟩
    ·obtain⟨R,τ,ρ,d,Si,ev,hq⟩:=hq;exact key Si ev λb H2 e es=>hq _ H2 es (by subst e;exact .bl)
    ·obtain⟨R,τ,ρ,b,Si,ev,hq⟩:=hq;obtain⟨d,ed,et⟩:=aB ev;refine key Si ed λb' H2 e es=>?_;subst e;cases et;exact⟨_,rfl,hq H2 es⟩
section
open PySem.SeqAt
open PySem.AutoSeq1 (wpAny_loadPart')
open PySem.MeetsSeq PySem.MeetsSeq2 PySem.MeetsSeq3
theorem AW(A:aG)(s:Shared)(a:Int)(t:Tok)(c:Int)(u:Tok)(prog:aF)(w:World)(E:az)(Q:az)(h:Q (.bool (decide (a<=c))) s):wpAny (model prog w) A (richCompare .LtE (.int a t) (.int c u)) Q E s :=
 (PyProof.Rows.le_int h:wpAny (model prog w) A (compareOp .LtE (.int a t) (.int c u)) Q E s)
theorem BE{m n:Nat}(h1:IntsAre vs ns)(h2:IntsAre ws ms)(hz:vs.zip ws=[])(hl:ns.length+n=ms.length+m):(!HT.lexLt ms ns)=decide (m<=n):=by
 cases h1 with
 |nil=>cases h2 with
  |nil=>simp only[List.length_nil]at hl;exact(aar (by left)).symm
  |cons c u h=>simp only[List.length_nil,List.length_cons]at hl;exact(aar (by left)).symm
 |cons a t h=>cases h2 with
  |nil=>simp only[List.length_nil,List.length_cons]at hl;exact(abc (by left)).symm
  |cons c u h=>rw[List.zip_cons_cons]at hz;cases hz
theorem oD(l b:Addr)(items b_:aR)(n n2:Nat)(dd rX:Option Addr)(sl rR:Array (Option Value))(ns ms:aa)(hi:IntsAre items.toList ns)(hj:IntsAre b_.toList ms):
  Meets (Builtin.«tuple.__le__» ⟨[.ref l,.ref b],[]⟩) (λ_ R s=>s.heap.get? l=some { cls:=.type "tuple",dict:=dd,data:=.seq items n,slots:=sl }/\s.heap.get? b=some { cls:=.type "tuple",dict:=rX,data:=.seq b_ n2,slots:=rR }/\R (.ok (.ret (.bool (!HT.lexLt ms ns)))) s) :=
 .of_wp λprog w A R s h=>by
  obtain⟨hp,g,d,tk,os⟩:=s;obtain⟨hl,hb,h⟩:=h;have f2:=abv;have z1:items.size=ns.length:=by rw[<- hi.length];simp
  have z2:b_.size=ms.length:=by rw[<- hj.length];simp
  wp_walk using wpAny_loadPart' hl,wpAny_loadPart' hb,wpAny_forIn_list _ (λrest b s'=>b.1=none/\s'=⟨hp,g,d,tk,os⟩/\∃(vs ws:aq) (ic rS:aa),rest=vs.zip ws/\IntsAre vs ic/\IntsAre ws rS/\ic.length+b_.size=rS.length+items.size/\R (.ok (.ret (.bool (!HT.lexLt rS ic)))) ⟨hp,g,d,tk,os⟩) _
  case turn =>
   rintro ⟨y,x⟩ rest b s' ⟨lV,rfl,vs,ws,ic,rS,hz,B3,zG,hlen,hR⟩;cases B3 with
   |nil=>rw[List.zip_nil_left]at hz;cases hz
   |cons a t hvi'=>cases zG with
    |nil=>rw[List.zip_nil_right]at hz;cases hz
    |cons c u hwi' =>
     rw[List.zip_cons_cons]at hz;injection hz with Ot tQ
     injection Ot with hy hx
     subst hy hx;rw[HT.cZ]at hR;simp only[List.length_cons]at hlen;obtain⟨e,he,tR⟩:=HT.nP A.in1 ⟨hp,g,d,tk,os⟩ a t c u;refine Z_ (he prog w _ _ ?_);cases e with
     |true =>
      rw[if_pos (tR.mp rfl).symm]at hR
      wp_walk
      exact⟨rfl,rfl,_,_,_,_,tQ,hvi',hwi',by left,hR⟩
     |false =>
      have xp:¬ a=c:=λq=>absurd (tR.mpr q) aad;rw[if_neg (Ne.symm xp),show(!decide (c<a))=decide (a<=c) by by_cases q:c<a<;>simp[q]<;>left]at hR;have OA:=AW A.in1 ⟨hp,g,d,tk,os⟩ a t c u prog w
      wp_walk using OA
      exact⟨_,rfl,by simpa using hR⟩
  case fin =>
   rintro ⟨b1,b2⟩ s' ⟨lV,rfl,vs,ws,ic,rS,hz,B3,zG,hlen,hR⟩;simp only at lV;subst lV;rw[BE B3 zG hz.symm hlen]at hR
   wp_walk
   exact⟨_,rfl,by simpa [Builtin.Tuple.tupleCompareSizes]using hR⟩
  case h=>exact⟨rfl,rfl,items.toList,b_.toList,ns,ms,rfl,hi,hj,by left,h⟩
end
def Nm(K:ao):R2:=λx y H Q=>∃a b ns ms,x=.ref a/\y=.ref b/\aX K H a (ns.map V.int)/\aX K H b (ms.map V.int)/\Q (.bl (!HT.lexLt ms ns)) H
theorem Bg(hu:X.A.units<cLine):kD X (compareOp .LtE) (Nm X.K):=by
 intro pins s σ H x y v u Q I rx ry h;obtain⟨a,b,ns,ms,rfl,rfl,ha,hb,q⟩:=h;cases rx;cases ry;obtain⟨aL,r1,⟨⟨cls,dd,data,sl⟩,ho,hc,n,hd⟩,_⟩:=I.tuple ha;obtain⟨qK,r2,⟨⟨C4,rX,data2,rR⟩,oz,hc2,n2,hd2⟩,_⟩:=I.tuple hb;simp only at hc hd hc2 hd2;subst hc hd hc2 hd2;exact abE (op:=.LtE) ⟨_,ho,rfl⟩ ⟨_,oz,rfl⟩ PySem.F.slot_tuple_le PySem.F.entry_tuple_le (PySem.F.args_tuple_le_2 _ _) (oD a b aL.toArray qK.toArray n n2 dd rX sl rR ns ms (intsAre_of r1) (intsAre_of r2))
  ⟨ho,oz,show Value.bool (!HT.lexLt ms ns)≠Value.notImplemented/\EP X pins σ Q (.bool (!HT.lexLt ms ns)) s from⟨(λx=>nomatch x),⟨.bl _,H,I,rfl,q⟩⟩⟩ hu
def FH(xs:ab):O D:=match two xs with
 |some z=>match z.1 with
  |.tup a=>match z.2 with
   |.tup b=>match intsOf a with
    |some ns=>match intsOf b with
     |some ms=>ok (.bl (!HT.lexLt ms ns))
     |none=>none
    |none=>none
   |_=>none
  |_=>none
 |none=>none
theorem FG{x y d:D}(h:FH [x,y]=ok d):∃ns ms:aa,x=.tup (ns.map D.int)/\y=.tup (ms.map D.int)/\d=.bl (!HT.lexLt ms ns):=by
 cases x<;>first|exact nk h | (cases h;done) | (cases y<;>first|exact nk h | (cases h;done)|skip)
 rename_i a b;have h:(match intsOf a with|some ns=>(match intsOf b with|some ms=>ok (D.bl (!HT.lexLt ms ns))|none=>none)|none=>none)=ok d:=h;cases h1:intsOf a with
 |none=>rw[h1]at h;exact nk h
 |some ns=>cases h2:intsOf b with
  |none=>rw[h1,h2]at h;cases h
  |some ms =>
   rw[h1,h2]at h;cases h;exact⟨ns,ms,by rw[cJ h1],by rw[cJ h2],rfl⟩
def C9(_:Scope)(_:ai)(e:Expr):Option (aj):=(D9 e).bind λz=>(one z.2.2).bind λr=>if z.2.1=[.LtE]then some [z.1,r]else none
theorem C8{sc:Scope}{bl:ai}{e:Expr}(h:C9 sc bl e=some args):∃l r p,e=.Compare l [.LtE] [r] p/\args=[l,r]:=by
 obtain⟨⟨l,os,rs⟩,hv,h⟩:=bT h;obtain⟨r,hw,h⟩:=bT h;obtain⟨hc,h⟩:=gT h;cases h;obtain rfl:=hc;obtain⟨p,rfl⟩:=p8 hv;obtain rfl:=ck hw;exact⟨l,r,p,rfl,rfl⟩
theorem J6{n:Nat}(hΦ:Φ n=FH){sc:Scope}{bl:ai}{k:Nat}(L:PX X sc bl k){e:Expr}(he:C9 sc bl e=some args)(hs:lN X F Φ cs args):PE X e (tD X F Φ (.bO n cs))/\PT X e (fA X F Φ (.bO n cs)):=by
 obtain⟨l,r,p,rfl,rfl⟩:=C8 he;have hu:X.A.units<cLine:=by have:=L.room.units;left
 cases cs with
 |nil=>exact hs.elim
 |cons c cs=>cases cs with
  |nil=>exact hs.2.2.2.elim
  |cons c' cs=>cases cs with
   |cons _ _=>exact hs.2.2.2.2.2.2.elim
   |nil =>
    obtain⟨h1,_,_,h2,_,_,_⟩:=hs;have key:∀{σ:St} {H:Hp} {R:ah} {τ:Addr->Option bt} {ρ:bo} {d:D} {Q:VK},SI X F R τ ρ σ H->aW Φ (.bO n [c,c']) ρ=ok d->(∀b H2,d=.bl b->aI H H2->Q (.bl b) H2)->Ei (Nm X.K) (tD X F Φ c) (tD X F Φ c') σ H Q:=by
     intro σ H R τ ρ d Q Si ev hq;obtain⟨xs,cp,ev⟩:=aB ev;obtain⟨x,ex,cp⟩:=aB cp;obtain⟨ys,kU,cp⟩:=aB cp;cases cp;obtain⟨y,ey,kU⟩:=aB kU;cases kU;rw[hΦ]at ev;obtain⟨ns,ms,rfl,rfl,rfl⟩:=FG ev;refine tD.intro Si ex λv H1 e1 r1=>tD.intro (Si.go e1) ey λu H2 e2 r2=>?_;obtain⟨_,_,p1⟩:=r1.go e2;obtain⟨_,_,p2⟩:=r2;cases p1 with
     |tup t1 s1=>cases p2 with
      |tup t2 s2 =>
       cases s1.ofInts;cases s2.ofInts;exact⟨_,_,ns,ms,rfl,rfl,t1,t2,hq _ H2 rfl (e1.trans e2)⟩
    refine⟨PE.imp (qv (Bg hu) h1 h2 (qz _)) λσ H Q hq=>?_,PT.imp (qp (Bg hu) h1 h2 (qz _)) λσ H Q hq=>?_⟩
    ·obtain⟨R,τ,ρ,d,Si,ev,hq⟩:=hq;exact key Si ev λb H2 e es=>hq _ H2 es (by subst e;exact .bl)
    ·obtain⟨R,τ,ρ,b,Si,ev,hq⟩:=hq;obtain⟨d,ed,et⟩:=aB ev;refine key Si ed λb' H2 e es=>?_;subst e;cases et;exact⟨_,rfl,hq H2 es⟩
theorem aD.rv{T:lL}{N:iA}{T':lL}{N':iA}{f:D->D}{k k':bt}{m:Nat}(hm:∀{q:bt} {v:V} {d:D},Rep T N q v d->∀q',Rep T' N' q' v (f d)):∀{n:Nat} {vs:af} {ds:ab},aD T N k n vs ds->aD T' N' k' m vs.reverse (ds.map f).reverse
 |_,_,_,.nil=>.nil
 |_,_,_,.cons h t=>by
  rw[List.reverse_cons,List.map_cons,List.reverse_cons];exact(aD.rv hm t).Az (hm h _)
def Xn(K:ao)(te ts:TE):TE:=λσ H Q=>te σ H λx H1=>ts σ H1 λy H2=>∃(a:Addr) (xs:af),x=.ref a/\y=.int (-1)/\dq K H2 a xs/\∀p,H2 p=none->Q (.ref p) (upd H2 p (.lst xs.reverse))
theorem Jz{e st:Expr}{te ts:TE}{p2:Pos}(he:PE X e te)(hs:PE X st ts):PE X (.Subscript e (.Slice none none (some st) p2) pos) (Xn X.K te ts):=by
 intro pins s σ H Q I h;refine Subscript_ (dv (he pins s σ H _ I h) λv s1 bP=>?_);obtain⟨x,H1,I1,r1,q1⟩:=bP;refine wpAny_Slice ?_;rw[evalPart_none];refine aaa (aaa ?_);rw[evalPart_some];refine dv (hs pins s1 σ H1 _ I1 q1) λu s3 bP=>?_;obtain⟨y,H3,I3,r3,a,xs,ea,ey,hx,q⟩:=bP;subst ea;subst ey;cases r1;have pu:IsPart u (some (-1)):=by obtain⟨t,rfl⟩:=r3;exact .int _ _
 have I4:Inv X pins σ H3 { s3 with heap:=s3.heap.push { cls:=.type "slice",data:=.fields #[.none,.none,u] } }:=I3.kept (t':=s3.toks) λb ob q=>aac _ q;obtain⟨aL,r,DH,hz⟩:=I4.list hx;have hl:=cI DH;have hlen:aL.length=xs.length:=r.length.symm;have hg:wpAny (model X.prog X.w) X.A (getItem (.ref a) (.ref s3.heap.objs.size)) (EP X pins σ Q) X.xe { s3 with heap:=s3.heap.push { cls:=.type "slice",data:=.fields #[.none,.none,u] } }:=by
  refine wpAny_getItem_list_slice hl (Heap.IsSliceOf.new ..) .none .none pu (by decide) ?_ (by rw[List.size_toArray,hlen];exact hz);rw[W.krv_pick];exact⟨.ref _,_,I4.J4 (t':=s3.toks) r.reverse (by rw[List.length_reverse];exact hz),rfl,q _ I4.fresh⟩
 show wpAny (model X.prog X.w) X.A (subscriptTail e (.Slice none none (some st) p2) (.ref a) (.ref s3.heap.objs.size)) (EP X pins σ Q) X.xe { s3 with heap:=s3.heap.push { cls:=.type "slice",data:=.fields #[.none,.none,u] } };exact tail_any (ops:=[.ref a,.ref s3.heap.objs.size]) hl.typeIs slot_list_getitem.lookup hg (by with_unfolding_all rfl)
def wL(xs:ab):O D:=match two xs with
 |some z=>match z.1 with
  |.lst _ ds=>match z.2 with
   |.int k=>if k = -1 then ok (.lst .ow (ds.map (aA aP)).reverse)else none
   |_=>none
  |_=>none
 |none=>none
theorem AQ{x y d:D}(h:wL [x,y]=ok d):∃(f:Fl) (ds:ab),x=.lst f ds/\y=.int (-1)/\d=.lst .ow (ds.map (aA aP)).reverse:=by
 cases x<;>first|exact nk h | (cases h;done) | (cases y<;>first|exact nk h | (cases h;done)|skip)
 obtain⟨h1,h3⟩:=pz h;subst h1;exact⟨_,_,rfl,rfl,h3.symm⟩
noncomputable def Mu(e:Expr):Option Expr:=match e with
 |.Slice lo hi st _=>match lo with
  |none=>match hi with
   |none=>st
   |some _=>none
  |some _=>none
 |_=>none
theorem D3{e k:Expr}(h:Mu e=some k):∃p,e=.Slice none none (some k) p:=by
 cases e<;>first|exact nk h | (cases h;done)|skip
 rename_i lo hi st p;cases lo with
 |some _=>cases h
 |none=>cases hi with
  |some _=>cases h
  |none=>cases h;exact⟨p,rfl⟩
def C5(_:Scope)(_:ai)(e:Expr):Option (aj):=(r9 e).bind λz=>(Mu z.2).bind λk=>some [z.1,k]
theorem EM{n:Nat}(hΦ:Φ n=wL){sc:Scope}{bl:ai}{k:Nat}(L:PX X sc bl k){e:Expr}(he:C5 sc bl e=some args)(hs:lN X F Φ cs args):PE X e (tD X F Φ (.bO n cs))/\PT X e (fA X F Φ (.bO n cs)):=by
 obtain⟨⟨a,s⟩,hv,h⟩:=bT he;obtain⟨ke,hw,h⟩:=bT h;cases h;obtain⟨pos,rfl⟩:=i5 hv;obtain⟨p,rfl⟩:=D3 hw;cases cs with
 |nil=>exact hs.elim
 |cons c cs=>cases cs with
  |nil=>exact hs.2.2.2.elim
  |cons c' cs=>cases cs with
   |cons _ _=>exact hs.2.2.2.2.2.2.elim
   |nil =>
    obtain⟨h1,_,_,h2,_,_,_⟩:=hs;have this:PE X (.Subscript a (.Slice none none (some ke) p) pos) (tD X F Φ (.bO n [c,c'])):=by
     refine PE.imp (Jz h1 h2) λσ H Q hq=>?_;obtain⟨R,τ,ρ,d,Si,ev,hq⟩:=hq;obtain⟨xs,cp,ev⟩:=aB ev;obtain⟨x,ex,cp⟩:=aB cp;obtain⟨ys,kU,cp⟩:=aB cp;cases cp;obtain⟨y,ey,kU⟩:=aB kU;cases kU;rw[hΦ]at ev;obtain⟨f,ds,rfl,rfl,rfl⟩:=AQ ev;refine tD.intro Si ex λv H1 e1 r1=>tD.intro (Si.go e1) ey λu H2 e2 r2=>?_;cases r2.isInt;have r2:=(r1.go e2).mono (fv':=gJ (.bO n [c,c'])) λi hi=>aaD _ hi;obtain⟨τt,fr,rp⟩:=r2;obtain⟨q,xs,rfl,hn,rs⟩:=rp.uN;have ee:=e1.trans e2;refine⟨q,xs,rfl,rfl,hn.sq,λl hl=>hq _ _ (ee.trans (aI.upd hl)) (bR.oN (ee.free hl) (ee.trans (aI.upd hl)) bg ?_)⟩;exact(aD.rv (λh q'=>Rep.fQ h Si fr) rs).imp (λ_ _ h=>aX.same (aI.upd hl) h) λ_ _ _ _ h=>nd.same (aI.upd hl) h
    exact⟨this,cv this λ_=>rfl⟩
def xT(xs:ab):O D:=match two xs with
 |some z=>match z.1 with
  |.tup ds=>match z.2 with
   |.int k=>if 1<=k/\aN anyF ds=false then ok (.tup (ds.drop k.toNat))else none
   |_=>none
  |_=>none
 |none=>none
theorem C0{x y d:D}(h:xT [x,y]=ok d):∃(ds:ab) (k:Nat),x=.tup ds/\y=.int k/\1<=k/\aN anyF ds=false/\d=.tup (ds.drop k):=by
 cases x<;>first|exact nk h | (cases h;done) | (cases y<;>first|exact nk h | (cases h;done)|skip)
 obtain⟨⟨h1,h3⟩,h4⟩:=pz h;rename_i ds k;exact⟨ds,k.toNat,rfl,by rw[Int.toNat_of_nonneg (by left)],by left,h3,h4.symm⟩
theorem pb{T:lL}{N N':iA}:∀{k k':bt} {n n':Nat} {vs:af} {ds:ab},aD T N k n vs ds->aN anyF ds=false->aD T N' k' n' vs ds
 |_,_,_,_,_,_,.nil,_=>.nil
 |_,_,_,_,_,_,.cons h t,hf=>.cons (i_ h (Be hf).1) (pb t (Be hf).2)
theorem any_drop:∀(k:Nat) {ds:ab},aN anyF ds=false->aN anyF (ds.drop k)=false
 |0,_,h=>h
 |k+1,[],h=>h
 |k+1,_::_,h=>any_drop k (Be h).2
theorem kg{prog:aF}{w:World}{A:aG}{s:Shared}{E:az}{t sl:Addr}{items:aR}{vl vu:Value}{lo hi:Option Int}{Q:az}(ht:IsTup s.heap t items)(hs:s.heap.IsSliceOf sl vl vu .none)(pl:IsPart vl lo)(pu:IsPart vu hi)
  (hw:HT.ff items.size 0 lo=0/\HT.ff items.size items.size hi=items.size) (h:Q (.ref t) s):wpAny (model prog w) A (getItem (.ref t) (.ref sl)) Q E s:=by
 obtain⟨os,uE,pA,xq⟩:=id hs;have T7:s.TypeIs (.ref sl) "slice":=⟨os,uE,pA⟩
 unfold getItem
 try with_reducible refine aax ?_
 first|refine Z_ (aaa ?_)|skip
 refine Z_ (wpAny_sequenceKey ht.typeIs (by decide) ?_);refine Z_ (aaA (name:=Str.ofString "__getitem__") ht.typeIs aaR
  (aau aaR ht.typeIs entry_tuple_getitem ?_ (args_tuple_getitem _ _)))
 show wpAny _ _ (Builtin.Tuple.tupleItemsOf (.ref t) >>= _) _ _ s;refine Z_ (tupleItemsOf_ ht ?_);refine Z_ (abl T7 ?_);rw[if_pos (by decide)];refine Z_ (HT.gy hs pl pu ?_);have Ts:(((HT.ff items.size 0 lo:Nat):Int)==0&&(1:Int)==1&&(HT.ff items.size items.size hi - HT.ff items.size 0 lo)==items.size)=true:=by
  rw[hw.1,hw.2];simp
 show wpAny _ _ (if (((HT.ff items.size 0 lo:Nat):Int)==0&&(1:Int)==1&&(HT.ff items.size items.size hi - HT.ff items.size 0 lo)==items.size)=true then _ else _) _ _ s;rw[if_pos Ts];refine Z_ (m:=Builtin.Tuple.tupleIsExact _) (Z_ (abl ht.typeIs (aaa ?_)));rw[if_pos (by decide)]
 first
  |exact aaa ⟨_,rfl,aaa h⟩
  |exact Z_ (aaa (aaa ⟨_,rfl,aaa h⟩))
  |exact Z_ (abx (aaa ⟨_,rfl,aaa h⟩))
def R7(K:ao):V->Option Int->Option Int->Hp->VK->Prop:=λx lo hi H Q=>∃a xs,x=.ref a/\aX K H a xs/\(HT.ff xs.length 0 lo=0/\HT.ff xs.length xs.length hi=xs.length)/\Q x H
theorem IT:HU X (R7 X.K):=by
 intro pins s σ H x v vl vu lo hi sl Q I rx hs pl pu h;obtain⟨a,xs,rfl,hx,hw,q⟩:=h;cases rx;obtain⟨aL,r,ht,hz⟩:=I.tuple hx;have hlen:aL.toArray.size=xs.length:=by rw[List.size_toArray];exact r.length.symm
 exact⟨"tuple",_,PyProof.Rows.slot_tuple_getitem.lookup,ht.typeIs,kg ht hs pl pu (by rw[hlen];exact hw) ⟨.ref a,H,I,rfl,q⟩⟩
theorem GH{n:Nat}(hΦ:Φ n=xT){sc:Scope}{bl:ai}{k:Nat}(L:PX X sc bl k){e:Expr}(he:kX true sc bl e=some args)(hs:lN X F Φ cs args):PE X e (tD X F Φ (.bO n cs))/\PT X e (fA X F Φ (.bO n cs)):=by
 obtain⟨a,ke,p,pos,rfl,rfl⟩:=pT he;cases cs with
 |nil=>exact hs.elim
 |cons c cs=>cases cs with
  |nil=>exact hs.2.2.2.elim
  |cons c' cs=>cases cs with
   |cons _ _=>exact hs.2.2.2.2.2.2.elim
   |nil =>
    obtain⟨h1,_,_,h2,_,_,_⟩:=hs;have this:PE X (.Subscript a (.Slice (some ke) none none p) pos) (tD X F Φ (.bO n [c,c'])):=by
     refine PE.imp (sZ (IS.or IT) h1 (qr h2) qt) λσ H Q hq=>?_;obtain⟨R,τ,ρ,d,Si,ev,hq⟩:=hq;obtain⟨xs,cp,ev⟩:=aB ev;obtain⟨x,ex,cp⟩:=aB cp;obtain⟨ys,kU,cp⟩:=aB cp;cases cp;obtain⟨y,ey,kU⟩:=aB kU;cases kU;rw[hΦ]at ev;obtain⟨ds,j,rfl,rfl,j1,hf,rfl⟩:=C0 ev;refine tD.intro Si ex λv H1 e1 r1=>tD.intro (Si.go e1) ey λw H2 e2 r2=>?_;cases r2.isInt;refine⟨j,rfl,?_⟩;obtain⟨τt,fr,rp⟩:=r1;cases rp with
     | @tup _ q xs _ hT rs =>
      have T8:aX X.K H2 q xs:=aX.same e2 hT;have hlen:=rs.length;have ee:=e1.trans e2;cases xs with
      |nil =>
       have hd:ds=[]:=List.length_eq_zero_iff.mp (by rw[<- hlen];rfl);subst hd;refine .inr ⟨q,[],rfl,T8,⟨by rw[HT.qk];exact Nat.min_eq_right (aaH _),rfl⟩,?_⟩;refine hq _ _ ee ⟨λ_=>none,λ_ _ h=>by simp at h,.tup T8 ?_⟩;rw[List.drop_nil];exact .nil
      |cons x0 xs0 =>
      refine .inl ⟨q,x0::xs0,rfl,T8,by rw[HT.qk,List.length_cons];left,λl hl=>?_⟩;have TU:zd (x0::xs0) (some (j:Int)) none=(x0::xs0).drop j:=by
       unfold zd;rw[HT.qk,HT.AL];by_cases hj:j<=(x0::xs0).length
       ·rw[Nat.min_eq_left hj,<- List.length_drop,List.take_length]
       ·rw[Nat.min_eq_right (by left),Nat.sub_self,List.take_zero,List.drop_eq_nil_of_le (by left)]
      rw[TU];refine hq _ _ (ee.trans (aI.upd hl)) ⟨λ_=>none,λ_ _ h=>by simp at h,.tup (aX.of bg) ?_⟩;have r3:=pb (N':=nd X.K R (jw (gP X F) τ (gJ (.bO n [c,c']))) (λ_=>none) H1) (k':=[]) (n':=0) (rs.CQ j) (any_drop j hf);exact(r3.imp (λ_ _ h=>aX.same (e2.trans (aI.upd hl)) h) λ_ _ _ _ h=>nd.same (e2.trans (aI.upd hl)) h)
    exact⟨this,cv this λ_=>rfl⟩
mutual
noncomputable def toPy:D->PyData
 |.bF=>.none
 |.bl b=>.bool b
 |.int i=>.int i
 |.str s=>.str s
 |.tup ds=>.tuple (eC ds)
 |.lst _ ds=>.list (eC ds)
 |_=>.none
noncomputable def eC:ab->List PyData
 |[]=>[]
 |d::ds=>toPy d::eC ds
end
mutual
theorem mG:∀d:D,(toPy d).hasDict=false
 |.bF=>rfl
 |.bl _=>rfl
 |.int _=>rfl
 |.str _=>rfl
 |.tup ds=>by rw[toPy,PyData.hasDict];exact kI ds
 |.lst _ ds=>by rw[toPy,PyData.hasDict];exact kI ds
 |.cM _ _ _=>rfl
theorem kI:∀ds:ab,PyData.hasDictAll (eC ds)=false
 |[]=>rfl
 |d::ds=>by rw[eC,PyData.hasDictAll,mG d,kI ds];rfl
end
section
variable {X:Cx}{pins:ak}{σ:St}{H:Hp}{s:Shared}{N:iA}
theorem yx(I:Inv X pins σ H s)(hN:∀q p xs f,N q p (.l xs) f->dq X.K H p xs):∀(n:Nat) {k:bt} {v:V} {d:D} {u:Value},Rep (aX X.K H) N k v d->eA n d=true->RelV v u->∃as,Reads s.heap u (toPy d) as:=by
 intro n;induction n with
 |zero =>
  intro k v d u h ho r;cases h with
  |bF=>cases r;exact⟨_,.none⟩
  |bl b=>cases r;exact⟨_,.bool b⟩
  |int i=>obtain⟨t,rfl⟩:=r;exact⟨_,.int i t⟩
  |str t=>obtain⟨z,rfl⟩:=r;exact⟨_,.str t z⟩
  |tup _ _=>obtain⟨m,hm,_⟩:=dy ho;left
  |lst _ _=>obtain⟨m,hm,_⟩:=dA ho;left
  |cM _ _=>cases ho
 |succ n ih =>
  have sub:∀{ds:ab} {q:bt} {m:Nat} {xs:af} {aL:aq},aD (aX X.K H) N q m xs ds->(∀d∈ds,eA n d=true)->Vals xs aL->∃as,ReadsAll s.heap aL (eC ds) as:=by
   intro ds;induction ds with
   |nil=>intro q m xs aL h _ r;cases h;cases r;exact⟨_,.nil⟩
   |cons d ds ihd =>
    intro q m xs aL h ho r;cases h with
    |cons h t =>
     cases r with
     |cons r1 r2 =>
      obtain⟨as,a⟩:=ih h (ho d aae) r1;obtain⟨bs,b⟩:=ihd t (λx hx=>ho x (aaf _ hx)) r2;exact⟨_,.cons a b⟩
  intro k v d u h ho r;cases h with
  |bF=>cases r;exact⟨_,.none⟩
  |bl b=>cases r;exact⟨_,.bool b⟩
  |int i=>obtain⟨t,rfl⟩:=r;exact⟨_,.int i t⟩
  |str t=>obtain⟨z,rfl⟩:=r;exact⟨_,.str t z⟩
  |tup h rr =>
   obtain⟨m,hm,ho⟩:=dy ho;obtain rfl:n=m:=by left
   cases r;obtain⟨aL,rv,⟨o,e1,e2,n',e3⟩,_⟩:=I.tuple h;obtain⟨as,a⟩:=sub rr ho rv;exact⟨_,.tuple e1 e2 e3 (by simpa using a)⟩
  |lst h rr =>
   obtain⟨m,hm,ho⟩:=dA ho;obtain rfl:n=m:=by left
   cases r;obtain⟨aL,rv,⟨o,n',e1,e2,_,e3⟩,_⟩:=I.list (hN _ _ _ _ h);obtain⟨as,a⟩:=sub rr ho rv;exact⟨_,.list e1 e2 e3 (by simpa using a)⟩
  |cM _ _=>cases ho
end
def uX(d:D):Bool:=eA 20 d&&(decide ((toPy d).depth<=60)&&((toPy d).showable&&decide ((toPy d).shown.length<=sizeLine)))
def sT(xs:ab):O D:=match one xs with
 |some d=>if uX d=true then ok (.str (toPy d).shown)else none
 |none=>none
theorem AS{d:D}(h:sT xs=ok d):∃x,xs=[x]/\uX x=true/\d=.str (toPy x).shown:=by
 unfold sT at h;cases h1:one xs with
 |none=>rw[h1]at h;cases h
 |some x =>
  rw[h1]at h;obtain⟨h2,h3⟩:=pz (show(if uX x=true then ok (D.str (toPy x).shown)else none)=ok d from h);exact⟨x,ck h1,h2,h3.symm⟩
theorem zi{k:Nat}(hr:gm k X.A):gI X (.builtin "repr") (λxs H Q=>∃(v:V) (N:iA) (q:bt) (d:D),xs=[v]/\(∀q p xs f,N q p (.l xs) f->dq X.K H p xs)/\Rep (aX X.K H) N q v d/\uX d=true/\Q (.str (toPy d).shown) H):=by
 intro pins s σ H xs us Q I r h;obtain⟨v,N,q,d,rfl,hN,rp,hs,hq⟩:=h;obtain⟨u,rfl,ru⟩:=r.one;obtain⟨h1,hs⟩:=aJ hs;obtain⟨h2,hs⟩:=aJ hs;obtain⟨h3,h4⟩:=aJ hs;have h2:=aab h2;have h4:=aab h4;obtain⟨as,rd⟩:=yx I hN 20 rp h1 ru;have hu:=hr.units;cases rp with
 |bF=>cases ru;exact PySem.P.repr_of_none ⟨.str _,H,I.tok _,⟨_,rfl⟩,hq⟩
 |bl b=>cases ru;exact PySem.P.repr_of_bool ⟨.str _,H,I.tok _,⟨_,rfl⟩,hq⟩
 |int i=>obtain⟨t,rfl⟩:=ru;exact PySem.P.repr_of_int (aab h3) ⟨.str _,H,I.tok _,⟨_,rfl⟩,hq⟩
 |str t=>obtain⟨z,rfl⟩:=ru;exact PySem.P.repr_of_str ⟨.str _,H,I.tok _,⟨_,rfl⟩,hq⟩
 |tup h rr =>
  cases ru;exact repr_of_reads' rd h3 (λz=>by rw[mG]at z;cases z) hr.gd (by left) (λ_ _ e=>e) (λh' u tk hk=>⟨.str _,H,I.kept (t':=tk) hk,⟨_,rfl⟩,hq⟩) h4
 |lst h rr =>
  cases ru;exact repr_of_reads' rd h3 (λz=>by rw[mG]at z;cases z) hr.gd (by left) (λ_ _ e=>e) (λh' u tk hk=>⟨.str _,H,I.kept (t':=tk) hk,⟨_,rfl⟩,hq⟩) h4
 |cM _ _=>cases h1
theorem EN{n:Nat}(hΦ:Φ n=sT){sc:Scope}{bl:ai}{k:Nat}(L:PX X sc bl k){e:Expr}(he:dJ ("repr" : Str) sc bl e=some args)(hs:lN X F Φ cs args):PE X e (tD X F Φ (.bO n cs))/\PT X e (fA X F Φ (.bO n cs)):=by
 obtain⟨p,pos,a,rfl,rfl,h1,h2⟩:=fC he;cases cs with
 |nil=>exact hs.elim
 |cons c cs=>cases cs with
  |cons _ _=>exact hs.2.2.2.elim
  |nil =>
   have pa:PA X [a] (qb X F Φ [c]):=PA.imp (dx hs.1 (PA.imp gg λ_ _ _ h=>gM h) (hs.2.1 _)) λ_ _ _ h=>eV h;have this:PE X (.Call (.Name ("repr" : Str) p) [a] [] pos) (tD X F Φ (.bO n [c])):=by
    refine PE.imp (dU (zi L.room) (L.gl h1) (L.bl _ h2) (by rfl) pa (he:=hs.2.1 _)) λσ H Q hq=>?_;obtain⟨R,τ,ρ,d,Si,ev,hq⟩:=hq;obtain⟨xs,cp,ev⟩:=aB ev;rw[hΦ]at ev;obtain⟨x,rfl,S9,rfl⟩:=AS ev;refine⟨R,τ,ρ,_,Si,cp,λvs H1 e1 r1=>?_⟩;obtain⟨τt,fr,rs⟩:=r1;obtain⟨v,rfl,rv⟩:=rs.one;exact⟨v,_,_,x,rfl,λq p xs f h=>h.sq,rv,S9,hq _ H1 e1 .str⟩
   exact⟨this,cv this λ_=>rfl⟩
end DI
end
section
namespace DI
open PySem (Str)
section
variable {α β:Type}
@[simp]theorem cR(a:α)(f:α->O β):bd (ok a) f=f a:=rfl
@[simp]theorem Ri(c:Nat)(f:α->O β):bd (some (.error c)) f=some (.error c):=rfl
noncomputable def p6(f:α->O β)(x:O α):O β:=bd x f
@[simp]theorem LA(f:α->O β)(a:α):p6 f (ok a)=f a:=rfl
@[simp]theorem Rl(f:α->O β)(c:Nat):p6 f (some (.error c))=some (.error c):=rfl
end
def Qm(op:G5)(x y:O D):O D:=bd x λx=>bd y λy=>bM op x y
@[simp]theorem xZ(op:G5)(x y:D):Qm op (ok x) (ok y)=bM op x y:=rfl
def Qb(op:zR)(x y:O D):O D:=bd x λx=>bd y λy=>dH op x y
@[simp]theorem Rg(op:zR)(x y:D):Qb op (ok x) (ok y)=dH op x y:=rfl
def Oi(x y:O D):O D:=bd x λx=>bd y λy=>BN x y
@[simp]theorem SF(x y:D):Oi (ok x) (ok y)=BN x y:=rfl
def NR(x:O D):O D:=bd (bd x gL) λb=>ok (.bl (!b))
@[simp]theorem QS(b:Bool):NR (ok (.bl b))=ok (.bl (!b)):=rfl
@[simp]theorem MF(b:Bool):gL (.bl b)=ok b:=rfl
def si(x:O D):O Bool:=bd x gL
@[simp]theorem Qz(b:Bool):si (ok (.bl b))=ok b:=rfl
@[simp]theorem ME(c:Nat):si (some (.error c))=some (.error c):=rfl
def V7(t:Ty)(x:O D):O D:=bd x λx=>ok (.bl (bJ t x))
@[simp]theorem SQ(t:Ty)(x:D):V7 t (ok x)=ok (.bl (bJ t x)):=rfl
def fP(m:aw)(xs:O (ab)):O D:=bd xs λxs=>bd (m (av aK xs)) λr=>ok (aA gB r)
def tW(x:O D):O D:=bd x λr=>ok (aA gB r)
@[simp]theorem qX(r:D):tW (ok r)=ok (aA gB r):=rfl
@[simp]theorem Q8(c:Nat):tW (some (.error c))=some (.error c):=rfl
@[simp]theorem ej(m:aw)(xs:ab):fP m (ok xs)=tW (m (av aK xs)):=rfl
@[simp]theorem Mi(m:aw)(c:Nat):fP m (some (.error c))=some (.error c):=rfl
noncomputable def bW(x:O D)(xs:O (ab)):O (ab):=bd x λx=>bd xs λxs=>ok (x::xs)
@[simp]theorem C2(x:D)(xs:ab):bW (ok x) (ok xs)=ok (x::xs):=rfl
@[simp]theorem Mh(c:Nat)(xs:O (ab)):bW (some (.error c)) xs=some (.error c):=rfl
@[simp]theorem Ls(x:D)(c:Nat):bW (ok x) (some (.error c))=some (.error c):=rfl
noncomputable def Kb(x:O Bool)(a b:O D):O D:=bd x λk=>if k then a else b
@[simp]theorem SN(a b:O D):Kb (ok true) a b=a:=rfl
@[simp]theorem SO(a b:O D):Kb (ok false) a b=b:=rfl
def GX(x y:O D):O D:=bd (bd x gL) λc=>if c then y else ok (.bl false)
@[simp]theorem U9(y:O D):GX (ok (.bl true)) y=y:=rfl
@[simp]theorem U_(y:O D):GX (ok (.bl false)) y=ok (.bl false):=rfl
@[simp]theorem Va(a b:Bool):GX (ok (.bl a)) (ok (.bl b))=ok (.bl (a&&b)):=by cases a<;>rfl
def QO(x y:O D):O D:=bd (bd x gL) λc=>if c then ok (.bl true)else y
@[simp]theorem VL(y:O D):QO (ok (.bl true)) y=ok (.bl true):=rfl
@[simp]theorem VM(y:O D):QO (ok (.bl false)) y=y:=rfl
@[simp]theorem VN(a b:Bool):QO (ok (.bl a)) (ok (.bl b))=ok (.bl (a||b)):=by cases a<;>rfl
def BH(x:O D):O D:=bd (bd x gL) λc=>ok (.bl c)
@[simp]theorem Oe(c:Bool):BH (ok (.bl c))=ok (.bl c):=rfl
@[simp]theorem M0(d:D):wB (some (some d))=ok (aA aP d):=rfl
section
variable (Φ:aY)(ρ:bo)
@[simp]theorem P1:aW Φ .bF ρ=ok .bF:=rfl
@[simp]theorem Zk(b:Bool):aW Φ (.bl b) ρ=ok (.bl b):=rfl
@[simp]theorem xP(i:Int):aW Φ (.int i) ρ=ok (.int i):=rfl
@[simp]theorem PY(i:Str):aW Φ (.str i) ρ=ok (.str i):=rfl
@[simp]theorem WU(x:Str)(i:Int):aW Φ (.glo x i) ρ=ok (.int i):=rfl
@[simp]theorem PV(i:Nat):aW Φ (.v i) ρ=wB ρ[i]?:=rfl
@[simp]theorem t6(op:G5)(a b:CE):aW Φ (.bin op a b) ρ=Qm op (aW Φ a ρ) (aW Φ b ρ):=rfl
@[simp]theorem CM(op:zR)(a b:CE):aW Φ (.cmp op a b) ρ=Qb op (aW Φ a ρ) (aW Φ b ρ):=rfl
@[simp]theorem WR(a:CE):aW Φ (.neg a) ρ=p6 Fx (aW Φ a ρ):=rfl
@[simp]theorem PZ(a:CE):aW Φ (.not a) ρ=NR (aW Φ a ρ):=rfl
@[simp]theorem WT(a:CE)(t:Ty):aW Φ (.jW a t) ρ=V7 t (aW Φ a ρ):=rfl
@[simp]theorem WS(c a b:CE):aW Φ (.ite c a b) ρ=Kb (si (aW Φ c ρ)) (aW Φ a ρ) (aW Φ b ρ):=rfl
@[simp]theorem jH(f:Nat)(es:aE):aW Φ (.call f es) ρ=fP (Φ f) (cP Φ es ρ):=rfl
@[simp]theorem vF(f:Bf)(es:aE):aW Φ (.bf f es) ρ=p6 (n9 f) (cP Φ es ρ):=rfl
@[simp]theorem xO(f:Nat)(es:aE):aW Φ (.bO f es) ρ=p6 (Φ f) (cP Φ es ρ):=rfl
@[simp]theorem rg(a b:CE):aW Φ (.ix a b) ρ=Oi (aW Φ a ρ) (aW Φ b ρ):=rfl
@[simp]theorem UN(a:CE):aW Φ (.lS a) ρ=p6 xa (aW Φ a ρ):=rfl
@[simp]theorem gE(es:aE):aW Φ (.tup es) ρ=p6 (λxs=>ok (.tup xs)) (cP Φ es ρ):=rfl
@[simp]theorem P2(es:aE):aW Φ (.lst es) ρ=p6 (λxs=>ok (.lst .ow xs)) (cP Φ es ρ):=rfl
@[simp]theorem CO(es:aE):aW Φ (.and es) ρ=pJ Φ es ρ:=rfl
@[simp]theorem Zj(es:aE):aW Φ (.or es) ρ=y8 Φ es ρ:=rfl
@[simp]theorem CN(e:CE):pJ Φ [e] ρ=BH (aW Φ e ρ):=rfl
@[simp]theorem vG(e e':CE)(es:aE):pJ Φ (e::e'::es) ρ=GX (aW Φ e ρ) (pJ Φ (e'::es) ρ):=rfl
@[simp]theorem WQ(e:CE):y8 Φ [e] ρ=BH (aW Φ e ρ):=rfl
@[simp]theorem WO(e e':CE)(es:aE):y8 Φ (e::e'::es) ρ=QO (aW Φ e ρ) (y8 Φ (e'::es) ρ):=rfl
@[simp]theorem t5:cP Φ [] ρ=ok []:=rfl
@[simp]theorem a_(e:CE)(es:aE):cP Φ (e::es) ρ=bW (aW Φ e ρ) (cP Φ es ρ):=rfl
@[simp]theorem Z9(e:CE):uF Φ e ρ=si (aW Φ e ρ):=rfl
theorem UQ(e:CE):bd (aW Φ e ρ) gL=si (aW Φ e ρ):=rfl
@[simp]theorem UP:ip Φ [] ρ=ok true:=rfl
@[simp]theorem UO(e:CE):ip Φ [e] ρ=si (aW Φ e ρ):=by
 rw[ip,UQ];cases h:si (aW Φ e ρ)with
 |none=>rfl
 |some r=>cases r with
  |error c=>rfl
  |ok b=>cases b<;>simp[ip,bd,ok]
end
def qY(is:aM):Nat->bo->bo
 |_,[]=>[]
 |n,d::ρ=>(if n∈is then d.map (aA aK)else d)::qY is (n+1) ρ
theorem HG(is:aM):∀(ρ:bo) (n:Nat),ρ.mapIdx (λi d=>if i+n∈is then d.map (aA aK)else d)=qY is n ρ
 |[],_=>rfl
 |d::ρ,n=>by
  rw[List.mapIdx_cons,qY,<- HG is ρ (n+1)];simp only[Nat.zero_add,Nat.add_assoc,Nat.add_comm 1 n]
theorem vA(is:aM)(ρ:bo):jj is ρ=qY is 0 ρ:=by rw[<- HG];rfl
@[simp]theorem PL(is:aM)(n:Nat):qY is n []=[]:=rfl
@[simp]theorem Mc(is:aM)(n:Nat)(d:aH)(ρ:bo):qY is n (d::ρ)=(if n∈is then d.map (aA aK)else d)::qY is (n+1) ρ:=rfl
def cF(e:CE)(ρ:bo)(x:O D):O (D×bo):=bd x λd=>ok (keep e d ρ)
variable {ρ ρ1 ρ2:bo}
@[simp]theorem c_{e:CE}{d:D}(h:aU bD d=false):cF e ρ (ok d)=ok (d,ρ):=by
 show ok (keep e d ρ)=_;rw[keep,h];rfl
@[simp]theorem tH{e:CE}{d:D}(h:aU bD d=true):cF e ρ (ok d)=ok (aA aK d,qY (gJ e) 0 ρ):=by
 show ok (keep e d ρ)=_;rw[keep,h,<- vA];rfl
@[simp]theorem LU(e:CE)(ρ:bo)(c:Nat):cF e ρ (some (.error c))=some (.error c):=rfl
def Bw(i:Nat)(ρ:bo)(o:Option (aH)):O (D×bo):=match o with
 |some (some d)=>if aU eL d then ok (d,ρ.set i none)else ok (d,ρ)
 |_=>none
@[simp]theorem NX{i:Nat}{d:D}(h:aU eL d=true):Bw i ρ (some (some d))=ok (d,ρ.set i none):=aaO h
@[simp]theorem NY{i:Nat}{d:D}(h:aU eL d=false):Bw i ρ (some (some d))=ok (d,ρ):=ab8 (by rw[h];exact aad)
@[simp]theorem ZZ(Φ:aY)(i:Nat)(ρ:bo):iu Φ (.v i) ρ=Bw i ρ ρ[i]?:=rfl
noncomputable def LV:CE->Bool
 |.v _=>true
 |_=>false
@[simp]theorem V2(Φ:aY)(ρ:bo)(op:G5)(a b:CE):iu Φ (.bin op a b) ρ=cF (.bin op a b) ρ (aW Φ (.bin op a b) ρ):=rfl
@[simp]theorem V1(Φ:aY)(ρ:bo)(op:zR)(a b:CE):iu Φ (.cmp op a b) ρ=cF (.cmp op a b) ρ (aW Φ (.cmp op a b) ρ):=rfl
@[simp]theorem nu(Φ:aY)(ρ:bo)(f:Nat)(es:aE):iu Φ (.call f es) ρ=cF (.call f es) ρ (aW Φ (.call f es) ρ):=rfl
@[simp]theorem X_(Φ:aY)(ρ:bo)(f:Bf)(es:aE):iu Φ (.bf f es) ρ=cF (.bf f es) ρ (aW Φ (.bf f es) ρ):=rfl
@[simp]theorem VU(Φ:aY)(ρ:bo)(f:Nat)(es:aE):iu Φ (.bO f es) ρ=cF (.bO f es) ρ (aW Φ (.bO f es) ρ):=rfl
@[simp]theorem X8(Φ:aY)(ρ:bo)(a b:CE):iu Φ (.ix a b) ρ=cF (.ix a b) ρ (aW Φ (.ix a b) ρ):=rfl
@[simp]theorem VS(Φ:aY)(ρ:bo)(es:aE):iu Φ (.tup es) ρ=cF (.tup es) ρ (aW Φ (.tup es) ρ):=rfl
@[simp]theorem VY(Φ:aY)(ρ:bo)(es:aE):iu Φ (.lst es) ρ=cF (.lst es) ρ (aW Φ (.lst es) ρ):=rfl
@[simp]theorem Hw(Φ:aY)(ρ:bo)(i:Int):iu Φ (.int i) ρ=cF (.int i) ρ (aW Φ (.int i) ρ):=rfl
@[simp]theorem X9(Φ:aY)(ρ:bo)(i:Bool):iu Φ (.bl i) ρ=cF (.bl i) ρ (aW Φ (.bl i) ρ):=rfl
@[simp]theorem VW(Φ:aY)(ρ:bo): iu Φ (.bF) ρ=cF (.bF) ρ (aW Φ (.bF) ρ):=rfl
@[simp]theorem VX(Φ:aY)(ρ:bo)(a:CE):iu Φ (.neg a) ρ=cF (.neg a) ρ (aW Φ (.neg a) ρ):=rfl
@[simp]theorem VV(Φ:aY)(ρ:bo)(a:CE):iu Φ (.not a) ρ=cF (.not a) ρ (aW Φ (.not a) ρ):=rfl
@[simp]theorem V3(Φ:aY)(ρ:bo)(es:aE):iu Φ (.and es) ρ=cF (.and es) ρ (aW Φ (.and es) ρ):=rfl
@[simp]theorem X7(Φ:aY)(ρ:bo)(es:aE):iu Φ (.or es) ρ=cF (.or es) ρ (aW Φ (.or es) ρ):=rfl
@[simp]theorem VZ(Φ:aY)(ρ:bo)(a b c:CE):iu Φ (.ite a b c) ρ=cF (.ite a b c) ρ (aW Φ (.ite a b c) ρ):=rfl
@[simp]theorem SE(Φ:aY)(ρ:bo)(n:Nat)(t:Tg)(caps:aM)(ik:IK)(es bI:aE)(elt:CE):iu Φ (.comp n t caps ik es bI elt) ρ=cF (.comp n t caps ik es bI elt) ρ (aW Φ (.comp n t caps ik es bI elt) ρ):=rfl
@[simp]theorem VT(Φ:aY)(ρ:bo)(s:Str):iu Φ (.str s) ρ=cF (.str s) ρ (aW Φ (.str s) ρ):=rfl
@[simp]theorem V0(Φ:aY)(ρ:bo)(a:CE)(t:Ty):iu Φ (.jW a t) ρ=cF (.jW a t) ρ (aW Φ (.jW a t) ρ):=rfl
@[simp]theorem SD(Φ:aY)(ρ:bo)(a:CE):iu Φ (.lS a) ρ=cF (.lS a) ρ (aW Φ (.lS a) ρ):=rfl
theorem DJ(Φ:aY)(e:CE)(ρ:bo)(h:LV e=false):iu Φ e ρ=cF e ρ (aW Φ e ρ):=by cases e<;>first|rfl|cases h
@[simp]theorem LN(ρ:bo):ib [] [] ρ=ok ρ:=rfl
variable {ds xs:ab}{is:aM}
@[simp]theorem IV{i:Nat}{d:D}(h:i<ρ.length):ib (i::is) (d::ds) ρ=ib is ds (ρ.set i (some d)):=aaO h
@[simp]theorem QG{i:Nat}{d:D}(h:i<ρ.length):cu (.nm i) d ρ=ok (ρ.set i (some d)):=aaO h
@[simp]theorem QF(h:aN eL ds=false):cu (.tp is) (.tup ds) ρ=ib is ds ρ:=ab8 (by rw[h];exact aad)
def Lz(i:Nat)(r:O (D×bo)):O (Fo×bo):=bd r λr=>bd (cu (.nm i) r.1 r.2) λρ'=>ok (.nx,ρ')
@[simp]theorem ya{i:Nat}{d:D}(h:i<ρ.length):Lz i (ok (d,ρ))=ok (.nx,ρ.set i (some d)):=by
 show bd (cu (.nm i) d ρ) _=_;rw[cu,if_pos h];rfl
@[simp]theorem Qp(i:Nat)(c:Nat):Lz i (some (.error c))=some (.error c):=rfl
def Qo(is:aM)(r:O (D×bo)):O (Fo×bo):=bd r λr=>bd (cu (.tp is) r.1 r.2) λρ'=>ok (.nx,ρ')
@[simp]theorem Rj(h:aN eL ds=false):Qo is (ok (.tup ds,ρ))=bd (ib is ds ρ) λρ'=>ok (.nx,ρ'):=by
 show bd (cu (.tp is) (.tup ds) ρ) _=_;rw[cu,h];rfl
noncomputable def retS(r:O (D×bo)):O (Fo×bo):=bd r λr=>ok (.rt r.1,r.2)
@[simp]theorem QH(d:D)(ρ:bo):retS (ok (d,ρ))=ok (.rt d,ρ):=rfl
@[simp]theorem Nj(c:Nat):retS (some (.error c))=some (.error c):=rfl
noncomputable def UH(ρ:bo)(x:O D):O (Fo×bo):=bd x λ_=>ok (.nx,ρ)
@[simp]theorem UG(ρ:bo)(d:D):UH ρ (ok d)=ok (.nx,ρ):=rfl
@[simp]theorem Rb(ρ:bo)(c:Nat):UH ρ (some (.error c))=some (.error c):=rfl
noncomputable def o4(Φ:aY)(ss:ag)(r:O (Fo×bo)):O (Fo×bo):=bd r λr=>match r with
 | (.nx,ρ')=>aV Φ ss ρ'
 |r=>ok r
@[simp]theorem cX(Φ:aY)(ss:ag)(ρ:bo):o4 Φ ss (ok (.nx,ρ))=aV Φ ss ρ:=rfl
@[simp]theorem MH(Φ:aY)(ss:ag)(d:D)(ρ:bo):o4 Φ ss (ok (.rt d,ρ))=ok (.rt d,ρ):=rfl
@[simp]theorem LK(Φ:aY)(ss:ag)(c:Nat):o4 Φ ss (some (.error c))=some (.error c):=rfl
noncomputable def FP(Φ:aY)(a b:ag)(ρ:bo)(x:O Bool):O (Fo×bo):=bd x λk=>if k then aV Φ a ρ else aV Φ b ρ
@[simp]theorem SK(Φ:aY)(a b:ag)(ρ:bo):FP Φ a b ρ (ok true)=aV Φ a ρ:=rfl
@[simp]theorem SM(Φ:aY)(a b:ag)(ρ:bo):FP Φ a b ρ (ok false)=aV Φ b ρ:=rfl
@[simp]theorem Oj(Φ:aY)(a b:ag)(ρ:bo)(c:Nat):FP Φ a b ρ (some (.error c))=some (.error c):=rfl
def Qq(i:Nat)(r:O (D×bo)):O (Fo×bo):=bd r λr=>match vc r.2[i]? with
  |some ds=>if ds.length<fY then ok (.nx,r.2.set i (some (.lst .ow (ds++[r.1]))))else none
  |none=>none
@[simp]theorem Rk{i:Nat}{d:D}(h:ρ[i]?=some (some (.lst .ow ds)))(hl:ds.length<fY):Qq i (ok (d,ρ))=ok (.nx,ρ.set i (some (.lst .ow (ds++[d])))):=by
 show(match vc ρ[i]? with|some ds=>_|none=>_)=_;rw[h];exact aaO hl
section
variable (Φ:aY)(ρ:bo)
@[simp]theorem Vo:aV Φ [] ρ=ok (.nx,ρ):=rfl
@[simp]theorem bG(s:CS)(ss:ag):aV Φ (s::ss) ρ=o4 Φ ss (gx Φ s ρ):=rfl
@[simp]theorem jX(i:Nat)(e:CE):gx Φ (.asg (.nm i) e) ρ=Lz i (iu Φ e ρ):=rfl
@[simp]theorem Ro(is:aM)(e:CE):gx Φ (.asg (.tp is) e) ρ=Qo is (iu Φ e ρ):=rfl
@[simp]theorem G6(e:CE):gx Φ (.ret e) ρ=retS (iu Φ e ρ):=rfl
theorem oW(c:CE)(b:ag):gx Φ (.Im c b) ρ=fF (λρ=>bd (uF Φ c ρ) λk=>if k then bd (aV Φ b ρ) λr=>match r with
   | (.nx,ρ')=>ok (.inl ρ')
   | (.rt d,ρ')=>ok (.inr (.rt d,ρ'))
  else ok (.inr (.nx,ρ))) ρ:=rfl
theorem Mr(i j:Nat)(a b:CE):gx Φ (.par i j a b) ρ=bd (aW Φ a ρ) λx=>bd (aW Φ b ρ) λy=>if aU anyF x=false/\aU anyF y=false/\i<ρ.length/\j<ρ.length then ok (.nx,(ρ.set i (some x)).set j (some y))else none:=rfl
@[simp]theorem Xf(c:Nat):gx Φ (.rs c) ρ=some (.error c):=rfl
@[simp]theorem Xg(e:CE):gx Φ (.ex e) ρ=UH ρ (aW Φ e ρ):=rfl
@[simp]theorem uK(c:CE)(a b:ag):gx Φ (.ifs c a b) ρ=FP Φ a b ρ (si (aW Φ c ρ)):=rfl
@[simp]theorem Vp(i:Nat)(e:CE):gx Φ (.app i e) ρ=Qq i (iu Φ e ρ):=rfl
end
noncomputable def mk(Φ:aY)(ar n:Nat)(b:ag):aw:=λds=>if ds.length=ar then ql Φ n b ds else none
noncomputable def jk(r:O (Fo×bo)):O D:=bd r λr=>match r.1 with
 |.nx=>ok .bF
 |.rt d=>ok d
@[simp]theorem Rf(ρ:bo):jk (ok (.nx,ρ))=ok .bF:=rfl
@[simp]theorem Rc(d:D)(ρ:bo):jk (ok (.rt d,ρ))=ok d:=rfl
@[simp]theorem PU(c:Nat):jk (some (.error c))=some (.error c):=rfl
variable {ar:Nat}{Φ:aY}
theorem mk_eq{n:Nat}{b:ag}(h:ds.length=ar):mk Φ ar n b ds=jk (aV Φ b (ds.map some++List.replicate (n - ds.length) none)):=aaO h
theorem vg{n:Nat}{b:ag}(ds:ab)(r:D)(h:mk Φ ar n b ds=ok r):ds.length=ar/\ql Φ n b ds=ok r:=by
 unfold mk at h;split at h
 ·rename_i hl;exact⟨hl,h⟩
 ·cases h
theorem Int.beq_eq_decide_eq(i j:Int):(i==j)=decide (i=j):=rfl
section
variable (g:Fl->Fl)(p:Fl->Bool)
@[simp]theorem FA(b:Bool):aA g (.bl b)=.bl b:=rfl
@[simp]theorem tj(b:Int):aA g (.int b)=.int b:=rfl
@[simp]theorem N1:aA g .bF=.bF:=rfl
@[simp]theorem N0(s:Str):aA g (.str s)=.str s:=rfl
@[simp]theorem Bz(ds:ab):aA g (.tup ds)=.tup (av g ds):=rfl
@[simp]theorem N2(f:Fl)(ds:ab):aA g (.lst f ds)=.lst (g f) (av g ds):=rfl
@[simp]theorem N3(f:Fl)(ks:au)(vs:ab):aA g (.cM f ks vs)=.cM (g f) ks (av g vs):=rfl
@[simp]theorem LQ:av g []=[]:=rfl
@[simp]theorem JT(d:D)(ds:ab):av g (d::ds)=aA g d::av g ds:=rfl
@[simp]theorem LS(a b:ab):av g (a++b)=av g a++av g b:=by simp only[aO,List.map_append]
@[simp]theorem LR(ds:ab):(av g ds).length=ds.length:=by rw[aO,List.length_map]
theorem dh{α:Type}{e:α->D}(h:∀x,aA g (e x)=e x)(xs:List α):av g (xs.map e)=xs.map e:=by
 rw[aO,List.map_map];exact aam λx _=>h x
theorem cK{α:Type}{e:α->D}(h:∀x,aU p (e x)=false):∀xs:List α,aN p (xs.map e)=false
 |[]=>by rw[List.map_nil,aN]
 |x::xs=>by rw[List.map_cons,aN,h x,cK h xs];rfl
@[simp]theorem F6(b:Bool):aU p (.bl b)=false:=abP rfl
@[simp]theorem kc(b:Int):aU p (.int b)=false:=abP rfl
@[simp]theorem Pa:aU p .bF=false:=abP rfl
@[simp]theorem O_(s:Str):aU p (.str s)=false:=abP rfl
@[simp]theorem O9(ds:ab):aU p (.tup ds)=aN p ds:=abP rfl
@[simp]theorem Ci(f:Fl)(ds:ab):aU p (.lst f ds)=(p f||aN p ds):=abP rfl
@[simp]theorem Pb(f:Fl)(ks:au)(vs:ab):aU p (.cM f ks vs)=(p f||aN p vs):=abP rfl
@[simp]theorem L9:aN p []=false:=abP rfl
@[simp]theorem Ku(d:D)(ds:ab):aN p (d::ds)=(aU p d||aN p ds):=abP rfl
@[simp]theorem yX:∀a b:ab,aN p (a++b)=(aN p a||aN p b)
 |[],b=>by simp
 |d::a,b=>by simp[yX a b,Bool.or_assoc]
@[simp]theorem nh(ns:aa):av g (ns.map D.int)=ns.map D.int:=dh g (tj g) ns
@[simp]theorem vy(ns:aa):aN p (ns.map D.int)=false:=cK p (kc p) ns
@[simp]theorem yH(ns:List Bool):av g (ns.map D.bl)=ns.map D.bl:=dh g (FA g) ns
@[simp]theorem yW(ns:List Bool):aN p (ns.map D.bl)=false:=cK p (F6 p) ns
@[simp]theorem LW(t:Ty)(d:D):bJ t (aA g d)=bJ t d:=by cases d<;>cases t<;>rfl
end
@[simp]theorem KW:aP .ow=.al:=rfl
@[simp]theorem KY:aP .fz=.fz:=rfl
@[simp]theorem KZ:aP .al=.al:=rfl
@[simp]theorem KV:aP .sc=.sc:=rfl
@[simp]theorem KR:aK .ow=.fz:=rfl
@[simp]theorem KS:aK .fz=.fz:=rfl
@[simp]theorem KU:aK .al=.fz:=rfl
@[simp]theorem KQ:aK .sc=.sc:=rfl
@[simp]theorem Lb:gB .ow=.ow:=rfl
@[simp]theorem Lc:gB .fz=.al:=rfl
@[simp]theorem Ld:gB .al=.al:=rfl
@[simp]theorem La:gB .sc=.sc:=rfl
@[simp]theorem K8:bD .ow=false:=rfl
@[simp]theorem K9:bD .fz=false:=rfl
@[simp]theorem K_:bD .al=true:=rfl
@[simp]theorem K7:bD .sc=false:=rfl
@[simp]theorem K4:eL .ow=true:=rfl
@[simp]theorem K5:eL .fz=false:=rfl
@[simp]theorem K6:eL .al=false:=rfl
@[simp]theorem K3:eL .sc=false:=rfl
@[simp]theorem K0:iO .ow=false:=rfl
@[simp]theorem K1:iO .fz=false:=rfl
@[simp]theorem K2:iO .al=false:=rfl
noncomputable def ae(ns:aa):ab:=ns.map D.int
noncomputable def ku(ns:List Bool):ab:=ns.map D.bl
@[simp]theorem LY(ns:aa):(ae ns).length=ns.length:=abV ..
@[simp]theorem Qk(ns:List Bool):(ku ns).length=ns.length:=abV ..
@[simp]theorem LX:ae []=[]:=rfl
@[simp]theorem Ki(n:Int)(ns:aa):ae (n::ns)=.int n::ae ns:=rfl
@[simp]theorem Kh(ns:aa)(n:Int):ae ns++[.int n]=ae (ns++[n]):=by simp[ae]
@[simp]theorem je(ns:aa)(i:Nat):(ae ns)[i]?=ns[i]?.map D.int:=List.getElem?_map ..
@[simp]theorem bh(g:Fl->Fl)(ns:aa):av g (ae ns)=ae ns:=nh g ns
@[simp]theorem eY(p:Fl->Bool)(ns:aa):aN p (ae ns)=false:=vy p ns
@[simp]theorem JU(g:Fl->Fl)(ns:List Bool):av g (ku ns)=ku ns:=yH g ns
@[simp]theorem Kv(p:Fl->Bool)(ns:List Bool):aN p (ku ns)=false:=yW p ns
@[simp]theorem HM(i j:Int):bM .add (.int i) (.int j)=ok (.int (i+j)):=rfl
@[simp]theorem WY(i j:Int):bM .sub (.int i) (.int j)=ok (.int (i - j)):=rfl
theorem jv{i j:Int}(h:ie i j=true):bM .mul (.int i) (.int j)=ok (.int (i*j)):=aaO h
theorem gY{i j:Int}(h:pO j=true):bM .fdiv (.int i) (.int j)=ok (.int (i.fdiv j)):=aaO h
@[simp]theorem iW{i j:Int}(h:j≠0):bM .mod (.int i) (.int j)=ok (.int (i.fmod j)):=aaO h
theorem HL{i j:Int}(h:wR i j=true):bM .pow (.int i) (.int j)=ok (.int (i ^ j.toNat)):=aaO h
@[simp]theorem VQ(i:Int):Fx (.int i)=ok (.int (-i)):=rfl
theorem mulOk_of{i j:Int}(h:i.natAbs<2 ^ 9000)(h':j.natAbs<2 ^ 9000):ie i j=true:=by
 simp only[ie,big,h,h',decide_true,Bool.and_self,Bool.or_true]
theorem iJ{n:Nat}(h:n<2 ^ 64):n<2 ^ 9000:=aak h (aaG (by decide) (by decide))
theorem qC{i:Int}(j:Int)(h:i.natAbs<2 ^ 64):ie i j=true:=by simp only[ie,h,decide_true,Bool.true_or]
theorem Fz{j:Int}(i:Int)(h:j.natAbs<2 ^ 64):ie i j=true:=by simp only[ie,h,decide_true,Bool.true_or,Bool.or_true]
theorem d_{j:Int}(h0:j≠0)(h:j.natAbs<2 ^ 9000):pO j=true:=by
 simp only[pO,big,h,decide_true,Bool.and_true,decide_eq_true_eq];exact h0
@[simp]theorem GR{i j:Int}(h:j.natAbs<2 ^ 64):bM .mul (.int i) (.int j)=ok (.int (i*j)):=jv (Fz i h)
@[simp]theorem x4{i j:Int}(h:i.natAbs<2 ^ 64):bM .mul (.int i) (.int j)=ok (.int (i*j)):=jv (qC j h)
@[simp]theorem ur{i j:Int}(h0:j≠0)(h:j.natAbs<2 ^ 64):bM .fdiv (.int i) (.int j)=ok (.int (i.fdiv j)):=gY (d_ h0 (iJ h))
theorem GO{a b:D}(ha:eA 40 a=true)(hb:eA 40 b=true):dH .eq a b=ok (.bl (kj a b)):=by
 show(if eA 40 a&&eA 40 b then _ else _)=_;rw[ha,hb];rfl
theorem Qi{a b:D}(ha:eA 40 a=true)(hb:eA 40 b=true):dH .ne a b=ok (.bl (!kj a b)):=by
 show(if eA 40 a&&eA 40 b then _ else _)=_;rw[ha,hb];rfl
@[simp]theorem gQ(n:Nat)(i:Int):eA n (.int i)=true:=by cases n<;>rfl
@[simp]theorem So(n:Nat)(i:Bool):eA n (.bl i)=true:=by cases n<;>rfl
@[simp]theorem QQ(n:Nat):eA n .bF=true:=by cases n<;>rfl
@[simp]theorem QP(n:Nat)(i:Str):eA n (.str i)=true:=by cases n<;>rfl
@[simp]theorem Fn(n:Nat)(ds:ab):eA (n+1) (.tup ds)=ds.all (eA n):=rfl
@[simp]theorem w6(n:Nat)(f:Fl)(ds:ab):eA (n+1) (.lst f ds)=ds.all (eA n):=rfl
@[simp]theorem Sd(i j:Int):dH .eq (.int i) (.int j)=ok (.bl (decide (i=j))):=by rw[GO (gQ _ _) (gQ _ _)];show ok (D.bl (i==j))=_;rw[Int.beq_eq_decide_eq]
@[simp]theorem Sb(i j:Int):dH .ne (.int i) (.int j)=ok (.bl (!decide (i=j))):=by rw[Qi (gQ _ _) (gQ _ _)];show ok (D.bl (!(i==j)))=_;rw[Int.beq_eq_decide_eq]
@[simp]theorem XS(i j:Int):dH .lt (.int i) (.int j)=ok (.bl (decide (i<j))):=rfl
@[simp]theorem XT(i j:Int):dH .le (.int i) (.int j)=ok (.bl (decide (i<=j))):=rfl
@[simp]theorem XU(i j:Int):dH .gt (.int i) (.int j)=ok (.bl (decide (j<i))):=rfl
@[simp]theorem XW(i j:Int):dH .ge (.int i) (.int j)=ok (.bl (decide (j<=i))):=rfl
@[simp]theorem Wa(ds:ab)(i:Int):BN (.tup ds) (.int i)=mx ds i:=rfl
@[simp]theorem Wb(f:Fl)(ds:ab)(i:Int):BN (.lst f ds) (.int i)=mx ds i:=rfl
theorem oh{n:Nat}{d:D}(h:ds[n]?=some d):mx ds (n:Int)=ok (aA aP d):=by
 have hn:n<ds.length:=(List.getElem?_eq_some_iff.mp h).1;have e:qJ ds.length (n:Int)=some n:=by unfold qJ;rw[if_pos (by left),if_pos (by left)];rfl
 unfold mx;rw[e,Option.bind_some,h]
theorem at_of{i:Int}{d:D}(h0:0<=i)(h:ds[i.toNat]?=some d):mx ds i=ok (aA aP d):=by
 have:=oh h
 rwa [show((i.toNat:Nat):Int)=i by left]at this
@[simp]theorem ZD(d:D)(ds:ab):mx (d::ds) 0=ok (aA aP d):=oh (n:=0) rfl
@[simp]theorem ZC(a d:D)(ds:ab):mx (a::d::ds) 1=ok (aA aP d):=oh (n:=1) rfl
@[simp]theorem ZA(a b d:D)(ds:ab):mx (a::b::d::ds) 2=ok (aA aP d):=oh (n:=2) rfl
@[simp]theorem Q_(ds:ab):n9 .len [.tup ds]=ok (.int ds.length):=rfl
@[simp]theorem Ra(f:Fl)(ds:ab):n9 .len [.lst f ds]=ok (.int ds.length):=rfl
@[simp]theorem WK(i:Int):n9 .abs [.int i]=ok (.int i.natAbs):=by
 show ok (D.int (if i<0 then -i else i))=_;congr 2;split<;>left
@[simp]theorem PQ(f:Fl)(ds:ab):n9 .list1 [.lst f ds]=ok (.lst .ow (av aP ds)):=rfl
@[simp]theorem PN(ds:ab):n9 .list1 [.tup ds]=ok (.lst .ow (av aP ds)):=rfl
@[simp]theorem Q9(f:Fl)(ds:ab):n9 .tuple1 [.lst f ds]=ok (.tup (av aP ds)):=rfl
@[simp]theorem HH(f:Fl)(ns:aa):n9 .jz [.lst f (ae ns)]=ok (.int ns.sum):=by
 show(match intsOf (ns.map D.int)with|some ns=>_|none=>_)=_;rw[bA]
@[simp]theorem WJ(f:Fl)(bs:List Bool):n9 .all1 [.lst f (ku bs)]=ok (.bl (bs.all id)):=by
 show(match iV (bs.map D.bl)with|some ns=>_|none=>_)=_;rw[kZ]
variable {ns:aa}
@[simp]theorem Gb(h:ns.length<64):n9 .gN [.tup (ae ns)]=ok (.lst .ow (ae (sortI ns))):=by
 show sE _=_;unfold sE ae;rw[bA];exact aaO h
@[simp]theorem Le(h:ns.length<4000):xa (.tup (ae ns))=ok (.int (eB ns).length):=by
 show(match intsOf (ns.map D.int)with|some ns=>_|none=>_)=_;rw[bA];exact aaO h
@[simp]theorem me(i j:Int):kj (.int i) (.int j)=decide (i=j):=by show(i==j)=_;rw[Int.beq_eq_decide_eq]
@[simp]theorem UL(i j:Bool):kj (.bl i) (.bl j)=(i==j):=rfl
@[simp]theorem Gg(a b:ab):kj (.tup a) (.tup b)=fu a b:=rfl
@[simp]theorem Gh(f g:Fl)(a b:ab):kj (.lst f a) (.lst g b)=fu a b:=rfl
@[simp]theorem CD:fu [] []=true:=rfl
@[simp]theorem kW(a b:D)(as bs:ab):fu (a::as) (b::bs)=(kj a b&&fu as bs):=rfl
theorem nM:∀{as bs:ab},fu as bs=true->as.length=bs.length
 |[],[],_=>rfl
 |[],_::_,h=>(aad h).elim
 |_::_,[],h=>(aad h).elim
 |a::as,b::bs,h=>by
  replace h:(_&&_)=true:=h;rw[Bool.and_eq_true]at h;rw[List.length_cons,List.length_cons,nM h.2]
theorem ki{α:Type}{e:α->D}[DecidableEq α](h:∀x y,kj (e x) (e y)=decide (x=y)):∀xs ys:List α,fu (xs.map e) (ys.map e)=decide (xs=ys)
 |[],[]=>by simp
 |[],y::ys=>by
  cases z:fu ([].map e) ((y::ys).map e)with
  |true=>have:=nM z;simp at this
  |false=>simp
 |x::xs,[]=>by
  cases z:fu ((x::xs).map e) ([].map e)with
  |true=>have:=nM z;simp at this
  |false=>simp
 |x::xs,y::ys=>by
  rw[List.map_cons,List.map_cons,kW,h,ki h xs ys];by_cases e1:x=y<;>by_cases e2:xs=ys<;>simp[e1,e2]
theorem qx{α:Type}{e:α->D}{n:Nat}(h:∀x,eA n (e x)=true)(xs:List α):(xs.map e).all (eA n)=true:=by
 rw[List.all_map];exact List.all_eq_true.mpr λx _=>h x
theorem bX{bind:D->O bo}{test:bo->O Bool}{el:bo->O D}{α:Type}{e:α->D}{g:α->D}:∀{xs:List α},(∀x∈xs,∃ρ,bind (e x)=ok ρ/\test ρ=ok true/\el ρ=ok (g x))->iq bind test el (xs.map e)=ok (xs.map g)
 |[],_=>rfl
 |x::xs,h=>by
  obtain⟨ρ,h1,h2,h3⟩:=h x (aae ..);have ih:=bX (xs:=xs) λy hy=>h y (aaf _ hy);rw[List.map_cons,iq,h1,cR,h2,cR,if_pos rfl,h3,cR,ih];rfl
theorem e_{bind:D->O bo}{test:bo->O Bool}{el:bo->O D}{α:Type}{e:α->D}{g:α->D}{t:α->Bool}:∀{xs:List α},(∀x∈xs,∃ρ,bind (e x)=ok ρ/\test ρ=ok (t x)/\(t x=true->el ρ=ok (g x)))->iq bind test el (xs.map e)=ok ((xs.filter t).map g)
 |[],_=>rfl
 |x::xs,h=>by
  obtain⟨ρ,h1,h2,h3⟩:=h x (aae ..);have ih:=e_ (xs:=xs) λy hy=>h y (aaf _ hy);rw[List.map_cons,iq,h1,cR,h2,cR,List.filter_cons];cases ht:t x with
  |true=>rw[if_pos rfl,h3 ht,cR,ih,if_pos rfl];rfl
  |false=>rw[if_neg Bool.false_ne_true,ih,if_neg Bool.false_ne_true]
section
variable {Φ:aY}{n:Nat}{t:Tg}{caps:aM}{ik:IK}{es bI:aE}{elt:CE}{ρ:bo}{xs items ds:ab}
theorem cQ(h1:cP Φ es ρ=ok xs)(h2:eK Φ ik xs=ok items)
  (h3:iq (λd=>cu t d (bK n caps ρ)) (λρ'=>ip Φ bI ρ') (λρ'=>aW Φ elt ρ') items=ok ds) (hl:ds.length<=fY):aW Φ (.comp n t caps ik es bI elt) ρ=ok (.lst .ow (av gB ds)):=by
 show bd (cP Φ es ρ) _=_;rw[h1,cR,h2,cR,h3,cR,if_pos hl]
end
theorem qL(Φ:aY)(ds:ab):eK Φ .seq [.tup ds]=ok (av aK ds):=rfl
theorem dX(Φ:aY)(f:Fl)(ds:ab):eK Φ .seq [.lst f ds]=ok (av aK ds):=rfl
theorem qM(Φ:aY){n:Int}(h0:0<=n)(h:n<=1000000):eK Φ .kF [.int n]=ok ((List.range n.toNat).map λ(k:Nat)=>D.int (k:Int)):=by
 show(if n<=(fY:Int) /\ -(fY:Int)<=n then _ else _)=_;have:(fY:Int)=1000000:=rfl;rw[if_pos (by left)]
theorem b6{n:Nat}(h:n<=1000000):n<=fY:=h
theorem fZ{t:Tg}{it:CI}{b:ag}{items:ab}{r:O (Fo×bo)}(h:eI Φ it ρ=ok (items,ρ1))(h':dG (λd ρ=>cu t d ρ) (λρ=>aV Φ b ρ) items ρ1=r):gx Φ (.fr t it b) ρ=r:=by
 show bd (eI Φ it ρ) _=_;rw[h];exact h'
theorem rb(bind:D->bo->O bo)(body:bo->O (Fo×bo))(ρ:bo):dG bind body [] ρ=ok (.nx,ρ):=rfl
theorem dF{bind:D->bo->O bo}{body:bo->O (Fo×bo)}{x:D}{r:O (Fo×bo)}(h1:bind x ρ=ok ρ1)(h2:body ρ1=ok (.nx,ρ2))(h3:dG bind body xs ρ2=r):dG bind body (x::xs) ρ=r:=by
 rw[dG,h1,cR,h2];exact h3
theorem dZ{bind:D->bo->O bo}{body:bo->O (Fo×bo)}{x y:D}(h1:bind x ρ=ok ρ1)(h2:body ρ1=ok (.rt y,ρ2)):dG bind body (x::xs) ρ=ok (.rt y,ρ2):=by
 rw[dG,h1,cR,h2];rfl
theorem yK{a:CE}{n:Int}(h:aW Φ a ρ=ok (.int n))(h0:0<=n)(h1:n<=1000000):eI Φ (.kF a) ρ=ok ((List.range n.toNat).map λ(k:Nat)=>D.int (k:Int),ρ):=by
 show bd (aW Φ a ρ) _=_;rw[h];show(if n<=(fY:Int) /\ -(fY:Int)<=n then _ else _)=_;have:(fY:Int)=1000000:=rfl;rw[if_pos (by left)]
theorem BQ{a:CE}{f:Fl}(h:aW Φ a ρ=ok (.lst f ds)):eI Φ (.seq a) ρ=ok (av aK ds,if (bD f||aN bD ds)then qY (gJ a) 0 ρ else ρ):=by
 show bd (aW Φ a ρ) _=_;rw[h,<- vA];show ok (_,if aU bD (.lst f ds)then _ else _)=_;rw[Ci]
noncomputable def fN(t b:Int):Int:=if b<0 then -(Int.gcd t b:Int)else(Int.gcd t b:Int)
def JN(t b:Int):Int:=t.fdiv (fN t b)
def JO(t b:Int):Int:=b.fdiv (fN t b)
theorem xA{t b:Int}(h:b≠0):0<Int.gcd t b:=Int.gcd_pos_of_ne_zero_right t h
theorem jI{t b:Int}(h:b≠0):fN t b≠0:=by
 have:=xA (t:=t) h;unfold fN;split<;>left
theorem KI{t b:Int}(h:b≠0):Int.gcd t b<=b.natAbs:=abL (by left) (Nat.gcd_dvd_right _ _)
theorem Gx{t b:Int}(h:b≠0):(fN t b).natAbs<=b.natAbs:=by
 have:=KI (t:=t) h;unfold fN;split<;>left
theorem mZ{t b:Int}(h:b≠0):∃t' b':Int,t=fN t b*t'/\b=fN t b*b'/\JN t b=t'/\JO t b=b'/\1<=b'/\Int.gcd t' b'=1:=by
 have hg:=xA (t:=t) h;obtain⟨t1,ht⟩:(Int.gcd t b:Int)∣t:=Int.gcd_dvd_left ..;obtain⟨b1,hb⟩:(Int.gcd t b:Int)∣b:=Int.gcd_dvd_right ..;have hc:Int.gcd t1 b1=1:=by
  have e:Int.gcd ((Int.gcd t b:Int)*t1) ((Int.gcd t b:Int)*b1)=Int.gcd t b*Int.gcd t1 b1:=by
   rw[Int.gcd_mul_left];simp
  rw[<- ht,<- hb]at e;have:Int.gcd t b*1=Int.gcd t b*Int.gcd t1 b1:=by rw[Nat.mul_one];exact e
  exact(Nat.eq_of_mul_eq_mul_left hg this).symm
 by_cases hn:b<0
 ·have ed:fN t b = -(Int.gcd t b:Int):=by simp[fN,hn]
  have e1:t=fN t b*(-t1):=by rw[ed,Int.neg_mul_neg];exact ht
  have e2:b=fN t b*(-b1):=by rw[ed,Int.neg_mul_neg];exact hb
  refine⟨-t1,-b1,e1,e2,?_,?_,?_,by rw[Int.gcd_neg,Int.neg_gcd];exact hc⟩
  ·unfold JN
   conv=>lhs;arg 1;rw[e1]
   exact aa8 _ (jI h)
  ·unfold JO
   conv=>lhs;arg 1;rw[e2]
   exact aa8 _ (jI h)
  ·have:b1<0:=by
    by_cases TZ:b1<0
    ·exact TZ
    ·have:0<=(Int.gcd t b:Int)*b1:=acp (by left) (by left);left
   left
 ·have ed:fN t b=(Int.gcd t b:Int):=by simp[fN,hn]
  have e1:t=fN t b*t1:=by rw[ed];exact ht
  have e2:b=fN t b*b1:=by rw[ed];exact hb
  refine⟨t1,b1,e1,e2,?_,?_,?_,hc⟩
  ·unfold JN
   conv=>lhs;arg 1;rw[e1]
   exact aa8 _ (jI h)
  ·unfold JO
   conv=>lhs;arg 1;rw[e2]
   exact aa8 _ (jI h)
  ·have:0<b1:=by
    by_cases TZ:0<b1
    ·exact TZ
    ·have:(Int.gcd t b:Int)*b1<=0:=Int.mul_nonpos_of_nonneg_of_nonpos (by left) (by left);left
   left
noncomputable def qD(q:Rat):D:=.tup [.int q.num,.int q.den]
@[simp]theorem JV(g:Fl->Fl)(q:Rat):aA g (qD q)=qD q:=by unfold qD;simp
@[simp]theorem Kx(g:Fl->Bool)(q:Rat):aU g (qD q)=false:=by unfold qD;simp
noncomputable def bu(qs:aQ):ab:=qs.map qD
@[simp]theorem QL(qs:aQ):(bu qs).length=qs.length:=abV ..
@[simp]theorem QK:bu []=[]:=rfl
@[simp]theorem Nt(q:Rat)(qs:aQ):bu (q::qs)=qD q::bu qs:=rfl
@[simp]theorem Nr(qs:aQ)(q:Rat):bu qs++[qD q]=bu (qs++[q]):=by simp[bu]
@[simp]theorem ES(qs:aQ)(i:Nat):(bu qs)[i]?=qs[i]?.map qD:=List.getElem?_map ..
@[simp]theorem QJ(qs:aQ)(i:Nat)(q:Rat):(bu qs).set i (qD q)=bu (qs.set i q):=by unfold bu;rw[List.map_set]
@[simp]theorem NZ(g:Fl->Fl)(qs:aQ):av g (bu qs)=bu qs:=dh g (JV g) qs
@[simp]theorem O8(g:Fl->Bool)(qs:aQ):aN g (bu qs)=false:=cK g (Kx g) qs
theorem w8(n:Nat)(q:Rat):eA (n+1) (qD q)=true:=by
 unfold qD;rw[Fn,List.all_cons,List.all_cons,gQ,gQ];rfl
theorem CF(p q:Rat):kj (qD p) (qD q)=decide (p=q):=by
 unfold qD;rw[Gg,kW,kW,CD,me,me,Bool.and_true];by_cases h:p=q
 ·subst h;simp
 ·rw[decide_eq_false h];cases e1:decide (p.num=q.num)with
  |false=>rfl
  |true =>
   cases e2:decide ((p.den:Int)=(q.den:Int))with
   |false=>rfl
   |true =>
    refine absurd (Rat.ext (by simpa using e1) ?_) h;have:(p.den:Int)=q.den:=by simpa using e2
    left
@[simp]theorem V5(q:Rat):BN (qD q) (.int 0)=ok (.int q.num):=by unfold qD;simp
@[simp]theorem V4(q:Rat):BN (qD q) (.int 1)=ok (.int q.den):=by unfold qD;simp
theorem q_{t b:Int}(hb:b≠0):t.fdiv (fN t b)=(Rat.divInt t b).num/\b.fdiv (fN t b)=((Rat.divInt t b).den:Int):=by
 obtain⟨t',b',e1,e2,h1,h2,h3,h4⟩:=mZ (t:=t) hb;have hd:=jI (t:=t) hb;have e:Rat.divInt t b=Rat.divInt t' b':=by
  generalize fN t b=d at *;rw[e1,e2];exact Rat.divInt_mul_left hd
 obtain⟨n,rfl⟩:∃n:Nat,b'=(n:Int):=⟨b'.toNat,by left⟩
 have hc:t'.natAbs.Coprime n:=by
  have:Nat.gcd t'.natAbs n=1:=by simpa [Int.gcd]using h4
  exact this
 have hn:n≠0:=by left
 have e3:Rat.divInt t' (n:Int)=⟨t',n,hn,hc⟩:=Rat.mk_eq_divInt.symm;rw[e,e3];exact⟨h1,h2⟩
theorem kP(q:Rat):(q.den:Int)≠0:=by have:=q.den_pos;left
theorem A0(q:Rat):(1:Int)<=q.den:=by have:=q.den_pos;left
theorem gf(q:Rat):Rat.divInt q.num q.den=q:=Rat.num_divInt_den q
theorem wM{t b:Int}(hb:b≠0):(Rat.divInt t b).num.natAbs<=t.natAbs/\(Rat.divInt t b).den<=b.natAbs:=by
 obtain⟨t',b',e1,e2,h1,h2,h3,h4⟩:=mZ (t:=t) hb;obtain⟨g1,g2⟩:=q_ (t:=t) hb;have hd:1<=(fN t b).natAbs:=by have:=jI (t:=t) hb;left
 rw[show t.fdiv (fN t b)=t' from h1]at g1;rw[show b.fdiv (fN t b)=b' from h2]at g2;refine⟨?_,?_⟩
 ·rw[<- g1];have:t.natAbs=(fN t b).natAbs*t'.natAbs:=by rw[<- Int.natAbs_mul,<- e1]
  rw[this];exact Nat.le_mul_of_pos_left _ hd
 ·have hz:(Rat.divInt t b).den=b'.natAbs:=by left
  rw[hz];have:b.natAbs=(fN t b).natAbs*b'.natAbs:=by rw[<- Int.natAbs_mul,<- e2]
  rw[this];exact Nat.le_mul_of_pos_left _ hd
theorem Hl(p q:Rat):p+q=Rat.divInt (p.num*q.den+q.num*p.den) (p.den*q.den):=by
 conv=>lhs;rw[<- gf p,<- gf q]
 exact Rat.divInt_add_divInt _ _ (kP p) (kP q)
theorem Hk(p q:Rat):p*q=Rat.divInt (p.num*q.num) (p.den*q.den):=by
 conv=>lhs;rw[<- gf p,<- gf q]
 exact Rat.divInt_mul_divInt _ _
def Sm(k:Nat)(q:Rat):Prop:=q.num.natAbs<2 ^ k/\q.den<2 ^ k
theorem Sm.mono{k l:Nat}{q:Rat}(h:Sm k q)(hl:k<=l):Sm l q :=
 ⟨aak h.1 (aaG (by decide) hl),aak h.2 (aaG (by decide) hl)⟩
theorem dM{a b k l:Nat}(h:a<2 ^ k)(h':b<2 ^ l):a*b<2 ^ (k+l):=by
 rw[Nat.pow_add];exact Nat.mul_lt_mul'' h h'
theorem GY(a b:Int):(a+b).natAbs<=a.natAbs+b.natAbs:=Int.natAbs_add_le a b
section
variable {k l:Nat}{p q:Rat}
theorem Sm.den(h:Sm k p)(h':Sm l q):((p.den:Int)*q.den).natAbs<2 ^ (k+l):=by
 rw[Int.natAbs_mul];exact dM (by simpa using h.2) (by simpa using h'.2)
theorem Sm.add(h:Sm k p)(h':Sm l q):Sm (k+l+1) (p+q):=by
 have hb:(p.den:Int)*q.den≠0:=acn (kP p) (kP q);obtain⟨g1,g2⟩:=wM (t:=p.num*q.den+q.num*p.den) hb;rw[<- Hl]at g1 g2;have n1:(p.num*q.den).natAbs<2 ^ (k+l):=by rw[Int.natAbs_mul];exact dM h.1 (by simpa using h'.2)
 have n2:(q.num*p.den).natAbs<2 ^ (k+l):=by rw[Int.natAbs_mul,Nat.add_comm];exact dM h'.1 (by simpa using h.2)
 have:=GY (p.num*q.den) (q.num*p.den);have e:2 ^ (k+l+1)=2 ^ (k+l)*2:=Nat.pow_succ ..;have d:=h.den h';exact⟨by left,by left⟩
theorem Sm.mul(h:Sm k p)(h':Sm l q):Sm (k+l) (p*q):=by
 have hb:(p.den:Int)*q.den≠0:=acn (kP p) (kP q);obtain⟨g1,g2⟩:=wM (t:=p.num*q.num) hb;rw[<- Hk]at g1 g2;have n1:(p.num*q.num).natAbs<2 ^ (k+l):=by rw[Int.natAbs_mul];exact dM h.1 h'.1
 have d:=h.den h';exact⟨by left,by left⟩
theorem Sm.big(h:Sm k p)(hk:k<=9000):p.num.natAbs<2 ^ 9000/\(p.den:Int).natAbs<2 ^ 9000:=by
 have:=h.mono hk;exact⟨this.1,by simpa using this.2⟩
end
def bN(d:D):Bool:=bJ .int d&&!bJ .bool d
def eO(m:aw):Prop:=∀d,m [d]=ok (.bl (bN d))
noncomputable def gX:ag:=[.ret (.and [(.jW (.v 0) .int),(.not (.jW (.v 0) .bool))])]
theorem u0(Φ:aY):eO (mk Φ 1 1 gX):=by
 intro d;simp[mk_eq,gX,bN]
theorem nH(a:Int){b:Int}(h:b≠0):(a.fmod b).natAbs<b.natAbs:=by
 rcases Int.lt_or_gt_of_ne h with hb|hb
 ·have e:=Int.neg_fmod_neg a b;have h1:=abI (-a) (show 0 < -b by left);have h2:=acb (-a) (show 0 < -b by left);left
 ·have h1:=abI a hb;have h2:=acb a hb;left
theorem Cq(a b:Int):Int.gcd b (a.fmod b)=Int.gcd a b:=by
 rw[Int.fmod_def,Int.gcd_sub_mul_left_right,Int.gcd_comm]
def bB(m:aw):Prop:=∀a b:Int,m [.int a,.int b]=ok (.int (Int.gcd a b))
noncomputable def zZ:CS:=.Im (.cmp .ne (.v 1) (.int 0)) [.asg (.nm 2) (.bin .mod (.v 0) (.v 1)),.asg (.nm 0) (.v 1),.asg (.nm 1) (.v 2)]
def dj:ag:=[zZ,.ret (.bf .abs [(.v 0)])]
theorem GL(Φ:aY):∀(n:Nat) (a b:Int) (r:aH),b.natAbs<=n->∃(g:Int) (r':aH),gx Φ zZ [some (.int a),some (.int b),r]=ok (.nx,[some (.int g),some (.int 0),r'])/\g.natAbs=Int.gcd a b:=by
 intro n;induction n with
 |zero =>
  intro a b r h;have hb:b=0:=by left
  subst hb;refine⟨a,r,?_,by simp⟩;rw[zZ,oW];exact gK (by simp)
 |succ n ih =>
  intro a b r h;by_cases hb:b=0
  ·subst hb;refine⟨a,r,?_,by simp⟩;rw[zZ,oW];exact gK (by simp)
  ·have ig:=nH a hb;obtain⟨g,r',e,hg⟩:=ih b (a.fmod b) (some (.int (a.fmod b))) (by left);refine⟨g,r',?_,by rw[hg,Cq]⟩;rw[zZ,oW]at e ⊢;rw[<- e];exact mC (by simp[hb])
theorem kN(Φ:aY):bB (mk Φ 2 3 dj):=by
 intro a b;obtain⟨g,r',e,hg⟩:=GL Φ b.natAbs a b none (aah _);have e1:(g.natAbs:Int)=(Int.gcd a b:Int):=by left
 simp[mk_eq,dj,e,e1]
def kC(m:aw):Prop:=∀t b:Int,b≠0->b.natAbs<2 ^ 9000->m [.int t,.int b]=ok (qD (Rat.divInt t b))
def gk(m:aw):Prop:=kC m/\∀t:Int,m [.int t,.int 0]=some (.error 0)
noncomputable def cN:ag:=[.ifs (.cmp .eq (.v 1) (.int 0)) [.rs 0] [],.asg (.nm 2) (.call 1 [(.v 0),(.v 1)]),.ifs (.cmp .lt (.v 1) (.int 0)) [.asg (.nm 2) (.neg (.v 2))] [],.ret (.tup [(.bin .fdiv (.v 0) (.v 2)),(.bin .fdiv (.v 1) (.v 2))])]
theorem mh{t b:Int}(hb:b≠0)(h:b.natAbs<2 ^ 9000)(x:Int):bM .fdiv (.int x) (.int (fN t b))=ok (.int (x.fdiv (fN t b))) :=
 gY (d_ (jI hb) (aaz (Gx hb) h))
theorem oM(Φ:aY)(h1:bB (Φ 1)):gk (mk Φ 2 3 cN):=by
 refine⟨λt b hb h=>?_,λt=>by simp[mk_eq,cN]⟩;obtain⟨e1,e2⟩:=q_ (t:=t) hb;unfold bB at h1;have d1:=mh (t:=t) hb h t;have d2:=mh (t:=t) hb h b;rw[qD,<- e1,<- e2];by_cases hn:b<0
 ·have ed:-(Int.gcd t b:Int)=fN t b:=by simp[fN,hn]
  simp[mk_eq,cN,hb,h1,hn,ed,d1,d2]
 ·have ed:(Int.gcd t b:Int)=fN t b:=by simp[fN,hn]
  simp[mk_eq,cN,hb,h1,hn,ed,d1,d2]
noncomputable def bS:D->Bool
 |.tup [.int a,.int b]=>decide (1<=b)&&decide (Int.gcd a b=1)
 |_=>false
theorem ra(q:Rat):bS (qD q)=true:=by
 have h1:=A0 q;have h2:Int.gcd q.num q.den=1:=by
  have:=q.reduced;simpa [Int.gcd]using this
 simp[qD,bS,h1,h2]
theorem iS{d:D}(h:bS d=true):∃q,d=qD q:=by
 unfold bS at h;split at h
 ·rename_i a b;simp only[Bool.and_eq_true,decide_eq_true_eq]at h;obtain⟨n,rfl⟩:∃n:Nat,b=(n:Int):=⟨b.toNat,by left⟩
  have hc:a.natAbs.Coprime n:=by
   have:Nat.gcd a.natAbs n=1:=by simpa [Int.gcd]using h.2
   exact this
  exact⟨⟨a,n,by left,hc⟩,rfl⟩
 ·cases h
def gj(m:aw):Prop:=∀d,m [d]=ok (.bl (bS d))
noncomputable def bU:ag:=[.ifs (.or [(.not (.jW (.v 0) .tuple)),(.cmp .ne (.bf .len [(.v 0)]) (.int 2))]) [.ret (.bl false)] [],.ifs (.or [(.not (.call 0 [(.ix (.v 0) (.int 0))])),(.not (.call 0 [(.ix (.v 0) (.int 1))]))]) [.ret (.bl false)] [],.ret (.and [(.cmp .ge (.ix (.v 0) (.int 1)) (.int 1)),(.cmp .eq (.call 1 [(.ix (.v 0) (.int 0)),(.ix (.v 0) (.int 1))]) (.int 1))])]
theorem lh(g:Fl->Fl)(d:D):bN (aA g d)=bN d:=by simp[bN]
theorem fE{d:D}(h:bN d=true):∃i,d=.int i:=by
 cases d<;>simp[bN,bJ]at h ⊢
theorem pH{x y:D}(h:bN x=false\/bN y=false):bS (.tup [x,y])=false:=by
 cases x<;>cases y<;>simp[bN,bJ]at h<;>rfl
theorem y4(h:ds.length≠2):bS (.tup ds)=false:=by
 unfold bS;split
 ·rename_i e;cases e;simp at h
 ·rfl
theorem oK(Φ:aY)(h0:eO (Φ 0))(h1:bB (Φ 1)):gj (mk Φ 1 1 bU):=by
 intro d;unfold eO at h0;unfold bB at h1;cases d with
 |tup ds =>
  by_cases hl:ds.length=2
  ·match ds,hl with
   |[x,y],_ =>
    by_cases hx:bN x=true
    ·by_cases hy:bN y=true
     ·obtain⟨a,rfl⟩:=fE hx;obtain⟨b,rfl⟩:=fE hy;simp[mk_eq,bU,h0,h1,hx,hy,bJ,bS];by_cases hg:a.gcd b=1
      ·simp[hg]
      ·simp[hg];left
     ·simp[mk_eq,bU,h0,hx,hy,bJ,lh,pH (.inr (by simpa using hy))]
    ·simp[mk_eq,bU,h0,hx,bJ,lh,pH (.inl (by simpa using hx))]
  ·have jC:¬ (ds.length:Int)=2:=by left
   simp[mk_eq,bU,bJ,jC,y4 hl]
 |_=>simp[mk_eq,bU,bJ,bS]
def oi(m:aw):Prop:=∀p q,Sm 4000 p->Sm 4000 q->m [qD p,qD q]=ok (qD (p+q))
def yc(m:aw):Prop:=∀p q,Sm 4000 p->Sm 4000 q->m [qD p,qD q]=ok (qD (p*q))
noncomputable def x3(f:Nat):ag:=[.ret (.call f [(.bin .add (.bin .mul (.ix (.v 0) (.int 0)) (.ix (.v 1) (.int 1))) (.bin .mul (.ix (.v 1) (.int 0)) (.ix (.v 0) (.int 1)))),(.bin .mul (.ix (.v 0) (.int 1)) (.ix (.v 1) (.int 1)))])]
noncomputable def mq(f:Nat):ag:=[.ret (.call f [(.bin .mul (.ix (.v 0) (.int 0)) (.ix (.v 1) (.int 0))),(.bin .mul (.ix (.v 0) (.int 1)) (.ix (.v 1) (.int 1)))])]
section
variable (Φ:aY){f:Nat}(h2:kC (Φ f))
theorem P_{p q:Rat}(hp:Sm 4000 p)(hq:Sm 4000 q):(p.den:Int)*q.den≠0/\((p.den:Int)*q.den).natAbs<2 ^ 9000 :=
 ⟨acn (kP p) (kP q),aak (hp.den hq) (aaG (by decide) (by decide))⟩
theorem JS{p q:Rat}(hp:Sm 4000 p)(hq:Sm 4000 q):bM .mul (.int p.num) (.int q.den)=ok (.int (p.num*q.den))/\bM .mul (.int p.num) (.int q.num)=ok (.int (p.num*q.num))/\bM .mul (.int p.den) (.int q.den)=ok (.int (p.den*q.den))/\bM .mul (.int p.den) (.int q.num)=ok (.int (p.den*q.num)):=by
 obtain⟨a,b⟩:=hp.big (by decide);obtain⟨c,d⟩:=hq.big (by decide);exact⟨jv (mulOk_of a d),jv (mulOk_of a c),jv (mulOk_of b d),jv (mulOk_of b c)⟩
include h2
theorem M6:oi (mk Φ 2 2 (x3 f)):=by
 intro p q hp hq;obtain⟨a,b,c,d⟩:=JS hp hq;obtain⟨a',b',c',d'⟩:=JS hq hp;obtain⟨n,k⟩:=P_ hp hq;have e:=h2 (p.num*q.den+q.num*p.den) _ n k;rw[<- Hl]at e;simp[mk_eq,x3,a,a',c,e]
theorem ED:yc (mk Φ 2 2 (mq f)):=by
 intro p q hp hq;obtain⟨a,b,c,d⟩:=JS hp hq;obtain⟨n,k⟩:=P_ hp hq;have e:=h2 (p.num*q.num) _ n k;rw[<- Hk]at e;simp[mk_eq,mq,b,c,e]
omit h2 in
end
theorem C3{bind:D->O bo}{test:bo->O Bool}{el:bo->O D}{g:D->D}(h:∀x∈xs,∃ρ,bind x=ok ρ/\test ρ=ok true/\el ρ=ok (g x)):iq bind test el xs=ok (xs.map g):=by
 have:=bX (bind:=bind) (test:=test) (el:=el) (e:=λd=>d) (g:=g) (xs:=xs) h
 rwa [List.map_id']at this
theorem jF(g:Fl->Fl)(d:D):bS (aA g d)=bS d:=by
 cases d with
 |tup ds =>
  match ds with
  |[]=>simp
  |[_]=>simp[bS]
  |[x,y]=>cases x<;>cases y<;>simp[bS]
  |_::_::_::_=>simp[bS]
 |_=>simp[bS]
def uo(d:D):Prop:=match d with
 |.lst _ ds=>ds.length<=1000000
 |.tup ds=>ds.length<64
 |_=>True
noncomputable def cm(qs:aQ):Nat:=qs.foldl (λb q=>Nat.lcm b q.den) 1
theorem BF(b:Nat)(q:Rat):(b:Int).fdiv (Int.gcd b q.den)*q.den=(Nat.lcm b q.den:Nat):=by
 have hg:0<Nat.gcd b q.den:=Nat.gcd_pos_of_pos_right _ q.den_pos;have e:Int.gcd (b:Int) (q.den:Int)=Nat.gcd b q.den:=by simp[Int.gcd]
 rw[e,Int.fdiv_eq_ediv_of_nonneg _ (by left)];have:((b:Int) / (Nat.gcd b q.den:Nat))=((b / Nat.gcd b q.den:Nat):Int):=(Int.natCast_ediv ..).symm;rw[this,Nat.lcm];have hd:Nat.gcd b q.den∣b:=Nat.gcd_dvd_left ..;rw[Nat.mul_comm b,Nat.mul_div_assoc _ hd,Nat.mul_comm];exact(Int.natCast_mul ..).symm
theorem lcm_pos{b:Nat}(hb:0<b)(q:Rat):0<Nat.lcm b q.den:=Nat.lcm_pos hb q.den_pos
theorem xg:∀(qs:aQ) (b k j:Nat),0<b->b<2 ^ j->(∀q∈qs,Sm k q)->0<qs.foldl (λb q=>Nat.lcm b q.den) b/\qs.foldl (λb q=>Nat.lcm b q.den) b<2 ^ (j+k*qs.length)/\b∣qs.foldl (λb q=>Nat.lcm b q.den) b/\∀q∈qs,q.den∣qs.foldl (λb q=>Nat.lcm b q.den) b
 |[],b,k,j,h0,h1,_=>⟨h0,by simpa using h1,Nat.dvd_refl _,λq hq=>nomatch hq⟩
 |q::qs,b,k,j,h0,h1,hs=>by
  have hq:=hs q aae;have h2:Nat.lcm b q.den<2 ^ (j+k):=aaz (Nat.lcm_le_mul h0 q.den_pos) (dM h1 hq.2);obtain⟨g1,g2,g3,g4⟩:=xg qs (Nat.lcm b q.den) k (j+k) (lcm_pos h0 q) h2 λp hp=>hs p (aaf _ hp);have e:j+k*(q::qs).length=j+k+k*qs.length:=by rw[List.length_cons,Nat.mul_succ];left
  refine⟨g1,by rw[e];exact g2,Nat.dvd_trans (Nat.dvd_lcm_left ..) g3,λp hp=>?_⟩;rcases List.mem_cons.mp hp with rfl|hp
  ·exact Nat.dvd_trans (Nat.dvd_lcm_right ..) g3
  ·exact g4 p hp
structure zy(k:Nat)(qs:aQ):Prop where
 sm:∀q∈qs,Sm k q
 DS:k*qs.length<=3000
 len:qs.length<=1000
variable {qs:aQ}
theorem zy.lcm{k:Nat}(h:zy k qs):0<cm qs/\cm qs<2 ^ (1+k*qs.length)/\∀q∈qs,q.den∣cm qs:=by
 obtain⟨g1,g2,_,g4⟩:=xg qs 1 k 1 (by decide) (by decide) h.sm;exact⟨g1,g2,g4⟩
theorem BB{n j:Nat}(h:n<2 ^ j)(hj:j<=9000):n<2 ^ 9000:=aak h (aaG (by decide) hj)
def dD(m:aw):Prop:=∀f qs k,zy k qs->m [.lst f (bu qs)]=ok (.int (cm qs))
noncomputable def cc:ag:=[.asg (.nm 1) (.bin .mul (.bin .fdiv (.v 1) (.call 1 [(.v 1),(.ix (.v 2) (.int 1))])) (.ix (.v 2) (.int 1)))]
def cG:ag:=[.asg (.nm 1) (.int 1),.fr (.nm 2) (.seq (.v 0)) cc,.ret (.v 1)]
theorem xY(Φ:aY)(h1:bB (Φ 1))(x:aH):∀(qs:aQ) (b k j:Nat) (z:aH),0<b->b<2 ^ j->j+k*qs.length<=8000->(∀q∈qs,Sm k q) ->
  ∃z',dG (λd ρ=>cu (.nm 2) d ρ) (λρ=>aV Φ cc ρ) (bu qs) [x,some (.int b),z]=ok (.nx,[x,some (.int (qs.foldl (λb q=>Nat.lcm b q.den) b:Nat)),z'])
 |[],b,k,j,z,_,_,_,_=>⟨z,rfl⟩
 |q::qs,b,k,j,z,h0,hb,hj,hs=>by
  have hq:=hs q aae;have h2:Nat.lcm b q.den<2 ^ (j+k):=aaz (Nat.lcm_le_mul h0 q.den_pos) (dM hb hq.2);have e:j+k*(q::qs).length=j+k+k*qs.length:=by rw[List.length_cons,Nat.mul_succ];left
  obtain⟨z',ih⟩:=xY Φ h1 x qs (Nat.lcm b q.den) k (j+k) (some (qD q)) (lcm_pos h0 q) h2 (by left) λp hp=>hs p (aaf _ hp);have hg:0<Nat.gcd b q.den:=Nat.gcd_pos_of_pos_right _ q.den_pos;have eg:Int.gcd (b:Int) (q.den:Int)=Nat.gcd b q.den:=by simp[Int.gcd]
  have OS:Nat.gcd b q.den<=b:=abL h0 (Nat.gcd_dvd_left ..);have Q2:b<2 ^ 9000:=BB hb (by left);have d1:bM .fdiv (.int b) (.int (Nat.gcd b q.den:Nat))=ok (.int ((b:Int).fdiv (Nat.gcd b q.den:Nat))):=gY (d_ (by left) (by simpa using Nat.lt_of_le_of_lt OS Q2));have hm:((b:Int).fdiv (Nat.gcd b q.den:Nat)).natAbs<=b:=by
   rw[Int.fdiv_eq_ediv_of_nonneg _ (by left),<- Int.natCast_ediv];simp;exact Nat.div_le_self ..
  have d2:bM .mul (.int ((b:Int).fdiv (Nat.gcd b q.den:Nat))) (.int q.den)=ok (.int (Nat.lcm b q.den:Nat)):=by
   have:=BF b q;rw[eg]at this;rw[jv (mulOk_of (Nat.lt_of_le_of_lt hm Q2) (hq.big (by
    rw[e]at hj;have:k<=j+k+k*qs.length:=by left
    left)).2),this]
  unfold bB at h1;refine⟨z',dF (ρ1:=[x,some (.int b),some (qD q)]) (by simp) (ρ2:=[x,some (.int (Nat.lcm b q.den:Nat)),some (qD q)]) ?_ ih⟩;simp[cc,h1,d1,d2]
theorem lQ(Φ:aY)(h1:bB (Φ 1)):dD (mk Φ 1 3 cG):=by
 intro f qs k hs;have hit:eI Φ (.seq (.v 0)) [some (.lst f (bu qs)),some (.int 1),none]=ok (bu qs,if (bD (aP f)||false)then[some (.lst (aK f) (bu qs)),some (.int 1),none]else[some (.lst f (bu qs)),some (.int 1),none]):=by
  rw[BQ (f:=aP f) (ds:=bu qs) (by simp)];simp[show gJ (.v 0)=[0] from rfl]
 have hk:=hs.DS;have hx:∀x:aH,∃z',dG (λd ρ=>cu (.nm 2) d ρ) (λρ=>aV Φ cc ρ) (bu qs) [x,some (.int (1:Nat)),none]=ok (.nx,[x,some (.int (cm qs)),z']):=λx=>xY Φ h1 x qs 1 k 1 none (by decide) (by decide) (by left) hs.sm;cases hf:(bD (aP f)||false)with
 |true =>
  rw[hf]at hit;obtain⟨z',e⟩:=hx (some (.lst (aK f) (bu qs)));have:=fZ (t:=.nm 2) (b:=cc) hit e;simp[mk_eq,cG,this]
 |false =>
  rw[hf]at hit;obtain⟨z',e⟩:=hx (some (.lst f (bu qs)));have:=fZ (t:=.nm 2) (b:=cc) hit e;simp[mk_eq,cG,this]
noncomputable def cf(b:Nat)(q:Rat):Int:=q.num*(b:Int).fdiv q.den
theorem Hj(q:Rat):(q.num:Rat)=q*(q.den:Rat):=by
 have h:(q.den:Rat)≠0:=by
  have:=q.den_pos;intro z;have:((q.den:Int):Rat)=0:=by rw[Rat.intCast_natCast];exact z
  rw[Rat.intCast_eq_zero_iff]at this;left
 have e:q=(q.num:Rat) / (q.den:Rat):=by
  conv=>lhs;rw[<- gf q,Rat.divInt_eq_div,Rat.intCast_natCast]
 grind
theorem sj{b:Nat}{q:Rat}(h:q.den∣b):((cf b q:Int):Rat)=q*(b:Rat):=by
 obtain⟨c,rfl⟩:=h;have hd:(q.den:Int)≠0:=kP q;unfold cf;rw[Int.natCast_mul,Int.mul_fdiv_cancel_left _ hd,Rat.intCast_mul,Hj,Rat.natCast_mul,Rat.intCast_natCast];grind
theorem iC{b:Nat}:∀{qs:aQ},(∀q∈qs,q.den∣b)->(((qs.map (cf b)).sum:Int):Rat)=qs.sum*(b:Rat)
 |[],_=>by simp
 |q::qs,h=>by
  rw[List.map_cons,List.sum_cons,List.sum_cons,Rat.intCast_add,sj (h q List.mem_cons_self),iC λp hp=>h p (List.mem_cons_of_mem _ hp)];grind
def gc(m:aw):Prop:=∀f qs k (b:Nat),zy k qs->b<2 ^ 8000->m [.lst f (bu qs),.int b]=ok (.lst .ow (ae (qs.map (cf b))))
noncomputable def gb:ag:=[.ret (.comp 1 (.nm 0) [1] .seq [(.v 0)] [] (.bin .mul (.ix (.v 0) (.int 0)) (.bin .fdiv (.v 1) (.ix (.v 0) (.int 1)))))]
theorem Eu{k:Nat}(h:zy k qs){q:Rat}(hq:q∈qs):Sm 3000 q:=by
 refine(h.sm q hq).mono ?_;have h1:=h.DS;have h2:0<qs.length:=List.length_pos_of_mem hq;have:k*1<=k*qs.length:=Nat.mul_le_mul_left _ h2;left
theorem sN(Φ:aY):gc (mk Φ 2 2 gb):=by
 intro f qs k b hs hb;have xu:aW Φ (.comp 1 (.nm 0) [1] .seq [(.v 0)] [] (.bin .mul (.ix (.v 0) (.int 0)) (.bin .fdiv (.v 1) (.ix (.v 0) (.int 1))))) [some (.lst f (bu qs)),some (.int b)]=ok (.lst .ow (ae (qs.map (cf b)))):=by
  rw[cQ (xs:=[.lst (aP f) (bu qs)]) (items:=bu qs) (ds:=qs.map λq=>.int (cf b q)) (by simp) (by rw[dX];simp) (bX λq hq=>?_) (by have:=hs.len;simp;exact b6 (by left))]
  ·have:(qs.map λq=>D.int (cf b q))=ae (qs.map (cf b)):=by simp[ae]
   rw[this,bh]
  ·refine⟨[some (qD q),some (.int b)],by simp[bK],by simp,?_⟩;have h3:=Eu hs hq;obtain⟨g1,g2⟩:=h3.big (by decide);have d1:bM .fdiv (.int b) (.int q.den)=ok (.int ((b:Int).fdiv q.den)):=gY (d_ (kP q) g2);have d2:bM .mul (.int q.num) (.int ((b:Int).fdiv q.den))=ok (.int (q.num*(b:Int).fdiv q.den)):=by
    refine jv (mulOk_of g1 ?_);rw[Int.fdiv_eq_ediv_of_nonneg _ (by left),<- Int.natCast_ediv];have:=Nat.div_le_self b q.den;have h9:=BB hb (by decide);rw[Int.natAbs_natCast];exact aaz this h9
   simp[d1,d2,cf]
 simp[mk_eq,gb,xu]
theorem zy.FI{k:Nat}(h:zy k qs):cm qs<2 ^ 8000:=aak h.lcm.2.1 (aaG (by decide) (by have:=h.DS;left))
theorem Ec{b:Nat}(h0:0<b)(h:∀q∈qs,q.den∣b):Rat.divInt (qs.map (cf b)).sum b=qs.sum:=by
 have hb:((b:Nat):Rat)≠0:=by
  intro z;have:((b:Int):Rat)=0:=by rw[Rat.intCast_natCast];exact z
  rw[Rat.intCast_eq_zero_iff]at this;left
 rw[Rat.divInt_eq_div,iC h,Rat.intCast_natCast];grind
noncomputable def cw(n:Int):D->Bool
 |.int i=>decide (0<=i)&&decide (i<n)
 |_=>false
theorem lG(g:Fl->Fl)(n:Int)(d:D):cw n (aA g d)=cw n d:=by
 cases d<;>simp[cw]
theorem dP{n:Int}:∀{ds:ab},ds.all (cw n)=true->∃ns:aa,ds=ae ns
 |[],_=>⟨[],rfl⟩
 |d::ds,h=>by
  simp only[List.all_cons,Bool.and_eq_true]at h;obtain⟨ns,rfl⟩:=dP h.2;cases d with
  |int i=>exact⟨i::ns,rfl⟩
  |_=>simp[cw]at h
def numsOf(ds:ab):aa:=(intsOf ds).getD []
theorem dN(ns:aa):numsOf (ae ns)=ns:=by unfold numsOf ae;rw[bA];rfl
def bH(d:D)(n:Int):Bool:=match d with
 |.tup ds=>ds.all (cw n)&&decide ((eB (numsOf ds)).length=ds.length)
 |_=>false
def cO(d:D)(n:Int):Bool:=bH d n&&(match d with
 |.tup ds=>decide (numsOf ds=sortI (numsOf ds))
 |_=>false)
def gZ(m:aw):Prop:=∀d n,uo d->m [d,.int n]=ok (.bl (bH d n))
noncomputable def dk:ag:=[.ifs (.not (.jW (.v 0) .tuple)) [.ret (.bl false)] [],.ifs (.not (.bf .all1 [(.comp 1 (.nm 0) [1] .seq [(.v 0)] [] (.and [(.call 0 [(.v 0)]),(.cmp .ge (.v 0) (.int 0)),(.cmp .lt (.v 0) (.v 1))]))])) [.ret (.bl false)] [],.ret (.cmp .eq (.lS (.v 0)) (.bf .len [(.v 0)]))]
theorem qj(Φ:aY)(h0:eO (Φ 0)):gZ (mk Φ 2 2 dk):=by
 intro d n hc;unfold eO at h0;cases d with
 |tup ds =>
  have hl:ds.length<64:=hc;have xu:aW Φ (.comp 1 (.nm 0) [1] .seq [(.v 0)] [] (.and [(.call 0 [(.v 0)]),(.cmp .ge (.v 0) (.int 0)),(.cmp .lt (.v 0) (.v 1))])) [some (.tup ds),some (.int n)]=ok (.lst .ow (ku (ds.map (cw n)))):=by
   rw[cQ (xs:=[.tup (av aP ds)]) (by simp) (qL ..) (C3 (g:=λd=>.bl (cw n d)) λx _=>⟨[some x,some (.int n)],by simp[bK],by simp,?_⟩) (by simp;exact b6 (by left))]
   ·simp[aO,Function.comp_def,lG,ku]
   ·cases x with
    |int i =>
     simp[h0,bN,bJ,cw]
    |_=>simp[h0,bN,bJ,cw]
  cases ha:ds.all (cw n)with
  |true =>
   obtain⟨ns,rfl⟩:=dP ha;have jC:ns.length<4000:=by simp at hl;left
   have e:(List.all (List.map (cw n) (ae ns)) id)=true:=by rw[List.all_map];exact ha
   simp[mk_eq,dk,bJ,xu,e,Le jC,bH,ha,dN];simp[Int.natCast_inj]
  |false =>
   have e:(List.all (List.map (cw n) ds) id)=false:=by rw[List.all_map];exact ha
   simp only[mk_eq,dk,List.length_cons,List.length_nil];simp[bJ,xu,e,bH,ha]
 |_=>simp[mk_eq,dk,bJ,bH]
def uz(m:aw):Prop:=∀d n,uo d->m [d,.int n]=ok (.bl (cO d n))
noncomputable def gH:ag:=[.ret (.and [(.call 43 [(.v 0),(.v 1)]),(.cmp .eq (.bf .list1 [(.v 0)]) (.bf .gN [(.v 0)]))])]
theorem s9(n:Nat)(f:Fl)(ns:aa):eA (n+1) (.lst f (ae ns))=true:=qx (gQ n) ns
theorem y9(ns ms:aa):fu (ae ns) (ae ms)=decide (ns=ms):=ki (λx y=>me x y) ns ms
theorem dY(g:Fl->Fl)(d:D)(n:Int):bH (aA g d) n=bH d n:=by
 cases d with
 |tup ds =>
  cases h:ds.all (cw n)with
  |true =>
   obtain⟨ns,rfl⟩:=dP h;simp
  |false =>
   have h2:(av g ds).all (cw n)=false:=by
    rw[aO,List.all_map,show(cw n∘aA g)=cw n from funext λd=>lG g n d];exact h
   simp[bH,h,h2]
 |_=>simp[bH]
theorem gG{g:Fl->Fl}{d:D}(h:uo d):uo (aA g d):=by
 cases d<;>simp_all [uo]
theorem AJ(Φ:aY)(Uj:gZ (Φ 43)):uz (mk Φ 2 2 gH):=by
 intro d n hc;have e1:=Uj (aA aK (aA aP d)) n (gG (gG hc));rw[dY,dY]at e1;cases d with
 |tup ds =>
  have hl:ds.length<64:=hc;simp only[Bz]at e1;cases ha:bH (.tup ds) n with
  |true =>
   have Q3:=ha;simp only[bH,Bool.and_eq_true]at Q3;obtain⟨ns,rfl⟩:=dP Q3.1;have jC:ns.length<64:=by simpa using hl
   have e2:dH .eq (.lst .ow (ae ns)) (.lst .ow (ae (sortI ns)))=ok (.bl (decide (ns=sortI ns))):=by
    rw[GO (s9 39 _ _) (s9 39 _ _),Gh,y9]
   rw[ha]at e1;simp at e1;simp[mk_eq,gH,e1,Gb jC,e2,cO,ha,dN]
  |false =>
   rw[ha]at e1;simp[mk_eq,gH,e1,cO,ha]
 |_=>(simp at e1;simp[mk_eq,gH,e1,cO,bH])
def zA(n:Nat)(l:aa):Prop:=l.Pairwise (· < ·)/\∀h∈l,0<=h/\h<(n:Int)
theorem xR:∀(l m:aa),(∀x∈l,x∉m)->l.Nodup->l.foldl (λ(m:aa) (k:Int)=>if m.any (· == k)then m else m++[k]) m=m++l
 |[],m,_,_=>by simp
 |x::l,m,h,hn=>by
  have hx:m.any (· == x)=false:=by
   rw[List.any_eq_false];intro y hy z;have:y=x:=by simpa using z
   exact h x aae (this▸hy)
  rw[List.foldl_cons,hx,if_neg Bool.false_ne_true,xR l (m++[x])]
  ·simp
  ·intro y hy z;rcases List.mem_append.mp z with z|z
   ·exact h y (aaf _ hy) z
   ·have:y=x:=by simpa using z
    subst this;exact(List.nodup_cons.mp hn).1 hy
  ·exact(List.nodup_cons.mp hn).2
theorem zA.nodup{n:Nat}{l:aa}(h:zA n l):l.Nodup:=h.1.imp λz=>by left
theorem Ay{l:aa}(h:l.Pairwise (· < ·)):sortI l=l:=by
 unfold sortI;apply List.mergeSort_of_pairwise;exact h.imp λz=>by simp;left
theorem zA.cO{n:Nat}{l:aa}(h:zA n l):cO (.tup (ae l)) n=true:=by
 have h1:(ae l).all (cw n)=true:=by
  unfold ae;rw[List.all_map,List.all_eq_true];intro x hx;have:=h.2 x hx;simp[cw,this.1,this.2]
 have h2:eB l=l:=by
  have:=xR l [] (by simp) h.nodup;rw[List.nil_append]at this;exact this
 simp[DI.cO,bH,h1,dN,h2,Ay h.1]
noncomputable def eh(ns:aa)(k:Int):Int :=
 let c:=if k<ns.length then ns.getD k.toNat 0 else 0
 if (10:Int) ^ 18<=c then(c - 10 ^ 18).fmod (10 ^ 60)else
  let n:=(c*48271+k*69621+11).fmod 2147483629
  let n:=(n*n).fmod 2147483587
  n*2147483563+(n*n).fmod 2147483563
def v9(m:aw):Prop:=∀(ns:aa) (k:Int),0<=k->m [.lst .sc (ae ns),.int k]=ok (.int (eh ns k))
noncomputable def fh:ag:=[.asg (.nm 2) (.int 0),.ifs (.cmp .lt (.v 1) (.bf .len [(.v 0)])) [.asg (.nm 2) (.ix (.v 0) (.v 1))] [],.ifs (.cmp .ge (.v 2) (.bin .pow (.int 10) (.int 18))) [.ret (.bin .mod (.bin .sub (.v 2) (.bin .pow (.int 10) (.int 18))) (.bin .pow (.int 10) (.int 60)))] [],.asg (.nm 3) (.bin .mod (.bin .add (.bin .add (.bin .mul (.v 2) (.int 48271)) (.bin .mul (.v 1) (.int 69621))) (.int 11)) (.int 2147483629)),.asg (.nm 3) (.bin .mod (.bin .mul (.v 3) (.v 3)) (.int 2147483587)),.ret (.bin .add (.bin .mul (.v 3) (.int 2147483563)) (.bin .mod (.bin .mul (.v 3) (.v 3)) (.int 2147483563)))]
theorem eR(a:Int){b:Int}(h:0<b):0<=a.fmod b/\a.fmod b<b:=⟨abI a h,acb a h⟩
theorem zg(Φ:aY)(x:D)(k c:Int)(hx:bJ .list x=true)(o:aH):jk (aV Φ (fh.drop 2) [some x,some (.int k),some (.int c),o])=ok (.int (if (10:Int) ^ 18<=c then(c - 10 ^ 18).fmod (10 ^ 60)else
  let n:=(c*48271+k*69621+11).fmod 2147483629
  let n:=(n*n).fmod 2147483587
  n*2147483563+(n*n).fmod 2147483563)):=by
 have p1:bM .pow (.int 10) (.int 18)=ok (.int (10 ^ 18)):=HL (by decide);have p2:bM .pow (.int 10) (.int 60)=ok (.int (10 ^ 60)):=HL (by decide);by_cases h:(10:Int) ^ 18<=c
 ·have h':(1000000000000000000:Int)<=c:=h;simp[fh,p1,p2,h']
 ·have h':¬ (1000000000000000000:Int)<=c:=h;obtain⟨a1,a2⟩:=eR (c*48271+k*69621+11) (b:=2147483629) (by decide);generalize hn:(c*48271+k*69621+11).fmod 2147483629=n at *;obtain⟨a3,a4⟩:=eR (n*n) (b:=2147483587) (by decide);have m1:bM .mul (.int n) (.int n)=ok (.int (n*n)):=jv (qC _ (by left));generalize hm:(n*n).fmod 2147483587=m at *;have m2:bM .mul (.int m) (.int m)=ok (.int (m*m)):=jv (qC _ (by left));simp[fh,p1,h',hn,m1,hm,m2]
theorem Jg(Φ:aY):v9 (mk Φ 2 4 fh):=by
 intro ns k hk;have:=λc=>zg Φ (.lst .sc (ae ns)) k c rfl none;by_cases h:k<ns.length
 ·have hg:mx (ae ns) k=ok (.int (ns.getD k.toNat 0)):=by
   have hl:k.toNat<ns.length:=by left
   rw[at_of hk (d:=.int (ns.getD k.toNat 0)) (by rw[je,List.getElem?_eq_getElem hl,Option.map_some,List.getD_eq_getElem?_getD,List.getElem?_eq_getElem hl];rfl)];simp
  have e:jk (aV Φ fh ([some (D.lst Fl.sc (ae ns)),some (D.int k)]++[none,none]))=jk (aV Φ (fh.drop 2) [some (.lst .sc (ae ns)),some (.int k),some (.int (ns.getD k.toNat 0)),none]):=by
   rw[fh,bG,jX];simp only[Hw,xP,c_,kc];simp only[List.cons_append,List.nil_append,ya,List.length_cons,List.length_nil,Nat.reduceAdd,Nat.reduceLT,cX,List.set_cons_succ,List.set_cons_zero];rw[bG,uK];simp[h,hg]
  rw[mk_eq (ar:=2) (ds:=[_,_]) rfl];refine(show _=_ from e).trans ?_;rw[this,eh,if_pos h]
 ·have e:jk (aV Φ fh ([some (D.lst Fl.sc (ae ns)),some (D.int k)]++[none,none]))=jk (aV Φ (fh.drop 2) [some (.lst .sc (ae ns)),some (.int k),some (.int 0),none]):=by
   rw[fh,bG,jX];simp only[Hw,xP,c_,kc];simp only[List.cons_append,List.nil_append,ya,List.length_cons,List.length_nil,Nat.reduceAdd,Nat.reduceLT,cX,List.set_cons_succ,List.set_cons_zero];rw[bG,uK];simp[h]
  rw[mk_eq (ar:=2) (ds:=[_,_]) rfl];refine(show _=_ from e).trans ?_;rw[this,eh,if_neg h]
noncomputable def jZ:CS:=.Im (.cmp .gt (.v 3) (.int 0)) [.par 2 3 (.v 3) (.bin .mod (.v 2) (.v 3))]
def kA:ag:=[.asg (.nm 2) (.bf .abs [(.v 0)]),.asg (.nm 3) (.bf .abs [(.v 1)]),jZ,.ifs (.cmp .lt (.v 1) (.int 0)) [.asg (.nm 2) (.bin .sub (.int 0) (.v 2))] [],.ret (.tup [(.bin .fdiv (.v 0) (.v 2)),(.bin .fdiv (.v 1) (.v 2))])]
theorem vk(Φ:aY)(x y:aH):∀(n:Nat) (a b:Nat),b<=n->gx Φ jZ [x,y,some (.int a),some (.int b)]=ok (.nx,[x,y,some (.int (Nat.gcd a b)),some (.int 0)]):=by
 intro n;induction n with
 |zero =>
  intro a b h;have hb:b=0:=by left
  subst hb;rw[jZ,oW];exact gK (by simp)
 |succ n ih =>
  intro a b h;by_cases hb:b=0
  ·subst hb;rw[jZ,oW];exact gK (by simp)
  ·have ig:=Nat.mod_lt a (show 0<b by left);have e:=ih b (a % b) (by left);have eg:Nat.gcd b (a % b)=Nat.gcd a b:=by rw[Nat.gcd_comm a b,Nat.gcd_rec b a,Nat.gcd_comm]
   rw[eg]at e;rw[jZ,oW]at e ⊢;rw[<- e];have lV:0<b:=by left
   have em:((a:Int)).fmod (b:Int)=((a % b:Nat):Int):=by
    rw[Int.fmod_eq_emod_of_nonneg _ (by left)];exact(Int.natCast_emod a b).symm
   have ep:gx Φ (.par 2 3 (.v 3) (.bin .mod (.v 2) (.v 3))) [x,y,some (.int a),some (.int b)]=ok (.nx,[x,y,some (.int b),some (.int ((a % b:Nat):Int))]):=by
    rw[Mr];simp[hb,em]
   exact mC (by simp[lV,ep])
theorem EG(Φ:aY):kC (mk Φ 2 4 kA):=by
 intro t b hb h;obtain⟨e1,e2⟩:=q_ (t:=t) hb;have d1:=mh (t:=t) hb h t;have d2:=mh (t:=t) hb h b;have hl:=vk Φ (some (.int t)) (some (.int b)) b.natAbs t.natAbs b.natAbs (aah _);rw[qD,<- e1,<- e2];by_cases hn:b<0
 ·have ed:0 - (Nat.gcd t.natAbs b.natAbs:Int)=fN t b:=by simp[fN,hn,Int.gcd]
  have Zh:-(Nat.gcd t.natAbs b.natAbs:Int)=fN t b:=by simp[fN,hn,Int.gcd]
  simp[mk_eq,kA,hl,hn,Zh,d1,d2]
 ·have ed:(Nat.gcd t.natAbs b.natAbs:Int)=fN t b:=by simp[fN,hn,Int.gcd]
  simp[mk_eq,kA,hl,hn,ed,d1,d2]
noncomputable def p5:ag:=[.ifs (.or [(.not (.jW (.v 0) .tuple)),(.cmp .ne (.bf .len [(.v 0)]) (.int 2))]) [.ret (.bl false)] [],.ret (.cmp .eq (.bf .len [(.comp 1 (.nm 0) [] .seq [(.v 0)] [(.or [(.not (.jW (.v 0) .int)),(.jW (.v 0) .bool)])] (.v 0))]) (.int 0))]
noncomputable def HN(qs:aQ)(h:Int):Rat:=qs.getD h.toNat 0
variable {h:Int}
theorem GU(h0:0<=h)(h1:h<qs.length):qs[h.toNat]?=some (HN qs h)/\HN qs h∈qs:=by
 have hl:h.toNat<qs.length:=by left
 have e:qs[h.toNat]?=some (HN qs h):=by
  unfold HN;rw[List.getD_eq_getElem?_getD,List.getElem?_eq_getElem hl];rfl
 exact⟨e,aay e⟩
theorem Qn(h0:0<=h)(h1:h<qs.length):mx (bu qs) h=ok (qD (HN qs h)):=by
 rw[at_of h0 (d:=qD (HN qs h)) (by rw[ES,(GU h0 h1).1];rfl)];simp
theorem yy{q:Rat}(h:0<q):0<q.num:=by
 have:=(Rat.lt_iff 0 q).mp h;simpa using this
theorem zA.len{n:Nat}{l:aa}(h:zA n l):l.length<=n:=by
 have hn:(l.map Int.toNat).Nodup:=by
  unfold List.Nodup;rw[List.pairwise_map];refine h.1.imp_of_mem λha hb z e=>?_;have:=h.2 _ ha;have:=h.2 _ hb;left
 have hs:(l.map Int.toNat) ⊆ List.range n:=λx hx=>by
  obtain⟨y,hy,rfl⟩:=List.mem_map.mp hx;have:=h.2 y hy;rw[List.mem_range];left
 have:=hn.length_le_of_subset hs;simpa using this
theorem uJ{i j:Nat}{k e:CE}{ρ':bo}{d:D}{z:Int}(h1:iu Φ e ρ=ok (d,ρ'))(h2:aW Φ k ρ'=ok (.int z))(h3:ρ'[i]?=some (some (.lst .ow ds)))(h4:qJ ds.length z=some j):
  gx Φ (.setI i k e) ρ=ok (.nx,ρ'.set i (some (.lst .ow (ds.set j d)))):=by
 show bd (iu Φ e ρ) _=_;rw[h1,cR];dsimp only;rw[h2];show(match vc ρ'[i]? with|some ds=>_|none=>_)=_;rw[h3];show(match qJ ds.length z with|some j=>_|none=>_)=_;rw[h4]
theorem vp{n:Nat}(h0:0<=h)(h1:h<n):qJ n h=some h.toNat:=by
 unfold qJ;rw[if_pos h0,if_pos h1]
theorem vI{t b:Int}(ht:0<t)(hb:0<b):0<Rat.divInt t b:=by
 rw[Rat.divInt_eq_div];have h1:(0:Rat)<(t:Rat):=by
  have:=abg (a:=0) (b:=t);simpa using this.mpr ht
 have h2:(0:Rat)<(b:Rat):=by
  have:=abg (a:=0) (b:=b);simpa using this.mpr hb
 rw[Rat.div_def];exact Rat.mul_pos h1 (Rat.inv_pos.mpr h2)
noncomputable def RO(l:aa)(f:Int->Rat):Rat:=(l.map f).sum
@[simp]theorem MS(f:Int->Rat):RO [] f=0:=rfl
noncomputable abbrev Row:=Rat×aa
abbrev aC:=List Row
def rD(r:Row):D:=.tup [qD r.1,.tup (ae r.2)]
@[simp]theorem vi(g:Fl->Fl)(r:Row):aA g (rD r)=rD r:=by unfold rD;simp
@[simp]theorem Kw(g:Fl->Bool)(r:Row):aU g (rD r)=false:=by unfold rD;simp
noncomputable def bq(rs:aC):ab:=rs.map rD
@[simp]theorem gO(rs:aC):(bq rs).length=rs.length:=abV ..
@[simp]theorem eW(g:Fl->Fl)(rs:aC):av g (bq rs)=bq rs:=dh g (vi g) rs
@[simp]theorem Cf(g:Fl->Bool)(rs:aC):aN g (bq rs)=false:=cK g (Kw g) rs
def d5(n:Nat)(rs:aC):D:=.tup [.int n,.lst .fz (bq rs)]
def Vj(rs:aC):Prop:=∃W:Nat,0<W/\W<64/\∀r∈rs,r.1.den∣W
structure Dp(P:aa->Prop)(k n:Nat)(rs:aC):Prop where
 n1:1<=n
 n2:n<=12
 DS:k*(rs.length+1)<=66
 fin:k*(rs.length+1)<=60\/Vj rs
 len:rs.length<=1000
 lot:∀r∈rs,P r.2
 pos:∀r∈rs,0<r.1
 sm:∀r∈rs,Sm k r.1
 one:(rs.map (·.1)).sum=1
 rise:iw (rs.map (·.2))
noncomputable def eF(rs:aC):aQ:=rs.map (·.1)
section
variable {P:aa->Prop}{k n:Nat}{rs:aC}(I:Dp P k n rs)
include I
omit I in
theorem tE{W:Nat}:∀(qs:aQ) (b:Nat),b∣W->(∀q∈qs,q.den∣W)->qs.foldl (λb q=>Nat.lcm b q.den) b∣W
 |[],_,h,_=>h
 |q::qs,b,h,hq=>tE qs _ (Nat.lcm_dvd h (hq q aae)) λp hp=>hq p (aaf _ hp)
end
noncomputable def fc:ag:=[.ifs (.or [(.not (.jW (.v 0) .tuple)),(.cmp .ne (.bf .len [(.v 0)]) (.int 2))]) [.ret (.bl false)] [],.ifs (.not (.call 43 [(.ix (.v 0) (.int 1)),(.v 1)])) [.ret (.bl false)] [],.ret (.and [(.call 3 [(.ix (.v 0) (.int 0))]),(.cmp .gt (.ix (.ix (.v 0) (.int 0)) (.int 0)) (.int 0))])]
noncomputable def yp:ag:=[.ifs (.bO 1022 [(.ix (.v 1) (.int 1)),(.ix (.v 2) (.int 1))]) [.ret (.bl false)] []]
def fb:ag:=[.fr (.tp [1,2]) (.EW 1000 [(.v 0),(.bO 1020 [(.v 0),(.int 1)])]) yp,.ret (.bl true)]
def ni(rs:aC):ab:=rs.map λr=>.tup (ae r.2)
@[simp]theorem ng(g:Fl->Fl)(rs:aC):av g (ni rs)=ni rs:=dh g (λr=>by simp) rs
@[simp]theorem Kt(g:Fl->Bool)(rs:aC):aN g (ni rs)=false:=cK g (λr=>by simp) rs
def uL(b:Nat)(rs:aC):ab:=rs.map λr=>.tup [.int (cf b r.1),.tup (ae r.2)]
@[simp]theorem By(g:Fl->Fl)(b:Nat)(rs:aC):av g (uL b rs)=uL b rs:=dh g (λr=>by simp) rs
@[simp]theorem O7(g:Fl->Bool)(b:Nat)(rs:aC):aN g (uL b rs)=false:=cK g (λr=>by simp) rs
noncomputable def Gw:CE:=.comp 2 (.tp [0,1]) [] .seq [(.v 0)] [] (.v 0)
noncomputable def Gs:CE:=.comp 2 (.tp [0,1]) [] .seq [(.v 0)] [] (.v 1)
variable {rs:aC}
theorem Qf(Φ:aY)(h:rs.length<=1000)(r:bo):aW Φ Gw (some (.lst .fz (bq rs))::r)=ok (.lst .ow (bu (eF rs))):=by
 unfold Gw;rw[cQ (xs:=[.lst .fz (bq rs)]) (items:=bq rs) (ds:=rs.map λr=>qD r.1) (by simp) (by rw[dX];simp) (bX λr hr=>?_) (by simp;exact b6 (by left))]
 ·simp[bu,eF,aO]
 ·exact⟨[some (qD r.1),some (.tup (ae r.2))],by simp[bK,rD],by simp,by simp⟩
theorem N9(Φ:aY)(h:rs.length<=1000)(r:bo):aW Φ Gs (some (.lst .fz (bq rs))::r)=ok (.lst .ow (ni rs)):=by
 unfold Gs;rw[cQ (xs:=[.lst .fz (bq rs)]) (items:=bq rs) (ds:=rs.map λr=>.tup (ae r.2)) (by simp) (by rw[dX];simp) (bX λr hr=>?_) (by simp;exact b6 (by left))]
 ·exact aa5 (λx=>ok (D.lst .ow x)) (ng gB rs)
 ·exact⟨[some (qD r.1),some (.tup (ae r.2))],by simp[bK,rD],by simp,by simp⟩
def k7(m:aw):Prop:=∀(rs:aC) k,zy k (eF rs)->m [.lst .fz (bq rs)]=ok (.tup [.int (cm (eF rs)),.lst .ow (uL (cm (eF rs)) rs)])
def jg:ag:=[.asg (.nm 1) Gw,.asg (.nm 2) Gs,.asg (.nm 3) (.call 9 [(.v 1)]),.ret (.tup [(.v 3),(.bO 1040 [(.call 10 [(.v 1),(.v 3)]),(.v 2)])])]
theorem yw(Φ:aY)(h9:dD (Φ 9))(DR:gc (Φ 10))(Po:Φ 1040=N5):k7 (mk Φ 1 4 jg):=by
 intro rs k hs;have hl:rs.length<=1000:=by have:=hs.len;simpa [eF]using this
 have e1:=Qf Φ hl;have e2:=N9 Φ hl;have e3:=λf=>h9 f (eF rs) k hs;have e4:=λf=>DR f (eF rs) k (cm (eF rs)) hs hs.FI;generalize cm (eF rs)=b at *;have e5:Φ 1040 [.lst .ow (ae ((eF rs).map (cf b))),.lst .al (ni rs)]=ok (.lst .ow (uL b rs)):=by
  rw[Po];show ok (D.lst .ow (av aP (List.zipWith pairD (ae ((eF rs).map (cf b))) (ni rs))))=_;rw[f7,bh,ng];unfold eF ae ni uL;rw[List.map_map,List.map_map,List.zipWith_map,List.zipWith_self];rfl
 simp[mk_eq,jg,DJ Φ Gw _ rfl,DJ Φ Gs _ rfl,e1,e2,e3,e4,e5]
noncomputable def Lj:CE:=.comp 2 (.tp [0,1]) [] .seq [(.ix (.v 1) (.int 1))] [] (.v 0)
def eU:ag:=[.asg (.nm 1) (.call 14 [(.v 0)]),.ret (.cmp .eq (.bf .jz [Lj]) (.ix (.v 1) (.int 0)))]
theorem Af{b:Nat}(h:∀q∈qs,q.den∣b)(h1:qs.sum=1):(qs.map (cf b)).sum=(b:Int):=by
 have:=iC h;rw[h1,Rat.one_mul,<- Rat.intCast_natCast]at this;exact Rat.intCast_inj.mp this
noncomputable def j6:ag:=[.ifs (.not (.call 12 [(.v 3),(.v 1)])) [.ret (.bl false)] []]
def bZ:ag:=[.ifs (.or [(.not (.jW (.v 0) .tuple)),(.cmp .ne (.bf .len [(.v 0)]) (.int 2))]) [.ret (.bl false)] [],.asg (.nm 1) (.ix (.v 0) (.int 0)),.asg (.nm 2) (.ix (.v 0) (.int 1)),.ifs (.or [(.not (.call 0 [(.v 1)])),(.cmp .lt (.v 1) (.int 1)),(.cmp .gt (.v 1) (.glo "MOST_HOUSES" 12))]) [.ret (.bl false)] [],.ifs (.not (.jW (.v 2) .list)) [.ret (.bl false)] [],.fr (.nm 3) (.seq (.v 2)) j6,.ret (.and [(.call 44 [(.v 2)]),(.call 15 [(.v 2)])])]
noncomputable def vE:CE:=.comp 2 (.tp [0,1]) [0] .seq [(.ix (.v 0) (.int 1))] [] (.call 11 [(.v 1),(.ix (.v 2) (.int 0))])
def eu:ag:=[.ret (.and [(.call 45 [(.v 0)]),(.bf .all1 [vE])])]
noncomputable def cH:ag:=[.ifs (.not (.call 16 [(.v 0)])) [.rs 1] []]
end DI
end
section
set_option maxHeartbeats 1000000
namespace DI
open PySem (Str)
noncomputable def kQ(d:D):Bool:=match d with
 |.tup (.int a::_)=>decide (0<a)
 |_=>false
def fI(n:Int)(d:D):Bool:=match d with
 |.tup [c,l]=>bH l n&&(bS c&&kQ c)
 |_=>false
def Lw(d:D):Prop:=match d with
 |.tup [_,l]=>uo l
 |_=>True
def vY(m:aw):Prop:=∀d (n:Int),Lw d->m [d,.int n]=ok (.bl (fI n d))
variable {ds:ab}
theorem j4(h:ds.length=2):∃x y,ds=[x,y]:=by
 match ds,h with
 |[x,y],_=>exact⟨x,y,rfl⟩
theorem AO{n:Int}(h:ds.length≠2):fI n (.tup ds)=false:=by
 unfold fI
 match ds,h with
 |[],_=>rfl
 |[_],_=>rfl
 |[_,_],h=>exact absurd rfl h
 |_::_::_::_,_=>rfl
theorem Jc(Φ:aY)(h3:gj (Φ 3))(Uj:gZ (Φ 43)):vY (mk Φ 2 2 fc):=by
 intro d n hc;have ty:∀ds,bJ .tuple (.tup ds)=true:=λ_=>rfl;cases d with
 |tup ds =>
  by_cases hl:ds.length=2
  ·obtain⟨c,l,rfl⟩:=j4 hl;have e1:=Uj (aA aK (aA aP (aA aP l))) n (gG (gG (gG (show uo l from hc))));rw[dY,dY,dY]at e1;have e2:=h3 (aA aK (aA aP (aA aP c)));rw[jF,jF,jF]at e2;cases hh:bH l n with
   |false=>rw[hh]at e1;simp[mk_eq,fc,ty,e1,fI,hh]
   |true =>
    rw[hh]at e1;cases hf:bS c with
    |false=>rw[hf]at e2;simp[mk_eq,fc,ty,e1,e2,fI,hh,hf]
    |true =>
     obtain⟨q,rfl⟩:=iS hf;rw[hf]at e2;have e4:qD q=.tup [.int q.num,.int q.den]:=rfl;simp at e2;simp[mk_eq,fc,ty,e1,e2,fI,hh,hf];simp[e4,kQ]
  ·have jC:¬ (ds.length:Int)=2:=by left
   simp[mk_eq,fc,ty,jC,AO hl,aO]
 |_=>simp[mk_eq,fc,bJ,fI]
def br(d:D):Row:=match d with
 |.tup [.tup [.int a,.int b],.tup ds]=>(Rat.divInt a b,numsOf ds)
 |_=>(0,[])
theorem j8{n:Nat}{d:D}(h:fI n d=true):d=rD (br d)/\0<(br d).1/\bH (.tup (ae (br d).2)) n=true:=by
 unfold fI at h;split at h
 ·rename_i c l;rw[Bool.and_eq_true,Bool.and_eq_true]at h;obtain⟨h1,h2,h3⟩:=h;obtain⟨q,rfl⟩:=iS h2;cases l with
  |tup ds =>
   have PD:=h1;unfold bH at h1;rw[Bool.and_eq_true]at h1;obtain⟨ns,rfl⟩:=dP h1.1;have e:br (.tup [qD q,.tup (ae ns)])=(q,ns):=by
    show(Rat.divInt q.num q.den,numsOf (ae ns))=_;rw[gf,dN]
   rw[e];refine⟨rfl,?_,PD⟩;have:0<q.num:=aab h3;have:=vI (t:=q.num) (b:=q.den) this (by have:=A0 q;left)
   rwa [gf]at this
  |_=>simp[bH]at h1
 ·cases h
theorem l7{n:Nat}{rows:ab}(h:rows.all (fI n)=true):rows=bq (rows.map br):=by
 unfold bq;rw[List.map_map]
 conv=>lhs;rw[<- List.map_id rows]
 refine aam λd hd=>?_;exact(j8 (List.all_eq_true.mp h d hd)).1
def eE:au->Bool
 |a::b::l=>HT.lexLt a b&&eE (b::l)
 |_=>true
def ye(m:aw):Prop:=∀rs:aC,m [.lst .fz (bq rs)]=ok (.bl (eE (rs.map (·.2))))
theorem PH{Φ:aY}(pC:Φ 1022=Mb)(a b:aa):Φ 1022 [.tup (ae a),.tup (ae b)]=ok (.bl (!HT.lexLt a b)):=by
 rw[pC];show(match intsOf (ae a)with|some ns=>(match intsOf (ae b)with|some ms=>ok (D.bl (!HT.lexLt ns ms))|none=>none)|none=>none)=_;unfold ae;rw[bA,bA]
theorem sO(Φ:aY)(pC:Φ 1022=Mb)(c0:aH):∀(rs:aC) (r:Row) (c1 c2:aH),
  ∃ρ',dG (λd ρ=>cu (.tp [1,2]) d ρ) (λρ=>aV Φ yp ρ) (List.zipWith (λx y=>D.tup [x,y]) (bq (r::rs)) (bq rs)) [c0,c1,c2]=ok (if eE ((r::rs).map (·.2))then .nx else .rt (.bl false),ρ')
 |[],r,c1,c2=>⟨_,rfl⟩
 |s::rs,r,c1,c2=>by
  have e:=PH pC r.2 s.2;have e1:∀r:Row,rD r=.tup [qD r.1,.tup (ae r.2)]:=λ_=>rfl;have er:eE ((r::s::rs).map (·.2))=(HT.lexLt r.2 s.2&&eE ((s::rs).map (·.2))):=rfl;cases h:HT.lexLt r.2 s.2 with
  |true =>
   obtain⟨ρ',ih⟩:=sO Φ pC c0 rs s (some (rD r)) (some (rD s));refine⟨ρ',?_⟩;rw[er,h,Bool.true_and,<- ih];rw[h]at e;exact dF (ρ1:=[c0,some (rD r),some (rD s)]) (by simp) (ρ2:=[c0,some (rD r),some (rD s)]) (by simp[yp,e1,e]) rfl
  |false =>
   refine⟨[c0,some (rD r),some (rD s)],?_⟩;rw[er,h,Bool.false_and];rw[h]at e;exact dZ (ρ1:=[c0,some (rD r),some (rD s)]) (by simp) (by simp[yp,e1,e])
theorem EF(Φ:aY)(Co:Φ 1000=zU)(Cn:Φ 1020=cutD true)(pC:Φ 1022=Mb):ye (mk Φ 1 3 fb):=by
 intro rs;have e1:Φ 1020 [.lst .fz (bq rs),.int 1]=ok (.lst .ow (bq (rs.drop 1))):=by
  rw[Cn];show(if (0:Int)<=1 then ok (D.lst .ow (av aP (nZ true (1:Int).toNat (bq rs))))else none)=_;rw[if_pos (by decide)];show ok (D.lst .ow (av aP ((bq rs).drop 1)))=_;rw[show(bq rs).drop 1=bq (rs.drop 1) by simp[bq,List.map_drop]];simp
 have e2:Φ 1000 [.lst .fz (bq rs),.lst .ow (bq (rs.drop 1))]=ok (.lst .ow (List.zipWith (λx y=>D.tup [x,y]) (bq rs) (bq (rs.drop 1)))):=by rw[Co];rfl
 have e3:av aK (List.zipWith (λx y=>D.tup [x,y]) (bq rs) (bq (rs.drop 1)))=List.zipWith (λx y=>D.tup [x,y]) (bq rs) (bq (rs.drop 1)):=by
  have:=f7 aK (bq rs) (bq (rs.drop 1));rw[eW,eW]at this;exact this
 have hit:eI Φ (.EW 1000 [(.v 0),(.bO 1020 [(.v 0),(.int 1)])]) [some (.lst .fz (bq rs)),none,none]=ok (List.zipWith (λx y=>D.tup [x,y]) (bq rs) (bq (rs.drop 1)),[some (.lst .fz (bq rs)),none,none]):=by
  show bd (cP Φ [(.v 0),(.bO 1020 [(.v 0),(.int 1)])] [some (.lst .fz (bq rs)),none,none]) _=_;have:cP Φ [(.v 0),(.bO 1020 [(.v 0),(.int 1)])] [some (.lst .fz (bq rs)),none,none]=ok [.lst .fz (bq rs),.lst .ow (bq (rs.drop 1))]:=by simp[e1]
  rw[this,cR,e2,cR];show ok (av aK (List.zipWith (λx y=>D.tup [x,y]) (bq rs) (bq (rs.drop 1))),if aN bD [D.lst .fz (bq rs),.lst .ow (bq (rs.drop 1))]then _ else _)=_;rw[e3];simp
 obtain⟨ρ',e⟩:∃ρ',dG (λd ρ=>cu (.tp [1,2]) d ρ) (λρ=>aV Φ yp ρ) (List.zipWith (λx y=>D.tup [x,y]) (bq rs) (bq (rs.drop 1))) [some (.lst .fz (bq rs)),none,none]=ok (if eE (rs.map (·.2))then .nx else .rt (.bl false),ρ'):=by
  cases rs with
  |nil=>exact⟨_,rfl⟩
  |cons r rs=>exact sO Φ pC _ rs r none none
 have hf:=fZ (Φ:=Φ) (t:=.tp [1,2]) (b:=yp) hit e;cases h:eE (rs.map (·.2))with
 |true=>rw[h]at hf;simp at hf;simp[mk_eq,fb,hf]
 |false=>rw[h]at hf;simp at hf;simp[mk_eq,fb,hf]
def Dt(m:aw):Prop:=∀(rs:aC) k,zy k (eF rs)->m [.lst .fz (bq rs)]=ok (.bl (decide ((eF rs).sum=1)))
theorem Ag{b:Nat}{qs:aQ}(hb:0<b)(h:∀q∈qs,q.den∣b):(qs.map (cf b)).sum=(b:Int) ↔ qs.sum=1:=by
 refine⟨λe=>?_,Af h⟩;have:=iC h;rw[e]at this;have lV:((b:Int):Rat)≠0:=by
  intro z;have:=Rat.intCast_inj.mp (z.trans Rat.intCast_zero.symm);left
 rw[Rat.intCast_natCast]at this lV;generalize (b:Rat)=x at *;grind
theorem Jb(Φ:aY)(Uv:k7 (Φ 14)):Dt (mk Φ 1 2 eU):=by
 intro rs k hs;have hl:rs.length<=1000:=by have:=hs.len;simpa [eF]using this
 have e1:=Uv rs k hs;have hb:=hs.lcm;have e2:=Ag hb.1 hb.2.2;generalize cm (eF rs)=b at *;have e3:∀c0,aW Φ Lj [c0,some (.tup [.int b,.lst .ow (uL b rs)])]=ok (.lst .ow (ae ((eF rs).map (cf b)))):=λc0=>by
  unfold Lj;rw[cQ (xs:=[.lst .al (uL b rs)]) (items:=uL b rs) (ds:=rs.map λr=>.int (cf b r.1)) (by simp) (by rw[dX];simp) (bX λr hr=>?_) (by simp;exact b6 (by left))]
  ·simp[ae,eF,aO]
  ·exact⟨[some (.int (cf b r.1)),some (.tup (ae r.2))],by simp[bK],by simp,by simp⟩
 have e4:n9 .jz [.lst .ow (ae ((eF rs).map (cf b)))]=ok (.int ((eF rs).map (cf b)).sum):=by
  show(match intsOf (ae ((eF rs).map (cf b)))with|some ns=>ok (D.int ns.sum)|none=>none)=_;unfold ae;rw[bA]
 have e5:∀x y:Int,dH .eq (.int x) (.int y)=ok (.bl (x==y)):=λx y=>rfl;have e6:(((eF rs).map (cf b)).sum==(b:Int))=decide ((eF rs).sum=1):=by
  rw[Bool.eq_iff_iff,beq_iff_eq,decide_eq_true_iff];exact e2
 simp[mk_eq,eU,e1,e3,e4,e5,e6]
end DI
end
section
set_option maxHeartbeats 1000000
namespace DI
open PySem (Str)
mutual
theorem jb(g h:Fl->Fl):∀d:D,aA g (aA h d)=aA (λf=>g (h f)) d
 |.tup ds=>by rw[aA,aA,aA,f9 g h ds]
 |.lst f ds=>by rw[aA,aA,aA,f9 g h ds]
 |.cM f ks ds=>by rw[aA,aA,aA,f9 g h ds]
 |.bF=>rfl
 |.bl _=>rfl
 |.int _=>rfl
 |.str _=>rfl
theorem f9(g h:Fl->Fl):∀ds:ab,av g (av h ds)=av (λf=>g (h f)) ds
 |[]=>rfl
 |d::ds=>by rw[av,av,av,jb g h d,f9 g h ds]
end
theorem xD(d:D):aA aK (aA aP d)=aA aK d:=by
 rw[jb];congr 1;funext f;cases f<;>rfl
theorem Dr(d:D):aA aP (aA aK d)=aA aK d:=by
 rw[jb];congr 1;funext f;cases f<;>rfl
def bj:Nat->D->Bool
 |_,.bF=>true
 |_,.bl _=>true
 |_,.int i=>decide (i.natAbs<2 ^ 50)
 |_,.str s=>s == "drawing"
 |n+1,.tup ds=>decide (ds.length<=16)&&ds.all (bj n)
 |n+1,.lst f ds=>!iO f&&(decide (ds.length<=16)&&ds.all (bj n))
 |_,_=>false
theorem cL(g:Fl->Fl)(hg:∀f,iO (g f)=iO f):∀(n:Nat) (d:D),bj n (aA g d)=bj n d
 |0,d=>by cases d<;>rfl
 |n+1,d=>by
  cases d<;>first|rfl|skip
  ·simp only[aA,bj,aO,List.all_map,List.length_map];congr 2;funext d;exact cL g hg n d
  ·simp only[aA,bj,aO,List.all_map,List.length_map,hg];congr 3;funext d;exact cL g hg n d
variable {ds:ab}
theorem cg{n:Nat}(h:bj n (.tup ds)=true):∃m,n=m+1/\ds.length<=16/\∀d∈ds,bj m d=true:=by
 cases n with
 |zero=>cases h
 |succ m =>
  rw[bj,Bool.and_eq_true]at h;exact⟨m,rfl,aab h.1,List.all_eq_true.mp h.2⟩
theorem gF{n:Nat}{f:Fl}(h:bj n (.lst f ds)=true):∃m,n=m+1/\ds.length<=16/\(∀d∈ds,bj m d=true)/\iO f=false:=by
 cases n with
 |zero=>cases h
 |succ m =>
  rw[bj,Bool.and_eq_true,Bool.and_eq_true]at h;exact⟨m,rfl,aab h.2.1,List.all_eq_true.mp h.2.2,by simpa using h.1⟩
theorem ue{n:Nat}{d:D}(h:bj n d=true):uo d:=by
 cases d with
 |tup ds=>obtain⟨_,_,h,_⟩:=cg h;show ds.length<64;left
 |lst f ds=>obtain⟨_,_,h,_⟩:=gF h;show ds.length<=1000000;left
 |_=>trivial
theorem za{n:Nat}{d:D}(h:bj n d=true):Lw d:=by
 unfold Lw;split
 ·obtain⟨m,_,_,h⟩:=cg h;exact ue (h _ (by simp))
 ·trivial
theorem gW:∀{n:Nat} {d:D},bj n d=true->bj (n+1) d=true
 |n,.bF,_=>by cases n<;>rfl
 |n,.bl b,_=>by cases n<;>rfl
 |n,.int b,h=>by cases n<;>exact h
 |n,.str b,h=>by cases n<;>exact h
 |0,.tup ds,h=>by cases h
 |0,.lst _ ds,h=>by cases h
 |n+1,.tup ds,h=>by
  rw[bj,Bool.and_eq_true]at h ⊢;refine⟨h.1,?_⟩;have:=h.2;rw[List.all_eq_true]at this ⊢;exact λd hd=>gW (this d hd)
 |n+1,.lst _ ds,h=>by
  rw[bj,Bool.and_eq_true,Bool.and_eq_true]at h ⊢;refine⟨h.1,h.2.1,?_⟩;have:=h.2.2;rw[List.all_eq_true]at this ⊢;exact λd hd=>gW (this d hd)
 |n,.cM _ _ _,h=>by cases n<;>cases h
theorem xS{n:Nat}{q:Rat}(h:bj n (qD q)=true):Sm 50 q:=by
 obtain⟨m,_,_,h⟩:=cg h;have h1:=h (.int q.num) (by simp);have h2:=h (.int q.den) (by simp);have h1:q.num.natAbs<2 ^ 50:=aab (by cases m<;>exact h1);have h2:(q.den:Int).natAbs<2 ^ 50:=aab (by cases m<;>exact h2);exact⟨h1,by simpa using h2⟩
theorem nX{n:Nat}{rs:aC}(hl:rs.length<=16)(h:∀r∈rs,bj n (rD r)=true):zy 50 (eF rs):=by
 refine⟨λq hq=>?_,by simp[eF];left,by simp[eF];left⟩;obtain⟨r,hr,rfl⟩:=List.mem_map.mp hq;obtain⟨m,_,_,h'⟩:=cg (h r hr);exact xS (h' (qD r.1) (by simp))
def ko(n:Int)(rows:ab):Bool:=rows.all (fI n)&&(eE ((rows.map br).map (·.2))&&decide ((eF (rows.map br)).sum=1))
def bQ(d:D):Bool:=match d with
 |.tup [m,.lst _ rows]=>(match m with
  |.int n=>decide (1<=n)&&(decide (n<=12)&&ko n rows)
  |_=>false)
 |_=>false
def kT(n:Int)(d:D):Bool:=match d with
 |.tup [_,l]=>cO l n
 |_=>false
def df(d:D):Bool:=bQ d&&(match d with
 |.tup [.int n,.lst _ rows]=>rows.all (kT n)
 |_=>false)
def uA(m:aw):Prop:=∀d,bj 8 d=true->aA aK d=d->m [d]=ok (.bl (bQ d))
theorem lJ(Φ:aY)(Ma:vY (Φ 12)){n:Int}(c0 c2:aH):∀(rows:ab) (c3:aH),(∀d∈rows,bj 7 d=true/\aA aK d=d)->∃ρ',dG (λd ρ=>cu (.nm 3) d ρ) (λρ=>aV Φ j6 ρ) rows [c0,some (.int n),c2,c3]=ok (if rows.all (fI n)then .nx else .rt (.bl false),ρ')/\(rows.all (fI n)=true->∃zN,ρ'=[c0,some (.int n),c2,zN])
 |[],c3,_=>⟨_,rfl,λ_=>⟨_,rfl⟩⟩
 |d::rows,c3,h=>by
  obtain⟨h1,PD⟩:=h d aae;have e:=Ma d n (za h1);have al:aA aP d=d:=by rw[<- PD,Dr]
  cases hr:fI n d with
  |true =>
   obtain⟨ρ',ih,SR⟩:=lJ Φ Ma c0 c2 rows (some d) λs hs=>h s (aaf _ hs);refine⟨ρ',?_,λz=>SR (by rw[List.all_cons,hr,Bool.true_and]at z;exact z)⟩;rw[List.all_cons,hr,Bool.true_and,<- ih];rw[hr]at e;exact dF (ρ1:=[c0,some (.int n),c2,some d]) (by simp) (ρ2:=[c0,some (.int n),c2,some d]) (by simp[j6,al,PD,e]) rfl
  |false =>
   refine⟨[c0,some (.int n),c2,some d],?_,λz=>by rw[List.all_cons,hr]at z;cases z⟩;rw[List.all_cons,hr,Bool.false_and];rw[hr]at e;exact dZ (ρ1:=[c0,some (.int n),c2,some d]) (by simp) (by simp[j6,al,PD,e])
theorem eZ(h:av aK ds=ds):∀d∈ds,aA aK d=d:=by
 induction ds with
 |nil=>intro d hd;cases hd
 |cons x xs ih =>
  rw[av]at h;obtain⟨h1,h2⟩:=aa1 h;intro d hd;rcases List.mem_cons.mp hd with rfl|hd
  ·exact h1
  ·exact ih h2 d hd
mutual
theorem xB:∀d:D,aU bD (aA aK d)=false
 |.tup ds=>by rw[aA,aU];exact kh ds
 |.lst f ds=>by rw[aA,aU,kh ds];cases f<;>rfl
 |.cM f ks ds=>by rw[aA,aU,kh ds];cases f<;>rfl
 |.bF=>rfl
 |.bl _=>rfl
 |.int _=>rfl
 |.str _=>rfl
theorem kh:∀ds:ab,aN bD (av aK ds)=false
 |[]=>rfl
 |d::ds=>by rw[av,aN,xB d,kh ds];rfl
end
theorem qA{d:D}(h:aA aK d=d):aU bD d=false:=by rw[<- h];exact xB d
theorem jL{d:D}(h:aA aK d=d):aA aP d=d:=by rw[<- h,Dr]
theorem qV{f:Fl}{rows:ab}(h:aA aK (.lst f rows)=.lst f rows)(hs:iO f=false):f=.fz/\av aK rows=rows:=by
 rw[aA]at h;obtain⟨h1,h2⟩:=D.lst.inj h;refine⟨?_,h2⟩;cases f<;>first|rfl | (cases h1;done)|cases hs
theorem AK(Φ:aY)(h0:eO (Φ 0))(Ma:vY (Φ 12))(Y4:Dt (Φ 15))(YV:ye (Φ 44)):uA (mk Φ 1 4 bZ):=by
 intro d hd hz;have ty:∀ds,bJ .tuple (.tup ds)=true:=λ_=>rfl;have tl:∀f ds,bJ .list (.lst f ds)=true:=λ_ _=>rfl;cases d with
 |tup ds =>
  by_cases hl:ds.length=2
  ·obtain⟨m,r,rfl⟩:=j4 hl;obtain⟨k,hk,_,hd⟩:=cg hd;obtain rfl:k=7:=by left
   have B2:=eZ (D.tup.inj hz);have zm:=B2 m (by simp);have zr:=B2 r (by simp);have am:=jL zm;have ar:=jL zr;have e0:=h0 m;cases hw:bN m with
   |false =>
    rw[hw]at e0;have:bQ (.tup [m,r])=false:=by
     unfold bQ;cases r<;>first|rfl|skip
     cases m<;>first|rfl|exact Bool.noConfusion (show true=false from hw)
    rw[this];simp[mk_eq,bZ,ty,am,ar,zm,zr,qA zm,qA zr,e0]
   |true =>
    obtain⟨n,rfl⟩:=fE hw;rw[hw]at e0;have hr:=hd r (by simp);by_cases n1:n<1
    ·have:bQ (.tup [.int n,r])=false:=by
      unfold bQ;cases r<;>first|rfl|skip
      show(decide (1<=n)&&_)=false;rw[decide_eq_false (by left)];rfl
     rw[this];simp[mk_eq,bZ,ty,ar,zr,qA zr,e0,n1]
    ·by_cases n2:12<n
     ·have:bQ (.tup [.int n,r])=false:=by
       unfold bQ;cases r<;>first|rfl|skip
       show(_&&(decide (n<=12)&&_))=false;rw[decide_eq_false (by left:¬ n<=12),Bool.false_and,Bool.and_false]
      rw[this];simp[mk_eq,bZ,ty,ar,zr,qA zr,e0,n1,n2]
     ·by_cases hL:∃f rows,r=.lst f rows
      ·obtain⟨f,rows,rfl⟩:=hL;obtain⟨k,hk,hlen,F3,Kk⟩:=gF hr;obtain rfl:k=6:=by left
       obtain⟨rfl,HB⟩:=qV zr Kk;have Te:=eZ HB;obtain⟨ρ',el,Mf⟩:=lJ Φ Ma (n:=n) (some (.tup [.int n,.lst .fz rows])) (some (.lst .fz rows)) rows none λd kb=>⟨gW (F3 d kb),Te d kb⟩
       have hit:eI Φ (.seq (.v 2)) [some (.tup [.int n,.lst .fz rows]),some (.int n),some (.lst .fz rows),none]=ok (rows,[some (.tup [.int n,.lst .fz rows]),some (.int n),some (.lst .fz rows),none]):=by
        have e1:aW Φ (.v 2) [some (.tup [.int n,.lst .fz rows]),some (.int n),some (.lst .fz rows),none]=ok (.lst .fz rows):=by
         show ok (aA aP (.lst .fz rows))=_;rw[ar]
        have na:(bD Fl.fz||aN bD rows)=false:=qA zr;rw[BQ e1,HB,na];rfl
       have hf:=fZ (Φ:=Φ) (t:=.nm 3) (b:=j6) hit el;have hB:bQ (.tup [.int n,.lst .fz rows])=ko n rows:=by
        show(decide (1<=n)&&(decide (n<=12)&&ko n rows))=_;rw[decide_eq_true (by left),decide_eq_true (by left)];rfl
       rw[hB];have aT:aA aP (.tup [.int n,.lst .fz rows])=.tup [.int n,.lst .fz rows]:=jL hz;cases ha:rows.all (fI n)with
       |false =>
        have:ko n rows=false:=by unfold ko;rw[ha];rfl
        rw[this];rw[ha]at hf;simp at hf;simp[mk_eq,bZ,ty,tl,ar,qA zr,e0,n1,n2,hf]
       |true =>
        obtain⟨zN,rfl⟩:=Mf ha;obtain⟨n',rfl⟩:∃n':Nat,n=(n':Int):=⟨n.toNat,by left⟩
        have HC:=l7 ha;have WW:=YV (rows.map br);have WX:=Y4 (rows.map br) 50 (nX (n:=6) (by simpa using hlen) (λr OC=>by
         obtain⟨d,kb,rfl⟩:=List.mem_map.mp OC;have:=(j8 (List.all_eq_true.mp ha d kb)).1;rw[<- this];exact F3 d kb))
        rw[<- HC]at WW WX;have:ko n' rows=(eE ((rows.map br).map (·.2))&&decide ((eF (rows.map br)).sum=1)):=by unfold ko;rw[ha];rfl
        rw[this];rw[ha]at hf;simp only[if_true]at hf;have ZW:aA aK (.lst .fz rows)=.lst .fz rows:=zr;generalize eE ((rows.map br).map (·.2))=b1 at *;generalize decide ((eF (rows.map br)).sum=1)=b2 at *;cases b1<;>simp[mk_eq,bZ,ty,tl,ar,zr,qA zr,e0,n1,n2,hf,WW,WX]
      ·have Ua:bJ .list r=false:=by
        cases r<;>first|rfl|exact absurd ⟨_,_,rfl⟩ hL
       have:bQ (.tup [.int n,r])=false:=by
        unfold bQ;cases r<;>first|rfl|exact absurd ⟨_,_,rfl⟩ hL
       rw[this];simp[mk_eq,bZ,ty,ar,zr,qA zr,e0,n1,n2,Ua]
  ·have jC:¬ (ds.length:Int)=2:=by left
   have:bQ (.tup ds)=false:=by
    unfold bQ
    match ds,hl with
    |[],_=>rfl
    |[_],_=>rfl
    |[_,_],h=>exact absurd rfl h
    |_::y::_::_,_=>cases y<;>rfl
   rw[this];simp[mk_eq,bZ,ty,jC,aO]
 |_=>simp[mk_eq,bZ,bJ,bQ]
end DI
end
section
set_option maxHeartbeats 1000000
namespace DI
open PySem (Str)
def rO(m:aw):Prop:=∀d,bj 8 d=true->aA aK d=d->m [d]=ok (.bl (df d))
theorem pL{d:D}(h:bQ d=true):∃(n:Nat) (f:Fl) (rows:ab),d=.tup [.int n,.lst f rows]/\1<=n/\n<=12/\rows.all (fI n)=true/\eE ((rows.map br).map (·.2))=true/\(eF (rows.map br)).sum=1:=by
 unfold bQ at h;split at h
 ·rename_i m f rows;cases m with
  |int n =>
   have h:(decide (1<=n)&&(decide (n<=12)&&ko n rows))=true:=h;rw[Bool.and_eq_true,Bool.and_eq_true]at h;obtain⟨h1,h2,h3⟩:=h;have h1:=aab h1;have h2:=aab h2;obtain⟨n',rfl⟩:∃n':Nat,n=(n':Int):=⟨n.toNat,by left⟩
   unfold ko at h3;rw[Bool.and_eq_true,Bool.and_eq_true]at h3;exact⟨n',f,rows,rfl,by left,by left,h3.1,h3.2.1,aab h3.2.2⟩
  |_=>cases h
 ·cases h
theorem Dq(n:Int)(rs:aC):(rs.map λr=>cO (.tup (ae r.2)) n).all id=(bq rs).all (kT n):=by
 unfold bq;rw[List.all_map,List.all_map];rfl
theorem EH(Φ:aY)(Y5:uz (Φ 11))(YU:uA (Φ 45)):rO (mk Φ 1 1 eu):=by
 intro d hd hz;have e1:=YU d hd hz;have al:=jL hz;cases hB:bQ d with
 |false =>
  rw[hB]at e1;have:df d=false:=by unfold df;rw[hB];rfl
  rw[this];simp[mk_eq,eu,al,hz,e1]
 |true =>
  rw[hB]at e1;obtain⟨n,f,rows,rfl,n1,n2,ha,hr,hs⟩:=pL hB;have OR:df (.tup [.int n,.lst f rows])=rows.all (kT n):=by unfold df;rw[hB];rfl
  rw[OR];have HC:=l7 ha;have FT:=eZ (D.tup.inj hz);obtain⟨k,hk,_,hd2⟩:=cg hd;obtain rfl:k=7:=by left
  obtain⟨k,B9,hlen,F3,Kk⟩:=gF (hd2 (.lst f rows) (by simp));obtain⟨rfl,HB⟩:=qV (FT (.lst f rows) (by simp)) Kk
  let rs:=rows.map br
  have Oz:rows=bq rs:=HC;have e2:aW Φ vE [some (.tup [.int n,.lst .fz rows])]=ok (.lst .ow (ku (rs.map λr=>cO (.tup (ae r.2)) n))):=by
   unfold vE;rw[cQ (xs:=[.lst .fz rows]) (items:=rs.map rD) (ds:=rs.map λr=>.bl (cO (.tup (ae r.2)) n)) ?_ (by rw[dX,HB,Oz];rfl) (bX λr hr=>?_) (by simp[rs];exact b6 (by left))]
   ·simp[ku,aO]
   ·rw[a_,rg,PV,t5];show bW (Oi (ok (aA aP (.tup [.int n,.lst .fz rows]))) (ok (.int 1))) (ok [])=_;rw[al];show bW (ok (aA aP (.lst .fz rows))) (ok [])=_;rw[jL (FT (.lst .fz rows) (by simp))];rfl
   ·have e:=Y5 (.tup (ae r.2)) n (by
     obtain⟨d,kb,rfl⟩:=List.mem_map.mp hr;obtain⟨e1,_,e3⟩:=j8 (List.all_eq_true.mp ha d kb);have:=F3 d kb;rw[e1]at this;obtain⟨m,hm,_,h'⟩:=cg this;exact ue (h' (.tup (ae (br d).2)) (by simp)))
    have ez:aA aK (.tup [.int n,.lst .fz rows])=.tup [.int n,.lst .fz rows]:=hz;refine⟨[some (qD r.1),some (.tup (ae r.2)),some (.tup [.int n,.lst .fz rows])],?_,by simp,?_⟩
    ·show cu (.tp [0,1]) (rD r) [none,none,some (aA aK (.tup [.int n,.lst .fz rows]))]=_;rw[ez];simp[rD]
    ·rw[jH,a_,a_,t5,rg,PV,PV];show fP (Φ 11) (bW (ok (aA aP (.tup (ae r.2)))) (bW (Oi (ok (aA aP (.tup [.int n,.lst .fz rows]))) (ok (.int 0))) (ok [])))=_;rw[al];show fP (Φ 11) (bW (ok (aA aP (.tup (ae r.2)))) (bW (ok (.int n)) (ok [])))=_;simp[e]
  have e3:n9 .all1 [.lst .ow (ku (rs.map λr=>cO (.tup (ae r.2)) n))]=ok (.bl (rows.all (kT n))):=by
   show(match iV (ku (rs.map λr=>cO (.tup (ae r.2)) n))with|some bs=>ok (D.bl (bs.all id))|none=>none)=_;unfold ku;rw[kZ];show ok (D.bl ((rs.map λr=>cO (.tup (ae r.2)) n).all id))=_;rw[Dq,<- Oz]
  have ez:aA aK (.tup [.int n,.lst .fz rows])=.tup [.int n,.lst .fz rows]:=hz;unfold eu;rw[mk_eq (ar:=1) (ds:=[_]) rfl];show jk (aV Φ [.ret (.and [(.call 45 [(.v 0)]),(.bf .all1 [vE])])] [some (.tup [.int n,.lst .fz rows])])=_;have Zy:aW Φ (.call 45 [(.v 0)]) [some (.tup [.int n,.lst .fz rows])]=ok (.bl true):=by
   rw[jH,a_,PV,t5];show fP (Φ 45) (bW (ok (aA aP (.tup [.int n,.lst .fz rows]))) (ok []))=_;rw[al];show tW (Φ 45 [aA aK (.tup [.int n,.lst .fz rows])])=_;rw[ez,e1];rfl
  have call:aW Φ (.bf .all1 [vE]) [some (.tup [.int n,.lst .fz rows])]=ok (.bl (rows.all (kT n))):=by
   rw[vF,a_,e2,t5];exact e3
  rw[bG,G6];have:iu Φ (.and [(.call 45 [(.v 0)]),(.bf .all1 [vE])]) [some (.tup [.int n,.lst .fz rows])]=ok (.bl (rows.all (kT n)),[some (.tup [.int n,.lst .fz rows])]):=by
   show cF _ _ (aW Φ (.and [(.call 45 [(.v 0)]),(.bf .all1 [vE])]) _)=_;rw[CO,vG,Zy,CN,call];rfl
  rw[this];rfl
def Ia(m:aw):Prop:=∀d,bj 8 d=true->aA aK d=d->m [d]=if df d then ok .bF else some (.error 1)
theorem Ng(Φ:aY)(Uu:rO (Φ 16)):Ia (mk Φ 1 1 cH):=by
 intro d hd hz;have e1:=Uu d hd hz;have al:=jL hz;cases h:df d with
 |true=>rw[h]at e1;simp[mk_eq,cH,al,hz,e1]
 |false=>rw[h]at e1;simp[mk_eq,cH,al,hz,e1]
noncomputable def ft(g h:Int)(r:Row):Bool:=decide (g∈r.2)&&decide (h∈r.2)
theorem tN(h:Int):∀ns:aa,inD (.int h) (ae ns)=decide (h∈ns)
 |[]=>rfl
 |x::xs=>by
  show(kj (.int x) (.int h)||inD (.int h) (ae xs))=_;rw[me,tN h xs];by_cases e:h=x<;>simp[e,eq_comm]
theorem pI:∀ns:aa,(ae ns).all gC=true
 |[]=>rfl
 |x::xs=>by show(gC (.int x)&&(ae xs).all gC)=true;rw[pI xs];rfl
theorem HI(h:Int)(ns:aa):dH .tM (.int h) (.tup (ae ns))=ok (.bl (decide (h∈ns))):=by
 show(if gC (.int h)&&(ae ns).all gC then ok (D.bl (inD (.int h) (ae ns)))else none)=_;rw[pI,tN];rfl
noncomputable def Gu:CE:=.comp 2 (.tp [0,1]) [1,2] .seq [(.ix (.v 0) (.int 1))] [(.and [(.cmp .tM (.v 2) (.v 1)),(.cmp .tM (.v 3) (.v 1))])] (.v 0)
def mw:ag:=[.asg (.nm 3) Gu,.ret (.call 2 [(.bf .jz [(.v 3)]),(.ix (.v 0) (.int 0))])]
noncomputable def Gr:CE:=.comp 1 (.nm 0) [1] .kF [(.ix (.v 0) (.int 0))] [] (.call 19 [(.v 1),(.v 0),(.v 0)])
def kv:ag:=[.ex (.call 17 [(.v 0)]),.asg (.nm 1) (.call 14 [(.ix (.v 0) (.int 1))]),.ret Gr]
theorem Il{Φ:aY}{p i:Nat}{es:aE}{ρ:bo}{xs:ab}{d d':D}(h1:cP Φ es ρ=ok xs)(h2:aN bD xs=false)(h3:ρ[i]?=some (some d))(h4:Φ p (d::xs)=ok d'):gx Φ (.mut p i es) ρ=ok (.nx,ρ.set i (some d')):=by
 show bd (cP Φ es ρ) (λxs=>vf Φ p i (nr es xs ρ))=_;rw[h1,cR];unfold nr;rw[h2,if_neg Bool.false_ne_true];unfold vf;rw[h3];show bd (Φ p (d::xs)) _=_;rw[h4];rfl
theorem pE(c:aa):∀(cs:au) (ws:aa),cC cs (ae ws) c=(cC cs ws c).map D.int
 |[],_=>by cases ‹aa› <;> rfl
 |_::_,[]=>rfl
 |c'::cs,w::ws=>by
  show(if c'=c then some (D.int w)else cC cs (ae ws) c)=Option.map D.int (if c'=c then some w else cC cs ws c);by_cases e:c'=c
  ·rw[if_pos e,if_pos e];rfl
  ·rw[if_neg e,if_neg e];exact pE c cs ws
def nE(cs:au)(ws:aa)(c:aa):Int:=(cC cs ws c).getD 0
theorem tV{α:Type}{c:aa}:∀{cs:au} (ws:List α),c∉cs->cC cs ws c=none
 |[],_,_=>by cases ‹List α› <;> rfl
 |_::_,[],_=>rfl
 |c'::cs,w::ws,h=>by
  show(if c'=c then some w else cC cs ws c)=none;rw[if_neg λe=>h (by rw[e];exact List.mem_cons_self)];exact tV ws λz=>h (aaf _ z)
theorem qU{α:Type}{c:aa}:∀{cs:au} {ws:List α},cs.length=ws.length->c∈cs->∃w,cC cs ws c=some w/\w∈ws
 |[],_,_,h=>nomatch h
 |_::_,[],hl,_=>by simp at hl
 |c'::cs,w::ws,hl,h=>by
  by_cases e:c'=c
  ·exact⟨w,aaO e,aae⟩
  ·have h':c∈cs:=(List.mem_cons.mp h).resolve_left λz=>e z.symm;obtain⟨w',e1,e2⟩:=qU (cs:=cs) (ws:=ws) (by simpa using hl) h';exact⟨w',(ab8 e).trans e1,aaf _ e2⟩
structure Tab(P:aa->Prop)(j:Nat)(cs:au)(ws:aa):Prop where
 nd:cs.Nodup
 ln:cs.length=ws.length
 DS:cs.length<=j
 lot:∀c∈cs,P c
 pos:∀w∈ws,1<=w
 sum:ws.sum<=7*j
 ne:1<=j->cs≠[]
theorem Tab.get{n:aa->Prop}{j:Nat}{cs:au}{ws:aa}(T:Tab n j cs ws)(c:aa):0<=nE cs ws c:=by
 by_cases h:c∈cs
 ·obtain⟨w,e,m⟩:=qU T.ln h;unfold nE;rw[e];have:=T.pos w m;show 0<=w;left
 ·unfold nE;rw[tV ws h];exact abh _
theorem wu(W:Int)(hW:W≠0):∀ls:aa,(ls.map λx=>Rat.divInt x W).sum=Rat.divInt ls.sum W
 |[]=>by simp
 |x::ls=>by
  rw[List.map_cons,List.sum_cons,wu W hW ls,List.sum_cons,Rat.divInt_eq_div,Rat.divInt_eq_div,Rat.divInt_eq_div,Rat.intCast_add];grind
structure lM(most:Nat)(qs:aQ)(B:Nat):Prop where
 n1:1<=qs.length
 n2:qs.length<=most
 b1:1<=B
 b2:B<=9
 q0:∀q∈qs,0<=q
 q1:∀q∈qs,q<=1
 qd:∀q∈qs,q.den∣B
 su:∃s:Int,qs.sum=(s:Rat)
variable {B:Nat}{qs:aQ}
theorem lM.le{m k:Nat}(h:lM m qs B)(hk:m<=k):lM k qs B:=⟨h.n1,aao h.n2 hk,h.b1,h.b2,h.q0,h.q1,h.qd,h.su⟩
theorem vd{q:Rat}(h:q<=1):q.num<=(q.den:Int):=by
 have h':(q.num:Rat)<=(q.den:Rat):=by
  rw[Hj];have h2:(0:Rat)<=(q.den:Rat):=by exact_mod_cast aaH _
  have:=Rat.mul_le_mul_of_nonneg_right h h2
  rwa [Rat.one_mul]at this
 exact_mod_cast h'
theorem Bm{q:Rat}(h:0<=q):0<=q.num:=Rat.num_nonneg.mpr h
theorem lM.sm{m:Nat}(h:lM m qs B){q:Rat}(hq:q∈qs):Sm 4 q:=by
 have h1:=vd (h.q1 q hq);have h2:=Bm (h.q0 q hq);have h3:=abL (by have:=h.b1;left) (h.qd q hq);have:=h.b2;constructor<;>simp<;>left
theorem lM.RQ{m:Nat}(h:lM m qs B)(hm:m<=12):zy 4 qs:=⟨λ_ hq=>h.sm hq,by have:=h.n2;left,by have:=h.n2;left⟩
def yd(m:aw):Prop:=∀q:Rat,0<=q->q<=1->m [qD q]=ok (.bl true)
noncomputable def mr:ag:=[.ret (.and [(.call 3 [(.v 0)]),(.cmp .ge (.ix (.v 0) (.int 0)) (.int 0)),(.cmp .le (.ix (.v 0) (.int 0)) (.ix (.v 0) (.int 1)))])]
theorem EE(Φ:aY)(h3:gj (Φ 3)):yd (mk Φ 1 1 mr):=by
 intro q h0 h1;have e1:=h3 (qD q);rw[ra]at e1;simp[mk_eq,mr,e1,Bm h0,vd h1]
noncomputable def CJ:CE:=.comp 1 (.nm 0) [] .seq [(.v 0)] [] (.call 23 [(.v 0)])
def HV(m:aw):Prop:=∀f qs (n:Nat),1<=qs.length->qs.length<=n->n<=1000->(∀q∈qs,0<=q)->(∀q∈qs,q<=1)->m [.lst f (bu qs),.int n]=ok (.bl true)
def rH:ag:=[.ifs (.or [(.not (.jW (.v 0) .list)),(.cmp .lt (.bf .len [(.v 0)]) (.int 1)),(.cmp .gt (.bf .len [(.v 0)]) (.v 1))]) [.ret (.bl false)] [],.ret (.bf .all1 [CJ])]
theorem M7(Φ:aY)(YY:yd (Φ 23)):HV (mk Φ 2 2 rH):=by
 intro f qs n h1 h2 hn q0 q1;have e1:∀f',aW Φ CJ [some (.lst f' (bu qs)),some (.int n)]=ok (.lst .ow (ku (qs.map λ_=>true))):=λf'=>by
  unfold CJ;rw[cQ (xs:=[.lst (aP f') (bu qs)]) (items:=bu qs) (ds:=qs.map λ_=>.bl true) (by simp) (by rw[dX];simp) (bX λq hq=>⟨[some (qD q)],by simp[bK],by simp,by simp[YY q (q0 q hq) (q1 q hq)]⟩) (by simp;exact b6 (by left))];simp[ku,aO]
 have e2:((qs.map λ_=>true).all id)=true:=by simp
 have c1:¬ (qs.length:Int)<1:=by left
 have c2:¬ (n:Int)<(qs.length:Int):=by left
 simp[mk_eq,rH,bJ,e1,c1,c2]
def yf(m:aw):Prop:=∀f qs B,lM 12 qs B->∃z:Int,m [.lst f (bu qs)]=ok (.int z)
noncomputable def mv:ag:=[.asg (.nm 1) (.call 9 [(.v 0)]),.asg (.nm 2) (.bf .jz [(.call 10 [(.v 0),(.v 1)])]),.ret (.ite (.cmp .eq (.bin .mod (.v 2) (.v 1)) (.int 0)) (.bin .fdiv (.v 2) (.v 1)) .bF)]
theorem j5{b:Nat}(h:∀q∈qs,q.den∣b){s:Int}(hs:qs.sum=(s:Rat)):(qs.map (cf b)).sum=s*(b:Int):=by
 have:=iC h;rw[hs]at this;have e:((s*(b:Int):Int):Rat)=(s:Rat)*(b:Rat):=by rw[Rat.intCast_mul,Rat.intCast_natCast]
 rw[<- e]at this;exact Rat.intCast_inj.mp this
theorem oS(s b:Int)(hb:b≠0):(s*b).fmod b=0:=by
 rw[Int.fmod_def,Int.mul_fdiv_cancel _ hb,Int.mul_comm b s];left
def Dy(m:aw):Prop:=∀f qs B,lM 12 qs B->m [.lst f (bu qs)]=ok .bF
noncomputable def x8:ag:=[.ifs (.or [(.not (.call 24 [(.v 0),(.glo "MOST_HOUSES" 12)])),(.cmp .Kf (.call 25 [(.v 0)]) .bF)]) [.rs 2] []]
theorem Nh(Φ:aY)(YX:HV (Φ 24))(Um:yf (Φ 25)):Dy (mk Φ 1 1 x8):=by
 intro f qs B I;have e1:=λf=>YX f qs 12 I.n1 I.n2 (by decide) I.q0 I.q1;have e2:∀f,∃z:Int,Φ 25 [.lst f (bu qs)]=ok (.int z):=λf=>Um f qs B I;obtain⟨z,e2⟩:=e2 (aK (aP f));have e1:=e1 (aK (aP f));have c1:dH .Kf (.int z) .bF=ok (.bl false):=rfl;simp[mk_eq,x8];have Mg:Φ 24 [.lst (aK (aP f)) (bu qs),.int 12]=ok (.bl true):=e1;simp[Mg,e2,c1]
def b7(rs:aC)(g h:Int):Rat:=(eF (rs.filter (ft g h))).sum
def oI(n:Nat)(rs:aC):aQ:=(List.range n).map λ(k:Nat)=>b7 rs k k
def Qt(m:aw):Prop:=∀(rs:aC) (b:Nat) (g h:Int),0<b->b<2 ^ 9000->rs.length<=1000->(∀r∈rs,r.1.den∣b)->m [.tup [.int b,.lst .fz (uL b rs)],.int g,.int h]=ok (qD (b7 rs g h))
theorem RV(Φ:aY)(h2:gk (Φ 2)):Qt (mk Φ 3 4 mw):=by
 intro rs b g h b0 b1 hl hb;have k1:∀a,aW Φ Gu [some (.tup [.int b,.lst .fz (uL b rs)]),some (.int g),some (.int h),a]=ok (.lst .ow (ae ((eF (rs.filter (ft g h))).map (cf b)))):=λa=>by
  unfold Gu;rw[cQ (xs:=[.lst .fz (uL b rs)]) (items:=rs.map λr=>.tup [.int (cf b r.1),.tup (ae r.2)]) (ds:=(rs.filter (ft g h)).map λr=>.int (cf b r.1)) (by simp) (by rw[dX,By];rfl) (e_ λr hr=>⟨[some (.int (cf b r.1)),some (.tup (ae r.2)),some (.int g),some (.int h)],by simp[bK],by
   by_cases hg:g∈r.2<;>by_cases hh:h∈r.2<;>simp[HI,ft,hg,hh],λ_=>by simp⟩) ?_]
  ·simp[ae,aO,eF]
  ·have:=List.length_filter_le (ft g h) rs;rw[List.length_map];exact b6 (by left)
 have k4:∀f,n9 .jz [.lst f (ae ((eF (rs.filter (ft g h))).map (cf b)))]=ok (.int ((eF (rs.filter (ft g h))).map (cf b)).sum):=λf=>HH f _;have k3:=h2.1 ((eF (rs.filter (ft g h))).map (cf b)).sum b (by left) (by rw[Int.natAbs_natCast];exact b1);rw[Ec b0 λq hq=>by
  obtain⟨r,hr,rfl⟩:=List.mem_map.mp hq;exact hb r (List.mem_filter.mp hr).1]at k3
 unfold b7;simp[mk_eq,mw,DJ Φ Gu _ rfl,k1,k4,k3]
theorem Eb(r:Row):br (rD r)=r:=by
 show(Rat.divInt r.1.num r.1.den,numsOf (ae r.2))=_;rw[gf,dN]
theorem mF(rs:aC):(bq rs).map br=rs:=by
 unfold bq;rw[List.map_map]
 conv=>rhs;rw[<- List.map_id rs]
 exact aam λr _=>Eb r
theorem xy{d:D}(hd:bj 8 d=true)(hz:aA aK d=d)(hg:df d=true):∃(n:Nat) (rs:aC),d=d5 n rs/\1<=n/\n<=12/\rs.length<=16/\zy 50 (eF rs):=by
 have hB:bQ d=true:=by unfold df at hg;rw[Bool.and_eq_true]at hg;exact hg.1
 obtain⟨n,f,rows,rfl,n1,n2,ha,hr,hs⟩:=pL hB;have HC:=l7 ha;have FT:=eZ (D.tup.inj hz);obtain⟨k,hk,_,hd2⟩:=cg hd;obtain rfl:k=7:=by left
 obtain⟨k,B9,hlen,F3,Kk⟩:=gF (hd2 (.lst f rows) (by simp));obtain⟨rfl,HB⟩:=qV (FT (.lst f rows) (by simp)) Kk;have hl:(rows.map br).length<=16:=by simpa using hlen
 have sm:zy 50 (eF (rows.map br)):=nX (n:=k) hl (λr OC=>by
  obtain⟨d,kb,rfl⟩:=List.mem_map.mp OC;have:=(j8 (List.all_eq_true.mp ha d kb)).1;rw[<- this];exact F3 d kb)
 exact⟨n,rows.map br,by rw[d5,<- HC],n1,n2,hl,sm⟩
def HW(m:aw):Prop:=∀(n:Nat) (rs:aC),bj 8 (d5 n rs)=true->df (d5 n rs)=true->m [d5 n rs]=ok (.lst .ow (bu (oI n rs)))
theorem t7(g:Fl->Fl)(hg:g .fz=.fz)(n:Nat)(rs:aC):aA g (d5 n rs)=d5 n rs:=by
 show D.tup [.int n,.lst (g .fz) (av g (bq rs))]=_;rw[eW,hg];rfl
variable {rs:aC}
theorem Ln{n m:Nat}{ss:aC}(h:d5 n rs=d5 m ss):n=m/\rs=ss:=by
 unfold d5 at h;have h1:=D.tup.inj h;have h2:=aa1 h1;have h3:=(aa1 h2.2).1;refine⟨by have:=D.int.inj h2.1;left,?_⟩;have:=aa5 (List.map br) (D.lst.inj h3).2
 rwa [mF,mF]at this
theorem M8(Φ:aY)(Uv:k7 (Φ 14))(Y3:Ia (Φ 17))(Y1:Qt (Φ 19)):HW (mk Φ 1 2 kv):=by
 intro n rs hd hg;have m2:=t7 aP rfl n rs;have m1:=t7 aK rfl n rs;obtain⟨n',wH,e,n1,n2,hl,sm⟩:=xy hd m1 hg;obtain⟨rfl,rfl⟩:=Ln e;have e1:=Y3 _ hd m1;rw[hg,if_pos rfl]at e1;have e2:=Uv rs 50 sm;have hb:=sm.lcm;have Q2:=sm.FI;have x0:BN (d5 n rs) (.int 0)=ok (.int n):=by unfold d5;simp
 have x1:BN (d5 n rs) (.int 1)=ok (.lst .fz (bq rs)):=by unfold d5;simp
 generalize hB:cm (eF rs)=b at *;have ch:∀k:Nat,Φ 19 [.tup [.int b,.lst .fz (uL b rs)],.int k,.int k]=ok (qD (b7 rs k k)):=λk=>Y1 rs b k k hb.1 (aak Q2 (aaG (by decide) (by decide))) (by left) λr hr=>hb.2.2 _ (aaI hr);have k1:aW Φ Gr [some (d5 n rs),some (.tup [.int b,.lst .ow (uL b rs)])]=ok (.lst .ow (bu (oI n rs))):=by
  unfold Gr;rw[cQ (xs:=[.int n]) (ds:=(List.range n).map λ(k:Nat)=>qD (b7 rs k k)) (by simp[m2,x0]) (qM Φ (by omega) (by omega)) (bX λk' hk=>?_) (by simp;exact b6 (by omega))]
  ·simp[bu,aO,oI]
  ·exact⟨[some (.int k'),some (.tup [.int b,.lst .fz (uL b rs)])],by simp[bK],by simp,by simp[ch]⟩
 simp[mk_eq,kv,DJ Φ Gr _ rfl,m1,m2,x1,e1,e2,k1]
def vZ(m:aw):Prop:=∀f qs B (s:Int),lM 12 qs B->qs.sum=(s:Rat)->m [.lst f (bu qs)]=ok (.int s)
theorem Jd(Φ:aY)(h9:dD (Φ 9))(DR:gc (Φ 10)):vZ (mk Φ 1 3 mv):=by
 intro f qs B s I es;have hs:=I.RQ (aah _);have e9:=λf=>h9 f qs 4 hs;obtain⟨l1,l2,l3⟩:=hs.lcm;have U1:=λf=>DR f qs 4 (cm qs) hs hs.FI;have et:=j5 l3 es;have hb:cm qs<2 ^ 61:=aak l2 (aaG (by decide) (by have:=I.n2;left));generalize cm qs=b at *;have T3:(b:Int)≠0:=by left
 have hm:(s*(b:Int)).fmod b=0:=oS s b T3;have d1:bM .fdiv (.int (s*(b:Int))) (.int (b:Int))=ok (.int s):=by
  rw[gY (d_ (by left) (iJ (by simp;left))),Int.mul_fdiv_cancel _ T3]
 have m1:bM .mod (.int (s*(b:Int))) (.int (b:Int))=ok (.int 0):=by rw[iW T3,hm]
 simp[mk_eq,mv,e9,U1,et,m1,d1]
theorem JY{m:aw}(h:vZ m):yf m:=λf qs B I=>by
 obtain⟨s,es⟩:=I.su;exact⟨s,h f qs B s I es⟩
noncomputable def ji(s:Nat)(d:D):Bool:=match d with
 |.tup [_,.tup ds]=>decide (ds.length=s)
 |_=>false
def jB(qs:aQ)(s:Nat)(d:D):Bool:=df d&&(match d with
 |.tup [.int n,.lst _ rows]=>decide (n=(qs.length:Int))&&(rows.all (ji s)&&decide (oI qs.length (rows.map br)=qs))
 |_=>false)
theorem FK{s n:Nat}(hg:df (d5 n rs)=true):jB qs s (d5 n rs)=(decide (n=qs.length)&&((bq rs).all (ji s)&&decide (oI qs.length rs=qs))):=by
 show(df (d5 n rs)&&(decide ((n:Int)=(qs.length:Int))&&((bq rs).all (ji s)&&decide (oI qs.length ((bq rs).map br)=qs))))=_;rw[hg,Bool.true_and,mF];congr 1;rw[decide_eq_decide];left
theorem iM{s:Nat}{d:D}(hg:df d=false):jB qs s d=false:=by unfold jB;rw[hg,Bool.false_and]
noncomputable def An:ag:=[.ifs (.cmp .ne (.bf .len [(.v 4)]) (.v 2)) [.ret (.bl false)] []]
def zu:ag:=[.ex (.call 26 [(.v 0)]),.ifs (.or [(.not (.call 16 [(.v 1)])),(.cmp .ne (.ix (.v 1) (.int 0)) (.bf .len [(.v 0)]))]) [.ret (.bl false)] [],.asg (.nm 2) (.call 25 [(.v 0)]),.fr (.tp [3,4]) (.seq (.ix (.v 1) (.int 1))) An,.ret (.cmp .eq (.call 20 [(.v 1)]) (.v 0))]
theorem J5(s:Nat)(r:Row):ji s (rD r)=decide (r.2.length=s):=by
 show decide ((ae r.2).length=s)=_;rw[show(ae r.2).length=r.2.length by simp]
theorem tI(Φ:aY)(s:Nat)(c0 c1:aH):∀(rs:aC) (c3 c4:aH),
  ∃zN zo,dG (λd ρ=>cu (.tp [3,4]) d ρ) (λρ=>aV Φ An ρ) (bq rs) [c0,c1,some (.int s),c3,c4]=ok (if (bq rs).all (ji s)then .nx else .rt (.bl false),[c0,c1,some (.int s),zN,zo])
 |[],c3,c4=>⟨c3,c4,rfl⟩
 |r::rs,c3,c4=>by
  have e1:rD r=.tup [qD r.1,.tup (ae r.2)]:=rfl;have ea:(bq (r::rs)).all (ji s)=(decide (r.2.length=s)&&(bq rs).all (ji s)):=by
   show(ji s (rD r)&&_)=_;rw[J5];rfl
  by_cases h:r.2.length=s
  ·obtain⟨d3,d4,ih⟩:=tI Φ s c0 c1 rs (some (qD r.1)) (some (.tup (ae r.2)));refine⟨d3,d4,?_⟩;rw[ea,decide_eq_true h,Bool.true_and];show dG _ _ (rD r::bq rs) _=_;refine dF (ρ1:=[c0,c1,some (.int s),some (qD r.1),some (.tup (ae r.2))]) (by simp[e1]) (ρ2:=[c0,c1,some (.int s),some (qD r.1),some (.tup (ae r.2))]) ?_ ih;simp[An,h]
  ·refine⟨some (qD r.1),some (.tup (ae r.2)),?_⟩;rw[ea,decide_eq_false h,Bool.false_and];have h':¬ (r.2.length:Int)=(s:Int):=by left
   exact dZ (ρ1:=[c0,c1,some (.int s),some (qD r.1),some (.tup (ae r.2))]) (by simp[e1]) (by simp[An,h'])
def H9(m:aw):Prop:=∀qs B (s:Nat) d,lM 12 qs B->qs.sum=((s:Int):Rat)->bj 8 d=true->aA aK d=d->m [.lst .fz (bu qs),d]=ok (.bl (jB qs s d))
theorem CA(f g:Fl)(ps qs:aQ):dH .eq (.lst f (bu ps)) (.lst g (bu qs))=ok (.bl (decide (ps=qs))):=by
 have NO:∀f (l:aQ),eA 40 (.lst f (bu l))=true:=λf l=>by rw[w6];exact qx (λq=>w8 38 q) l
 rw[GO (NO f _) (NO g _)];show ok (D.bl (fu (ps.map qD) (qs.map qD)))=_;rw[ki CF]
theorem Nc(Φ:aY)(Uu:rO (Φ 16))(YZ:HW (Φ 20))(Um:vZ (Φ 25))(Ul:Dy (Φ 26)):H9 (mk Φ 2 5 zu):=by
 intro qs B s d I es hd hz;have n1:=I.n1;have n2:=I.n2;have P8:=Uu d hd hz;have Zp:=Um .fz qs B s I es;have P6:=Ul .fz qs B I;have al:=jL hz;cases hg:df d with
 |false =>
  rw[hg]at P8;rw[iM hg];simp[mk_eq,zu,P6,al,hz,P8]
 |true =>
  rw[hg]at P8;obtain⟨n,rs,rfl,m1,m2,hl,sm⟩:=xy hd hz hg;rw[FK hg];have Zr:=YZ n rs hd hg;have x0:BN (d5 n rs) (.int 0)=ok (.int n):=by unfold d5;simp
  have x1:BN (d5 n rs) (.int 1)=ok (.lst .fz (bq rs)):=by unfold d5;simp
  by_cases hn:n=qs.length
  ·subst hn;rw[decide_eq_true rfl,Bool.true_and];obtain⟨c3,c4,el⟩:=tI Φ s (some (.lst .fz (bu qs))) (some (d5 qs.length rs)) rs none none;have hit:eI Φ (.seq (.ix (.v 1) (.int 1))) [some (.lst .fz (bu qs)),some (d5 qs.length rs),some (.int s),none,none]=ok (bq rs,[some (.lst .fz (bu qs)),some (d5 qs.length rs),some (.int s),none,none]):=by
    rw[BQ (f:=.fz) (ds:=bq rs) (by simp[al,x1])];simp
   have hf:=fZ (Φ:=Φ) (t:=.tp [3,4]) (b:=An) hit el;have ce:=λf g=>CA f g (oI qs.length rs) qs;generalize (bq rs).all (ji s)=a at *;generalize decide (oI qs.length rs=qs)=c at *;cases a<;>simp[mk_eq,zu,P6,al,hz,P8,x0,Zp,hf,Zr,ce]
  ·rw[decide_eq_false hn,Bool.false_and];have zJ:¬ (n:Int)=(qs.length:Int):=by left
   simp[mk_eq,zu,P6,al,hz,P8,x0,zJ]
end DI
end
section
set_option maxHeartbeats 1000000
namespace DI
open PySem (Str)
theorem CY{n:Nat}{i:Int}(h:bj n (.int i)=true):i.natAbs<2 ^ 50:=by
 cases n<;>exact aab h
theorem zf(a b:Int):(decide (0<a)&&(decide (0<b)&&kj (qD (Rat.divInt a b)) (.tup [.int a,.int b])))=(bS (.tup [.int a,.int b])&&kQ (.tup [.int a,.int b])):=by
 show _=(bS (.tup [.int a,.int b])&&decide (0<a))
 by_cases ha:0<a
 ·rw[decide_eq_true ha,Bool.true_and,Bool.and_true];by_cases hb:0<b
  ·rw[decide_eq_true hb,Bool.true_and,Bool.eq_iff_iff];refine⟨λh=>?_,λh=>?_⟩
   ·have h':((Rat.divInt a b).num==a&&(((Rat.divInt a b).den:Int)==b&&true))=true:=h;rw[Bool.and_true,Bool.and_eq_true,beq_iff_eq,beq_iff_eq]at h';have:D.tup [.int a,.int b]=qD (Rat.divInt a b):=by
     unfold qD;rw[h'.1,h'.2]
    rw[this];exact ra _
   ·obtain⟨q,hq⟩:=iS h;have e1:a=q.num:=by unfold qD at hq;cases hq;rfl
    have e2:b=q.den:=by unfold qD at hq;cases hq;rfl
    subst e1;subst e2;rw[gf];show(q.num==q.num&&((q.den:Int)==q.den&&true))=true;simp
  ·rw[decide_eq_false hb,Bool.false_and];cases hf:bS (.tup [.int a,.int b])with
   |false=>rfl
   |true =>
    obtain⟨q,hq⟩:=iS hf;have e2:b=q.den:=by unfold qD at hq;cases hq;rfl
    have:=A0 q;left
 ·rw[decide_eq_false ha,Bool.false_and,Bool.and_false]
theorem jf:∀(l m:aa),(l.foldl (λ(m:aa) (k:Int)=>if m.any (· == k)then m else m++[k]) m).length<=m.length+l.length/\((l.foldl (λ(m:aa) (k:Int)=>if m.any (· == k)then m else m++[k]) m).length=m.length+l.length->l.Nodup/\∀x∈l,x∉m)
 |[],m=>by simp
 |x::l,m=>by
  rw[List.foldl_cons];by_cases h:m.any (· == x)=true
  ·rw[if_pos h];obtain⟨h1,_⟩:=jf l m;refine⟨by rw[List.length_cons];left,λe=>?_⟩;rw[List.length_cons]at e;left
  ·rw[if_neg h];obtain⟨h1,h2⟩:=jf l (m++[x]);rw[List.length_append]at h1 h2;simp only[List.length_cons,List.length_nil]at h1 h2 ⊢;refine⟨by left,λe=>?_⟩;obtain⟨a,b⟩:=h2 (by left);have hx:x∉m:=λz=>h (List.any_eq_true.mpr ⟨x,z,by simp⟩);refine⟨List.nodup_cons.mpr ⟨λz=>b x z (by simp),a⟩,λy hy=>?_⟩;rcases List.mem_cons.mp hy with rfl|hy
   ·exact hx
   ·exact λz=>b y hy (aaD _ z)
theorem FD{n:Nat}{l:aa}(h:cO (.tup (ae l)) n=true):zA n l:=by
 unfold cO at h;rw[Bool.and_eq_true]at h;obtain⟨h1,h2⟩:=h;have h1:((ae l).all (cw n)&&decide ((eB (numsOf (ae l))).length=(ae l).length))=true:=h1;have h2:decide (numsOf (ae l)=sortI (numsOf (ae l)))=true:=h2;rw[dN]at h1 h2;rw[Bool.and_eq_true]at h1;have h2:=aab h2;have hn:=(jf l []).2 (by have:=aab h1.2;unfold eB at this;simpa using this);have hs:(sortI l).Pairwise (λa b=>decide (a<=b)=true):=abC (by intro a b c;simp;left) (by intro a b;simp;left) _;rw[<- h2]at hs;refine⟨?_,λx hx=>?_⟩
 ·have:=hs.and hn.1;exact this.imp λ{a b} z=>by have:=aab z.1;have:=z.2;left
 ·have:=List.all_eq_true.mp h1.1 (.int x) (aaI hx);have:(decide (0<=x)&&decide (x<(n:Int)))=true:=this;rw[Bool.and_eq_true]at this;exact⟨aab this.1,aab this.2⟩
def mX(d:D):Bool:=match d with
 |.tup [x,y]=>bN x&&bN y
 |_=>false
def Dw(m:aw):Prop:=∀d,aA aK d=d->m [d]=ok (.bl (mX d))
theorem Jf(Φ:aY):Dw (mk Φ 1 1 p5):=by
 intro d hz;have ty:∀ds,bJ .tuple (.tup ds)=true:=λ_=>rfl;cases d with
 |tup ds =>
  by_cases hl:ds.length=2
  ·obtain⟨x,y,rfl⟩:=j4 hl;have B2:av aK [x,y]=[x,y]:=D.tup.inj hz;have al:aA aP (.tup [x,y])=.tup [x,y]:=jL hz;have hc:aW Φ (.comp 1 (.nm 0) [] .seq [(.v 0)] [(.or [(.not (.jW (.v 0) .int)),(.jW (.v 0) .bool)])] (.v 0)) [some (.tup [x,y])]=ok (.lst .ow (av gB ([x,y].filter λx=>!bN x))):=by
    rw[cQ (xs:=[.tup [x,y]]) (items:=[x,y].map id) (ds:=([x,y].filter λx=>!bN x).map id) ?_ (by rw[qL,B2,List.map_id]) (e_ λz bP=>?_) ?_]
    ·rw[List.map_id]
    ·show bW (ok (aA aP (.tup [x,y]))) (ok [])=_;rw[al];rfl
    ·have:=List.length_filter_le (λx=>!bN x) [x,y];rw[List.map_id];exact b6 (by simp at this ⊢;left)
    ·have zx:=eZ B2 z bP;have ax:=jL zx;refine⟨[some z],rfl,?_,λ_=>by simp[ax]⟩;cases z<;>simp[bJ,bN]
   have ln:∀f ds,n9 .len [.lst f ds]=ok (.int ds.length):=λ_ _=>rfl;have e:mX (.tup [x,y])=(bN x&&bN y):=rfl;rw[e];cases hx:bN x<;>cases hy:bN y<;>simp[hx,hy,av]at hc<;>simp[mk_eq,p5,ty,hc,ln]
  ·have jC:¬ (ds.length:Int)=2:=by left
   have:mX (.tup ds)=false:=by
    unfold mX
    match ds,hl with
    |[],_=>rfl
    |[_],_=>rfl
    |[_,_],h=>exact absurd rfl h
    |_::_::_::_,_=>rfl
   rw[this];simp[mk_eq,p5,ty,jC,aO]
 |_=>simp[mk_eq,p5,bJ,mX]
noncomputable def mH:ag:=[.ifs (.or [(.not (.jW (.ix (.v 0) (.v 3)) .int)),(.jW (.ix (.v 0) (.v 3)) .bool),(.cmp .lt (.ix (.v 0) (.v 3)) (.int 0)),(.cmp .ge (.ix (.v 0) (.v 3)) (.v 1))]) [.ret (.bl false)] [],.ifs (.and [(.cmp .gt (.v 3) (.int 0)),(.cmp .le (.ix (.v 0) (.v 3)) (.ix (.v 0) (.bin .sub (.v 3) (.int 1))))]) [.ret (.bl false)] []]
def zt:ag:=[.ifs (.or [(.not (.jW (.v 0) .tuple)),(.cmp .ne (.bf .len [(.v 0)]) (.v 2))]) [.ret (.bl false)] [],.fr (.nm 3) (.kF (.bf .len [(.v 0)])) mH,.ret (.bl true)]
noncomputable def Fd(p:Option Int)(x:Int):Bool:=match p with
 |none=>true
 |some y=>decide (y<x)
def zF(n:Int):Option Int->ab->Bool
 |_,[]=>true
 |p,d::ds=>match d with
  |.int x=>(decide (0<=x)&&decide (x<n))&&(Fd p x&&zF n (some x) ds)
  |_=>false
theorem tm(Φ:aY){n:Int}{ds:ab}(c2:aH):∀(En:ab) (pre:aa) (c3:aH),ds=ae pre++En ->
  ∃zN,dG (λd ρ=>cu (.nm 3) d ρ) (λρ=>aV Φ mH ρ) ((List.range' pre.length En.length).map λ(i:Nat)=>D.int (i:Int)) [some (.tup ds),some (.int n),c2,c3]=ok (if zF n pre.getLast? En then .nx else .rt (.bl false),[some (.tup ds),some (.int n),c2,zN])
 |[],pre,c3,_=>⟨c3,rfl⟩
 |d::En,pre,c3,hd=>by
  rw[List.length_cons,List.range'_succ,List.map_cons];have Yt:(ae pre).length=pre.length:=by simp
  have a0:ds[pre.length]?=some d:=by
   rw[hd,List.getElem?_append_right (by left),Yt,Nat.sub_self];rfl
  have a1:mx (av aP ds) (pre.length:Int)=ok (aA aP (aA aP d)):=at_of (by left) (by rw[Int.toNat_natCast,aO,List.getElem?_map,a0];rfl);have bad:(bJ .int d=false\/bJ .bool d=true)->aV Φ mH [some (.tup ds),some (.int n),c2,some (.int pre.length)]=ok (.rt (.bl false),[some (.tup ds),some (.int n),c2,some (.int pre.length)]):=λhb=>by
   have t:∀t,bJ t (aA aP (aA aP d))=bJ t d:=λt=>by cases t<;>cases d<;>rfl
   cases h1:bJ .int d with
   |false=>simp[mH,a1,t,h1]
   |true =>
    have h2:bJ .bool d=true:=hb.resolve_left (by simp[h1]);simp[mH,a1,t,h1,h2]
  cases d with
  |int x =>
   have a1:mx (av aP ds) (pre.length:Int)=ok (.int x):=a1;have a2:∀y,pre.getLast?=some y->(0:Int)<(pre.length:Int)/\mx (av aP ds) ((pre.length:Int) - 1)=ok (.int y):=λy hy=>by
    have xp:pre≠[]:=λz=>by rw[z]at hy;cases hy
    have hp:0<pre.length:=List.length_pos_iff.mpr xp;refine⟨by left,at_of (d:=.int y) (by left) ?_⟩;rw[show((pre.length:Int) - 1).toNat=pre.length - 1 by left,aO,List.getElem?_map,hd,List.getElem?_append_left (by left),je];rw[List.getLast?_eq_getElem?]at hy;rw[hy];rfl
   have e:zF n pre.getLast? (.int x::En)=((decide (0<=x)&&decide (x<n))&&(Fd pre.getLast? x&&zF n (some x) En)):=rfl;rw[e];by_cases h1:0<=x
   ·by_cases h2:x<n
    ·rw[decide_eq_true h1,decide_eq_true h2,Bool.true_and,Bool.true_and];have g1:¬ x<0:=by left
     have g2:¬ n<=x:=by left
     obtain⟨d3,ih⟩:=tm Φ c2 En (pre++[x]) (some (.int pre.length)) (n:=n) (ds:=ds) (by rw[hd];simp[ae]);rw[List.getLast?_concat,List.length_append]at ih;cases hp:pre.getLast? with
     |none =>
      have:pre=[]:=List.getLast?_eq_none_iff.mp hp;refine⟨d3,?_⟩;show _=ok (if (true&&zF n (some x) En)=true then _ else _,_);rw[Bool.true_and];refine dF (ρ1:=[some (.tup ds),some (.int n),c2,some (.int pre.length)]) (by simp) (ρ2:=[some (.tup ds),some (.int n),c2,some (.int pre.length)]) ?_ ih;subst this;have ZE:mx (av aP ds) 0=ok (.int x):=a1;simp[mH,ZE,bJ,g1,g2]
     |some y =>
      obtain⟨p0,a3⟩:=a2 y hp;show ∃_,_=ok (if (decide (y<x)&&zF n (some x) En)=true then _ else _,_);by_cases h3:y<x
      ·rw[decide_eq_true h3,Bool.true_and];have g4:¬ x<=y:=by left
       refine⟨d3,dF (ρ1:=[some (.tup ds),some (.int n),c2,some (.int pre.length)]) (by simp) (ρ2:=[some (.tup ds),some (.int n),c2,some (.int pre.length)]) ?_ ih⟩;have VI:0<pre.length:=by left
       simp[mH,a1,a3,bJ,g1,g2,p0,g4]
      ·rw[decide_eq_false h3,Bool.false_and];have g4:x<=y:=by left
       have VI:0<pre.length:=by left
       exact⟨some (.int pre.length),dZ (ρ1:=[some (.tup ds),some (.int n),c2,some (.int pre.length)]) (by simp) (by simp[mH,a1,a3,bJ,g1,g2,VI,g4])⟩
    ·rw[decide_eq_false h2,Bool.and_false,Bool.false_and];have g1:¬ x<0:=by left
     have g2:n<=x:=by left
     exact⟨some (.int pre.length),dZ (ρ1:=[some (.tup ds),some (.int n),c2,some (.int pre.length)]) (by simp) (by simp[mH,a1,bJ,g1,g2])⟩
   ·rw[decide_eq_false h1,Bool.false_and,Bool.false_and];have g1:x<0:=by left
    exact⟨some (.int pre.length),dZ (ρ1:=[some (.tup ds),some (.int n),c2,some (.int pre.length)]) (by simp) (by simp[mH,a1,bJ,g1])⟩
  |bl b=>exact⟨some (.int pre.length),dZ (ρ1:=[some (.tup ds),some (.int n),c2,some (.int pre.length)]) (by simp) (bad (.inr rfl))⟩
  |bF=>exact⟨some (.int pre.length),dZ (ρ1:=[some (.tup ds),some (.int n),c2,some (.int pre.length)]) (by simp) (bad (.inl rfl))⟩
  |str _=>exact⟨some (.int pre.length),dZ (ρ1:=[some (.tup ds),some (.int n),c2,some (.int pre.length)]) (by simp) (bad (.inl rfl))⟩
  |tup _=>exact⟨some (.int pre.length),dZ (ρ1:=[some (.tup ds),some (.int n),c2,some (.int pre.length)]) (by simp) (bad (.inl rfl))⟩
  |lst _ _=>exact⟨some (.int pre.length),dZ (ρ1:=[some (.tup ds),some (.int n),c2,some (.int pre.length)]) (by simp) (bad (.inl rfl))⟩
  |cM _ _ _=>exact⟨some (.int pre.length),dZ (ρ1:=[some (.tup ds),some (.int n),c2,some (.int pre.length)]) (by simp) (bad (.inl rfl))⟩
theorem Bl{n:Nat}:∀{ds:ab} {p:Option Int},zF n p ds=true->∃l,ds=ae l/\(p.toList++l).Pairwise (· < ·)/\∀x∈l,0<=x/\x<(n:Int)
 |[],p,_=>⟨[],rfl,by cases p<;>simp,λ_ h=>nomatch h⟩
 |d::ds,p,h=>by
  cases d with
  |int x =>
   have h:((decide (0<=x)&&decide (x<(n:Int)))&&(Fd p x&&zF n (some x) ds))=true:=h;rw[Bool.and_eq_true,Bool.and_eq_true,Bool.and_eq_true]at h;obtain⟨⟨h1,h2⟩,h3,h4⟩:=h;have h1:=aab h1;have h2:=aab h2;obtain⟨l,rfl,hp,hl⟩:=Bl h4;refine⟨x::l,rfl,?_,λy hy=>(List.mem_cons.mp hy).elim (λe=>e▸⟨h1,h2⟩) (hl y)⟩;cases p with
   |none=>exact hp
   |some y =>
    have h3:y<x:=aab h3;refine List.pairwise_cons.mpr ⟨λz hz=>?_,hp⟩;rcases List.mem_cons.mp hz with rfl|hz
    ·exact h3
    ·have:=(List.pairwise_cons.mp hp).1 z hz;left
  |_=>cases h
theorem Bk{n:Nat}:∀{l:aa} {p:Option Int},(p.toList++l).Pairwise (· < ·)->(∀x∈l,0<=x/\x<(n:Int))->zF n p (ae l)=true
 |[],p,_,_=>rfl
 |x::l,p,hp,hl=>by
  obtain⟨h1,h2⟩:=hl x aae;show((decide (0<=x)&&decide (x<(n:Int)))&&(Fd p x&&zF n (some x) (ae l)))=true;have xn:(x::l).Pairwise (· < ·):=by
   cases p with
   |none=>exact hp
   |some y=>exact(List.pairwise_cons.mp hp).2
  rw[Bk (p:=some x) xn λy hy=>hl y (List.mem_cons_of_mem _ hy),decide_eq_true h1,decide_eq_true h2];cases p with
  |none=>rfl
  |some y =>
   have:y<x:=(List.pairwise_cons.mp hp).1 x (by simp);show(true&&(decide (y<x)&&true))=true;rw[decide_eq_true this];rfl
theorem Fp{n:Nat}{ds:ab}:zF n none ds=cO (.tup ds) n:=by
 rw[Bool.eq_iff_iff];constructor
 ·intro h;obtain⟨l,rfl,hp,hl⟩:=Bl h;exact zA.cO ⟨hp,hl⟩
 ·intro h;have h1:bH (.tup ds) n=true:=by unfold cO at h;rw[Bool.and_eq_true]at h;exact h.1
  unfold bH at h1;rw[Bool.and_eq_true]at h1;obtain⟨l,rfl⟩:=dP h1.1;have:=FD h;exact Bk this.1 this.2
noncomputable def vn(s:Nat)(d:D):Bool:=match d with
 |.tup ds=>decide (ds.length=s)
 |_=>false
def HY(m:aw):Prop:=∀d k (n s:Nat),bj k d=true->aA aK d=d->m [d,.int n,.int s]=ok (.bl (vn s d&&cO d n))
theorem M_(Φ:aY):HY (mk Φ 3 4 zt):=by
 intro d k n s hd hz;have ty:∀ds,bJ .tuple (.tup ds)=true:=λ_=>rfl;cases d with
 |tup ds =>
  have al:av aP ds=ds:=D.tup.inj (jL hz);obtain⟨_,_,hlen,_⟩:=cg hd;have e:vn s (.tup ds)=decide (ds.length=s):=rfl;rw[e];by_cases hl:ds.length=s
  ·rw[decide_eq_true hl,Bool.true_and];obtain⟨c3,el⟩:=tm Φ (n:=n) (ds:=ds) (some (.int s)) ds [] none rfl;have hit:=yK (Φ:=Φ) (a:=.bf .len [(.v 0)]) (ρ:=[some (.tup ds),some (.int n),some (.int s),none]) (n:=ds.length) (by simp[al]) (by left) (by left);rw[Int.toNat_natCast,List.range_eq_range']at hit;have hf:=fZ (Φ:=Φ) (t:=.nm 3) (b:=mH) hit el;have e2:zF (n:Int) ([]:aa).getLast? ds=cO (.tup ds) n:=Fp;rw[e2]at hf;have jC:(ds.length:Int)=(s:Int):=by left
   cases hL:cO (.tup ds) n<;>simp[hL]at hf<;>simp[mk_eq,zt,ty,al,jC,hf]
  ·rw[decide_eq_false hl,Bool.false_and];have jC:¬ (ds.length:Int)=(s:Int):=by left
   simp[mk_eq,zt,ty,al,jC]
 |_=>simp[mk_eq,zt,bJ,vn]
structure Ve(n:Nat)(W:Int)(p:aa):Prop where
 len:p.length=n
 lo:∀x∈p,0<=x
 hi:∀x∈p,x<=W
 su:∃s:Int,p.sum=s*W
theorem jJ{t b:Int}(hb:b≠0):(Rat.divInt t b).den∣b.natAbs:=by
 obtain⟨t',b',e1,e2,h1,h2,h3,h4⟩:=mZ (t:=t) hb;obtain⟨g1,g2⟩:=q_ (t:=t) hb;rw[show b.fdiv (fN t b)=b' from h2]at g2;have hz:(Rat.divInt t b).den=b'.natAbs:=by left
 have:b.natAbs=(fN t b).natAbs*b'.natAbs:=by rw[<- Int.natAbs_mul,<- e2]
 rw[hz,this];exact Nat.dvd_mul_left ..
theorem nF{α:Type}(f:aa->α)(k:aa):∀ks:au,cC ks (ks.map f) k=if k∈ks then some (f k)else none
 |[]=>rfl
 |j::ks=>by
  show(if j=k then some (f j)else cC ks (ks.map f) k)=_;rw[nF f k ks];by_cases e:j=k
  ·subst e;simp
  ·rw[if_neg e];have:k∈j::ks ↔ k∈ks:=by rw[List.mem_cons];exact⟨λh=>h.resolve_left λz=>e z.symm,.inr⟩
   simp only[this]
theorem sJ{α:Type}(f:aa->α)(k:aa)(v:α):∀ks:au,setC ks (ks.map f) k v=ks.map λj=>if j=k then v else f j
 |[]=>rfl
 |j::ks=>by
  show(if j=k then v else f j)::setC ks (ks.map f) k v=_;rw[sJ f k v ks,List.map_cons]
theorem yh{α:Type}(f:aa->α)(k:aa)(v:α)(ks:au):cS ks (ks.map f) k v=(bL ks k).map λj=>if j=k then v else f j:=by
 unfold cS bL;by_cases h:k∈ks
 ·rw[if_pos h,if_pos h,sJ]
 ·rw[if_neg h,if_neg h,List.map_append];congr 1
  ·refine aam λj hj=>?_;rw[if_neg (show ¬ j=k from λz=>h (z▸hj))]
  ·simp
variable {ks:au}
theorem jc{c k:aa}:k∈bL ks c ↔ k∈ks\/k=c:=by
 unfold bL;split
 ·rename_i h;exact⟨.inl,λz=>z.elim id λe=>e▸h⟩
 ·simp
theorem BJ(h:ks.Nodup)(c:aa):(bL ks c).Nodup:=by
 unfold bL;split
 ·exact h
 ·rename_i hc;rw[List.nodup_append];exact⟨h,by simp,λa ha b hb=>by rw[List.mem_singleton.mp hb];exact λz=>hc (z▸ha)⟩
theorem pv(ks:au)(c:aa):(bL ks c).length<=ks.length+1:=by
 unfold bL;split<;>simp
structure Ic(Φ:aY):Prop where
 Pu:Φ 1030=CT
 Pt:Φ 1031=uc
 Pr:Φ 1032=CV
 Pq:Φ 1033=t_
 Pp:Φ 1035=nS
variable {Φ:aY}
theorem P9(P:Ic Φ)(f:Fl){cs:au}{ws:aa}(hl:cs.length=ws.length){c:aa}(h:c∈cs):Φ 1032 [.cM f cs (ae ws),.tup (ae c)]=ok (.int (nE cs ws c)):=by
 obtain⟨w,e,_⟩:=qU hl h;rw[P.Pr];show(match intsOf (c.map D.int)with|some c=>(match cC cs (ae ws) c with|some v=>if aU anyF v=false then ok v else none|none=>none)|none=>none)=_;rw[bA];show(match cC cs (ae ws) c with|some v=>if aU anyF v=false then ok v else none|none=>none)=_;rw[pE,e];unfold nE;rw[e];rfl
theorem Rw{α:Type}(P:Ic Φ)(e:α->D)(he:∀a,aU anyF (e a)=false)(f:Fl)(ks:au)(w:aa->α)(z:α)(c:aa)(h:c∉ks->w c=z):Φ 1031 [.cM f ks (ks.map λk=>e (w k)),.tup (ae c),e z]=ok (e (w c)):=by
 rw[P.Pt];show(match intsOf (c.map D.int)with|some c=>if aN anyF (ks.map λk=>e (w k))=false/\aU anyF (e z)=false then ok ((cC ks (ks.map λk=>e (w k)) c).getD (e z))else none|none=>none)=_;rw[bA];show(if aN anyF (ks.map λk=>e (w k))=false/\aU anyF (e z)=false then ok ((cC ks (ks.map λk=>e (w k)) c).getD (e z))else none)=_;rw[if_pos ⟨cK anyF (λk=>he _) ks,he _⟩,nF (λk=>e (w k))];by_cases hc:c∈ks
 ·rw[if_pos hc];rfl
 ·rw[if_neg hc,h hc];rfl
theorem Rt{α:Type}(P:Ic Φ)(e:α->D)(he:∀a,aU anyF (e a)=false)(hl:ks.length<1000)(w:aa->α)(c:aa)(v:α):Φ 1033 [.cM .ow ks (ks.map λk=>e (w k)),e v,.tup (ae c)]=ok (.cM .ow (bL ks c) ((bL ks c).map λk=>e (if k=c then v else w k))):=by
 rw[P.Pq];show(match intsOf (c.map D.int)with|some c=>if eL .ow=true/\aU anyF (e v)=false/\ks.length<fY then ok (D.cM .ow (bL ks c) (cS ks (ks.map λk=>e (w k)) c (e v)))else none|none=>none)=_;rw[bA];show(if eL .ow=true/\aU anyF (e v)=false/\ks.length<fY then ok (D.cM .ow (bL ks c) (cS ks (ks.map λk=>e (w k)) c (e v)))else none)=_;rw[if_pos ⟨rfl,he _,by show _<1000000;left⟩,yh (λk=>e (w k))];congr 2;refine aam λj _=>?_;by_cases z:j=c
 ·rw[if_pos z,if_pos z]
 ·rw[if_neg z,if_neg z]
theorem MC(P:Ic Φ)(f:Fl)(vs:ab)(h:ks.length<64):Φ 1035 [.cM f ks vs]=ok (.lst .ow ((bV ks).map iF)):=by
 rw[P.Pp];show(if ks.length<64 then ok (D.lst .ow ((bV ks).map iF))else none)=_;rw[if_pos h]
noncomputable def fV(ks:au)(w F:aa->Rat):Rat:=(ks.map λk=>w k*F k).sum
noncomputable def gi{α:Type}[Add α](w:aa->α)(c:aa)(x:α):aa->α:=λk=>if k=c then w k+x else w k
theorem Em(a b:aQ):(a++b).sum=a.sum+b.sum:=by
 induction a with
 |nil=>simp;grind
 |cons x a ih=>rw[List.cons_append,List.sum_cons,List.sum_cons,ih];grind
theorem w9(c:aa)(x:Rat)(w F:aa->Rat):∀ks:au,ks.Nodup->c∈ks->fV ks (gi w c x) F=fV ks w F+x*F c
 |[],_,h=>nomatch h
 |k::ks,hn,h=>by
  obtain⟨h1,h2⟩:=List.nodup_cons.mp hn;unfold fV at *;rw[List.map_cons,List.map_cons,List.sum_cons,List.sum_cons];by_cases e:k=c
  ·have:(ks.map λk=>gi w c x k*F k)=ks.map λk=>w k*F k:=aam λj hj=>by
    unfold gi;rw[if_neg λz=>h1 (by rw[e,<- z];exact hj)]
   rw[this];unfold gi;rw[if_pos e,e];grind
  ·have ih:=w9 c x w F ks h2 ((List.mem_cons.mp h).resolve_left λz=>e z.symm);unfold fV at ih;rw[ih];unfold gi;rw[if_neg e];grind
theorem Bx{c:aa}{x:Rat}{w:aa->Rat}(F:aa->Rat)(hn:ks.Nodup)(h0:c∉ks->w c=0):fV (bL ks c) (gi w c x) F=fV ks w F+x*F c:=by
 unfold bL;split
 ·rename_i h;exact w9 c x w F ks hn h
 ·rename_i h;unfold fV;rw[List.map_append,Em];have:(ks.map λk=>gi w c x k*F k)=ks.map λk=>w k*F k:=aam λj hj=>by
   unfold gi;rw[if_neg λz=>h (by rw[<- z];exact hj)]
  rw[this];simp only[List.map_cons,List.map_nil,List.sum_cons,List.sum_nil,gi,if_pos,h0 h];grind
structure Tb{α:Type}(z:α)(pos:α->Prop)(ks:au)(w:aa->α):Prop where
 nd:ks.Nodup
 out:∀k,k∉ks->w k=z
 tM:∀k∈ks,pos (w k)
theorem Tb.add{α:Type}[Add α]{z:α}{pos:α->Prop}{w:aa->α}(T:Tb z pos ks w){x:α}(hx:pos (z+x))(hp:∀a,pos a->pos (a+x))(c:aa):Tb z pos (bL ks c) (gi w c x):=by
 refine⟨BJ T.nd c,λk hk=>?_,λk hk=>?_⟩
 ·have h:¬ (k∈ks\/k=c):=λz=>hk (jc.mpr z);unfold gi;rw[if_neg λz=>h (.inr z)];exact T.out k λz=>h (.inl z)
 ·unfold gi;by_cases e:k=c
  ·rw[if_pos e];by_cases hc:k∈ks
   ·exact hp _ (T.tM k hc)
   ·rw[T.out k hc];exact hx
  ·rw[if_neg e];exact T.tM k ((jc.mp hk).resolve_right e)
noncomputable def wt:ag:=[.app 6 (.bin .mod (.v 3) (.bin .add (.v 5) (.int 1))),.asg (.nm 3) (.bin .fdiv (.v 3) (.bin .add (.v 5) (.int 1)))]
noncomputable def wq:ag:=[.asg (.nm 9) (.bf .min2 [(.ix (.v 6) (.v 7)),(.v 8)]),.setI 6 (.v 7) (.bin .sub (.ix (.v 6) (.v 7)) (.v 9)),.asg (.nm 8) (.bin .sub (.v 8) (.v 9))]
theorem sH(Φ:aY){B:Nat}(hB:B<=9)(c0 c1 c2 c4 c8 c9:aH):∀(k j:Nat) (N:Int) (ts:aa) (c7:aH),ts.length=j->j+k<=12->(∀t∈ts,0<=t/\t<=(B:Int)) ->
  ∃N' MD kG,dG (λd ρ=>cu (.nm 7) d ρ) (λρ=>aV Φ wt ρ) ((List.range' j k).map λ(i:Nat)=>D.int (i:Int)) [c0,c1,c2,some (.int N),c4,some (.int B),some (.lst .ow (ae ts)),c7,c8,c9]=ok (.nx,[c0,c1,c2,some (.int N'),c4,some (.int B),some (.lst .ow (ae MD)),kG,c8,c9])/\MD.length=j+k/\∀t∈MD,0<=t/\t<=(B:Int)
 |0,j,N,ts,c7,h1,_,h2=>⟨N,ts,c7,rfl,by left,h2⟩
 |k+1,j,N,ts,c7,h1,hj,h2=>by
  obtain⟨m1,m2⟩:=eR N (b:=(B:Int)+1) (by left);obtain⟨N',MD,kG,ih,l1,l2⟩:=sH Φ hB c0 c1 c2 c4 c8 c9 k (j+1) (N.fdiv ((B:Int)+1)) (ts++[N.fmod ((B:Int)+1)]) (some (.int j)) (by simp[h1]) (by left) (λt ht=>by
   rcases List.mem_append.mp ht with ht|ht
   ·exact h2 t ht
   ·rw[List.mem_singleton.mp ht];left)
  rw[List.range'_succ,List.map_cons];have e1:bM .mod (.int N) (.int ((B:Int)+1))=ok (.int (N.fmod ((B:Int)+1))):=iW (by left);have e2:bM .fdiv (.int N) (.int ((B:Int)+1))=ok (.int (N.fdiv ((B:Int)+1))):=gY (d_ (by left) (iJ (by left)));have hc:ts.length<fY:=by show _<1000000;left
  refine⟨N',MD,kG,dF (ρ1:=[c0,c1,c2,some (.int N),c4,some (.int B),some (.lst .ow (ae ts)),some (.int j),c8,c9]) (by simp) (ρ2:=[c0,c1,c2,some (.int (N.fdiv ((B:Int)+1))),c4,some (.int B),some (.lst .ow (ae (ts++[N.fmod ((B:Int)+1)]))),some (.int j),c8,c9]) ?_ ih,by left,l2⟩;simp[wt,e1,e2,hc]
theorem BZ(a:aa)(t:Int)(b:aa):mx (ae (a++t::b)) (a.length:Int)=ok (.int t):=by
 rw[oh (d:=.int t) (by rw[je];simp)];rfl
theorem tL(a:aa)(t x:Int)(b:aa):(ae (a++t::b)).set a.length (.int x)=ae ((a++[x])++b):=by
 unfold ae;rw[<- List.map_set];congr 1;simp[List.set_append]
theorem sG(Φ:aY){B:Nat}(c0 c1 c2 c3 c4 c5:aH):∀(rest done:aa) (L:Int) (c7 c9:aH),done.length+rest.length<=12->(∀t∈done,0<=t/\t<=(B:Int))->(∀t∈rest,0<=t/\t<=(B:Int))->0<=L->L<=rest.sum ->
  ∃ts kG U4,dG (λd ρ=>cu (.nm 7) d ρ) (λρ=>aV Φ wq ρ) ((List.range' done.length rest.length).map λ(i:Nat)=>D.int (i:Int)) [c0,c1,c2,c3,c4,c5,some (.lst .ow (ae (done++rest))),c7,some (.int L),c9]=ok (.nx,[c0,c1,c2,c3,c4,c5,some (.lst .ow (ae ts)),kG,some (.int 0),U4])/\ts.length=done.length+rest.length/\(∀t∈ts,0<=t/\t<=(B:Int))/\ts.sum=(done++rest).sum - L
 |[],done,L,c7,c9,h1,h2,h3,h4,h5=>by
  have:L=0:=by simp at h5;left
  subst this;exact⟨done,c7,c9,by simp[dG],by simp,h2,by simp⟩
 |t::rest,done,L,c7,c9,h1,h2,h3,h4,h5=>by
  obtain⟨t0,t1⟩:=h3 t aae;rw[List.sum_cons]at h5;rw[List.length_cons]at h1;have hr:∀x∈rest,0<=x/\x<=(B:Int):=λx hx=>h3 x (aaf _ hx);have hs:0<=rest.sum:=by
   have:∀l:aa,(∀x∈l,0<=x)->0<=l.sum:=λl=>by
    induction l with
    |nil=>intro _;exact abh _
    |cons a l ih=>intro h;have:=ih λx hx=>h x (aaf _ hx);have:=h a aae;rw[List.sum_cons];left
   exact this rest λx hx=>(hr x hx).1
  obtain⟨m,hm,m0,m1,m2,m3⟩:∃m:Int,(if L<t then L else t)=m/\0<=m/\m<=t/\m<=L/\(m=L\/m=t):=by
   by_cases h:L<t
   ·exact⟨L,aaO h,h4,by left,abh _,.inl rfl⟩
   ·exact⟨t,ab8 h,t0,abh _,by left,.inr rfl⟩
  obtain⟨ts,kG,U4,ih,l1,l2,l3⟩:=sG Φ (B:=B) c0 c1 c2 c3 c4 c5 rest (done++[t - m]) (L - m) (some (.int done.length)) (some (.int m)) (by simp;left) (λx hx=>by
   rcases List.mem_append.mp hx with hx|hx
   ·exact h2 x hx
   ·rw[List.mem_singleton.mp hx];left) hr (by left) (by left)
  rw[List.length_cons,List.range'_succ,List.map_cons];have e1:=BZ done t rest;have e2:n9 .min2 [.int t,.int L]=ok (.int m):=by show ok (D.int (if L<t then L else t))=_;rw[hm]
  have hx:=uJ (Φ:=Φ) (i:=6) (j:=done.length) (k:=.v 7) (e:=.bin .sub (.ix (.v 6) (.v 7)) (.v 9)) (ρ:=[c0,c1,c2,c3,c4,c5,some (.lst .ow (ae (done++t::rest))),some (.int done.length),some (.int L),some (.int m)]) (ρ':=[c0,c1,c2,c3,c4,c5,some (.lst .ow (ae (done++t::rest))),some (.int done.length),some (.int L),some (.int m)]) (d:=.int (t - m)) (z:=done.length) (ds:=ae (done++t::rest)) (by simp[e1]) (by simp) rfl (by rw[vp (by left) (by simp;left)];simp);rw[tL]at hx;refine⟨ts,kG,U4,dF (ρ1:=[c0,c1,c2,c3,c4,c5,some (.lst .ow (ae (done++t::rest))),some (.int done.length),some (.int L),c9]) (by simp) (ρ2:=[c0,c1,c2,c3,c4,c5,some (.lst .ow (ae ((done++[t - m])++rest))),some (.int done.length),some (.int (L - m)),some (.int m)]) ?_ (by simpa using ih),by simp at l1 ⊢;left,l2,by rw[l3];simp;left⟩;simp only[wq];rw[bG,jX];simp[e1,e2];rw[hx];simp
noncomputable def xN:CE:=.comp 1 (.nm 0) [5] .seq [(.v 6)] [] (.call 201 [(.v 0),(.v 1)])
def rJ:ag:=[.asg (.nm 3) (.call 200 [(.v 0),(.v 1)]),.asg (.nm 4) (.bin .add (.int 1) (.bin .mod (.v 3) (.v 2))),.asg (.nm 3) (.bin .fdiv (.v 3) (.v 2)),.asg (.nm 5) (.bin .add (.int 1) (.bin .mod (.v 3) (.int 9))),.asg (.nm 3) (.bin .fdiv (.v 3) (.int 9)),.asg (.nm 6) (.lst []),.fr (.nm 7) (.kF (.v 4)) wt,.asg (.nm 8) (.bin .mod (.bf .jz [(.v 6)]) (.v 5)),.fr (.nm 7) (.kF (.v 4)) wq,.ret xN]
def Du(m:aw):Prop:=∀(ns:aa) (a:Int) (p:Nat),0<=a->1<=p->p<=12->∃qs B,m [.lst .sc (ae ns),.int a,.int p]=ok (.lst .ow (bu qs))/\lM p qs B
theorem ID:∀l:aa,(∀x∈l,0<=x)->0<=l.sum:=λl=>by
 induction l with
 |nil=>intro _;exact abh _
 |cons a l ih=>intro h;have:=ih λx hx=>h x (aaf _ hx);have:=h a aae;rw[List.sum_cons];left
theorem Je(Φ:aY)(KG:v9 (Φ 200))(KD:kC (Φ 201)):Du (mk Φ 3 10 rJ):=by
 intro ns a p ha p1 p2;have e1:=KG ns a ha;obtain⟨f1,f2⟩:=eR (eh ns a) (b:=(p:Int)) (by left);obtain⟨n,hn⟩:∃n:Nat,1+(eh ns a).fmod p=(n:Int):=⟨(1+(eh ns a).fmod p).toNat,by left⟩
 obtain⟨g1,g2⟩:=eR ((eh ns a).fdiv p) (b:=9) (by decide);obtain⟨B,hB⟩:∃k:Nat,1+((eh ns a).fdiv p).fmod 9=(k:Int):=⟨(1+((eh ns a).fdiv p).fmod 9).toNat,by left⟩
 have m1:bM .mod (.int (eh ns a)) (.int p)=ok (.int ((eh ns a).fmod p)):=iW (by left);have m2:bM .fdiv (.int (eh ns a)) (.int p)=ok (.int ((eh ns a).fdiv p)):=gY (d_ (by left) (iJ (by left)));generalize (eh ns a).fdiv p=N at *;obtain⟨N',ts,c7,el,tl,tb⟩:=sH Φ (B:=B) (by left) (some (.lst .sc (ae ns))) (some (.int a)) (some (.int p)) (some (.int n)) none none n 0 (N.fdiv 9) [] none rfl (by left) (λ_ h=>nomatch h);have hit:=yK (Φ:=Φ) (a:=.v 4) (ρ:=[some (.lst .sc (ae ns)),some (.int a),some (.int p),some (.int (N.fdiv 9)),some (.int n),some (.int B),some (.lst .ow []),none,none,none]) (n:=n) (by simp) (by left) (by left);rw[Int.toNat_natCast,List.range_eq_range']at hit;have hf:=fZ (Φ:=Φ) (t:=.nm 7) (b:=wt) hit el;have s0:=ID ts λt ht=>(tb t ht).1;obtain⟨k1,k2⟩:=eR ts.sum (b:=(B:Int)) (by left);have k3:ts.sum.fmod B<=ts.sum:=by
  rw[Int.fmod_eq_emod_of_nonneg _ (by left)];have h1:=abQ ts.sum (B:Int);have h2:=acp (show(0:Int)<=(B:Int) by left) (Int.ediv_nonneg s0 (show(0:Int)<=(B:Int) by left));left
 have Vy:ts.length=n:=by left
 obtain⟨us,d7,d9,WM,ul,ub,Vt⟩:=sG Φ (B:=B) (some (.lst .sc (ae ns))) (some (.int a)) (some (.int p)) (some (.int N')) (some (.int n)) (some (.int B)) ts [] (ts.sum.fmod B) c7 none (by simp;left) (λ_ h=>nomatch h) tb k1 k3;rw[List.nil_append,List.length_nil,Vy]at WM;have OP:=yK (Φ:=Φ) (a:=.v 4) (ρ:=[some (.lst .sc (ae ns)),some (.int a),some (.int p),some (.int N'),some (.int n),some (.int B),some (.lst .ow (ae ts)),c7,some (.int (ts.sum.fmod B)),none]) (n:=n) (by simp) (by left) (by left);rw[Int.toNat_natCast,List.range_eq_range']at OP;have YB:=fZ (Φ:=Φ) (t:=.nm 7) (b:=wq) OP WM;have m3:bM .mod (.int ts.sum) (.int (B:Int))=ok (.int (ts.sum.fmod B)):=iW (by left);have Ue:(B:Int)≠0:=by left
 have e3:aW Φ xN [some (.lst .sc (ae ns)),some (.int a),some (.int p),some (.int N'),some (.int n),some (.int B),some (.lst .ow (ae us)),d7,some (.int 0),d9]=ok (.lst .ow (bu (us.map λu=>Rat.divInt u B))):=by
  unfold xN;rw[cQ (xs:=[.lst .al (ae us)]) (items:=us.map D.int) (ds:=us.map λu=>qD (Rat.divInt u B)) (by simp) (by rw[dX,bh];rfl) (bX λu hu=>⟨[some (.int u),some (.int B)],by simp[bK],by simp,?_⟩) (by simp;exact b6 (by simp at ul;left))]
  ·simp[bu,aO]
  ·have:=KD u B Ue (iJ (by left));simp[this]
 refine⟨us.map λu=>Rat.divInt u B,B,?_,?_⟩
 ·have zJ:bM .add (.int 1) (.int ((eh ns a).fmod p))=ok (.int n):=by rw[HM,hn]
  have YT:bM .add (.int 1) (.int (N.fmod 9))=ok (.int B):=by rw[HM,hB]
  simp[mk_eq,rJ,e1,m1,m2,zJ,YT,hf,m3,YB,DJ Φ xN _ rfl,e3]
 ·rw[List.nil_append]at Vt;have hdiv:(B:Int)∣us.sum:=by
   rw[Vt,Int.fmod_eq_emod_of_nonneg _ (by left)];exact Int.dvd_self_sub_emod
  obtain⟨s,hs⟩:=hdiv;have Q5:(0:Rat)<(B:Int):=by
   have:=abg (a:=0) (b:=(B:Int));simpa using this.mpr (by left)
  refine⟨by simp at ul ⊢;left,by simp at ul ⊢;left,by left,by left,λq hq=>?_,λq hq=>?_,λq hq=>?_,s,?_⟩
  ·obtain⟨u,hu,rfl⟩:=List.mem_map.mp hq;have h1:(0:Rat)<=(u:Rat):=by have:=abJ (a:=0) (b:=u);simpa using this.mpr (ub u hu).1
   rw[Rat.divInt_eq_div,Rat.div_def];exact Rat.mul_nonneg h1 (acm (Rat.inv_pos.mpr Q5))
  ·obtain⟨u,hu,rfl⟩:=List.mem_map.mp hq;have h1:(u:Rat)<=((B:Int):Rat):=Rat.intCast_le_intCast.mpr (ub u hu).2;rw[Rat.divInt_eq_div];have:=Rat.mul_le_mul_of_nonneg_right h1 (acm (Rat.inv_pos.mpr Q5))
   rwa [Rat.mul_inv_cancel _ (Rat.ne_of_gt Q5),<- Rat.div_def]at this
  ·obtain⟨u,hu,rfl⟩:=List.mem_map.mp hq;have:=jJ (t:=u) Ue;simpa using this
  ·rw[wu (B:Int) Ue,hs,Rat.divInt_eq_div,Rat.intCast_mul,Rat.mul_comm];exact Rat.mul_div_cancel (Rat.ne_of_gt Q5)
noncomputable def ka:Nat->aa->List (Int×Int)
 |_,[]=>[]
 |k,x::p=>((k:Int),x)::ka (k+1) p
noncomputable def BM(z:Int×Int):D:=.tup [.int z.1,.int z.2]
theorem tZ:∀(p:aa) (k:Nat),cx k (ae p)=(ka k p).map BM
 |[],_=>rfl
 |x::p,k=>by
  show D.tup [.int k,.int x]::cx (k+1) (ae p)=_;rw[tZ p (k+1)];rfl
theorem tP:∀(p:aa) (k:Nat),(ka k p).length=p.length
 |[],_=>rfl
 |x::p,k=>by rw[ka,List.length_cons,tP,List.length_cons]
noncomputable def qe(f:Fl)(ks:au)(w:aa->Int):D:=.cM f ks (ks.map λk=>.int (w k))
theorem w_(g:Fl->Fl)(f:Fl)(ks:au)(w:aa->Int):aA g (qe f ks w)=qe (g f) ks w:=by
 show D.cM (g f) ks (av g (ks.map λk=>.int (w k)))=_;rw[dh g (λk=>tj g _)];rfl
theorem F5(g:Fl->Bool)(f:Fl)(ks:au)(w:aa->Int):aU g (qe f ks w)=g f:=by
 show(g f||aN g (ks.map λk=>.int (w k)))=_;rw[cK g (λk=>kc g _),Bool.or_false]
theorem Hh(a:Int):aU anyF (D.int a)=false:=rfl
theorem Ae(P:Ic Φ)(hl:ks.length<1000)(w:aa->Int)(c:aa)(x:Int):Φ 1033 [qe .ow ks w,.int (w c+x),.tup (ae c)]=ok (qe .ow (bL ks c) (gi w c x)):=by
 have:=Rt P (e:=D.int) Hh hl w c (w c+x);unfold qe;rw[this];congr 2;refine aam λk _=>?_;unfold gi;by_cases h:k=c
 ·rw[if_pos h,if_pos h,h]
 ·rw[if_neg h,if_neg h]
noncomputable def CL:CE:=.comp 1 (.nm 0) [1,2] .seq [(.bO 1035 [(.v 1)])] [(.cmp .gt (.bO 1032 [(.v 1),(.v 0)]) (.int 0))] (.tup [(.call 2 [(.bO 1032 [(.v 1),(.v 0)]),(.v 2)]),(.v 0)])
def x6:ag:=[.ret (.tup [(.v 0),CL])]
def vH(cs:au)(ws:aa)(b:Int):aC:=((bV cs).filter λc=>decide (0<nE cs ws c)).map λc=>(Rat.divInt (nE cs ws c) b,c)
def H_(m:aw):Prop:=∀f (n:Int) (cs:au) (ws:aa) (b:Int),cs.length=ws.length->cs.length<64->b≠0->b.natAbs<2 ^ 9000->m [.int n,.cM f cs (ae ws),.int b]=ok (.tup [.int n,.lst .ow (bq (vH cs ws b))])
theorem Nf(Φ:aY)(P:Ic Φ)(h2:gk (Φ 2)):H_ (mk Φ 3 3 x6):=by
 intro f n cs ws b hl rW hb lV;have hp:(bV cs).Perm cs:=aaW _ _;have e1:aW Φ CL [some (.int n),some (.cM f cs (ae ws)),some (.int b)]=ok (.lst .ow (bq (vH cs ws b))):=by
  unfold CL;rw[cQ (xs:=[.lst .ow ((bV cs).map iF)]) (items:=(bV cs).map iF) (ds:=bq (vH cs ws b)) (by simp[MC P _ _ rW]) (by rw[dX,lD]) ?_ (by
   have:=List.length_filter_le (λc=>decide (0<nE cs ws c)) (bV cs);have jC:=hp.length_eq;rw[gO];unfold vH;rw[List.length_map];exact b6 (by left))]
  ·rw[eW]
  ·unfold bq vH;rw[List.map_map];refine e_ λc hc=>?_;have zK:c∈cs:=hp.mem_iff.mp hc;have d1:=λf=>P9 P f hl zK;have f1:=h2.1 (nE cs ws c) b hb lV;have m1:aA aP (iF c)=.tup (ae c):=by show D.tup (av aP (c.map D.int))=_;rw[nh];rfl
   refine⟨[some (iF c),some (.cM (aK f) cs (ae ws)),some (.int b)],by simp[bK],by simp[m1,d1],λ_=>?_⟩;simp[m1,d1,f1];rfl
 simp[mk_eq,x6,e1]
theorem kS(k:aa)(ks:au)(w F:aa->Rat):fV (k::ks) w F=w k*F k+fV ks w F:=by
 unfold fV;rw[List.map_cons,List.sum_cons]
theorem Ah{b:Nat}(hb:0<b){q:Rat}(hd:q.den∣b)(h0:0<=q)(h1:q<=1):0<=cf b q/\cf b q<=(b:Int):=by
 obtain⟨k,rfl⟩:=hd;have e:(((q.den*k:Nat):Int)).fdiv q.den=(k:Int):=by
  rw[Int.natCast_mul,Int.mul_comm];exact Int.mul_fdiv_cancel _ (kP q)
 unfold cf;rw[e];have n0:=Bm h0;have n1:=vd h1;refine⟨acp n0 (by left),?_⟩;rw[Int.natCast_mul];exact Int.mul_le_mul_of_nonneg_right n1 (by left)
variable {B:Nat}{qs:aQ}
theorem lM.bot{m:Nat}(I:lM m qs B)(hm:m<=12):0<cm qs/\cm qs<=9/\∀q∈qs,q.den∣cm qs:=by
 obtain⟨a,_,c⟩:=(I.RQ hm).lcm;have:cm qs∣B:=tE qs 1 (Nat.one_dvd _) I.qd;exact⟨a,aao (abL (by have:=I.b1;left) this) I.b2,c⟩
def ph(qs:aQ):aa:=qs.map (cf (cm qs))
theorem lM.p0{m:Nat}(I:lM m qs B)(hm:m<=12):Ve qs.length (cm qs) (ph qs):=by
 obtain⟨a,b,c⟩:=I.bot hm;obtain⟨s,hs⟩:=I.su;refine⟨by simp[ph],λx hx=>?_,λx hx=>?_,s,j5 c hs⟩
 ·obtain⟨q,hq,rfl⟩:=List.mem_map.mp hx;exact(Ah a (c q hq) (I.q0 q hq) (I.q1 q hq)).1
 ·obtain⟨q,hq,rfl⟩:=List.mem_map.mp hx;exact(Ah a (c q hq) (I.q0 q hq) (I.q1 q hq)).2
noncomputable def qW(W x:Int):Rat:=Rat.divInt x W
section
variable {W:Int}(h0:0<W)
include h0
theorem Ds:(0:Rat)<(W:Rat):=by have:=abg (a:=0) (b:=W);simpa using this.mpr h0
theorem Se:qW W 0=0:=by unfold qW;simp
end
theorem UK(p q:Rat):dH .eq (qD p) (qD q)=ok (.bl (decide (p=q))):=by rw[GO (w8 39 p) (w8 39 q),CF]
noncomputable def Al:ag:=[.ifs (.and [(.cmp .tM (.v 2) (.v 7)),(.cmp .tM (.v 4) (.v 7))]) [.asg (.nm 5) (.call 202 [(.v 5),(.v 6)])] []]
def Ee:ag:=[.asg (.nm 5) (.tup [(.int 0),(.int 1)]),.fr (.tp [6,7]) (.seq (.ix (.v 0) (.int 1))) Al,.app 3 (.v 5)]
def Ef:ag:=[.asg (.nm 3) (.lst []),.fr (.nm 4) (.kF (.ix (.v 0) (.int 0))) Ee,.app 1 (.v 3)]
def kz:ag:=[.asg (.nm 1) (.lst []),.fr (.nm 2) (.kF (.ix (.v 0) (.int 0))) Ef,.ret (.v 1)]
theorem vb(r:Row)(rs:aC)(g h:Int):b7 (r::rs) g h=if ft g h r then r.1+b7 rs g h else b7 rs g h:=by
 unfold b7;cases e:ft g h r with
 |true=>rw[List.filter_cons_of_pos e];rfl
 |false=>rw[List.filter_cons_of_neg (by simp[e])];rfl
theorem qw(Φ:aY)(jE:oi (Φ 202))(g h:Int)(c0 c1 c3:aH):∀(rs:aC) (acc:Rat) (j:Nat) (c6 c7:aH),(∀r∈rs,Sm 50 r.1)->Sm j acc->j+51*rs.length<=3900 ->
  ∃pU kG,dG (λd ρ=>cu (.tp [6,7]) d ρ) (λρ=>aV Φ Al ρ) (bq rs) [c0,c1,some (.int g),c3,some (.int h),some (qD acc),c6,c7]=ok (.nx,[c0,c1,some (.int g),c3,some (.int h),some (qD (acc+b7 rs g h)),pU,kG])
 |[],acc,j,c6,c7,_,_,_=>⟨c6,c7,by simp[b7,eF,bq,rb,Rat.add_zero]⟩
 |r::rs,acc,j,c6,c7,hm,hs,hj=>by
  have sr:=hm r aae;rw[List.length_cons]at hj;have e1:=jE acc r.1 (hs.mono (by left)) (sr.mono (by decide));have sq:Sm (j+51) (acc+r.1):=(hs.add sr).mono (by left);have hr:=λx hx=>hm x (aaf r hx);have hc:∀(a:aH),aW Φ (.and [(.cmp .tM (.v 2) (.v 7)),(.cmp .tM (.v 4) (.v 7))]) [c0,c1,some (.int g),c3,some (.int h),a,some (qD r.1),some (.tup (ae r.2))]=ok (.bl (ft g h r)):=λa=>by
   by_cases hg:g∈r.2<;>by_cases hh:h∈r.2<;>simp[HI,ft,hg,hh]
  rw[vb];cases hb:ft g h r with
  |true =>
   obtain⟨pU,kG,ih⟩:=qw Φ jE g h c0 c1 c3 rs (acc+r.1) (j+51) (some (qD r.1)) (some (.tup (ae r.2))) hr sq (by left);refine⟨pU,kG,dF (ρ1:=[c0,c1,some (.int g),c3,some (.int h),some (qD acc),some (qD r.1),some (.tup (ae r.2))]) (by simp[rD]) (ρ2:=[c0,c1,some (.int g),c3,some (.int h),some (qD (acc+r.1)),some (qD r.1),some (.tup (ae r.2))]) ?_ ?_⟩
   ·rw[Al,bG,uK,hc,hb];simp[e1]
   ·exact ih.trans (by simp[Rat.add_assoc])
  |false =>
   obtain⟨pU,kG,ih⟩:=qw Φ jE g h c0 c1 c3 rs acc j (some (qD r.1)) (some (.tup (ae r.2))) hr hs (by left);refine⟨pU,kG,dF (ρ1:=[c0,c1,some (.int g),c3,some (.int h),some (qD acc),some (qD r.1),some (.tup (ae r.2))]) (by simp[rD]) (ρ2:=[c0,c1,some (.int g),c3,some (.int h),some (qD acc),some (qD r.1),some (.tup (ae r.2))]) ?_ ?_⟩
   ·rw[Al,bG,uK,hc,hb];simp
   ·exact ih.trans (by simp)
theorem wZ(Φ:aY)(jE:oi (Φ 202)){n:Nat}{rs:aC}(hm:∀r∈rs,Sm 50 r.1)(hl:rs.length<=16)(g:Int)(c1:aH):∀(k j:Nat) (qs:aQ) (c4 c5 c6 c7:aH),j+k<=12->qs.length=j ->
  ∃zo uG pU kG,dG (λd ρ=>cu (.nm 4) d ρ) (λρ=>aV Φ Ee ρ) ((List.range' j k).map λ(i:Nat)=>D.int (i:Int)) [some (d5 n rs),c1,some (.int g),some (.lst .ow (bu qs)),c4,c5,c6,c7] =
   ok (.nx,[some (d5 n rs),c1,some (.int g),some (.lst .ow (bu (qs++(List.range' j k).map λ(i:Nat)=>b7 rs g i))),zo,uG,pU,kG])
 |0,j,qs,c4,c5,c6,c7,_,_=>⟨c4,c5,c6,c7,by simp[rb]⟩
 |k+1,j,qs,c4,c5,c6,c7,hj,hq=>by
  have z0:D.tup [.int 0,.int 1]=qD 0:=rfl;obtain⟨a6,a7,el⟩:=qw Φ jE g j (some (d5 n rs)) c1 (some (.lst .ow (bu qs))) rs 0 1 c6 c7 hm (by constructor<;>decide) (by left);rw[Rat.zero_add]at el;have x1:aW Φ (.ix (.v 0) (.int 1)) [some (d5 n rs),c1,some (.int g),some (.lst .ow (bu qs)),some (.int j),some (qD 0),c6,c7]=ok (.lst .fz (bq rs)):=by simp[d5]
  have hit:eI Φ (.seq (.ix (.v 0) (.int 1))) [some (d5 n rs),c1,some (.int g),some (.lst .ow (bu qs)),some (.int j),some (qD 0),c6,c7]=ok (bq rs,[some (d5 n rs),c1,some (.int g),some (.lst .ow (bu qs)),some (.int j),some (qD 0),c6,c7]):=by
   rw[BQ x1];simp
  have hf:=fZ (Φ:=Φ) (t:=.tp [6,7]) (b:=Al) hit el;obtain⟨zo,uG,pU,kG,ih⟩:=wZ Φ jE hm hl g c1 k (j+1) (qs++[b7 rs g j]) (some (.int j)) (some (qD (b7 rs g j))) a6 a7 (by left) (by simp[hq]);rw[List.range'_succ,List.map_cons,List.map_cons];refine⟨zo,uG,pU,kG,dF (ρ1:=[some (d5 n rs),c1,some (.int g),some (.lst .ow (bu qs)),some (.int j),c5,c6,c7]) (by simp) (ρ2:=[some (d5 n rs),c1,some (.int g),some (.lst .ow (bu (qs++[b7 rs g j]))),some (.int j),some (qD (b7 rs g j)),a6,a7]) ?_ ?_⟩
  ·have hc:qs.length<fY:=by show _<1000000;left
   simp[Ee,z0,hf,hc]
  ·exact ih.trans (by simp)
def jA(n:Nat)(rs:aC)(f:Fl)(j k:Nat):ab:=(List.range' j k).map λ(g:Nat)=>.lst f (bu ((List.range' 0 n).map λ(h:Nat)=>b7 rs g h))
theorem w4(Φ:aY)(jE:oi (Φ 202)){n:Nat}(hn:n<=12){rs:aC}(hm:∀r∈rs,Sm 50 r.1)(hl:rs.length<=16):∀(k j:Nat) (ds:ab) (c2 c3 c4 c5 c6 c7:aH),j+k<=12->ds.length=j ->
  ∃Qj zN zo uG pU kG,dG (λd ρ=>cu (.nm 2) d ρ) (λρ=>aV Φ Ef ρ) ((List.range' j k).map λ(i:Nat)=>D.int (i:Int)) [some (d5 n rs),some (.lst .ow ds),c2,c3,c4,c5,c6,c7] =
   ok (.nx,[some (d5 n rs),some (.lst .ow (ds++jA n rs .ow j k)),Qj,zN,zo,uG,pU,kG])
 |0,j,ds,c2,c3,c4,c5,c6,c7,_,_=>⟨c2,c3,c4,c5,c6,c7,by simp[rb,jA]⟩
 |k+1,j,ds,c2,c3,c4,c5,c6,c7,hj,hq=>by
  obtain⟨a4,a5,a6,a7,el⟩:=wZ Φ jE hm hl j (some (.lst .ow ds)) n 0 [] c4 c5 c6 c7 (by left) rfl;have x0:∀r:bo,aW Φ (.ix (.v 0) (.int 0)) (some (d5 n rs)::r)=ok (.int n):=λr=>by simp[d5]
  have hit:=yK (Φ:=Φ) (a:=.ix (.v 0) (.int 0)) (ρ:=[some (d5 n rs),some (.lst .ow ds),some (.int j),some (.lst .ow (bu [])),c4,c5,c6,c7]) (n:=n) (x0 _) (by left) (by left);rw[Int.toNat_natCast,List.range_eq_range']at hit;have hf:=fZ (Φ:=Φ) (t:=.nm 4) (b:=Ee) hit el;rw[List.nil_append]at hf;obtain⟨Qj,zN,zo,uG,pU,kG,ih⟩:=w4 Φ jE hn hm hl k (j+1) (ds++[.lst .ow (bu ((List.range' 0 n).map λ(h:Nat)=>b7 rs j h))]) (some (.int j)) none a4 a5 a6 a7 (by left) (by simp[hq]);have ep:jA n rs .ow j (k+1)=.lst .ow (bu ((List.range' 0 n).map λ(h:Nat)=>b7 rs j h))::jA n rs .ow (j+1) k:=by unfold jA;rw[List.range'_succ,List.map_cons]
  rw[List.range'_succ,List.map_cons,ep];have hc:ds.length<fY:=by show _<1000000;left
  have q0:bu []=[]:=rfl;refine⟨Qj,zN,zo,uG,pU,kG,dF (ρ1:=[some (d5 n rs),some (.lst .ow ds),some (.int j),c3,c4,c5,c6,c7]) (by simp) (ρ2:=[some (d5 n rs),some (.lst .ow (ds++[.lst .ow (bu ((List.range' 0 n).map λ(h:Nat)=>b7 rs j h))])),some (.int j),none,a4,a5,a6,a7]) ?_ ?_⟩
  ·rw[q0]at hf;simp[Ef,hf,hc]
  ·exact ih.trans (by simp)
def HX(m:aw):Prop:=∀n rs,n<=12->(∀r∈rs,Sm 50 r.1)->rs.length<=16->m [d5 n rs]=ok (.lst .ow (jA n rs .ow 0 n))
theorem M9(Φ:aY)(jE:oi (Φ 202)):HX (mk Φ 1 8 kz):=by
 intro n rs hn hm hl;obtain⟨a2,a3,a4,a5,a6,a7,el⟩:=w4 Φ jE hn hm hl n 0 [] none none none none none none (by left) rfl;have x0:∀r:bo,aW Φ (.ix (.v 0) (.int 0)) (some (d5 n rs)::r)=ok (.int n):=λr=>by simp[d5]
 have hit:=yK (Φ:=Φ) (a:=.ix (.v 0) (.int 0)) (ρ:=[some (d5 n rs),some (.lst .ow []),none,none,none,none,none,none]) (n:=n) (x0 _) (by left) (by left);rw[Int.toNat_natCast,List.range_eq_range']at hit;have hf:=fZ (Φ:=Φ) (t:=.nm 2) (b:=Ef) hit el;rw[List.nil_append]at hf;simp[mk_eq,kz,hf]
theorem nc(g:Fl->Fl)(n:Nat)(rs:aC)(f:Fl)(j k:Nat):av g (jA n rs f j k)=jA n rs (g f) j k:=by
 unfold jA;rw[aO,List.map_map];refine aam λx _=>?_;show aA g (.lst f (bu _))=_;simp
theorem Cg(g:Fl->Bool)(n:Nat)(rs:aC)(f:Fl)(j k:Nat)(h:g f=false):aN g (jA n rs f j k)=false:=cK g (λx=>by simp[h]) (List.range' j k)
theorem Nx{n:Nat}{rs:aC}{f:Fl}{k:Nat}(h:k<n):mx (jA n rs f 0 n) (k:Int)=ok (aA aP (.lst f (bu ((List.range' 0 n).map λ(h:Nat)=>b7 rs k h)))):=by
 have:=at_of (ds:=jA n rs f 0 n) (i:=(k:Int)) (d:=.lst f (bu ((List.range' 0 n).map λ(h:Nat)=>b7 rs k h))) (by left) (by
  rw[Int.toNat_natCast,jA,List.getElem?_map,List.getElem?_range' h];simp)
 exact this
noncomputable def Ll:CE:=.comp 1 (.nm 0) [] .seq [(.v 1)] [] (.bin .fdiv (.bin .mul (.ix (.v 0) (.int 0)) (.int 2520)) (.ix (.v 0) (.int 1)))
noncomputable def Lm:CE:=.comp 1 (.nm 0) [6] .kF [(.bf .len [(.v 1)])] [] (.ix (.ix (.v 1) (.v 0)) (.v 0))
noncomputable def mI:ag:=[.ifs (.or [(.not (.jW (.v 5) .tuple)),(.cmp .ne (.bf .len [(.v 5)]) (.int 2)),(.not (.call 204 [(.ix (.v 5) (.int 0))])),(.cmp .le (.ix (.ix (.v 5) (.int 0)) (.int 0)) (.int 0)),(.cmp .le (.ix (.ix (.v 5) (.int 0)) (.int 1)) (.int 0))]) [.ret (.bl false)] [],.ifs (.or [(.cmp .ne (.call 201 [(.ix (.ix (.v 5) (.int 0)) (.int 0)),(.ix (.ix (.v 5) (.int 0)) (.int 1))]) (.ix (.v 5) (.int 0))),(.not (.call 218 [(.ix (.v 5) (.int 1)),(.bf .len [(.v 1)]),(.v 3)]))]) [.ret (.bl false)] []]
noncomputable def yq:ag:=[.ifs (.and [(.cmp .qy (.v 4) .bF),(.bO 1025 [(.ix (.v 5) (.int 1)),(.v 4)])]) [.ret (.bl false)] [],.asg (.nm 4) (.ix (.v 5) (.int 1)),.asg (.nm 2) (.call 202 [(.v 2),(.ix (.v 5) (.int 0))])]
def Am:ag:=mI++yq
noncomputable def Cr:ag:=[.ifs (.or [(.not (.jW (.v 0) .tuple)),(.cmp .ne (.bf .len [(.v 0)]) (.int 2)),(.cmp .ne (.ix (.v 0) (.int 0)) (.bf .len [(.v 1)])),(.jW (.ix (.v 0) (.int 0)) .bool)]) [.ret (.bl false)] [],.ifs (.not (.jW (.ix (.v 0) (.int 1)) .list)) [.ret (.bl false)] []]
def Uw:ag:=[.asg (.nm 2) (.tup [(.int 0),(.int 1)]),.asg (.nm 3) (.bin .fdiv (.bf .jz [Ll]) (.int 2520))]
def PJ:ag:=[.asg (.nm 4) .bF,.fr (.nm 5) (.seq (.ix (.v 0) (.int 1))) Am]
def WH:ag:=[.asg (.nm 6) (.call 213 [(.v 0)]),.ret (.and [(.cmp .eq (.v 2) (.tup [(.int 1),(.int 1)])),(.cmp .eq Lm (.v 1))])]
def vU:ag:=Cr++(Uw++(PJ++WH))
end DI
end
section
set_option maxHeartbeats 1000000
namespace DI
open PySem (Str)
def qm(n:Int)(d:D):Bool:=match d with
 |.tup [c,l]=>(bS c&&kQ c)&&cO l n
 |_=>false
theorem wJ(n:Int)(d:D):qm n d=(fI n d&&kT n d):=by
 unfold qm fI kT;split
 ·rename_i c l;show((bS c&&kQ c)&&cO l n)=((bH l n&&(bS c&&kQ c))&&cO l n)
  have:cO l n=true->bH l n=true:=λh=>by unfold cO at h;rw[Bool.and_eq_true]at h;exact h.1
  cases hl:cO l n with
  |false=>rw[Bool.and_false,Bool.and_false]
  |true=>rw[this hl,Bool.true_and]
 ·simp
theorem HR(n:Int)(rows:ab):rows.all (qm n)=(rows.all (fI n)&&rows.all (kT n)):=by
 induction rows with
 |nil=>rfl
 |cons d rows ih =>
  rw[List.all_cons,List.all_cons,List.all_cons,ih,wJ];cases fI n d<;>cases kT n d<;>cases rows.all (fI n)<;>cases rows.all (kT n)<;>rfl
def iL:Option (aa)->D
 |none=>.bF
 |some l=>.tup (ae l)
def lq(last:Option (aa))(ls:au):Bool:=match last with
 |none=>eE ls
 |some l=>eE (l::ls)
def JG(last:Option (aa))(l:aa):Bool:=match last with
 |none=>true
 |some m=>HT.lexLt m l
theorem EK{n:Nat}{d:D}(h:qm n d=true):d=rD (br d)/\cO (.tup (ae (br d).2)) n=true:=by
 have h':=h;rw[wJ,Bool.and_eq_true]at h;obtain⟨e,_,_⟩:=j8 h.1;refine⟨e,?_⟩;have h2:=h.2;rw[e]at h2;exact h2
theorem pP{q:Rat}{k:Nat}(hk:k<=50)(h:Sm k q):bj 1 (qD q)=true:=by
 have h:=h.mono hk;have h1:decide (q.num.natAbs<2 ^ 50)=true:=aar h.1;have h2:decide ((q.den:Int).natAbs<2 ^ 50)=true:=aar (by rw[Int.natAbs_natCast];exact h.2);show(decide ((2:Nat)<=16)&&((decide (q.num.natAbs<2 ^ 50))&&((decide ((q.den:Int).natAbs<2 ^ 50))&&true)))=true;rw[h1,h2];rfl
theorem fO{l:aa}(hl:l.length<=16)(h:∀x∈l,-20<=x/\x<=20):bj 1 (.tup (ae l))=true:=by
 show(decide ((ae l).length<=16)&&(ae l).all (bj 0))=true;rw[decide_eq_true (by unfold ae;simpa using hl),Bool.true_and,List.all_eq_true];intro d hd;obtain⟨x,hx,rfl⟩:=List.mem_map.mp hd;have:=h x hx;exact aar (aaz (by left:x.natAbs<=20) (by decide))
theorem GF{n:Nat}(hn:n<=12){l:aa}(h:zA n l):bj 1 (.tup (ae l))=true:=by
 refine fO (aao h.len (by left)) λx hx=>?_;have:=h.2 x hx;left
theorem dC{n:Nat}{x y:D}(hx:bj n x=true)(hy:bj n y=true):bj (n+1) (.tup [x,y])=true:=by
 show(decide ((2:Nat)<=16)&&(bj n x&&(bj n y&&true)))=true;rw[hx,hy];rfl
theorem lg(Φ:aY):∀(a b:ag) (ρ ρ':bo),aV Φ a ρ=ok (.nx,ρ')->aV Φ (a++b) ρ=aV Φ b ρ'
 |[],b,ρ,ρ',h=>by cases h;rfl
 |s::a,b,ρ,ρ',h=>by
  obtain⟨⟨f,ρ1⟩,h1,h2⟩:=aB (show bd (gx Φ s ρ) _=_ from h);show bd (gx Φ s ρ) _=_;rw[h1];cases f with
  |nx=>exact lg Φ a b ρ1 ρ' h2
  |rt d=>cases h2
theorem V6{xs:ab}{i:Nat}{x:D}(h:xs[i]?=some x)(hx:aA aP x=x):mx xs (i:Int)=ok x:=by
 have hl:=(List.getElem?_eq_some_iff.mp h).1;have:qJ xs.length (i:Int)=some i:=by
  unfold qJ;rw[if_pos (by left),if_pos (by left),Int.toNat_natCast]
 unfold mx;rw[this];show(match xs[i]? with|some d=>_|none=>_)=_;rw[h];show ok (aA aP x)=_;rw[hx]
theorem nW{f:Fl}(hf:iO f=false){ds:ab}(hl:ds.length<=16)(h:∀d∈ds,bj 2 d=true):bj 3 (.lst f ds)=true:=by
 show(!iO f&&(decide (ds.length<=16)&&ds.all (bj 2)))=true;rw[hf,decide_eq_true hl,List.all_eq_true.mpr h];rfl
theorem vJ{n:Nat}(hn:n<=12){x:D}(h:bj 3 x=true):bj 4 (.tup [.int n,x])=true:=dC (aar (by rw[Int.natAbs_natCast];exact aaz hn (by decide))) h
variable {Φ:aY}{ρ ρ':bo}
theorem AM{e:CE}{d:D}(hk:LV e=false)(he:aW Φ e ρ=ok d)(h:bj 4 d=true):∃d' ρ',gx Φ (.ret e) ρ=ok (.rt d',ρ')/\bj 4 d'=true:=by
 rw[G6,DJ Φ e ρ hk,he];cases ha:aU bD d with
 |false=>rw[c_ ha];exact⟨_,_,rfl,h⟩
 |true =>
  rw[tH ha];exact⟨_,_,rfl,by rw[cL _ (λf=>by cases f<;>rfl)];exact h⟩
theorem dE{c:CE}{a rest:ag}(h:aW Φ c ρ=ok (.bl false)):aV Φ (.ifs c a []::rest) ρ=aV Φ rest ρ:=by
 rw[bG,uK,h];rfl
theorem Ik{c:CE}{a rest:ag}{d:D}(h:aW Φ c ρ=ok (.bl true))(ha:aV Φ a ρ=ok (.rt d,ρ')):aV Φ (.ifs c a []::rest) ρ=ok (.rt d,ρ'):=by
 rw[bG,uK,h];show o4 Φ rest (aV Φ a ρ)=_;rw[ha];rfl
theorem G7{s:CS}{rest:ag}{d:D}(h:gx Φ s ρ=ok (.rt d,ρ')):aV Φ (s::rest) ρ=ok (.rt d,ρ'):=by
 rw[bG,h];rfl
theorem xC(d:D):aA aK (aA aK d)=aA aK d:=by
 rw[jb];congr 1;funext f;cases f<;>rfl
def kO(n:Int)(s:Nat)(d:D):Bool:=match d with
 |.tup [c,l]=>(bS c&&kQ c)&&(vn s l&&cO l n)
 |_=>false
theorem wI(n:Int)(s:Nat)(d:D):kO n s d=(qm n d&&ji s d):=by
 unfold kO qm ji;split
 ·rename_i c l;cases l with
  |tup ds =>
   show((bS c&&kQ c)&&(decide (ds.length=s)&&cO (.tup ds) n))=(((bS c&&kQ c)&&cO (.tup ds) n)&&decide (ds.length=s))
   cases (bS c&&kQ c)<;>cases (cO (.tup ds) n)<;>cases (decide (ds.length=s))<;>rfl
  |_=>simp[vn]
 ·simp
theorem HQ(n:Int)(s:Nat)(rows:ab):rows.all (kO n s)=(rows.all (qm n)&&rows.all (ji s)):=by
 induction rows with
 |nil=>rfl
 |cons d rows ih =>
  rw[List.all_cons,List.all_cons,List.all_cons,ih,wI];cases qm n d<;>cases ji s d<;>cases rows.all (qm n)<;>cases rows.all (ji s)<;>rfl
theorem p7(Φ:aY):∀(a b:ag) (ρ ρ':bo) (d:D),aV Φ a ρ=ok (.rt d,ρ')->aV Φ (a++b) ρ=ok (.rt d,ρ')
 |[],b,ρ,ρ',d,h=>by cases h
 |s::a,b,ρ,ρ',d,h=>by
  rw[bG]at h;show aV Φ (s::(a++b)) ρ=_;rw[bG]
  revert h
  cases gx Φ s ρ with
  |none=>intro h;cases h
  |some x=>cases x with
   |error c=>intro h;cases h
   |ok z =>
    obtain⟨f,ρ1⟩:=z;cases f<;>first|exact λh=>p7 Φ a b ρ1 ρ' d h|exact λh=>h | (intro h;cases h)
structure LI(Φ:aY):Prop where
 KD:kC (Φ 201)
 jE:oi (Φ 202)
 Us:Dw (Φ 204)
 Ur:HX (Φ 213)
 Uq:HY (Φ 218)
 Py:Φ 1025=FH
theorem Oh(Φ:aY)(Q:LI Φ){qs:aQ}{s k:Nat}(c0 c2 c4 c6:aH){d:D}(hd:bj k d=true)(hz:aA aK d=d):
  aV Φ mI [c0,some (.lst .fz (bu qs)),c2,some (.int s),c4,some d,c6]=ok (if kO qs.length s d then .nx else .rt (.bl false),[c0,some (.lst .fz (bu qs)),c2,some (.int s),c4,some d,c6]):=by
 have ty:∀ds,bJ .tuple (.tup ds)=true:=λ_=>rfl;cases d with
 |tup ds =>
  by_cases hl:ds.length=2
  ·obtain⟨c,l,rfl⟩:=j4 hl;have B2:=eZ (D.tup.inj hz);obtain⟨m,hm,_,kb⟩:=cg hd;have zc:=B2 c (by simp);have zl:=B2 l (by simp);have ac:=jL zc;have al:=jL zl;have e1:=Q.Us c zc;have e2:=Q.Uq l m qs.length s (kb l (by simp)) zl;have eJ:kO qs.length s (.tup [c,l])=((bS c&&kQ c)&&(vn s l&&cO l qs.length)):=rfl;rw[eJ];cases hp:mX c with
   |false =>
    have:bS c=false:=by
     cases hf:bS c with
     |false=>rfl
     |true =>
      obtain⟨q,rfl⟩:=iS hf;exact absurd hp (by show ¬ (true&&true)=false;decide)
    rw[hp]at e1;rw[this];simp[mI,ty,ac,al,zc,e1]
   |true =>
    rw[hp]at e1;obtain⟨a,b,rfl⟩:∃a b,c=.tup [.int a,.int b]:=by
     unfold mX at hp;split at hp
     ·rw[Bool.and_eq_true]at hp;obtain⟨a,rfl⟩:=fE hp.1;obtain⟨b,rfl⟩:=fE hp.2;exact⟨a,b,rfl⟩
     ·cases hp
    rw[<- zf];by_cases h1:0<a
    ·by_cases h2:0<b
     ·rw[decide_eq_true h1,decide_eq_true h2,Bool.true_and,Bool.true_and];obtain⟨m',_,_,TR⟩:=cg (kb _ (by simp:D.tup [.int a,.int b]∈_));have hb:=CY (TR (.int b) (by simp));have P7:=Q.KD a b (by left) (aak hb (aaG (by decide) (by decide)));have ce:dH .ne (qD (Rat.divInt a b)) (.tup [.int a,.int b])=ok (.bl (!kj (qD (Rat.divInt a b)) (.tup [.int a,.int b]))):=rfl;have g1:¬ a<=0:=by left
      have g2:¬ b<=0:=by left
      cases hE:kj (qD (Rat.divInt a b)) (.tup [.int a,.int b])with
      |false =>
       rw[hE]at ce;simp[mI,ty,al,e1,g1,g2,P7,ce]
      |true =>
       rw[hE]at ce;generalize (vn s l&&cO l qs.length)=F at *;cases F<;>simp[mI,ty,al,zl,e1,g1,g2,P7,ce,e2]
     ·have g1:¬ a<=0:=by left
      have g2:b<=0:=by left
      rw[decide_eq_false h2,Bool.false_and,Bool.and_false,Bool.false_and];simp[mI,ty,al,e1,g1,g2]
    ·have g1:a<=0:=by left
     rw[decide_eq_false h1,Bool.false_and,Bool.false_and];simp[mI,ty,al,e1,g1]
  ·have jC:¬ (ds.length:Int)=2:=by left
   have:kO qs.length s (.tup ds)=false:=by
    unfold kO
    match ds,hl with
    |[],_=>rfl
    |[_],_=>rfl
    |[_,_],h=>exact absurd rfl h
    |_::_::_::_,_=>rfl
   rw[this];simp[mI,ty,jC,aO]
 |_=>simp[mI,bJ,kO]
theorem tw(Φ:aY)(Q:LI Φ){qs:aQ}{s:Nat}(c0 c6:aH):∀(rows:ab) (last:Option (aa)) (q:Rat) (j:Nat) (c5:aH),(∀d∈rows,bj 6 d=true/\aA aK d=d)->Sm j q->j+51*rows.length<=3900 ->
  ∃ρ',dG (λd ρ=>cu (.nm 5) d ρ) (λρ=>aV Φ Am ρ) rows [c0,some (.lst .fz (bu qs)),some (qD q),some (.int s),some (iL last),c5,c6]=ok (if rows.all (kO qs.length s)&&lq last (rows.map λd=>(br d).2)then .nx else .rt (.bl false),ρ') /\
   (rows.all (kO qs.length s)=true->lq last (rows.map λd=>(br d).2)=true->∃zo uG,ρ'=[c0,some (.lst .fz (bu qs)),some (qD (q+(eF (rows.map br)).sum)),some (.int s),zo,uG,c6])
 |[],last,q,j,c5,_,_,_=>by
  have hr:lq last []=true:=by cases last<;>rfl
  exact⟨_,by rw[List.map_nil,hr];rfl,λ_ _=>⟨some (iL last),c5,by simp[eF,Rat.add_zero]⟩⟩
 |d::rows,last,q,j,c5,h,hs,hj=>by
  obtain⟨h1,hz⟩:=h d aae;have la:=Oh Φ Q (qs:=qs) (s:=s) c0 (some (qD q)) (some (iL last)) c6 h1 hz;cases hG:kO qs.length s d with
  |false =>
   refine⟨[c0,some (.lst .fz (bu qs)),some (qD q),some (.int s),some (iL last),some d,c6],?_,λz=>by rw[List.all_cons,hG]at z;cases z⟩;rw[List.all_cons,hG,Bool.false_and,Bool.false_and];rw[hG]at la;refine dZ (ρ1:=[c0,some (.lst .fz (bu qs)),some (qD q),some (.int s),some (iL last),some d,c6]) (by simp) ?_;exact p7 Φ _ _ _ _ _ la
  |true =>
   rw[hG]at la;have WD:=hG;rw[wI,Bool.and_eq_true]at WD;obtain⟨er,Yu⟩:=EK WD.1;generalize hr:br d=r at *;subst er;have sr:Sm 50 r.1:=by
    obtain⟨m,hm,_,kb⟩:=cg h1;exact xS (kb (qD r.1) (by simp))
   rw[List.length_cons]at hj;have e3:=Q.jE q r.1 (hs.mono (by left)) (sr.mono (by decide));have sq:Sm (j+51) (q+r.1):=(hs.add sr).mono (by left);have eD:rD r=.tup [qD r.1,.tup (ae r.2)]:=rfl;have le:∀l:aa,Φ 1025 [.tup (ae r.2),.tup (ae l)]=ok (.bl (!HT.lexLt l r.2)):=λl=>by
    rw[Q.Py];show(match intsOf (ae r.2)with|some ns=>(match intsOf (ae l)with|some ms=>ok (D.bl (!HT.lexLt ms ns))|none=>none)|none=>none)=_;unfold ae;rw[bA,bA]
   have xr:lq last ((rD r::rows).map λd=>(br d).2)=(JG last r.2&&lq (some r.2) (rows.map λd=>(br d).2)):=by
    rw[List.map_cons,hr];cases last with
    |none=>rfl
    |some l=>rfl
   obtain⟨ρ',ih,SR⟩:=tw Φ Q c0 c6 rows (some r.2) (q+r.1) (j+51) (some (rD r)) (λs L1=>h s (aaf _ L1)) sq (by left);by_cases ho:JG last r.2=true
   ·refine⟨ρ',?_,λz1 z2=>?_⟩
    ·rw[List.all_cons,hG,Bool.true_and,xr,ho,Bool.true_and,<- ih];refine dF (ρ1:=[c0,some (.lst .fz (bu qs)),some (qD q),some (.int s),some (iL last),some (rD r),c6]) (by simp) (ρ2:=[c0,some (.lst .fz (bu qs)),some (qD (q+r.1)),some (.int s),some (.tup (ae r.2)),some (rD r),c6]) ?_ rfl;show aV Φ (mI++yq) _=_;rw[lg Φ _ _ _ _ la];cases last with
     |none =>
      have cn:dH .qy .bF .bF=ok (.bl false):=rfl;simp[yq,eD,e3,iL,cn]
     |some l =>
      have ho:HT.lexLt l r.2=true:=ho;have Oc:=le l;rw[ho]at Oc;have cn:dH .qy (.tup (ae l)) .bF=ok (.bl true):=rfl;simp[yq,eD,e3,iL,Oc,cn]
    ·rw[xr,ho,Bool.true_and]at z2;rw[List.all_cons,hG,Bool.true_and]at z1;obtain⟨Qj,zN,rfl⟩:=SR z1 z2;refine⟨Qj,zN,?_⟩;rw[List.map_cons,hr];show[_,_,some (qD (q+r.1+(eF (rows.map br)).sum)),_,_,_,_]=[_,_,some (qD (q+(r.1+(eF (rows.map br)).sum))),_,_,_,_]
     rw[Rat.add_assoc]
   ·have ho:JG last r.2=false:=by simpa using ho
    refine⟨[c0,some (.lst .fz (bu qs)),some (qD q),some (.int s),some (iL last),some (rD r),c6],?_,λz1 z2=>by rw[xr,ho]at z2;cases z2⟩;rw[xr,ho,Bool.false_and,Bool.and_false];refine dZ (ρ1:=[c0,some (.lst .fz (bu qs)),some (qD q),some (.int s),some (iL last),some (rD r),c6]) (by simp) ?_;show aV Φ (mI++yq) _=_;rw[lg Φ _ _ _ _ la];cases last with
    |none=>exact Bool.noConfusion (show true=false from ho)
    |some l =>
     have ho:HT.lexLt l r.2=false:=ho;have Oc:=le l;rw[ho]at Oc;have cn:dH .qy (.tup (ae l)) .bF=ok (.bl true):=rfl;simp[yq,eD,iL,Oc,cn]
end DI
end
section
set_option maxHeartbeats 1000000
namespace DI
open PySem PySem.Spec PyProof.Rows L2
noncomputable def oO:Nat->Nat
 |0=>20
 |n+1=>16*(oO n+2)+4
theorem sX{L:Nat}:∀{ts:ai},(∀t∈ts,t.length<=L)->piled ts<=ts.length*(L+2)
 |[],_=>by rw[piled_nil];left
 |t::ts,h=>by
  rw[piled_cons,List.length_cons,Nat.add_mul];have:=sX (ts:=ts) λx hx=>h x (aaf _ hx);have:=h t aae;left
theorem tq:∀ts:ai,(listText ts).length<=piled ts+2
 |[]=>by decide +kernel
 |t::r=>by
  have h:=textFrom_length_pos r 1 (("[" : Str)++(if (0:Nat)>0 then ", " else "" : String)++t) (Nat.succ_pos 0);have e:((("[" : Str)++(if (0:Nat)>0 then ", " else "" : String)++t)).length=1+t.length:=by
   rw[strLen_append,strLen_append];rfl
  have hX:(listText (t::r)).length=(textFrom 0 "[" (t::r)).length+1:=by
   show(textFrom 0 "[" (t::r) ++ "]").length=_;rw[strLen_append];rfl
  have hY:(textFrom 0 "[" (t::r)).length=(textFrom 1 (("[" : Str)++(if (0:Nat)>0 then ", " else "" : String)++t) r).length:=rfl;rw[hX,hY,h,e,piled_cons];left
theorem p_(ts:ai):(tupleText ts).length<=piled ts+3:=by
 unfold tupleText;rw[strLen_append,strLen_append];have h1:(("(" : Str)).length=1:=by decide +kernel
 have h2:((if ts.length==1 then ",)" else ")" : String):Str).length<=2:=by split<;>decide +kernel
 have h3:(Str.join ", " ts).length<=piled ts:=by
  cases ts with
  |nil=>exact aah _
  |cons t ts=>have:=join_length_add (t::ts) (by simp);left
 left
theorem lp:∀ds:ab,PyData.shownAll (eC ds)=ds.map λd=>(toPy d).shown
 |[]=>by rw[eC,PyData.shownAll];rfl
 |d::ds=>by rw[eC,PyData.shownAll,lp ds];rfl
theorem showableAll_of:∀{ds:ab},(∀d∈ds,(toPy d).showable=true)->PyData.showableAll (eC ds)=true
 |[],_=>by rw[eC,PyData.showableAll]
 |d::ds,h=>by rw[eC,PyData.showableAll,h d List.mem_cons_self,showableAll_of λx hx=>h x (List.mem_cons_of_mem _ hx)];rfl
theorem lK{n:Nat}:∀{ds:ab},(∀d∈ds,(toPy d).depth<=n)->PyData.depthAll (eC ds)<=n
 |[],_=>by rw[eC,PyData.depthAll];left
 |d::ds,h=>by
  rw[eC,PyData.depthAll];exact Nat.max_le.mpr ⟨h d aae,lK λx hx=>h x (aaf _ hx)⟩
theorem Ey{i:Int}(h:decide (i.natAbs<2 ^ 50)=true):(toPy (.int i)).showable=true/\(toPy (.int i)).shown.length<=20:=by
 have h:=aab h;rw[toPy,PyData.showable,PyData.shown];have h2:i.natAbs<10 ^ 16:=aak h (by decide);refine⟨aar ?_,?_⟩
 ·by_cases z:i.natAbs=0
  ·rw[z];decide
  ·exact aak ((Nat.log2_lt z).mpr h) (by decide)
 ·have:=int_text_length_le10 (a:=i) (k:=16) (by decide) h2;show(Str.ofString (toString i)).length<=20;rw[ofString_len];left
theorem yI(n:Nat):20<=oO n:=by cases n<;>(unfold oO;left)
theorem wD:∀(n:Nat) (d:D),bj n d=true->eA n d=true/\(toPy d).depth<=n/\(toPy d).showable=true/\(toPy d).shown.length<=oO n:=by
 intro n;have hb:∀b:Bool,((toPy (.bl b)).shown).length<=20:=λb=>by cases b<;>(rw[toPy,PyData.shown];decide +kernel)
 have hn:((toPy .bF).shown).length<=20:=by rw[toPy,PyData.shown];decide +kernel
 have hs:((toPy (.str "drawing")).shown).length<=20:=by rw[toPy,PyData.shown];decide +kernel
 have leaf:∀(m:Nat) (d:D),bj m d=true->gC d=true->eA m d=true/\(toPy d).depth<=m/\(toPy d).showable=true/\(toPy d).shown.length<=oO m:=λm d h hf=>by
  have hm:=yI m;cases d<;>first | (cases hf;done)|skip
  ·exact⟨by cases m<;>rfl,by rw[toPy,PyData.depth];left,by rw[toPy,PyData.showable],aao hn hm⟩
  ·exact⟨by cases m<;>rfl,by rw[toPy,PyData.depth];left,by rw[toPy,PyData.showable],aao (hb _) hm⟩
  ·obtain⟨a,b⟩:=Ey (by cases m<;>exact h);exact⟨by cases m<;>rfl,by rw[toPy,PyData.depth];left,a,aao b hm⟩
  ·rename_i t;have:t = "drawing":=by cases m<;>exact beq_iff_eq.mp h
   subst this;exact⟨by cases m<;>rfl,by rw[toPy,PyData.depth];left,by rw[toPy,PyData.showable],aao hs hm⟩
 induction n with
 |zero =>
  intro d h;cases d<;>first|exact leaf _ _ h rfl|cases h
 |succ n ih =>
  intro d h;have sub:∀ds:ab,ds.length<=16->(∀d∈ds,bj n d=true)->piled (PyData.shownAll (eC ds))<=16*(oO n+2)/\PyData.depthAll (eC ds)<=n/\PyData.showableAll (eC ds)=true/\ds.all (eA n)=true:=λds hl hd=>by
   refine⟨?_,lK λd hx=>(ih d (hd d hx)).2.1,showableAll_of λd hx=>(ih d (hd d hx)).2.2.1,List.all_eq_true.mpr λd hx=>(ih d (hd d hx)).1⟩;rw[lp];refine aao (sX (L:=oO n) λt ht=>?_) (Nat.mul_le_mul_right _ (by simpa using hl));obtain⟨d,hx,rfl⟩:=List.mem_map.mp ht;exact(ih d (hd d hx)).2.2.2
  cases d<;>first|exact leaf _ _ h rfl | (cases h;done)|skip
  ·obtain⟨m,e,h1,h2⟩:=cg h;obtain rfl:n=m:=by left
   obtain⟨a,b,c,e⟩:=sub _ h1 h2;refine⟨e,by rw[toPy,PyData.depth];left,by rw[toPy,PyData.showable];exact c,?_⟩;rw[toPy,PyData.shown];refine aao (p_ _) ?_;show _<=16*(oO n+2)+4;left
  ·obtain⟨m,e,h1,h2,_⟩:=gF h;obtain rfl:n=m:=by left
   obtain⟨a,b,c,e⟩:=sub _ h1 h2;refine⟨e,by rw[toPy,PyData.depth];left,by rw[toPy,PyData.showable];exact c,?_⟩;rw[toPy,PyData.shown];refine aao (tq _) ?_;show _<=16*(oO n+2)+4;left
theorem IU{d:D}(h:bj 4 d=true):uX d=true:=by
 obtain⟨a,b,c,e⟩:=wD 4 d h;have h4:oO 4<=sizeLine:=by rw[sizeLine_eq];decide
 have up:∀(k m:Nat) (d:D),eA m d=true->eA (m+k) d=true:=λk=>by
  induction k with
  |zero=>intro m d h;exact h
  |succ k ih =>
   intro m d h;have:∀(m:Nat) (d:D),eA m d=true->eA (m+1) d=true:=by
    intro m;induction m with
    |zero=>intro d h;cases d<;>first|rfl|cases h
    |succ m ih =>
     intro d h;cases d<;>first|rfl | (cases h;done)|skip
     ·exact List.all_eq_true.mpr λd hd=>ih d (List.all_eq_true.mp h d hd)
     ·exact List.all_eq_true.mpr λd hd=>ih d (List.all_eq_true.mp h d hd)
   exact this _ _ (ih m d h)
 unfold uX;rw[up 16 4 d a,decide_eq_true (by left:(toPy d).depth<=60),c,decide_eq_true (Nat.le_trans e h4)];rfl
end DI
end
section
namespace DI
open PySem (Str)
theorem pK:∀B:Nat,1<=B->B<=9->B∣2520:=by
 intro B h1 h2;have:B=1\/B=2\/B=3\/B=4\/B=5\/B=6\/B=7\/B=8\/B=9:=by left
 rcases this with rfl|rfl|rfl|rfl|rfl|rfl|rfl|rfl|rfl<;>exact Nat.dvd_of_mod_eq_zero rfl
theorem yn{q:Rat}(h:q.den∣2520):(q.num*2520).fdiv q.den=cf 2520 q:=by
 obtain⟨k,hk⟩:=h;unfold cf;have e:(2520:Int)=(q.den:Int)*(k:Int):=by exact_mod_cast hk
 have e2:((2520:Nat):Int)=(q.den:Int)*(k:Int):=e;rw[e2,e,Int.mul_comm (q.den:Int) (k:Int),<- Int.mul_assoc,Int.mul_fdiv_cancel _ (kP q),Int.mul_fdiv_cancel _ (kP q)]
variable {B k2:Nat}{qs:aQ}
theorem Gv(Φ:aY)(I:lM 12 qs B)(c0 c2 c3 c4 c5 c6:aH):aW Φ Ll [c0,some (.lst .fz (bu qs)),c2,c3,c4,c5,c6]=ok (.lst .ow (ae (qs.map (cf 2520)))):=by
 have n2:=I.n2;unfold Ll;rw[cQ (xs:=[.lst .fz (bu qs)]) (items:=bu qs) (ds:=qs.map λq=>.int (cf 2520 q)) (by simp) (by rw[dX];simp) (bX λq hq=>⟨[some (qD q)],by simp[bK],by simp,by
  have hd:=Nat.dvd_trans (I.qd q hq) (pK B I.b1 I.b2);have hp:=q.den_pos;have hle:q.den<=9:=Nat.le_trans (Nat.le_of_dvd (by have:=I.b1;left) (I.qd q hq)) I.b2;have m1:bM .mul (.int q.num) (.int 2520)=ok (.int (q.num*2520)):=GR (by left);have d1:bM .fdiv (.int (q.num*2520)) (.int (q.den:Int))=ok (.int (cf 2520 q)):=by
   rw[gY (d_ (by left) (iJ (by left))),yn hd]
  simp[m1,d1]⟩) (by rw[List.length_map];exact b6 (by left))]
 have:(qs.map λq=>D.int (cf 2520 q))=ae (qs.map (cf 2520)):=by unfold ae;rw[List.map_map];rfl
 rw[this];simp
theorem NP:∀{m:Nat} {d:D},eA m d=true->eA (m+1) d=true:=by
 intro m;induction m with
 |zero=>intro d h;cases d<;>first|rfl|cases h
 |succ m ih =>
  intro d h;cases d<;>first|rfl | (cases h;done)|skip
  ·exact List.all_eq_true.mpr λd hd=>ih (List.all_eq_true.mp h d hd)
  ·exact List.all_eq_true.mpr λd hd=>ih (List.all_eq_true.mp h d hd)
theorem Bj{m:Nat}{d:D}(h:eA m d=true):∀k,eA (m+k) d=true
 |0=>h
 |k+1=>NP (Bj h k)
theorem Lr{n:Nat}{d:D}(hn:n<=40)(h:bj n d=true):eA 40 d=true:=by
 have:=Bj (wD n d h).1 (40 - n)
 rwa [show n+(40 - n)=40 by left]at this
theorem y2{m r:D}(h:∀n,m≠.int n):df (.tup [m,r])=false:=by
 have:bQ (.tup [m,r])=false:=by
  unfold bQ;cases r<;>first|rfl|skip
  cases m<;>first|rfl|exact absurd rfl (h _)
 unfold df;rw[this];rfl
theorem yY{m r:D}(h:∀f ds,r≠.lst f ds):df (.tup [m,r])=false:=by
 have:bQ (.tup [m,r])=false:=by
  unfold bQ;cases r<;>first|rfl|exact absurd rfl (h _ _)
 unfold df;rw[this];rfl
variable {ds:ab}
theorem yZ(hl:ds.length≠2):df (.tup ds)=false:=by
 have:bQ (.tup ds)=false:=by
  unfold bQ
  match ds,hl with
  |[],_=>rfl
  |[_],_=>rfl
  |[_,_],h=>exact absurd rfl h
  |_::y::_::_,_=>cases y<;>rfl
 unfold df;rw[this];rfl
theorem Hi(rows:ab):lq none (rows.map λd=>(br d).2)=eE ((rows.map br).map (·.2)):=by rw[List.map_map];rfl
theorem pw{s:Nat}(q1:1<=qs.length)(q2:qs.length<=12)(f:Fl)(rows:ab):jB qs s (.tup [.int qs.length,.lst f rows])=((rows.all (kO qs.length s)&&lq none (rows.map λd=>(br d).2))&&(decide ((eF (rows.map br)).sum=1)&&decide (oI qs.length (rows.map br)=qs))):=by
 have e1:df (.tup [.int qs.length,.lst f rows])=((decide (1<=(qs.length:Int))&&(decide ((qs.length:Int)<=12)&&(rows.all (fI qs.length)&&(eE ((rows.map br).map (·.2))&&decide ((eF (rows.map br)).sum=1)))))&&rows.all (kT qs.length)):=rfl;have e2:jB qs s (.tup [.int qs.length,.lst f rows])=(df (.tup [.int qs.length,.lst f rows])&&(decide ((qs.length:Int)=(qs.length:Int))&&(rows.all (ji s)&&decide (oI qs.length (rows.map br)=qs)))):=rfl;rw[e2,e1,Hi,HQ,HR,decide_eq_true (by left:1<=(qs.length:Int)),decide_eq_true (by left:(qs.length:Int)<=12),decide_eq_true rfl];cases rows.all (fI qs.length)<;>cases rows.all (kT qs.length)<;>cases rows.all (ji s)<;>cases eE ((rows.map br).map (·.2))<;>cases decide ((eF (rows.map br)).sum=1)<;>cases decide (oI qs.length (rows.map br)=qs)<;>rfl
def HZ(m:aw):Prop:=∀qs B (s:Nat) d,lM 12 qs B->qs.sum=((s:Int):Rat)->bj 8 d=true->aA aK d=d->m [d,.lst .fz (bu qs)]=ok (.bl (jB qs s d))
variable {ρ ρ':bo}
theorem PK(Φ:aY){d:D}(h:aV Φ Cr ρ=ok (.rt (.bl false),ρ)):aV Φ vU ρ=ok (.rt (.bl false),ρ):=p7 Φ _ _ _ _ _ h
theorem Nb(Φ:aY)(Q:LI Φ):HZ (mk Φ 2 7 vU):=by
 intro qs B s d I es hd hz;have n1:=I.n1;have n2:=I.n2;have ty:∀ds,bJ .tuple (.tup ds)=true:=λ_=>rfl;have tl:∀f ds,bJ .list (.lst f ds)=true:=λ_ _=>rfl;have al:=jL hz;rw[mk_eq (show[d,D.lst .fz (bu qs)].length=2 from rfl)];show jk (aV Φ vU [some d,some (.lst .fz (bu qs)),none,none,none,none,none])=_;have bad:aV Φ Cr [some d,some (.lst .fz (bu qs)),none,none,none,none,none]=ok (.rt (.bl false),[some d,some (.lst .fz (bu qs)),none,none,none,none,none])->jB qs s d=false->jk (aV Φ vU [some d,some (.lst .fz (bu qs)),none,none,none,none,none])=ok (.bl (jB qs s d)):=λh1 h2=>by
  rw[h2,PK Φ (d:=d) h1];rfl
 cases d with
 |tup ds =>
  by_cases hl:ds.length=2
  ·obtain⟨m,r,rfl⟩:=j4 hl;obtain⟨k,hk,_,hd2⟩:=cg hd;obtain rfl:k=7:=by left
   have B2:=eZ (D.tup.inj hz);have zm:=B2 m (by simp);have zr:=B2 r (by simp);have am:=jL zm;have ar:=jL zr;have om:=Lr (by decide) (hd2 m (by simp));have ce:dH .ne m (.int qs.length)=ok (.bl (!kj m (.int qs.length))):=by
    show(if eA 40 m&&true then _ else _)=_;rw[om];rfl
   by_cases hi:∃n,m=.int n
   ·obtain⟨n,rfl⟩:=hi;by_cases hn:n=(qs.length:Int)
    ·subst hn;by_cases hL:∃f rows,r=.lst f rows
     ·obtain⟨f,rows,rfl⟩:=hL;obtain⟨k,B9,hlen,F3,Kk⟩:=gF (hd2 (.lst f rows) (by simp));obtain rfl:k=6:=by left
      obtain⟨rfl,HB⟩:=qV zr Kk;have Te:=eZ HB;rw[pw n1 n2];obtain⟨ρ',el,Mf⟩:=tw Φ Q (qs:=qs) (s:=s) (some (.tup [.int qs.length,.lst .fz rows])) none rows none 0 1 none (λd kb=>⟨F3 d kb,Te d kb⟩) (by constructor<;>decide) (by left);rw[Rat.zero_add]at Mf;have su:=j5 (b:=2520) (qs:=qs) (λq hq=>Nat.dvd_trans (I.qd q hq) (pK B I.b1 I.b2)) es;rw[show((2520:Nat):Int)=2520 from by left]at su;have d2:bM .fdiv (.int (s*2520)) (.int 2520)=ok (.int s):=by
       rw[gY (d_ (by left) (iJ (by left))),Int.mul_fdiv_cancel _ (by left)]
      have e1:=Gv Φ I (some (.tup [.int qs.length,.lst .fz rows])) (some (qD 0)) none none none none;have XG:n9 .jz [.lst .ow (ae (qs.map (cf 2520)))]=ok (.int (s*2520)):=by rw[HH,su]
      have q0:D.tup [.int 0,.int 1]=qD 0:=rfl;have q1:D.tup [.int 1,.int 1]=qD 1:=rfl;have g1:aV Φ Cr [some (.tup [.int qs.length,.lst .fz rows]),some (.lst .fz (bu qs)),none,none,none,none,none]=ok (.nx,[some (.tup [.int qs.length,.lst .fz rows]),some (.lst .fz (bu qs)),none,none,none,none,none]):=by
       have t2:bJ .bool (.int qs.length)=false:=rfl;simp[Cr,ar,ty,t2,tl]
      have g2:aV Φ Uw [some (.tup [.int qs.length,.lst .fz rows]),some (.lst .fz (bu qs)),none,none,none,none,none]=ok (.nx,[some (.tup [.int qs.length,.lst .fz rows]),some (.lst .fz (bu qs)),some (qD 0),some (.int s),none,none,none]):=by
       generalize ae (qs.map (cf 2520))=z at *;simp[Uw,q0,e1,XG,d2]
      have hit:eI Φ (.seq (.ix (.v 0) (.int 1))) [some (.tup [.int qs.length,.lst .fz rows]),some (.lst .fz (bu qs)),some (qD 0),some (.int s),some .bF,none,none]=ok (rows,[some (.tup [.int qs.length,.lst .fz rows]),some (.lst .fz (bu qs)),some (qD 0),some (.int s),some .bF,none,none]):=by
       have e1:aW Φ (.ix (.v 0) (.int 1)) [some (.tup [.int qs.length,.lst .fz rows]),some (.lst .fz (bu qs)),some (qD 0),some (.int s),some .bF,none,none]=ok (.lst .fz rows):=by
        rw[rg,PV];show Oi (ok (aA aP (.tup [.int qs.length,.lst .fz rows]))) (ok (.int 1))=_;rw[al];show ok (aA aP (.lst .fz rows))=_;rw[ar]
       have na:(bD Fl.fz||aN bD rows)=false:=qA zr;rw[BQ e1,HB,na];rfl
      have hf:=fZ (Φ:=Φ) (t:=.nm 5) (b:=Am) hit el;rw[vU,lg Φ _ _ _ _ g1,lg Φ _ _ _ _ g2];cases hc:(rows.all (kO qs.length s)&&lq none (rows.map λd=>(br d).2))with
      |false =>
       rw[hc]at hf;have hf:gx Φ (.fr (.nm 5) (.seq (.ix (.v 0) (.int 1))) Am) _=ok (.rt (.bl false),ρ'):=hf;have g3:aV Φ PJ [some (.tup [.int qs.length,.lst .fz rows]),some (.lst .fz (bu qs)),some (qD 0),some (.int s),none,none,none]=ok (.rt (.bl false),ρ'):=by
        simp[PJ,hf]
       rw[p7 Φ _ _ _ _ _ g3];rfl
      |true =>
       rw[Bool.and_eq_true]at hc;obtain⟨zo,uG,rfl⟩:=Mf hc.1 hc.2;have HC:rows=bq (rows.map br):=l7 (n:=qs.length) (by
        have:=hc.1;rw[HQ,HR,Bool.and_eq_true,Bool.and_eq_true]at this;exact this.1.1)
       have OM:(rows.map br).length<=16:=by simpa using hlen
       have sm:∀r∈rows.map br,Sm 50 r.1:=λr hr=>(nX (n:=6) OM (λr OC=>by
        have:rD r∈rows:=by rw[HC];exact aaI OC
        exact F3 _ this)).1 _ (aaI hr)
       rw[hc.1,hc.2]at hf;have hf:gx Φ (.fr (.nm 5) (.seq (.ix (.v 0) (.int 1))) Am) _=ok (.nx,_):=hf;rw[Bool.true_and];generalize rows.map br=rs at *;subst HC;have g3:aV Φ PJ [some (.tup [.int qs.length,.lst .fz (bq rs)]),some (.lst .fz (bu qs)),some (qD 0),some (.int s),none,none,none]=ok (.nx,[some (d5 qs.length rs),some (.lst .fz (bu qs)),some (qD (eF rs).sum),some (.int s),zo,uG,none]):=by
        simp[PJ,hf];rfl
       rw[lg Φ _ _ _ _ g3];have UW:=Q.Ur qs.length rs n2 sm OM;have e2:∀c2 c3 c4 c5,aW Φ Lm [some (d5 qs.length rs),some (.lst .fz (bu qs)),c2,c3,c4,c5,some (.lst .ow (jA qs.length rs .ow 0 qs.length))]=ok (.lst .ow (bu (oI qs.length rs))):=λc2 c3 c4 c5=>by
        unfold Lm;rw[cQ (xs:=[.int qs.length]) (ds:=(List.range qs.length).map λ(k:Nat)=>qD (b7 rs k k)) (by simp) (qM Φ (by left) (by left)) (bX λk hk=>⟨[some (.int k),some (.lst .fz (jA qs.length rs .fz 0 qs.length))],by simp[bK,nc],by simp,?_⟩) (by simp;exact b6 (by left))]
        ·have:((List.range qs.length).map λ(k:Nat)=>qD (b7 rs k k))=bu (oI qs.length rs):=by unfold bu oI;rw[List.map_map];rfl
         rw[this];simp
        ·rw[Int.toNat_natCast,List.mem_range]at hk;have a1:=Nx (rs:=rs) (f:=.fz) hk;have a2:=Qn (qs:=(List.range' 0 qs.length).map λ(h:Nat)=>b7 rs k h) (h:=(k:Int)) (by left) (by simp;left);have a3:HN ((List.range' 0 qs.length).map λ(h:Nat)=>b7 rs k h) (k:Int)=b7 rs k k:=by
          unfold HN;rw[Int.toNat_natCast,List.getD_eq_getElem?_getD,List.getElem?_map,List.getElem?_range' hk];simp
         rw[a3]at a2;simp[nc,a1,a2]
       have m1:=t7 aK rfl qs.length rs;have m2:=t7 aP rfl qs.length rs;have ce:=λf g=>CA f g (oI qs.length rs) qs;have co:=UK (eF rs).sum 1;have f1:gB .ow=.ow:=rfl;have f2:=Cg bD qs.length rs .ow 0 qs.length rfl;generalize decide ((eF rs).sum=1)=b1 at *;generalize decide (oI qs.length rs=qs)=b2 at *;cases b1<;>simp[WH,m1,m2,UW,nc,f1,f2,q1,co,e2,ce]
     ·have Ua:bJ .list r=false:=by
       cases r<;>first|rfl|exact absurd ⟨_,_,rfl⟩ hL
      refine bad ?_ (iM (yY λf ds e=>hL ⟨f,ds,e⟩));have t2:bJ .bool (.int qs.length)=false:=rfl;simp[Cr,ar,ty,t2,Ua]
    ·have:jB qs s (.tup [.int n,r])=false:=by
      unfold jB;cases r<;>first | (rw[Bool.and_false];done)|skip
      show(_&&(decide (n=(qs.length:Int))&&_))=false;rw[decide_eq_false hn,Bool.false_and,Bool.and_false]
     refine bad ?_ this;simp[Cr,ar,ty,hn]
   ·have hg:=iM (qs:=qs) (s:=s) (y2 (m:=m) (r:=r) λn e=>hi ⟨n,e⟩);refine bad ?_ hg;cases he:kj m (.int qs.length)with
    |false =>
     rw[he]at ce;simp[Cr,am,ar,ty,ce]
    |true =>
     rw[he]at ce;have tb:bJ .bool m=true:=by
      cases m<;>first|rfl|exact absurd ⟨_,rfl⟩ hi|cases he
     simp[Cr,am,ar,ty,ce,tb]
  ·have jC:¬ (ds.length:Int)=2:=by left
   refine bad ?_ (iM (yZ hl));simp[Cr,ty,jC,aO]
 |_=>exact bad (by simp[Cr,bJ]) (iM rfl)
noncomputable def cD(ts:aa)(h:Int):Int:=ts.getD h.toNat 0
variable {W h w:Int}
theorem GS{ts:aa}(h0:0<=h)(h1:h<ts.length):mx (ae ts) h=ok (.int (cD ts h)):=by
 have hl:h.toNat<ts.length:=by left
 have:=at_of (ds:=ae ts) (d:=.int (cD ts h)) h0 (by
  rw[je,List.getElem?_eq_getElem hl];show some (D.int ts[h.toNat])=_;unfold cD;simp[hl])
 simpa using this
noncomputable def DF(n:Nat):aa:=(List.range n).map λ(k:Nat)=>(k:Int)
theorem Ea{n:Nat}{x:Int}(h0:0<=x)(h1:x<n):x∈DF n:=List.mem_map.mpr ⟨x.toNat,List.mem_range.mpr (by left),by left⟩
theorem z_(n:Nat):(DF n).Pairwise (· < ·):=by
 unfold DF;rw[List.pairwise_map];exact(List.pairwise_lt_range).imp λh=>by left
theorem wb(Φ:aY):∀(a b:ag) (ρ ρ':bo),aV Φ a ρ=ok (.nx,ρ')->aV Φ (a++b) ρ=aV Φ b ρ'
 |[],b,ρ,ρ',h=>by cases h;rfl
 |s::a,b,ρ,ρ',h=>by
  have h:bd (gx Φ s ρ) (λr=>match r with | (.nx,ρ')=>aV Φ a ρ'|r=>ok r)=ok (.nx,ρ'):=h;show bd (gx Φ s ρ) (λr=>match r with | (.nx,ρ')=>aV Φ (a++b) ρ'|r=>ok r)=_;obtain⟨⟨fo,ρ1⟩,e1,h⟩:=aB h;rw[e1,cR];cases fo with
  |nx=>exact wb Φ a b ρ1 ρ' h
  |rt d=>cases h
theorem Iu{n:Nat}{x:Int}(h:x∈DF n):0<=x/\x<(n:Int):=by
 obtain⟨k,hk,rfl⟩:=List.mem_map.mp h;have:=List.mem_range.mp hk;left
theorem tO:∀{p:aa} {k:Nat} {z:Int×Int},z∈ka k p ↔ ∃i:Nat,i<p.length/\z=(((k+i:Nat):Int),p.getD i 0)
 |[],k,z=>by simp[ka]
 |x::p,k,z=>by
  rw[ka,List.mem_cons,tO];constructor
  ·rintro (rfl|⟨i,hi,rfl⟩)
   ·exact⟨0,by simp,by simp⟩
   ·exact⟨i+1,by simp;left,by simp;left⟩
  ·rintro ⟨i,hi,rfl⟩;cases i with
   |zero=>exact .inl (by simp)
   |succ i=>exact .inr ⟨i,by simpa using hi,by simp;left⟩
variable {Φ:aY}
theorem BR(h:Φ 1001=t4)(f:Fl)(p:aa):eK Φ (.bO 1001) [.lst f (ae p)]=ok ((ka 0 p).map BM):=by
 show bd (Φ 1001 [.lst f (ae p)]) oJ=_;rw[h];show ok (av aK (cx 0 (ae p)))=_;rw[tZ,dh aK (λz=>by simp[BM])]
def kJ:List (aa×Int)->au->au
 |[],ks=>ks
 |z::r,ks=>kJ r (bL ks z.1)
def o5:List (aa×Int)->(aa->Int)->aa->Int
 |[],w=>w
 |z::r,w=>o5 r (gi w z.1 z.2)
theorem l6:∀(r:List (aa×Int)) (ks:au),(kJ r ks).length<=ks.length+r.length
 |[],ks=>aah _
 |z::r,ks=>by
  have:=l6 r (bL ks z.1);have:=pv ks z.1;rw[kJ,List.length_cons];left
theorem Aj:∀(r:List (aa×Int)) (ks:au) (w:aa->Int),(∀z∈r,1<=z.2)->Tb (0:Int) (λx=>1<=x) ks w->Tb (0:Int) (λx=>1<=x) (kJ r ks) (o5 r w)
 |[],_,_,_,T=>T
 |z::r,ks,w,h,T=>Aj r _ _ (λy hy=>h y (aaf _ hy)) (T.add (by have:=h z aae;left) (λa ha=>by have:=h z aae;left) z.1)
theorem xk:∀(p:aa) (k:Nat),ka k p=(List.range p.length).map λi:Nat=>(((k+i:Nat):Int),p.getD i 0)
 |[],_=>rfl
 |x::p,k=>by
  rw[ka,xk p (k+1),List.length_cons,List.range_succ_eq_map,List.map_cons,List.map_map];congr 1;refine aam λi _=>?_;show _=(((k+(i+1):Nat):Int),(x::p).getD (i+1) 0)
  rw[List.getD_cons_succ,show k+1+i=k+(i+1) by left]
def zC(W:Int)(r:List (aa×Int)):aC:=(bV (kJ r [])).map λl=>(qW W (o5 r (λ_=>0) l),l)
theorem tU(w:aa->Int){c:aa}{ks:au}(h:c∈ks):nE ks (ks.map w) c=w c:=by
 unfold nE;rw[nF,if_pos h];rfl
theorem lM.size{m:Nat}(I:lM m qs B):∃s:Nat,qs.sum=((s:Int):Rat)/\s<=qs.length:=by
 obtain⟨s,es⟩:=I.su;have h0:∀l:aQ,(∀q∈l,0<=q)->0<=l.sum:=λl=>by
  induction l with
  |nil=>intro _;exact Rat.le_refl
  |cons a l ih=>intro h;rw[List.sum_cons];exact Rat.add_nonneg (h a aae) (ih λx hx=>h x (aaf _ hx))
 have h1:∀l:aQ,(∀q∈l,q<=1)->l.sum<=(l.length:Rat):=λl=>by
  induction l with
  |nil=>intro _;exact Rat.le_refl
  |cons a l ih =>
   intro h;have i:=ih λx hx=>h x (aaf _ hx);have j:=h a aae;rw[List.sum_cons,List.length_cons];have e:((l.length+1:Nat):Rat)=(l.length:Rat)+1:=by exact_mod_cast rfl
   rw[e];grind
 have a:=h0 qs I.q0;have b:=h1 qs I.q1;rw[es]at a b;have a':0<=s:=by have:=abJ (a:=0) (b:=s);exact this.mp (by simpa using a)
 have b':s<=(qs.length:Int):=by
  have:=abJ (a:=s) (b:=(qs.length:Int));exact this.mp (by rw[Rat.intCast_natCast];exact b)
 exact⟨s.toNat,by rw[es,show((s.toNat:Nat):Int)=s by left],by left⟩
theorem Jn(h0:0<W){x y:Int}:qW W x<qW W y ↔ x<y:=by
 have e:∀x y:Int,x<y->qW W x<qW W y:=λx y h=>by
  unfold qW;rw[Rat.divInt_eq_div,Rat.divInt_eq_div,Rat.div_def,Rat.div_def];exact Rat.mul_lt_mul_of_pos_right (Rat.intCast_lt_intCast.mpr h) (Rat.inv_pos.mpr (Ds h0))
 constructor
 ·intro h;by_cases z:x<y
  ·exact z
  ·rcases Int.lt_or_eq_of_le (show y<=x by left)with h'|h'
   ·have:=e _ _ h';grind
   ·rw[h']at h;grind
 ·exact e _ _
noncomputable def b9:Nat->(Nat->Int)->Int
 |0,_=>0
 |n+1,f=>b9 n f+f n
theorem o6(g:Nat->Int):∀n,b9 n (λk=>g k - g (k+1))=g 0 - g n
 |0=>by simp[b9]
 |n+1=>by rw[b9,o6 g n];left
theorem eG{f g:Nat->Int}:∀{n:Nat},(∀k,k<n->f k=g k)->b9 n f=b9 n g
 |0,_=>rfl
 |n+1,h=>by rw[b9,b9,eG λk hk=>h k (by left),h n (by left)]
theorem sx(f g:Nat->Int):∀n,b9 n (λk=>f k - g k)=b9 n f - b9 n g
 |0=>rfl
 |n+1=>by rw[b9,b9,b9,sx f g n];left
theorem mJ(f:Nat->Int):∀n,b9 n (λk=>f (k+1))=b9 n f - f 0+f n
 |0=>by simp only[b9];left
 |n+1=>by rw[b9,b9,mJ f n];left
theorem sy(f:Nat->Int)(a:Nat):∀b,b9 (a+b) f=b9 a f+b9 b (λk=>f (a+k))
 |0=>by simp[b9]
 |b+1=>by rw[<- Nat.add_assoc,b9,b9,sy f a b];left
theorem fG{f:Nat->Int}{c:Int}:∀{n:Nat},(∀k,k<n->f k=c)->b9 n f=n*c
 |0,_=>by simp[b9]
 |n+1,h=>by
  rw[b9,fG λk hk=>h k (by left),h n (by left),show((n+1:Nat):Int)*c=n*c+c by rw[Int.natCast_add,Int.add_mul];simp]
theorem div_is(h0:0<W){x q r:Int}(e:r+W*q=x)(a:0<=r)(b:r<W):x / W=q:=((Int.ediv_emod_unique h0).mpr ⟨e,a,b⟩).1
section
variable {W:Int}(h0:0<W)
include h0
theorem mi{x p:Int}(hp:0<=p)(hW:p<=W):(if x % W<p then(1:Int)else 0)=x / W - (x - p) / W:=by
 have e:=abQ x W;have r0:=aco x (show W≠0 by left);have r1:=acd x h0;generalize x / W=q at *;generalize x % W=r at *;by_cases c:r<p
 ·rw[if_pos c];have:(x - p) / W=q - 1:=div_is h0 (r:=r - p+W) (by rw[<- e,Int.mul_sub];left) (by left) (by left);left
 ·rw[if_neg c];have:(x - p) / W=q:=div_is h0 (r:=r - p) (by rw[<- e];left) (by left) (by left);left
theorem pN{x:Int}(a:0<=x)(b:x<W):x / W=0:=Int.ediv_eq_zero_of_lt a b
theorem div_add(x:Int):(W+x) / W=x / W+1:=by
 rw[Int.add_ediv_of_dvd_left (Int.dvd_refl W),Int.ediv_self (by left)];left
theorem OX(n:Nat)(hn:(n:Int)=W)(c:Int):b9 n (λy=>((y:Int)+c) / W)=c:=by
 have step:∀c:Int,b9 n (λy=>((y:Int)+(c+1)) / W)=b9 n (λy=>((y:Int)+c) / W)+1:=λc=>by
  have:=mJ (λy=>((y:Int)+c) / W) n;have e:b9 n (λy=>((y:Int)+(c+1)) / W)=b9 n (λk=>(((k+1:Nat):Int)+c) / W):=eG λk _=>by congr 1;left
  rw[e,this,hn,div_add h0];have:(((0:Nat):Int)+c) / W=c / W:=by congr 1;left
  rw[this];left
 have z:b9 n (λy=>((y:Int)+0) / W)=0:=by
  rw[fG (c:=0) λk hk=>by rw[Int.add_zero];exact pN h0 (by left) (by left)];simp
 have up:∀k:Nat,b9 n (λy=>((y:Int)+(k:Int)) / W)=k:=λk=>by
  induction k with
  |zero=>exact z
  |succ k ih=>rw[show((k+1:Nat):Int)=(k:Int)+1 by left,step,ih]
 have dn:∀k:Nat,b9 n (λy=>((y:Int) + -(k:Int)) / W) = -(k:Int):=λk=>by
  induction k with
  |zero=>simpa using z
  |succ k ih =>
   have:=step (-((k+1:Nat):Int));rw[show -((k+1:Nat):Int)+1 = -(k:Int) by left,ih]at this;left
 rcases Int.le_total 0 c with h|h
 ·have:=up c.toNat
  rwa [show((c.toNat:Nat):Int)=c by left]at this
 ·have:=dn (-c).toNat
  rwa [show -(((-c).toNat:Nat):Int)=c by left]at this
theorem ua{x:Int}(h:¬ W∣x):x / W=(x - 1) / W:=by
 have e:=abQ x W;have r0:=aco x (show W≠0 by left);have r1:=acd x h0;have r2:x % W≠0:=λz=>h (Int.dvd_of_emod_eq_zero z);exact(div_is h0 (x:=x - 1) (q:=x / W) (r:=x % W - 1) (by generalize x / W=q at *;left) (by left) (by left)).symm
end
noncomputable def qO(W a p t:Int):Int:=if (t - a) % W<p then 1 else 0
theorem FX{a p:Int}(h0:0<W)(hp:0<=p)(hW:p<=W)(n:Nat)(hn:(n:Int)=W):b9 n (λy=>qO W a p y)=p:=by
 have e:b9 n (λy=>qO W a p y)=b9 n (λy=>((y:Int) + -a) / W - ((y:Int)+(-a - p)) / W):=eG λk _=>by
  unfold qO;rw[mi h0 hp hW,show(k:Int) + -a=(k:Int) - a by left,show(k:Int)+(-a - p)=(k:Int) - a - p by left]
 rw[e,sx,OX h0 n hn,OX h0 n hn];left
theorem B_{a p t:Int}(h0:0<W)(hp:0<=p)(hW:p<=W)(h1:¬ W∣t - a)(h2:¬ W∣t - (a+p)):qO W a p t=qO W a p (t - 1):=by
 unfold qO;rw[mi h0 hp hW,mi h0 hp hW,ua h0 h1,show t - a - p=t - (a+p) by left,ua h0 h2,show t - 1 - a=t - a - 1 by left,show t - a - 1 - p=t - (a+p) - 1 by left]
noncomputable def ir(W:Int):aa->List (Int×Int)
 |[]=>[]
 |t::r=>(t,r.headD W)::ir W r
theorem wG{W:Int}(f:Int->Int):∀(T:aa) (t:Int),(t::T).Pairwise (· < ·)->(∀x∈t::T,x<W)->(∀y,t<y->y<W->y∉T->f y=f (y - 1)) ->
  ((ir W (t::T)).map λz=>(z.2 - z.1)*f z.1).sum=b9 (W - t).toNat (λk=>f (t+k))
 |[],t,_,hw,hf=>by
  have:=hw t aae;have c:∀k:Nat,k<(W - t).toNat->f (t+k)=f t:=λk=>by
   induction k with
   |zero=>intro _;simp
   |succ k ih =>
    intro hk;rw[hf (t+((k+1:Nat):Int)) (by left) (by left) (by simp),show t+((k+1:Nat):Int) - 1=t+k by left];exact ih (by left)
  rw[fG c];show(W - t)*f t+0=_;rw[show(((W - t).toNat:Nat):Int)=W - t by left];left
 |u::T,t,hp,hw,hf=>by
  obtain⟨p1,p2⟩:=List.pairwise_cons.mp hp;obtain⟨p3,p4⟩:=List.pairwise_cons.mp p2;have tu:=p1 u aae;have uw:=hw u (by simp);have ih:=wG f T u p2 (λx hx=>hw x (aaf _ hx)) λy h1 h2 h3=>hf y (by left) h2 λz=>by
   rcases List.mem_cons.mp z with z|z
   ·left
   ·exact h3 z
  have c:∀k:Nat,k<(u - t).toNat->f (t+k)=f t:=λk=>by
   induction k with
   |zero=>intro _;simp
   |succ k ih =>
    intro hk;rw[hf (t+((k+1:Nat):Int)) (by left) (by left) (λz=>by
     rcases List.mem_cons.mp z with z|z
     ·left
     ·have:=p3 _ z;left),show t+((k+1:Nat):Int) - 1=t+k by left]
    exact ih (by left)
  have e:(W - t).toNat=(u - t).toNat+(W - u).toNat:=by left
  show(u - t)*f t+((ir W (u::T)).map λz=>(z.2 - z.1)*f z.1).sum=_;rw[ih,e,sy,fG c,show(((u - t).toNat:Nat):Int)=u - t by left];congr 1;exact eG λk _=>by congr 1;left
structure HS(n s:Nat)(p:aa)(u:Int)(r:List (aa×Int)):Prop where
 lot:∀z∈r,zA n z.1
 len:∀z∈r,z.1.length=s
 pos:∀z∈r,1<=z.2
 all:(r.map (·.2)).sum=u
 shr:∀h:Int,0<=h->h<n->(r.map λz=>if h∈z.1 then z.2 else 0).sum=cD p h
noncomputable def pre(p:aa)(h:Nat):Int:=(p.take h).sum
def eH(p:aa):aa:=(List.range p.length).map (pre p)
theorem Hm(p:aa):pre p 0=0:=by simp[pre]
theorem sW{p:aa}{h:Nat}(hh:h<p.length):pre p (h+1)=pre p h+cD p h:=by
 unfold pre cD;rw[List.take_succ,List.sum_append,Int.toNat_natCast,List.getD_eq_getElem?_getD,List.getElem?_eq_getElem hh];simp
theorem wQ(p:aa):pre p p.length=p.sum:=by simp[pre]
theorem Aq{p:aa}(h0:0<=h)(h1:h<(p.length:Int)):cD (eH p) h=pre p h.toNat:=by
 unfold cD eH;rw[List.getD_eq_getElem?_getD,List.getElem?_map,List.getElem?_range (by left)];rfl
def jy(W:Int)(p:aa):aa:=sortI (eB ((eH p).map λx=>x % W))
def dm(W:Int)(p:aa)(t:Int):aa:=(DF p.length).filter λh=>decide ((t - cD (eH p) h) % W<cD p h)
def lE(W:Int)(p:aa):List (aa×Int):=(ir W (jy W p)).map λz=>(dm W p z.1,z.2 - z.1)
theorem xd{p:aa}{t:Int}(h0:0<=h)(h1:h<(p.length:Int)):h∈dm W p t ↔ (t - pre p h.toNat) % W<cD p h:=by
 unfold dm;rw[List.mem_filter,Aq h0 h1];exact⟨λz=>aab z.2,λz=>⟨Ea h0 h1,aar z⟩⟩
theorem line_lot(W:Int)(p:aa)(t:Int):zA p.length (dm W p t):=⟨(z_ p.length).filter _,λh hh=>Iu (List.mem_filter.mp hh).1⟩
theorem nJ(f:Int->Bool):∀n:Nat,(((DF n).filter f).length:Int)=b9 n (λk=>if f k then 1 else 0)
 |0=>rfl
 |n+1=>by
  have e:DF (n+1)=DF n++[(n:Int)]:=by unfold DF;rw[List.range_succ,List.map_append];rfl
  rw[e,List.filter_append,List.length_append,b9,<- nJ f n];by_cases c:f n=true
  ·rw[if_pos c,List.filter_cons_of_pos c];rfl
  ·rw[if_neg c,List.filter_cons_of_neg c];rfl
structure Qu(n s:Nat)(W:Int)(p:aa):Prop where
 len:p.length=n
 W0:0<W
 lo:∀h:Nat,h<n->0<=cD p h
 hi:∀h:Nat,h<n->cD p h<=W
 sum:p.sum=s*W
theorem Qu.BD{n s:Nat}{p:aa}(I:Qu n s W p){t:Int}(t0:0<=t)(t1:t<W):(dm W p t).length=s:=by
 have e:=nJ (λh=>decide ((t - cD (eH p) h) % W<cD p h)) p.length;have e2:b9 p.length (λk=>if decide ((t - cD (eH p) (k:Int)) % W<cD p (k:Int))then(1:Int)else 0)=b9 p.length (λk=>(t - pre p k) / W - (t - pre p (k+1)) / W):=eG λk hk=>by
  have B9:k<n:=by have:=I.len;left
  rw[Aq (by left) (by left),Int.toNat_natCast,sW hk,show t - (pre p k+cD p k)=t - pre p k - cD p k by left,<- mi I.W0 (I.lo k B9) (I.hi k B9)];by_cases c:(t - pre p k) % W<cD p k<;>simp[c]
 rw[e2,o6 (λk=>(t - pre p k) / W),Hm,wQ,I.sum,Int.sub_zero,pN I.W0 t0 t1]at e;have e3:(t - s*W) / W = -(s:Int):=div_is I.W0 (r:=t) (by rw[Int.mul_neg,Int.mul_comm];left) t0 t1;rw[e3]at e;unfold dm;left
theorem nV:∀(ns m:aa),m.Nodup->(ns.foldl (λ(m:aa) (k:Int)=>if m.any (· == k)then m else m++[k]) m).Nodup/\∀x,x∈ns.foldl (λ(m:aa) (k:Int)=>if m.any (· == k)then m else m++[k]) m ↔ x∈m\/x∈ns
 |[],m,h=>⟨h,λx=>by simp⟩
 |k::ns,m,h=>by
  rw[List.foldl_cons];by_cases c:m.any (· == k)=true
  ·rw[if_pos c];obtain⟨i1,i2⟩:=nV ns m h;obtain⟨y,hy,e⟩:=List.any_eq_true.mp c;have e:y=k:=by simpa using e
   subst e;refine⟨i1,λx=>?_⟩;rw[i2,List.mem_cons];exact⟨λz=>z.elim .inl λz=>.inr (.inr z),λz=>z.elim .inl λz=>z.elim (λz=>.inl (z▸hy)) .inr⟩
  ·rw[if_neg c];have nk:k∉m:=λz=>c (List.any_eq_true.mpr ⟨k,z,by simp⟩);obtain⟨i1,i2⟩:=nV ns (m++[k]) (List.nodup_append.mpr ⟨h,by simp,λa ha b hb z=>nk (by rw[List.mem_singleton.mp hb]at z;exact z▸ha)⟩);refine⟨i1,λx=>?_⟩;rw[i2,List.mem_append,List.mem_singleton,List.mem_cons,or_assoc]
theorem Ad(h0:0<W){p:aa}(h1:1<=p.length):∃T,jy W p=0::T/\(0::T).Pairwise (· < ·)/\(∀x∈0::T,x<W)/\∀h:Nat,h<p.length->pre p h % W∈0::T:=by
 have nd:(eB ((eH p).map λx=>x % W)).Nodup:=(nV _ [] aaQ).1;have mem:∀x,x∈eB ((eH p).map λx=>x % W) ↔ x∈(eH p).map λx=>x % W:=λx=>by
  exact((nV ((eH p).map λx=>x % W) [] aaQ).2 x).trans ⟨λz=>z.elim (λz=>nomatch z) id,.inr⟩
 have hp:=sortI_perm (eB ((eH p).map λx=>x % W));have rise:(jy W p).Pairwise (· < ·):=by
  have h2:(jy W p).Nodup:=hp.nodup_iff.mpr nd;exact(List.pairwise_and_iff.mpr ⟨mQ _,h2⟩).imp λ⟨a,b⟩=>by left
 have mm:∀x,x∈jy W p ↔ ∃h:Nat,h<p.length/\x=pre p h % W:=λx=>by
  unfold jy;rw[hp.mem_iff,mem,List.mem_map];unfold eH;constructor
  ·rintro ⟨y,hy,rfl⟩;obtain⟨h,hh,rfl⟩:=List.mem_map.mp hy;exact⟨h,List.mem_range.mp hh,rfl⟩
  ·rintro ⟨h,hh,rfl⟩;exact⟨_,List.mem_map.mpr ⟨h,List.mem_range.mpr hh,rfl⟩,rfl⟩
 have z0:(0:Int)∈jy W p:=(mm 0).mpr ⟨0,by left,by rw[Hm];simp⟩;have bd:∀x∈jy W p,0<=x/\x<W:=λx hx=>by
  obtain⟨h,_,rfl⟩:=(mm x).mp hx;exact⟨aco _ (by left),acd _ h0⟩
 cases e:jy W p with
 |nil=>rw[e]at z0;cases z0
 |cons y T =>
  rw[e]at rise z0 bd mm;have y0:y=0:=by
   rcases List.mem_cons.mp z0 with z|z
   ·exact z.symm
   ·have:=(List.pairwise_cons.mp rise).1 0 z;have:=(bd y aae).1;left
  subst y0;exact⟨T,rfl,rise,λx hx=>(bd x hx).2,λh hh=>(mm _).mpr ⟨h,hh,rfl⟩⟩
theorem Qu.steps{n s:Nat}{p:aa}(I:Qu n s W p)(n1:1<=n):HS n s p W (lE W p):=by
 obtain⟨T,eT,rise,top,V8⟩:=Ad I.W0 (p:=p) (by have:=I.len;left);have RS:∀(T:aa) (t:Int),(t::T).Pairwise (· < ·)->(∀x∈t::T,x<W)->∀z∈ir W (t::T),t<=z.1/\z.1<z.2/\z.2<=W:=λT=>by
  induction T with
  |nil =>
   intro t _ hw z hz;have:=hw t aae;rw[List.mem_singleton.mp hz];exact⟨abh _,this,abh _⟩
  |cons u T ih =>
   intro t hp hw z hz;obtain⟨p1,p2⟩:=List.pairwise_cons.mp hp;have tu:=p1 u aae;have uw:=hw u (by simp);rcases List.mem_cons.mp hz with rfl|hz
   ·exact⟨abh _,tu,by show u<=W;left⟩
   ·obtain⟨a,b,c⟩:=ih u p2 (λx hx=>hw x (aaf _ hx)) z hz;exact⟨by left,b,c⟩
 have hn:((W.toNat:Nat):Int)=W:=by have:=I.W0;left
 have sg:∀f:Int->Int,(∀y,0<y->y<W->y∉T->f y=f (y - 1))->((ir W (jy W p)).map λz=>(z.2 - z.1)*f z.1).sum=b9 W.toNat (λk=>f k):=λf hf=>by
  have:=wG f T 0 rise top hf;rw[eT,this,Int.sub_zero];exact eG λk _=>by congr 1;left
 have M3:∀z∈ir W (jy W p),0<=z.1/\z.1<z.2/\z.2<=W:=λz hz=>by rw[eT]at hz;exact RS T 0 rise top z hz
 have J2:∀z∈lE W p,∃y∈ir W (jy W p),z=(dm W p y.1,y.2 - y.1):=λz hz=>by
  obtain⟨y,hy,e⟩:=List.mem_map.mp hz;exact⟨y,hy,e.symm⟩
 refine⟨λz hz=>?_,λz hz=>?_,λz hz=>?_,?_,λh h0 h1=>?_⟩
 ·obtain⟨y,hy,rfl⟩:=J2 z hz;rw[<- I.len];exact line_lot W p y.1
 ·obtain⟨y,hy,rfl⟩:=J2 z hz;obtain⟨a,b,c⟩:=M3 y hy;exact I.BD a (by left)
 ·obtain⟨y,hy,rfl⟩:=J2 z hz;obtain⟨a,b,c⟩:=M3 y hy;show 1<=y.2 - y.1;left
 ·have:=sg (λ_=>1) λ_ _ _ _=>rfl;rw[fG (c:=1) λ_ _=>rfl,hn]at this;unfold lE;rw[List.map_map];have e:((ir W (jy W p)).map ((λx:aa×Int=>x.2)∘λz=>(dm W p z.1,z.2 - z.1)))=(ir W (jy W p)).map λz=>(z.2 - z.1)*1:=aam λz _=>by show z.2 - z.1=_;left
  rw[e,this];left
 ·have hl:=I.len;obtain⟨k,rfl⟩:∃k:Nat,h=(k:Int):=⟨h.toNat,by left⟩
  have hk:k<p.length:=by left
  have:=sg (qO W (pre p k) (cD p k)) λy y0 y1 yT=>B_ I.W0 (I.lo k (by left)) (I.hi k (by left)) (λz=>?_) (λz=>?_)
  ·rw[FX I.W0 (I.lo k (by left)) (I.hi k (by left)) W.toNat hn]at this;rw[<- this];unfold lE;rw[List.map_map];congr 1;refine aam λz _=>?_;show(if (k:Int)∈dm W p z.1 then z.2 - z.1 else 0)=(z.2 - z.1)*qO W (pre p k) (cD p k) z.1;unfold qO;by_cases c:(z.1 - pre p k) % W<cD p k
   ·rw[if_pos ((xd (by left) (by left)).mpr (by rw[Int.toNat_natCast];exact c)),if_pos c];left
   ·rw[if_neg λq=>c (by have:=(xd (by left) (by left)).mp q;rwa [Int.toNat_natCast]at this),if_neg c];left
  ·have e:pre p k % W=y:=by
    have h:=Int.emod_emod_of_dvd (y - pre p k) (Int.dvd_refl W);have h2:(pre p k - y) % W=0:=Int.emod_eq_zero_of_dvd (by have:=Int.dvd_neg.mpr z;rwa [Int.neg_sub]at this);have h3:=Int.emod_eq_emod_iff_emod_sub_eq_zero.mpr h2;rw[h3,Int.emod_eq_of_lt (by left) y1]
   have:=V8 k hk;rw[e]at this;rcases List.mem_cons.mp this with q|q
   ·left
   ·exact yT q
  ·rw[<- sW hk]at z;have e:pre p (k+1) % W=y:=by
    have h2:(pre p (k+1) - y) % W=0:=Int.emod_eq_zero_of_dvd (by have:=Int.dvd_neg.mpr z;rwa [Int.neg_sub]at this);have h3:=Int.emod_eq_emod_iff_emod_sub_eq_zero.mpr h2;rw[h3,Int.emod_eq_of_lt (by left) y1]
   by_cases c:k+1<p.length
   ·have:=V8 (k+1) c;rw[e]at this;rcases List.mem_cons.mp this with q|q
    ·left
    ·exact yT q
   ·have:k+1=p.length:=by left
    rw[this,wQ,I.sum,Int.mul_emod_left]at e;left
theorem xI{x:Int}(h:0<W):x.fmod W=x % W:=Int.fmod_eq_emod_of_nonneg _ (by left)
noncomputable def CK:CE:=.comp 2 (.tp [0,1]) [3,2,0] (.bO 1001) [(.v 1)] [(.cmp .lt (.bin .mod (.bin .sub (.v 4) (.v 1)) (.v 2)) (.ix (.v 3) (.v 0)))] (.v 0)
def x5:ag:=[.ret (.bf .tuple1 [CK])]
theorem i6(p:aa):(eH p).length=p.length:=by simp[eH]
theorem B1(W:Int)(p:aa)(t:Int):((ka 0 (eH p)).filter λz=>decide ((t - z.2) % W<cD p z.1)).map (λz=>D.int z.1)=ae (dm W p t):=by
 unfold dm ae DF;rw[xk,i6,List.filter_map,List.filter_map,List.map_map,List.map_map];have e:((λz:Int×Int=>decide ((t - z.2) % W<cD p z.1))∘λi:Nat=>(((0+i:Nat):Int),(eH p).getD i 0))=((λh:Int=>decide ((t - cD (eH p) h) % W<cD p h))∘λk:Nat=>(k:Int)):=by
  funext i;show decide ((t - (eH p).getD i 0) % W<cD p ((0+i:Nat):Int))=decide ((t - cD (eH p) (i:Int)) % W<cD p (i:Int));rw[Nat.zero_add];rfl
 rw[e];refine aam λi _=>?_;show D.int ((0+i:Nat):Int)=D.int (i:Int);rw[Nat.zero_add]
def Dv(m:aw):Prop:=∀f g (p:aa) (t W:Int),p.length<=12->0<W->m [.int t,.lst f (ae (eH p)),.lst g (ae p),.int W]=ok (.tup (ae (dm W p t)))
theorem Na(Φ:aY)(PC:Φ 1001=t4):Dv (mk Φ 4 4 x5):=by
 intro f g p t W hl h0;have e1:aW Φ CK [some (.int t),some (.lst f (ae (eH p))),some (.lst g (ae p)),some (.int W)]=ok (.lst .ow (ae (dm W p t))):=by
  unfold CK;rw[cQ (xs:=[.lst (aP f) (ae (eH p))]) (items:=(ka 0 (eH p)).map BM) (ds:=((ka 0 (eH p)).filter λz=>decide ((t - z.2) % W<cD p z.1)).map λz=>D.int z.1) (by simp) (BR PC _ _) (e_ λz hz=>⟨[some (.int z.1),some (.int z.2),some (.int W),some (.lst (aK g) (ae p)),some (.int t)],by simp[bK,BM],?_,λ_=>by simp⟩) (by
   have:=List.length_filter_le (λz:Int×Int=>decide ((t - z.2) % W<cD p z.1)) (ka 0 (eH p));rw[tP,i6]at this;rw[List.length_map];exact b6 (by left))]
  ·rw[B1,bh]
  ·obtain⟨i,hi,rfl⟩:=tO.mp hz;rw[i6]at hi;have m1:bM .mod (.int (t - (eH p).getD i 0)) (.int W)=ok (.int ((t - (eH p).getD i 0) % W)):=by rw[iW (by left),xI h0]
   have d1:=GS (ts:=p) (h:=((0+i:Nat):Int)) (by left) (by left);generalize ((0+i:Nat):Int)=j at *;generalize (eH p).getD i 0=y at *;simp[m1,d1]
 simp[mk_eq,x5,e1]
noncomputable def Gq:CE:=.comp 1 (.nm 0) [2] .kF [(.bf .len [(.v 2)])] [] (.bf .jz [(.bO 1021 [(.v 1),(.v 0)])])
noncomputable def Li:CE:=.comp 1 (.nm 0) [1] .seq [(.v 3)] [] (.bin .mod (.v 0) (.v 1))
noncomputable def Eg:ag:=[.asg (.nm 8) (.call 29 [(.v 6),(.v 3),(.v 2),(.v 1)]),.mut 1033 5 [(.bin .sub (.bin .add (.bO 1031 [(.v 5),(.v 8),(.int 0)]) (.v 7)) (.v 6)),(.v 8)]]
def Lf:CS:=.fr (.tp [6,7]) (.EW 1000 [(.v 4),(.bin .add (.bO 1020 [(.v 4),(.int 1)]) (.lst [(.v 1)]))]) Eg
def Sy:ag:=[.ex (.call 26 [(.v 0)]),.asg (.nm 1) (.call 9 [(.v 0)]),.asg (.nm 2) (.call 10 [(.v 0),(.v 1)]),.asg (.nm 3) Gq,.asg (.nm 4) (.bO 1071 [Li]),.asg (.nm 5) (.bO 1030 [])]
def VR:ag:=[Lf,.ret (.call 18 [(.bf .len [(.v 0)]),(.v 5),(.v 1)])]
def Dk:ag:=Sy++VR
noncomputable def lA(z:Int×Int):D:=.tup [.int z.1,.int z.2]
theorem xb(Φ:aY)(P:Ic Φ)(Q7:Dv (Φ 29)){W:Int}(h0:0<W){p:aa}(hl:p.length<=12)(c0 c4:aH):∀(zs:List (Int×Int)) (ks:au) (w:aa->Int) (c6 c7 c8:aH),ks.length+zs.length<900->(∀k,k∉ks->w k=0) ->
  ∃pU kG Mj,dG (λd ρ=>cu (.tp [6,7]) d ρ) (λρ=>aV Φ Eg ρ) (zs.map lA) [c0,some (.int W),some (.lst .ow (ae p)),some (.lst .ow (ae (eH p))),c4,some (qe .ow ks w),c6,c7,c8]=ok (.nx,[c0,some (.int W),some (.lst .ow (ae p)),some (.lst .ow (ae (eH p))),c4,some (qe .ow (kJ (zs.map λz=>(dm W p z.1,z.2 - z.1)) ks) (o5 (zs.map λz=>(dm W p z.1,z.2 - z.1)) w)),pU,kG,Mj])
 |[],ks,w,c6,c7,c8,_,_=>⟨c6,c7,c8,rfl⟩
 |z::zs,ks,w,c6,c7,c8,hk,h=>by
  rw[List.length_cons]at hk;have kl:=pv ks (dm W p z.1);have Zo:=Q7 .fz .fz p z.1 W hl h0;obtain⟨d6,d7,d8,ih⟩:=xb Φ P Q7 h0 hl c0 c4 zs (bL ks (dm W p z.1)) (gi w (dm W p z.1) (z.2 - z.1)) (some (.int z.1)) (some (.int z.2)) (some (.tup (ae (dm W p z.1)))) (by left) (λk hk=>by
   have hz:¬ (k∈ks\/k=dm W p z.1):=λq=>hk (jc.mpr q);unfold gi;rw[if_neg λq=>hz (.inr q)];exact h k λq=>hz (.inl q))
  refine⟨d6,d7,d8,?_⟩;rw[List.map_cons,List.map_cons,kJ,o5];generalize dm W p z.1=l at *;have g1:∀f,Φ 1031 [qe f ks w,.tup (ae l),.int 0]=ok (.int (w l)):=λf=>Rw P (e:=D.int) Hh f ks w 0 l (h l);have ea:w l+z.2 - z.1=w l+(z.2 - z.1):=by left
  have x1:=Il (Φ:=Φ) (p:=1033) (i:=5) (es:=[(.bin .sub (.bin .add (.bO 1031 [(.v 5),(.v 8),(.int 0)]) (.v 7)) (.v 6)),(.v 8)]) (ρ:=[c0,some (.int W),some (.lst .ow (ae p)),some (.lst .ow (ae (eH p))),c4,some (qe .ow ks w),some (.int z.1),some (.int z.2),some (.tup (ae l))]) (xs:=[.int (w l+(z.2 - z.1)),.tup (ae l)]) (by simp[w_,g1,ea]) (by simp) rfl (Ae P (by left) w l (z.2 - z.1));simp only[List.set]at x1;refine dF (ρ1:=[c0,some (.int W),some (.lst .ow (ae p)),some (.lst .ow (ae (eH p))),c4,some (qe .ow ks w),some (.int z.1),some (.int z.2),c8]) (by simp[lA]) (ρ2:=[c0,some (.int W),some (.lst .ow (ae p)),some (.lst .ow (ae (eH p))),c4,some (qe .ow (bL ks l) (gi w l (z.2 - z.1))),some (.int z.1),some (.int z.2),some (.tup (ae l))]) ?_ ih;simp[Eg,Zo,x1]
def Qs(m:aw):Prop:=∀f qs B (s:Nat),lM 12 qs B->qs.sum=((s:Int):Rat)->m [.lst f (bu qs)]=ok (.tup [.int qs.length,.lst .ow (bq (zC (cm qs) (lE (cm qs) (ph qs))))])
theorem A1{m:Nat}(I:lM m qs B)(hm:m<=12){s:Nat}(es:qs.sum=((s:Int):Rat)):Qu qs.length s (cm qs) (ph qs):=by
 have P0:=I.p0 hm;obtain⟨a,b,c⟩:=I.bot hm;have mem:∀h:Nat,h<qs.length->cD (ph qs) h∈ph qs:=λh hh=>by
  have hl:=P0.len;have Wo:h<(ph qs).length:=by left
  unfold cD;rw[Int.toNat_natCast,List.getD_eq_getElem?_getD,List.getElem?_eq_getElem Wo];exact aaP Wo
 exact⟨P0.len,by left,λh hh=>P0.lo _ (mem h hh),λh hh=>P0.hi _ (mem h hh),j5 c es⟩
theorem sM(W:Int):∀(T:aa) (t:Int),List.zipWith (λx y=>D.tup [x,y]) (ae (t::T)) (ae (T++[W]))=(ir W (t::T)).map lA
 |[],t=>rfl
 |u::T,t=>by
  show D.tup [.int t,.int u]::List.zipWith (λx y=>D.tup [x,y]) (ae (u::T)) (ae (T++[W]))=_;rw[sM W T u];rfl
theorem j7(W:Int):∀T:aa,(ir W T).length=T.length
 |[]=>rfl
 |t::T=>by rw[ir,List.length_cons,j7 W T];rfl
theorem wk(W:Int)(p:aa):(jy W p).length<=p.length:=by
 have h1:∀(ns m:aa),(ns.foldl (λ(m:aa) (k:Int)=>if m.any (· == k)then m else m++[k]) m).length<=m.length+ns.length:=λns=>by
  induction ns with
  |nil=>intro m;simp
  |cons k ns ih =>
   intro m;rw[List.foldl_cons];by_cases c:m.any (· == k)=true
   ·rw[if_pos c];have:=ih m;rw[List.length_cons];left
   ·rw[if_neg c];have:=ih (m++[k]);rw[List.length_append,List.length_singleton]at this;rw[List.length_cons];left
 unfold jy;rw[(sortI_perm _).length_eq];have:=h1 ((eH p).map λx=>x % W) [];rw[List.length_map,i6,List.length_nil]at this;exact aao this (by left)
theorem Ed{r:List (aa×Int)}(K:Tb (0:Int) (λx=>1<=x) (kJ r []) (o5 r λ_=>0)):vH (kJ r []) ((kJ r []).map (o5 r λ_=>0)) W=zC W r:=by
 unfold vH zC;have hp:(bV (kJ r [])).Perm (kJ r []):=aaW _ _;rw[List.filter_eq_self.mpr λl hl=>decide_eq_true (by rw[tU _ (hp.mem_iff.mp hl)];have:=K.tM l (hp.mem_iff.mp hl);left)];refine aam λl hl=>?_;rw[tU _ (hp.mem_iff.mp hl)];rfl
theorem RU(Φ:aY)(P:Ic Φ)(h9:dD (Φ 9))(DR:gc (Φ 10))(Y2:H_ (Φ 18))(Ul:Dy (Φ 26))(Q7:Dv (Φ 29))(Co:Φ 1000=zU)(Cn:Φ 1020=cutD true)(PB:Φ 1021=cutD false)(Cm:Φ 1071=LM):Qs (mk Φ 1 9 Dk):=by
 intro f qs B s I es;have S8:=I.RQ (aah _);obtain⟨a1,a2,a3⟩:=I.bot (aah _);have T:=A1 I (aah _) es;have n1:=I.n1;have n2:=I.n2;have St:=T.steps n1;have P6:=λf=>Ul f qs B I;have e9:=λf=>h9 f qs 4 S8;have U1:∀f,Φ 10 [.lst f (bu qs),.int (cm qs)]=ok (.lst .ow (ae (ph qs))):=λf=>DR f qs 4 (cm qs) S8 S8.FI;have hlen:=T.len;generalize ph qs=p at *;generalize cm qs=b at *;have h0:=T.W0;have e1:∀c3 c4 c5 c6 c7 c8,aW Φ Gq [some (.lst f (bu qs)),some (.int b),some (.lst .ow (ae p)),c3,c4,c5,c6,c7,c8]=ok (.lst .ow (ae (eH p))):=λc3 c4 c5 c6 c7 c8=>by
  unfold Gq;rw[cQ (xs:=[.int p.length]) (ds:=(List.range p.length).map λk=>D.int (pre p k)) (by simp) (qM Φ (by left) (by left)) ?_ (by simp;exact b6 (by left))]
  ·have:((List.range p.length).map λk=>D.int (pre p k))=ae (eH p):=by unfold ae eH;rw[List.map_map];rfl
   rw[this,bh]
  ·rw[Int.toNat_natCast];refine bX λk hk=>⟨[some (.int k),some (.lst .fz (ae p))],by simp[bK],by simp,?_⟩
   have B9:=List.mem_range.mp hk;have c1:Φ 1021 [.lst .fz (ae p),.int k]=ok (.lst .ow (ae (p.take k))):=by
    rw[PB];show(if (0:Int)<=k then ok (D.lst .ow (av aP ((ae p).take (k:Int).toNat)))else none)=_;rw[if_pos (by left),Int.toNat_natCast];have e:(ae p).take k=ae (p.take k):=by unfold ae;rw[List.map_take]
    rw[e,bh]
   simp[c1,pre]
 have e2:∀c4 c5 c6 c7 c8,aW Φ Li [some (.lst f (bu qs)),some (.int b),some (.lst .ow (ae p)),some (.lst .ow (ae (eH p))),c4,c5,c6,c7,c8]=ok (.lst .ow (ae ((eH p).map λx=>x % (b:Int)))):=λc4 c5 c6 c7 c8=>by
  unfold Li;rw[cQ (xs:=[.lst .al (ae (eH p))]) (items:=(eH p).map D.int) (ds:=(eH p).map λx=>D.int (x % (b:Int))) (by simp) (by rw[dX,bh];rfl) (bX λx hx=>⟨[some (.int x),some (.int b)],by simp[bK],by simp,by
   have m1:bM .mod (.int x) (.int b)=ok (.int (x % (b:Int))):=by rw[iW (by left),xI h0]
   simp[m1]⟩) (by rw[List.length_map,i6];exact b6 (by left))]
  have:((eH p).map λx=>D.int (x % (b:Int)))=ae ((eH p).map λx=>x % (b:Int)):=by unfold ae;rw[List.map_map];rfl
  rw[this,bh]
 have e3:Φ 1071 [.lst .ow (ae ((eH p).map λx=>x % (b:Int)))]=ok (.lst .ow (ae (jy b p))):=by
  rw[Cm];show(match intsOf (((eH p).map λx=>x % (b:Int)).map D.int)with|some ns=>if ns.length<64 then ok (D.lst .ow ((sortI (eB ns)).map D.int))else none|none=>none)=_;rw[bA];exact aaO (by rw[List.length_map,i6];left)
 obtain⟨T',eT,_⟩:=Ad h0 (p:=p) (by left);have tl:=wk b p;obtain⟨d6,d7,d8,el⟩:=xb Φ P Q7 h0 (p:=p) (by left) (some (.lst f (bu qs))) (some (.lst .fz (ae (jy b p)))) (ir b (jy b p)) [] (λ_=>0) none none none (by rw[j7,List.length_nil];left) (λ_ _=>rfl);have c1:Φ 1020 [.lst .al (ae (jy b p)),.int 1]=ok (.lst .ow (ae T')):=by
  rw[Cn,eT];show(if (0:Int)<=1 then ok (D.lst .ow (av aP (nZ true (1:Int).toNat (ae (0::T')))))else none)=_;rw[if_pos (by decide)];show ok (D.lst .ow (av aP (ae T')))=_;rw[bh]
 have ba:bM .add (.lst .ow (ae T')) (.lst .ow [.int b])=ok (.lst .ow (ae (T'++[(b:Int)]))):=by
  have Vy:T'.length<=12:=by rw[eT]at tl;simp at tl;left
  show(if iO .ow=false/\iO .ow=false/\(ae T').length+[D.int b].length<=fY then ok (D.lst .ow (av aP (ae T'++[.int b])))else none)=_;rw[if_pos ⟨rfl,rfl,by simp;show _<=1000000;left⟩,show ae T'++[D.int b]=ae (T'++[(b:Int)]) by unfold ae;rw[List.map_append];rfl,bh]
 have ez:Φ 1000 [.lst .al (ae (jy b p)),.lst .ow (ae (T'++[(b:Int)]))]=ok (.lst .ow ((ir b (jy b p)).map lA)):=by
  rw[Co,eT,<- sM b T' 0];rfl
 have hit:eI Φ (.EW 1000 [(.v 4),(.bin .add (.bO 1020 [(.v 4),(.int 1)]) (.lst [(.v 1)]))]) [some (.lst f (bu qs)),some (.int b),some (.lst .ow (ae p)),some (.lst .ow (ae (eH p))),some (.lst .ow (ae (jy b p))),some (qe .ow [] λ_=>0),none,none,none]=ok ((ir b (jy b p)).map lA,[some (.lst f (bu qs)),some (.int b),some (.lst .ow (ae p)),some (.lst .ow (ae (eH p))),some (.lst .fz (ae (jy b p))),some (qe .ow [] λ_=>0),none,none,none]):=by
  show bd (cP Φ [(.v 4),(.bin .add (.bO 1020 [(.v 4),(.int 1)]) (.lst [(.v 1)]))] _) _=_;have:∀ρ:bo,aW Φ (.v 4) ρ=ok (.lst .al (ae (jy b p)))->aW Φ (.v 1) ρ=ok (.int b)->cP Φ [(.v 4),(.bin .add (.bO 1020 [(.v 4),(.int 1)]) (.lst [(.v 1)]))] ρ=ok [.lst .al (ae (jy b p)),.lst .ow (ae (T'++[(b:Int)]))]:=λρ q1 q2=>by simp[q1,q2,c1,ba]
  rw[this _ (by simp) (by simp),cR,ez,cR];show ok (av aK ((ir b (jy b p)).map lA),if aN bD [D.lst .al (ae (jy b p)),.lst .ow (ae (T'++[(b:Int)]))]then jj _ _ else _)=_;rw[dh aK (e:=lA) (λz=>by simp[lA]),vA];simp[gJ,dw]
 have hf:=fZ (Φ:=Φ) (t:=.tp [6,7]) (b:=Eg) hit el;have K:=Aj (lE b p) [] (λ_=>0) St.pos ⟨aaQ,λ_ _=>rfl,λ_ h=>nomatch h⟩;have hl:=l6 (lE b p) [];have ll:(lE b p).length<=12:=by unfold lE;rw[List.length_map,j7];left
 rw[List.length_nil]at hl;have n3:Φ 1030 []=ok (qe .ow [] λ_=>0):=by rw[P.Pu];rfl
 have o2:aU bD (qe .ow [] λ_=>0)=false:=F5 _ _ _ _;have U0:=λf=>Y2 f qs.length (kJ (lE b p) []) ((kJ (lE b p) []).map (o5 (lE b p) λ_=>0)) b (by simp) (by left) (by left) (iJ (by left));rw[Ed K]at U0;have ed:∀f,D.cM f (kJ (lE b p) []) (ae ((kJ (lE b p) []).map (o5 (lE b p) λ_=>0)))=qe f (kJ (lE b p) []) (o5 (lE b p) λ_=>0):=λf=>by
  unfold qe ae;rw[List.map_map];rfl
 simp only[ed]at U0;have g1:aV Φ Sy [some (.lst f (bu qs)),none,none,none,none,none,none,none,none]=ok (.nx,[some (.lst f (bu qs)),some (.int b),some (.lst .ow (ae p)),some (.lst .ow (ae (eH p))),some (.lst .ow (ae (jy b p))),some (qe .ow [] λ_=>0),none,none,none]):=by
  simp[Sy,P6,e9,U1,DJ Φ Gq _ rfl,e1,e2,e3,n3,o2]
 rw[mk_eq (show[D.lst f (bu qs)].length=1 from rfl)];show jk (aV Φ Dk [some (.lst f (bu qs)),none,none,none,none,none,none,none,none])=_;rw[Dk,wb Φ _ _ _ _ g1,VR,bG];show jk (bd (gx Φ Lf _) _)=_;rw[Lf,hf];have Mf:(ir b (jy b p)).map (λz=>(dm b p z.1,z.2 - z.1))=lE b p:=rfl;rw[Mf];simp[w_,U0]
theorem NF{m:Nat}(I:lM m qs B)(hm:m<=12)(h:Nat)(hh:h<qs.length):qW (cm qs:Int) (cD (ph qs) h)=qs.getD h 0:=by
 obtain⟨a1,a2,a3⟩:=I.bot hm;have h0:(0:Int)<(cm qs:Int):=by left
 have e:cD (ph qs) h=cf (cm qs) qs[h]:=by
  unfold cD ph;rw[Int.toNat_natCast,List.getD_eq_getElem?_getD,List.getElem?_map,List.getElem?_eq_getElem hh];rfl
 rw[e,List.getD_eq_getElem?_getD,List.getElem?_eq_getElem hh];show qW _ _=qs[h];unfold qW;rw[Rat.divInt_eq_div,sj (a3 _ (List.getElem_mem hh)),Rat.intCast_natCast];have:(cm qs:Rat)≠0:=by
  have:=Rat.ne_of_gt (Ds h0)
  rwa [Rat.intCast_natCast]at this
 exact Rat.mul_div_cancel this
theorem Ew{q:Rat}{k:Nat}(h0:0<=q)(h1:q<=1)(hd:q.den<2 ^ k):Sm k q:=by
 refine⟨?_,hd⟩;have e:=gf q;have hp:=q.den_pos;have n0:0<=q.num:=Rat.num_nonneg.mpr h0;have:q.num<=q.den:=by
  have:=h1;rw[Rat.le_iff]at this;simpa using this
 left
structure Told(qs:aQ)(s:Nat)(rs:aC):Prop where
 lot:∀r∈rs,zA qs.length r.2
 len:∀r∈rs,r.2.length=s
 pos:∀r∈rs,0<r.1
 rise:iw (rs.map (·.2))
 one:(eF rs).sum=1
 shr:∀h:Nat,h<qs.length->b7 rs h h=qs.getD h 0
 fin:∃W:Nat,0<W/\W<=2 ^ 40/\∀r∈rs,r.1.den∣W
 DS:rs.length<=128
theorem AN(ls:au)(f:aa->Rat):(eF (ls.map λl=>(f l,l))).sum=fV ls f λ_=>1:=by
 unfold eF fV;rw[List.map_map];congr 1;exact aam λl _=>by show f l=f l*1;grind
theorem o8(f:aa->Rat)(h:Int):∀ls:au,b7 (ls.map λl=>(f l,l)) h h=fV ls f λl=>if h∈l then 1 else 0
 |[]=>rfl
 |l::ls=>by
  have ih:=o8 f h ls;rw[kS,<- ih];unfold b7;rw[List.map_cons,List.filter_cons];have eb:ft h h (f l,l)=decide (h∈l):=by unfold ft;simp
  by_cases c:h∈l
  ·rw[if_pos (by rw[eb];exact decide_eq_true c),if_pos c];show f l+(eF ((ls.map λl=>(f l,l)).filter (ft h h))).sum=_;rw[Rat.mul_one]
  ·rw[if_neg (by rw[eb];simpa using c),if_neg c];grind
theorem yG{a b:au}(h:a.Perm b)(f F:aa->Rat):fV a f F=fV b f F:=by
 unfold fV;induction h with
 |nil=>rfl
 |cons x _ ih=>rw[List.map_cons,List.map_cons,List.sum_cons,List.sum_cons,ih]
 |swap x y l=>simp only[List.map_cons,List.sum_cons];grind
 |trans _ _ i j=>exact i.trans j
theorem wm(W:Int)(F:aa->Rat):∀(r:List (aa×Int)) (ks:au) (w:aa->Int),Tb (0:Int) (λx=>1<=x) ks w->(∀z∈r,1<=z.2)->fV (kJ r ks) (λl=>((o5 r w l:Int):Rat)) F=fV ks (λl=>((w l:Int):Rat)) F+(r.map λz=>(z.2:Rat)*F z.1).sum
 |[],ks,w,_,_=>(Rat.add_zero _).symm
 |z::r,ks,w,T,h=>by
  have hz:=h z aae;have T':=T.add (x:=z.2) (by left) (λa ha=>by left) z.1;rw[kJ,o5,wm W F r _ _ T' λy hy=>h y (List.mem_cons_of_mem _ hy)];have e:(λl=>((gi w z.1 z.2 l:Int):Rat))=gi (λl=>((w l:Int):Rat)) z.1 (z.2:Rat):=funext λl=>by
   unfold gi;split
   ·rw[Rat.intCast_add]
   ·rfl
  rw[e,Bx F T.nd (λq=>by show((w z.1:Int):Rat)=0;rw[T.out _ q];rfl),List.map_cons,List.sum_cons];grind
theorem wo:∀(r:List (aa×Int)) (ks:au) (l:aa),l∈kJ r ks->l∈ks\/∃z∈r,l=z.1
 |[],ks,l,h=>.inl h
 |z::r,ks,l,h=>by
  rcases wo r _ l h with h|⟨y,hy,e⟩
  ·rcases jc.mp h with h|h
   ·exact .inl h
   ·exact .inr ⟨z,aae,h⟩
  ·exact .inr ⟨y,aaf _ hy,e⟩
theorem m_(c:Rat)(f F:aa->Rat):∀ls:au,fV ls (λl=>c*f l) F=c*fV ls f F
 |[]=>by simp[fV]
 |l::ls=>by rw[kS,kS,m_ c f F ls];grind
theorem uS{s:Nat}{W:Nat}{p:aa}{r:List (aa×Int)}(W0:0<W)(W9:W<=9)(hp:∀h:Nat,h<qs.length->qW (W:Int) (cD p h)=qs.getD h 0)(S:HS qs.length s p W r)(hr:r.length<=128):Told qs s (zC W r):=by
 have h0:(0:Int)<(W:Int):=by left
 have K:=Aj r [] (λ_=>0) S.pos ⟨aaQ,λ_ _=>rfl,λ_ h=>nomatch h⟩;have pm:(bV (kJ r [])).Perm (kJ r []):=aaW _ _;have tl:=l6 r [];rw[List.length_nil]at tl;have key:∀z∈zC W r,∃l,l∈kJ r []/\z=(qW W (o5 r (λ_=>0) l),l):=λz hz=>by
  obtain⟨l,hl,e⟩:=List.mem_map.mp hz;exact⟨l,pm.mem_iff.mp hl,e.symm⟩
 have VF:∀l,l∈kJ r []->∃z∈r,l=z.1:=λl hl=>(wo r [] l hl).resolve_left λz=>nomatch z;have ms:∀F:aa->Rat,fV (bV (kJ r [])) (λl=>qW W (o5 r (λ_=>0) l)) F=(W:Rat)⁻¹*(r.map λz=>(z.2:Rat)*F z.1).sum:=λF=>by
  have e:(λl=>qW W (o5 r (λ_=>0) l))=λl=>(W:Rat)⁻¹*((o5 r (λ_=>0) l:Int):Rat):=funext λl=>by
   unfold qW;rw[Rat.divInt_eq_div,Rat.div_def,Rat.intCast_natCast,Rat.mul_comm]
  rw[yG pm,e,m_,wm W F r [] (λ_=>0) ⟨List.nodup_nil,λ_ _=>rfl,λ_ h=>nomatch h⟩ S.pos];show _*(0+_)=_;rw[Rat.zero_add]
 have Xh:(W:Rat)≠0:=by
  have:=Rat.ne_of_gt (Ds h0)
  rwa [Rat.intCast_natCast]at this
 have Ol:∀(f:aa×Int->Int),(r.map λz=>((f z:Int):Rat)).sum=(((r.map f).sum:Int):Rat):=λf=>by
  have:∀l:List (aa×Int),(l.map λz=>((f z:Int):Rat)).sum=(((l.map f).sum:Int):Rat):=λl=>by
   induction l with
   |nil=>rfl
   |cons z l ih=>rw[List.map_cons,List.map_cons,List.sum_cons,List.sum_cons,ih,Rat.intCast_add]
  exact this r
 refine⟨λz hz=>?_,λz hz=>?_,λz hz=>?_,?_,?_,λh hh=>?_,⟨W,W0,by left,λz hz=>?_⟩,?_⟩
 ·obtain⟨l,hl,rfl⟩:=key z hz;obtain⟨y,hy,rfl⟩:=VF l hl;exact S.lot y hy
 ·obtain⟨l,hl,rfl⟩:=key z hz;obtain⟨y,hy,rfl⟩:=VF l hl;exact S.len y hy
 ·obtain⟨l,hl,rfl⟩:=key z hz;have:=K.tM l hl;show 0<qW W _;have:=(Jn h0 (x:=0)).mpr (show 0<o5 r (λ_=>0) l by left)
  rwa [Se h0]at this
 ·unfold zC;rw[List.map_map];show iw ((bV (kJ r [])).map λl=>l);rw[List.map_id'];exact mP K.nd
 ·unfold zC;rw[AN,ms];have:=Ol (λz=>z.2);rw[S.all]at this;have e:(r.map λz=>(z.2:Rat)*1).sum=(r.map λz=>(z.2:Rat)).sum:=by congr 1;exact aam λz _=>by grind
  rw[e,this,Rat.intCast_natCast,Rat.mul_comm,Rat.mul_inv_cancel _ Xh]
 ·unfold zC;rw[o8,ms,<- hp h hh];have e:(r.map λz=>(z.2:Rat)*if (h:Int)∈z.1 then 1 else 0).sum=((cD p h:Int):Rat):=by
   rw[<- S.shr h (by left) (by left),<- Ol];congr 1;refine aam λz _=>?_;by_cases c:(h:Int)∈z.1
   ·rw[if_pos c,if_pos c,Rat.mul_one]
   ·rw[if_neg c,if_neg c,Rat.mul_zero];rfl
  rw[e];unfold qW;rw[Rat.divInt_eq_div,Rat.div_def,Rat.intCast_natCast,Rat.mul_comm]
 ·obtain⟨l,hl,rfl⟩:=key z hz;have:=jJ (t:=o5 r (λ_=>0) l) (b:=(W:Int)) (by left);rw[Int.natAbs_natCast]at this;exact this
 ·unfold zC;rw[List.length_map,pm.length_eq];left
theorem Told.oI{qs:aQ}{s:Nat}{rs:aC}(T:Told qs s rs):oI qs.length rs=qs:=by
 refine abp (by simp[DI.oI]) λi h1 h2=>?_;have:=T.shr i h2;simp[DI.oI,this,h2]
theorem sP:∀{ls:au},iw ls->eE ls=true
 |[],_=>rfl
 |[_],_=>rfl
 |a::b::l,h=>by
  obtain⟨h1,h2⟩:=List.pairwise_cons.mp h;show(HT.lexLt a b&&eE (b::l))=true;rw[h1 b (by simp),sP h2];rfl
variable {rs:aC}
theorem Told.Ya{s:Nat}(T:Told qs s rs)(q1:1<=qs.length)(q2:qs.length<=12):jB qs s (d5 qs.length rs)=true:=by
 have e:=pw (s:=s) q1 q2 .fz (bq rs);have e':jB qs s (d5 qs.length rs)=_:=e;rw[e',mF,Hi,mF,decide_eq_true T.one,decide_eq_true T.oI,sP T.rise,List.all_eq_true.mpr]
 ·rfl
 ·intro d hd;obtain⟨r,hr,rfl⟩:=List.mem_map.mp hd;show((bS (qD r.1)&&kQ (qD r.1))&&(decide ((ae r.2).length=s)&&cO (.tup (ae r.2)) qs.length))=true;have p1:kQ (qD r.1)=true:=aar (yy (T.pos r hr));rw[ra,p1,(T.lot r hr).cO,decide_eq_true (by rw[show(ae r.2).length=r.2.length by simp];exact T.len r hr)];rfl
structure Bn(n:Nat)(rs:aC):Prop where
 n1:1<=n
 n2:n<=12
 ne:rs≠[]
 DS:rs.length<=12
 lot:∀r∈rs,zA n r.2
 sm:∀r∈rs,Sm 4 r.1
def Dx(m:aw):Prop:=∀f qs B (s:Nat),lM 6 qs B->qs.sum=((s:Int):Rat)->∃rs,m [.lst f (bu qs)]=ok (.tup [.int qs.length,.lst .ow (bq rs)])/\Bn qs.length rs/\jB qs s (d5 qs.length rs)=true
theorem FE{m:aw}(h:Qs m):Dx m:=by
 intro f qs B s I es;have J:=I.le (k:=12) (by decide);have n1:=I.n1;have n2:=I.n2;obtain⟨a1,a2,a3⟩:=J.bot (aah _);have T:=A1 J (aah _) es;have hp:=NF J (aah _);have St:=T.steps n1;have hl:(lE (cm qs) (ph qs)).length<=qs.length:=by
  have:=wk (cm qs) (ph qs);have e:=T.len;unfold lE;rw[List.length_map,j7];left
 have To:=uS a1 a2 hp St (by left);have rT:(zC (cm qs) (lE (cm qs) (ph qs))).length<=6:=by
  have h1:=l6 (lE (cm qs) (ph qs)) [];rw[List.length_nil]at h1;unfold zC;rw[List.length_map,(show(bV (kJ (lE (cm qs) (ph qs)) [])).Perm _ from List.mergeSort_perm _ _).length_eq];left
 refine⟨_,h f qs B s J es,⟨n1,by left,?_,by left,To.lot,λr hr=>?_⟩,To.Ya n1 (by left)⟩
 ·intro e;have:=To.one;rw[e]at this;exact absurd this (by decide)
 ·obtain⟨l,Z5,rfl⟩:=List.mem_map.mp hr;have hd:=jJ (t:=o5 (lE (cm qs) (ph qs)) (λ_=>0) l) (b:=(cm qs:Int)) (by left);rw[Int.natAbs_natCast]at hd;have hd:=abL a1 hd;have p0:=To.pos _ hr;have X5:∀{l:aQ} {q:Rat},(∀x∈l,0<x)->q∈l->q<=l.sum:=λ{l}=>by
   induction l with
   |nil=>intro q _ h;cases h
   |cons a l ih =>
    intro q hx hq;rw[List.sum_cons];have nn:0<=l.sum:=by
     clear ih hq;induction l with
     |nil=>exact Rat.le_refl
     |cons b l ih=>rw[List.sum_cons];exact Rat.add_nonneg (acm (hx b (by simp))) (ih λx hm=>hx x (by rcases List.mem_cons.mp hm with rfl|h<;>simp[*]))
    have pa:=hx a aae;rcases List.mem_cons.mp hq with rfl|hq
    ·grind
    ·have:=ih (λx hm=>hx x (aaf _ hm)) hq;grind
  have h1:=X5 (l:=eF (zC (cm qs) (lE (cm qs) (ph qs)))) (λx hx=>by obtain⟨z,hz,rfl⟩:=List.mem_map.mp hx;exact To.pos z hz) (aaI hr);rw[To.one]at h1;exact Ew (acm p0) h1 (by
   have:(Rat.divInt (o5 (lE (cm qs) (ph qs)) (λ_=>0) l) (cm qs:Int)).den<=9:=by left
   show(qW _ _).den<16;unfold qW;left)
noncomputable def Sh:ag:=[.asg (.tp [2,3]) (.v 0),.asg (.nm 3) (.bf .list1 [(.v 3)]),.asg (.nm 4) (.bin .mod (.bin .fdiv (.v 1) (.int 16)) (.bf .len [(.v 3)])),.asg (.tp [5,6]) (.ix (.v 3) (.v 4)),.asg (.nm 7) (.bin .mod (.v 1) (.int 16)),.asg (.nm 8) (.bin .mod (.bin .add (.v 4) (.int 1)) (.bf .len [(.v 3)]))]
noncomputable def U8:ag:=[.asg (.nm 9) (.call 203 [(.v 5),(.tup [(.int 1),(.int 2)])]),.setI 3 (.v 4) (.tup [(.v 9),(.v 6)]),.setI 3 (.v 8) (.tup [(.call 202 [(.ix (.ix (.v 3) (.v 8)) (.int 0)),(.v 9)]),(.ix (.ix (.v 3) (.v 8)) (.int 1))])]
noncomputable def CH:CE:=.comp 1 (.nm 0) [2] .seq [(.v 6)] [] (.bin .mod (.bin .add (.v 0) (.int 1)) (.v 1))
def U7:ag:=[.asg (.nm 10) (.bf .tuple1 [(.bO 1071 [CH])]),.setI 3 (.v 4) (.tup [(.v 5),(.v 10)])]
noncomputable def UR:CE:=.ix (.lst [(.tup [(.v 2)]),(.lst [(.v 2),(.v 3)]),.bF,(.tup [(.v 3),(.v 2)]),(.str "drawing"),(.tup [(.v 2),(.bf .tuple1 [(.v 3)])])]) (.bin .mod (.bin .fdiv (.v 1) (.int 16)) (.int 6))
noncomputable def U6:ag:=[.setI 3 (.v 4) (.tup [(.ix (.ix (.v 3) (.v 8)) (.int 0)),(.v 6)]),.setI 3 (.v 8) (.tup [(.v 5),(.ix (.ix (.v 3) (.v 8)) (.int 1))])]
def bl:ag:=[.ifs (.and [(.cmp .eq (.v 7) (.int 0)),(.cmp .gt (.bf .len [(.v 3)]) (.int 1))]) U8 [],.ifs (.and [(.cmp .eq (.v 7) (.int 1)),(.cmp .gt (.bf .len [(.v 6)]) (.int 0))]) U7 [],.ifs (.cmp .eq (.v 7) (.int 2)) [.setI 3 (.v 4) (.tup [(.v 5),(.bO 1023 [(.v 6),(.int 1)])])] [],.ifs (.cmp .eq (.v 7) (.int 3)) [.setI 3 (.v 4) (.tup [(.v 5),(.bf .tuple1 [(.bO 1041 [(.v 2)])])])] [],.ifs (.cmp .eq (.v 7) (.int 4)) [.ret (.tup [(.bin .add (.v 2) (.int 1)),(.v 3)])] [],.ifs (.cmp .eq (.v 7) (.int 5)) [.ret (.tup [(.v 2),(.bO 1026 [(.v 3),(.neg (.int 1))])])] [],.ifs (.cmp .eq (.v 7) (.int 6)) [.setI 3 (.v 4) (.tup [(.v 5),(.bf .list1 [(.v 6)])])] [],.ifs (.cmp .eq (.v 7) (.int 7)) [.setI 3 (.v 4) (.tup [(.tup [(.bin .mul (.int 2) (.ix (.v 5) (.int 0))),(.bin .mul (.int 2) (.ix (.v 5) (.int 1)))]),(.v 6)])] [],.ifs (.cmp .eq (.v 7) (.int 8)) [.ret UR] [],.ifs (.and [(.cmp .eq (.v 7) (.int 9)),(.cmp .gt (.bf .len [(.v 3)]) (.int 1))]) U6 [],.ret (.tup [(.v 2),(.v 3)])]
def og:ag:=Sh++bl
section
variable {Φ:aY}{ρ:bo}{w:Int}
theorem cE(h:aW Φ (.v 7) ρ=ok (.int w))(j:Int):aW Φ (.cmp .eq (.v 7) (.int j)) ρ=ok (.bl (decide (w=j))):=by rw[CM,h];rfl
theorem cA(h:aW Φ (.v 7) ρ=ok (.int w)){j:Int}(hj:w≠j)(e:CE):aW Φ (.and [(.cmp .eq (.v 7) (.int j)),e]) ρ=ok (.bl false):=by
 rw[CO,vG,cE h,decide_eq_false hj];rfl
theorem cB{c c':CE}{b:Bool}(h:aW Φ c ρ=ok (.bl true))(h':aW Φ c' ρ=ok (.bl b)):aW Φ (.and [c,c']) ρ=ok (.bl b):=by
 rw[CO,vG,h,CN,h'];rfl
theorem sk(h:aW Φ (.v 7) ρ=ok (.int w))(i:Nat)(hi:i<10)(hw:w≠(i:Int)):aV Φ (bl.drop i) ρ=aV Φ (bl.drop (i+1)) ρ:=by
 have f:∀j:Int,w≠j->aW Φ (.cmp .eq (.v 7) (.int j)) ρ=ok (.bl false):=λj hj=>by rw[cE h,decide_eq_false hj]
 match i,hi,hw with
 |0,_,hw=>exact dE (cA h hw _)
 |1,_,hw=>exact dE (cA h hw _)
 |2,_,hw=>exact dE (f _ hw)
 |3,_,hw=>exact dE (f _ hw)
 |4,_,hw=>exact dE (f _ hw)
 |5,_,hw=>exact dE (f _ hw)
 |6,_,hw=>exact dE (f _ hw)
 |7,_,hw=>exact dE (f _ hw)
 |8,_,hw=>exact dE (f _ hw)
 |9,_,hw=>exact dE (cA h hw _)
theorem AB(h:aW Φ (.v 7) ρ=ok (.int w)):∀(k i:Nat),i+k<=10->(∀j:Nat,i<=j->j<i+k->w≠(j:Int))->aV Φ (bl.drop i) ρ=aV Φ (bl.drop (i+k)) ρ
 |0,i,_,_=>rfl
 |k+1,i,hi,hw=>by
  rw[sk h i (by left) (hw i (Nat.le_refl _) (by left)),AB h k (i+1) (by left) λj h1 h2=>hw j (by left) (by left),show i+1+k=i+(k+1) by left]
end
def bC(n:Nat)(rs:aC)(z:Int)(ds:ab)(k k2:Nat)(r:Row)(w:Int)(c9 kY:aH):bo:=[some (d5 n rs),some (.int z),some (.int n),some (.lst .ow ds),some (.int k),some (qD r.1),some (.tup (ae r.2)),some (.int w),some (.int k2),c9,kY]
variable {kY c9:aH}
theorem CG{n:Nat}(hn:n<=12){z:Int}{k:Nat}{r:Row}(hl:ds.length<=12)(hd:∀d∈ds,bj 2 d=true):∃d ρ',aV Φ (bl.drop 10) (bC n rs z ds k k2 r w c9 kY)=ok (.rt d,ρ')/\bj 4 d=true:=by
 have e2:aW Φ (.tup [(.v 2),(.v 3)]) (bC n rs z ds k k2 r w c9 kY)=ok (.tup [.int n,.lst .al (av aP ds)]):=rfl;obtain⟨d',ρ',e3,e4⟩:=AM rfl e2 (vJ hn (nW rfl (by rw[aO,List.length_map];left) λd hx=>by
  rw[aO]at hx;obtain⟨x,hy,rfl⟩:=List.mem_map.mp hx;rw[cL _ (λf=>by cases f<;>rfl)];exact hd x hy))
 exact⟨d',ρ',G7 e3,e4⟩
theorem HP{c:CE}{a rest:ag}(h:aW Φ c ρ=ok (.bl true))(ha:aV Φ a ρ=ok (.nx,ρ')):aV Φ (.ifs c a []::rest) ρ=aV Φ rest ρ':=by
 rw[bG,uK,h];show o4 Φ rest (aV Φ a ρ)=_;rw[ha];rfl
theorem i9{k:Nat}{x:D}(hd:∀d∈ds,bj 2 d=true)(hx:bj 2 x=true):∀d∈ds.set k x,bj 2 d=true:=λd h=>(abt h).elim (hd d) λe=>e▸hx
theorem qf{n:Nat}{z:Int}{k:Nat}{r:Row}{e:CE}{x:D}(hv:LV e=false)(he:aW Φ e (bC n rs z ds k k2 r w c9 kY)=ok x)(hx:aU bD x=false)(hk:k<ds.length):
  gx Φ (.setI 3 (.v 4) e) (bC n rs z ds k k2 r w c9 kY)=ok (.nx,bC n rs z (ds.set k x) k k2 r w c9 kY) :=
 uJ (z:=(k:Int)) (j:=k) (ds:=ds) (by rw[DJ Φ e _ hv,he,c_ hx]) rfl rfl (by rw[vp (by left) (by left),Int.toNat_natCast])
theorem wz{n:Nat}{z:Int}{k:Nat}{r:Row}{e:CE}{x:D}(hv:LV e=false)(he:aW Φ e (bC n rs z ds k k2 r w c9 kY)=ok x)(hx:aU bD x=false)(hk:k2<ds.length):
  gx Φ (.setI 3 (.v 8) e) (bC n rs z ds k k2 r w c9 kY)=ok (.nx,bC n rs z (ds.set k2 x) k k2 r w c9 kY) :=
 uJ (z:=(k2:Int)) (j:=k2) (ds:=ds) (by rw[DJ Φ e _ hv,he,c_ hx]) rfl rfl (by rw[vp (by left) (by left),Int.toNat_natCast])
theorem zW{s:CS}(h:gx Φ s ρ=ok (.nx,ρ')):aV Φ [s] ρ=ok (.nx,ρ'):=by rw[bG,h];rfl
theorem Bn.Qa{n:Nat}(I:Bn n rs){r:Row}(hr:r∈rs):bj 2 (rD r)=true:=dC (pP (by decide) (I.sm r hr)) (GF I.n2 (I.lot r hr))
theorem ve(p:Fl->Bool)(q:Rat)(l:aa):aU p (.tup [qD q,.tup (ae l)])=false:=by
 show(aU p (qD q)||(aN p (ae l)||false))=false;rw[eY];rfl
theorem qi(rs:aC)(k:Nat)(q:Rat)(l:aa):(bq rs).set k (.tup [qD q,.tup (ae l)])=bq (rs.set k (q,l)):=by
 unfold bq;rw[List.map_set];rfl
def Dz(m:aw):Prop:=∀n rs (z:Int),Bn n rs->∃d,m [d5 n rs,.int z]=ok d/\bj 4 d=true
structure BΦ(Φ:aY):Prop where
 jE:oi (Φ 202)
 Ut:yc (Φ 203)
 Pz:Φ 1023=xT
 Pw:Φ 1026=wL
 Pn:Φ 1041=N7
 Cm:Φ 1071=LM
theorem Ql(Φ:aY)(Q:BΦ Φ){n:Nat}(I:Bn n rs)(z:Int){k:Nat}{r:Row}(hr:rs[k]?=some r)(Wk:k2<rs.length)(w:Int):∃d ρ',aV Φ bl (bC n rs z (bq rs) k k2 r w none none)=ok (.rt d,ρ')/\bj 4 d=true:=by
 have v7:∀ds c9 kY,aW Φ (.v 7) (bC n rs z ds k k2 r w c9 kY)=ok (.int w):=λ_ _ _=>rfl;have hn:=I.n2;have n1:=I.n1;have hf:=I.DS;have Wi:=(List.getElem?_eq_some_iff.mp hr).1;have hm:r∈rs:=aay hr;have dr:∀d∈bq rs,bj 2 d=true:=λd hd=>by obtain⟨r,hr,rfl⟩:=List.mem_map.mp hd;exact I.Qa hr
 have FW:(bq rs).length=rs.length:=gO rs;have sr:=I.sm r hm;have lr:=I.lot r hm;have ll:=lr.len;have v5:∀ds c9 kY,aW Φ (.v 5) (bC n rs z ds k k2 r w c9 kY)=ok (qD r.1):=λ_ _ _=>rfl;have v6:∀ds c9 kY,aW Φ (.v 6) (bC n rs z ds k k2 r w c9 kY)=ok (.tup (ae r.2)):=λ_ _ _=>by
  show ok (D.tup (av aP (ae r.2)))=_;rw[bh]
 have fin:∀(i:Nat) (ds:ab) (c9 kY:aH),i<=9->w=(i:Int)->ds.length<=12->(∀d∈ds,bj 2 d=true)->∃d ρ',aV Φ (bl.drop (i+1)) (bC n rs z ds k k2 r w c9 kY)=ok (.rt d,ρ')/\bj 4 d=true:=λi ds c9 kY hi hw hl hd=>by
  rw[AB (v7 ds c9 kY) (9 - i) (i+1) (by left) (λj h1 h2=>by left),show i+1+(9 - i)=10 by left];exact CG hn hl hd
 have go:∀(i:Nat),i<=10->(∀j:Nat,j<i->w≠(j:Int))->aV Φ bl (bC n rs z (bq rs) k k2 r w none none)=aV Φ (bl.drop i) (bC n rs z (bq rs) k k2 r w none none):=λi hi hw=>by
  have:=AB (v7 (bq rs) none none) i 0 (by left) λj _ h2=>hw j (by left);rw[Nat.zero_add]at this;exact this
 by_cases DR:w<0\/9<w
 ·rw[go 10 (Nat.le_refl _) λj hj=>by left];exact CG hn (by left) dr
 obtain⟨i,rfl⟩:∃i:Nat,w=(i:Int):=⟨w.toNat,by left⟩
 have hi:i<=9:=by left
 rw[go i (by left) λj hj=>by left];have cT:aW Φ (.cmp .eq (.v 7) (.int i)) (bC n rs z (bq rs) k k2 r i none none)=ok (.bl true):=by rw[cE (v7 _ _ _),decide_eq_true rfl]
 have one:∀(e:CE) (x:D),LV e=false->aW Φ e (bC n rs z (bq rs) k k2 r i none none)=ok x->aU bD x=false->bj 2 x=true->∃ρ',aV Φ [.setI 3 (.v 4) e] (bC n rs z (bq rs) k k2 r i none none)=ok (.nx,ρ')/\∃d uH,aV Φ (bl.drop (i+1)) ρ'=ok (.rt d,uH)/\bj 4 d=true:=λe x hv he hx hd =>
  ⟨_,zW (qf hv he hx (by left)),fin i _ none none hi rfl (by rw[List.length_set];left) (i9 dr hd)⟩
 have pick:∀{c:CE} {a:ag} {rest:ag},aW Φ c (bC n rs z (bq rs) k k2 r i none none)=ok (.bl true)->(∃ρ',aV Φ a (bC n rs z (bq rs) k k2 r i none none)=ok (.nx,ρ')/\∃d uH,aV Φ rest ρ'=ok (.rt d,uH)/\bj 4 d=true)->∃d uH,aV Φ (.ifs c a []::rest) (bC n rs z (bq rs) k k2 r i none none)=ok (.rt d,uH)/\bj 4 d=true:=λhc bP=>by
  obtain⟨ρ',h1,h2⟩:=bP;rw[HP hc h1];exact h2
 have A7:∀{c:CE} {e:CE} {rest:ag} {x:D},aW Φ c (bC n rs z (bq rs) k k2 r i none none)=ok (.bl true)->LV e=false->aW Φ e (bC n rs z (bq rs) k k2 r i none none)=ok x->bj 4 x=true->∃d uH,aV Φ (.ifs c [.ret e] []::rest) (bC n rs z (bq rs) k k2 r i none none)=ok (.rt d,uH)/\bj 4 d=true:=λhc hv he hd=>by
  obtain⟨d',ρ',e3,e4⟩:=AM hv he hd;exact⟨d',ρ',Ik hc (G7 e3),e4⟩
 have dec_lt:∀l:aa,l.length<=16->(∀x∈l,-20<=x/\x<=20)->bj 2 (.tup [qD r.1,.tup (ae l)])=true:=λl h1 h2=>dC (pP (by decide) sr) (fO h1 h2);have FZ:∀x∈r.2,-20<=x/\x<=20:=λx hx=>by have:=lr.2 x hx;left
 have v2:aW Φ (.v 2) (bC n rs z (bq rs) k k2 r i none none)=ok (.int n):=rfl;have v3:∀ds c9 kY,aW Φ (.v 3) (bC n rs z ds k k2 r i c9 kY)=ok (.lst .al (av aP ds)):=λ_ _ _=>rfl;have Qy:aW Φ (.v 3) (bC n rs z (bq rs) k k2 r i none none)=ok (.lst .al (bq rs)):=by rw[v3,eW]
 have cl:aW Φ (.cmp .gt (.bf .len [(.v 3)]) (.int 1)) (bC n rs z (bq rs) k k2 r i none none)=ok (.bl (decide ((1:Int)<rs.length))):=by
  rw[CM,vF,a_,Qy];show dH .gt (.int ((bq rs).length:Nat)) (.int 1)=_;rw[FW];rfl
 have SG:∀(ss:aC) (c9 kY:aH),ss.length=rs.length->∃q l,(q,l)∈ss/\aW Φ (.ix (.ix (.v 3) (.v 8)) (.int 0)) (bC n rs z (bq ss) k k2 r i c9 kY)=ok (qD q)/\aW Φ (.ix (.ix (.v 3) (.v 8)) (.int 1)) (bC n rs z (bq ss) k k2 r i c9 kY)=ok (.tup (ae l)):=λss c9 kY hs=>by
  have Wj:k2<ss.length:=by left
  have e1:aW Φ (.ix (.v 3) (.v 8)) (bC n rs z (bq ss) k k2 r i c9 kY)=ok (rD ss[k2]):=by
   rw[rg,v3,eW];exact V6 (by unfold bq;rw[List.getElem?_map,List.getElem?_eq_getElem Wj];rfl) (vi _ _)
  refine⟨ss[k2].1,ss[k2].2,aaP Wj,?_,?_⟩
  ·rw[rg,e1];rfl
  ·rw[rg,e1];show ok (D.tup (av aP (ae _)))=_;rw[bh]
 have inR:∀l,(∃q,(q,l)∈rs)->l.length<=16/\∀x∈l,-20<=x/\x<=20:=λl bP=>by
  obtain⟨q,h⟩:=bP;have:=I.lot _ h;have hl:=this.len;exact⟨aao hl (by left),λx hx=>by have:=this.2 x hx;left⟩
 match i,hi with
 |0,_ =>
  by_cases h1:(1:Int)<rs.length
  ·refine pick (cB cT (by rw[cl,decide_eq_true h1])) ?_;have half:D.tup [.int 1,.int 2]=qD (1 / 2):=by
    unfold qD;rw[show(1 / 2:Rat).num=1 by decide +kernel,show(1 / 2:Rat).den=2 by decide +kernel];rfl
   have sh:Sm 3 (1 / 2:Rat):=by constructor<;>decide +kernel
   have UX:=Q.Ut r.1 (1 / 2) (sr.mono (by decide)) (sh.mono (by decide));have sL:Sm 7 (r.1*(1 / 2)):=(sr.mul sh).mono (by decide);generalize r.1*(1 / 2)=q at *;have s1:gx Φ (.asg (.nm 9) (.call 203 [(.v 5),(.tup [(.int 1),(.int 2)])])) (bC n rs z (bq rs) k k2 r (0:Nat) none none)=ok (.nx,bC n rs z (bq rs) k k2 r (0:Nat) (some (qD q)) none):=by
    have:aW Φ (.call 203 [(.v 5),(.tup [(.int 1),(.int 2)])]) (bC n rs z (bq rs) k k2 r (0:Nat) none none)=ok (qD q):=by
     rw[jH,a_,v5];show fP (Φ 203) (ok [qD r.1,.tup [.int 1,.int 2]])=_;rw[half,ej];show tW (Φ 203 [qD r.1,qD (1 / 2)])=_;rw[UX];rfl
    rw[jX,nu,this,c_ rfl];rfl
   have s2:gx Φ (.setI 3 (.v 4) (.tup [(.v 9),(.v 6)])) (bC n rs z (bq rs) k k2 r (0:Nat) (some (qD q)) none)=ok (.nx,bC n rs z (bq (rs.set k (q,r.2))) k k2 r (0:Nat) (some (qD q)) none):=by
    rw[<- qi];exact qf rfl (by rw[gE,a_,a_,v6];rfl) (ve _ _ _) (by left)
   obtain⟨q',l',Tz,i0,i1⟩:=SG (rs.set k (q,r.2)) (some (qD q)) none (by rw[List.length_set]);have L3:Sm 7 q'/\l'.length<=16/\∀x∈l',-20<=x/\x<=20:=by
    rcases abt Tz with h|h
    ·exact⟨(I.sm _ h).mono (by decide),inR _ ⟨_,h⟩⟩
    ·cases h;exact⟨sL,by left,FZ⟩
   have UY:=Q.jE q' q (L3.1.mono (by decide)) (sL.mono (by decide));have sS:Sm 20 (q'+q):=(L3.1.add sL).mono (by decide);generalize q'+q=q3 at *;have s3:gx Φ (.setI 3 (.v 8) (.tup [(.call 202 [(.ix (.ix (.v 3) (.v 8)) (.int 0)),(.v 9)]),(.ix (.ix (.v 3) (.v 8)) (.int 1))])) (bC n rs z (bq (rs.set k (q,r.2))) k k2 r (0:Nat) (some (qD q)) none)=ok (.nx,bC n rs z ((bq (rs.set k (q,r.2))).set k2 (.tup [qD q3,.tup (ae l')])) k k2 r (0:Nat) (some (qD q)) none):=by
    refine wz rfl ?_ (ve _ _ _) (by rw[gO,List.length_set];left);rw[gE,a_,a_,jH,a_,i0,i1];show p6 _ (bW (fP (Φ 202) (ok [qD q',qD q])) _)=_;rw[ej];show p6 _ (bW (tW (Φ 202 [qD q',qD q])) _)=_;rw[UY];rfl
   refine⟨bC n rs z ((bq (rs.set k (q,r.2))).set k2 (.tup [qD q3,.tup (ae l')])) k k2 r (0:Nat) (some (qD q)) none,by rw[U8,bG,s1,cX,bG,s2,cX,bG,s3];rfl,fin 0 _ _ _ (by decide) rfl (by rw[List.length_set,gO,List.length_set];left) (i9 ?_ (dC (pP (by decide) sS) (fO L3.2.1 L3.2.2)))⟩;rw[<- qi];exact i9 dr (dC (pP (by decide) sL) (fO (by left) FZ))
  ·have:aW Φ (.and [(.cmp .eq (.v 7) (.int 0)),(.cmp .gt (.bf .len [(.v 3)]) (.int 1))]) (bC n rs z (bq rs) k k2 r (0:Nat) none none)=ok (.bl false):=cB cT (by rw[cl,decide_eq_false h1]);show ∃d ρ',aV Φ (.ifs _ U8 []::bl.drop 1) _=_/\_;rw[dE this];exact fin 0 _ _ _ (by decide) rfl (by left) dr
 |1,_ =>
  have c6:aW Φ (.cmp .gt (.bf .len [(.v 6)]) (.int 0)) (bC n rs z (bq rs) k k2 r (1:Nat) none none)=ok (.bl (decide ((0:Int)<r.2.length))):=by
   rw[CM,vF,a_,v6];show dH .gt (.int ((ae r.2).length:Nat)) (.int 0)=_;rw[show(ae r.2).length=r.2.length by simp];rfl
  by_cases h1:(0:Int)<r.2.length
  ·refine pick (cB cT (by rw[c6,decide_eq_true h1])) ?_;have Ys:(n:Int)≠0:=by left
   have ew:aW Φ CH (bC n rs z (bq rs) k k2 r (1:Nat) none none)=ok (.lst .ow (ae (r.2.map λx=>(x+1).fmod n))):=by
    unfold CH;rw[cQ (xs:=[.tup (ae r.2)]) (items:=r.2.map D.int) (ds:=r.2.map λx=>D.int ((x+1).fmod n)) (by rw[a_,v6];rfl) (by rw[qL,bh];rfl) (bX λx hx=>⟨[some (.int x),some (.int n)],rfl,by simp,by
     have m1:bM .mod (.int (x+1)) (.int n)=ok (.int ((x+1).fmod n)):=iW Ys;simp[m1]⟩) (by rw[List.length_map];exact b6 (by left))]
    have:(r.2.map λx=>D.int ((x+1).fmod n))=ae (r.2.map λx=>(x+1).fmod n):=by unfold ae;rw[List.map_map];rfl
    rw[this,bh]
   have hb:∀y∈sortI (eB (r.2.map λx=>(x+1).fmod n)),-20<=y/\y<=20:=λy hy=>by
    have hy:=(sortI_perm _).mem_iff.mp hy;have:=((nV (r.2.map λx:Int=>(x+1).fmod (n:Int)) [] aaQ).2 y).mp hy;have hy:=this.resolve_left (by simp);obtain⟨x,_,rfl⟩:=List.mem_map.mp hy;have:=eR (x+1) (b:=(n:Int)) (by left);left
   have rT:(sortI (eB (r.2.map λx=>(x+1).fmod n))).length<=16:=by
    rw[(sortI_perm _).length_eq];have:=(jf (r.2.map λx:Int=>(x+1).fmod (n:Int)) []).1;rw[List.length_map,List.length_nil]at this;exact aao this (by left)
   have Zm:Φ 1071 [.lst .ow (ae (r.2.map λx=>(x+1).fmod n))]=ok (.lst .ow (ae (sortI (eB (r.2.map λx=>(x+1).fmod n))))):=by
    rw[Q.Cm];show(match intsOf ((r.2.map λx=>(x+1).fmod n).map D.int)with|some ns=>if ns.length<64 then ok (D.lst .ow ((sortI (eB ns)).map D.int))else none|none=>none)=_;rw[bA];exact aaO (by rw[List.length_map];left)
   generalize sortI (eB (r.2.map λx=>(x+1).fmod n))=wl at *;have s1:gx Φ (.asg (.nm 10) (.bf .tuple1 [(.bO 1071 [CH])])) (bC n rs z (bq rs) k k2 r (1:Nat) none none)=ok (.nx,bC n rs z (bq rs) k k2 r (1:Nat) none (some (.tup (ae wl)))):=by
    have:aW Φ (.bf .tuple1 [(.bO 1071 [CH])]) (bC n rs z (bq rs) k k2 r (1:Nat) none none)=ok (.tup (ae wl)):=by
     rw[vF,a_,xO,a_,ew];show p6 (n9 .tuple1) (bW (Φ 1071 [.lst .ow (ae (r.2.map λx=>(x+1).fmod n))]) (ok []))=_;rw[Zm];show ok (D.tup (av aP (ae wl)))=_;rw[bh]
    rw[jX,DJ Φ _ _ rfl,this,c_ (by show aN bD (ae wl)=false;rw[eY])];rfl
   have s2:gx Φ (.setI 3 (.v 4) (.tup [(.v 5),(.v 10)])) (bC n rs z (bq rs) k k2 r (1:Nat) none (some (.tup (ae wl))))=ok (.nx,bC n rs z ((bq rs).set k (.tup [qD r.1,.tup (ae wl)])) k k2 r (1:Nat) none (some (.tup (ae wl)))):=by
    refine qf rfl ?_ (ve _ _ _) (by left);rw[gE,a_,v5,a_];show p6 _ (bW _ (bW (ok (D.tup (av aP (ae wl)))) _))=_;rw[bh];rfl
   exact⟨_,by rw[U7,bG,s1,cX,bG,s2];rfl,fin 1 _ _ _ (by decide) rfl (by rw[List.length_set];left) (i9 dr (dec_lt _ rT hb))⟩
  ·have:aW Φ (.and [(.cmp .eq (.v 7) (.int 1)),(.cmp .gt (.bf .len [(.v 6)]) (.int 0))]) (bC n rs z (bq rs) k k2 r (1:Nat) none none)=ok (.bl false):=cB cT (by rw[c6,decide_eq_false h1]);show ∃d ρ',aV Φ (.ifs _ U7 []::bl.drop 2) _=_/\_;rw[dE this];exact fin 1 _ _ _ (by decide) rfl (by left) dr
 |2,_ =>
  refine pick cT (one _ (.tup [qD r.1,.tup (ae (r.2.drop 1))]) rfl ?_ (ve _ _ _) (dec_lt _ (by rw[List.length_drop];left) λx hx=>FZ x (List.mem_of_mem_drop hx)));have Zq:Φ 1023 [.tup (ae r.2),.int 1]=ok (.tup (ae (r.2.drop 1))):=by
   rw[Q.Pz];show(if (1:Int)<=1/\aN anyF (ae r.2)=false then ok (D.tup ((ae r.2).drop (1:Int).toNat))else none)=_;rw[if_pos ⟨by decide,eY _ _⟩];unfold ae;rw[<- List.map_drop];rfl
  rw[gE,a_,v5,a_,xO,a_,v6];show p6 _ (bW _ (bW (Φ 1023 [.tup (ae r.2),.int 1]) _))=_;rw[Zq];rfl
 |3,_ =>
  refine pick cT (one _ (.tup [qD r.1,.tup (ae (zB n))]) rfl ?_ (ve _ _ _) (dec_lt _ (by unfold zB;simp;left) λx hx=>?_))
  ·have Zn:Φ 1041 [.int n]=ok (.lst .ow (ae (zB n))):=by
    rw[Q.Pn];exact aaO ⟨by show _<=(1000000:Int);left,by show(-1000000:Int)<=_;left⟩
   rw[gE,a_,v5,a_,vF,a_,xO,a_,v2];show p6 _ (bW _ (bW (p6 (n9 .tuple1) (bW (Φ 1041 [.int n]) (ok []))) (ok [])))=_;rw[Zn];show p6 _ (bW _ (bW (ok (D.tup (av aP (ae (zB n))))) _))=_;rw[bh];rfl
  ·obtain⟨y,hy,rfl⟩:=List.mem_map.mp hx;have:=List.mem_range.mp hy;left
 |4,_ =>
  refine A7 cT rfl (x:=.tup [.int ((n:Int)+1),.lst .al (bq rs)]) (by rw[gE,a_,t6,v2,a_,Qy];rfl) ?_;exact dC (aar (aaz (by left:((n:Int)+1).natAbs<=13) (by decide))) (nW rfl (by left) dr)
 |5,_ =>
  refine A7 cT rfl (x:=.tup [.int n,.lst .ow ((bq rs).map (aA aP)).reverse]) ?_ (vJ hn (nW rfl (by rw[List.length_reverse,List.length_map];left) λd hd=>?_))
  ·have:Φ 1026 [.lst .al (bq rs),.int (-1)]=ok (.lst .ow ((bq rs).map (aA aP)).reverse):=by rw[Q.Pw];rfl
   rw[gE,a_,v2,a_,xO,a_,Qy];show p6 _ (bW _ (bW (Φ 1026 [.lst .al (bq rs),.int (-1)]) (ok [])))=_;rw[this];rfl
  ·obtain⟨x,hx,rfl⟩:=List.mem_map.mp (List.mem_reverse.mp hd);rw[cL _ (λf=>by cases f<;>rfl)];exact dr x hx
 |6,_ =>
  refine pick cT (one _ (.tup [qD r.1,.lst .ow (ae r.2)]) rfl ?_ ?_ (dC (pP (by decide) sr) (fO (by left) FZ)))
  ·rw[gE,a_,v5,a_,vF,a_,v6];show p6 _ (bW _ (bW (ok (D.lst .ow (av aP (ae r.2)))) _))=_;rw[bh];rfl
  ·show(aU bD (qD r.1)||((false||aN bD (ae r.2))||false))=false;rw[eY];rfl
 |7,_ =>
  have b1:r.1.num.natAbs<16:=sr.1;have b2:r.1.den<16:=sr.2;have m1:bM .mul (.int 2) (.int r.1.num)=ok (.int (2*r.1.num)):=x4 (by decide);have m2:bM .mul (.int 2) (.int r.1.den)=ok (.int (2*r.1.den)):=x4 (by decide);refine pick cT (one _ (.tup [.tup [.int (2*r.1.num),.int (2*r.1.den)],.tup (ae r.2)]) rfl ?_ (by show(false||(aN bD (ae r.2)||false))=false;rw[eY];rfl) (dC (dC (aar (aaz (by left:(2*r.1.num).natAbs<=40) (by decide))) (aar (aaz (by left:(2*(r.1.den:Int)).natAbs<=40) (by decide)))) (fO (by left) FZ)));rw[gE,a_,a_,v6,gE,a_,a_,t6,t6,rg,rg,v5];show p6 _ (bW (p6 _ (bW (bM .mul (.int 2) (.int r.1.num)) (bW (bM .mul (.int 2) (.int r.1.den)) (ok [])))) _)=_;rw[m1,m2];rfl
 |8,_ =>
  obtain⟨g1,g2⟩:=eR (z.fdiv 16) (b:=6) (by decide);obtain⟨j,hj⟩:∃j:Nat,(z.fdiv 16).fmod 6=(j:Int):=⟨((z.fdiv 16).fmod 6).toNat,by left⟩
  let W:ab:=[.tup [.int n],.lst .ow [.int n,.lst .al (bq rs)],.bF,.tup [.lst .al (bq rs),.int n],.str "drawing",.tup [.int n,.tup (bq rs)]]
  have dn:bj 3 (.int n)=true:=aar (by rw[Int.natAbs_natCast];exact aaz hn (by decide));have dR:∀f,iO f=false->bj 3 (.lst f (bq rs))=true:=λf hf=>nW hf (by left) dr;have dT:bj 3 (.tup (bq rs))=true:=by
   show(decide ((bq rs).length<=16)&&(bq rs).all (bj 2))=true;rw[decide_eq_true (by left),List.all_eq_true.mpr dr];rfl
  have hW:∀d∈W,bj 4 d=true:=by
   intro d hd;simp only[W,List.mem_cons,List.not_mem_nil,or_false]at hd;rcases hd with rfl|rfl|rfl|rfl|rfl|rfl
   ·show(decide ((1:Nat)<=16)&&(bj 3 (.int n)&&true))=true;rw[dn];rfl
   ·show(true&&(decide ((2:Nat)<=16)&&(bj 3 (.int n)&&(bj 3 (.lst .al (bq rs))&&true))))=true;rw[dn,dR .al rfl];rfl
   ·rfl
   ·exact dC (dR .al rfl) dn
   ·rfl
   ·exact dC dn dT
  have Wl:j<W.length:=by show j<6;left
  refine A7 (x:=aA aP W[j]) cT rfl ?_ (by rw[cL _ (λf=>by cases f<;>rfl)];exact hW _ (aaP Wl));have t1:n9 .tuple1 [.lst .al (bq rs)]=ok (.tup (bq rs)):=by
   show ok (D.tup (av aP (bq rs)))=_;rw[eW]
  have e1:aW Φ (.lst [(.tup [(.v 2)]),(.lst [(.v 2),(.v 3)]),.bF,(.tup [(.v 3),(.v 2)]),(.str "drawing"),(.tup [(.v 2),(.bf .tuple1 [(.v 3)])])]) (bC n rs z (bq rs) k k2 r (8:Nat) none none)=ok (.lst .ow W):=by
   simp only[P2,a_,gE,t5,PY,P1,vF,v2,Qy,C2,LA,t1];rfl
  have e2:aW Φ (.bin .mod (.bin .fdiv (.v 1) (.int 16)) (.int 6)) (bC n rs z (bq rs) k k2 r (8:Nat) none none)=ok (.int j):=by
   have u1:aW Φ (.v 1) (bC n rs z (bq rs) k k2 r (8:Nat) none none)=ok (.int z):=rfl;rw[t6,t6,u1,xP,xP,xZ,ur (by decide) (by decide),xZ,iW (by decide),hj]
  show aW Φ UR _=_;unfold UR;rw[rg,e1,e2];exact at_of (by left) (by rw[Int.toNat_natCast];exact aan Wl)
 |9,_ =>
  by_cases h1:(1:Int)<rs.length
  ·refine pick (cB cT (by rw[cl,decide_eq_true h1])) ?_;obtain⟨q',l',Tz,i0,i1⟩:=SG rs none none rfl;have s2:gx Φ (.setI 3 (.v 4) (.tup [(.ix (.ix (.v 3) (.v 8)) (.int 0)),(.v 6)])) (bC n rs z (bq rs) k k2 r (9:Nat) none none)=ok (.nx,bC n rs z (bq (rs.set k (q',r.2))) k k2 r (9:Nat) none none):=by
    rw[<- qi];exact qf rfl (by rw[gE,a_,a_,i0,v6];rfl) (ve _ _ _) (by left)
   obtain⟨q2,l2,OL,_,i2⟩:=SG (rs.set k (q',r.2)) none none (by rw[List.length_set]);have rT:l2.length<=16/\∀x∈l2,-20<=x/\x<=20:=by
    rcases abt OL with h|h
    ·exact inR _ ⟨_,h⟩
    ·cases h;exact⟨by left,FZ⟩
   have s3:gx Φ (.setI 3 (.v 8) (.tup [(.v 5),(.ix (.ix (.v 3) (.v 8)) (.int 1))])) (bC n rs z (bq (rs.set k (q',r.2))) k k2 r (9:Nat) none none)=ok (.nx,bC n rs z ((bq (rs.set k (q',r.2))).set k2 (.tup [qD r.1,.tup (ae l2)])) k k2 r (9:Nat) none none):=by
    refine wz rfl ?_ (ve _ _ _) (by rw[gO,List.length_set];left);rw[gE,a_,a_,v5,i2];rfl
   refine⟨bC n rs z ((bq (rs.set k (q',r.2))).set k2 (.tup [qD r.1,.tup (ae l2)])) k k2 r (9:Nat) none none,by rw[U6,bG,s2,cX,bG,s3];rfl,fin 9 _ _ _ (by decide) rfl (by rw[List.length_set,gO,List.length_set];left) (i9 ?_ (dec_lt _ rT.1 rT.2))⟩;rw[<- qi];exact i9 dr (dC (pP (by decide) (I.sm _ Tz)) (fO (by left) FZ))
  ·have:aW Φ (.and [(.cmp .eq (.v 7) (.int 9)),(.cmp .gt (.bf .len [(.v 3)]) (.int 1))]) (bC n rs z (bq rs) k k2 r (9:Nat) none none)=ok (.bl false):=cB cT (by rw[cl,decide_eq_false h1]);show ∃d ρ',aV Φ (.ifs _ U6 []::bl.drop 10) _=_/\_;rw[dE this];exact fin 9 _ _ _ (by decide) rfl (by left) dr
theorem Jh(Φ:aY)(Q:BΦ Φ):Dz (mk Φ 2 11 og):=by
 intro n rs z I;have hp:0<rs.length:=List.length_pos_iff.mpr I.ne;have hf:=I.DS;obtain⟨g1,g2⟩:=eR (z.fdiv 16) (b:=(rs.length:Int)) (by left);obtain⟨k,hk⟩:∃k:Nat,(z.fdiv 16).fmod rs.length=(k:Int):=⟨((z.fdiv 16).fmod rs.length).toNat,by left⟩
 obtain⟨g3,g4⟩:=eR ((k:Int)+1) (b:=(rs.length:Int)) (by left);obtain⟨k2,Wk⟩:∃k2:Nat,((k:Int)+1).fmod rs.length=(k2:Int):=⟨(((k:Int)+1).fmod rs.length).toNat,by left⟩
 have Wi:k<rs.length:=by left
 have hr:rs[k]?=some rs[k]:=aan Wi;obtain⟨d,ρ',e,hd⟩:=Ql Φ Q I z hr (k2:=k2) (by left) (z.fmod 16);generalize rs[k]=r at *;refine⟨d,?_,hd⟩;have kb:d5 n rs=.tup [.int n,.lst .fz (bq rs)]:=rfl;have l0:rs.length≠0:=by left
 have m1:bM .mod (.int (z.fdiv 16)) (.int rs.length)=ok (.int k):=by rw[iW (by left),hk]
 have m2:bM .mod (.int ((k:Int)+1)) (.int rs.length)=ok (.int k2):=by rw[iW (by left),Wk]
 have m3:bM .mod (.int z) (.int 16)=ok (.int (z.fmod 16)):=iW (by decide);have m4:bM .fdiv (.int z) (.int 16)=ok (.int (z.fdiv 16)):=ur (by decide) (by decide);have a1:mx (bq rs) (k:Int)=ok (rD r):=V6 (by unfold bq;rw[List.getElem?_map,hr];rfl) (vi _ _);have eD:rD r=.tup [qD r.1,.tup (ae r.2)]:=rfl;have s:aV Φ Sh [some (d5 n rs),some (.int z),none,none,none,none,none,none,none,none,none]=ok (.nx,bC n rs z (bq rs) k k2 r (z.fmod 16) none none):=by
  unfold bC;rw[kb];simp[Sh,m1,m2,m3,m4,a1,eD]
 rw[mk_eq (ar:=2) (ds:=[d5 n rs,.int z]) rfl];show jk (aV Φ og [some (d5 n rs),some (.int z),none,none,none,none,none,none,none,none,none])=_;unfold og;rw[lg Φ _ _ _ _ s,e];rfl
noncomputable def Ap:ag:=[.asg (.nm 4) (.call 221 [(.v 2),(.call 200 [(.v 0),(.bin .add (.int 1) (.v 3))])]),.ifs (.cmp .gt (.v 3) (.int 7)) [.asg (.nm 4) (.call 28 [(.call 224 [(.v 0),(.bin .add (.int 20) (.v 3)),(.int 6)])])] []]
noncomputable def El:ag:=[.asg (.nm 5) (.bO 1080 [(.v 4)]),.asg (.nm 6) (.bf .list1 [(.v 1)]),.asg (.nm 7) (.call 27 [(.v 6),(.v 4)]),.asg (.nm 8) (.call 219 [(.v 4),(.v 1)]),.ifs (.or [(.not (.jW (.v 7) .bool)),(.cmp .ne (.v 7) (.v 8)),(.cmp .ne (.v 6) (.v 1)),(.cmp .ne (.bO 1080 [(.v 4)]) (.v 5))]) [.ret (.bl false)] []]
def IB:ag:=Ap++El
def kB:ag:=[.asg (.nm 1) (.call 224 [(.v 0),(.int 0),(.int 6)]),.asg (.nm 2) (.call 28 [(.bf .list1 [(.v 1)])]),.ifs (.not (.call 219 [(.v 2),(.v 1)])) [.ret (.bl false)] [],.fr (.nm 3) (.kF (.int 12)) IB,.ret (.bl true)]
structure Rm(Φ:aY):Prop where
 YW:H9 (Φ 27)
 WG:Dx (Φ 28)
 KG:v9 (Φ 200)
 Pl:HZ (Φ 219)
 Uo:Dz (Φ 221)
 Pk:Du (Φ 224)
 Pm:Φ 1080=sT
def jm(f:Fl)(n:Nat)(rs:aC):D:=.tup [.int n,.lst f (bq rs)]
theorem iH(g:Fl->Fl)(f:Fl)(n:Nat)(rs:aC):aA g (jm f n rs)=jm (g f) n rs:=by
 show D.tup [.int n,.lst (g f) (av g (bq rs))]=_;rw[eW];rfl
theorem ud{d:D}(h:bj 4 d=true):bj 8 d=true:=gW (gW (gW (gW h)))
theorem Bn.dec{n:Nat}(I:Bn n rs){f:Fl}(hf:iO f=false):bj 4 (jm f n rs)=true:=vJ I.n2 (nW hf (by rw[gO];have:=I.DS;left) λd hd=>by obtain⟨r,hr,rfl⟩:=List.mem_map.mp hd;exact I.Qa hr)
theorem Hu(n:Nat)(rs:aC):aU bD (jm .ow n rs)=false:=by
 show(false||(false||aN bD (bq rs)||false))=false;rw[Cf];rfl
theorem m8{ns:aa}(g:Fl->Fl)(hg:g .sc=.sc):aA g (.lst .sc (ae ns))=.lst .sc (ae ns):=by rw[aA,hg,bh]
theorem fB(g:Fl->Fl)(qs:aQ):av g (bu qs)=bu qs:=by simp
theorem MV(T:Rm Φ){n:Nat}(I:Bn n rs)(ns:aa){f:Fl}(hf:aK f=.fz)(k:Nat)(c1 c4 c5 c6 c7 c8:aH):
  ∃f' d,aK f'=.fz/\bj 4 d=true/\aV Φ Ap [some (.lst .sc (ae ns)),c1,some (jm f n rs),some (.int k),c4,c5,c6,c7,c8]=ok (.nx,[some (.lst .sc (ae ns)),c1,some (jm f' n rs),some (.int k),some d,c5,c6,c7,c8]):=by
 have UZ:=T.KG ns (1+(k:Int)) (by left);obtain⟨d,UU,hd⟩:=T.Uo n rs (eh ns (1+(k:Int))) I;have ev:aW Φ (.call 221 [(.v 2),(.call 200 [(.v 0),(.bin .add (.int 1) (.v 3))])]) [some (.lst .sc (ae ns)),c1,some (jm f n rs),some (.int k),c4,c5,c6,c7,c8]=ok (aA gB d):=by
  have a1:aW Φ (.call 200 [(.v 0),(.bin .add (.int 1) (.v 3))]) [some (.lst .sc (ae ns)),c1,some (jm f n rs),some (.int k),c4,c5,c6,c7,c8]=ok (.int (eh ns (1+(k:Int)))):=by
   show fP (Φ 200) (ok [aA aP (.lst .sc (ae ns)),.int (1+(k:Int))])=_;rw[ej];show tW (Φ 200 [aA aK (aA aP (.lst .sc (ae ns))),.int (1+(k:Int))])=_;rw[m8 aP rfl,m8 aK rfl,UZ];rfl
  rw[jH,a_,a_,a1];show fP (Φ 221) (ok [aA aP (jm f n rs),.int (eh ns (1+(k:Int)))])=_;rw[ej];show tW (Φ 221 [aA aK (aA aP (jm f n rs)),.int (eh ns (1+(k:Int)))])=_;rw[xD,iH,hf];show tW (Φ 221 [d5 n rs,_])=_;rw[UU];rfl
 have L8:bj 4 (aA gB d)=true:=by rw[cL _ (λf=>by cases f<;>rfl)];exact hd
 have sa:∃f' d',aK f'=.fz/\bj 4 d'=true/\gx Φ (.asg (.nm 4) (.call 221 [(.v 2),(.call 200 [(.v 0),(.bin .add (.int 1) (.v 3))])])) [some (.lst .sc (ae ns)),c1,some (jm f n rs),some (.int k),c4,c5,c6,c7,c8]=ok (.nx,[some (.lst .sc (ae ns)),c1,some (jm f' n rs),some (.int k),some d',c5,c6,c7,c8]):=by
  rw[jX,nu,ev];cases ha:aU bD (aA gB d)with
  |false=>rw[c_ ha];exact⟨f,_,hf,L8,rfl⟩
  |true =>
   rw[tH ha];refine⟨.fz,_,rfl,(by rw[cL _ (λf=>by cases f<;>rfl)];exact L8:bj 4 (aA aK (aA gB d))=true),?_⟩;show ok (Fo.nx,[some (aA aK (.lst .sc (ae ns))),c1,some (aA aK (jm f n rs)),some (.int k),some (aA aK (aA gB d)),c5,c6,c7,c8])=_;rw[m8 aK rfl,iH,hf]
 obtain⟨f1,d1,Ws,TQ,sa⟩:=sa;have cq:aW Φ (.cmp .gt (.v 3) (.int 7)) [some (.lst .sc (ae ns)),c1,some (jm f1 n rs),some (.int k),some d1,c5,c6,c7,c8]=ok (.bl (decide ((7:Int)<(k:Int)))):=rfl;by_cases hk:(7:Int)<(k:Int)
 ·obtain⟨qs,B,UT,S⟩:=T.Pk ns (20+(k:Int)) 6 (by left) (by decide) (by decide);obtain⟨s,es⟩:=S.su;obtain⟨s',zM,_⟩:=S.size;obtain⟨ss,US,J,_⟩:=T.WG .fz qs B s' S zM;have Y8:aW Φ (.call 28 [(.call 224 [(.v 0),(.bin .add (.int 20) (.v 3)),(.int 6)])]) [some (.lst .sc (ae ns)),c1,some (jm f1 n rs),some (.int k),some d1,c5,c6,c7,c8]=ok (jm .ow qs.length ss):=by
   have a1:aW Φ (.call 224 [(.v 0),(.bin .add (.int 20) (.v 3)),(.int 6)]) [some (.lst .sc (ae ns)),c1,some (jm f1 n rs),some (.int k),some d1,c5,c6,c7,c8]=ok (.lst .ow (bu qs)):=by
    show fP (Φ 224) (ok [aA aP (.lst .sc (ae ns)),.int (20+(k:Int)),.int 6])=_;rw[ej];show tW (Φ 224 [aA aK (aA aP (.lst .sc (ae ns))),.int (20+(k:Int)),.int 6])=_;rw[m8 aP rfl,m8 aK rfl];show tW (Φ 224 [.lst .sc (ae ns),.int (20+(k:Int)),.int ((6:Nat):Int)])=_;rw[UT,qX];simp
   rw[jH,a_,a1];show fP (Φ 28) (ok [.lst .ow (bu qs)])=_;rw[ej];show tW (Φ 28 [.lst .fz (av aK (bu qs))])=_;rw[fB,US,qX];exact aa5 ok (iH gB .ow qs.length ss)
  have sb:gx Φ (.asg (.nm 4) (.call 28 [(.call 224 [(.v 0),(.bin .add (.int 20) (.v 3)),(.int 6)])])) [some (.lst .sc (ae ns)),c1,some (jm f1 n rs),some (.int k),some d1,c5,c6,c7,c8]=ok (.nx,[some (.lst .sc (ae ns)),c1,some (jm f1 n rs),some (.int k),some (jm .ow qs.length ss),c5,c6,c7,c8]):=by
   rw[jX,nu,Y8,c_ (Hu _ _)];rfl
  refine⟨f1,jm .ow qs.length ss,Ws,J.dec rfl,?_⟩;unfold Ap;rw[bG,sa,cX,HP (by rw[cq,decide_eq_true hk]) (zW sb)];rfl
 ·refine⟨f1,d1,Ws,TQ,?_⟩;unfold Ap;rw[bG,sa,cX,dE (by rw[cq,decide_eq_false hk])];rfl
theorem MU(T:Rm Φ){s:Nat}(S:lM 12 qs B)(es:qs.sum=((s:Int):Rat))(a b c c5 c6 c7 c8:aH){d:D}(hd:bj 4 d=true):
  ∃uG pU kG Mj,aV Φ El [a,some (.lst .ow (bu qs)),b,c,some d,c5,c6,c7,c8]=ok (.nx,[a,some (.lst .ow (bu qs)),b,c,some d,uG,pU,kG,Mj]):=by
 have dz:bj 8 (aA aK d)=true:=by rw[cL _ (λf=>by cases f<;>rfl)];exact ud hd
 have da:bj 4 (aA aP d)=true:=by rw[cL _ (λf=>by cases f<;>rfl)];exact hd
 have eg:=T.Pl qs B s _ S es dz (xC d);have ef:=T.YW qs B s _ S es dz (xC d);have WV:Φ 1080 [aA aP d]=ok (.str (toPy (aA aP d)).shown):=by
  rw[T.Pm];show(if uX (aA aP d)=true then ok (D.str (toPy (aA aP d)).shown)else none)=_;rw[if_pos (IU da)]
 have Y7:=xD d;generalize (toPy (aA aP d)).shown=st at WV;generalize jB qs s (aA aK d)=g at eg ef;refine⟨some (.str st),some (.lst .ow (bu qs)),some (.bl g),some (.bl g),?_⟩;have n1:dH .ne (.bl g) (.bl g)=ok (.bl false):=by cases g<;>rfl
 have n2:dH .ne (.str st) (.str st)=ok (.bl false):=by
  show ok (D.bl (!(st==st)))=_;rw[beq_self_eq_true];rfl
 have n3:∀f f',dH .ne (.lst f (bu qs)) (.lst f' (bu qs))=ok (.bl false):=λf f'=>by
  have NO:∀f (l:aQ),eA 40 (.lst f (bu l))=true:=λf l=>by rw[w6];exact qx (λq=>w8 38 q) l
  rw[Qi (NO f _) (NO f' _)];show ok (D.bl (!fu (qs.map qD) (qs.map qD)))=_;rw[ki CF];simp
 have n8:bJ .bool (.bl g)=true:=rfl;have l1:∀f,n9 .list1 [.lst f (bu qs)]=ok (.lst .ow (bu qs)):=λf=>by
  show ok (D.lst .ow (av aP (bu qs)))=_;rw[fB]
 simp[El,WV,eg,ef,Y7,l1,n1,n2,n3,n8]
theorem N8{Φ:aY}(T:Rm Φ){qs:aQ}{B s:Nat}(S:lM 12 qs B)(es:qs.sum=((s:Int):Rat)){n:Nat}{rs:aC}(I:Bn n rs)(ns:aa):∀(ks:aM) (f:Fl) (c3 c4 c5 c6 c7 c8:aH),aK f=.fz ->
  ∃ρ',dG (λd ρ=>cu (.nm 3) d ρ) (λρ=>aV Φ IB ρ) (ks.map λ(i:Nat)=>D.int (i:Int)) [some (.lst .sc (ae ns)),some (.lst .ow (bu qs)),some (jm f n rs),c3,c4,c5,c6,c7,c8]=ok (.nx,ρ')
 |[],f,c3,c4,c5,c6,c7,c8,_=>⟨_,rfl⟩
 |k::ks,f,c3,c4,c5,c6,c7,c8,hf=>by
  obtain⟨f',d,TM,hd,ea⟩:=MV T I ns hf k (some (.lst .ow (bu qs))) c4 c5 c6 c7 c8;obtain⟨uG,pU,kG,Mj,eb⟩:=MU T S es (some (.lst .sc (ae ns))) (some (jm f' n rs)) (some (.int k)) c5 c6 c7 c8 hd;obtain⟨ρ',ih⟩:=N8 T S es I ns ks f' (some (.int k)) (some d) uG pU kG Mj TM;refine⟨ρ',?_⟩;rw[List.map_cons];refine dF (ρ1:=[some (.lst .sc (ae ns)),some (.lst .ow (bu qs)),some (jm f n rs),some (.int k),c4,c5,c6,c7,c8]) (by simp) (ρ2:=[some (.lst .sc (ae ns)),some (.lst .ow (bu qs)),some (jm f' n rs),some (.int k),some d,uG,pU,kG,Mj]) ?_ ih;show aV Φ (Ap++El) _=_;rw[lg Φ _ _ _ _ ea,eb]
theorem Od(Φ:aY)(T:Rm Φ)(ns:aa):mk Φ 1 9 kB [.lst .sc (ae ns)]=ok (.bl true):=by
 obtain⟨qs,B,e1,S⟩:=T.Pk ns 0 6 (by decide) (by decide) (by decide);obtain⟨s,es,_⟩:=S.size;have W3:=S.le (k:=12) (by decide);obtain⟨rs,US,I,hj⟩:=T.WG .fz qs B s S es;obtain⟨ρ',el⟩:=N8 T W3 es I ns (List.range 12) .ow none none none none none none rfl;have hit:eI Φ (.kF (.int 12)) [some (.lst .sc (ae ns)),some (.lst .ow (bu qs)),some (jm .ow qs.length rs),none,none,none,none,none,none]=ok ((List.range 12).map λ(i:Nat)=>D.int (i:Int),[some (.lst .sc (ae ns)),some (.lst .ow (bu qs)),some (jm .ow qs.length rs),none,none,none,none,none,none]):=by
  rw[yK (n:=12) (by simp) (by decide) (by decide)];rfl
 have hf:=fZ (Φ:=Φ) (t:=.nm 3) (b:=IB) hit el;have e2:aW Φ (.call 224 [(.v 0),(.int 0),(.int 6)]) [some (.lst .sc (ae ns)),none,none,none,none,none,none,none,none]=ok (.lst .ow (bu qs)):=by
  show fP (Φ 224) (ok [aA aP (.lst .sc (ae ns)),.int 0,.int 6])=_;rw[ej];show tW (Φ 224 [aA aK (aA aP (.lst .sc (ae ns))),.int 0,.int 6])=_;rw[m8 aP rfl,m8 aK rfl];show tW (Φ 224 [.lst .sc (ae ns),.int 0,.int ((6:Nat):Int)])=_;rw[e1,qX];simp
 have s1:gx Φ (.asg (.nm 1) (.call 224 [(.v 0),(.int 0),(.int 6)])) [some (.lst .sc (ae ns)),none,none,none,none,none,none,none,none]=ok (.nx,[some (.lst .sc (ae ns)),some (.lst .ow (bu qs)),none,none,none,none,none,none,none]):=by
  rw[jX,nu,e2,c_ (by simp)];rfl
 have e3:aW Φ (.call 28 [(.bf .list1 [(.v 1)])]) [some (.lst .sc (ae ns)),some (.lst .ow (bu qs)),none,none,none,none,none,none,none]=ok (jm .ow qs.length rs):=by
  have a1:aW Φ (.bf .list1 [(.v 1)]) [some (.lst .sc (ae ns)),some (.lst .ow (bu qs)),none,none,none,none,none,none,none]=ok (.lst .ow (bu qs)):=by
   show ok (D.lst .ow (av aP (av aP (bu qs))))=_;rw[fB,fB]
  rw[jH,a_,a1];show fP (Φ 28) (ok [.lst .ow (bu qs)])=_;rw[ej];show tW (Φ 28 [.lst .fz (av aK (bu qs))])=_;rw[fB,US,qX];exact aa5 ok (iH gB .ow qs.length rs)
 have s2:gx Φ (.asg (.nm 2) (.call 28 [(.bf .list1 [(.v 1)])])) [some (.lst .sc (ae ns)),some (.lst .ow (bu qs)),none,none,none,none,none,none,none]=ok (.nx,[some (.lst .sc (ae ns)),some (.lst .ow (bu qs)),some (jm .ow qs.length rs),none,none,none,none,none,none]):=by
  rw[jX,nu,e3,c_ (Hu _ _)];rfl
 have eg:=T.Pl qs B s (d5 qs.length rs) W3 es (ud (I.dec rfl)) (t7 aK rfl _ _);rw[hj]at eg;have e4:aW Φ (.not (.call 219 [(.v 2),(.v 1)])) [some (.lst .sc (ae ns)),some (.lst .ow (bu qs)),some (jm .ow qs.length rs),none,none,none,none,none,none]=ok (.bl false):=by
  have a1:aW Φ (.call 219 [(.v 2),(.v 1)]) [some (.lst .sc (ae ns)),some (.lst .ow (bu qs)),some (jm .ow qs.length rs),none,none,none,none,none,none]=ok (.bl true):=by
   show fP (Φ 219) (ok [aA aP (jm .ow qs.length rs),aA aP (.lst .ow (bu qs))])=_;rw[ej];show tW (Φ 219 [aA aK (aA aP (jm .ow qs.length rs)),aA aK (aA aP (.lst .ow (bu qs)))])=_;rw[xD,xD,iH];show tW (Φ 219 [d5 qs.length rs,.lst .fz (av aK (bu qs))])=_;rw[fB,eg];rfl
  rw[PZ,a1];rfl
 rw[mk_eq (ar:=1) (ds:=[.lst .sc (ae ns)]) rfl];show jk (aV Φ kB [some (.lst .sc (ae ns)),none,none,none,none,none,none,none,none])=_;unfold kB;rw[bG,s1,cX,bG,s2,cX,dE e4,bG,hf,cX];rfl
end DI
end
section
namespace DI
open PySem PySem.Spec PyProof.Rows L2
def Df(K:ao)(x:Str)(st:Stmt):Prop:=∃f fd,G3 K x x st f fd/\PySem.W.nsIn K mainGlobals x=some (some (.ref f))
variable {K:ao}{st:Stmt}
theorem dmk{x:Str}{f:Addr}{oc:Value}{od an:Option Addr}{sl:Array (Option Value)}{kV dc pm cd ct:Value}(a:PySem.W.nsIn K mainGlobals x=some (some (.ref f)))(l:K.lookup f=some ⟨oc,od,.func (PySem.W.fnOf x x (f_ st) (dB st) (bE st) .none kV dc pm an cd ct),sl⟩)(c:PySem.W.codeIn K cd x=true)(k:PySem.W.keepIn K (.ref f)=true):Df K x st:=⟨f,_,KN l c k,a⟩
noncomputable def WI(N P:ai)(sc:Scope):Bool:=decide (sc.kind=.function)&&(!sc.isCoroutine&&(!sc.isGenerator&&(decide N.Nodup&&(decide (N.take P.length=P)&&(P.all (λx=>decide (sc.names.lookup x=some .local\/sc.names.lookup x=some .cell))&&sc.names.all λy=>decide (y.2≠.free))))))
variable {N:ai}
theorem HF{P:ai}{sc:Scope}(h:WI N P sc=true):jh N P sc:=by
 obtain⟨h1,h⟩:=aJ h;obtain⟨h2,h⟩:=aJ h;obtain⟨h3,h⟩:=aJ h;obtain⟨h4,h⟩:=aJ h;obtain⟨h5,h⟩:=aJ h;obtain⟨h6,h7⟩:=aJ h;exact⟨aab h1,lC h2,lC h3,aab h4,aab h5,λx hx=>aab (List.all_eq_true.mp h6 x hx),λy hy=>aab (List.all_eq_true.mp h7 y hy)⟩
def Rh(st:Stmt)(N ps:ai)(tb:List (Nat×Str))(bl:ai)(cs:List (Str×GK))(px:Px)(b:ag):Bool:=WI N ps (bE st)&&kr ⟨bE st,N,λn=>List.lookup n tb,bl,cs,px⟩ b (dB st)
theorem u1{α:Type}{P:List α->Prop}(h:∀a,P [a])(us:List α)(e:us.length=1):P us:=by obtain⟨a,rfl⟩:=Ob e;exact h a
theorem u2{α:Type}{P:List α->Prop}(h:∀a b,P [a,b])(us:List α)(e:us.length=2):P us:=by obtain⟨a,b,rfl⟩:=Oa e;exact h a b
theorem u3{α:Type}{P:List α->Prop}(h:∀a b c,P [a,b,c])(us:List α)(e:us.length=3):P us:=by obtain⟨a,b,c,rfl⟩:=N_ e;exact h a b c
theorem u4{α:Type}{P:List α->Prop}(h:∀a b c d,P [a,b,c,d])(us:List α)(e:us.length=4):P us:=by obtain⟨a,b,c,d,rfl⟩:=Sw e;exact h a b c d
variable {P:aF}{base:Heap}{mg:Str->Option Value}{w:World}
theorem Ent.u{k k':Nat}{y:Str}{m:aw}(h:Ent P w K mg base k y m)(hk:k<=k':=by decide):Ent P w K mg base k' y m:=h.up hk
theorem en{h:Heap}(X:K.In h)(G:h.Ns mainGlobals mg)⦃x:Str⦄⦃st:Stmt⦄⦃N ps bl:ai⦄⦃tb:List (Nat×Str)⦄⦃cs:List (Str×GK)⦄⦃px:Px⦄⦃b:ag⦄(k:Nat)(Φ:aY)(m:aw)(d:Df K x st)(hc:Rh st N ps tb bl cs px b=true)
  (hp:v_ px Φ/\LH px Φ) (F4:dK (λy=>mg y=none) bl) (pA:dK (λp:Str×GK=>∃u,mg p.1=some u/\G1 K p.2 u) cs)
  (hf:dK (λp:Nat×Str=>Ent P w K mg base k p.2 (Φ p.1)) tb) (hm:∀ds r,m ds=ok r->ds.length=ps.length/\ql Φ N.length b ds=ok r) (hb:∀(kV doc pm:Value) (an:Option Addr) (ju ct:Value) (us:aq),us.length=ps.length->bindArgs (PySem.W.fnOf x x (f_ st) (dB st) (bE st) .none kV doc pm an ju ct) ⟨us,[]⟩=pure (ps.zip us):=by first|exact λ_ _ _ _ _ _=>u1 λ_=>rfl|exact λ_ _ _ _ _ _=>u2 λ_ _=>rfl|exact λ_ _ _ _ _ _=>u3 λ_ _ _=>rfl|exact λ_ _ _ _ _ _=>u4 λ_ _ _ _=>rfl|exact λ_ _ _ _ _ _=>u5 λ_ _ _ _ _=>rfl):Ent P w K mg base (k+1) x m:=by
 obtain⟨f,fd,Fu,a⟩:=d;obtain⟨h1,h2⟩:=aJ hc;exact ent Fu (PySem.W.mg_of X G a) (Fu.binds hb) (HF h1) h2 hp.1 hp.2 (dK.mem F4) (dK.two (P:=λy i=>∃u,mg y=some u/\G1 K i u) pA) (dK.tab (P:=λg y=>Ent P w K mg base k y (Φ g)) hf) hm
noncomputable def xm(PT F:aY)(i:Nat)(m:aw):aY:=λn=>bif Nat.ble 1000 n then PT n else bif Nat.beq n i then m else F n
theorem V_{α:Type}{Q:Nat->Prop}(p:Nat){k:Nat}{a b c:α}(h:(if p=k then a else b)=c)(h1:a=c->Q k)(h2:b=c->Q p):Q p:=by
 by_cases e:p=k
 ·subst e;rw[if_pos rfl]at h;exact h1 h
 ·rw[if_neg e]at h;exact h2 h
variable {F:Addr->Prop}{Z:Cx}{cs:aE}{Φ:aY}
theorem xj{α:Type}{e:Expr}{p k:Nat}{a b c:α}(h:(if p=k then a else b)=c)(h1:a=c->PE Z e (tD Z F Φ (.bO k cs))/\L2.PT Z e (fA Z F Φ (.bO k cs)))(h2:b=c->PE Z e (tD Z F Φ (.bO p cs))/\L2.PT Z e (fA Z F Φ (.bO p cs))):PE Z e (tD Z F Φ (.bO p cs))/\L2.PT Z e (fA Z F Φ (.bO p cs)):=V_ (Q:=λp=>PE Z e (tD Z F Φ (.bO p cs))/\L2.PT Z e (fA Z F Φ (.bO p cs))) p h h1 h2
theorem Yb{α:Type}{i p k:Nat}{a b c:α}(h:(if p=k then a else b)=c)(h1:a=c->PS Z st (qc Z F Φ (.mut k i cs)))(h2:b=c->PS Z st (qc Z F Φ (.mut p i cs))):PS Z st (qc Z F Φ (.mut p i cs)):=V_ (Q:=λp=>PS Z st (qc Z F Φ (.mut p i cs))) p h h1 h2
theorem h_:True:=trivial
theorem dK.nn{K:ao}{h:Heap}{mg:bc}(X:K.In h)(G:h.Ns mainGlobals mg):∀{l:ai},dK (λy=>PySem.W.nsIn K mainGlobals y=some none) l->dK (λy=>mg y=none) l
 |[],_=>trivial
 |_::_,z=>⟨PySem.W.mg_none_of X G z.1,dK.nn X G z.2⟩
theorem Zd{P:aF}{w:World}{K:ao}{h base:Heap}{mg:bc}{bl:ai}{cs:List (Str×GK)}{px:Px}{PT:aY}(X:K.In h)(G:h.Ns mainGlobals mg)(hp:∀F i m,v_ px (xm PT F i m)/\LH px (xm PT F i m))(F4:dK (λy=>mg y=none) bl)(pA:dK (λp:Str×GK=>∃u,mg p.1=some u/\G1 K p.2 u) cs)
  ⦃x:Str⦄ ⦃st:Stmt⦄ (k:Nat) (Φ:aY) (d:Df K x st) (N:ai) (a:Nat) (tb:List (Nat×Str)) (b:ag)
  (hf:dK (λp:Nat×Str=>Ent P w K mg base k p.2 (Φ p.1)) tb) (hc:Rh st N (N.take a) tb bl cs px b=true:=by decide +kernel) (e:∃F i m,Φ=xm PT F i m:=by exact⟨_,_,_,rfl⟩) (ha:(N.take a).length=a:=by rfl) (hb:∀(kV doc pm:Value) (an:Option Addr) (ju ct:Value) (us:aq),us.length=a->bindArgs (PySem.W.fnOf x x (f_ st) (dB st) (bE st) .none kV doc pm an ju ct) ⟨us,[]⟩=pure ((N.take a).zip us):=by first|exact λ_ _ _ _ _ _=>u1 λ_=>rfl|exact λ_ _ _ _ _ _=>u2 λ_ _=>rfl|exact λ_ _ _ _ _ _=>u3 λ_ _ _=>rfl|exact λ_ _ _ _ _ _=>u4 λ_ _ _ _=>rfl|exact λ_ _ _ _ _ _=>u5 λ_ _ _ _ _=>rfl):Ent P w K mg base (k+1) x (mk Φ a N.length b):=by
 obtain⟨F,i,m,e⟩:=e;exact en X G k Φ _ d hc (e▸hp F i m) F4 pA hf (λds r q=>⟨(vg ds r q).1.trans ha.symm,(vg ds r q).2⟩) (λkV doc pm an ju ct us hu=>hb kV doc pm an ju ct us (hu.trans ha))
theorem Zc{x:Str}{ps bl:ai}{tb:List (Nat×Str)}{cs:List (Str×GK)}{px:Px}{b:ag}{f:Addr}{fd:FuncData}(k:Nat)(Φ:aY)(m:aw)(Fu:G3 K x x st f fd)(hc:Rh st N ps tb bl cs px b=true)
  (hp:v_ px Φ/\LH px Φ) (F4:dK (λy=>mg y=none) bl) (pA:dK (λp:Str×GK=>∃u,mg p.1=some u/\G1 K p.2 u) cs)
  (hf:dK (λp:Nat×Str=>Ent P w K mg base k p.2 (Φ p.1)) tb) (hm:∀ds r,m ds=ok r->ds.length=ps.length/\ql Φ N.length b ds=ok r):jn P w K mg base zQ (k+1) f fd ps (Es K ps.length m):=by
 obtain⟨h1,h2⟩:=aJ hc;exact tY Fu (HF h1) h2 hp.1 hp.2 (dK.mem F4) (dK.two (P:=λy i=>∃u,mg y=some u/\G1 K i u) pA) (λg y h=>(dK.tab (P:=λg y=>Ent P w K mg base k y (Φ g)) hf g y h).ex) hm
end DI
end
namespace PySem.W.Fast
def tw8632937542284937888:=0
def tw10497900638669067727:=0
def tw2734717574076305207:=0
def tw8132954379195332746:=0
def tw4408420811691626570:=0
def tw12203756354627992036:=0
def tw491288418195921015:=0
def tw16078552653966624026:=0
def tw7629678539542504011:=0
def tw10898531872542448963:=0
def tw8298254437815984912:=0
def tw11190371993526538601:=0
def tw17776514999470086716:=0
def tw1540000846703463064:=0
def tw803009468969263144:=0
def tw4322933446902297883:=0
def tw12358364032154048399:=0
def tw12162655596358974905:=0
def tw3435863916773441082:=0
def tw4849098664431528230:=0
def tw11899756984219625043:=0
def tw15553251768418232188:=0
def tw11060677838852447847:=0
def tw8081058513831893288:=0
def tw17667251791233364538:=0
def tw1008909118329858612:=0
def tw11555419571226181474:=0
def tw7434967009914414638:=0
def tw3750769664661177548:=0
def tw4313474569980461902:=0
def tw5028976060677383353:=0
def tw871141321175878051:=0
def tw13716108312026381665:=0
def tw14718257968760689155:=0
def tw14163356471220036379:=0
def tw895052064507031630:=0
def tw4503971743549787628:=0
def tw12391272179207166394:=0
def tw3899315899524864819:=0
def tw15189501281208436537:=0
def tw10806684566906006393:=0
def tw12789868196879755482:=0
def tw17873978835040675781:=0
def tw1297769394070412030:=0
def tw11440916336570938402:=0
def tw135281692265583229:=0
def tw10857731623341454849:=0
def tw18029467238964323732:=0
def tw17555553981055599448:=0
def tw9929921930625490771:=0
def tw18009050141081428546:=0
def tw1349031734719107112:=0
def tw11948020590959378108:=0
def tw18252050893147375589:=0
def tw16041332236764097125:=0
def tw12408970573546174154:=0
def tw2297775060970069992:=0
def tw12276361668308903940:=0
def tw17180967861427884756:=0
def tw10860887059618564622:=0
def tw6424509219622921676:=0
def tw572019009450447161:=0
def tw4063130303758815386:=0
def tw2830072064350331732:=0
def tw10456661390167191156:=0
def tw2675578179939660642:=0
def tw14321747433806225307:=0
def tw16217124842092344482:=0
def tw4992714122937191738:=0
def tw670984524164428115:=0
def tw17511908952685774298:=0
def tw16590403435214526019:=0
def tw7306016300656259482:=0
def tw7333927146045876560:=0
def tw8045619854656208035:=0
def tw12777733510110883076:=0
def tw6083260452522233003:=0
def tw4466359567270606999:=0
def tw9897713014150347131:=0
def tw3589278407341165216:=0
def tw1585778854777553778:=0
def tw10303122042702911647:=0
def tw2185099959484189963:=0
def tw11242630288741331223:=0
def tw16837087910645820171:=0
def tw11863772825807389376:=0
def tw15776809002264723091:=0
def tw13995181276203768153:=0
def tw8482518309821489699:=0
def tw3692778162820407552:=0
def tw17822819646665381173:=0
def tw3074194967835005797:=0
def tw12602774586669652371:=0
def tw10805336095012654795:=0
def tw15861465607014631096:=0
def tw11953783614043678576:=0
def tw1972124618859849231:=0
def tw9177984956640344475:=0
def tw13540744785261911273:=0
def tw15666363878353967654:=0
def tw16680105187399649024:=0
def tw1644277625543547966:=0
def tw1791484228201282303:=0
def tw11938578539531263910:=0
def tw4212275781704558303:=0
def tw16069876884241952785:=0
def tw677605919168335799:=0
def tw12356495830911345698:=0
def tw14324712041395840709:=0
def tw7741685115922432923:=0
def tw8141820732624924369:=0
def tw12297659899515280459:=0
def tw12793775219720753373:=0
def tw7187430102495161636:=0
def tw5021029716313141430:=0
def tw8306353971092259562:=0
def tw15116628074369833428:=0
def tw4592587885364315796:=0
def tw8150409177599020823:=0
def tw4072852035057494803:=0
def tw2453944390331146773:=0
def tw3989518574684791480:=0
def tw12636909775142577038:=0
def tw16128847199319410494:=0
def tw16642458198382372513:=0
def tw7628824963489379204:=0
def tw15258187672701565419:=0
def tw9604735996465203413:=0
def tw7416116407578141607:=0
def tw18159878226625169895:=0
end PySem.W.Fast
namespace Asm
open PySem PySem.Spec PyProof.Rows L2 DI
noncomputable def top(i:Nat):Stmt:=PySem.Challenge.pw_sharesample_k10_judge_of_shares.main.body.getD i (.Pass ⟨0,0,0,0⟩)
def px:Px:=⟨λn sc bl e=>if n=1020 then kX true sc bl e else if n=1021 then kX false sc bl e else if n=1022 then Dg sc bl e else if n=1023 then kX true sc bl e else if n=1025 then C9 sc bl e else if n=1026 then C5 sc bl e else if n=1030 then rq sc bl e else if n=1031 then rz sc bl e else if n=1032 then vQ sc bl e else if n=1035 then dJ "sorted" sc bl e else if n=1040 then Dc sc bl e else if n=1041 then xW sc bl e else if n=1071 then xX "sorted" "set" sc bl e else if n=1080 then dJ "repr" sc bl e else none,λn sc bl e=>if n=1000 then n6 sc bl e else if n=1001 then dJ "enumerate" sc bl e else none,λn sc bl e=>if n=1033 then rn sc bl e else none⟩
noncomputable def PT:aY
 |1000=>zU
 |1001=>t4
 |1020=>(cutD true)
 |1021=>(cutD false)
 |1022=>Mb
 |1023=>xT
 |1025=>FH
 |1026=>wL
 |1030=>CT
 |1031=>uc
 |1032=>CV
 |1033=>t_
 |1035=>nS
 |1040=>N5
 |1041=>N7
 |1071=>LM
 |1080=>sT
 |_=>λ_=>none
theorem pr(F:aY)(i:Nat)(m:aw):v_ px (xm PT F i m)/\LH px (xm PT F i m):=⟨⟨(λX sc bl k L p e args he F cs hs=>xj he (λhe=>CZ rfl L he hs) λhe=>xj he (λhe=>CZ rfl L he hs) λhe=>xj he (λhe=>PF rfl L he hs) λhe=>xj he (λhe=>GH rfl L he hs) λhe=>xj he (λhe=>J6 rfl L he hs) λhe=>xj he (λhe=>EM rfl L he hs) λhe=>xj he (λhe=>Gz rfl L he hs) λhe=>xj he (λhe=>GD rfl L he hs) λhe=>xj he (λhe=>Lq rfl L he hs) λhe=>xj he (λhe=>CP rfl L he hs) λhe=>xj he (λhe=>N4 rfl L he hs) λhe=>xj he (λhe=>N6 rfl L he hs) λhe=>xj he (λhe=>MW rfl L he hs) λhe=>xj he (λhe=>EN rfl L he hs) λhe=>nomatch he),(λX sc bl k L p e args he F cs tg ht hs pins s σ H R τ ρ xs d items I Si cp ed ei Rr hR=>by
  dsimp only[px]at he;by_cases hp:p=1000
  ·subst hp;rw[if_pos rfl]at he;exact Ig rfl L he ht hs I Si cp ed ei Rr hR
  rw[if_neg hp]at he;clear hp;by_cases hp:p=1001
  ·subst hp;rw[if_pos rfl]at he;exact Gj rfl L he ht hs I Si cp ed ei Rr hR
  rw[if_neg hp]at he;clear hp;cases he)⟩,⟨(λX sc bl k L hN DN p st x pos args he i hi hl pe F cs hs=>Yb he (λhe=>Gy rfl L hN DN he hi hl pe hs) λhe=>nomatch he)⟩⟩
noncomputable def xt(F:aY)(i a b:Nat)(c:ag):aY:=xm PT F i (mk F a b c)
noncomputable def BL:ai:=["abs","all","bool","enumerate","int","isinstance","len","list","min","range","repr","set","sorted","sum","tuple","zip"]
noncomputable def CC:List (Str×GK):=[("MOST_HOUSES",GK.i 12)]
noncomputable def jP:aY:=xm PT PT 0 λ_=>none
noncomputable def lb:aY:=xt jP 201 2 4 (kA)
noncomputable def k9:aY:=xt lb 202 2 2 (x3 201)
noncomputable def jR:aY:=xt k9 203 2 2 (mq 201)
noncomputable def jQ:aY:=xt jR 221 2 11 (og)
noncomputable def oo:aY:=xt jQ 200 2 4 (fh)
noncomputable def k_:aY:=xt oo 204 1 1 (p5)
noncomputable def iZ:aY:=xt k_ 218 3 4 (zt)
noncomputable def jO:aY:=xt iZ 213 1 8 (kz)
noncomputable def hJ:aY:=xt jO 219 2 7 (vU)
noncomputable def eP:aY:=xt hJ 224 3 10 (rJ)
noncomputable def jS:aY:=xt eP 1 2 3 (dj)
noncomputable def gq:aY:=xt jS 0 1 1 (gX)
noncomputable def jT:aY:=xt gq 3 1 1 (bU)
noncomputable def fj:aY:=xt jT 23 1 1 (mr)
noncomputable def fm:aY:=xt fj 24 2 2 (rH)
noncomputable def iX:aY:=xt fm 9 1 3 (cG)
noncomputable def jM:aY:=xt iX 10 2 2 (gb)
noncomputable def fU:aY:=xt jM 25 1 3 (mv)
noncomputable def hZ:aY:=xt fU 26 1 1 (x8)
noncomputable def oq:aY:=xt hZ 43 2 2 (dk)
noncomputable def iY:aY:=xt oq 12 2 2 (fc)
noncomputable def fR:aY:=xt iY 44 1 3 (fb)
noncomputable def gn:aY:=xt fR 14 1 4 (jg)
noncomputable def jU:aY:=xt gn 15 1 2 (eU)
noncomputable def ou:aY:=xt jU 45 1 4 (bZ)
noncomputable def hU:aY:=xt ou 11 2 2 (gH)
noncomputable def fq:aY:=xt hU 16 1 1 (eu)
noncomputable def gu:aY:=xt fq 17 1 1 (cH)
noncomputable def gp:aY:=xt gu 2 2 3 (cN)
noncomputable def g_:aY:=xt gp 19 3 4 (mw)
noncomputable def fT:aY:=xt g_ 20 1 2 (kv)
noncomputable def hV:aY:=xt fT 27 2 5 (zu)
noncomputable def jN:aY:=xt hV 18 3 3 (x6)
noncomputable def fS:aY:=xt jN 29 4 4 (x5)
noncomputable def DD:aY:=xt fS 28 1 9 (Dk)
def Ek:=EG jP
def IA:=M6 lb (f:=201) Ek
def RM:=ED k9 (f:=201) Ek
def RL:=Jf oo
def RK:=M9 iZ IA
def RJ:=M_ k_
def RI:=Nb jO ⟨Ek,IA,RL,RK,RJ,rfl⟩
def RH:=Jh jR ⟨IA,RM,rfl,rfl,rfl,rfl⟩
def MQ:=Jg jQ
def RG:=Je hJ MQ Ek
def t1:=kN eP
def t0:=u0 jS
def t3:=oK gq t0 t1
def Xy:=EE jT t3
def Xx:=M7 fj Xy
def t9:=lQ fm t1
def IB:=sN iX
def VC:=Jd jM t9 IB
def VB:=Nh fU Xx (JY VC)
def t2:=oM gu t1
def XB:=Nf hV ⟨rfl,rfl,rfl,rfl,rfl⟩ t2
def Xu:=Na jN rfl
def Xv:=RU fS ⟨rfl,rfl,rfl,rfl,rfl⟩ t9 IB XB VB Xu rfl rfl rfl rfl
def VA:=qj hZ t0
def XE:=Jc oq t3 VA
def Xt:=EF iY rfl rfl rfl
def VE:=yw fR t9 IB rfl
def XD:=Jb gn VE
def Xs:=AK jU t0 XE XD Xt
def XF:=AJ ou VA
def VD:=EH hU XF Xs
def XC:=Ng fq VD
def XA:=RV gp t2
def Xz:=M8 g_ VE XC XA
def Xw:=Nc fT VD Xz VC VB
theorem yJ:∀ns:aa,(mk DD 1 9 (kB)) [.lst .sc (ae ns)]=ok (.bl true):=Od DD ⟨Xw,FE Xv,MQ,RI,RH,RG,rfl⟩
theorem Lv:Rh (top 47) ["_law_script","_law_shares_here","_law_drawing","_law_k","_law_thing","_law_kept","_law_handed","_law_found","_law_due"] ["_law_script"] [(27,"judge_shares"),(28,"line_drawing"),(200,"_law_cell"),(219,"_law_good"),(221,"_law_bent"),(224,"_law_shares")] BL CC px (kB)=true:=by decide +kernel
theorem all_mk{l:PySem.W.OpenLaw}{w:World}{K:ao}{h:Heap}{mg:bc}{fa:Addr}{Vs:Value}(X:K.In h)(G:h.Ns mainGlobals mg)(YA:mg "law" = some (.ref fa))
  (a0:Df K "_law_frac" (top 36))
  (a1:Df K "_law_add" (top 37))
  (a2:Df K "_law_mul" (top 38))
  (a3:Df K "_law_bent" (top 46))
  (a4:Df K "_law_cell" (top 35))
  (a5:Df K "_law_is" (top 43))
  (a6:Df K "_law_lot" (top 44))
  (a7:Df K "_law_pairs" (top 42))
  (a8:Df K "_law_good" (top 45))
  (a9:Df K "_law_shares" (top 41))
  (a10:Df K "common_divisor" (top 7))
  (a11:Df K "is_whole" (top 6))
  (a12:Df K "is_fraction" (top 9))
  (a13:Df K "is_share" (top 27))
  (a14:Df K "is_share_list" (top 28))
  (a15:Df K "common_bottom" (top 10))
  (a16:Df K "tops_over" (top 11))
  (a17:Df K "lot_size" (top 29))
  (a18:Df K "check_shares" (top 30))
  (a19:Df K "are_houses" (top 14))
  (a20:Df K "is_row" (top 16))
  (a21:Df K "rows_rise" (top 17))
  (a22:Df K "weighed_lots" (top 18))
  (a23:Df K "sums_to_one" (top 19))
  (a24:Df K "is_drawn" (top 20))
  (a25:Df K "is_lot" (top 15))
  (a26:Df K "is_drawing" (top 21))
  (a27:Df K "check_drawing" (top 22))
  (a28:Df K "fraction_of" (top 8))
  (a29:Df K "joint_share" (top 24))
  (a30:Df K "lot_shares" (top 25))
  (a31:Df K "judge_shares" (top 31))
  (a32:Df K "drawing_of" (top 23))
  (a33:Df K "line_lot" (top 33))
  (a34:Df K "line_drawing" (top 32))
  (a35:Df K "law" (top 47))
  (z:dK (λy=>PySem.W.nsIn K mainGlobals y=some none) BL)
  (q0:PySem.W.nsIn K mainGlobals "MOST_HOUSES" = some (some Vs)) (r0:RelV (.int 12) Vs) :
  ∃fd:FuncData,(∀(s:Shared) (v:Value),BindsTo s fd ⟨[v],[]⟩ [("_law_script",v)])/\∀base:Heap,K.In base->base.Ns mainGlobals mg->jn l.prog w K mg base zQ 37 fa fd ["_law_script"] (Es K 1 qF):=by
 obtain⟨f,fd,Fu,a⟩:=a35;have e:=YA.symm.trans (PySem.W.mg_of X G a);cases e;obtain⟨oc,od,kV,dc,pm,an,cd,ct,sl,rfl,_,_⟩:=id Fu.ex;have Y:=dK.nn X G z;have x0:∃u,mg "MOST_HOUSES" = some u/\G1 K (GK.i 12) u:=⟨_,PySem.W.mg_of X G q0,r0⟩
 refine⟨PySem.W.fnOf "law" "law" (f_ (top 47)) (dB (top 47)) (bE (top 47)) .none kV dc pm an cd ct,λs v=>.of_eq rfl,λbase _ _=>?_⟩;have N:=@Zd l.prog w K h base mg BL CC px PT X G pr Y ⟨x0,h_⟩;have E0:=N 1 jP a0 ["_law_top","_law_bottom","_law_one","_law_other"] 2 [] (kA) h_;have E1:=N 2 lb a1 ["_law_one","_law_other"] 2 [(201,"_law_frac")] (x3 201) ⟨E0.u,h_⟩;have E2:=N 3 k9 a2 ["_law_one","_law_other"] 2 [(201,"_law_frac")] (mq 201) ⟨E0.u,h_⟩;have E3:=N 4 jR a3 ["_law_drawing","_law_number","_law_many","_law_rows","_law_at","_law_chance","_law_lot_here","_law_way","_law_other","_law_less","_law_wider"] 2 [(202,"_law_add"),(203,"_law_mul")] (og) ⟨E1.u,E2.u,h_⟩;have E4:=N 5 jQ a4 ["_law_script","_law_k","_law_cell_here","_law_number"] 2 [] (fh) h_;have E5:=N 6 oo a5 ["_law_found"] 1 [] (p5) h_;have E6:=N 7 k_ a6 ["_law_thing","_law_many","_law_size","_law_k"] 3 [] (zt) h_;have E7:=N 8 iZ a7 ["_law_drawing","_law_found","_law_house","_law_row","_law_other","_law_share","_law_chance","_law_lot_here"] 1 [(202,"_law_add")] (kz) ⟨E1.u,h_⟩;have E8:=N 9 jO a8 ["_law_drawing","_law_shares_here","_law_total","_law_whole","_law_last","_law_row","_law_pairs_here"] 2 [(201,"_law_frac"),(202,"_law_add"),(204,"_law_is"),(213,"_law_pairs"),(218,"_law_lot")] (vU) ⟨E0.u,E1.u,E5.u,E7.u,E6.u,h_⟩;have E9:=N 10 hJ a9 ["_law_script","_law_at","_law_most","_law_number","_law_many","_law_bottom","_law_tops","_law_k","_law_lack","_law_less"] 3 [(200,"_law_cell"),(201,"_law_frac")] (rJ) ⟨E4.u,E0.u,h_⟩;have Vn:=N 11 eP a10 ["one","other","rest"] 2 [] (dj) h_;have Vm:=N 12 jS a11 ["thing"] 1 [] (gX) h_;have Xc:=N 13 gq a12 ["thing"] 1 [(0,"is_whole"),(1,"common_divisor")] (bU) ⟨Vm.u,Vn.u,h_⟩;have ZU:=N 14 jT a13 ["thing"] 1 [(3,"is_fraction")] (mr) ⟨Xc.u,h_⟩;have ZT:=N 15 fj a14 ["thing","most"] 2 [(23,"is_share")] (rH) ⟨ZU.u,h_⟩;have Vl:=N 16 fm a15 ["some","bottom","part"] 1 [(1,"common_divisor")] (cG) ⟨Vn.u,h_⟩;have Vk:=N 17 iX a16 ["some","bottom"] 2 [] (gb) h_;have Xb:=N 18 jM a17 ["shares","bottom","total"] 1 [(9,"common_bottom"),(10,"tops_over")] (mv) ⟨Vl.u,Vk.u,h_⟩;have Xa:=N 19 fU a18 ["thing"] 1 [(24,"is_share_list"),(25,"lot_size")] (x8) ⟨ZT.u,Xb.u,h_⟩;have W_:=N 20 hZ a19 ["thing","many"] 2 [(0,"is_whole")] (dk) ⟨Vm.u,h_⟩;have ZS:=N 21 oq a20 ["thing","many"] 2 [(3,"is_fraction"),(43,"are_houses")] (fc) ⟨Xc.u,W_.u,h_⟩;have ZR:=N 22 iY a21 ["rows","ahead","behind"] 1 [] (fb) h_;have W8:=N 23 fR a22 ["rows","chances","lots","bottom"] 1 [(9,"common_bottom"),(10,"tops_over")] (jg) ⟨Vl.u,Vk.u,h_⟩;have ZQ:=N 24 gn a23 ["rows","weighed"] 1 [(14,"weighed_lots")] (eU) ⟨W8.u,h_⟩;have ZP:=N 25 jU a24 ["thing","many","rows","row"] 1 [(0,"is_whole"),(12,"is_row"),(15,"sums_to_one"),(44,"rows_rise")] (bZ) ⟨Vm.u,ZS.u,ZQ.u,ZR.u,h_⟩;have ZO:=N 26 ou a25 ["thing","many"] 2 [(43,"are_houses")] (gH) ⟨W_.u,h_⟩;have W7:=N 27 hU a26 ["thing"] 1 [(11,"is_lot"),(45,"is_drawn")] (eu) ⟨ZO.u,ZP.u,h_⟩;have ZN:=N 28 fq a27 ["thing"] 1 [(16,"is_drawing")] (cH) ⟨W7.u,h_⟩;have W6:=N 29 gu a28 ["top","bottom","divisor"] 2 [(1,"common_divisor")] (cN) ⟨Vn.u,h_⟩;have ZM:=N 30 gp a29 ["weighed","one","other","having"] 3 [(2,"fraction_of")] (mw) ⟨W6.u,h_⟩;have ZL:=N 31 g_ a30 ["drawing","weighed"] 1 [(14,"weighed_lots"),(17,"check_drawing"),(19,"joint_share")] (kv) ⟨W8.u,ZN.u,ZM.u,h_⟩;have ZK:=N 32 fT a31 ["shares","drawing","size","chance","lot"] 2 [(16,"is_drawing"),(20,"lot_shares"),(25,"lot_size"),(26,"check_shares")] (zu) ⟨W7.u,ZL.u,Xb.u,Xa.u,h_⟩;have ZJ:=N 33 hV a32 ["many","weights","bottom"] 3 [(2,"fraction_of")] (x6) ⟨W6.u,h_⟩;have ZI:=N 34 jN a33 ["begin","starts","lengths","whole"] 4 [] (x5) h_;have ZH:=N 35 fS a34 ["shares","whole","lengths","starts","turns","weights","turn","until","lot"] 1 [(9,"common_bottom"),(10,"tops_over"),(18,"drawing_of"),(26,"check_shares"),(29,"line_lot")] (Dk) ⟨Vl.u,Vk.u,ZJ.u,Xa.u,ZI.u,h_⟩;exact Zc 36 DD qF Fu Lv (pr _ _ _) Y ⟨x0,h_⟩ ⟨ZK.u,ZH.u,E4.u,E8.u,E3.u,E9.u,h_⟩ (BA λns _=>(vg _ _ (yJ ns)).2)
theorem walk{l:PySem.W.OpenLaw}{q:aF}{loose:ai}{XP:(bc)->Heap->Prop}{YP:World->Heap->Prop}{d:DefRec}{K:Params->ao}(hn:l.most=some 63)(OY:d.params.defaults=[])
  (hY:∀(w:World) (h:Heap),YP w h->(K w.params).In h)
  (F:∀(w:World) (mg:bc) (fa:Addr) (h:Heap),(K w.params).In h->h.Ns mainGlobals mg->mg d.name=some (.ref fa) ->
   ∃fd:FuncData,(∀(s:Shared) (u:Value),BindsTo s fd ⟨[u],[]⟩ [("_law_script",u)])/\∀base:Heap,(K w.params).In base->base.Ns mainGlobals mg->jn l.prog w (K w.params) mg base zQ 37 fa fd ["_law_script"] (Es (K w.params) 1 qF)) :
  PySem.W.WalkO q loose XP YP l.row.toRowW d [] (λf vs=>PySem.call f vs) :=
 L2.D1 (n:=63) (k:=37) (x:="_law_script") (CX:=λ_=>zQ) (sp:=λw=>Es (K w.params) 1 qF) hn (by decide) OY ⟨rfl,by decide,by decide,rfl⟩ hY F (λw H a ns hl hO hS=>J7 (K w.params) H a ns qF (FC hl) hO hS) λ_ _ _ _ _ z=>z
end Asm
end
open PySem PySem.W PyProof.Rows
set_option maxRecDepth 100000 in
set_option maxHeartbeats 0 in
theorem PySem.Challenge.cw_sharesample_k10_judge_of_shares_holds : PySem.Challenge.rw_sharesample_k10_judge_of_shares.Holds := by
 w_on;o_law;k_head;(case hw=>w_witness2)
 k_fill
 refine Asm.walk (l:=PySem.Challenge.rw_sharesample_k10_judge_of_shares) rfl rfl (fun w h Y=>PySem.W.kIn_of Y) ?F
 case F =>
  intro w mg fa h KX G hmg
  refine' Asm.all_mk KX G hmg ?a0 ?a1 ?a2 ?a3 ?a4 ?a5 ?a6 ?a7 ?a8 ?a9 ?a10 ?a11 ?a12 ?a13 ?a14 ?a15 ?a16 ?a17 ?a18 ?a19 ?a20 ?a21 ?a22 ?a23 ?a24 ?a25 ?a26 ?a27 ?a28 ?a29 ?a30 ?a31 ?a32 ?a33 ?a34 ?a35 ?zz ?q0 ?r0
  case a0 | a1 | a2 | a3 | a4 | a5 | a6 | a7 | a8 | a9 | a10 | a11 | a12 | a13 | a14 | a15 | a16 | a17 | a18 | a19 | a20 | a21 | a22 | a23 | a24 | a25 | a26 | a27 | a28 | a29 | a30 | a31 | a32 | a33 | a34 | a35 =>
   refine' DI.dmk ?x ?y ?z ?w
   case x | y | z | w=>k_is
  (case zz=>refine' ⟨?_,?_,?_,?_,?_,?_,?_,?_,?_,?_,?_,?_,?_,?_,?_,?_,trivial⟩ <;> show PySem.W.nsIn _ _ _ = some none <;> k_is)
  (case q0=>k_is);(case r0=>exact ⟨_,rfl⟩)

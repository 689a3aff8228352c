import PyProof.Rows.All
import Wide.All
import OpenK.AllK
import Wide.FinOn
import Lean
import PyProof.EqAt
import PyProof.EqKinds
import PyProof.TupleCall
import PyProof.NeKinds
import KE.BitLaws
import PyProof.SumWalkG
import PyProof.ConsumeWalk
import PyProof.WalksMore
import KE.KSortedM
import PyProof.Rows.SetFrom
import PyProof.CompUse
import PyProof.ZipIter
import PyProof.ListRange
import PyProof.SliceList
import PyProof.SliceMore
import KE.KSortTup
import PyProof.EnumMake
import PyProof.DictRoadsH
import PyProof.DictKinds
import PyProof.DictIter
import PyProof.Rows.DictUnroll
import KE.KDictSum
import KE.KRevSl
import PyProof.NsDelKeeps
import PyProof.ExcBaseAll.ValueError
import PyProof.ExcAttrAll.ValueError
import PyProof.Rows.CountFlat
import PyProof.Draws
import PySem.Challenge.RW_sharesample_k21_refused_guesses
set_option tactic.hygienic false
set_option bootstrap.genMatcherCode false
set_option genSizeOf false
set_option genSizeOfSpec false
set_option Elab.async false
set_option linter.all false
set_option maxRecDepth 100000
local macro_rules | `(tactic| left) => `(tactic| first | assumption | exact Nat.zero_le _ | exact Int.natCast_nonneg _ | exact Int.ofNat_lt.mpr (by assumption) | exact Nat.le_of_lt (by assumption) | exact Nat.le_trans (by assumption) (by assumption) | exact Nat.lt_of_lt_of_le (by assumption) (by assumption) | lia | omega)
noncomputable section
abbrev zaa:=@List.length_map
abbrev zab:=@if_neg
abbrev zac:=@if_pos
abbrev zad:=@List.size_toArray
abbrev zae:=@List.length_cons
abbrev zaf:=@Bool.and_eq_true
abbrev zag:=@List.map_cons
abbrev zah:=@List.length_append
abbrev zai:=@List.not_mem_nil
abbrev zaj:=@Bool.false_ne_true
abbrev zak:=@List.mem_cons
abbrev zal:=@List.lookup_cons
abbrev zam:=@List.map_map
abbrev zan:=@Int.toNat_natCast
abbrev zao:=@Bool.and_false
abbrev zap:=@List.getD_eq_getElem?_getD
abbrev zaq:=@List.sum_cons
abbrev zar:=@List.length_replicate
abbrev zas:=@Int.natAbs_mul
abbrev zat:=@Bool.false_eq_true
abbrev zau:=@decide_eq_false
abbrev zav:=@Rat.intCast_natCast
abbrev zaw:=@List.all_cons
abbrev zax:=@List.map_append
abbrev zay:=@List.nil_append
abbrev zaz:=@Int.natAbs_natCast
abbrev zaA:=@Int.fdiv_eq_ediv_of_nonneg
abbrev zaB:=@decide_eq_true
abbrev zaC:=@Rat.divInt_eq_div
abbrev zaD:=@List.length_nil
abbrev zaE:=@Array.length_toList
abbrev zaF:=@List.replicate_succ
abbrev zaG:=@List.any_cons
abbrev zaH:=@List.all_eq_true
abbrev zaI:=@List.append_nil
abbrev zaJ:=@List.range_eq_range'
abbrev zaK:=@List.length_zip
abbrev zaL:=@List.length_take
abbrev zaM:=@List.mem_cons_self
abbrev zaN:=@List.all_map
abbrev zaO:=@List.flatten_cons
abbrev zaP:=@List.mem_cons_of_mem
abbrev zaQ:=@Bool.false_and
abbrev zaR:=@beq_self_eq_true
abbrev zaS:=@List.filterMap_cons
abbrev zaT:=@Rat.intCast_eq_zero_iff
abbrev zaU:=@Bool.or_eq_true
abbrev zaV:=@List.reverse_cons
abbrev zaW:=@Bool.not_eq_true'
abbrev zaX:=@List.length_singleton
abbrev zaY:=@Bool.or_true
abbrev zaZ:=@List.cons_append
abbrev zba:=@List.drop_eq_getElem_cons
abbrev zbb:=@List.zip_cons_cons
abbrev zbc:=@Nat.min_self
abbrev zbd:=@List.drop_zero
abbrev zbe:=@List.zipWith_map
abbrev zbf:=@List.map_zipWith
abbrev zbg:=@Nat.add_comm
abbrev zbh:=@List.forIn_cons
abbrev zbj:=@Rat.intCast_add
abbrev zbk:=@List.length_set
abbrev zbl:=@List.mem_range
abbrev zbm:=@List.contains_cons
abbrev zbn:=@Bool.true_and
abbrev zbo:=@List.append_assoc
abbrev zbp:=@List.mapM_toArray
abbrev zbq:=@List.all_eq_false
abbrev zbr:=@beq_iff_eq
abbrev zbs:=@List.all_toArray
abbrev zbt:=@Nat.mul_succ
abbrev zbu:=@Int.natCast_ediv
abbrev zbv:=@List.filter_cons_of_pos
abbrev zbw:=@List.filter_cons_of_neg
abbrev zbx:=@Bool.eq_iff_iff
abbrev zby:=@Option.map_some
abbrev zbz:=@Rat.intCast_mul
abbrev zbA:=@Bool.and_true
abbrev zbB:=@Bool.and_self
abbrev zbC:=@List.map_take
abbrev zbD:=@List.map_nil
abbrev zbE:=@Nat.succ_mul
abbrev zbF:=@Nat.mul_comm
abbrev zbG:=@Nat.zero_add
abbrev aaa:=@PySem.wpAny_bind
abbrev aab:=@of_decide_eq_true
abbrev aac:=@Bool.false_ne_true
abbrev aad:=@PySem.Heap.get?_push_of_some
abbrev aae:=@PySem.wpAny_pure
abbrev aaf:=@Nat.lt_of_lt_of_le
abbrev aag:=@PySem.Heap.lt_size
abbrev aah:=@List.mem_cons_of_mem
abbrev aai:=@List.mem_cons_self
abbrev aaj:=@Nat.le_refl
abbrev aak:=@Nat.ne_of_lt
abbrev aao:=@List.getElem?_eq_getElem
abbrev aap:=@List.mem_append_right
abbrev aaq:=@PySem.Heap.get?_push_size
abbrev aar:=@Nat.pow_le_pow_right
abbrev aas:=@List.cons.inj
abbrev aat:=@Option.some.inj
abbrev aav:=@PyProof.Rows.callWith_type1
abbrev aaw:=@Nat.lt_of_le_of_lt
abbrev aax:=@List.map_congr_left
abbrev aay:=@Nat.ne_of_gt
abbrev aaz:=@Nat.lt_irrefl
abbrev aaA:=@PySem.wpAny_mono
abbrev aaB:=@List.mem_append_left
abbrev aaC:=@List.mem_of_getElem?
abbrev aaR:=@Nat.lt_succ_of_lt
abbrev aaS:=@Nat.le_trans
abbrev aaT:=@decide_eq_true
abbrev aaU:=@congrArg
abbrev aaX:=@List.mem_map_of_mem
abbrev aaY:=@List.of_mem_zip
abbrev aaZ:=@PySem.wpAny_call_entry
abbrev aa0:=@PySem.wpAny_callSpecial?_slot
abbrev aa1:=@PySem.wpAny_truthy_bool
abbrev aa2:=@PySem.F.slot_dict_keyiterator_next
abbrev aa3:=@Nat.zero_le
abbrev aa4:=@PySem.Heap.get?_update_other
abbrev aa5:=@if_pos
abbrev aa6:=@List.getElem_mem
abbrev aa8:=@PySem.wpAny_Call_Name_kw
abbrev aa9:=@PySem.Heap.get?_update_self
abbrev aa_:=@PySem.wpAny_field
abbrev aba:=@PySem.W.kia_one
abbrev abb:=@PySem.wpAny_newObj_type
abbrev abc:=@PySem.wpAny_loadPart_at
abbrev abd:=@PySem.wpAny_holding
abbrev abf:=@PySem.W.mg_of
abbrev abg:=@PySem.wpAny_typeNameOfWhole_keyiter
abbrev abh:=@PySem.mem_of_lookup
abbrev abi:=@Nat.lt_succ_self
abbrev abj:=@List.getElem?_set_self
abbrev abk:=@PySem.wpAny_passesOwn
abbrev abl:=@decide_eq_false
abbrev abm:=@Array.getElem?_eq_getElem
abbrev abn:=@PySem.sizeLine_eq
abbrev abo:=@beq_self_eq_true
abbrev abp:=@PySem.wpAny_typeNameOf_keyiter
abbrev abq:=@Int.mul_fdiv_cancel_left
abbrev abr:=@List.mergeSort_perm
abbrev abt:=@PySem.Heap.SameBut.update
abbrev abu:=@PySem.codeAny_builtin
abbrev abv:=@PySem.F.slot_zip_next
abbrev abw:=@PySem.SeqAt.EqAt.bool_bool
abbrev abx:=@PySem.call_meets
abbrev abB:=@PySem.Calls.Name_function_global
abbrev abC:=@Nat.le_of_dvd
abbrev abD:=@Nat.mul_le_mul_left
abbrev abQ:=@PySem.wpAny_execs_nil
abbrev abR:=@PySem.SeqAt.EqAt.same
abbrev abS:=@List.length_map
abbrev abV:=@Int.mul_ne_zero
abbrev abW:=@PySem.Calls.spliced_cons
abbrev abX:=@PySem.F.args_tuple_add_2
abbrev abY:=@PySem.wpAny_getItem_list_slice
abbrev abZ:=@Nat.lt_trans
abbrev ab0:=@PySem.wpAny_seqItems
abbrev ab1:=@List.nodup_nil
abbrev ab3:=@PySem.F.entry_tuple_add
abbrev ab4:=@PySem.F.plainAttrs_list
abbrev ab5:=@PySem.Calls.spliced_nil
abbrev ab6:=@PySem.wpAny_pyIter_enum
abbrev ab7:=@PySem.F.slot_tuple_add
abbrev ab8:=@PyProof.Rows.subscriptTail_builtinR
abbrev ab9:=@PySem.wpAny_nextOf_list_item
abbrev ab_:=@Int.fmod_nonneg_of_pos
abbrev aca:=@PySem.wpAny_attempt
abbrev acb:=@Ne.symm
abbrev acd:=@PySem.F.slot_tuple_lt
abbrev ace:=@PySem.F.typeOf_object_class
abbrev acf:=@Eq.symm
abbrev acg:=@Nat.le_of_lt
abbrev ach:=@PySem.codeAny_mono
abbrev aci:=@PySem.Calls.evalArgs_plain
abbrev acj:=@PySem.codeAny_call_builtin
abbrev ack:=@PySem.wpAny_updateSeq
abbrev acm:=@Nat.div_le_self
abbrev acn:=@PySem.wpAny_setField
abbrev aco:=@Nat.mul_le_mul
abbrev acp:=@PySem.SeqAt.EqAt.int_int
abbrev acr:=@if_neg
abbrev acs:=@PySem.Code.quiet_builtin
abbrev acu:=@PySem.tupleKind_room_in1
abbrev acv:=@Int.fmod_lt_of_pos
abbrev acw:=@PySem.wpAny_newList
abbrev acx:=@Nat.le_succ_of_le
abbrev acy:=@List.ext_getElem?
abbrev acz:=@PySem.wpAny_dictEntries
abbrev acA:=@Int.natAbs_add_le
abbrev acB:=@Nat.succ_ne_self
abbrev acC:=@List.ext_getElem
abbrev acD:=@Nat.le_add_right
abbrev acE:=@Nat.le_succ
abbrev aK:=List (List Int)
abbrev ae:=List Int
abbrev aJ:=List Nat
abbrev av:=List PySem.Str
abbrev az:=List PySem.Value
abbrev ak:=List PySem.Expr
abbrev bo:=List PySem.Addr
abbrev aW:=List PySem.Stmt
abbrev aC:=List Rat
abbrev aY:=Array PySem.Value
abbrev ao:=PySem.W.Frag
abbrev aG:=PySem.Value->PySem.Shared->Prop
abbrev aw:=List (PySem.Addr×PySem.Obj)
abbrev ai:=PySem.Addr->Prop
abbrev aZ:=PySem.Str->Option PySem.Value
abbrev aM:=PySem.Program
abbrev aN:=PySem.Around
namespace L2
open PySem PySem.Spec PyProof.Rows
end L2
namespace L2
open PySem PySem.Spec PyProof.Rows
inductive V where
 |bz|bl (b:Bool)|int (i:Int)|str (x:Str)|VX (b:Array UInt8)|VL (b:UInt64)|ref (a:Addr)|ty (n:String)
 deriving DecidableEq
abbrev ag:=List V
def RelV:V->Value->Prop
 |.bz,u=>u=Value.none
 |.bl b,u=>u=Value.bool b
 |.int i,u=>∃t,u=Value.int i t
 |.str x,u=>∃t,u=Value.str x t
 |.VX b,u=>∃t,u=Value.bytes b t
 |.VL b,u=>∃t,u=Value.float b t
 |.ref a,u=>u=Value.ref a
 |.ty n,u=>u=Value.type n
abbrev Vals:ag->az->Prop:=Paired RelV
theorem Vals.length{xs:ag}{a:az}(r:Vals xs a):xs.length=a.length:=Paired.length r
theorem Vals.get:∀{xs:ag} {a:az} {i:Nat} {x:V},Vals xs a->xs[i]?=some x->∃u,a[i]?=some u/\RelV x u
 |_,_,_,_,.nil,e=>by simp at e
 |_,_,0,_,.cons r _,e=>by simp at e;subst e;exact⟨_,rfl,r⟩
 |_,_,i+1,x,.cons _ t,e=>by
  obtain⟨u,c,b⟩:=Vals.get (i:=i) (x:=x) t (by simpa using e);exact⟨u,by simpa using c,b⟩
theorem Vals.append:∀{xs a:ag} {b ws:az},Vals xs b->Vals a ws->Vals (xs++a) (b++ws)
 |_,_,_,_,.nil,s=>s
 |_,_,_,_,.cons r t,s=>.cons r (Vals.append t s)
theorem Vals.take:∀{xs:ag} {a:az} (n:Nat),Vals xs a->Vals (xs.take n) (a.take n)
 |_,_,0,_=>.nil
 |_,_,_+1,.nil=>.nil
 |_,_,n+1,.cons r t=>.cons r (Vals.take n t)
theorem Vals.drop:∀{xs:ag} {a:az} (n:Nat),Vals xs a->Vals (xs.drop n) (a.drop n)
 |_,_,0,r=>r
 |_,_,_+1,.nil=>.nil
 |_,_,n+1,.cons _ t=>Vals.drop n t
def uy:Option V->Option Value->Prop
 |some v,some u=>RelV v u
 |none,none=>True
 |_,_=>False
inductive HO where
 |lst (xs:ag)|tup (xs:ag)|ku (lo hi:Int)|jo (o:Obj) (u:HO)|ext (φ:Heap->Prop)
abbrev Hp:=Addr->Option HO
noncomputable def upd(H:Hp)(a:Addr)(o:HO):Hp:=λb=>if b=a then some o else H b
variable {H:Hp}
def bc{a:Addr}{o:HO}:upd H a o a=some o:=by unfold upd;rw[zac rfl]
def bq{a b:Addr}{o:HO}(h:b≠a):upd H a o b=H b:=by unfold upd;rw[zab h]
def d6{a b:Addr}{o:HO}(h:H a=some o)(h':H b=none):a≠b:=by
 intro e;subst e;rw[h]at h';cases h'
section
def dh(H:Hp)(h:Heap)(a:Addr):HO->Prop
 |.lst b=>b.length<=sizeLine/\∃(c:az) (n:Nat),Vals b c/\h.get? a=some { cls:=.type "list",data:=.seq c.toArray n }
 |.tup b=>b.length<=sizeLine/\∃c:az,Vals b c/\IsTup h a c.toArray
 |.ku g i=>∃t u v,h.get? a=some { cls:=.type "range",data:=.fields #[.int g t,.int i u,.int 1 v] }
 |.jo o u=>h.get? a=some o/\dh H h a u
 |.ext d=>d h/\(∃o,h.get? a=some o)/\∀f e:Heap,d f->(∀o,f.get? a=some o->e.get? a=some o)->d e
def kn(H:Hp)(h:Heap):Prop:=∀a o,H a=some o->dh H h a o
end
section
variable {P:aM}{w:World}{H H':Hp}{h h':Heap}{a:Addr}{o:HO}
def gR(x:dh H h a o):∃u,h.get? a=some u:=by
 cases o with
 |lst b=>obtain⟨_,_,_,_,e⟩:=x;exact⟨_,e⟩
 |tup b=>obtain⟨_,_,_,o,e,_⟩:=x;exact⟨_,e⟩
 |ku d f=>obtain⟨_,_,_,e⟩:=x;exact⟨_,e⟩
 |jo o u=>exact⟨_,x.1⟩
 |ext c=>exact x.2.1
def dh.lt(x:dh H h a o):a<h.objs.size:=(gR x).elim λ_ e=>aag e
def dh.jD(x:dh H h a o)(k:∀u,h.get? a=some u->h'.get? a=some u):dh H' h' a o:=by
 induction o with
 |lst f=>obtain⟨z,b,n,r,e⟩:=x;exact⟨z,b,n,r,k _ e⟩
 |tup f=>obtain⟨z,b,r,d,e,c⟩:=x;exact⟨z,b,r,d,k _ e,c⟩
 |ku j l=>obtain⟨t,u,v,e⟩:=x;exact⟨t,u,v,k _ e⟩
 |jo d u g=>exact⟨k _ x.1,g x.2⟩
 |ext i=>exact⟨x.2.2 _ _ x.1 k,x.2.1.imp k,x.2.2⟩
theorem kn.lt(x:kn H h)(e:H a=some o):a<h.objs.size:=(x a o e).lt
def kn.fresh(x:kn H h)(e:h.objs.size<=a):H a=none:=by
 cases q:H a with
 |none=>rfl
 |some u=>exact absurd (aaf (x.lt q) e) (aaz _)
def kn.kept(x:kn H h)(k:∀b u,h.get? b=some u->h'.get? b=some u):kn H h':=λa o e =>
 (x a o e).jD (k a)
def kn.laid(x:kn H h)(k:∀b u,h.get? b=some u->h'.get? b=some u)(d:h.objs.size<=a)(new:dh (upd H a o) h' a o):kn (upd H a o) h':=λb u e=>by
 have f:=x.fresh d;by_cases c:b=a
 ·subst c;rw[bc]at e;cases e;exact new
 ·rw[bq c]at e;exact(x b u e).jD (k b)
end
def Rd(H:Hp)(a:Addr)(u:HO):Prop:=H a=some u\/∃o,H a=some (.jo o u)
def Rd.ok{h:Heap}{a:Addr}{u:HO}(r:Rd H a u)(x:kn H h):dh H h a u:=by
 rcases r with r|⟨o,r⟩
 ·exact x a u r
 ·obtain⟨_,q⟩:=x a _ r;exact q
def ZL:Option HO->Prop
 |some (.lst _)=>True
 |some (.ext _)=>True
 |_=>False
section
variable {P:aM}{w:World}{H:Hp}{h h':Heap}{x e:Addr}{o':HO}
def kn.write(ok:kn H h)(k:∀b u,b≠x->h.get? b=some u->h'.get? b=some u)
  (new:dh (upd H x o') h' x o'):kn (upd H x o') h':=λb u q=>by
 by_cases a:b=x
 ·subst a;rw[bc]at q;cases q;exact new
 ·rw[bq a]at q;exact(ok b u q).jD λv=>k b v a
end
structure Un(fs ex:bo)(H H':Hp)(h h':Heap):Prop where
 keep:∀b o,h.get? b=some o->H b=none->b∉fs->b∉ex->h'.get? b=some o
 slot:∀b o,h.get? b=some o->H b=none->b∈fs->b∉ex->∃sl,h'.get? b=some { o with slots:=sl }
 free:∀b o,h.get? b=some o->H b=none->b∉ex->H' b=none
 there:∀b o,h.get? b=some o->b∉ex->∃o',h'.get? b=some o'
 mV:∀b xs,H b=some (.tup xs)->H' b=some (.tup xs)
 mm:∀b o u,H b=some (.jo o u)->H' b=some (.jo o u)
section
variable {fs fs' ex Ug:bo}{H H1 H2:Hp}{h h1 h2 h':Heap}{a x e:Addr}{o:HO}
def Un.any(u:Un fs ex H H1 h h1){b:Addr}{c:Obj}(q:h.get? b=some c)(n:H b=none)(d:b∉ex):∃g,h1.get? b=some { c with slots:=g }:=by
 by_cases f:b∈fs
 ·exact u.slot b c q n f d
 ·exact⟨c.slots,u.keep b c q n f d⟩
def Un.kept(k:∀b u,h.get? b=some u->h'.get? b=some u):Un fs ex H H h h' :=
 ⟨λb c q _ _ _=>k b c q,λb c q _ _ _=>⟨c.slots,k b c q⟩,λ_ _ _ n _=>n,λb c q _=>⟨c,k b c q⟩,λ_ _ q=>q,λ_ _ _ q=>q⟩
def Un.refl:Un fs ex H H h h:=Un.kept λ_ _ q=>q
def Un.laid(k:∀b u,h.get? b=some u->h'.get? b=some u)(f:h.objs.size<=a)(c:H a=none):Un fs ex H (upd H a o) h h' where
 keep:=λb u q _ _ _=>k b u q
 slot:=λb u q _ _ _=>⟨u.slots,k b u q⟩
 free:=λb u q n _=>by rw[bq (Nat.ne_of_lt (Nat.lt_of_lt_of_le (Heap.lt_size q) f))];exact n
 there:=λb u q _=>⟨u,k b u q⟩
 mV:=λb d q=>by rw[bq (d6 q c)];exact q
 mm:=λb u d q=>by rw[bq (d6 q c)];exact q
def Un.write(d:ZL (H x))(k:∀b u,b≠x->h.get? b=some u->h'.get? b=some u)(l:∃u,h'.get? x=some u):Un fs ex H (upd H x o) h h':=by
 have f:∀b,H b=none->b≠x:=λb n z=>by subst z;rw[n]at d;exact d
 have g:∀b u,H b=some u->¬ ZL (some u)->b≠x:=λb u q j z=>by subst z;rw[q]at d;exact j d
 refine⟨λb u q n _ _=>k b u (f b n) q,λb u q n _ _=>⟨u.slots,k b u (f b n) q⟩,λb u q n _=>by rw[bq (f b n)];exact n,λb u q _=>?_,
  λb i q=>by rw[bq (g b _ q λz=>z)];exact q,λb u i q=>by rw[bq (g b _ q λz=>z)];exact q⟩
 by_cases c:b=x
 ·subst c;exact l
 ·exact⟨u,k b u c q⟩
end
noncomputable def U4(h:Heap)(H:Hp):bo:=(List.range h.objs.size).filter λa=>(H a).isSome
def tH(h:Heap)(H:Hp):Heap:=PySem.W.hideAll h (U4 h H)
def BO(h:Heap)(H:Hp):(tH h H).objs.size=h.objs.size:=PySem.W.hideAll_size _ _
variable {o:Obj}
def Ff{h:Heap}{b:Addr}(e:h.get? b=some o)(n:H b=none):(tH h H).get? b=some o :=
 PySem.W.hideAll_get _ e λa=>by
  have q:(H b).isSome=true:=(List.mem_filter.mp a).2;rw[n]at q;simp at q
def Ir{h:Heap}{b:Addr}(e:(tH h H).get? b=some o):h.get? b=some o/\H b=none:=by
 have a:h.get? b=some o:=PySem.W.of_hideAll (U4 h H) e;refine⟨a,?_⟩;cases q:H b with
 |none=>rfl
 |some x =>
  have c:b∈U4 h H:=List.mem_filter.mpr ⟨List.mem_range.mpr (aag a),by simp[q]⟩;have z:(tH h H).get? b=none:=PySem.W.hideAll_none (U4 h H) c;rw[z]at e;cases e
end L2
namespace L2
open PySem PySem.Spec PyProof.Rows
structure Mod(K:ao)(mg:aZ)(base:Heap):Prop where
 Xo:K.In base
 glob:base.Ns mainGlobals mg
 blt:∃mb,base.Ns builtinsNs mb/\∀x:Str,x ≠ "__name__" -> mb x=bootBuiltins x
 nolimit:base.NoLimit
structure Cx where
 prog:aM
 w:World
 K:ao
 mg:aZ
 base:Heap
 A:aN
 N:av
 s₀:Shared
 H₀:Hp
 env:Env
 outer:List Env
 stack:List Env
 ex:bo
 fn:Str->Bool
 calm:Bool
 pn:aw
 xe:aG
noncomputable def mn(l:List Env):bo:=l.filterMap (·.frame)
abbrev Cx.fs(X:Cx):bo:=mn X.outer
def Pq(sc:Scope)(x:Str):Prop:=sc.names.lookup x=some .local\/sc.names.lookup x=some .cell\/sc.names.lookup x=some .free
def Loc(sc:Scope)(x:Str):Prop:=sc.names.lookup x=some .local\/sc.names.lookup x=some .cell
def Look(env:Env)(h:Heap)(m:aZ)(x:Str)(u:Value):Prop :=
 (env.kindOf x=some .local/\m x=some u)\/((env.kindOf x=some .cell\/env.kindOf x=some .free)/\∃c,env.cells.lookup x=some c/\h.IsCell c (some u))
structure Cx.Ok(X:Cx):Prop where
 mod:Mod X.K X.mg X.base
 kind:X.env.scope.kind=.function
 glob:X.env.globals=mainGlobals
 blt:X.env.builtins=builtinsNs
 above:X.s₀.heap.objs.size<=X.env.locals
 inj:∀x y c,X.env.cells.lookup x=some c->X.env.cells.lookup y=some c->x=y
 has:∀x,(X.env.kindOf x=some .cell\/X.env.kindOf x=some .free)->∃c,X.env.cells.lookup x=some c
 Lz:∀x c,X.fn x=true->X.env.cells.lookup x=some c->X.s₀.heap.objs.size<=c
 hd:X.calm=true->X.A.handled=none
 frames:X.A.frames=some X.stack
 Mn:X.stack=X.outer\/(X.stack=X.env::X.outer/\X.env.frame=some X.env.locals)
 Ue:∀b∈X.ex,b≠X.env.locals/\∀x c,X.env.cells.lookup x=some c->c≠b
 bs:∀b o,X.base.get? b=some o->X.s₀.heap.get? b=some o/\X.H₀ b=none
 Gh:X.base.objs.size<=X.s₀.heap.objs.size
 vH:∀b o,X.base.get? b=some o->b∉X.ex
 yC:∀b∈X.ex,b∉X.fs
 kN:X.s₀.heap.FunFrames X.base X.outer
 Cs:∀b∈X.fs,X.H₀ b=none
structure Inv(X:Cx)(pins:aw)(σ:List (Option V))(H:Hp)(s:Shared):Prop where
 ok:X.Ok
 os:s.os=X.s₀.os
 bare:AllBare s.gens
 base:Un X.fs X.ex X.H₀ H X.s₀.heap s.heap
 loc:∃m,s.heap.Ns X.env.locals m/\∀(i:Nat) (x:Str) (v:V),X.N[i]?=some x->σ[i]?=some (some v)->Pq X.env.scope x->∃u,RelV v u/\Look X.env s.heap m x u
 cell:∀x c,X.env.cells.lookup x=some c->∃v,s.heap.IsCell c v
 free:H X.env.locals=none
 gF:∀x c,X.env.cells.lookup x=some c->H c=none
 pin:∀p∈X.pn++pins,s.heap.get? p.1=some p.2/\H p.1=none/\p.1≠X.env.locals/\p.1∉X.fs/\∀v,p.2.data≠.cell v
 cJ:kn H s.heap
 len:σ.length=X.N.length
variable {A:aN}{E:Value->Shared->Prop}{Q:Unit->Shared->Prop}{ch:bo}{t':Nat}
section
variable {X:Cx}{pins:aw}{σ:List (Option V)}{H H':Hp}{s:Shared}{h':Heap}
def Cx.Ok.Xe(ok:X.Ok){b:Addr}{o:Obj}(e:X.base.get? b=some o):b∉X.fs:=λa=>by
 have:=(ok.kN.mem a).1;rw[e]at this;cases this
theorem Inv.bs(I:Inv X pins σ H s):∀b o,X.base.get? b=some o->s.heap.get? b=some o/\H b=none:=λb o e =>
 ⟨I.base.keep b o (I.ok.bs b o e).1 (I.ok.bs b o e).2 (I.ok.Xe e) (I.ok.vH b o e),I.base.free b o (I.ok.bs b o e).1 (I.ok.bs b o e).2 (I.ok.vH b o e)⟩
def Inv.bk(I:Inv X pins σ H s):∀b o,X.base.get? b=some o->s.heap.get? b=some o:=λb o e=>(I.bs b o e).1
theorem Inv.mod(I:Inv X pins σ H s):Mod X.K X.mg X.base:=I.ok.mod
def Inv.Cn(I:Inv X pins σ H s):X.K.In s.heap:=I.ok.mod.Xo.keeps I.bk
theorem Inv.lt(I:Inv X pins σ H s):X.env.locals<s.heap.objs.size:=let ⟨_,hn,_⟩:=I.loc;hn.lt
def Inv.sz(I:Inv X pins σ H s):X.s₀.heap.objs.size<=s.heap.objs.size:=aaS I.ok.above (acg I.lt)
def Inv.M_(I:Inv X pins σ H s){a:Addr}(h:s.heap.objs.size<=a):a∉X.fs:=λc=>by
 obtain⟨_,o,b,_⟩:=I.ok.kN.mem c;exact absurd (aaf (aag b) (aaS I.sz h)) (aaz _)
def Inv.J0(I:Inv X pins σ H s):∀x c,X.env.cells.lookup x=some c->c≠X.env.locals:=λx c e z=>by
 obtain⟨v,o,a,b⟩:=I.cell x c e;obtain⟨m,⟨g,h,i,d,f,_⟩,_⟩:=I.loc;rw[z,d]at a;cases a;rw[f]at b;cases b
theorem Inv.kN(I:Inv X pins σ H s):s.heap.FunFrames X.base X.outer:=by
 have all:∀(l:List Env),(∀b∈mn l,b∈X.fs)->X.s₀.heap.FunFrames X.base l->s.heap.FunFrames X.base l:=by
  intro l;induction l with
  |nil=>intro _ _;trivial
  |cons n r g =>
   intro f hl;obtain⟨k,⟨L,o,a,j,i,m⟩,h⟩:=hl;have d:L∈X.fs:=f L (by unfold mn;rw[zaS,a];exact aai);obtain⟨p,e⟩:=I.base.slot L o i (I.ok.Cs L d) d λz=>I.ok.yC L z d;exact⟨k,⟨L,_,a,j,e,m⟩,g (λb c=>f b (by unfold mn;rw[zaS,a];exact aah _ c)) h⟩
 exact all X.outer (λ_ c=>c) I.ok.kN
theorem Inv.stack(I:Inv X pins σ H s):s.heap.FunFrames X.base X.stack:=by
 rcases I.ok.Mn with e|⟨e,b⟩
 ·rw[e];exact I.kN
 ·rw[e];obtain⟨m,a,_⟩:=I.loc;refine .cons (by rw[I.ok.kind];decide) b a ?_ I.kN;exact Heap.get?_none_of_le (aaS I.ok.Gh I.ok.above)
def Inv.kH(I:Inv X pins σ H s):∀b∈mn X.stack,b∈X.env.locals::X.fs:=λb a=>by
 rcases I.ok.Mn with e|⟨e,c⟩
 ·rw[e]at a;exact aah _ a
 ·rw[e]at a;unfold mn at a;rw[zaS,c]at a;exact a
def Inv.lF(I:Inv X pins σ H s):∀b∈mn X.stack,H b=none:=λb a=>by
 rcases List.mem_cons.mp (I.kH b a)with e|a
 ·rw[e];exact I.free
 ·obtain⟨_,o,c,_⟩:=I.ok.kN.mem a;exact I.base.free b o c (I.ok.Cs b a) λz=>I.ok.yC b z a
def Inv.step{g':Array GenState}{d':Drawn}(I:Inv X pins σ H s)
  (B:∀b∈ch,(b∈X.ex\/X.s₀.heap.objs.size<=b)/\b≠X.env.locals/\(∀x c,X.env.cells.lookup x=some c->c≠b)/\∀p∈X.pn++pins,p.1≠b)
  (keep:∀b o,b≠X.env.locals->b∉X.fs->b∉ch->s.heap.get? b=some o->H b=none->h'.get? b=some o)
  (slot:∀b o,b≠X.env.locals->b∈X.fs->b∉ch->s.heap.get? b=some o->H b=none->∃D,h'.get? b=some { o with slots:=D }) (free:∀b o,b∉ch->s.heap.get? b=some o->H b=none->H' b=none)
  (there:∀b o,b∉ch->s.heap.get? b=some o->∃t,h'.get? b=some t)
  (N:∀b f,H b=some (.tup f)->H' b=some (.tup f)) (M:∀b o u,H b=some (.jo o u)->H' b=some (.jo o u))
  (ns:∀m,s.heap.Ns X.env.locals m->h'.Ns X.env.locals m) (S:kn H' h') (P:AllBare g') :
  Inv X pins σ H' { s with heap:=h',gens:=g',drawn:=d',toks:=t' }:=by
 have w:∀b o,X.s₀.heap.get? b=some o->b≠X.env.locals:=λb o e=>aak (aaf (aag e) I.ok.above);have C:∀b o,X.s₀.heap.get? b=some o->b∉X.ex->b∉ch:=λb o e a g=>by
  rcases(B b g).1 with z|z
  ·exact a z
  ·exact absurd (aaf (aag e) z) (aaz _)
 have cellK:∀x c,X.env.cells.lookup x=some c->∀v,s.heap.IsCell c v->h'.IsCell c v:=λx c e v T=>by
  obtain⟨o,j,F⟩:=T;have y:c∉ch:=λz=>(B c z).2.2.1 x c e rfl;by_cases L:c∈X.fs
  ·obtain⟨D,q⟩:=slot c o (I.J0 x c e) L y j (I.gF x c e);exact⟨_,q,F⟩
  ·exact⟨o,keep c o (I.J0 x c e) L y j (I.gF x c e),F⟩
 refine⟨I.ok,I.os,P,⟨λb o e n g a=>?_,λb o e n g a=>?_,λb o e n a=>?_,λb o e a=>?_,λb f e=>N b f (I.base.mV b f e),λb o f e=>M b o f (I.base.mm b o f e)⟩,?_,λx c e=>?_,?_,λx c e=>?_,λp K=>?_,S,I.len⟩
 ·exact keep b o (w b o e) g (C b o e a) (I.base.keep b o e n g a) (I.base.free b o e n a)
 ·obtain⟨D,h⟩:=I.base.slot b o e n g a;obtain⟨U,G⟩:=slot b _ (w b o e) g (C b o e a) h (I.base.free b o e n a);exact⟨U,G⟩
 ·obtain⟨t,h⟩:=I.base.there b o e a;exact free b t (C b o e a) h (I.base.free b o e n a)
 ·obtain⟨t,h⟩:=I.base.there b o e a;exact there b t (C b o e a) h
 ·obtain⟨m,O,hl⟩:=I.loc;refine⟨m,ns m O,λi x v h G R=>?_⟩;obtain⟨u,r,l⟩:=hl i x v h G R;refine⟨u,r,?_⟩;rcases l with l|⟨k,c,e,z⟩
  ·exact .inl l
  ·exact .inr ⟨k,c,e,cellK x c e _ z⟩
 ·obtain⟨v,z⟩:=I.cell x c e;exact⟨v,cellK x c e v z⟩
 ·obtain⟨m,⟨o,_,_,j,_⟩,_⟩:=I.loc;exact free _ o (λz=>(B _ z).2.1 rfl) j I.free
 ·obtain⟨v,o,j,F⟩:=I.cell x c e;exact free c o (λz=>(B c z).2.2.1 x c e rfl) j (I.gF x c e)
 ·obtain⟨e,n,ne,J,d⟩:=I.pin p K;have y:p.1∉ch:=λz=>(B p.1 z).2.2.2 p K rfl;exact⟨keep p.1 p.2 ne J y e n,free p.1 p.2 y e n,ne,J,d⟩
def Inv.un(I:Inv X pins σ H s)(u:Un X.fs [] H H' s.heap h')(i:kn H' h'):Inv X pins σ H' { s with heap:=h',toks:=t' }:=by
 obtain⟨m,⟨o,t,v,d,r⟩,_⟩:=id I.loc;obtain⟨l,h⟩:=u.any d I.free (by simp);exact I.step (g':=s.gens) (d':=s.drawn) (ch:=[]) (λ_ z=>nomatch z) (λb o _ a _ e n=>u.keep b o e n a (by simp)) (λb o _ a _ e n=>u.slot b o e n a (by simp)) (λb o _ e n=>u.free b o e n (by simp)) (λb o _ e=>u.there b o e (by simp)) u.mV u.mm (λq g=>by
  obtain⟨p,j,k,c,f⟩:=g;rw[d]at c;cases c;exact⟨_,j,k,h,f⟩) i I.bare
def Inv.call{g':Array GenState}{d':Drawn}(I:Inv X pins σ H s)(u:Un (mn X.stack) ch H H' s.heap h')(q:kn H' h')(k:AllBare g')
  (h:∀b∈ch,(b∈X.ex\/X.s₀.heap.objs.size<=b)/\b≠X.env.locals/\(∀x c,X.env.cells.lookup x=some c->c≠b)/\∀p∈X.pn++pins,p.1≠b) :
  Inv X pins σ H' { s with heap:=h',gens:=g',drawn:=d',toks:=t' }:=by
 obtain⟨m,⟨o,C,D,g,r⟩,_⟩:=id I.loc;obtain⟨w,d⟩:=u.any g I.free λz=>(h _ z).2.1 rfl;exact I.step (ch:=ch) h (λb o d l a e n=>u.keep b o e n (λz=>(List.mem_cons.mp (I.kH b z)).elim d l) a) (λb o _ _ a e n=>u.any e n a) (λb o a e n=>u.free b o e n a) (λb o a e=>u.there b o e a) u.mV u.mm (λB j=>by
  obtain⟨y,t,v,f,i⟩:=j;rw[g]at f;cases f;exact⟨_,t,v,d,i⟩) q k
def Inv.turned{it:Addr}(I:Inv X pins σ H s)(k:∀b o,b≠it->s.heap.get? b=some o->h'.get? b=some o)(g:H it=none)(d:it≠X.env.locals)
  (q:it∈X.ex\/X.s₀.heap.objs.size<=it) (l:∀x c,X.env.cells.lookup x=some c->c≠it) (j:∀p∈X.pn++pins,p.1≠it):Inv X pins σ H { s with heap:=h',toks:=t' }:=by
 have y:∀b u,H b=some u->b≠it:=λb u e z=>by rw[z,g]at e;cases e
 refine I.step (g':=s.gens) (d':=s.drawn) (ch:=[it]) (λb i=>?_) (λb o _ _ a e _=>k b o (λz=>a (by simp[z])) e) (λb o _ _ a e _=>⟨o.slots,k b o (λz=>a (by simp[z])) e⟩) (λ_ _ _ _ n=>n)
  (λb o a e=>⟨o,k b o (λz=>a (by simp[z])) e⟩) (λ_ _ e=>e) (λ_ _ _ e=>e) (λm h=>?_) (λb u e=>?_) I.bare
 ·have e:b=it:=by simpa using i
  subst e;exact⟨q,d,l,j⟩
 ·obtain⟨o,t,w,f,r⟩:=h;exact⟨o,t,w,k _ o (acb d) f,r⟩
 ·exact(I.cJ b u e).jD λv=>k b v (y b u e)
def Inv.tok(I:Inv X pins σ H s)(t:Nat):Inv X pins σ H { s with toks:=t }:=I.un (h':=s.heap) (t':=t) Un.refl I.cJ
theorem Inv.kept{t':Nat}(I:Inv X pins σ H s)(k:∀b u,s.heap.get? b=some u->h'.get? b=some u):Inv X pins σ H { s with heap:=h',toks:=t' }:=I.un (Un.kept k) (I.cJ.kept k)
theorem Inv.laid{a:Addr}{o:HO}{t':Nat}(I:Inv X pins σ H s)(k:∀b u,s.heap.get? b=some u->h'.get? b=some u)(c:s.heap.objs.size<=a)(new:dh (upd H a o) h' a o):
  Inv X pins σ (upd H a o) { s with heap:=h',toks:=t' }:=I.un (Un.laid k c (I.cJ.fresh c)) (I.cJ.laid k c new)
theorem Inv.write{x:Addr}{o:HO}{t':Nat}(I:Inv X pins σ H s)(a:ZL (H x))(k:∀b u,b≠x->s.heap.get? b=some u->h'.get? b=some u)(c:∃u,h'.get? x=some u)
  (new:dh (upd H x o) h' x o):Inv X pins σ (upd H x o) { s with heap:=h',toks:=t' }:=I.un (Un.write a k c) (I.cJ.write k new)
def Inv.j7{a:aw}(I:Inv X pins σ H s)(h:∀p∈a,s.heap.get? p.1=some p.2/\H p.1=none/\p.1≠X.env.locals/\p.1∉X.fs/\∀v,p.2.data≠.cell v):Inv X a σ H s :=
 ⟨I.ok,I.os,I.bare,I.base,I.loc,I.cell,I.free,I.gF,λp b=>(List.mem_append.mp b).elim (λz=>I.pin p (aaB _ z)) (h p),I.cJ,I.len⟩
def vI{N:av}(c:N.Nodup){i j:Nat}{x:Str}(a:N[i]?=some x)(b:N[j]?=some x):i=j:=by
 obtain⟨g,e⟩:=List.getElem?_eq_some_iff.mp a;obtain⟨f,d⟩:=List.getElem?_eq_some_iff.mp b;exact(List.getElem_inj c).mp (e.trans d.symm)
def A0{M:Model}{i:Nat}{x:Str}{v:V}{u:Value}(I:Inv X pins σ H s)(hN:X.N.Nodup)(G:X.N[i]?=some x)(l:Loc X.env.scope x)(r:RelV v u)
  (h:∀T,Inv X pins (σ.set i (some v)) H T->(∃a,Heap.SameBut a s.heap T.heap/\(a=X.env.locals\/X.env.cells.lookup x=some a))->Q () T) (hf:X.fn x=true\/X.env.scope.names.lookup x=some .local:=by first|exact .inl rfl|exact .inr rfl|assumption):wpAny M A (storeName X.env x u) Q E s:=by
 obtain⟨m,hn,hl⟩:=id I.loc;have o8:(X.env.scope.kind==.class||(X.env.scope.kind==.module&&X.env.locals != X.env.globals))=false:=by rw[I.ok.kind];rfl
 have S5:i<σ.length:=by rw[I.len];exact(List.getElem?_eq_some_iff.mp G).1
 have J0:=I.J0;have tracked:∀{a:Addr} {h':Heap},(∃o,s.heap.get? a=some o/\H a=none)->Heap.SameBut a s.heap h'->kn H h':=λ{a h'} ha f b ob e=>by
  obtain⟨_,_,Tb⟩:=ha;exact(I.cJ b ob e).jD λK q=>(f.2 b (by rintro rfl;rw[Tb]at e;cases e)).trans q
 rcases l with B|B
 ·refine wpAny_storeName_local B hn (λh' xf f=>?_) o8;obtain⟨oL,_,_,SV,_⟩:=id hn;refine h _ ⟨I.ok,I.os,I.bare,⟨λb o e n D l=>?_,λb o e n D l=>?_,I.base.free,λb o e l=>?_,I.base.mV,I.base.mm⟩,⟨_,xf,λj y P g w e3=>?_⟩,λy c e=>?_,I.free,I.gF,λp Z=>?_,tracked ⟨oL,SV,I.free⟩ f,by simpa using I.len⟩ ⟨_,f,.inl rfl⟩
  ·exact(f.2 b (aak (aaf (aag e) I.ok.above))).trans (I.base.keep b o e n D l)
  ·obtain⟨S,g⟩:=I.base.slot b o e n D l;exact⟨S,(f.2 b (aak (aaf (aag e) I.ok.above))).trans g⟩
  ·obtain⟨W,g⟩:=I.base.there b o e l;exact⟨W,(f.2 b (aak (aaf (aag e) I.ok.above))).trans g⟩
  ·by_cases C:j=i
   ·subst C;rw[G]at g;cases g;rw[List.getElem?_set_self S5]at w;cases w;exact⟨u,r,.inl ⟨B,by simp⟩⟩
   ·rw[List.getElem?_set_ne (Ne.symm C)]at w;obtain⟨R,U,q⟩:=hl j y P g w e3;refine⟨R,U,?_⟩;rcases q with ⟨k,e⟩|⟨k,c,e,z⟩
    ·refine .inl ⟨k,?_⟩;have:y≠x:=λe=>C (vI hN g (e▸G));simp[this,e]
    ·exact .inr ⟨k,c,e,z.sameBut f (J0 y c e)⟩
  ·obtain⟨K,z⟩:=I.cell y c e;exact⟨K,z.sameBut f (J0 y c e)⟩
  ·obtain⟨e,n,ne,Y,d⟩:=I.pin p Z;exact⟨(f.2 p.1 ne).trans e,n,ne,Y,d⟩
 ·have O:X.fn x=true:=by
   rcases hf with z|z
   ·exact z
   ·rw[z]at B;cases B
  obtain⟨c,t⟩:=I.ok.has x (.inl B);obtain⟨K,z⟩:=I.cell x c t;refine wpAny_storeName_cell I.ok.kind B t z (λh' GR f=>?_);obtain⟨oc,F,Yh⟩:=id z;refine h { s with heap:=h' } ⟨I.ok,I.os,I.bare,⟨λb o e n D l=>?_,λb o e n D l=>?_,I.base.free,λb o e l=>?_,I.base.mV,I.base.mm⟩,⟨m,hn.sameBut f (acb (J0 x c t)),λj y P g w e3=>?_⟩,λy L e=>?_,I.free,I.gF,λp Z=>?_,tracked ⟨oc,F,I.gF x c t⟩ f,by simpa using I.len⟩ ⟨c,f,.inr t⟩
  ·exact(f.2 b (aak (aaf (aag e) (I.ok.Lz x c O t)))).trans (I.base.keep b o e n D l)
  ·obtain⟨S,g⟩:=I.base.slot b o e n D l;exact⟨S,(f.2 b (aak (aaf (aag e) (I.ok.Lz x c O t)))).trans g⟩
  ·obtain⟨W,g⟩:=I.base.there b o e l;exact⟨W,(f.2 b (aak (aaf (aag e) (I.ok.Lz x c O t)))).trans g⟩
  ·by_cases C:j=i
   ·subst C;rw[G]at g;cases g;rw[List.getElem?_set_self S5]at w;cases w;exact⟨u,r,.inr ⟨.inl B,c,t,GR⟩⟩
   ·rw[List.getElem?_set_ne (Ne.symm C)]at w;obtain⟨R,U,q⟩:=hl j y P g w e3;refine⟨R,U,?_⟩;rcases q with q|⟨k,L,e,z'⟩
    ·exact .inl q
    ·refine .inr ⟨k,L,e,z'.sameBut f ?_⟩;rintro rfl;exact C (vI hN g (I.ok.inj _ _ _ e t▸G))
  ·by_cases J:L=c
   ·subst J;exact⟨_,GR⟩
   ·obtain⟨w2,z2⟩:=I.cell y L e;exact⟨w2,z2.sameBut f J⟩
  ·obtain⟨e,n,ne,Y,d⟩:=I.pin p Z;refine⟨(f.2 p.1 ?_).trans e,n,ne,Y,d⟩;intro q;rw[q,F]at e;have q':oc=p.2:=aat e;exact d K (by rw[<- q'];exact Yh)
def jC{M:Model}{i:Nat}{x:Str}{v:V}{u:Value}(I:Inv X pins σ H s)(d:X.N.Nodup)(c:X.N[i]?=some x)(b:Loc X.env.scope x)(r:RelV v u)
  (h:∀a,Inv X pins (σ.set i (some v)) H a->Q () a) (hf:X.fn x=true\/X.env.scope.names.lookup x=some .local:=by first|exact .inl rfl|exact .inr rfl|assumption):wpAny M A (storeName X.env x u) Q E s :=
 A0 I d c b r (λa e _=>h a e) hf
def Inv.Aq{s':Shared}(I:Inv X pins σ H s)(g:s'.os=s.os)(u:Un (mn X.stack) ch H H' s.heap s'.heap)(i:kn H' s'.heap)(h:AllBare s'.gens)
  (j:∀b∈ch,(b∈X.ex\/X.s₀.heap.objs.size<=b)/\b≠X.env.locals/\(∀x c,X.env.cells.lookup x=some c->c≠b)/\∀p∈X.pn++pins,p.1≠b):Inv X pins σ H' s':=by
 obtain⟨h',a,d,t',f⟩:=s';have e:f=s.os:=g;subst e;exact I.call (g':=a) (t':=t') (d':=d) u i h j
end
abbrev XK:=Value->Option Addr->Hp->Prop
abbrev St:=List (Option V)
abbrev VK:=V->Hp->Prop
abbrev TE:=St->Hp->VK->Prop
abbrev TT:=St->Hp->(Bool->Hp->Prop)->Prop
abbrev TA:=St->Hp->(ag->Hp->Prop)->Prop
structure Ends where
 nx:St->Hp->Prop
 rt:VK
 bk:St->Hp->Prop:=λ_ _=>False
 ct:St->Hp->Prop:=λ_ _=>False
abbrev TS:=Ends->St->Hp->Prop
def EP(X:Cx)(pins:aw)(b:St)(Q:VK)(u:Value)(s':Shared):Prop:=∃v a,Inv X pins b a s'/\RelV v u/\Q v a
def TP(X:Cx)(pins:aw)(c:St)(Q:Bool->Hp->Prop)(b:Bool)(s':Shared):Prop:=∃a,Inv X pins c a s'/\Q b a
def AP(X:Cx)(pins:aw)(c:St)(Q:ag->Hp->Prop)(d:az)(s':Shared):Prop:=∃a b,Inv X pins c b s'/\Vals a d/\Q a b
def SP(X:Cx)(pins:aw)(D:Ends)(f:Flow)(s':Shared):Prop :=
 match f with
 |.next=>∃a b,Inv X pins a b s'/\D.nx a b
 |.brk=>∃a b,Inv X pins a b s'/\D.bk a b
 |.cont=>∃a b,Inv X pins a b s'/\D.ct a b
 |.ret u=>∃v a b,Inv X pins a b s'/\RelV v u/\D.rt v b
def PE(X:Cx)(e:Expr)(t:TE):Prop :=
 ∀(pins:aw) (s:Shared) (a:St) (H:Hp) (Q:VK),Inv X pins a H s->t a H Q->wpAny (model X.prog X.w) X.A (eval e X.env) (EP X pins a Q) X.xe s
def PT(X:Cx)(e:Expr)(t:TT):Prop :=
 ∀(pins:aw) (s:Shared) (a:St) (H:Hp) (Q:Bool->Hp->Prop),Inv X pins a H s->t a H Q->wpAny (model X.prog X.w) X.A (isTrue e X.env (eval e X.env)) (TP X pins a Q) X.xe s
def PW(X:Cx)(e:Expr)(t:TT):Prop :=
 ∀(whole:Sem Value) (pins:aw) (s:Shared) (a:St) (H:Hp) (Q:Bool->Hp->Prop),Inv X pins a H s->t a H Q->wpAny (model X.prog X.w) X.A (isTrue e X.env whole) (TP X pins a Q) X.xe s
def PW.pt{X:Cx}{e:Expr}{t:TT}(h:PW X e t):PT X e t:=h _
def PA(X:Cx)(es:ak)(t:TA):Prop :=
 ∀(pos:Pos) (pins:aw) (s:Shared) (a:St) (H:Hp) (Q:ag->Hp->Prop),Inv X pins a H s->t a H Q->wpAny (model X.prog X.w) X.A (spliced (backTo pos (starEach es X.env))) (AP X pins a Q) X.xe s
def PS(X:Cx)(b:Stmt)(t:TS):Prop :=
 ∀(pins:aw) (s:Shared) (a:St) (H:Hp) (D:Ends),Inv X pins a H s->t D a H->wpAny (model X.prog X.w) X.A (exec b X.env) (SP X pins D) X.xe s
def jd(X:Cx)(b:aW)(t:TS):Prop :=
 ∀(pins:aw) (s:Shared) (a:St) (H:Hp) (D:Ends),Inv X pins a H s->t D a H->wpAny (model X.prog X.w) X.A (execs b X.env) (SP X pins D) X.xe s
def dG{b:Type}{t:Sem b}{Q c:b->Shared->Prop}{M:Model}{s:Shared}(h:wpAny M A t Q E s)(d:∀a s,Q a s->c a s):wpAny M A t c E s:=aaA h d λ_ _ x=>x
end L2
namespace L2
open PySem PySem.Spec PyProof.Rows
variable {E Q:Value->Shared->Prop}{H:Hp}{pos:Pos}{σ:L2.St}
section
variable {X:Cx}
def mY(i:Nat):TE:=λσ H Q=>∃v,σ[i]?=some (some v)/\Q v H
def tC(v:V):TE:=λ_ H Q=>Q v H
def mf{i:Nat}{x:Str}(o:X.N[i]?=some x)(j:Pq X.env.scope x)(d:(x==("__debug__" : Str))=false:=by decide)(g:(x==("__classdict__" : Str))=false:=by decide):PE X (.Name x pos) (mY i):=by
 intro pins s σ H Q I h;obtain⟨v,e,h⟩:=h;obtain⟨m,k,hl⟩:=I.loc;obtain⟨u,r,l⟩:=hl i x v o e j;have fin:EP X pins σ Q u s:=⟨v,H,I,r,h⟩
 rcases l with ⟨b,n⟩|⟨b,c,f,a⟩
 ·exact wpAny_Name (wpAny_loadName_local I.ok.kind b k n fin) d
 ·rcases b with b|b
  ·exact wpAny_Name (wpAny_loadName_cell I.ok.kind b f a fin) d
  ·exact wpAny_Name (wpAny_loadName_free I.ok.kind b f a fin g) d
def MZ{i j pos}:PE X (.Constant (.int i) j pos) (tC (.int i)):=λ_ _ _ H _ I h=>wpAny_Constant_int ⟨.int i,H,I.tok _,⟨_,rfl⟩,h⟩
def RL{b j pos}:PE X (.Constant (.bool b) j pos) (tC (.bl b)):=λ_ _ _ H _ I h=>Constant_bool ⟨.bl b,H,I,rfl,h⟩
def D4{j pos}:PE X (.Constant .none j pos) (tC .bz):=λ_ _ _ H _ I h=>Constant_none ⟨.bz,H,I,rfl,h⟩
def sO{x j pos}:PE X (.Constant (.str x) j pos) (tC (.str x)):=λ_ _ _ H _ I h=>Calls.Constant_str ⟨.str x,H,I.tok _,⟨_,rfl⟩,h⟩
def Gl(X:Cx)(x:Str):Prop:=X.env.kindOf x=some .globalImplicit
def tw{pins:aw}{s:Shared}{x:Str}{u:Value}(I:Inv X pins σ H s)(b:Gl X x)(a:X.mg x=some u)(h:Q u s)
  (c:(x==("__debug__" : Str))=false:=by decide):wpAny (model X.prog X.w) X.A (eval (.Name x pos) X.env) Q E s :=
 abB I.ok.kind b (Calls.loadGlobal_global (by rw[I.ok.glob];exact I.mod.glob.keeps I.bk) a h) c
def eO{pins:aw}{s:Shared}{x:Str}{u:Value}(I:Inv X pins σ H s)(d:Gl X x)(c:X.mg x=none)(a:bootBuiltins x=some u)(h:Q u s)
  (b:x ≠ "__name__":=by decide) (e:(x==("__debug__" : Str))=false:=by decide):wpAny (model X.prog X.w) X.A (eval (.Name x pos) X.env) Q E s:=by
 obtain⟨mb,g,f⟩:=I.mod.blt;exact abB I.ok.kind d (Calls.loadGlobal_builtin (by rw[I.ok.glob];exact I.mod.glob.keeps I.bk) c (by rw[I.ok.blt];exact g.keeps I.bk) ((f x b).trans a) h) e
def sP{x:Str}{v:V}{u:Value}(b:Gl X x)(a:X.mg x=some u)(r:RelV v u)(c:(x==("__debug__" : Str))=false:=by decide):PE X (.Name x pos) (tC v) :=
 λ_ _ _ H _ I h=>tw I b a ⟨v,H,I,r,h⟩ c
def zy{x:Str}{v:V}{u:Value}(d:Gl X x)(c:X.mg x=none)(a:bootBuiltins x=some u)(r:RelV v u)(b:x ≠ "__name__":=by decide)(e:(x==("__debug__" : Str))=false:=by decide):PE X (.Name x pos) (tC v) :=
 λ_ _ _ H _ I h=>eO I d c a ⟨v,H,I,r,h⟩ b e
variable {a b:Expr}{ta tb:TE}{pos:Pos}
def PC(X:Cx)(op:CmpOp)(a b:Expr)(t:TE):Prop :=
 ∀(pins:aw) (s:Shared) (σ:St) (H:Hp) (Q:VK),Inv X pins σ H s->t σ H Q ->
  wpAny (model X.prog X.w) X.A (eval a X.env) (λv d=>wpAny (model X.prog X.w) X.A (eval b X.env) (λu c=>wpAny (model X.prog X.w) X.A (compareOp op v u) (EP X pins σ Q) X.xe c) X.xe d) X.xe s
def En(b:Expr){op:CmpOp}(h:op≠.In)(c:op≠.NotIn):behindInMarks op b=false:=by
 have e:(op==CmpOp.In)=false:=by cases op<;>first|rfl|exact absurd rfl h
 have d:(op==CmpOp.NotIn)=false:=by cases op<;>first|rfl|exact absurd rfl c
 cases b<;>simp[behindInMarks,e,d]
def Wr(ta:TE):TE:=λσ H Q=>ta σ H λx c=>Q (.bl (decide (x=.bz))) c
def RelV.Ej{x:V}{v:Value}(r:RelV x v):(v==Value.none)=decide (x=.bz):=by
 cases x with
 |bz=>cases r;rfl
 |bl _=>cases r;rfl
 |int _=>obtain⟨t,rfl⟩:=r;rfl
 |str _=>obtain⟨t,rfl⟩:=r;rfl
 |VX _=>obtain⟨t,rfl⟩:=r;rfl
 |VL _=>obtain⟨t,rfl⟩:=r;rfl
 |ref _=>cases r;rfl
 |ty _=>cases r;rfl
def M1{j pos'}(c:PE X a ta):PC X .Is a (.Constant .none j pos') (Wr ta):=by
 intro pins s σ H Q I h;refine dG (c pins s σ H _ I h) λv g d=>?_;obtain⟨x,f,e,r1,q1⟩:=d;exact Constant_none (is_none_gen ⟨.bl _,f,e,by rw[r1.Ej];rfl,q1⟩)
def tB(t:TE):TT:=λσ H Q=>t σ H λx d=>∃c,x=.bl c/\Q c d
def MS{op:CmpOp}{t:TE}(h:PC X op a b t)(e:behindInMarks op b=false:=by first|exact En _ (by decide) (by decide)|rfl):PT X (.Compare a [op] [b] pos) (tB t):=by
 intro pins s σ H Q I hw;refine wpAny_isTrue_Compare1 (dG (h pins s σ H _ I hw) λv m e=>dG e λu l f=>dG f λc k g=>?_) e;obtain⟨x,j,i,r1,q1⟩:=g;obtain⟨d,rfl,q⟩:=q1;cases r1;exact aa1 ⟨j,i,q⟩
def DP{e:Expr}{t:TE}(h:PE X e t)(he:∀whole,isTrue e X.env whole=(do let v <- whole;standAt e.pos;holding [v] (truthy v)):=by intro _;rfl):PT X e (tB t):=by
 intro pins s σ H Q I hw;refine isTrue_plain (dG (h pins s σ H _ I hw) λv i c=>?_) (he _);obtain⟨x,g,f,r1,q1⟩:=c;obtain⟨d,rfl,q⟩:=q1;cases r1;exact aa1 ⟨g,f,q⟩
variable {tA U6:TT}{rest:ak}
def Q9(t u:TT):TT:=λσ H Q=>t σ H λc d=>if c=true then u σ d Q else Q false d
def Z5(t u:TT):TT:=λσ H Q=>t σ H λc d=>if c=true then Q true d else u σ d Q
def Wn(t:TT):TT:=λσ H Q=>t σ H λc d=>Q (!c) d
def HZ(d:PT X a tA):PW X (.BoolOp .And [a] pos) tA:=by
 intro f pins s σ H Q I h;refine isTrue_and (dG (d pins s σ H Q I h) λc g e=>?_);cases c with
 |true=>exact isTrue_and_nil e
 |false=>exact e
def DN(d:PT X a tA):PW X (.BoolOp .Or [a] pos) tA:=by
 intro f pins s σ H Q I h;refine isTrue_or (dG (d pins s σ H Q I h) λc g e=>?_);cases c with
 |false=>exact isTrue_or_nil e
 |true=>exact e
def MR(j:PT X a tA)(i:PW X (.BoolOp .And (b::rest) pos) U6):PW X (.BoolOp .And (a::b::rest) pos) (Q9 tA U6):=by
 intro f pins s σ H Q I h;refine isTrue_and (dG (j pins s σ H _ I h) λc g ⟨e,d,q1⟩=>?_);cases c with
 |true=>exact i f pins g σ e Q d q1
 |false=>exact⟨e,d,q1⟩
def KO(j:PT X a tA)(i:PW X (.BoolOp .Or (b::rest) pos) U6):PW X (.BoolOp .Or (a::b::rest) pos) (Z5 tA U6):=by
 intro f pins s σ H Q I h;refine isTrue_or (dG (j pins s σ H _ I h) λc g ⟨e,d,q1⟩=>?_);cases c with
 |true=>exact⟨e,d,q1⟩
 |false=>exact i f pins g σ e Q d q1
def DQ(d:PT X a tA):PT X (.UnaryOp .Not a pos) (Wn tA):=by
 intro pins s σ H Q I h;exact isTrue_not (d pins s σ H (λc e=>Q (!c) e) I h)
def Kw(ta tb:TE):TE:=λσ H Q=>ta σ H λx d=>∃c,x=.bl c/\if c=true then tb σ d Q else Q (.bl false) d
def Q0(ta tb:TE):TE:=λσ H Q=>ta σ H λx d=>∃c,x=.bl c/\if c=true then Q (.bl true) d else tb σ d Q
def Q1(ta:TE):TE:=λσ H Q=>ta σ H λx d=>∃c,x=.bl c/\Q (.bl (!c)) d
def D3{op}{t:TE}(h:PE X a t):PE X (.BoolOp op [a] pos) t:=λpins s σ H Q I hw=>BoolOp_one (h pins s σ H Q I hw)
def M0(i:PE X a ta)(g:PE X (.BoolOp .And (b::rest) pos) tb):PE X (.BoolOp .And (a::b::rest) pos) (Kw ta tb):=by
 intro pins s σ H Q I h;refine BoolOp_and (dG (i pins s σ H _ I h) λv f j=>?_);obtain⟨x,e,d,r1,q1⟩:=j;obtain⟨c,rfl,q1⟩:=q1;cases r1;refine aa1 ?_;cases c with
 |true=>exact g pins f σ e Q d q1
 |false=>exact⟨.bl false,e,d,rfl,q1⟩
def RK(i:PE X a ta)(g:PE X (.BoolOp .Or (b::rest) pos) tb):PE X (.BoolOp .Or (a::b::rest) pos) (Q0 ta tb):=by
 intro pins s σ H Q I h;refine BoolOp_or (dG (i pins s σ H _ I h) λv f j=>?_);obtain⟨x,e,d,r1,q1⟩:=j;obtain⟨c,rfl,q1⟩:=q1;cases r1;refine aa1 ?_;cases c with
 |false=>exact g pins f σ e Q d q1
 |true=>exact⟨.bl true,e,d,rfl,q1⟩
def MY(d:PE X a ta):PE X (.UnaryOp .Not a pos) (Q1 ta):=by
 intro pins s σ H Q I h;refine UnaryOp_ (dG (d pins s σ H _ I h) λv i e=>?_);obtain⟨x,g,f,r1,q1⟩:=e;obtain⟨c,rfl,q1⟩:=q1;cases r1;exact not_of (aa1 ⟨.bl (!c),g,f,rfl,q1⟩)
def tIf(t:TT)(ta tb:TE):TE:=λσ H Q=>t σ H λc d=>if c=true then ta σ d Q else tb σ d Q
def D7{c:Expr}(i:PT X c tA)(k:PE X a ta)(j:PE X b tb):PE X (.IfExp c a b pos) (tIf tA ta tb):=by
 intro pins s σ H Q I h;refine wpAny_IfExp (dG (i pins s σ H _ I h) λd e ⟨g,f,q1⟩=>?_);cases d with
 |true=>exact k pins e σ g Q f q1
 |false=>exact j pins e σ g Q f q1
end
end L2
namespace L2
open PySem PySem.Spec PyProof.Rows
def dD(K:ao)(H:Hp)(a:Addr)(xs:ag):Prop :=
 Rd H a (.lst xs) \/
  ∃(o:Obj) (b:aY) (n:Nat),K.lookup a=some o/\o.cls=.type "list" /\ o.dict=none/\o.data=.seq b n/\b.size<=sizeLine/\Vals xs b.toList
def bg(K:ao)(H:Hp)(a:Addr)(xs:ag):Prop :=
 Rd H a (.tup xs) \/
  ∃(o:Obj) (b:aY) (n:Nat),K.lookup a=some o/\o.cls=.type "tuple" /\ o.data=.seq b n/\b.size<=sizeLine/\Vals xs b.toList
noncomputable def ZG:Value->Option V
 |.none=>some .bz
 |.bool b=>some (.bl b)
 |.int i _=>some (.int i)
 |.str x _=>some (.str x)
 |.bytes b _=>some (.VX b)
 |.float b _=>some (.VL b)
 |.ref a=>some (.ref a)
 |.type n=>some (.ty n)
 |_=>none
def RelV.abs{x:V}{u:Value}(r:RelV x u):ZG u=some x:=by
 cases x with
 |bz=>cases r;rfl
 |bl _=>cases r;rfl
 |int _=>obtain⟨t,rfl⟩:=r;rfl
 |str _=>obtain⟨t,rfl⟩:=r;rfl
 |VX _=>obtain⟨t,rfl⟩:=r;rfl
 |VL _=>obtain⟨t,rfl⟩:=r;rfl
 |ref _=>cases r;rfl
 |ty _=>cases r;rfl
def RelV.inj{x y:V}{u:Value}(r:RelV x u)(q:RelV y u):x=y:=aat (r.abs.symm.trans q.abs)
theorem Vals.inj:∀{xs a:ag} {b:az},Vals xs b->Vals a b->xs=a
 |_,_,_,.nil,.nil=>rfl
 |_,_,_,.cons r t,.cons r' t'=>by rw[r.inj r',Vals.inj t t']
variable {K:ao}
section
variable {X:Cx}{pins:aw}{σ:St}{H:Hp}{s:Shared}{a:Addr}{xs ys:ag}
def dD.of(h:H a=some (.lst xs)):dD K H a xs:=.inl (.inl h)
def bg.of(h:H a=some (.tup xs)):bg K H a xs:=.inl (.inl h)
def Inv.list(I:Inv X pins σ H s)(h:dD X.K H a xs):∃b:az,Vals xs b/\PlainL s.heap a b.toArray/\xs.length<=sizeLine:=by
 rcases h with h|⟨o,b,n,d,g,f,c,i,r⟩
 ·obtain⟨z,b,n,r,e⟩:=h.ok I.cJ;exact⟨b,r,⟨_,n,e,rfl,rfl,rfl⟩,z⟩
 ·refine⟨b.toList,r,⟨o,n,I.Cn a o d,g,f,by simpa using c⟩,?_⟩;have e:=r.length;simp only[zaE]at e;left
def Inv.tuple(I:Inv X pins σ H s)(h:bg X.K H a xs):∃b:az,Vals xs b/\IsTup s.heap a b.toArray/\xs.length<=sizeLine:=by
 rcases h with h|⟨o,b,n,d,f,c,g,r⟩
 ·obtain⟨z,b,r,p⟩:=h.ok I.cJ;exact⟨b,r,p,z⟩
 ·refine⟨b.toList,r,⟨o,I.Cn a o d,f,n,by simpa using c⟩,?_⟩;have e:=r.length;simp only[zaE]at e;left
def Inv.jH(I:Inv X pins σ H s)(h:dD X.K H a xs)(h':dD X.K H a ys):xs=ys:=by
 obtain⟨i,r,⟨o,n,e,_,_,d⟩,_⟩:=I.list h;obtain⟨b,g,⟨j,k,c,_,_,f⟩,_⟩:=I.list h';rw[e]at c;cases c;rw[d]at f;injection f with d1 _;have:i=b:=by simpa using congrArg Array.toList d1
 subst this;exact r.inj g
def Inv.l_(I:Inv X pins σ H s)(h:bg X.K H a xs)(h':bg X.K H a ys):xs=ys:=by
 obtain⟨i,r,⟨o,e,_,n,d⟩,_⟩:=I.tuple h;obtain⟨b,g,⟨j,c,_,k,f⟩,_⟩:=I.tuple h';rw[e]at c;cases c;rw[d]at f;injection f with d1 _;have:i=b:=by simpa using congrArg Array.toList d1
 subst this;exact r.inj g
end
noncomputable abbrev Cx.oi(X:Cx)(E:aG):Cx:={ X with xe:=E }
abbrev Cx.zC(X:Cx):Cx:=X.oi λ_ _=>False
theorem Cx.Ok.oi{X:Cx}(ok:X.Ok)(E:aG):(X.oi E).Ok :=
 ⟨ok.mod,ok.kind,ok.glob,ok.blt,ok.above,ok.inj,ok.has,ok.Lz,ok.hd,ok.frames,ok.Mn,ok.Ue,ok.bs,ok.Gh,ok.vH,ok.yC,ok.kN,ok.Cs⟩
variable {E:Value->Shared->Prop}{X:Cx}
def Cx.Ok.iQ(ok:(X.oi E).Ok):X.Ok :=
 ⟨ok.mod,ok.kind,ok.glob,ok.blt,ok.above,ok.inj,ok.has,ok.Lz,ok.hd,ok.frames,ok.Mn,ok.Ue,ok.bs,ok.Gh,ok.vH,ok.yC,ok.kN,ok.Cs⟩
section
variable {X:Cx}{pins:aw}{σ:St}{H:Hp}{s:Shared}{E:aG}
theorem Inv.oi(I:Inv X pins σ H s)(E:aG):Inv (X.oi E) pins σ H s:=⟨I.ok.oi E,I.os,I.bare,I.base,I.loc,I.cell,I.free,I.gF,I.pin,I.cJ,I.len⟩
theorem Inv.iQ(I:Inv (X.oi E) pins σ H s):Inv X pins σ H s:=⟨I.ok.iQ,I.os,I.bare,I.base,I.loc,I.cell,I.free,I.gF,I.pin,I.cJ,I.len⟩
theorem SP.iQ{D:Ends}{f:Flow}{s':Shared}(h:SP (X.oi E) pins D f s'):SP X pins D f s':=by
 cases f with
 |next=>obtain⟨a,b,I,q⟩:=h;exact⟨a,b,I.iQ,q⟩
 |brk=>obtain⟨a,b,I,q⟩:=h;exact⟨a,b,I.iQ,q⟩
 |cont=>obtain⟨a,b,I,q⟩:=h;exact⟨a,b,I.iQ,q⟩
 |ret u=>obtain⟨v,a,b,I,r,q⟩:=h;exact⟨v,a,b,I.iQ,r,q⟩
theorem jd.zC{a:aW}{t:TS}(h:jd X.zC a t):jd X a t:=λpins s σ H D I hw =>
 aaA (h pins s σ H D (I.oi _) hw) (λ_ _ q=>q.iQ) λ_ _ z=>False.elim z
end
variable {H:Hp}{σ:L2.St}
section
variable {X:Cx}{st:Stmt}{rest:aW}{t u:TS}{e:Expr}{te:TE}{pos:Pos}
def Q3:TS:=λD σ H=>D.nx σ H
def Wk(t u:TS):TS:=λD σ H=>t { D with nx:=u D } σ H
def sH:jd X [] Q3:=λ_ _ σ H _ I h=>abQ ⟨σ,H,I,h⟩
def dT(d:PS X st t)(c:jd X rest u):jd X (st::rest) (Wk t u):=by
 intro pins s σ H D I h;refine wpAny_execs_cons (dG (d pins s σ H { D with nx:=u D } I h) λf b q=>?_);cases f with
 |next =>
  obtain⟨a,i,g,q⟩:=q;exact c pins b a i D g q
 |ret v=>exact q
 |brk=>exact q
 |cont=>exact q
def iT(a:PS X st t):jd X [st] t:=by
 intro pins s σ H D I h;refine wpAny_execs_cons (dG (a pins s σ H D I h) λf b q=>?_);cases f with
 |next=>exact abQ q
 |ret v=>exact q
 |brk=>exact q
 |cont=>exact q
def Inv.quiet{pins:aw}{s:Shared}(I:Inv X pins σ H s):interactive X.env=false:=by simp[interactive,I.ok.kind]
def Q5(te:TE):TS:=λD σ H=>te σ H λ_ a=>D.nx σ a
def nI(he:PE X e te)(hs:swapsWith e none pos.line X.env=pure false:=by rfl):PS X (.Expr e pos) (Q5 te):=by
 intro pins s σ H D I h;exact wpAny_Expr_any (dG (he pins s σ H _ I h) λv c ⟨x,b,a,r1,q1⟩=>⟨σ,b,a,q1⟩) I.quiet hs
def Wl(te:TE):TS:=λD σ H=>te σ H D.rt
def oH(he:PE X e te):PS X (.Return (some e) pos) (Wl te):=by
 intro pins s σ H D I h;exact wpAny_Return_some (dG (he pins s σ H _ I h) λv c ⟨x,b,a,r1,q1⟩=>⟨x,σ,b,a,r1,q1⟩)
def Ws(c:TT)(t u:TS):TS:=λD σ H=>c σ H λb a=>if b=true then t D σ a else u D σ a
def vx{c:Expr}{a b:aW}{f:TT}(k:PT X c f)(m:jd X a t)(l:jd X b u):PS X (.If c a b pos) (Ws f t u):=by
 intro pins s σ H D I h;refine wpAny_If (dG (k pins s σ H _ I h) λd g ⟨j,i,q1⟩=>?_);cases d with
 |true=>exact m pins g σ j D i q1
 |false=>exact l pins g σ j D i q1
def Mj:TS:=λ_ _ _=>False
end
abbrev TG:=V->St->Hp->(St->Hp->Prop)->Prop
abbrev Kj:=ag->St->Hp->(St->Hp->Prop)->Prop
def PG(X:Cx)(target:Expr)(t:TG):Prop :=
 ∀(pins:aw) (s:Shared) (σ:St) (H:Hp) (v:V) (u:Value) (Q:St->Hp->Prop),Inv X pins σ H s->RelV v u->t v σ H Q ->
  wpAny (model X.prog X.w) X.A (assign target X.env u) (λ_ c=>∃a b,Inv X pins a b c/\Q a b) X.xe s
def Qq(X:Cx)(ts:ak)(t:Kj):Prop :=
 ∀(pins:aw) (s:Shared) (σ:St) (H:Hp) (vs:ag) (b:az) (Q:St->Hp->Prop),Inv X pins σ H s->Vals vs b->t vs σ H Q ->
  wpAny (model X.prog X.w) X.A (assignInOrder ((assignEach ts X.env).map (·.2)) b) (λ_ d=>∃a c,Inv X pins a c d/\Q a c) X.xe s
variable {es:ak}{te:TE}{tg:Expr}
section
variable {X:Cx}{pos:Pos}
def pv(i:Nat):TG:=λv σ H Q=>Q (σ.set i (some v)) H
def sM{i:Nat}{x:Str}(c:X.N.Nodup)(b:X.N[i]?=some x)(a:Loc X.env.scope x)(hf:X.fn x=true\/X.env.scope.names.lookup x=some .local:=by first|exact .inl rfl|exact .inr rfl|assumption):PG X (.Name x pos) (pv i):=by
 intro pins s σ H v u Q I r h;exact wpAny_assign_Name (jC I c b a r (λe d=>⟨_,H,d,h⟩) hf)
def Ob:Kj:=λa σ H Q=>a=[]/\Q σ H
def FC(t:TG)(u:Kj):Kj:=λb σ H Q=>∃v r,b=v::r/\t v σ H λa c=>u r a c Q
def zv:Qq X [] Ob:=by
 intro pins s σ H a b Q I r h;obtain⟨e,h⟩:=h;subst e;cases r;exact assignInOrder_nil ⟨σ,H,I,h⟩
def vy{e:Expr}{t:TG}{u:Kj}(f:PG X e t)(d:Qq X es u)
  (hs:(assignEach (e::es) X.env).map (·.2)=assign e X.env::(assignEach es X.env).map (·.2):=by rfl):Qq X (e::es) (FC t u):=by
 intro pins s σ H l n Q I r h;obtain⟨v,m,g,h⟩:=h;subst g;cases r with
 |cons r c =>
  rw[hs];refine assignInOrder_cons (dG (f pins s σ H _ _ _ I r h) λ_ b i=>?_);obtain⟨a,k,j,q1⟩:=i;exact d pins b a k _ _ Q j c q1
def Y2(K:ao)(n:Nat)(t:Kj):TG:=λv σ H Q=>∃a b,v=.ref a/\bg K H a b/\b.length=n/\t b σ H Q
def xU{k:Nat}{t:Kj}{n:Nat}(l:X.calm=true)(h:Qq X es t)
  (j:(assignEach es X.env).length=n:=by rfl) (d:(assignEach es X.env).findIdx? (·.1)=none:=by rfl):PG X (.Tuple es k pos) (Y2 X.K n t):=by
 intro pins s σ H v u Q I r hw;obtain⟨a,c,p,i,hl,hw⟩:=hw;subst p;cases r;obtain⟨x,rv,g,w⟩:=I.tuple i;refine assign_Tuple_tuple (I.ok.hd l) g (by simp[j,<- hl,rv.length]) d λm f=>?_;have q:Inv X pins σ H { s with heap:=m }:=I.kept (t':=s.toks) λb o e=>f b o (aak (aag e)) e;exact h pins _ σ H c _ Q q (by simpa using rv) hw
def Q8(te:TE)(g:TG):TS:=λD σ H=>te σ H λx a=>g x σ a D.nx
def DU{e:Expr}{g:TG}(he:PE X e te)(b:PG X tg g)(hs:swapsWithSole [tg] e pos.line X.env=pure false:=by rfl)(hw:swappedStores [tg] e X.env=pure none:=by rfl)
  (c:(assignEach [tg] X.env).map (·.2)=[assign tg X.env]:=by rfl):PS X (.Assign [tg] e pos) (Q8 te g):=by
 intro pins s σ H D I h;refine wpAny_Assign_stores (dG (he pins s σ H _ I h) λv a d=>?_) hs hw;obtain⟨x,i,f,r1,q1⟩:=d;rw[c];exact dG (b pins a σ i x v _ f r1 q1) λ_ j q=>q
def oG{i:Nat}{x:Str}{e:Expr}{pos':Pos}(c:X.N.Nodup)(b:X.N[i]?=some x)(a:Loc X.env.scope x)(he:PE X e te)(hs:swapsWith e (some (.Name x pos')) pos.line X.env=pure false:=by rfl)(hf:X.fn x=true\/X.env.scope.names.lookup x=some .local:=by first|exact .inl rfl|exact .inr rfl|assumption):
  PS X (.Assign [.Name x pos'] e pos) (Q8 te (pv i)):=by
 intro pins s σ H D I h;refine wpAny_Assign_Name (dG (he pins s σ H _ I h) λv l d=>?_) hs;obtain⟨y,j,g,r1,q1⟩:=d;exact jC g c b a r1 (λk f=>⟨_,j,f,q1⟩) hf
def Wm(i j:Nat)(b:TA):TS:=λD σ H=>b σ H λa c=>∃v w,a=[v,w]/\D.nx ((σ.set i (some v)).set j (some w)) c
def MT{i j:Nat}{x y:Str}{a b:Expr}{f:TA}{px d pt:Pos}{kt k2 PH}(J:X.calm=true)(l:X.N.Nodup)(G:X.N[i]?=some x)(F:X.N[j]?=some y)(u:i≠j)
  (k:X.env.scope.names.lookup x=some .local) (g:X.env.scope.names.lookup y=some .local) (L:PA X [a,b] f)
  (hw:swappedStores [.Tuple [.Name x px,.Name y d] kt pt] (.Tuple [a,b] k2 PH) X.env=pure (some [x,y]))
  (hs:swapsWithSole [.Tuple [.Name x px,.Name y d] kt pt] (.Tuple [a,b] k2 PH) pos.line X.env=pure false:=by rfl) :
  PS X (.Assign [.Tuple [.Name x px,.Name y d] kt pt] (.Tuple [a,b] k2 PH) pos) (Wm i j f):=by
 intro pins s σ H D I h;rw[exec_Assign_arm];refine aaa (wpAny_standAt ?_);rw[hs];refine aaa (aae ?_);rw[zab (by decide)];refine aaa (Tuple_ (dG (L _ pins s σ H _ I h) λt c O=>?_));obtain⟨U,r,T,r1,q1⟩:=O;obtain⟨v,w,M,q1⟩:=q1;subst M;obtain⟨u1,u2,rfl,rv,C⟩:∃u1 u2,t=[u1,u2]/\RelV v u1/\RelV w u2:=by
  cases r1 with
  |cons p q =>
   cases q with
   |cons B z =>
    cases z;exact⟨_,_,rfl,p,B⟩
 refine abb ?_ (by show 2<=sizeLine;decide);have S:Inv X pins σ r { c with heap:=c.heap.push { cls:=.type "tuple",data:=.seq [u1,u2].toArray } }:=T.kept (t':=c.toks) λb o e=>aad _ e;rw[hw];refine aaa (aae ?_);show wpAny (model X.prog X.w) X.A (do rule "assign.swapped-stores";let items <- unpackItems (.ref c.heap.objs.size) 2 none;assignInOrder [λv=>bindName X.env y v,λv=>bindName X.env x v] items.reverse;pure Flow.next) _ _ _;refine aaa (wpAny_rule (aaa (unpackItems_tuple (items:=#[u1,u2]) (I.ok.hd J) (IsTup.new c.heap _) λm P=>?_)));have R:=S.kept (h':=m) (t':=c.toks) λb o e=>P b o (aak (aag e)) e;show wpAny _ _ (assignInOrder [λv=>bindName X.env y v,λv=>bindName X.env x v] [u2,u1] >>= λ_=>pure Flow.next) _ _ _;refine aaa (assignInOrder_cons (wpAny_bindName (jC R l F (.inl g) C (λW Q=>?_) (.inr g))));refine assignInOrder_cons (wpAny_bindName (jC Q l G (.inl k) rv (λV n=>assignInOrder_nil (aae ?_)) (.inr k)));rw[List.set_comm _ _ (Ne.symm u)]at n;exact⟨_,r,n,q1⟩
end
section
variable {X:Cx}{pos:Pos}
def Mh(c:TT)(tb:TS):TS:=λD σ H=>∃W:Nat->St->Hp->Prop,(∃m,W m σ H)/\∀m σ H,W m σ H ->
 c σ H λb e=>if b=true then ∃N:St->Hp->Prop,(∀a f,N a f->∃d,d<m/\W d a f)/\tb { D with nx:=N,ct:=N,bk:=D.nx } σ e else D.nx σ e
def DR{c:Expr}{body:aW}{o:TT}{tb:TS}(p:PassesOwn (model X.prog X.w) X.A X.env X.xe)(G:PT X c o)(J:jd X body tb):PS X (.While c body [] pos) (Mh o tb):=by
 intro pins s σ H D I h;obtain⟨W,⟨F,y⟩,turn⟩:=h;refine wpAny_While (codeAny_whileLoop (λn C=>∃e x,Inv X pins e x C/\W n e x) ?_ F ⟨σ,H,I,y⟩);rintro n B ⟨d,u,L,w1⟩;refine abk p (dG (G pins B d u _ L (turn n d u w1)) λb z ⟨t,r,q2⟩=>?_);cases b with
 |true =>
  obtain⟨N,q,q2⟩:=q2;rw[zac rfl];refine abk p (dG (J pins z d t _ r q2) λf M i=>?_);cases f with
  |next =>
   obtain⟨a,g,m,j⟩:=i;obtain⟨k,l,w3⟩:=q a g j;exact⟨k,l,a,g,m,w3⟩
  |cont =>
   obtain⟨a,g,m,j⟩:=i;obtain⟨k,l,w3⟩:=q a g j;exact⟨k,l,a,g,m,w3⟩
  |brk=>exact i
  |ret v=>exact i
 |false =>
  rw[zab zaj];exact abQ ⟨d,t,r,q2⟩
end
structure It where
 go:Nat->Hp->Prop
 w9:Nat->Hp->V->Hp->Prop
 stop:Nat->Hp->Prop
def qd(X:Cx)(pins:aw)(H:Hp)(b:Addr):Prop :=
 H b=none/\b≠X.env.locals/\b∉X.fs/\(b∈X.ex\/X.s₀.heap.objs.size<=b)/\(∀x c,X.env.cells.lookup x=some c->c≠b)/\∀p∈X.pn++pins,p.1≠b
def Inv.yA{pins:aw}{H':Hp}{s:Shared}{b:Addr}(I:Inv X pins σ H s)(a:s.heap.objs.size<=b)(f:H' b=none):qd X pins H' b:=by
 refine⟨f,aay (aaf I.lt a),I.M_ a,.inr (aaS I.sz a),λx c e z=>?_,λp d z=>?_⟩
 ·obtain⟨v,q⟩:=I.cell x c e;exact absurd (aaf q.lt (by rw[z];exact a)) (aaz _)
 ·exact absurd (aaf (aag (I.pin p d).1) (by rw[z];exact a)) (aaz _)
structure Turn(P:aM)(w:World)(K:ao)(tg:Expr)(J:It)(fp:bo)(it:Addr)(tn:Nat->Heap->Prop):Prop where
 mem:it∈fp
 obj:∀i h,tn i h->∀b∈fp,∃o,h.get? b=some o/\∀v,o.data≠.cell v
 keep:∀i h h',tn i h->(∀b∈fp,∀o,h.get? b=some o->h'.get? b=some o)->tn i h'
 item:∀(X:Cx),X.prog=P->X.w=w->X.K=K->X.calm=true->∀(i:Nat) (pins:aw) (s:Shared) (σ:St) (H:Hp) (E:aG),Inv X pins σ H s->(∀b∈fp,qd X pins H b)->tn i s.heap->J.go i H ->
  wpAny (model P w) X.A (pyNext (.ref it)) (λr s1=>∃u,r=some u /\
   wpAny (model P w) X.A (letOwnedTupleGo tg (.ref it) u) (λ_ s2=>∃x H',Inv X pins σ H' s2/\RelV x u/\J.w9 i H x H'/\tn (i+1) s2.heap/\∀b∈fp,H' b=none) E s1) E s
 done:∀(X:Cx),X.prog=P->X.w=w->X.K=K->X.calm=true->∀(i:Nat) (pins:aw) (s:Shared) (σ:St) (H:Hp) (E:aG),Inv X pins σ H s->(∀b∈fp,qd X pins H b)->tn i s.heap->J.stop i H ->
  wpAny (model P w) X.A (pyNext (.ref it)) (λr s1=>r=none/\Inv X pins σ H s1) E s
 self:∀(A:aN) (i:Nat) (s:Shared) (Q:aG) (E:aG),tn i s.heap->Q (.ref it) s->wpAny (model P w) A (pyIter (.ref it)) Q E s
abbrev TI:=St->Hp->(It->Hp->Prop)->Prop
def Ct(X:Cx)(pins:aw)(σ:St)(tg:Expr)(R:It->Hp->Prop)(c:Value)(s2:Shared):Prop :=
 ∃(it:Addr) (fp:bo) (a:Nat->Heap->Prop) (J:It) (H':Hp),c=.ref it/\Inv X pins σ H' s2/\Turn X.prog X.w X.K tg J fp it a/\a 0 s2.heap/\(∀b∈fp,qd X pins H' b)/\R J H'
def PI(X:Cx)(tg iter:Expr)(a:TI):Prop :=
 ∀(pins:aw) (s:Shared) (σ:St) (H:Hp) (R:It->Hp->Prop),Inv X pins σ H s->a σ H R ->
  wpAny (model X.prog X.w) X.A (eval iter X.env) (λv b=>wpAny (model X.prog X.w) X.A (pyIter v) (Ct X pins σ tg R) X.xe b) X.xe s
def zU{M:Model}{A:aN}{s:Shared}{it:Addr}{u:Value}{o:Obj}{n:String}{vs:aY}{Q:Unit->Shared->Prop}(b:s.heap.get? it=some o)(e:o.cls=.type n)(d:o.data=.fields vs)
    (c:["enumerate","zip","dict_itemiterator","dict_reverseitemiterator","odict_iterator","itertools.zip_longest","itertools.pairwise"].contains n=false) (a:Q () s):wpAny M A (letOwnedTupleGo tg (.ref it) u) Q E s:=by
  unfold letOwnedTupleGo;cases tg<;>first
    |exact aae a
    | (cases u<;>first
        |exact aae a
        | (refine aaa (wpAny_load b ?_)
           rw[e,d];show wpAny M A (if (["enumerate","zip","dict_itemiterator","dict_reverseitemiterator","odict_iterator","itertools.zip_longest","itertools.pairwise"].contains n&&vs[0]?==some (rawInt _))=true then _ else _) Q E s;rw[zab (by intro h;rw[c,zaQ]at h;cases h)];exact aae a))
noncomputable def Qt(K:ao)(a:Addr):It :=
 ⟨λi H=>∃b x,dD K H a b/\b[i]?=some x,λi H x c=>c=H/\∀b,dD K H a b->b[i]?=some x,λi H=>∃b,dD K H a b/\b.length<=i⟩
noncomputable def Qs(K:ao)(a:Addr):It :=
 ⟨λi H=>∃b x,bg K H a b/\b[i]?=some x,λi H x c=>c=H/\∀b,bg K H a b->b[i]?=some x,λi H=>∃b,bg K H a b/\b.length<=i⟩
noncomputable def Cu(lo:Int)(n:Nat):It:=⟨λi _=>i<n,λi H x a=>a=H/\x=.int (lo+i),λi _=>n<=i⟩
variable {P:aM}{w:World}
def AS(a it:Addr):Turn P w K tg (Qt K a) [it] it (λi h=>h.IsListIter it a i) where
 mem:=by simp
 obj:=λi h f b g=>by
  have e:b=it:=by simpa using g
  subst e;obtain⟨o,e,c,d⟩:=f;exact⟨o,e,λv z=>by rw[d]at z;cases z⟩
 keep:=λi h m f k=>f.at λo e=>k it (by simp) o e
 item:=by
  intro X r hw t G i pins s σ H E I l f q;subst r hw t;obtain⟨J,x,j,n⟩:=q;obtain⟨T,rv,p,N⟩:=I.list j;obtain⟨u,Q,M⟩:=rv.get n;obtain⟨D,C,R,B,A,y⟩:=l it (by simp);refine wpAny_pyNext_list_item f p.isList (x:=u) (by simpa using Q) λm F L=>?_;have U:Inv X pins σ H { s with heap:=m }:=I.turned (t':=s.toks) (λb o g e=>(L.2 b g).trans e) D C B A y;obtain⟨o,e,c,d⟩:=id F;exact⟨u,rfl,zU (s:={ s with heap:=m }) e c d (by decide) ⟨x,H,U,M,⟨rfl,λV O=>by rw[I.jH O j];exact n⟩,F,λb g=>(l b g).1⟩⟩
 done:=by
  intro X r hw t G i pins s σ H E I l f q;subst r hw t;obtain⟨J,j,n⟩:=q;obtain⟨T,rv,p,N⟩:=I.list j;obtain⟨D,C,R,B,A,y⟩:=l it (by simp);have hl:=rv.length;exact wpAny_pyNext_list_end (I.ok.hd G) f p.isList (by simp;left) λm S=>⟨rfl,I.turned (t':=s.toks) (λb o g e=>S b o g e) D C B A y⟩
 self:=λ_ _ _ _ _ f h=>wpAny_pyIter_listiter f h
def xB(a it:Addr):Turn P w K tg (Qs K a) [it] it (λi h=>h.IsTupleIter it a i) where
 mem:=by simp
 obj:=λi h f b g=>by
  have e:b=it:=by simpa using g
  subst e;obtain⟨o,e,c,d⟩:=f;exact⟨o,e,λv z=>by rw[d]at z;cases z⟩
 keep:=λi h m f k=>f.at λo e=>k it (by simp) o e
 item:=by
  intro X r hw t J i pins s σ H E I l f q;subst r hw t;obtain⟨L,x,j,n⟩:=q;obtain⟨F,rv,p,O⟩:=I.tuple j;obtain⟨u,R,N⟩:=rv.get n;obtain⟨D,C,S,B,A,y⟩:=l it (by simp);refine wpAny_pyNext_tuple_item f (show s.heap.IsTuple a F.toArray from p) (x:=u) (by simpa using R) λm G M=>?_;have U:Inv X pins σ H { s with heap:=m }:=I.turned (t':=s.toks) (λb o g e=>(M.2 b g).trans e) D C B A y;obtain⟨o,e,c,d⟩:=id G;exact⟨u,rfl,zU (s:={ s with heap:=m }) e c d (by decide) ⟨x,H,U,N,⟨rfl,λV Q=>by rw[I.l_ Q j];exact n⟩,G,λb g=>(l b g).1⟩⟩
 done:=by
  intro X r hw t J i pins s σ H E I l f q;subst r hw t;obtain⟨L,j,n⟩:=q;obtain⟨F,rv,p,O⟩:=I.tuple j;obtain⟨D,C,S,B,A,y⟩:=l it (by simp);have hl:=rv.length;exact wpAny_pyNext_tuple_end (I.ok.hd J) f (show s.heap.IsTuple a F.toArray from p) (by simp;left) λm T=>⟨rfl,I.turned (t':=s.toks) (λb o g e=>T b o g e) D C B A y⟩
 self:=λ_ _ _ _ _ f h=>wpAny_pyIter_tupleiter f h
def xC(it:Addr)(lo:Int)(n:Nat):Turn P w K tg (Cu lo n) [it] it (λi h=>IsRangeIter h it (lo+(i:Nat)*1) ((n:Int) - (i:Nat)) 1) where
 mem:=by simp
 obj:=λi h a b c=>by
  have e:b=it:=by simpa using c
  subst e;exact⟨_,a,λv z=>by
   have B:Data.fields _=Data.cell v:=z;cases B⟩
 keep:=λi h f a k=>k it (by simp) _ a
 item:=by
  intro X l hw m j i pins s σ H E I d a g;subst l hw m;obtain⟨x,u,F,r,q,p⟩:=d it (by simp);have W:=Walks.range (prog:=X.prog) (w:=X.w) (I.ok.hd j) it lo 1 n;refine W.item i s _ _ g a λv f y D A C=>?_;obtain⟨t,rfl⟩:=D;have J:Inv X pins σ H { s with heap:=f,toks:=y }:=I.turned (λb o c e=>C b o (by simpa using c) e) x u r q p;refine⟨_,rfl,zU (s:={ s with heap:=f,toks:=y }) (n:="range_iterator") A rfl rfl (by decide) ⟨.int (lo+i),H,J,⟨t,?_⟩,⟨rfl,rfl⟩,A,λb c=>(d b c).1⟩⟩;rw[Int.mul_one]
 done:=by
  intro X l hw m j i pins s σ H E I d a g;subst l hw m;obtain⟨x,u,F,r,q,p⟩:=d it (by simp);exact wpAny_pyNext_range_end (I.ok.hd j) a (by have:n<=i:=g;left) λf G=>⟨rfl,I.turned (t':=s.toks) (λb o c e=>G b o c e) x u r q p⟩
 self:=λ_ _ _ _ _ a h=>wpAny_pyIter_rangeiter a h
end L2
namespace L2
open PySem PySem.Spec PyProof.Rows
variable {H:Hp}{fp:bo}{lo:Int}{pos:Pos}{σ:L2.St}
section
variable {X:Cx}{tg:Expr}
def Sy(K:ao)(d:TE):TI:=λσ H R=>d σ H λx b=>∃a,x=.ref a/\(∃c,dD K b a c)/\R (Qt K a) b
def XS(K:ao)(d:TE):TI:=λσ H R=>d σ H λx b=>∃a,x=.ref a/\(∃c,bg K b a c)/\R (Qs K a) b
def zu{l:Expr}{f:TE}(hl:PE X l f):PI X tg l (Sy X.K f):=by
 intro pins s σ H R I h;refine dG (hl pins s σ H _ I h) λv c j=>?_;obtain⟨x,k,d,r1,q1⟩:=j;obtain⟨a,e,⟨m,g⟩,q⟩:=q1;subst e;cases r1;obtain⟨r,rv,p,n⟩:=d.list g;refine wpAny_pyIter_list p.isList ?_;refine⟨c.heap.objs.size,[c.heap.objs.size],_,_,k,rfl,d.kept (t':=c.toks) λb o e=>aad _ e,AS a _,⟨_,aaq _ rfl,rfl,rfl⟩,λb i=>?_,q⟩;have e:b=c.heap.objs.size:=by simpa using i
 subst e;exact d.yA (aaj _) (d.cJ.fresh (aaj _))
def DZ{l:Expr}{f:TE}(hl:PE X l f):PI X tg l (XS X.K f):=by
 intro pins s σ H R I h;refine dG (hl pins s σ H _ I h) λv c j=>?_;obtain⟨x,m,d,r1,q1⟩:=j;obtain⟨a,e,⟨n,g⟩,q⟩:=q1;subst e;cases r1;obtain⟨k,rv,p,r⟩:=d.tuple g;refine wpAny_pyIter_tuple (show c.heap.IsTuple a k.toArray from p) ?_;refine⟨c.heap.objs.size,[c.heap.objs.size],_,_,m,rfl,d.kept (t':=c.toks) λb o e=>aad _ e,xB a _,⟨_,aaq _ rfl,rfl,rfl⟩,λb i=>?_,q⟩;have e:b=c.heap.objs.size:=by simpa using i
 subst e;exact d.yA (aaj _) (d.cJ.fresh (aaj _))
def DM{pins:aw}{s:Shared}{R:It->Hp->Prop}{E:aG}{a:Int}{t u v:Tok}{tk:Nat}(I:Inv X pins σ H s)(i:-(2 ^ 62)<=lo)(h:lo<2 ^ 62)(g:-(2 ^ 62)<=a)(f:a<2 ^ 62)
  (q:R (Cu lo (a - lo).toNat) H):wpAny (model X.prog X.w) X.A (pyIter (.ref s.heap.objs.size)) (Ct X pins σ tg R) E { s with heap:=s.heap.push { cls:=.type "range",data:=.fields #[.int lo t,.int a u,.int 1 v] },toks:=tk }:=by
 refine wpAny_pyIter_range (IsRange.new ..) (small_one i h g f) ?_;have c:Inv X pins σ H { s with heap:=s.heap.push { cls:=.type "range",data:=.fields #[.int lo t,.int a u,.int 1 v] },toks:=tk }:=I.kept λb o e=>aad _ e;refine⟨(s.heap.push { cls:=.type "range",data:=.fields #[.int lo t,.int a u,.int 1 v] }).objs.size,[(s.heap.push { cls:=.type "range",data:=.fields #[.int lo t,.int a u,.int 1 v] }).objs.size],_,_,H,rfl,
  c.kept (t':=tk) λb o e=>aad _ e,xC _ lo (a - lo).toNat,?_,λb d=>?_,q⟩
 ·have k:lo+((0:Nat):Int)*1=lo:=by simp
  have j:(((a - lo).toNat:Nat):Int) - ((0:Nat):Int)=Builtin.Range.rangeSize lo a 1:=by rw[rangeSize_one];split<;>left
  show IsRangeIter _ _ (lo+((0:Nat):Int)*1) ((((a - lo).toNat:Nat):Int) - ((0:Nat):Int)) 1;rw[k,j];exact aaq _ rfl
 ·have e:b=(s.heap.push { cls:=.type "range",data:=.fields #[.int lo t,.int a u,.int 1 v] }).objs.size:=by simpa using d
  subst e;exact c.yA (aaj _) (c.cJ.fresh (aaj _))
def Sw(b:TA):TI:=λσ H R=>b σ H λa c=>∃j:Int,a=[.int j] /\ -(2 ^ 62)<=j/\j<2 ^ 62/\R (Cu 0 j.toNat) c
def qV{a:Expr}{b:TA}{p:Pos}(f:Gl X "range")(d:X.mg "range" = none)(g:PA X [a] b)(hs:starEach [a] X.env=[(false,eval a X.env)]:=by rfl):PI X tg (.Call (.Name "range" p) [a] [] pos) (Sw b):=by
 intro pins s σ H R I h;refine Call_ (eO I f d boot_range (aav (dG (g pos pins s σ H _ I h) λm n i=>?_) hs rfl));obtain⟨l,o,k,r1,q1⟩:=i;obtain⟨j,e,q1,q2,q⟩:=q1;subst e;cases r1 with
 |cons r c =>
  cases c;obtain⟨t,rfl⟩:=r;exact call_range_1 (DM k (by left) (by left) q1 q2 (by simpa using q))
def Wt(e:TI)(g:TG)(tb:TS):TS:=λD σ H=>e σ H λJ h=>∃W:Nat->Nat->St->Hp->Prop,(∃m,W 0 m σ h)/\∀i m σ H,W i m σ H ->
 (J.stop i H/\D.nx σ H)\/(J.go i H/\∃N:St->Hp->Prop,(∀a b,N a b->∃d,d<m/\W (i+1) d a b)/\∀x b,J.w9 i H x b->g x σ b λc f=>tb { D with nx:=N,ct:=N,bk:=D.nx } c f)
noncomputable def jF(fp:bo)(h:Heap):aw:=fp.filterMap λb=>(h.get? b).map λo=>(b,o)
def iW{h:Heap}{b:Addr}{o:Obj}(a:b∈fp)(e:h.get? b=some o):(b,o)∈jF fp h:=List.mem_filterMap.mpr ⟨b,a,by rw[e];rfl⟩
def qX{h:Heap}{p:Addr×Obj}(a:p∈jF fp h):p.1∈fp/\h.get? p.1=some p.2:=by
 obtain⟨b,c,e⟩:=List.mem_filterMap.mp a;cases q:h.get? b with
 |none=>rw[q]at e;cases e
 |some o =>
  rw[q]at e;have d:(b,o)=p:=aat e;subst d;exact⟨c,q⟩
def Inv.pinned{pins:aw}{s:Shared}(I:Inv X pins σ H s)(hf:∀b∈fp,qd X pins H b)(g:∀b∈fp,∃o,s.heap.get? b=some o/\∀v,o.data≠.cell v):Inv X (pins++jF fp s.heap) σ H s :=
 I.j7 λp f=>(List.mem_append.mp f).elim (λz=>I.pin p (aap _ z)) λz=>by
  obtain⟨a,e⟩:=qX z;obtain⟨j,i,h,_⟩:=hf p.1 a;obtain⟨o,c,d⟩:=g p.1 a;rw[e]at c;cases c;exact⟨e,j,i,h,d⟩
def Inv.lC{pins a:aw}{s:Shared}(I:Inv X (pins++a) σ H s):Inv X pins σ H s:=I.j7 λp b=>I.pin p (aap _ (aaB _ b))
def sI{iter:Expr}{body:aW}{O:TI}{g:TG}{tb:TS}(B:PassesOwn (model X.prog X.w) X.A X.env X.xe)(U:X.calm=true)(hi:PI X tg iter O)(hg:PG X tg g)(k:jd X body tb)
  (hs:∀x,foldedSetIterable iter X.env x=pure x:=by intro _;rfl):PS X (.For tg iter body [] pos) (Wt O g tb):=by
 intro pins s σ H D I h;refine wpAny_For (dG (hi pins s σ H _ I h) λv s1 h1=>dG h1 λXF s2 h2=>?_) hs;obtain⟨it,fp,P,J,H2,e,I2,T,Rc,V,W,⟨m0,w0⟩,turn⟩:=h2;subst e;have M:∀{H':Hp},(∀b∈fp,H' b=none)->∀b∈fp,qd X pins H' b:=λhn b k=>⟨hn b k,(V b k).2⟩
 refine codeAny_forLoop_any (λn S=>∃i j H',Inv X pins j H' S/\P i S.heap/\(∀b∈fp,H' b=none)/\W i n j H') ?_ m0 ⟨0,σ,H2,I2,Rc,λb k=>(V b k).1,w0⟩;rintro n R ⟨i,c,E,Y,y,C,w3⟩;rcases turn i n c E w3 with ⟨stop,qn⟩|⟨go,N,hN,step⟩
 ·refine abk B (dG (T.done X rfl rfl rfl U i pins R c E X.xe Y (M C) y stop) λr s4 t=>?_);obtain⟨K,I4⟩:=t;subst K;exact abQ ⟨c,E,I4,qn⟩
 ·refine abk B (dG (T.item X rfl rfl rfl U i pins R c E X.xe Y (M C) y go) λr s4 t=>?_);obtain⟨u,K,h4⟩:=t;subst K;refine abk B (dG h4 λ_ Q t=>?_);obtain⟨x,Z,I5,r5,y5,L,Y6⟩:=t;have ZO:=I5.pinned (M Y6) (T.obj _ _ L);refine abk B (dG (hg _ Q c Z x u _ ZO r5 (step x Z y5)) λ_ s6 t=>?_);obtain⟨F,H6,I6,q6⟩:=t;refine abk B (dG (k _ s6 F H6 _ I6 q6) λf G q=>?_);have again:∀{a:St} {p:Hp},Inv X (pins++jF fp Q.heap) a p G->N a p->∃m,m<n/\∃i j H',Inv X pins j H' G/\P i G.heap/\(∀b∈fp,H' b=none)/\W i m j H':=λ{a p} l z=>by
   obtain⟨m',hm,w7⟩:=hN a p z;refine⟨m',hm,i+1,a,p,l.lC,T.keep _ _ _ L λb k o e=>(l.pin (b,o) (aap _ (aap _ (iW k e)))).1,λb k=>?_,w7⟩;obtain⟨o,e,d⟩:=T.obj _ _ L b k;exact(l.pin (b,o) (aap _ (aap _ (iW k e)))).2.1
  cases f with
  |next=>obtain⟨a,p,l,z⟩:=q;exact again l z
  |cont=>obtain⟨a,p,l,z⟩:=q;exact again l z
  |brk=>obtain⟨a,p,l,q⟩:=q;exact⟨a,p,l.lC,q⟩
  |ret v=>obtain⟨x7,a,p,l,r7,q⟩:=q;exact⟨x7,a,p,l.lC,r7,q⟩
end
variable {K:ao}{xs:ag}
def FF{a:Addr}{g:TG}{tb:TS}{D:Ends}(b:Nat->St->Hp->Prop)(r:b 0 σ H)(hl:∀i σ H,i<=xs.length->b i σ H->dD K H a xs)
  (hs:∀i x σ H,xs[i]?=some x->b i σ H->g x σ H λc h=>tb { D with nx:=b (i+1),ct:=b (i+1),bk:=D.nx } c h) (o:∀σ H,b xs.length σ H->D.nx σ H) :
  ∃W:Nat->Nat->St->Hp->Prop,(∃m,W 0 m σ H)/\∀i m σ H,W i m σ H ->
   ((Qt K a).stop i H/\D.nx σ H)\/((Qt K a).go i H/\∃N:St->Hp->Prop,(∀d f,N d f->∃j,j<m/\W (i+1) j d f)/\∀x f,(Qt K a).w9 i H x f->g x σ f λc h=>tb { D with nx:=N,ct:=N,bk:=D.nx } c h):=by
 refine⟨λi m σ H=>m=xs.length - i/\i<=xs.length/\b i σ H,⟨xs.length,by simp,aa3 _,r⟩,?_⟩;rintro i m σ H ⟨rfl,n,p⟩;have q:=hl i σ H n p;by_cases k:i<xs.length
 ·refine .inr ⟨⟨xs,xs[i],q,by simp[k]⟩,b (i+1),λd f l=>⟨xs.length - (i+1),by left,rfl,k,l⟩,λx f y=>?_⟩;obtain⟨e,y⟩:=y;subst e;exact hs i x σ _ (y xs q) p
 ·have e:i=xs.length:=by left
  subst e;exact .inl ⟨⟨xs,q,aaj _⟩,o σ H p⟩
def Jt{a:Addr}{g:TG}{tb:TS}{D:Ends}(b:Nat->St->Hp->Prop)(r:b 0 σ H)(hl:∀i σ H,i<=xs.length->b i σ H->bg K H a xs)
  (hs:∀i x σ H,xs[i]?=some x->b i σ H->g x σ H λc h=>tb { D with nx:=b (i+1),ct:=b (i+1),bk:=D.nx } c h) (o:∀σ H,b xs.length σ H->D.nx σ H) :
  ∃W:Nat->Nat->St->Hp->Prop,(∃m,W 0 m σ H)/\∀i m σ H,W i m σ H ->
   ((Qs K a).stop i H/\D.nx σ H)\/((Qs K a).go i H/\∃N:St->Hp->Prop,(∀d f,N d f->∃j,j<m/\W (i+1) j d f)/\∀x f,(Qs K a).w9 i H x f->g x σ f λc h=>tb { D with nx:=N,ct:=N,bk:=D.nx } c h):=by
 refine⟨λi m σ H=>m=xs.length - i/\i<=xs.length/\b i σ H,⟨xs.length,by simp,aa3 _,r⟩,?_⟩;rintro i m σ H ⟨rfl,n,p⟩;have q:=hl i σ H n p;by_cases k:i<xs.length
 ·refine .inr ⟨⟨xs,xs[i],q,by simp[k]⟩,b (i+1),λd f l=>⟨xs.length - (i+1),by left,rfl,k,l⟩,λx f y=>?_⟩;obtain⟨e,y⟩:=y;subst e;exact hs i x σ _ (y xs q) p
 ·have e:i=xs.length:=by left
  subst e;exact .inl ⟨⟨xs,q,aaj _⟩,o σ H p⟩
def B0{n:Nat}{g:TG}{tb:TS}{D:Ends}(c:Nat->St->Hp->Prop)(o:c 0 σ H)
  (hs:∀i σ H,i<n->c i σ H->g (.int (lo+i)) σ H λa h=>tb { D with nx:=c (i+1),ct:=c (i+1),bk:=D.nx } a h) (l:∀σ H,c n σ H->D.nx σ H) :
  ∃W:Nat->Nat->St->Hp->Prop,(∃m,W 0 m σ H)/\∀i m σ H,W i m σ H ->
   ((Cu lo n).stop i H/\D.nx σ H)\/((Cu lo n).go i H/\∃N:St->Hp->Prop,(∀b d,N b d->∃j,j<m/\W (i+1) j b d)/\∀x d,(Cu lo n).w9 i H x d->g x σ d λa h=>tb { D with nx:=N,ct:=N,bk:=D.nx } a h):=by
 refine⟨λi m σ H=>m=n - i/\i<=n/\c i σ H,⟨n,by simp,aa3 _,o⟩,?_⟩;rintro i m σ H ⟨rfl,q,p⟩;by_cases f:i<n
 ·refine .inr ⟨f,c (i+1),λb d k=>⟨n - (i+1),by left,rfl,f,k⟩,λx d y=>?_⟩;obtain⟨e,y⟩:=y;subst e y;exact hs i σ _ f p
 ·have e:i=n:=by left
  subst e;exact .inl ⟨aaj _,l σ H p⟩
end L2
namespace L2
open PySem PySem.Spec PyProof.Rows
abbrev R2:=V->V->Hp->VK->Prop
def mT(X:Cx)(f:Value->Value->Sem Value)(r:R2):Prop :=
 ∀(pins:aw) (s:Shared) (a:St) (H:Hp) (x y:V) (v u:Value) (Q:VK),Inv X pins a H s->RelV x v->RelV y u->r x y H Q ->
  wpAny (model X.prog X.w) X.A (f v u) (EP X pins a Q) X.xe s
def ZI(X:Cx)(f:Value->Sem Value)(r:V->Hp->VK->Prop):Prop :=
 ∀(pins:aw) (s:Shared) (a:St) (H:Hp) (x:V) (v:Value) (Q:VK),Inv X pins a H s->RelV x v->r x H Q ->
  wpAny (model X.prog X.w) X.A (f v) (EP X pins a Q) X.xe s
def iO(X:Cx)(f:Value)(r:ag->Hp->VK->Prop):Prop :=
 ∀(pins:aw) (s:Shared) (a:St) (H:Hp) (xs:ag) (b:az) (Q:VK),Inv X pins a H s->Vals xs b->r xs H Q ->
  wpAny (model X.prog X.w) X.A (call f b) (EP X pins a Q) X.xe s
def Ku(r:R2)(b tb:TE):TE:=λa H Q=>b a H λx d=>tb a d λy c=>r x y c Q
def tUn(r:V->Hp->VK->Prop)(b:TE):TE:=λa H Q=>b a H λx c=>r x c Q
def rI(C:Int->Int->Prop)(g:Int->Int->V):R2:=λx y H Q=>∃i j,x=.int i/\y=.int j/\C i j/\Q (g i j) H
def GI(g:Int->Int->V):R2:=λx y H Q=>∃i j,x=.int i/\y=.int j/\Q (g i j) H
def rU(g:Int->V):V->Hp->VK->Prop:=λx H Q=>∃i,x=.int i/\Q (g i) H
section
variable {X:Cx}{a b c:Expr}{ta tb tc:TE}{pos:Pos}
def Pg(o:PE X a ta)(n:PE X b tb){pins:aw}{s:Shared}{d:St}{H:Hp}{R:V->V->Hp->Prop}(I:Inv X pins d H s)
  (h:ta d H λx l=>tb d l λy e=>R x y e) {Q:aG} {f:Value->Value->Sem Value}
  (hf:∀v u j x y e,Inv X pins d e j->RelV x v->RelV y u->R x y e->wpAny (model X.prog X.w) X.A (f v u) Q X.xe j) :
  wpAny (model X.prog X.w) X.A (eval a X.env) (λv i=>wpAny (model X.prog X.w) X.A (eval b X.env) (λu g=>wpAny (model X.prog X.w) X.A (f v u) Q X.xe g) X.xe i) X.xe s:=by
 refine dG (o pins s d H _ I h) λv m k=>?_;obtain⟨x,l,q,r1,q1⟩:=k;refine dG (n pins m d l _ q q1) λu j k=>?_;obtain⟨y,e,p,r2,q2⟩:=k;exact hf v u j x y e p r1 r2 q2
def KR{op:Operator}{r:R2}(i:mT X (binaryOp op) r)(k:PE X a ta)(j:PE X b tb):PE X (.BinOp a op b pos) (Ku r ta tb):=by
 intro pins s d H Q I h;exact wpAny_BinOp (Pg k j I h λv u e x y m l g f q=>i pins e d m x y v u Q l g f q)
def RJ{op:UnaryOp}{r:V->Hp->VK->Prop}(f:ZI X (unaryOp op) r)(g:PE X a ta):PE X (.UnaryOp op a pos) (tUn r ta):=by
 intro pins s d H Q I h;exact UnaryOp_ (dG (g pins s d H _ I h) λv e ⟨x,j,i,r1,q1⟩=>f pins e d j x v Q i r1 q1)
def KW{f:Value->Value->Sem Value}{C:Int->Int->Prop}{g:Int->Int->Int}
  (rule:∀(i j:Int) (t u:Tok) (s:Shared) (Q:aG) (E:aG),C i j->Q (.int (g i j) s.toks) { s with toks:=s.toks+1 }->wpAny (model X.prog X.w) X.A (f (.int i t) (.int j u)) Q E s) :
  mT X f (rI C λi j=>.int (g i j)):=by
 intro pins s m H x y v u Q I k e h;obtain⟨i,j,rfl,rfl,l,q⟩:=h;obtain⟨t,rfl⟩:=k;obtain⟨d,rfl⟩:=e;exact rule i j t d s _ _ l ⟨.int (g i j),H,I.tok _,⟨_,rfl⟩,q⟩
def Io{f:Value->Value->Sem Value}{g:Int->Int->Bool}
  (rule:∀(i j:Int) (t u:Tok) (s:Shared) (Q:aG) (E:aG),Q (.bool (g i j)) s->wpAny (model X.prog X.w) X.A (f (.int i t) (.int j u)) Q E s) :
  mT X f (GI λi j=>.bl (g i j)):=by
 intro pins s l H x y v u Q I k e h;obtain⟨i,j,rfl,rfl,q⟩:=h;obtain⟨t,rfl⟩:=k;obtain⟨d,rfl⟩:=e;exact rule i j t d s _ _ ⟨.bl (g i j),H,I,rfl,q⟩
def xA(k:Nat):(0:Int)<=2 ^ k:=by
 rw[two_pow_cast];exact Int.natCast_nonneg _
def unI{f:Value->Sem Value}{g:Int->Int}
  (rule:∀(i:Int) (t:Tok) (s:Shared) (Q:aG) (E:aG),Q (.int (g i) s.toks) { s with toks:=s.toks+1 }->wpAny (model X.prog X.w) X.A (f (.int i t)) Q E s) :
  ZI X f (rU λi=>.int (g i)):=by
 intro pins s e H x v Q I d h;obtain⟨i,rfl,q⟩:=h;obtain⟨t,rfl⟩:=d;exact rule i t s _ _ ⟨.int (g i),H,I.tok _,⟨_,rfl⟩,q⟩
def Mb:ZI X (unaryOp .USub) (rU λi=>.int (-i)):=unI λ_ _ _ _ _ q=>neg_int q
end
variable {us:az}
section
variable {X:Cx}{a b c:Expr}{ta tb tc:TE}{pos:Pos}
def RP:mT X (compareOp .Lt) (GI λi j=>.bl (decide (i<j))):=Io λ_ _ _ _ _ _ _ q=>lt_int q
def RQ:mT X (compareOp .LtE) (GI λi j=>.bl (decide (i<=j))):=Io λ_ _ _ _ _ _ _ q=>le_int q
def RR:mT X (compareOp .Gt) (GI λi j=>.bl (decide (j<i))):=Io λ_ _ _ _ _ _ _ q=>gt_int q
def RS:mT X (compareOp .GtE) (GI λi j=>.bl (decide (j<=i))):=Io λ_ _ _ _ _ _ _ q=>ge_int q
def mT.or{f:Value->Value->Sem Value}{r i:R2}(h:mT X f r)(h':mT X f i):mT X f (λx y H Q=>r x y H Q\/i x y H Q):=by
 intro pins s d H x y v u Q I g e q;rcases q with q|q
 ·exact h pins s d H x y v u Q I g e q
 ·exact h' pins s d H x y v u Q I g e q
def El(b:Expr){op:CmpOp}(h:op≠.In:=by decide)(d:op≠.NotIn:=by decide):behindInMarks op b=false:=by
 have f:(op==CmpOp.In)=false:=by cases op<;>first|rfl|exact absurd rfl h
 have e:(op==CmpOp.NotIn)=false:=by cases op<;>first|rfl|exact absurd rfl d
 cases b<;>simp[behindInMarks,f,e]
def sQ{op:CmpOp}{r:R2}(i:mT X (compareOp op) r)(l:PE X a ta)(k:PE X b tb)(j:behindInMarks op b=false):PE X (.Compare a [op] [b] pos) (Ku r ta tb):=by
 intro pins s d H Q I h;exact wpAny_Compare1 (Pg l k I h λv u e x y n m g f q=>i pins e d n x y v u Q m g f q) j
def Kt(t:TE):TT:=λd H Q=>t d H λx e=>∃k,x=.bl k/\Q k e
def sG{op:CmpOp}{r:R2}(l:mT X (compareOp op) r)(o:PE X a ta)(n:PE X b tb)(m:behindInMarks op b=false):PT X (.Compare a [op] [b] pos) (Kt (Ku r ta tb)):=by
 intro pins s d H Q I h;refine wpAny_isTrue_Compare1 (dG (o pins s d H _ I h) λv g ⟨x,B,t,r1,q1⟩=>dG (n pins g d B _ t q1) λu f ⟨y,A,q,r2,q2⟩ =>
  dG (l pins f d A x y v u _ q r1 r2 q2) λc C ⟨z,w,p,i,k,e,j⟩=>?_) m
 subst e;cases i;exact aa1 ⟨w,p,j⟩
def yh:(sizeLine:Nat)<2 ^ 63:=by rw[sizeLine_eq];decide
def vals1{x:V}(r:Vals [x] us):∃u,us=[u]/\RelV x u:=by
 cases r with
 |cons r1 r2=>cases r2;exact⟨_,rfl,r1⟩
def vals2{x y:V}(r:Vals [x,y] us):∃u d,us=[u,d]/\RelV x u/\RelV y d:=by
 cases r with
 |cons r1 r2 =>
  cases r2 with
  |cons f e=>cases e;exact⟨_,_,rfl,r1,f⟩
def Ge:iO X (.builtin "abs") (λd H Q=>∃i,d=[.int i]/\Q (.int (if i<0 then -i else i)) H):=by
 intro pins s e H d us Q I r h;obtain⟨i,rfl,q⟩:=h;obtain⟨u,rfl,t,rfl⟩:=vals1 r;exact call_abs_int λu f=>⟨.int (if i<0 then -i else i),H,I.tok _,⟨_,rfl⟩,q⟩
def Ca:iO X (.type "int") (λd H Q=>(∃i,d=[.int i]/\Q (.int i) H)\/∃k,d=[.bl k]/\Q (.int (if k then 1 else 0)) H):=by
 intro pins s e H d us Q I r h;rcases h with ⟨i,rfl,q⟩|⟨k,rfl,q⟩
 ·obtain⟨u,rfl,t,rfl⟩:=vals1 r;exact call_int_int ⟨.int i,H,I,⟨_,rfl⟩,q⟩
 ·obtain⟨u,rfl,r1⟩:=vals1 r;cases r1;exact call_int_bool ⟨.int (if k then 1 else 0),H,I.tok _,⟨_,rfl⟩,q⟩
end
end L2
namespace L2
open PySem PySem.Spec PyProof.Rows
def uy.some_of{v:V}{o:Option Value}(r:uy (some v) o):∃u,o=some u/\RelV v u:=by
 cases o with
 |none=>exact(show False from r).elim
 |some u=>exact⟨u,rfl,r⟩
def uy.none_of{o:Option Value}(r:uy none o):o=none:=by
 cases o with
 |none=>rfl
 |some u=>exact(show False from r).elim
structure Qv(K:ao)(C:Addr):Prop where
 pg:PySem.W.plainGet K C Str.empty=true
 hd:PySem.W.hasDictIn K C=true
 po:PySem.W.plainOver K C=true
 sa:PySem.W.findIn K (.ref C) "__setattr__" = some (some (.builtin "object.__setattr__"))
end L2
namespace L2
open PySem PySem.Spec PyProof.Rows
structure h_(k:Nat)(A:aN):Prop where
 hd:A.handled=none
 dp:A.depth+3*k+5<recursionLimit
 un:A.units+16*k+200<cLine
variable {A:aN}
def h_.mono{j k:Nat}(r:h_ k A)(h:j<=k):h_ j A:=⟨r.hd,by have:=r.dp;left,by have:=r.un;left⟩
theorem h_.deeper{k:Nat}{A:aN}(r:h_ (k+1) A)(env:Env):h_ k (A.deeper env) :=
 ⟨r.hd,by have:=r.dp;show A.depth+1+3*k+5<_;left,by have:=r.un;show A.units+3+16*k+200<_;left⟩
theorem h_.depth{k:Nat}{A:aN}(r:h_ k A):A.depth<recursionLimit:=by have:=r.dp;left
theorem h_.units{k:Nat}{A:aN}(r:h_ k A):A.units+64<cLine:=by have:=r.un;left
def Q2:TA:=λ_ H Q=>Q [] H
def Kv(d:TE)(c:TA):TA:=λa H Q=>d a H λx f=>c a f λb e=>Q (x::b) e
section
variable {X:Cx}{e:Expr}{es:ak}{te:TE}{t:TA}{pos:Pos}
def eE:PA X [] Q2:=λ_ _ _ _ H Q I h=>ab5 ⟨[],H,I,.nil,h⟩
def cE(f:PE X e te)(d:PA X es t)(hs:starEach (e::es) X.env=(false,eval e X.env)::starEach es X.env:=by rfl):PA X (e::es) (Kv te t):=by
 intro pos pins s a H Q I h;rw[hs];show wpAny _ _ (spliced ((false,eval e X.env)::backTo pos (starEach es X.env))) _ _ s;refine abW (dG (f pins s a H _ I h) λu c g=>?_);obtain⟨x,l,j,r1,q1⟩:=g;exact dG (d pos pins c a l _ j q1) λm n ⟨b,k,i,r2,q2⟩=>⟨x::b,k,i,.cons r1 r2,q2⟩
def Wj(t:TA):TE:=λc H Q=>t c H λa b=>a.length<=sizeLine/\∀p,b p=none->Q (.ref p) (upd b p (.tup a))
def Wo(t:TA):TE:=λc H Q=>t c H λa b=>a.length<=sizeLine/\∀p,b p=none->Q (.ref p) (upd b p (.lst a))
def MW{x1}(h:PA X es t):PE X (.Tuple es x1 pos) (Wj t):=by
 intro pins s f H Q I j;refine wpAny_Tuple_spliced (dG (h pos pins s f H _ I j) λi a ⟨g,d,c,r,z,q⟩=>⟨by rw[<- r.length];exact z,?_⟩);have k:d a.heap.objs.size=none:=c.cJ.fresh (aaj _);refine⟨.ref a.heap.objs.size,upd d a.heap.objs.size (.tup g),c.laid (t':=a.toks) (λb u e=>aad _ e) (aaj _) ?_,rfl,q _ k⟩;exact⟨z,i,r,⟨_,aaq _ rfl,rfl,_,rfl⟩⟩
def xW(h:PA X es t):PE X (.List es pos) (Wo t):=by
 intro pins s f H Q I j;refine wpAny_List_spliced (dG (h pos pins s f H _ I j) λi a ⟨g,d,c,r,z,q⟩=>⟨by rw[<- r.length];exact z,?_⟩);have k:d a.heap.objs.size=none:=c.cJ.fresh (aaj _);refine⟨.ref a.heap.objs.size,upd d a.heap.objs.size (.lst g),c.laid (t':=a.toks) (λb u e=>aad _ e) (aaj _) ?_,rfl,q _ k⟩;exact⟨z,i,0,r,aaq _ rfl⟩
end
abbrev Sp:=ag->Hp->VK->XK->Prop
abbrev Cf:=List Env->Hp->Shared->XK->aG
structure Km(P:aM)(w:World)(K:ao)(mg:aZ)(base:Heap)(A:aN)(outer:List Env)(s:Shared)(H:Hp):Prop where
 frames:A.frames=some outer
 mod:Mod K mg base
 bs:∀b o,base.get? b=some o->s.heap.get? b=some o/\H b=none
 Gh:base.objs.size<=s.heap.objs.size
 kN:s.heap.FunFrames base outer
 Cs:∀b∈mn outer,H b=none
 cJ:kn H s.heap
 bare:AllBare s.gens
def CE(outer:List Env)(P:aM)(w:World)(H:Hp)(s:Shared)(Q:VK)(u:Value)(s':Shared):Prop :=
 ∃v a,s'.os=s.os/\AllBare s'.gens/\Un (mn outer) [] H a s.heap s'.heap/\kn a s'.heap/\RelV v u/\Q v a
def CR(CX:Cf)(outer:List Env)(P:aM)(w:World)(H:Hp)(s:Shared)(Q:VK)(E:XK)(r:Result)(s':Shared):Prop :=
 match r with
 |.ok (.ret u)=>CE outer P w H s Q u s'
 |.ok _=>False
 |.error e=>CX outer H s E e s'
structure iM(P:aM)(w:World)(K:ao)(mg:aZ)(base:Heap)(CX:Cf)(k:Nat)(f:Addr)(fd:FuncData)(ps:av)(sp:Sp):Prop where
 len:∀vs H Q E,sp vs H Q E->vs.length=ps.length
 run:∀(A:aN) (outer:List Env) (s:Shared) (H:Hp) (args:Args) (us:az) (vs:ag) (Q:VK) (E:XK),h_ k A->Km P w K mg base A outer s H->BindsTo s fd args (ps.zip us)->Vals vs us->sp vs H Q E ->
  codeAny (model P w) A (.call (.ref f) args) (CR CX outer P w H s Q E) s
theorem iM.mono{P:aM}{w:World}{K:ao}{mg:aZ}{base:Heap}{CX:Cf}{j k:Nat}{f:Addr}{b:FuncData}{a:av}{sp:Sp}(F:iM P w K mg base CX j f b a sp)(h:j<=k):
  iM P w K mg base CX k f b a sp:=⟨F.len,λA outer s H args d c Q E e=>F.run A outer s H args d c Q E (e.mono h)⟩
variable {Q:VK}
section
variable {X:Cx}{pins:aw}{σ:St}{H:Hp}{s s':Shared}
def Inv.Ze(I:Inv X pins σ H s):Km X.prog X.w X.K X.mg X.base X.A X.stack s H :=
 ⟨I.ok.frames,I.ok.mod,I.bs,aaS I.ok.Gh I.sz,I.stack,I.lF,I.cJ,I.bare⟩
def Inv.after{u:Value}(I:Inv X pins σ H s)(h:CE X.stack X.prog X.w H s Q u s'):EP X pins σ Q u s':=by
 obtain⟨v,i,a,bare,un,e,r,q⟩:=h;obtain⟨c,g,d,t,f⟩:=s';obtain rfl:f=s.os:=a;exact⟨v,i,I.call (h':=c) (g':=g) (d':=d) (t':=t) (ch:=[]) un e bare (λb z=>absurd z (by simp)),r,q⟩
end
def Q6(sp:Sp)(gH:ag)(E:XK)(t:TA):TE:=λa H Q=>t a H λb c=>sp (b++gH) c Q E
def Binds(K:ao)(c:FuncData)(b:av)(ds:az):Prop :=
 ∀(s:Shared) (a:az),K.In s.heap->(a++ds).length=b.length->BindsTo s c ⟨a,[]⟩ (b.zip (a++ds))
variable {K:ao}{N ps:av}
def Binds.all{b:FuncData}(h:∀a:az,a.length=ps.length->bindArgs b ⟨a,[]⟩=pure (ps.zip a)):Binds K b ps []:=λs a _ hl=>by
 rw[zaI]at hl ⊢;exact .of_eq (h a hl)
def Passes(CX:Cf)(X:Cx)(E:XK):Prop:=∀(pins:aw) (a:St) (H:Hp) (s:Shared) (e:Value) (s':Shared),Inv X pins a H s->CX X.stack H s E e s'->X.xe e s'
variable {H:Hp}{us:az}{vs:ag}
section
variable {X:Cx}{CX:Cf}{k:Nat}{f C:Addr}{fd:FuncData}{ps:av}{sp:Sp}{gH:ag}{ds:az}{E:XK}{x m:Str}{p pos apos:Pos}{e o:Expr}{es:ak}{ta:TE}{t:TA}
def MM{pins:aw}{b:St}{s:Shared}(F:iM X.prog X.w X.K X.mg X.base CX k f fd ps sp)(g:h_ k X.A)(j:Binds X.K fd ps ds)(i:Vals gH ds)(d:Passes CX X E)
  (I:Inv X pins b H s) (r:Vals vs us) (h:sp (vs++gH) H Q E):wpAny (model X.prog X.w) X.A (call (.ref f) us) (EP X pins b Q) X.xe s:=by
 have r2:Vals (vs++gH) (us++ds):=r.append i;have hl:(us++ds).length=ps.length:=by rw[<- r2.length];exact F.len _ _ _ _ h
 refine wpAny_call (ach (F.run X.A X.stack s H ⟨us,[]⟩ (us++ds) (vs++gH) Q E g I.Ze (j s us I.Cn hl) r2 h) λr c a=>?_);cases r with
 |error e=>exact d pins b H s e c I a
 |ok l =>
  cases l with
  |ret u=>exact I.after a
  |next=>exact False.elim a
  |brk=>exact False.elim a
  |cont=>exact False.elim a
def zx(F:iM X.prog X.w X.K X.mg X.base CX k f fd ps sp)(d:h_ k X.A)(j:Gl X x)(g:X.mg x=some (.ref f))(i:PySem.W.keepIn X.K (.ref f)=true)(n:Binds X.K fd ps ds)(l:Vals gH ds)(c:Passes CX X E)
  (u:PA X (e::es) t) (v:(x==("__debug__" : Str))=false:=by decide) (he:starEach (e::es) X.env=(false,eval e X.env)::starEach es X.env:=by rfl) (hpl:(backTo pos (starEach es X.env)).any (·.1)=false:=by rfl) :
  PE X (.Call (.Name x p) (e::es) [] pos) (Q6 sp gH E t):=by
 intro pins s b H Q I h;refine aa8 (tw I j g ?_ v);refine PySem.W.callWith_K (h₀:=X.base) I.ok.mod.Xo i (dG (u pos pins s b H _ I h) λus y ⟨vs,z,a,r,q⟩=>⟨a.Cn,?_⟩) he hpl;exact MM F d n l c a r q
end
structure gX(N P:av)(sc:Scope):Prop where
 kind:sc.kind=.function
 co:sc.isCoroutine=false
 gen:sc.isGenerator=false
 nd:N.Nodup
 pre:N.take P.length=P
 par:∀x∈P,sc.names.lookup x=some .local\/sc.names.lookup x=some .cell
 Na:∀y∈sc.names,y.2≠.free
theorem rK{kindOf:Str->Option NameKind}{x:Str}:∀{binds:List (Str×Value)} {m:aZ},(∀v,(x,v)∉binds)->bindL kindOf binds m x=m x
 |[],_,_=>rfl
 | (n,v)::r,m,h=>by
  unfold bindL;rw[rK λw hw=>h w (zaP _ hw)];split
  ·have:x≠n:=by rintro rfl;exact h v aai
   simp[this]
  ·rfl
theorem rM{kindOf:Str->Option NameKind}{x:Str}:∀{binds:List (Str×Value)} {m:aZ},(∀v,(x,v)∉binds)->bindC kindOf binds m x=m x
 |[],_,_=>rfl
 | (n,v)::r,m,h=>by
  unfold bindC;rw[rM λw hw=>h w (zaP _ hw)];split
  ·rfl
  ·have:x≠n:=by rintro rfl;exact h v aai
   simp[this]
theorem rL{kindOf:Str->Option NameKind}{x:Str}{v:Value}:∀{P:av} {vs:az} {i:Nat} {m:aZ},P.Nodup->P[i]?=some x->vs[i]?=some v->kindOf x=some .local ->
  bindL kindOf (P.zip vs) m x=some v
 |[],_,_,_,_,h,_,_=>by simp at h
 |_::_,[],_,_,_,_,h,_=>by simp at h
 |p::P,w::vs,0,m,nd,h1,h2,hk=>by
  simp at h1 h2;subst h1;subst h2;show bindL kindOf ((p,w)::P.zip vs) m p=_;unfold bindL;rw[rK λv a=>(List.nodup_cons.mp nd).1 (List.of_mem_zip a).1,zac hk];simp
 |p::P,w::vs,i+1,m,nd,h1,h2,hk=>by
  show bindL kindOf ((p,w)::P.zip vs) m x=_;unfold bindL;exact rL (i:=i) (List.nodup_cons.mp nd).2 (by simpa using h1) (by simpa using h2) hk
theorem rN{kindOf:Str->Option NameKind}{x:Str}{v:Value}:∀{P:av} {vs:az} {i:Nat} {m:aZ},P.Nodup->P[i]?=some x->vs[i]?=some v->kindOf x≠some .local ->
  bindC kindOf (P.zip vs) m x=some v
 |[],_,_,_,_,h,_,_=>by simp at h
 |_::_,[],_,_,_,_,h,_=>by simp at h
 |p::P,w::vs,0,m,nd,h1,h2,hk=>by
  simp at h1 h2;subst h1;subst h2;show bindC kindOf ((p,w)::P.zip vs) m p=_;unfold bindC;rw[rM λv a=>(List.nodup_cons.mp nd).1 (List.of_mem_zip a).1,zab hk];simp
 |p::P,w::vs,i+1,m,nd,h1,h2,hk=>by
  show bindC kindOf ((p,w)::P.zip vs) m x=_;unfold bindC;exact rN (i:=i) (List.nodup_cons.mp nd).2 (by simpa using h1) (by simpa using h2) hk
noncomputable def start(N:av)(vs:ag):St:=vs.map some++List.replicate (N.length - vs.length) none
noncomputable def jO(CX:Cf)(P:aM)(w:World)(K:ao)(mg:aZ)(base:Heap)(N:av)(qual:Str)(scope:Scope)(f:Addr)(a:Value)(A:aN)(outer:List Env)(s:Shared)(H:Hp)(E:XK):Cx where
 prog:=P
 w:=w
 K:=K
 mg:=mg
 base:=base
 A:=A.deeper (envOfC qual scope s.heap.objs.size f a)
 N:=N
 s₀:=s
 H₀:=H
 env:=envOfC qual scope s.heap.objs.size f a
 outer:=outer
 stack:=envOfC qual scope s.heap.objs.size f a::outer
 ex:=[]
 calm:=true
 fn:=λ_=>true
 pn:=[]
 xe:=λe c=>wpAny (model P w) (A.deeper (envOfC qual scope s.heap.objs.size f a)) (leaving (envOfC qual scope s.heap.objs.size f a) e) (λ_ b=>CX outer H s E e b) (λd b=>CX outer H s E d b) c
def wF{sc:Scope}{n:Nat}{x:Str}(h:sc.names.lookup x=some .cell):∃c,(cellsFrom n sc.names []).lookup x=some c:=by
 have q:=PySem.W.cellsFrom_some sc.names n [] (.inl h);exact Option.isSome_iff_exists.mp q
variable {P:aM}{base:Heap}{f:Addr}{mg:Str->Option Value}{qual:Str}{scope:Scope}{w:World}
def BK{CX:Cf}{t:Value}{outer:List Env}{s C:Shared}{E:XK}  
  (S:gX N ps scope) (I:A.handled=none) (e0:Km P w K mg base A outer s H) (hl:vs.length=ps.length) (r:Vals vs us)
  (x:InCallC s s.heap.objs.size (bindL (envOfC qual scope s.heap.objs.size f t).kindOf (ps.zip us) λ_=>none) (cellsFrom (s.heap.objs.size+1) scope.names []) (bindC (envOfC qual scope s.heap.objs.size f t).kindOf (ps.zip us) λ_=>none) C) :
  Inv (jO CX P w K mg base N qual scope f t A outer s H E) [] (start N vs) H C:=by
 have G:ps.length<=N.length:=by have:=aaU List.length S.pre;rw[zaL]at this;left
 obtain⟨o,L,rfl,F⟩:=x.done;have B:∀b:Addr,b∉(jO CX P w K mg base N qual scope f t A outer s H E).ex:=λb z=>absurd (show b∈([]:bo) from z) (by simp);refine⟨⟨e0.mod,S.kind,rfl,rfl,aaj _,λy z c o d=>?_,λy g=>?_,λy c _ h=>?_,λ_=>I,Around.frames_deeper e0.frames,.inr ⟨rfl,rfl⟩,λb z=>absurd z (B b),e0.bs,e0.Gh,λb _ _=>B b,λb z=>absurd z (B b),e0.kN,e0.Cs⟩,
  rfl,e0.bare,Un.kept F,⟨_,x.toInCall.ns,λi y v o d M=>?_⟩,λy c h=>⟨_,x.cell y c h⟩,e0.cJ.fresh (aaj _),λy c h=>?_,λp l=>absurd (show p∈([]:aw) from l) (by simp),e0.cJ.kept F,?_⟩
 ·exact name_of_addr x.apart (abh o) (abh d)
 ·have g:scope.names.lookup y=some .cell\/scope.names.lookup y=some .free:=g;rcases g with g|g
  ·exact wF g
  ·exact absurd rfl (S.Na _ (abh g))
 ·exact acg (x.above y c (abh h))
 ·have m:i<vs.length:=by
   unfold start at d;by_cases m:i<vs.length
   ·exact m
   ·rw[List.getElem?_append_right (by simpa using m)]at d;rw[List.getElem?_replicate]at d;split at d<;>cases d
  have J:vs[i]?=some v:=by
   unfold start at d;rw[List.getElem?_append_left (by simpa using m),List.getElem?_map]at d;cases e:vs[i]? with
   |none=>rw[e]at d;cases d
   |some a=>rw[e]at d;cases d;rfl
  obtain⟨u,D,rv⟩:=r.get J;have l:ps[i]?=some y:=by
   rw[<- S.pre,List.getElem?_take_of_lt (by left)];exact o
  have j:ps.Nodup:=by rw[<- S.pre];exact S.nd.sublist (List.take_sublist _ _)
  refine⟨u,rv,?_⟩;rcases S.par y (aaC l)with k|k
  ·exact .inl ⟨k,rL j l D k⟩
  ·obtain⟨c,e⟩:=wF (n:=s.heap.objs.size+1) k;refine .inr ⟨.inl k,c,e,?_⟩;have q:=x.cell y c e;rw[rN j l D (by show scope.names.lookup y≠_;rw[k];decide)]at q;exact q
 ·exact e0.cJ.fresh (acg (x.above y c (abh h)))
 ·unfold start;show _=N.length;rw[zah,zaa,zar];left
def Ll{CX:Cf}{k:Nat}{name:Str}{params:Arguments}{body:aW}{B z g p c ct L:Value}{C G:Option Addr}
  {Ea:Array (Option Value)} {sp:Sp} (M:K.lookup f=some ⟨L,G,.func (PySem.W.fnOf name qual params body scope B z g p C c ct),Ea⟩) (D:PySem.W.codeIn K c qual=true) (S:gX N ps scope)
  (len:∀vs H Q E,sp vs H Q E->vs.length=ps.length)
  (F:∀(A:aN) (outer:List Env) (s:Shared) (H:Hp) (vs:ag) (Q:VK) (E:XK),h_ k (A.deeper (envOfC qual scope s.heap.objs.size f c))->sp vs H Q E ->
   ∃t,jd (jO CX P w K mg base N qual scope f c A outer s H E) body t/\t { nx:=λ_ H'=>Q .bz H',rt:=Q } (start N vs) H) :
  iM P w K mg base CX (k+1) f (PySem.W.fnOf name qual params body scope B z g p C c ct) ps sp:=by
 refine⟨len,λA outer s H args us vs Q E j e0 X r l=>?_⟩;have hl:=len _ _ _ _ l;have KX:K.In s.heap:=e0.mod.Xo.keeps λb o e=>(e0.bs b o e).1;have i:s.heap.NoLimit:=e0.mod.nolimit.keeps λb o e=>(e0.bs b o e).1;have S0:∀y∈ps.zip us,scope.names.lookup y.1=some .local\/(scope.names.lookup y.1=some .cell/\((cellsFrom (s.heap.objs.size+1) scope.names []).lookup y.1).isSome=true):=λ⟨n,v⟩ O=>by
  rcases S.par n (aaY O).1 with q|q
  ·exact .inl q
  ·exact .inr ⟨q,PySem.W.cellsFrom_some _ _ _ (.inl q)⟩
 refine codeAny_call_function j.depth (KX _ _ M) rfl S.co S.gen rfl (PySem.W.codeRec_of KX D) (X _ _ _ _ ?_);refine wpAny_newFunctionEnv_cells S.kind S0 λZ U m x=>?_;subst U;refine⟨i.keeps x.toInCall.keep,codeAny_func ?_⟩;obtain⟨t,R,T⟩:=F A outer s H vs Q E (j.deeper _) l;have I:Inv (jO CX P w K mg base N qual scope f c A outer s H E) [] (start N vs) H m:=BK S j.hd e0 hl r x;refine aaA (R [] m (start N vs) H _ I T) (λY h d=>?_) λe h d=>d;have fin:∀{a:St} {H':Hp} {v:V} {u:Value},Inv (jO CX P w K mg base N qual scope f c A outer s H E) [] a H' h->RelV v u->Q v H'->CE outer P w H s Q u h :=
  λ{a H' v u} J rv q=>⟨v,H',J.os,J.bare,J.base,J.cJ,rv,q⟩
 cases Y with
 |ret u =>
  obtain⟨v,a,H',J,rv,q⟩:=d;exact fin J rv q
 |next =>
  obtain⟨a,H',J,q⟩:=d;exact fin (v:=V.bz) (u:=Value.none) J rfl q
 |brk =>
  obtain⟨_,_,_,q⟩:=d;exact False.elim q
 |cont =>
  obtain⟨_,_,_,q⟩:=d;exact False.elim q
end L2
namespace L2
open PySem PySem.Spec PyProof.Rows
section
variable {X:Cx}{x:Str}{p pos:Pos}{e:Expr}{es:ak}{t:TA}{id T:String}{r:ag->Hp->VK->Prop}
def Q7(r:ag->Hp->VK->Prop)(t:TA):TE:=λa H Q=>t a H λb c=>r b c Q
def fD(k:iO X (.builtin id) r)(j:Gl X x)(i:X.mg x=none)(f:bootBuiltins x=some (.builtin id))(l:PA X (e::es) t)(g:x ≠ "__name__":=by decide)(m:(x==("__debug__" : Str))=false:=by decide)
  (he:starEach (e::es) X.env=(false,eval e X.env)::starEach es X.env:=by rfl) (hpl:(backTo pos (starEach es X.env)).any (·.1)=false:=by rfl):PE X (.Call (.Name x p) (e::es) [] pos) (Q7 r t):=by
 intro pins s a H Q I h;refine aa8 (eO I j i f ?_ g m);exact PyProof.Rows.callWith_builtin1 (dG (l pos pins s a H _ I h) λc d ⟨b,o,n,r1,q1⟩=>k pins d a o b c Q n r1 q1) he hpl
def mh(k:iO X (.type T) r)(j:Gl X x)(i:X.mg x=none)(f:bootBuiltins x=some (.type T))(l:PA X (e::es) t)(g:x ≠ "__name__":=by decide)(m:(x==("__debug__" : Str))=false:=by decide)
  (he:starEach (e::es) X.env=(false,eval e X.env)::starEach es X.env:=by rfl) (hpl:(backTo pos (starEach es X.env)).any (·.1)=false:=by rfl):PE X (.Call (.Name x p) (e::es) [] pos) (Q7 r t):=by
 intro pins s a H Q I h;refine aa8 (eO I j i f ?_ g m);exact aav (dG (l pos pins s a H _ I h) λc d ⟨b,o,n,r1,q1⟩=>k pins d a o b c Q n r1 q1) he hpl
end
end L2
namespace HT
open PySem PyProof.Rows
noncomputable def lexLt:ae->ae->Bool
 |[],[]=>false
 |[],_::_=>true
 |_::_,[]=>false
 |x::xs,y::ys=>if x=y then lexLt xs ys else decide (x<y)
def d7(x y:Int)(xs a:ae):lexLt (x::xs) (y::a)=if x=y then lexLt xs a else decide (x<y):=rfl
def kD:lexLt [] []=false:=rfl
def oX(y:Int)(a:ae):lexLt [] (y::a)=true:=rfl
def dw(x:Int)(xs:ae):lexLt (x::xs) []=false:=rfl
def wg(A:aN)(s:Shared)(a:Int)(t:Tok)(c:Int)(u:Tok):∃e,SeqAt.EqAt A s (.int a t) (.int c u) e/\(e=true ↔ a=c) :=
 ⟨(a==c),acp a t c u,by simp⟩
def DK(A:aN)(s:Shared)(a:Int)(t:Tok)(c:Int)(u:Tok)(prog:aM)(w:World)(E:aG)(Q:aG)(h:Q (.bool (decide (a<c))) s):
  wpAny (model prog w) A (richCompare .Lt (.int a t) (.int c u)) Q E s :=
 (PyProof.Rows.lt_int h:wpAny (model prog w) A (compareOp .Lt (.int a t) (.int c u)) Q E s)
section
open PySem.SeqAt
open PySem.AutoSeq1 (wpAny_loadPart')
open PySem.MeetsSeq PySem.MeetsSeq2 PySem.MeetsSeq3
def kB(l b:Addr)(items j:aY)(n M:Nat)(dd J:Option Addr)(L K:Array (Option Value))(ns v:ae)(H:IntsAre items.toList ns)(G:IntsAre j.toList v):
  Meets (Builtin.«tuple.__lt__» ⟨[.ref l,.ref b],[]⟩)
   (λ_ R s=>s.heap.get? l=some { cls:=.type "tuple",dict:=dd,data:=.seq items n,slots:=L }/\s.heap.get? b=some { cls:=.type "tuple",dict:=J,data:=.seq j M,slots:=K } /\
    R (.ok (.ret (.bool (lexLt ns v)))) s) :=
 .of_wp λprog w A R s h=>by
  obtain⟨z,g,d,p,r⟩:=s;obtain⟨hl,O,h⟩:=h;have T:=AutoSeq1.sub_tuple_tuple;have S:items.size=ns.length:=by rw[<- H.length];simp
  have Q:j.size=v.length:=by rw[<- G.length];simp
  wp_walk using wpAny_loadPart' hl,wpAny_loadPart' O,wpAny_forIn_list _ (λrest b C=>b.1=none/\C=⟨z,g,d,p,r⟩/\∃(vs ws:az) (i k:ae),rest=vs.zip ws /\
   IntsAre vs i/\IntsAre ws k/\i.length+j.size=k.length+items.size/\R (.ok (.ret (.bool (lexLt i k)))) ⟨z,g,d,p,r⟩) _
  case turn =>
   rintro ⟨y,x⟩ rest b C ⟨D,rfl,vs,ws,i,k,f,E,B,hlen,hR⟩;cases E with
   |nil=>rw[List.zip_nil_left]at f;cases f
   |cons a t o =>
    cases B with
    |nil=>rw[List.zip_nil_right]at f;cases f
    |cons c u m =>
     rw[zbb]at f;injection f with XT EY
     injection XT with hy hx
     subst hy hx;rw[d7]at hR;simp only[zae]at hlen;obtain⟨e,N,I⟩:=wg A.in1 ⟨z,g,d,p,r⟩ a t c u;refine aaa (N prog w _ _ ?_);cases e with
     |true =>
      rw[zac (I.mp rfl)]at hR
      wp_walk
      exact⟨rfl,rfl,_,_,_,_,EY,o,m,by left,hR⟩
     |false =>
      rw[zab (λq=>absurd (I.mpr q) zaj)]at hR;have P:=DK A.in1 ⟨z,g,d,p,r⟩ a t c u prog w
      wp_walk using P
      exact⟨_,rfl,by simpa using hR⟩
  case fin =>
   rintro ⟨b1,b2⟩ C ⟨D,rfl,vs,ws,i,k,f,E,B,hlen,hR⟩;simp only at D;subst D;have F:lexLt i k=decide (items.size<j.size):=by
    cases E with
    |nil =>
     cases B with
     |nil =>
      simp only[zaD]at hlen;rw[kD];exact(abl (by left)).symm
     |cons c u hw =>
      simp only[zaD,zae]at hlen;rw[oX];exact(aaT (by left)).symm
    |cons a t F =>
     cases B with
     |nil =>
      simp only[zaD,zae]at hlen;rw[dw];exact(abl (by left)).symm
     |cons c u hw =>
      rw[zbb]at f;cases f
   rw[F]at hR
   wp_walk
   exact⟨_,rfl,by simpa [Builtin.Tuple.tupleCompareSizes]using hR⟩
  case h =>
   exact⟨rfl,rfl,items.toList,j.toList,ns,v,rfl,H,G,by left,h⟩
end
variable {Q:Value->Shared->Prop}
section
variable {prog:aM}{w:World}{A:aN}{E:aG}{s:Shared}
def ye{l b:Addr}{items e:aY}{ns a:ae}(hl:IsTup s.heap l items)(u:IsTup s.heap b e)(t:IntsAre items.toList ns)(r:IntsAre e.toList a)
  (q:A.units<cLine) (h:Q (.bool (lexLt ns a)) s):wpAny (model prog w) A (compareOp .Lt (.ref l) (.ref b)) Q E s:=by
 obtain⟨⟨y,v,data,o⟩,g,j,n,i⟩:=id hl;obtain⟨⟨z,k,data2,m⟩,f,d,p,c⟩:=id u;simp only at j i d c;subst j i d c;exact richCompare_meets_room (op:=.Lt) ⟨_,g,rfl⟩ ⟨_,f,rfl⟩ acd PySem.F.entry_tuple_lt (PySem.F.args_tuple_lt_2 _ _) (kB l b items e n p v k o m ns a t r)
  ⟨g,f,show Value.bool (lexLt ns a)≠Value.notImplemented/\Q (.bool (lexLt ns a)) s from⟨(λx=>nomatch x),h⟩⟩ q
def J4{t b:Addr}{vs ws:az}(q:IsTup s.heap t vs.toArray)(r:IsTup s.heap b ws.toArray)(l:vs≠[])
  (v:ws=[]->Q (.ref t) s) (u:ws≠[]->Q (.ref s.heap.objs.size) { s with heap:=s.heap.push { cls:=.type "tuple",data:=.seq (vs++ws).toArray } })
  (hsz:vs.length+ws.length<=sizeLine):wpAny (model prog w) A (binaryOp .Add (.ref t) (.ref b)) Q E s:=by
 obtain⟨⟨g,p,data,j⟩,f,o,n,m⟩:=id q;obtain⟨⟨x,h,data2,i⟩,d,c,k,a⟩:=id r;simp only at o m c a;subst o m c a;have e:vs.toArray++ws.toArray=(vs++ws).toArray:=by simp
 by_cases hw:ws=[]
 ·exact concat_meets ⟨_,f,rfl⟩ ⟨_,d,rfl⟩ noFill_tuple_add seq_tuple_add ab7 ab3 (abX _ _)
   (tuple_addW1 t b vs.toArray ws.toArray n k p h j i (by simpa using l) (by simp[hw])) ⟨f,d,v hw⟩
 ·refine concat_meets ⟨_,f,rfl⟩ ⟨_,d,rfl⟩ noFill_tuple_add seq_tuple_add ab7 ab3 (abX _ _)
   (tuple_addW2 t b vs.toArray ws.toArray n k p h j i (by simpa using l) (by simpa using hw) (by rw[zad,zad];exact hsz)) ⟨f,d,?_⟩
  rw[e];exact u hw
noncomputable def uD(n d:Nat):Option Int->Nat
 |none=>d
 |some v=>if v<0 then(v+(n:Int)).toNat else min v.toNat n
def DC(n d:Nat):uD n d none=d:=rfl
end
end HT
namespace L2
open PySem PySem.Spec PyProof.Rows
abbrev TO:=St->Hp->(Option Int->Hp->Prop)->Prop
def PO(X:Cx)(e:Option Expr)(t:TO):Prop :=
 ∀(pins:aw) (s:Shared) (a:St) (H:Hp) (Q:Option Int->Hp->Prop),Inv X pins a H s->t a H Q ->
  wpAny (model X.prog X.w) X.A (evalPart e X.env) (λu c=>∃o b,Inv X pins a b c/\IsPart u o/\Q o b) X.xe s
def Hq:TO:=λ_ H Q=>Q none H
def QZ(t:TE):TO:=λa H Q=>t a H λx b=>∃i,x=.int i/\Q (some i) b
def intsAre_of{ns:ae}:∀{a:az},Vals (ns.map V.int) a->IntsAre a ns:=by
 induction ns with
 |nil=>intro a r;rw[zbD]at r;cases r;exact .nil
 |cons n ns b =>
  intro a r;rw[zag]at r;cases r with
  |cons r1 r2 =>
   obtain⟨t,e⟩:=r1;subst e;exact .cons n t (b r2)
section
variable {X:Cx}{e:Expr}{te:TE}{lo hi:Option Expr}{tl th:TO}{pos p2:Pos}
def sL:PO X none Hq:=by
 intro pins s a H Q I h;rw[evalPart_none];exact aae ⟨none,H,I,.none,h⟩
def sJ(h:PE X e te):PO X (some e) (QZ te):=by
 intro pins s a H Q I hw;rw[evalPart_some];refine dG (h pins s a H _ I hw) λu f b=>?_;obtain⟨x,d,c,r1,q1⟩:=b;obtain⟨i,rfl,q⟩:=q1;obtain⟨t,rfl⟩:=r1;exact⟨some i,d,c,.int i t,q⟩
def ZJ(X:Cx)(r:V->Option Int->Option Int->Hp->VK->Prop):Prop :=
 ∀(pins:aw) (s:Shared) (a:St) (H:Hp) (x:V) (v c b:Value) (lo hi:Option Int) (d:Addr) (Q:VK),Inv X pins a H s->RelV x v->s.heap.IsSliceOf d c b .none->IsPart c lo->IsPart b hi->r x lo hi H Q ->
  ∃T id,typeLookup (.type T) "__getitem__" = pure (some (.builtin id))/\s.TypeIs v T/\wpAny (model X.prog X.w) X.A (getItem v (.ref d)) (EP X pins a Q) X.xe s
def tSl(r:V->Option Int->Option Int->Hp->VK->Prop)(te:TE)(tl th:TO):TE:=λa H Q=>te a H λx d=>tl a d λl c=>th a c λu b=>r x l u b Q
def vA{r:V->Option Int->Option Int->Hp->VK->Prop}(y:ZJ X r)(he:PE X e te)(hl:PO X lo tl)(p:PO X hi th):PE X (.Subscript e (.Slice lo hi none p2) pos) (tSl r te tl th):=by
 intro pins s c H Q I h;refine Subscript_ (dG (he pins s c H _ I h) λv k g=>?_);obtain⟨x,J,F,r1,q1⟩:=g;refine wpAny_Slice (dG (hl pins k c J _ F q1) λf j ⟨l,G,E,o,q2⟩=>dG (p pins j c G _ E q2) λd a g=>?_);obtain⟨u,i,D,n,m⟩:=g;rw[evalPart_none];refine aae ?_;have C:Inv X pins c i { a with heap:=a.heap.push { cls:=.type "slice",data:=.fields #[f,d,.none] } }:=D.kept (t':=a.toks) λb K q=>aad _ q;obtain⟨T,id,B,t,z⟩:=y pins { a with heap:=a.heap.push { cls:=.type "slice",data:=.fields #[f,d,.none] } } c i x v f d l u a.heap.objs.size Q C r1 (Heap.IsSliceOf.new ..) o n m;show wpAny (model X.prog X.w) X.A (subscriptTail e (.Slice lo hi none p2) v (.ref a.heap.objs.size)) (EP X pins c Q) X.xe { a with heap:=a.heap.push { cls:=.type "slice",data:=.fields #[f,d,.none] } };exact tail_any (ops:=[.ref a.heap.objs.size,v]) t B z (by with_unfolding_all rfl)
def B7(xs:ag)(lo hi:Option Int):ag:=(xs.drop (HT.uD xs.length 0 lo)).take (HT.uD xs.length xs.length hi - HT.uD xs.length 0 lo)
def wy(xs:ag)(lo hi:Option Int):(B7 xs lo hi).length<=xs.length:=by
 unfold B7;rw[zaL,List.length_drop];left
def RA(K:ao):R2:=λx y H Q=>∃a b d c,x=.ref a/\y=.ref b/\bg K H a d/\bg K H b c/\d≠[]/\d.length+c.length<=sizeLine /\
 (c=[]->Q (.ref a) H)/\(c≠[]->∀p,H p=none->Q (.ref p) (upd H p (.tup (d++c))))
def Vals.sV{xs:ag}{a:az}(r:Vals xs a):a=[] ↔ xs=[]:=by
 cases r with
 |nil=>simp
 |cons _ _=>simp
def Il:mT X (binaryOp .Add) (RA X.K):=by
 intro pins s n H x y v u Q I i g h;obtain⟨a,b,f,d,rfl,rfl,m,l,k,c,q1,q2⟩:=h;cases i;cases g;obtain⟨t,r1,j,_⟩:=I.tuple m;obtain⟨r,r2,p2,_⟩:=I.tuple l;refine HT.J4 j p2 (λz=>k (r1.sV.mp z)) (λz=>⟨.ref a,H,I,rfl,q1 (r2.sV.mp z)⟩) (λz=>?_) (by rw[<- r1.length,<- r2.length];exact c);refine⟨.ref s.heap.objs.size,_,I.laid (t':=s.toks) (o:=.tup (f++d)) (λb p q=>aad _ q) (aaj _) ?_,rfl,q2 (λw=>z (r2.sV.mpr w)) _ (I.cJ.fresh (aaj _))⟩;exact⟨by rw[zah];exact c,_,r1.append r2,IsTup.new _ _⟩
end
end L2
namespace L2
open PySem PySem.Spec PyProof.Rows
noncomputable def EJ(n:Nat)(i:Int):Option Nat:=if 0<=i then(if i<n then some i.toNat else none)else if -(n:Int)<=i then some (i+n).toNat else none
def Qm{a:Type}(xs:List a)(i:Int):Option a:=(EJ xs.length i).bind λj=>xs[j]?
def IW{n:Nat}{i:Int}{j:Nat}(h:EJ n i=some j):seqIndex? i n=some j/\j<n /\ -(n:Int)<=i/\i<n:=by
 unfold EJ at h;by_cases b:0<=i
 ·rw[zac b]at h;by_cases a:i<n
  ·rw[zac a]at h;have e:i.toNat=j:=aat h;exact⟨by rw[seqIndex_of b a,e],by left,by left,a⟩
  ·rw[zab a]at h;cases h
 ·rw[zab b]at h;by_cases a:-(n:Int)<=i
  ·rw[zac a]at h;have e:(i+n).toNat=j:=aat h;exact⟨by rw[seqIndex_neg (by left) a,e],by left,a,by left⟩
  ·rw[zab a]at h;cases h
def Aw{a:Type}{xs:List a}{i:Int}{v:a}(h:Qm xs i=some v):∃j,seqIndex? i xs.length=some j/\xs[j]?=some v/\j<xs.length /\ -(xs.length:Int)<=i/\i<xs.length:=by
 unfold Qm at h;cases e:EJ xs.length i with
 |none=>rw[e]at h;cases h
 |some j =>
  rw[e]at h;obtain⟨f,d,c,b⟩:=IW e;exact⟨j,f,h,d,c,b⟩
def og(b:Expr):Prop:=∀o i,subscripted b false o i=operate [o,i] (getItem o i)
def LO(X:Cx)(r:R2):Prop :=
 ∀(value slice:Expr) (pins:aw) (s:Shared) (a:St) (H:Hp) (x y:V) (v u:Value) (Q:VK),Inv X pins a H s->RelV x v->RelV y u->r x y H Q ->
  subscripted slice false v u=operate [v,u] (getItem v u)->wpAny (model X.prog X.w) X.A (subscriptTail value slice v u) (EP X pins a Q) X.xe s
def UX(X:Cx)(id:String)(r:V->ag->Hp->VK->Prop):Prop :=
 ∀(pins:aw) (s:Shared) (a:St) (H:Hp) (x:V) (xs:ag) (v:Value) (b:az) (Q:VK),Inv X pins a H s->RelV x v->Vals xs b->r x xs H Q ->
  wpAny (model X.prog X.w) X.A (call (.builtin id) (v::b)) (EP X pins a Q) X.xe s
section
variable {X:Cx}{a b:Expr}{ta tb:TE}{pos:Pos}
def LO.or{r f:R2}(h:LO X r)(h':LO X f):LO X (λx y H Q=>r x y H Q\/f x y H Q):=by
 intro value slice pins s c H x y v u Q I e d q g;rcases q with q|q
 ·exact h value slice pins s c H x y v u Q I e d q g
 ·exact h' value slice pins s c H x y v u Q I e d q g
def KS{r:R2}(g:LO X r)(j:PE X a ta)(i:PE X b tb)(hs:og b):PE X (.Subscript a b pos) (Ku r ta tb):=by
 intro pins s c H Q I h;exact Subscript_ (Pg j i I h λv u d x y l k f e q=>g a b pins d c l x y v u Q k f e q (hs _ _))
def W0(K:ao):R2:=λx y H Q=>∃p c i v,x=.ref p/\y=.int i/\dD K H p c/\Qm c i=some v/\Q v H
def WZ(K:ao):R2:=λx y H Q=>∃p c i v,x=.ref p/\y=.int i/\bg K H p c/\Qm c i=some v/\Q v H
def IU:LO X (W0 X.K):=by
 intro value slice pins s f H x y v u Q I o n h g;obtain⟨p,J,i,z,rfl,rfl,B,C,q⟩:=h;cases o;obtain⟨t,rfl⟩:=n;obtain⟨G,r,d,L⟩:=I.list B;obtain⟨j,c,F,N,E,D⟩:=Aw C;obtain⟨w,l,A⟩:=r.get F;have hl:=r.length;have M:=yh;have fin:EP X pins f Q w s:=⟨z,H,I,A,q⟩
 by_cases k:0<=i
 ·have e:i.toNat=j:=by
   rw[seqIndex_of k D]at c;exact aat c
  exact item_listR d.isList k (by left) (by rw[e];simpa using l) fin g
 ·have e:(i+(G.toArray.size:Int)).toNat=j:=by
   rw[seqIndex_neg (by left) E]at c;rw[zad,<- hl];exact aat c
  exact ab8 (x:=w) d.isList.typeIs slot_list_getitem.lookup
   (wpAny_getItem_list_neg (Q:=λr m=>r=w/\EP X pins f Q r m) d.isList (by left) (by rw[zad]<;>omega) (by left) (by rw[e];simpa using l) ⟨rfl,fin⟩) g
def Nt:LO X (WZ X.K):=by
 intro value slice pins s c H x y v u Q I g f h l;obtain⟨p,C,i,z,rfl,rfl,m,n,q⟩:=h;cases g;obtain⟨t,rfl⟩:=f;obtain⟨L,r,d,D⟩:=I.tuple m;obtain⟨j,A,o,J,G,F⟩:=Aw n;obtain⟨w,B,k⟩:=r.get o;have hl:=r.length;have E:=yh;have fin:EP X pins c Q w s:=⟨z,H,I,k,q⟩
 exact ab8 (x:=w) d.typeIs slot_tuple_getitem.lookup
  (getItem_tuple (j:=j) (Q:=λr e=>r=w/\EP X pins c Q r e) d (by left) (by left) (by rw[zad,<- hl];exact A) (by simpa using B) ⟨rfl,fin⟩) l
def so(lo c:Option Int)(n:Nat):(sliceBounds lo c none n).1=((HT.uD n 0 lo:Nat):Int)/\(sliceBounds lo c none n).2.1=((HT.uD n n c:Nat):Int)/\(sliceBounds lo c none n).2.2=1:=by
 refine⟨?_,?_,rfl⟩
 ·cases lo with
  |none=>simp[sliceBounds,HT.uD]
  |some i =>
   simp only[sliceBounds,HT.uD,Option.getD_none,show(1:Int)>0 by decide,if_true];by_cases h:i<0
   ·simp only[h,if_true]<;>left
   ·simp only[h,if_false]<;>left
 ·cases c with
  |none=>simp[sliceBounds,HT.uD]
  |some i =>
   simp only[sliceBounds,HT.uD,Option.getD_none,show(1:Int)>0 by decide,if_true];by_cases h:i<0
   ·simp only[h,if_true]<;>left
   ·simp only[h,if_false]<;>left
def qu(c:az)(lo d:Option Int):slicePick c.toArray lo d none=((c.drop (HT.uD c.length 0 lo)).take (HT.uD c.length c.length d - HT.uD c.length 0 lo)).toArray:=by
 obtain⟨g,f,e⟩:=so lo d c.toArray.size;unfold slicePick;rw[g,f,e];simp only[sliceRange_one,pick_run,zad]<;>rfl
def WX(K:ao):V->Option Int->Option Int->Hp->VK->Prop:=λx d e H Q=>∃a c,x=.ref a/\dD K H a c/\∀p,H p=none->Q (.ref p) (upd H p (.lst (B7 c d e)))
def sr:ZJ X (WX X.K):=by
 intro pins s n H x v t p d e u Q I g m j i h;obtain⟨a,c,rfl,l,q⟩:=h;cases g;obtain⟨y,r,f,k⟩:=I.list l;have hlen:=r.length;refine⟨"list",_,slot_list_getitem.lookup,f.isList.typeIs,?_⟩;refine abY f.isList m j i .none (by simp) ?_ (by rw[zad]<;>omega);rw[qu,<- hlen];refine⟨.ref s.heap.objs.size,_,I.laid (t':=s.toks) (o:=.lst (B7 c d e)) (λb w q=>aad _ q) (aaj _) ?_,rfl,q _ (I.cJ.fresh (aaj _))⟩;exact⟨aaS (wy c d e) k,_,0,(r.drop (HT.uD c.length 0 d)).take (HT.uD c.length c.length e - HT.uD c.length 0 d),aaq _ rfl⟩
noncomputable def jq:V->Bool
 |.bz=>true
 |.bl _=>true
 |.int _=>true
 |.str _=>true
 |_=>false
noncomputable def JA:V->V->Bool
 |.bz,.bz=>true
 |.bl a,.bl b=>a==b
 |.bl a,.int b=>(if a then 1 else 0)==b
 |.int a,.bl b=>a==(if b then 1 else 0)
 |.int a,.int b=>a==b
 |.str a,.str b=>a==b
 |_,_=>false
def OO{A:aN}{s:Shared}{y x:V}{u v:Value}(e:RelV y u)(c:RelV x v)(g:jq y=true)(f:jq x=true):SeqAt.EqAt A s u v (JA y x):=by
 cases y with
 |bz =>
  cases e;cases x with
  |bz=>cases c;exact abR _
  |bl b=>cases c;exact SeqAt.EqAt.none_bool b
  |int b=>obtain⟨t,rfl⟩:=c;exact SeqAt.EqAt.none_int b t
  |str b=>obtain⟨t,rfl⟩:=c;exact SeqAt.EqAt.none_str b t
  |_=>exact absurd (show false=true from f) aac
 |bl a =>
  cases e;cases x with
  |bz=>cases c;exact SeqAt.EqAt.bool_none a
  |bl b=>cases c;exact abw a b
  |int b=>obtain⟨t,rfl⟩:=c;exact SeqAt.EqAt.bool_int a b t
  |str b=>obtain⟨t,rfl⟩:=c;exact SeqAt.EqAt.bool_str a b t
  |_=>exact absurd (show false=true from f) aac
 |int a =>
  obtain⟨d,rfl⟩:=e;cases x with
  |bz=>cases c;exact SeqAt.EqAt.int_none a d
  |bl b=>cases c;exact SeqAt.EqAt.int_bool a d b
  |int b=>obtain⟨t,rfl⟩:=c;exact acp a d b t
  |str b=>obtain⟨t,rfl⟩:=c;exact SeqAt.EqAt.int_str a d b t
  |_=>exact absurd (show false=true from f) aac
 |str a =>
  obtain⟨d,rfl⟩:=e;cases x with
  |bz=>cases c;exact SeqAt.EqAt.str_none a d
  |bl b=>cases c;exact SeqAt.EqAt.str_bool a d b
  |int b=>obtain⟨t,rfl⟩:=c;exact SeqAt.EqAt.str_int a d b t
  |str b=>obtain⟨t,rfl⟩:=c;exact SeqAt.EqAt.str_str a d b t
  |_=>exact absurd (show false=true from f) aac
 |_=>exact absurd (show false=true from g) aac
def JB(x:V)(u:Value):Bool:=match u with
 |.none=>JA .bz x
 |.bool b=>JA (.bl b) x
 |.int i _=>JA (.int i) x
 |.str z _=>JA (.str z) x
 |_=>false
def FN{x y:V}{u:Value}(r:RelV y u)(f:jq y=true):JB x u=JA y x:=by
 cases y with
 |bz=>cases r;rfl
 |bl b=>cases r;rfl
 |int i=>obtain⟨t,rfl⟩:=r;rfl
 |str z=>obtain⟨t,rfl⟩:=r;rfl
 |_=>exact absurd (show false=true from f) aac
theorem uq{x:V}:∀{xs:ag} {c:az},Vals xs c->xs.all jq=true->c.any (JB x)=xs.any λy=>JA y x
 |_,_,.nil,_=>rfl
 |y::xs,u::c,.cons r t,f=>by
  rw[zaw,zaf]at f;rw[zaG,zaG,FN r f.1,uq t f.2]
theorem oQ{A:aN}{s:Shared}{x:V}{v:Value}(e:RelV x v)(g:jq x=true):∀{xs:ag} {d:az},Vals xs d->xs.all jq=true->∀u∈d,SeqAt.EqAt A s u v (JB x u)
 |_,_,.nil,_=>λu c=>by cases c
 |y::xs,u::d,.cons r t,f=>λh c=>by
  rw[zaw,zaf]at f;rcases List.mem_cons.mp c with rfl|c
  ·rw[FN r f.1];exact OO r e f.1 g
  ·exact oQ e g t f.2 h c
def Su(x:V)(xs:ag):Bool:=xs.any λy=>JA y x
def Vd(K:ao)(neg:Bool):R2:=λx y H Q=>∃p c,y=.ref p/\(dD K H p c\/bg K H p c)/\jq x=true/\c.all jq=true/\Q (.bl (if neg then !Su x c else Su x c)) H
def Bp:mT X (compareOp .In) (Vd X.K false):=by
 intro pins s k H x y v u Q I f i h;obtain⟨p,l,rfl,c,g,fs,q⟩:=h;cases i;rcases c with c|c
 ·obtain⟨d,r,e,j⟩:=I.list c;refine SeqAt.in_listAt (JB x) e.isList (λw hw=>oQ f g r fs w (by simpa using hw)) ⟨.bl _,H,I,rfl,?_⟩;rw[show d.toArray.any (JB x)=d.any (JB x) by simp,uq r fs];exact q
 ·obtain⟨d,r,e,j⟩:=I.tuple c;refine SeqAt.in_tupleAt (JB x) e (λw hw=>oQ f g r fs w (by simpa using hw)) ⟨.bl _,H,I,rfl,?_⟩;rw[show d.toArray.any (JB x)=d.any (JB x) by simp,uq r fs];exact q
def uc:iO X (.builtin "len") (λg H Q=>∃p c,g=[.ref p]/\(dD X.K H p c\/bg X.K H p c)/\Q (.int c.length) H):=by
 intro pins s l H g m Q I r h;obtain⟨p,c,rfl,d,q⟩:=h;obtain⟨u,rfl,i⟩:=vals1 r;cases i;have n:=yh;rcases d with d|d
 ·obtain⟨k,e,f,j⟩:=I.list d;have hlen:=e.length;exact Calls.call_len_list f.isList (by simp only[zad]<;>omega) ⟨.int c.length,H,I.tok _,⟨s.toks+1,by rw[zad,hlen]⟩,q⟩
 ·obtain⟨k,e,f,j⟩:=I.tuple d;have hlen:=e.length;exact len_tuple f (by simp only[zad]<;>omega) ⟨.int c.length,H,I.tok _,⟨s.toks+1,by rw[zad,hlen]⟩,q⟩
def ub:iO X (.type "list") (λx H Q=>∃p d,x=[.ref p]/\(dD X.K H p d\/bg X.K H p d)/\∀l,H l=none->Q (.ref l) (upd H l (.lst d))):=by
 intro pins s z H x B Q I r h;obtain⟨p,d,rfl,k,q⟩:=h;obtain⟨u,rfl,A⟩:=vals1 r;cases A;have fin:∀(c:az),Vals d c->d.length<=sizeLine->∀(h':Heap) (g:Nat),(∀b y,s.heap.get? b=some y->h'.get? b=some y) ->
   h'.get? s.heap.objs.size=some { cls:=.type "list",dict:=none,data:=.seq c.toArray g,slots:=#[] }->EP X pins z Q (.ref s.heap.objs.size) { s with heap:=h' }:=λc f j h' g i e =>
  ⟨.ref s.heap.objs.size,_,I.laid (t':=s.toks) i (aaj _) (show dh _ h' _ (.lst d) from⟨j,c,g,f,e⟩),rfl,q _ (I.cJ.fresh (aaj _))⟩
 rcases k with k|k
 ·obtain⟨c,f,m,j⟩:=I.list k;have hlen:=f.length;obtain⟨o,t,w,n,v⟩:=m.isList;exact call_list_seq p (.inl rfl) t w v (λh' g i e=>fin c f j h' g i e) (by simp only[zad]<;>omega)
 ·obtain⟨c,f,m,j⟩:=I.tuple k;have hlen:=f.length;obtain⟨o,t,w,n,v⟩:=m;exact call_list_seq p (.inr rfl) t w v (λh' g i e=>fin c f j h' g i e) (by simp only[zad]<;>omega)
def qH:iO X (.type "tuple") (λm H Q=>∃p c,m=[.ref p]/\((dD X.K H p c/\∀l,H l=none->Q (.ref l) (upd H l (.tup c)))\/(bg X.K H p c/\Q (.ref p) H))):=by
 intro pins s k H m y Q I r h;obtain⟨p,c,rfl,h⟩:=h;obtain⟨u,rfl,v⟩:=vals1 r;cases v;rcases h with ⟨i,q⟩|⟨i,q⟩
 ·obtain⟨j,f,g,n⟩:=I.list i;have hlen:=f.length;refine call_tuple_list g.isList (λd w=>?_) (by simp only[zad]<;>omega);have t:Inv X pins k H { s with heap:=d }:=I.kept (t':=s.toks) w;have x:Inv X pins k (upd H d.objs.size (.tup c)) { s with heap:=d.push { cls:=.type "tuple",data:=.seq j.toArray } } :=
   t.laid (t':=s.toks) (λb o e=>aad _ e) (aaj _) (show dh _ _ _ (.tup c) from⟨n,j,f,IsTup.new _ _⟩)
  exact⟨.ref d.objs.size,_,x,rfl,q _ (t.cJ.fresh (aaj _))⟩
 ·obtain⟨j,f,g,n⟩:=I.tuple i;exact call_tuple_same g ⟨.ref p,H,I,rfl,q⟩
def Z4(K:ao)(T:String)(x:V)(H:Hp):Prop:=match x with
 |.ref p=>T = "list" /\ ∃c,dD K H p c
 |_=>False
def Mc{pins:aw}{h:St}{H:Hp}{s:Shared}{T:String}{x:V}{v:Value}(I:Inv X pins h H s)(r:RelV x v)(d:Z4 X.K T x H):
  s.TypeIs v T/\∀a,v=.ref a->∃g,s.heap.get? a=some g/\g.dict=none:=by
 cases x with
 |ref p =>
  cases r;obtain⟨rfl,k,i⟩:=d;obtain⟨l,_,f,_⟩:=I.list i;refine⟨f.isList.typeIs,λa e=>?_⟩;cases e;obtain⟨o,n,e,c,j,_⟩:=f;exact⟨o,e,j⟩
 |_=>exact False.elim d
def tBM(K:ao)(T:String)(r:V->ag->Hp->VK->Prop)(to:TE)(t:TA):TE:=λc H Q=>to c H λx d=>Z4 K T x d/\t c d λe f=>r x e f Q
variable {o e:Expr}{es:ak}{to:TE}{t:TA}{name:Str}{apos cpos:Pos}{T id:String}{r:V->ag->Hp->VK->Prop}
def D8(m:PlainAttrs T)(slot:Slot T name id)(z:typeOf (.builtin id)=pure (.type "method_descriptor"))(p:UX X id r)(n:PE X o to)(q:PA X (e::es) t)
  (E:attributeBase o name X.env (eval o X.env)=eval o X.env:=by rfl)
  (hfew:((backTo cpos (starEach (e::es) X.env)).all (λx=>!x.1)&&(backToKw cpos (keywordEach [] X.env)).all (λx=>x.1.isSome)
   && decide ((e::es).length+([]:List Keyword).length+(if ([]:List Keyword).isEmpty then 0 else 1)<30))=true:=by rfl)
  (hline:(apos.endLine==cpos.line)=true:=by rfl) (hs:starEach (e::es) X.env=(false,eval e X.env)::starEach es X.env:=by rfl) (A:(backTo cpos (starEach es X.env)).any (·.1)=false:=by rfl) :
  PE X (.Call (.Attribute o name apos) (e::es) [] cpos) (tBM X.K T r to t):=by
 intro pins s c H Q I h;refine wpAny_Call_method_late E hfew hline rfl (dG (n pins s c H _ I h) λv l y=>?_);obtain⟨x,D,f,r1,j,q1⟩:=y;obtain⟨w,u⟩:=Mc f r1 j;refine⟨T,id,m,slot,z,w,u,?_⟩;have d:=q cpos pins l c D _ f q1;rw[hs]at d ⊢;refine Calls.callWith_builtin (by show(false||(backTo cpos (starEach es X.env)).any (·.1))=false;rw[A]<;>rfl) (aci ?_);exact dG d λi k ⟨g,C,B,r2,q2⟩=>p pins k c C x g v i Q B r1 r2 q2
/- xs.append(e),list.index on a module's tuple .. are UX facts of 06m -/
end
end L2
namespace L2
open PySem PySem.Spec PyProof.Rows
def MtM(X:Cx)(id:String)(r:V->ag->Hp->VK->Prop):Prop :=
 ∀(pins:aw) (s:Shared) (a:St) (H:Hp) (x:V) (xs:ag) (v:Value) (b:az) (Q:VK),Inv X pins a H s->RelV x v->Vals xs b->r x xs H Q ->
  wpAny (model X.prog X.w) X.A (call (.builtin id) (v::b)) (EP X pins a Q) X.xe s
def Vals.one:∀{x:V} {a:az},Vals [x] a->∃u,a=[u]/\RelV x u
 |_,_,.cons r .nil=>⟨_,rfl,r⟩
theorem Vals.reverse{xs:ag}{a:az}(h:Vals xs a):Vals xs.reverse a.reverse:=by
 induction h with
 |nil=>exact .nil
 |cons r t b=>rw[zaV,zaV];exact Vals.append b (.cons r .nil)
theorem Vals.rep{xs:ag}{a:az}(h:Vals xs a):∀k:Nat,Vals (List.replicate k xs).flatten (List.replicate k a).flatten
 |0=>.nil
 |k+1=>by
  rw[zaF,zaF,zaO,zaO];exact Vals.append h (Vals.rep h k)
theorem foldl_rep(b:az):∀(k:Nat) (a:az),
  List.foldl (λx1 x2=>x1++x2) a.toArray (List.replicate k b.toArray)=(a++(List.replicate k b).flatten).toArray
 |0,a=>by simp
 |k+1,a=>by
  have e:a.toArray++b.toArray=(a++b).toArray:=by simp
  have c:(a++b)++(List.replicate k b).flatten=a++(List.replicate (k+1) b).flatten:=by
   rw[zaF,zaO,zbo]
  rw[<- c,<- foldl_rep b k (a++b),<- e,zaF,List.foldl_cons]
variable {aS:az}{t':Nat}
section
variable {X:Cx}{pins:aw}{σ:St}{H:Hp}{s:Shared}{l b:Addr}{xs ys zs:ag}
def Inv.mj{its':az}{n:Nat}{f:aY->aY}(I:Inv X pins σ H s)(g:H l=some (.lst xs))
  (e:s.heap.get? l=some { cls:=.type "list",data:=.seq aS.toArray n }) (hf:f aS.toArray=its'.toArray) (a:Vals ys its') (hz:ys.length<=sizeLine) :
  Inv X pins σ (upd H l (.lst ys)) { s with heap:=s.heap.update l (Obj.mapSeq f),toks:=t' }:=by
 have q:=PySem.IsL.update e f;rw[hf]at q;refine I.write (x:=l) (by rw[g];exact trivial) (λh u d c=>(aa4 s.heap (Obj.mapSeq f) (acb d)).trans c) ⟨_,q⟩ ?_;exact⟨hz,its',_,a,q⟩
def Inv.II(I:Inv X pins σ H s)(a:Vals ys aS)(hz:ys.length<=sizeLine):
  Inv X pins σ (upd H s.heap.objs.size (.lst ys)) { s with heap:=s.heap.push { cls:=.type "list",data:=.seq aS.toArray },toks:=t' } :=
 I.laid (λ_ _ q=>aad _ q) (aaj _) ⟨hz,aS,0,a,aaq _ rfl⟩
theorem Inv.fresh(I:Inv X pins σ H s):H s.heap.objs.size=none:=I.cJ.fresh (aaj _)
def Inv.By(I:Inv X pins σ H s)(a:H l=some (.lst xs)):xs.length<=sizeLine/\∃(aS:az) (n:Nat),Vals xs aS/\xs.length=aS.length/\s.heap.get? l=some { cls:=.type "list",data:=.seq aS.toArray n }:=by
 obtain⟨z,aS,n,r,e⟩:=I.cJ l _ a;exact⟨z,aS,n,r,r.length,e⟩
def vG{n:Nat}(h:n<=sizeLine):Builtin.List.listTooLong n=false:=by
 unfold Builtin.List.listTooLong;exact abl (by left)
end
section
variable {X:Cx}
def HX:V->ag->Hp->VK->Prop:=λx b H Q=>∃l a y,x=.ref l/\b=[y]/\H l=some (.lst a)/\a.length<sizeLine/\Q .bz (upd H l (.lst (a++[y])))
def Bu:MtM X "list.append" HX:=by
 intro pins s d H x g v i Q I b rv h;obtain⟨l,f,y,rfl,rfl,a,j,q⟩:=h;cases b;obtain⟨u,rfl,c⟩:=rv.one;obtain⟨z,aS,n,r,hl,e⟩:=I.By a;refine abx PySem.F.slot_list_append ⟨_,e,rfl⟩ PySem.F.entry_list_append (PySem.F.args_list_append_2 _ _) (PySem.list_append l aS.toArray n u (by rw[zad];left)) ⟨e,?_⟩;refine⟨.bz,_,I.mj (its':=aS++[u]) a e (by simp) (r.append (.cons c .nil)) ?_,rfl,q⟩;rw[zah,zaX];left
def HW:V->ag->Hp->VK->Prop:=λx d H Q=>∃l b c a,x=.ref l/\d=[.ref b]/\H l=some (.lst c)/\H b=some (.lst a)/\c.length+a.length<=sizeLine/\Q .bz (upd H l (.lst (c++a)))
def Bs:MtM X "list.extend" HW:=by
 intro pins s o H x A v B Q I f rv h;obtain⟨l,b,y,p,rfl,rfl,d,j,C,q⟩:=h;cases f;obtain⟨u,rfl,g⟩:=rv.one;cases g;obtain⟨z,aS,n,r,hl,e⟩:=I.By d;obtain⟨t,a,i,r2,w,k⟩:=I.By j;have c:aS.toArray.size+a.toArray.size<=sizeLine:=by rw[zad,zad];left
 have m:¬ (!aS.toArray.isEmpty&&Builtin.List.listTooLong (aS.toArray.size+a.toArray.size))=true:=by
  rw[vG c,zao];exact aac
 refine abx PySem.F.slot_list_extend ⟨_,e,rfl⟩ PySem.F.entry_list_extend (PySem.F.args_list_extend_2 _ _)
  (AutoSeq1.list_extend_list_list_0 l aS.toArray n b a.toArray i m (by rw[zad];left) (by left)) ⟨e,k,?_⟩
 refine⟨.bz,_,I.mj (its':=aS++a) d e (by simp) (r.append r2) ?_,rfl,q⟩;rw[zah];left
def W3:R2:=λx y H Q=>∃l b c a,x=.ref l/\y=.ref b/\H l=some (.lst c)/\H b=some (.lst a)/\c.length+a.length<=sizeLine/\∀p,H p=none->Q (.ref p) (upd H p (.lst (c++a)))
def Ef:mT X (binaryOp .Add) W3:=by
 intro pins s k H x y v u Q I d c h;obtain⟨l,b,t,m,rfl,rfl,f,g,A,q⟩:=h;cases d;cases c;obtain⟨z,aS,n,r,hl,e⟩:=I.By f;obtain⟨o,a,w,r2,p,j⟩:=I.By g;refine PySem.P.add_list e j ?_ (by rw[zad,zad];left);have i:aS.toArray++a.toArray=(aS++a).toArray:=by simp
 rw[i];exact⟨.ref _,_,I.II (t':=s.toks) (r.append r2) (by rw[zah];left),rfl,q _ I.fresh⟩
def WY:R2:=λx y H Q=>∃l k a,x=.ref l/\y=.int k/\H l=some (.lst a) /\ -(2 ^ 63)<=k/\k<2 ^ 63/\a.length*k.toNat<=sizeLine /\
 ∀p,H p=none->Q (.ref p) (upd H p (.lst (List.replicate k.toNat a).flatten))
def len_rep{a:Type}(xs:List a)(k:Nat):(List.replicate k xs).flatten.length=k*xs.length:=by
 induction k with
 |zero=>simp
 |succ k b=>rw[zaF,zaO,zah,b,zbE,zbg]
def M5:mT X (binaryOp .Mult) WY:=by
 intro pins s C H x y v u Q I f d h;obtain⟨l,k,D,rfl,rfl,i,o,j,b,q⟩:=h;cases f;obtain⟨t,rfl⟩:=d;obtain⟨z,aS,n,r,hl,e⟩:=I.By i;have hlen:aS.toArray.size*k.toNat<=sizeLine:=by rw[zad,<- hl];exact b
 have g:¬ aS.toArray.size*k.toNat>(2 ^ 63 - 1) / 8:=by
  have:(sizeLine:Nat)<=(2 ^ 63 - 1) / 8:=by decide
  left
 have w:¬ (!Builtin.List.listFitsIndex k)=true:=by
  rw[fitsIndex_both o j];exact aac
 have B:¬ Builtin.List.listTooLong (aS.toArray.size*k.toNat)=true:=by
  rw[vG hlen];exact aac
 have A:List.foldl (λx1 x2=>x1++x2) #[] (List.replicate (if aS.toArray.isEmpty=true then 0 else k.toNat) aS.toArray)=(List.replicate k.toNat aS).flatten.toArray:=by
  have p:∀m:Nat,List.foldl (λx1 x2=>x1++x2) #[] (List.replicate m aS.toArray)=(List.replicate m aS).flatten.toArray:=λm=>by
   have:=foldl_rep aS m [];rw[zay]at this;exact this
  rw[p];cases aS with
  |nil=>simp
  |cons a E=>rw[zab (by simp)]
 refine wpAny_binaryOp_repeat_ref (T:="list") (U:="int") (by decide) ⟨_,e,rfl⟩ (λc=>typeIs_int c k t) noFill_list_mul F.fills_int_mul PySem.F.slot_int_rmul repeat_list PySem.F.slot_int_index.lookup
  (abx PySem.F.slot_int_rmul (typeIs_int s k t) PySem.F.entry_int_rmul (PySem.F.args_int_rmul_2 _ _) (int___rmul___int_list k t l aS.toArray n)
   ⟨e,rfl,⟨_,e,rfl⟩,abx PySem.F.slot_list_mul ⟨_,e,rfl⟩ PySem.F.entry_list_mul (PySem.F.args_list_mul_2 _ _) (AutoListH.list___mul___list_int_3 l aS.toArray n k t w g B) ⟨e,?_⟩⟩)
 rw[A];exact⟨.ref _,_,I.II (t':=s.toks) (r.rep k.toNat) (by rw[len_rep,zbF];exact b),rfl,q _ I.fresh⟩
end
end L2
namespace Att
open PySem PySem.W PySem.Calls PyProof.Rows
def nc{P:Params}{h:Heap}:∀(ns:ae) (vs:az),WellAll P h vs (ns.map WData.int)->IntsAre vs ns:=by
 intro ns;induction ns with
 |nil =>
  intro vs w;rw[zbD]at w;cases w;exact .nil
 |cons n ns c =>
  intro vs w;rw[zag]at w;cases w with
  |cons a b =>
   cases a;exact .cons _ _ (c _ b)
def A9{l:OpenLaw}{n:Nat}(o:l.most=some n){P:Params}{h:Heap}{args:List WData}{vals:az}
  (j:l.row.toRowW.claim.pre args=true) (u:WellAll P h vals args) :
  ∃a g b,vals=[Value.ref a]/\args=[WData.list (b.map WData.int)]/\h.get? a=some { cls:=.type "list",data:=.seq g.toArray }/\IntsAre g b/\b.length<=n:=by
 have v:WShape.hasAll [] args [.list .int]=true:=(pre_splitW j).1;have i:l.pre.holds [] { args:=args }=true:=(pre_splitW j).2;obtain⟨d,r,rfl,t,s⟩:=hasAllW_cons v;obtain rfl:=hasAllW_nil s;obtain⟨w,rfl,p⟩:=hasW_list t;obtain⟨b,rfl⟩:=items_int p;have hlen:b.length<=n:=by
  unfold OpenLaw.pre at i;have f:(WTm.not (.lt (.lit (.int (n:Int))) (.len (.arg 0)))).holds [] { args:=[.list (b.map .int)] }=true:=by
   have f:=(holds_andW i).1;rw[o]at f;exact f
  have e:=condW_of f (w_not (w_lt w_lit (w_len_list (w_arg rfl))));rw[zaa]at e;refine Nat.le_of_not_lt λq=>?_;have k:(n:Int)<((b.length:Nat):Int):=by left
  first
   | (rw[zaB k]at e;exact absurd e (by decide))
   | (simp at e;left)
 cases u with
 |cons w1 w2 =>
  cases w2;cases w1 with
  |list m c=>exact⟨_,_,b,rfl,rfl,m,nc b _ c,hlen⟩
def Bm(l:OpenLaw)(args:List WData):l.row.toRowW.claim.post args (.bool true) args=true :=
 postW_of (r:=l.row.toRowW) (X:=(true==true))
  (show WShape.has [] (.bool true) .bool=true by first|rfl|decide|simp[WShape.has,WShape.arms,WShape.armsAll])
  (show(WTm.eq .res (.lit (.bool true))).value [] { args:=args,res:=some (.bool true),after:=args }=some (.bool (true==true)) from w_eq_bool (w_res rfl) w_lit) rfl
def wM{l:OpenLaw}{n:Nat}{q:aM}{loose:av}{k:(aZ)->Heap->Prop}{j:World->Heap->Prop}{d:DefRec}
  (v:l.most=some n) (I:d.params.defaults=[])
  (call:∀(w:World) (s₀ b:Shared) (mg mb:aZ) (fa:Addr) (o:Obj) (h g c:Value) (a:Addr) (vs:az) (ns:ae),
   Ground q loose [] k w s₀ mg mb b.heap->j w b.heap ->
   b.heap.get? fa=some o->o.data=.func (docDef d.name d.params d.body d.scope h g c)->b.heap.CodeRec g d.name->mg d.name=some (.ref fa) ->
   b.heap.get? a=some { cls:=.type "list",data:=.seq vs.toArray }->IntsAre vs ns->ns.length<=n->b.gens = #[] ->
   codeAny (model l.prog w) callerA (.call (.ref fa) ⟨[.ref a],[]⟩) (λr e=>r=.ok (.ret (.bool true))/\OldK b.heap e.heap/\e.os=b.os/\AllBare e.gens) b) :
  WalkO q loose k j l.row.toRowW d [] (λf vs=>PySem.call f vs):=by
 intro w s₀ b mg mb G Y fa o h g c E p u A m i hmg z args vals as K F s H y;obtain rfl:E=.none:=Dflts.none i I;obtain rfl:p=.none:=Dflts.noKw i;obtain⟨a,vs,ns,rfl,rfl,J,hints,hlen⟩:=A9 v K H;refine enter_call (ach (call w s₀ b mg mb fa o h g c a vs ns G Y u (fd_plain A) m hmg J hints hlen z) λr e t=>?_);obtain⟨rfl,D,C,B⟩:=t;exact⟨.inl ⟨.bool true,.bool true,[],rfl,λ_=>rfl,.bool true,Bm l _,λ_=>⟨List.Pairwise.nil,λ_ x=>(nomatch x)⟩⟩,D,C,B⟩
end Att
namespace L2
open PySem PySem.Spec PyProof.Rows
theorem l8:∀{vs:az} {ns:ae},IntsAre vs ns->Vals (ns.map V.int) vs
 |_,_,.nil=>.nil
 |_,_,.cons n t h=>.cons ⟨t,rfl⟩ (l8 h)
def Kl(H:Hp):Prop:=∀b,H b=none\/∃o a,H b=some (.jo o (.lst a))
def EF{P:aM}{w:World}{K:ao}{mg mb:aZ}{CX:Cf}{k:Nat}{fa a:Addr}{E:FuncData}{x:Str}{sp:Sp}{c:Shared}{vs:az}{ns:ae}
  (KX:K.In c.heap) (J:c.heap.Ns mainGlobals mg) (f:c.heap.Ns builtinsNs mb) (y:∀x:Str,x ≠ "__name__" -> mb x=bootBuiltins x) (Yo:c.heap.NoLimit) (U:c.gens = #[])
  (l:c.heap.get? a=some { cls:=.type "list",data:=.seq vs.toArray }) (B:IntsAre vs ns) (hl:ns.length<=sizeLine) (T:h_ k callerA)
  (F:∀base:Heap,K.In base->base.Ns mainGlobals mg->iM P w K mg base CX k fa E [x] sp) (Tp:∀(s:Shared) (u:Value),BindsTo s E ⟨[u],[]⟩ [(x,u)])
  (N:∀H:Hp,Kl H->dD K H a (ns.map V.int)->sp [.ref a] H (λv _=>v=.bl true) λ_ _ _=>False)
  (YH:∀H e g,CX [] H c (λ_ _ _=>False) e g->False) :
  codeAny (model P w) callerA (.call (.ref fa) ⟨[.ref a],[]⟩) (λr g=>r=.ok (.ret (.bool true))/\OldK c.heap g.heap/\g.os=c.os/\AllBare g.gens) c:=by
 have rv:=l8 B;have Xl:=B.length;have core:∀H:Hp,Kl H->dD K H a (ns.map V.int)->kn H c.heap->(∀b,H b≠none->b=a)->(H a≠none->K.lookup a=none) ->
   codeAny (model P w) callerA (.call (.ref fa) ⟨[.ref a],[]⟩) (λr g=>r=.ok (.ret (.bool true))/\OldK c.heap g.heap/\g.os=c.os/\AllBare g.gens) c:=by
  intro H C W I D Y;have L:∀{b:Addr} {o:Obj},c.heap.get? b=some o->H b=none->(tH c.heap H).get? b=some o:=λe n=>Ff e n;have RV:∀{b:Addr} {o:Obj} {es:Array DictEntry} {ep:Nat},c.heap.get? b=some o->o.data=.dict es ep->H b=none:=λ{b o es ep} e d=>by
   cases q:H b with
   |none=>rfl
   |some u =>
    have A:b=a:=D b (by rw[q];simp);subst A;rw[l]at e;cases e;have d':Data.seq vs.toArray _=Data.dict es ep:=d;cases d'
  have p:∀{b:Addr} {m:aZ},c.heap.Ns b m->(tH c.heap H).Ns b m:=λ{b m} ⟨o,es,ep,e,d,r⟩=>⟨o,es,ep,L e (RV e d),d,r⟩
  have j:K.In (tH c.heap H):=λb o e=>L (KX b o e) (by
   cases q:H b with
   |none=>rfl
   |some u =>
    have A:b=a:=D b (by rw[q];simp);subst A;rw[Y (by rw[q];simp)]at e;cases e)
  have X:Mod K mg (tH c.heap H):=⟨j,p J,⟨mb,p f,y⟩,let ⟨mc,h1,h2⟩:=Yo;⟨mc,p h1,h2⟩⟩
  have e0:Km P w K mg (tH c.heap H) callerA [] c H:=⟨rfl,X,λb o e=>Ir e,Nat.le_of_eq (BO _ _),trivial,λb f=>absurd (show b∈([]:bo) from f) (by simp),I,.of_eq U⟩
  refine ach ((F _ j (p J)).run callerA [] c H ⟨[.ref a],[]⟩ [.ref a] [.ref a] _ _ T e0 (Tp c (.ref a)) (.cons rfl .nil) (N H C W)) λr g h=>?_;cases r with
  |error e=>exact(YH H e g h).elim
  |ok Z =>
   cases Z with
   |next=>exact False.elim h
   |brk=>exact False.elim h
   |cont=>exact False.elim h
   |ret u =>
    obtain⟨v,H',R,bare,un,Yg,O,q⟩:=h;have Q:v=.bl true:=q;subst Q;obtain rfl:u=Value.bool true:=O;refine⟨rfl,OldK.of_keep λb o e=>?_,R,bare⟩;cases q:H b with
    |none=>exact un.keep b o e q (by intro z;exact absurd (show b∈([]:bo) from z) (by simp)) (by simp)
    |some u =>
     rcases C b with z|⟨S,xs,z⟩
     ·rw[q]at z;cases z
     ·have M:=un.mm b S _ z;obtain⟨G,_⟩:=I b _ z;obtain⟨e2,_⟩:=Yg b _ M;rw[e]at G;cases G;exact e2
 cases t:K.lookup a with
 |some o =>
  have e:=KX a o t;rw[l]at e;cases e;refine core (λ_=>none) (λ_=>.inl rfl) (.inr ⟨_,vs.toArray,_,t,rfl,rfl,rfl,by rw[zad,Xl];exact hl,by simpa using rv⟩) (λb u z=>by have i:(none:Option HO)=some u:=z;cases i) (λb z=>absurd rfl z) λz=>absurd rfl z
 |none =>
  refine core (λb=>if b=a then some (.jo { cls:=.type "list",data:=.seq vs.toArray } (.lst (ns.map V.int)))else none) (λb=>?_) (.inl (.inr ⟨{ cls:=.type "list",data:=.seq vs.toArray },aa5 rfl⟩)) (λb u z=>?_) (λb z=>?_) λ_=>t
  ·by_cases f:b=a
   ·exact .inr ⟨_,_,aa5 f⟩
   ·exact .inl (acr f)
  ·by_cases f:b=a
   ·have i:=(aa5 f).symm.trans z;cases i;subst f;exact⟨l,by rw[zaa];exact hl,vs,_,rv,l⟩
   ·have i:=(acr f).symm.trans z;cases i
  ·by_cases f:b=a
   ·exact f
   ·exact absurd (acr f) z
end L2
namespace L2
open PySem PySem.Spec PyProof.Rows
def G_{l:PySem.W.OpenLaw}{n k:Nat}{q:aM}{loose:av}{L:(aZ)->Heap->Prop}{p:World->Heap->Prop}{d:DefRec}{K:Params->ao}{CX:World->Cf}{sp:World->Sp}{x:Str}
  (y:l.most=some n) (N:n<=sizeLine) (M:d.params.defaults=[]) (t:h_ k callerA)
  (B:∀(w:World) (h:Heap),p w h->(K w.params).In h)
  (F:∀(w:World) (mg:aZ) (fa:Addr) (h:Heap),(K w.params).In h->h.Ns mainGlobals mg->mg d.name=some (.ref fa) ->
   ∃i:FuncData,(∀(s:Shared) (u:Value),BindsTo s i ⟨[u],[]⟩ [(x,u)]) /\
    ∀base:Heap,(K w.params).In base->base.Ns mainGlobals mg->iM l.prog w (K w.params) mg base (CX w) k fa i [x] (sp w))
  (r:∀(w:World) (H:Hp) (a:Addr) (ns:ae),ns.length<=n->Kl H->dD (K w.params) H a (ns.map V.int)->sp w [.ref a] H (λv _=>v=.bl true) λ_ _ _=>False)
  (J:∀(w:World) (H:Hp) (s:Shared) (e:Value) (s':Shared),CX w [] H s (λ_ _ _=>False) e s'->False) :
  PySem.W.WalkO q loose L p l.row.toRowW d [] (λf j=>PySem.call f j):=by
 refine Att.wM y M λw m c mg mb fa o Q U I a j ns G Y R S P hmg O hints hlen z=>?_;have KX:=B w _ Y;obtain⟨i,A,E⟩:=F w mg fa _ KX G.T.g hmg;exact EF KX G.T.g G.T.b G.T.builtins G.T.nolimit z O hints (aaS hlen N) t E A (λH D C=>r w H a ns hlen D C) λH e s'=>J w H c e s'
end L2
namespace L2
open PySem PySem.Spec PyProof.Rows
noncomputable def eI(s:Stmt):Arguments:=match s with
 |.FunctionDef _ a _ _ _ _ _ _ _ _=>a
 |_=>{ posonlyargs:=[],args:=[],vararg:=none,kwonlyargs:=[],kw_defaults:=[],kwarg:=none,defaults:=[] }
noncomputable def bQ(s:Stmt):aW:=match s with
 |.FunctionDef _ _ b _ _ _ _ _ _ _=>b
 |_=>[]
noncomputable def aO(s:Stmt):Scope:=match s with
 |.FunctionDef _ _ _ _ _ _ a _ _ _=>a
 |_=>{ kind:=.function,names:=[],isGenerator:=false,isCoroutine:=false }
abbrev Cg:Cf:=λ_ _ _ _ _ _=>False
abbrev E0:XK:=λ_ _ _=>False
def RN{X:Cx}:Passes Cg X E0:=λ_ _ _ _ _ _ _ h=>h.elim
structure GD(K:ao)(x qual:Str)(st:Stmt)(f:Addr)(fd:FuncData):Prop where
 ex:∃(oc:Value) (od:Option Addr) (kV doc pm:Value) (an:Option Addr) (gf ct:Value) (Ea:Array (Option Value)),
  fd=PySem.W.fnOf x qual (eI st) (bQ st) (aO st) .none kV doc pm an gf ct/\K.lookup f=some ⟨oc,od,.func fd,Ea⟩/\PySem.W.codeIn K gf qual=true
 kp:PySem.W.keepIn K (.ref f)=true
variable {f:Addr}{ps:av}{qual:Str}{st:Stmt}
section
variable {P:aM}{w:World}{K:ao}{mg:aZ}{base:Heap}
def GD.ok{x:Str}{b:FuncData}{N:av}{k:Nat}{sp:Sp}(F:GD K x qual st f b)(S:gX N ps (aO st))(len:∀vs H Q E,sp vs H Q E->vs.length=ps.length)
  (e:∀(a:Value) (A:aN) (outer:List Env) (s:Shared) (H:Hp) (vs:ag) (Q:VK) (E:XK),h_ k (A.deeper (envOfC qual (aO st) s.heap.objs.size f a))->sp vs H Q E ->
   ∃t,jd (jO Cg P w K mg base N qual (aO st) f a A outer s H E).zC (bQ st) t/\t { nx:=λ_ l=>Q .bz l,rt:=Q } (start N vs) H):iM P w K mg base Cg (k+1) f b ps sp:=by
 obtain⟨o,n,p,j,m,u,a,r,v,rfl,g,c⟩:=F.ex;refine Ll g c S len λA outer s H vs Q E i d=>?_;obtain⟨t,h,q⟩:=e a A outer s H vs Q E i d;exact⟨t,h.zC,q⟩
def GD.binds{x:Str}{i:FuncData}(F:GD K x qual st f i)
  (h:∀(d a c:Value) (g:Option Addr) (e ct:Value) (b:az),b.length=ps.length->bindArgs (PySem.W.fnOf x qual (eI st) (bQ st) (aO st) .none d a c g e ct) ⟨b,[]⟩=pure (ps.zip b)):Binds K i ps []:=by
 obtain⟨l,k,d,a,c,g,e,ct,n,rfl,m,j⟩:=F.ex;exact .all (h d a c g e ct)
def Od{x:Str}{i:Value}{h g:Option Addr}{j:Array (Option Value)}{e a d b ct:Value}(l:K.lookup f=some ⟨i,h,.func (PySem.W.fnOf x qual (eI st) (bQ st) (aO st) .none e a d g b ct),j⟩)
  (c:PySem.W.codeIn K b qual=true) (k:PySem.W.keepIn K (.ref f)=true):GD K x qual st f (PySem.W.fnOf x qual (eI st) (bQ st) (aO st) .none e a d g b ct):=⟨⟨i,h,e,a,d,g,b,ct,j,rfl,l,c⟩,k⟩
end
def EU{A:aN}{k:Nat}(a:h_ k A):A.units+1<cLine:=aaw (Nat.add_le_add_left (by decide:1<=64) _) a.units
def EK{A B:Prop}(h:B):if false=true then A else B:=by
 rw[zab zaj];exact h
def Nv{A B:Prop}(h:A):if true=true then A else B:=by
 rw[zac rfl];exact h
def aL(H H':Hp):Prop:=∀b o,H b=some o->H' b=some o
def aL.refl(H:Hp):aL H H:=λ_ _ h=>h
variable {H H':Hp}
def aL.trans{H1 H2:Hp}(a:aL H H1)(b:aL H1 H2):aL H H2:=λc o h=>b c o (a c o h)
def aL.free(e:aL H H'){l:Addr}(h:H' l=Option.none):H l=Option.none:=by
 cases q:H l with
 |none=>rfl
 |some o =>
  rw[e l o q]at h;cases h
def aL.seq{K:ao}{a:Addr}{xs:ag}(e:aL H H')(h:dD K H a xs):dD K H' a xs:=by
 rcases h with (h|⟨o,h⟩)|h
 ·exact .inl (.inl (e _ _ h))
 ·exact .inl (.inr ⟨o,e _ _ h⟩)
 ·exact .inr h
end L2
set_option autoImplicit false
set_option linter.all false
set_option Elab.async false
set_option maxRecDepth 100000
set_option maxHeartbeats 4000000
section
namespace DI
open PySem (Str Expr Stmt Scope NameKind)
inductive Fl where|ow|fz|al|sc
 deriving DecidableEq
inductive D where
 |bz|bl (b:Bool)|int (i:Int)|str (s:Str)
 |tup (ds:List D)
 |lst (f:Fl) (ds:List D)
 |de (f:Fl) (ks:aK) (vs:List D)
abbrev aX:=Option D
abbrev aa:=List D
mutual
noncomputable def aB(g:Fl->Fl):D->D
 |.tup a=>.tup (au g a)
 |.lst f a=>.lst (g f) (au g a)
 |.de f e c=>.de (g f) e (au g c)
 |.bz=>.bz
 |.bl b=>.bl b
 |.int i=>.int i
 |.str s=>.str s
noncomputable def au(g:Fl->Fl):aa->aa
 |[]=>[]
 |d::a=>aB g d::au g a
end
theorem aE(g:Fl->Fl):∀a:aa,au g a=a.map (aB g)
 |[]=>rfl
 |d::a=>by rw[au,aE g a];rfl
noncomputable def ba:Fl->Fl|.ow=>.al|f=>f
noncomputable def fN:Fl->Fl|.fz=>.al|f=>f
noncomputable def aD:Fl->Fl|.sc=>.sc|_=>.fz
noncomputable def qB:Fl->Bool|.sc=>true|_=>false
mutual
noncomputable def bh(p:Fl->Bool):D->Bool
 |.tup a=>aV p a
 |.lst f a=>p f||aV p a
 |.de f c b=>p f||aV p b
 |_=>false
noncomputable def aV(p:Fl->Bool):aa->Bool
 |[]=>false
 |d::a=>bh p d||aV p a
end
noncomputable def bR:Fl->Bool|.al=>true|_=>false
noncomputable def cQ:Fl->Bool|.ow=>true|_=>false
noncomputable def anyF:Fl->Bool:=λ_=>true
mutual
noncomputable def nj:D->D->Bool
 |.bz,.bz=>true
 |.bl a,.bl b=>a==b
 |.bl a,.int b=>(if a then 1 else 0)==b
 |.int a,.bl b=>a==(if b then 1 else 0)
 |.int a,.int b=>a==b
 |.str a,.str b=>a==b
 |.tup a,.tup b=>gQ a b
 |.lst _ a,.lst _ b=>gQ a b
 |_,_=>false
noncomputable def gQ:aa->aa->Bool
 |[],[]=>true
 |a::as,b::bs=>nj a b&&gQ as bs
 |_,_=>false
end
noncomputable def iV:Nat->D->Bool
 |_,.bz=>true
 |_,.bl _=>true
 |_,.int _=>true
 |_,.str _=>true
 |n+1,.tup ds=>ds.all (iV n)
 |n+1,.lst _ ds=>ds.all (iV n)
 |_,_=>false
abbrev O(a:Type):=Option (Except Nat a)
abbrev aj:=aa->O D
noncomputable def ok{b:Type}(a:b):O b:=some (.ok a)
noncomputable def bd{d b:Type}(x:O d)(f:d->O b):O b:=match x with
 |some (.ok a)=>f a
 |some (.error c)=>some (.error c)
 |none=>none
@[simp]theorem Vr{b:Type}{a:b}:((none:O b)=ok a)=False:=by simp[ok]
@[simp]theorem Xb{c:Type}{a b:c}:(ok a=ok b)=(a=b):=by simp[ok]
@[simp]theorem Zc{b:Type}{a:b}{c:Nat}:((some (.error c):O b)=ok a)=False:=by simp[ok]
@[simp]theorem K_{c:Type}{p:Prop}[Decidable p]{a b:c}:((if p then ok a else none)=ok b)=(p/\a=b):=by
 by_cases h:p<;>simp[h]
@[simp]theorem XR{c:Type}{p:Prop}[Decidable p]{a b:c}:((if p then none else ok a)=ok b)=(¬ p/\a=b):=by
 by_cases h:p<;>simp[h]
def Ar{b c:Type}(a:b)(f:b->O c):bd (ok a) f=f a:=rfl
def nk{b:Type}{a:b}{P:Prop}(h:(none:Option b)=some a):P:=nomatch h
inductive Bd{α β:Type}(x:O α)(f:α->O β)(b:β):Prop where|mk (a:α) (h1:x=ok a) (h2:f a=ok b)
def aH{e d:Type}{x:O e}{f:e->O d}{b:d}(h:bd x f=ok b):Bd x f b:=by
 unfold bd at h
 match x,h with
 |some (.ok a),h=>exact⟨a,rfl,h⟩
 |some (.error c),h=>cases h
 |none,h=>cases h
inductive AL where|add|sub|mul|fdiv|mod|pow|shr|band
 deriving DecidableEq
inductive Cv where|eq|ne|lt|le|gt|ge|Co
 deriving DecidableEq
inductive Ty where|int|bool|str|list|tuple
 deriving DecidableEq
inductive Bf where|len|abs|tE|list1|tuple1|gu|all1|iS
 deriving DecidableEq
inductive Tg where|nm(i:Nat)|tp(is:aJ)
 deriving DecidableEq
inductive IK where|ku|seq|cI(p:Nat)
 deriving DecidableEq
inductive GK where|i(z:Int)|t(zs:ae)
 deriving DecidableEq
inductive CE where
 |bz|bl (b:Bool)|int (i:Int)|str (s:Str)|glo (x:Str) (i:Int)|glt (x:Str) (zs:ae)
 |v (i:Nat)
 |bin (op:AL) (a b:CE)
 |neg (a:CE)|not (a:CE)|and (es:List CE)|or (es:List CE)|ite (c a b:CE)
 |cmp (op:Cv) (a b:CE)
 |ra (a:CE) (t:Ty)
 |call (f:Nat) (es:List CE)
 |bf (f:Bf) (es:List CE)
 |ix (a b:CE)
 |mj (a:CE)
 |tup (es:List CE)|lst (es:List CE)
 |cI (p:Nat) (es:List CE)
 |comp (n:Nat) (t:Tg) (caps:aJ) (ik:IK) (es bJ:List CE) (elt:CE)
abbrev aA:=List CE
inductive CI where|ku(a:CE)|seq(a:CE)|GL(p:Nat)(es:aA)
inductive CS where
 |asg (t:Tg) (e:CE)|par (i j:Nat) (a b:CE)|ret (e:CE)|rs (c:Nat)|ex (e:CE)
 |mut (p i:Nat) (es:aA)|unp (is:aJ) (e:CE)|app (i:Nat) (e:CE)
 |ifs (c:CE) (a b:List CS)
 |Ko (c:CE) (b:List CS)
 |fr (t:Tg) (it:CI) (b:List CS)
abbrev af:=List CS
abbrev a_:=List (aX)
abbrev aU:=Nat->aj
noncomputable def big:Nat:=2 ^ 9000
def jm(i j:Int):Bool:=decide (i.natAbs<2 ^ 64)||decide (j.natAbs<2 ^ 64)||(decide (i.natAbs<big)&&decide (j.natAbs<big))
def Ak(j:Int):Bool:=decide (j≠0)&&decide (j.natAbs<big)
noncomputable def KQ(i j:Int):Bool:=decide (0<=j)&&decide (j<=1000000)&&decide (i.natAbs<2 ^ 64)
noncomputable def eB:Nat:=1000000
def uE{b:Type}{c:Prop}[inst:Decidable c]{v d:b}(h:(if c then ok v else none)=ok d):c/\v=d:=by
 cases inst with
 |isTrue a=>exact⟨a,Except.ok.inj (aat h)⟩
 |isFalse a=>cases h
def Xd:AL->Int->Int->Bool
 |.mul,i,j=>jm i j
 |.fdiv,_,j=>Ak j
 |.mod,_,j=>decide (j≠0)
 |.pow,i,j=>KQ i j
 |.shr,_,j=>decide (0<=j)
 |.band,_,j=>decide (j=1)
 |_,_,_=>true
noncomputable def resB:AL->Int->Int->Int
 |.add,i,j=>i+j
 |.sub,i,j=>i - j
 |.mul,i,j=>i*j
 |.fdiv,i,j=>i.fdiv j
 |.mod,i,j=>i.fmod j
 |.pow,i,j=>i ^ j.toNat
 |.shr,i,j=>i / 2 ^ j.toNat
 |.band,i,_=>i % 2
def J8:AL->D->D->O D
 |.add,.lst f a,.lst g b=>if qB f=false/\qB g=false/\a.length+b.length<=eB then ok (.lst .ow (au ba (a++b)))else none
 |.add,.tup a,.tup b=>if a.length+b.length<=eB then ok (.tup (au ba (a++b)))else none
 |.mul,.lst f a,.int k=>if qB f=false/\a.length*k.toNat<=eB/\k<=eB /\ -eB<=k then ok (.lst .ow (au ba (List.replicate k.toNat a).flatten))else none
 |_,_,_=>none
def dB(op:AL)(x y:D):O D:=match x with
 |.int i=>match y with
  |.int j=>if Xd op i j=true then ok (.int (resB op i j))else none
  |_=>J8 op x y
 |_=>J8 op x y
def inD(x:D):aa->Bool
 |[]=>false
 |y::ys=>nj y x||inD x ys
noncomputable def ej:D->Bool
 |.bz=>true|.bl _=>true|.int _=>true|.str _=>true|_=>false
noncomputable def yn:D->Option (aa)
 |.tup a=>some a
 |.lst _ a=>some a
 |_=>none
def ZF(n:Bool)(a b:D):O D:=if iV 40 a&&iV 40 b then ok (.bl (bif n then !nj a b else nj a b))else none
noncomputable def Qi(f:Int->Int->Bool)(a b:D):O D:=match a with
 |.int i=>match b with
  |.int j=>ok (.bl (f i j))
  |_=>none
 |_=>none
noncomputable def Ek:D->Bool
 |.bz=>true
 |_=>false
def nnD(n:Bool)(a b:D):O D:=match b with
 |.bz=>ok (.bl (bif n then !Ek a else Ek a))
 |_=>none
def Vu(n:Bool)(a b:D):O D:=match yn b with
 |some c=>if ej a&&c.all ej then ok (.bl (bif n then !inD a c else inD a c))else none
 |none=>none
def gd:Cv->D->D->O D
 |.eq,a,b=>ZF false a b
 |.ne,a,b=>ZF true a b
 |.lt,a,b=>Qi (λi j=>decide (i<j)) a b
 |.le,a,b=>Qi (λi j=>decide (i<=j)) a b
 |.gt,a,b=>Qi (λi j=>decide (j<i)) a b
 |.ge,a,b=>Qi (λi j=>decide (j<=i)) a b
 |.Co,a,b=>Vu false a b
noncomputable def cM:Ty->D->Bool
 |.int,.int _=>true|.int,.bl _=>true
 |.bool,.bl _=>true
 |.str,.str _=>true
 |.list,.lst _ _=>true
 |.tuple,.tup _=>true
 |_,_=>false
noncomputable def EJ(n:Nat)(i:Int):Option Nat:=if 0<=i then(if i<n then some i.toNat else none)else if -(n:Int)<=i then some (i+n).toNat else none
def uF(ds:aa)(i:Int):O D:=match(EJ ds.length i).bind λj=>ds[j]? with
 |some d=>ok (aB ba d)
 |none=>none
def nK:D->D->O D
 |.tup ds,.int i=>uF ds i
 |.lst _ ds,.int i=>uF ds i
 |_,_=>none
noncomputable def intsOf:aa->Option (ae)
 |[]=>some []
 |.int i::ds=>(intsOf ds).map (i :: ·)
 |_::_=>none
noncomputable def jP:aa->Option (List Bool)
 |[]=>some []
 |.bl i::ds=>(jP ds).map (i :: ·)
 |_::_=>none
theorem eQ:∀{ds:aa} {ns:ae},intsOf ds=some ns->ds=ns.map D.int
 |[],ns,h=>by simp[intsOf]at h;subst h;rfl
 |d::ds,ns,h=>by
  cases d<;>simp[intsOf]at h;obtain⟨b,a,rfl⟩:=h;rw[eQ a];rfl
theorem wJ:∀{ds:aa} {bs:List Bool},jP ds=some bs->ds=bs.map D.bl
 |[],bs,h=>by simp[jP]at h;subst h;rfl
 |d::ds,bs,h=>by
  cases d<;>simp[jP]at h;obtain⟨b,a,rfl⟩:=h;rw[wJ a];rfl
theorem bI:∀a:ae,intsOf (a.map D.int)=some a
 |[]=>rfl
 |n::a=>by simp[intsOf,bI a]
theorem mx:∀bs:List Bool,jP (bs.map D.bl)=some bs
 |[]=>rfl
 |b::bs=>by simp[jP,mx bs]
noncomputable def sortI(ns:ae):ae:=ns.mergeSort (λa b=>decide (a<=b))
def u0(ds:aa):O D:=match intsOf ds with
 |some a=>if a.length<64 then ok (.lst .ow ((sortI a).map D.int))else none
 |none=>none
def qk:Bf->aj
 |.len,xs=>match xs with
  |[.tup ds]=>ok (.int ds.length)
  |[.lst _ ds]=>ok (.int ds.length)
  |_=>none
 |.abs,xs=>match xs with
  |[.int i]=>ok (.int (if i<0 then -i else i))
  |_=>none
 |.tE,xs=>match xs with
  |[.bl b]=>ok (.int (if b then 1 else 0))
  |_=>none
 |.list1,xs=>match xs with
  |[.lst _ ds]=>ok (.lst .ow (au ba ds))
  |[.tup ds]=>ok (.lst .ow (au ba ds))
  |_=>none
 |.tuple1,xs=>match xs with
  |[.lst _ ds]=>ok (.tup (au ba ds))
  |_=>none
 |.gu,xs=>match xs with
  |[.lst _ ds]=>(match intsOf ds with
   |some a=>ok (.int a.sum)
   |none=>none)
  |_=>none
 |.all1,xs=>match xs with
  |[.lst _ ds]=>(match jP ds with
   |some bs=>ok (.bl (bs.all id))
   |none=>none)
  |_=>none
 |.iS,xs=>match xs with
  |[.tup ds]=>u0 ds
  |_=>none
noncomputable def wu(ns:ae):ae:=ns.foldl (λ(m:ae) (k:Int)=>if m.any (· == k)then m else m++[k]) []
def zH:D->O D
 |.tup b=>(match intsOf b with
  |some a=>if a.length<4000 then ok (.int (wu a).length)else none
  |none=>none)
 |_=>none
noncomputable def iR:D->O Bool
 |.bl b=>ok b
 |_=>none
noncomputable def D9:Option (aX)->Option (aa)
 |some (some (.lst .ow ds))=>some ds
 |_=>none
def Ii{o:Option (aX)}{ds:aa}(h:D9 o=some ds):o=some (some (.lst .ow ds)):=by
 unfold D9 at h;split at h<;>cases h;rfl
noncomputable def Iz:D->O D
 |.int i=>ok (.int (-i))
 |_=>none
noncomputable def fW:aJ->aa->a_->O a_
 |[],[],ρ=>ok ρ
 |i::is,d::ds,ρ=>if i<ρ.length then fW is ds (ρ.set i (some d))else none
 |_,_,_=>none
def cH:Tg->D->a_->O a_
 |.nm i,d,ρ=>if i<ρ.length then ok (ρ.set i (some d))else none
 |.tp is,.tup ds,ρ=>if aV cQ ds then none else fW is ds ρ
 |_,_,_=>none
def kI:D->O (aa)
 |.lst _ a=>ok (au aD a)
 |_=>none
def dR(Φ:aU):IK->aa->O (aa)
 |.cI p,xs=>bd (Φ p xs) kI
 |.ku,[.int n]=>if n<=eB /\ -eB<=n then ok ((List.range n.toNat).map λ(k:Nat)=>D.int (k:Int))else none
 |.seq,[.tup ds]=>ok (au aD ds)
 |.seq,[.lst _ ds]=>ok (au aD ds)
 |_,_=>none
noncomputable def jt(bind:D->O a_)(test:a_->O Bool)(el:a_->O D):aa->O (aa)
 |[]=>ok []
 |x::xs=>bd (bind x) λa=>bd (test a) λb=>if b then bd (el a) λy=>bd (jt bind test el xs) λc=>ok (y::c)else jt bind test el xs
def bx(n:Nat)(caps:aJ)(ρ:a_):a_:=List.replicate n none++caps.map λi=>(ρ[i]?.getD none).map (aB aD)
def zj(o:Option (aX)):O D:=match o with
 |some (some d)=>ok (aB ba d)
 |_=>none
def Dl{o:Option (aX)}{d:D}(h:zj o=ok d):∃a,o=some (some a)/\d=aB ba a:=by
 cases o with
 |none=>cases h
 |some z=>cases z with
  |none=>cases h
  |some z=>cases h;exact⟨z,rfl,rfl⟩
mutual
noncomputable def bp(Φ:aU):CE->a_->O D
 |.bz,_=>ok .bz
 |.bl b,_=>ok (.bl b)
 |.int i,_=>ok (.int i)
 |.str s,_=>ok (.str s)
 |.glo _ i,_=>ok (.int i)
 |.glt _ zs,_=>ok (.tup (zs.map D.int))
 |.v i,ρ=>zj ρ[i]?
 |.bin op a b,ρ=>bd (bp Φ a ρ) λx=>bd (bp Φ b ρ) λy=>dB op x y
 |.neg a,ρ=>bd (bp Φ a ρ) Iz
 |.not a,ρ=>bd (bd (bp Φ a ρ) iR) λb=>ok (.bl (!b))
 |.and es,ρ=>rB Φ es ρ
 |.or es,ρ=>B1 Φ es ρ
 |.ite c a b,ρ=>bd (bd (bp Φ c ρ) iR) λk=>if k then bp Φ a ρ else bp Φ b ρ
 |.cmp op a b,ρ=>bd (bp Φ a ρ) λx=>bd (bp Φ b ρ) λy=>gd op x y
 |.ra a t,ρ=>bd (bp Φ a ρ) λx=>ok (.bl (cM t x))
 |.call f es,ρ=>bd (bL Φ es ρ) λg=>bd (Φ f (au aD g)) λr=>ok (aB fN r)
 |.bf f es,ρ=>bd (bL Φ es ρ) λg=>qk f g
 |.ix a b,ρ=>bd (bp Φ a ρ) λx=>bd (bp Φ b ρ) λy=>nK x y
 |.mj a,ρ=>bd (bp Φ a ρ) λx=>zH x
 |.cI p es,ρ=>bd (bL Φ es ρ) λg=>Φ p g
 |.tup es,ρ=>bd (bL Φ es ρ) λg=>ok (.tup g)
 |.lst es,ρ=>bd (bL Φ es ρ) λg=>ok (.lst .ow g)
 |.comp n t caps ik es bJ elt,ρ=>bd (bL Φ es ρ) λg=>bd (dR Φ ik g) λitems =>
   bd (jt (λd=>cH t d (bx n caps ρ)) (λh=>jr Φ bJ h) (λh=>bp Φ elt h) items) λj=>if j.length<=eB then ok (.lst .ow (au fN j))else none
noncomputable def bL(Φ:aU):aA->a_->O (aa)
 |[],_=>ok []
 |e::es,ρ=>bd (bp Φ e ρ) λx=>bd (bL Φ es ρ) λg=>ok (x::g)
noncomputable def jr(Φ:aU):aA->a_->O Bool
 |[],_=>ok true
 |e::es,ρ=>bd (bd (bp Φ e ρ) iR) λb=>if b then jr Φ es ρ else ok false
noncomputable def rB(Φ:aU):aA->a_->O D
 |[],_=>none
 |e::es,ρ=>bd (bd (bp Φ e ρ) iR) λc=>match es with
  |[]=>ok (.bl c)
  |_::_=>if c then rB Φ es ρ else ok (.bl false)
noncomputable def B1(Φ:aU):aA->a_->O D
 |[],_=>none
 |e::es,ρ=>bd (bd (bp Φ e ρ) iR) λc=>match es with
  |[]=>ok (.bl c)
  |_::_=>if c then ok (.bl true)else B1 Φ es ρ
end
def lr(Φ:aU)(e:CE)(ρ:a_):O Bool:=bd (bp Φ e ρ) iR
inductive Fo where|nx|rt(d:D)
noncomputable def dA{c d:Type}(n:Nat)(step:c->O (c ⊕ d))(a:c):O d:=match n with
 |0=>none
 |n+1=>bd (step a) λr=>match r with
  |.inl e=>dA n step e
  |.inr b=>ok b
open Classical in
noncomputable def gp{b c:Type}(step:b->O (b ⊕ c))(a:b):O c :=
 if h:∃n,dA n step a≠none then dA (Classical.choose h) step a else none
theorem jI{d f:Type}(step:d->O (d ⊕ f)):∀(n m:Nat) (a:d),n<=m->dA n step a≠none->dA m step a=dA n step a
 |0,_,_,_,h=>absurd rfl h
 |n+1,0,_,hl,_=>by left
 |n+1,m+1,a,hl,h=>by
  unfold dA at h ⊢
  match e:step a with
  |none=>rw[e]at h;exact absurd rfl h
  |some (.error c)=>rfl
  |some (.ok (.inr b))=>rfl
  |some (.ok (.inl a')) =>
   rw[e]at h;exact jI step n m a' (by left) h
def l7{b d:Type}{step:b->O (b ⊕ d)}{a:b}{n:Nat}{r:Except Nat d}(h:dA n step a=some r):gp step a=some r:=by
 have c:∃n,dA n step a≠none:=⟨n,by rw[h];simp⟩
 unfold gp;rw[dif_pos c];have e:=Classical.choose_spec c;rcases Nat.le_total n (Classical.choose c)with hl|hl
 ·rw[jI step _ _ a hl (by rw[h];simp),h]
 ·rw[<- jI step _ _ a hl e,h]
def mi{b c:Type}{step:b->O (b ⊕ c)}{a:b}{r:Except Nat c}(h:gp step a=some r):∃n,dA n step a=some r:=by
 unfold gp at h;split at h
 ·exact⟨_,h⟩
 ·cases h
def oj{c f:Type}{step:c->O (c ⊕ f)}{a e:c}(h:step a=ok (.inl e)):gp step a=gp step e:=by
 match d:gp step e with
 |some r =>
  obtain⟨n,b⟩:=mi d;refine l7 (n:=n+1) ?_;unfold dA;rw[h];exact b
 |none =>
  match g:gp step a with
  |none=>rfl
  |some r =>
   obtain⟨n,b⟩:=mi g
   match n,b with
   |n+1,b =>
    unfold dA at b;rw[h]at b;rw[l7 (n:=n) b]at d;cases d
def iP{c d:Type}{step:c->O (c ⊕ d)}{a:c}{b:d}(h:step a=ok (.inr b)):gp step a=ok b :=
 l7 (n:=1) (by unfold dA;rw[h];rfl)
mutual
noncomputable def gE:CE->aJ
 |.v i=>[i]
 |.bin _ a b=>gE a++gE b
 |.neg a=>gE a
 |.not a=>gE a
 |.and d=>dJ d
 |.or d=>dJ d
 |.ite c a b=>gE c++(gE a++gE b)
 |.cmp _ a b=>gE a++gE b
 |.ra a _=>gE a
 |.call _ d=>dJ d
 |.bf _ d=>dJ d
 |.ix a b=>gE a++gE b
 |.mj a=>gE a
 |.tup d=>dJ d
 |.lst d=>dJ d
 |.cI _ d=>dJ d
 |.comp _ _ f _ d _ _=>f++dJ d
 |_=>[]
noncomputable def dJ:aA->aJ
 |[]=>[]
 |e::d=>gE e++dJ d
end
def jo(is:aJ)(ρ:a_):a_:=ρ.mapIdx λi d=>if i∈is then d.map (aB aD)else d
def keep(e:CE)(d:D)(ρ:a_):D×a_:=if bh bR d then(aB aD d,jo (gE e) ρ)else(d,ρ)
def jL(Φ:aU)(e:CE)(ρ:a_):O (D×a_):=match e with
 |.v i=>match ρ[i]? with
  |some (some d)=>if bh cQ d then ok (d,ρ.set i none)else ok (d,ρ)
  |_=>none
 |_=>bd (bp Φ e ρ) λd=>ok (keep e d ρ)
def eP(Φ:aU)(it:CI)(ρ:a_):O (aa×a_):=match it with
 |.GL p e=>bd (bL Φ e ρ) λc=>bd (Φ p c) λd=>bd (kI d) λitems=>ok (items,if aV bR c then jo (dJ e) ρ else ρ)
 |.ku a=>bd (bp Φ a ρ) λx=>match x with
  |.int n=>if n<=eB /\ -eB<=n then ok ((List.range n.toNat).map λ(k:Nat)=>D.int (k:Int),ρ)else none
  |_=>none
 |.seq a=>bd (bp Φ a ρ) λx=>match x with
  |.tup b=>ok (au aD b,if bh bR x then jo (gE a) ρ else ρ)
  |.lst f b=>ok (au aD b,if bh bR x then jo (gE a) ρ else ρ)
  |_=>none
def o3(es:aA)(xs:aa)(ρ:a_):aa×a_:=if aV bR xs then(au aD xs,jo (dJ es) ρ)else(xs,ρ)
noncomputable def yb(Φ:aU)(p i:Nat)(r:aa×a_):O (Fo×a_):=match r.2[i]? with
 |some (some d)=>bd (Φ p (d::r.1)) λa=>ok (.nx,r.2.set i (some a))
 |_=>none
def Ma(is:aJ)(d:D)(ρ:a_):O a_:=match d with
 |.tup a=>fW is a ρ
 |_=>none
noncomputable def eW(bind:D->a_->O a_)(body:a_->O (Fo×a_)):aa->a_->O (Fo×a_)
 |[],ρ=>ok (.nx,ρ)
 |d::ds,ρ=>bd (bind d ρ) λa=>bd (body a) λr=>match r with
  | (.nx,ρ2)=>eW bind body ds ρ2
  | (.rt d,ρ2)=>ok (.rt d,ρ2)
mutual
noncomputable def i0(Φ:aU):CS->a_->O (Fo×a_)
 |.asg t e,f=>bd (jL Φ e f) λr=>bd (cH t r.1 r.2) λg=>ok (.nx,g)
 |.par i j a b,f=>bd (bp Φ a f) λx=>bd (bp Φ b f) λy=>if bh anyF x=false/\bh anyF y=false/\i<f.length/\j<f.length then ok (.nx,(f.set i (some x)).set j (some y))else none
 |.ret e,f=>bd (jL Φ e f) λr=>ok (.rt r.1,r.2)
 |.rs c,_=>some (.error c)
 |.ex e,f=>bd (bp Φ e f) λ_=>ok (.nx,f)
 |.mut p i es,f=>bd (bL Φ es f) λl=>yb Φ p i (o3 es l f)
 |.unp is e,f=>bd (jL Φ e f) λr=>bd (Ma is r.1 r.2) λg=>ok (.nx,g)
 |.app i e,f=>bd (jL Φ e f) λr=>match D9 r.2[i]? with
  |some h=>if h.length<eB then ok (.nx,r.2.set i (some (.lst .ow (h++[r.1]))))else none
  |none=>none
 |.ifs c a b,f=>bd (lr Φ c f) λk=>if k then bN Φ a f else bN Φ b f
 |.Ko c b,f=>gp (λf=>bd (lr Φ c f) λk=>if k then bd (bN Φ b f) λr=>match r with
   | (.nx,g)=>ok (.inl g)
   | (.rt d,g)=>ok (.inr (.rt d,g))
  else ok (.inr (.nx,f))) f
 |.fr t it b,f=>bd (eP Φ it f) λr=>eW (λd f=>cH t d f) (λf=>bN Φ b f) r.1 r.2
noncomputable def bN(Φ:aU):af->a_->O (Fo×a_)
 |[],f=>ok (.nx,f)
 |s::ss,f=>bd (i0 Φ s f) λr=>match r with
  | (.nx,g)=>bN Φ ss g
  |r=>ok r
end
noncomputable def sD(Φ:aU)(n:Nat)(b:af)(ds:aa):O D:=bd (bN Φ b (ds.map some++List.replicate (n - ds.length) none)) λr=>match r.1 with
 |.nx=>ok .bz
 |.rt d=>ok d
noncomputable def rX:aj
 |[.lst _ a,.lst _ b]=>ok (.lst .ow (List.zipWith (λx y=>.tup [x,y]) a b))
 |_=>none
theorem for_nil(bind:D->a_->O a_)(body:a_->O (Fo×a_))(ρ:a_):eW bind body [] ρ=ok (.nx,ρ):=rfl
end DI
end
section
namespace DI
open PySem PySem.Spec PyProof.Rows L2
abbrev bt:=aJ
abbrev St:=L2.St
abbrev nq:=Addr->ag->Prop
inductive Nd where|l(xs:ag)|d(cs:aK)(as:bo)(xs:ag)(ep:Nat)
abbrev kA:=bt->Addr->Nd->Fl->Prop
structure fL(T:nq)(as:bo)(cs:aK):Prop where
 len:as.length=cs.length
 tup:∀(j:Nat) (a:Addr) (c:ae),as[j]?=some a->cs[j]?=some c->T a (c.map V.int)
variable {T T':nq}{as ch fp:bo}
def fL.imp{cs:aK}(h:fL T as cs)(d:∀p b,T p b->T' p b):fL T' as cs:=⟨h.len,λj a c f e=>d _ _ (h.tup j a c f e)⟩
mutual
inductive Rep(T:nq)(N:kA):bt->V->D->Prop where
 |bz {q:bt}:Rep T N q .bz .bz
 |bl {q:bt} (b:Bool):Rep T N q (.bl b) (.bl b)
 |int {q:bt} (i:Int):Rep T N q (.int i) (.int i)
 |str {q:bt} (s:Str):Rep T N q (.str s) (.str s)
 |tup {q:bt} {p:Addr} {xs:ag} {ds:aa} (h:T p xs) (r:aI T N q 0 xs ds):Rep T N q (.ref p) (.tup ds)
 |lst {q:bt} {p:Addr} {xs:ag} {f:Fl} {ds:aa} (h:N q p (.l xs) f) (r:aI T N q 0 xs ds):Rep T N q (.ref p) (.lst f ds)
 |de {q:bt} {p:Addr} {cs:aK} {as:bo} {xs:ag} {ep:Nat} {f:Fl} {ds:aa} (h:N q p (.d cs as xs ep) f) (k:fL T as cs) (r:aI T N q 0 xs ds):Rep T N q (.ref p) (.de f cs ds)
inductive aI(T:nq)(N:kA):bt->Nat->ag->aa->Prop where
 |nil {q:bt} {n:Nat}:aI T N q n [] []
 |cons {q:bt} {n:Nat} {v:V} {d:D} {vs:ag} {ds:aa} (h:Rep T N (n::q) v d) (t:aI T N q (n+1) vs ds):aI T N q n (v::vs) (d::ds)
end
variable {N N':kA}{ds ds' items:aa}
def Rep.AO{q:bt}{v:V}(h:Rep T N q v (.tup ds)):∃p c,v=.ref p/\T p c/\aI T N q 0 c ds:=by
 cases h with
 |tup a b=>exact⟨_,_,rfl,a,b⟩
variable {f:Fl}
def Rep.mU{q:bt}{v:V}(h:Rep T N q v (.lst f ds)):∃p c,v=.ref p/\N q p (.l c) f/\aI T N q 0 c ds:=by
 cases h with
 |lst a b=>exact⟨_,_,rfl,a,b⟩
mutual
theorem tI:∀d:D,bh (λ_=>false) d=false
 |.bz=>rfl
 |.bl _=>rfl
 |.int _=>rfl
 |.str _=>rfl
 |.tup ds=>iB ds
 |.lst _ ds=>iB ds
 |.de _ _ ds=>iB ds
theorem iB:∀ds:aa,aV (λ_=>false) ds=false
 |[]=>rfl
 |d::ds=>by show(bh _ d||aV _ ds)=false;rw[tI d,iB ds];rfl
end
def KV{a b:Bool}(h:(a||b)=false):a=false/\b=false:=by cases a<;>cases b<;>first|exact⟨rfl,rfl⟩|cases h
variable {k' q':bt}{vs xs xs':ag}
section
variable {T T':nq}{N N':kA}{g:Fl->Fl}{P:Fl->Bool}{C:bt->bt->Prop}{I:Nat->Nat->Prop}
mutual
theorem Rep.gen(j:∀p xs,T p xs->T' p xs)(a:I 0 0)(m:∀n n',I n n'->I (n+1) (n'+1))(o:∀k k' n n',C k k'->I n n'->C (n::k) (n'::k'))(l:∀k k' p xs f,C k k'->P f=false->N k p xs f->N' k' p xs (g f)):
  ∀{k:bt} {v:V} {d:D},Rep T N k v d->∀{k':bt},C k k'->bh P d=false->Rep T' N' k' v (aB g d)
 |_,_,_,.bz,_,_,_=>.bz
 |_,_,_,.bl b,_,_,_=>.bl b
 |_,_,_,.int i,_,_,_=>.int i
 |_,_,_,.str s,_,_,_=>.str s
 |_,_,_,.tup h r,_,c,e=>.tup (j _ _ h) (aI.gen j a m o l r c a e)
 |_,_,_,.lst h r,_,c,e=>.lst (l _ _ _ _ _ c (KV e).1 h) (aI.gen j a m o l r c a (KV e).2)
 |_,_,_,.de h k r,_,c,e=>.de (l _ _ _ _ _ c (KV e).1 h) (k.imp j) (aI.gen j a m o l r c a (KV e).2)
theorem aI.gen(j:∀p xs,T p xs->T' p xs)(a:I 0 0)(m:∀n n',I n n'->I (n+1) (n'+1))(o:∀k k' n n',C k k'->I n n'->C (n::k) (n'::k'))(l:∀k k' p xs f,C k k'->P f=false->N k p xs f->N' k' p xs (g f)):
  ∀{k:bt} {n:Nat} {vs:ag} {ds:aa},aI T N k n vs ds->∀{k':bt} {n':Nat},C k k'->I n n'->aV P ds=false->aI T' N' k' n' vs (au g ds)
 |_,_,_,_,.nil,_,_,_,_,_=>.nil
 |_,_,_,_,.cons h t,_,_,c,i,e=>.cons (Rep.gen j a m o l h (o _ _ _ _ c i) (KV e).1) (aI.gen j a m o l t c (m _ _ i) (KV e).2)
end
def Rep.map{q:bt}(j:∀p xs,T p xs->T' p xs)(l:∀c p xs f,N (c++q) p xs f->N' (c++q') p xs (g f)){k:bt}{v:V}{d:D}(h:Rep T N k v d)(c:bt)(e:k=c++q):Rep T' N' (c++q') v (aB g d) :=
 Rep.gen (P:=λ_=>false) (C:=λk k'=>∃c,k=c++q/\k'=c++q') (I:=λn i=>n=i) j rfl (λ_ _ e=>by rw[e]) (λ_ _ n _ ⟨c,b,a⟩ e=>⟨n::c,by rw[b];rfl,by rw[a,<- e];rfl⟩) (λ_ _ p xs f ⟨c,b,a⟩ _ h=>by subst b;subst a;exact l c p xs f h) h ⟨c,e,rfl⟩ (tI d)
def aI.map{q:bt}(i:∀p xs,T p xs->T' p xs)(j:∀c p xs f,N (c++q) p xs f->N' (c++q') p xs (g f)){k:bt}{n:Nat}(h:aI T N k n vs ds)(c:bt)(e:k=c++q):aI T' N' (c++q') n vs (au g ds) :=
 aI.gen (P:=λ_=>false) (C:=λk k'=>∃c,k=c++q/\k'=c++q') (I:=λn d=>n=d) i rfl (λ_ _ e=>by rw[e]) (λ_ _ n _ ⟨c,b,a⟩ e=>⟨n::c,by rw[b];rfl,by rw[a,<- e];rfl⟩) (λ_ _ p xs f ⟨c,b,a⟩ _ h=>by subst b;subst a;exact j c p xs f h) h ⟨c,e,rfl⟩ rfl (iB ds)
def Rep.jw(a:∀p xs,T p xs->T' p xs)(b:∀k k' p xs f,N k p xs f->N' k' p xs (g f)){k:bt}{v:V}{d:D}(h:Rep T N k v d)(k':bt):Rep T' N' k' v (aB g d) :=
 Rep.gen (P:=λ_=>false) (C:=λ_ _=>True) (I:=λ_ _=>True) a trivial (λ_ _ e=>e) (λ_ _ _ _ e _=>e) (λk k' p xs f _ _ h=>b k k' p xs f h) h trivial (tI d)
def aI.jw(a:∀p xs,T p xs->T' p xs)(b:∀k k' p xs f,N k p xs f->N' k' p xs (g f)){k:bt}{n:Nat}(h:aI T N k n vs ds)(k':bt)(n':Nat):aI T' N' k' n' vs (au g ds) :=
 aI.gen (P:=λ_=>false) (C:=λ_ _=>True) (I:=λ_ _=>True) a trivial (λ_ _ e=>e) (λ_ _ _ _ e _=>e) (λk k' p xs f _ _ h=>b k k' p xs f h) h trivial trivial (iB ds)
end
mutual
theorem fj:∀d:D,aB id d=d
 |.bz=>rfl
 |.bl _=>rfl
 |.int _=>rfl
 |.str _=>rfl
 |.tup ds=>by rw[aB,fG ds]
 |.lst f ds=>by rw[aB,fG ds];rfl
 |.de f a vs=>by rw[aB,fG vs];rfl
theorem fG:∀ds:aa,au id ds=ds
 |[]=>rfl
 |d::ds=>by rw[au,fj d,fG ds]
end
section
variable {T T':nq}{N N':kA}
def Rep.imp{q:bt}(a:∀p xs,T p xs->T' p xs)(b:∀c p xs f,N (c++q) p xs f->N' (c++q') p xs f){v:V}{d:D}(h:Rep T N q v d):Rep T' N' q' v d:=by
 have:=Rep.map (g:=id) a b h [] rfl;rw[fj]at this;exact this
def aI.imp{q:bt}{n:Nat}(a:∀p xs,T p xs->T' p xs)(b:∀c p xs f,N (c++q) p xs f->N' (c++q') p xs f)(h:aI T N q n vs ds):aI T' N' q' n vs ds:=by
 have:=aI.map (g:=id) a b h [] rfl;rw[fG]at this;exact this
theorem aI.ind{k:bt}{P:Nat->ag->aa->Prop}(b:∀n,P n [] [])(a:∀n v vs d ds,Rep T N (n::k) v d->aI T N k (n+1) vs ds->P (n+1) vs ds->P n (v::vs) (d::ds)):∀{n:Nat} {vs:ag} {ds:aa},aI T N k n vs ds->P n vs ds
 |_,[],[],_=>b _
 |_,_::_,_::_,.cons h t=>a _ _ _ _ _ h t (aI.ind b a t)
theorem aI.length{k:bt}{n:Nat}{vs:ag}{ds:aa}(h:aI T N k n vs ds):vs.length=ds.length :=
 h.ind (P:=λ_ vs ds=>vs.length=ds.length) (λ_=>rfl) λ_ _ _ _ _ _ _ e=>aaU Nat.succ e
def DW(n j:Nat):n+(j+1)=n+1+j:=by left
def aI.get{k:bt}{n j:Nat}{d:D}(h:aI T N k n vs ds):ds[j]?=some d->∃v,vs[j]?=some v/\Rep T N ((n+j)::k) v d :=
 h.ind (P:=λn vs ds=>∀j,ds[j]?=some d->∃v,vs[j]?=some v/\Rep T N ((n+j)::k) v d) (λ_ _ e=>nomatch e) (λn v vs b ds h t a j e=>by
  cases j with
  |zero=>cases e;exact⟨v,rfl,h⟩
  |succ j=>rw[DW n j];exact a j e) j
def aI.yy{k:bt}{n j:Nat}{v:V}(h:aI T N k n vs ds):vs[j]?=some v->∃d,ds[j]?=some d/\Rep T N ((n+j)::k) v d :=
 h.ind (P:=λn vs ds=>∀j,vs[j]?=some v->∃d,ds[j]?=some d/\Rep T N ((n+j)::k) v d) (λ_ _ e=>nomatch e) (λn b vs d ds h t a j e=>by
  cases j with
  |zero=>cases e;exact⟨d,rfl,h⟩
  |succ j=>rw[DW n j];exact a j e) j
def aI.uo{k:bt}(a:∀k k' p xs f,N k p xs f->N k' p xs f){n m l:Nat}{ws:ag}{es:aa}(h:aI T N k n vs ds)(u:aI T N k m ws es):aI T N k l (vs++ws) (ds++es) :=
 h.ind (P:=λ_ vs ds=>∀l,aI T N k l (vs++ws) (ds++es)) (λ_ l=>by
  have:=aI.jw (T':=T) (N':=N) (g:=id) (λ_ _ h=>h) a u;rw[fG]at this;exact this _ _) (λ_ _ _ _ _ h _ b l=>.cons (by
  have:=Rep.jw (T':=T) (N':=N) (g:=id) (λ_ _ h=>h) a h;rw[fj]at this;exact this _) (b _)) l
def aI.snoc{k:bt}{n:Nat}{v:V}{d:D}(h:aI T N k n vs ds):Rep T N ((n+ds.length)::k) v d->aI T N k n (vs++[v]) (ds++[d]) :=
 h.ind (P:=λn vs ds=>Rep T N ((n+ds.length)::k) v d->aI T N k n (vs++[v]) (ds++[d])) (λ_ r=>.cons r .nil) λn _ _ _ ds h _ a r=>.cons h (a (by rw[zae,DW n]at r;exact r))
end
def KL(K:ao)(a:Addr)(xs:ag):Prop :=
 ∃(o:Obj) (b:aY) (n:Nat),K.lookup a=some o/\o.cls=.type "list" /\ o.dict=none/\o.data=.seq b n/\b.size<=sizeLine/\Vals xs b.toList
def DO(p:Addr)(cs:aK)(as:bo)(xs:ag)(ep:Nat)(h:Heap):Prop :=
 ∃(zs:List (ae×Addr×Value)) (o:Obj) (es:Array DictEntry),zs.map (·.1)=cs/\zs.map (·.2.1)=as/\Vals xs (zs.map (·.2.2))/\h.get? p=some o/\o.ExactDict/\o.data=.dict es ep /\
  es.toList=zs.map (λz=>⟨reduceHash (Builtin.Tuple.tupleHashOf (z.1.map hashInt)),.ref z.2.1,z.2.2⟩)/\cs.Nodup/\cs.length<=sizeLine/\(p==sysModules)=false
abbrev fR(H:Hp)(p:Addr)(n:Nd):Prop:=match n with
 |.l xs=>H p=some (.lst xs)
 |.d b as xs a=>H p=some (.ext (DO p b as xs a))
variable {H H' H1 H2:Hp}
def fR.ne{p:Addr}{n:Nd}(h:fR H p n):H p≠none:=by
 cases n with
 |l xs=>intro z;rw[show H p=some (.lst xs) from h]at z;cases z
 |d b as xs a=>intro z;rw[show H p=some (.ext (DO p b as xs a)) from h]at z;cases z
def fR.at{p:Addr}{n:Nd}(e:∀o,H p=some o->H' p=some o)(h:fR H p n):fR H' p n:=by
 cases n with
 |l xs=>exact e _ h
 |d b as xs a=>exact e _ h
def fR.same{p:Addr}{n:Nd}(e:aL H H')(h:fR H p n):fR H' p n:=h.at (e p)
theorem fR.some{H:Hp}{p:Addr}{n:Nd}(h:fR H p n):∃o,H p=some o/\(∀xs,o≠.tup xs)/\(∀a u,o≠.jo a u):=by
 cases n with
 |l xs=>exact⟨_,h,λ_ z=>(nomatch z),λ_ _ z=>(nomatch z)⟩
 |d c as xs b=>exact⟨_,h,λ_ z=>(nomatch z),λ_ _ z=>(nomatch z)⟩
def nd(K:ao)(R A:ai)(a:Addr->Option bt)(H:Hp):kA:=λq p n f=>match f with
 |.ow=>fR H p n/\a p=some q
 |.fz=>fR H p n/\R p
 |.al=>fR H p n/\A p
 |.sc=>match n with
  |.l xs=>(∃o,H p=some (.jo o (.lst xs)))\/KL K p xs
  |.d _ _ _ _=>False
variable {A F G R R' R1:Addr->Prop}{K:ao}{τ τ' τt:Addr->Option bt}
def nd.KA{q:bt}{p:Addr}{n:Nd}(h:nd K R A τ H q p n .sc):∃xs,n=.l xs/\((∃o,H p=some (.jo o (.lst xs)))\/KL K p xs):=by
 cases n with
 |l xs=>exact⟨xs,rfl,h⟩
 |d _ _ _ _=>exact h.elim
def nd.sq{q:bt}{p:Addr}(h:nd K R A τ H q p (.l xs) f):dD K H p xs:=by
 cases f with
 |ow=>exact dD.of h.1
 |fz=>exact dD.of h.1
 |al=>exact dD.of h.1
 |sc=>exact h.elim (λh=>.inl (.inr h)) .inr
theorem nd.lst{K:ao}{R A:ai}{τ:Addr->Option bt}{H:Hp}{q:bt}{p:Addr}{xs:ag}{f:Fl}(h:nd K R A τ H q p (.l xs) f)(hf:qB f=false):H p=some (.lst xs):=by
 cases f with
 |ow=>exact h.1
 |fz=>exact h.1
 |al=>exact h.1
 |sc=>cases hf
variable {ep k1 k2 n1 t':Nat}
def nd.dat{q:bt}{p:Addr}{cs:aK}(h:nd K R A τ H q p (.d cs as xs ep) f):H p=some (.ext (DO p cs as xs ep)):=by
 cases f with
 |ow=>exact h.1
 |fz=>exact h.1
 |al=>exact h.1
 |sc=>exact h.elim
def Rd.same{a:Addr}{u:HO}(e:aL H H')(h:Rd H a u):Rd H' a u:=h.elim (λh=>.inl (e _ _ h)) λ⟨o,h⟩=>.inr ⟨o,e _ _ h⟩
theorem bg.same{K:ao}{H H':Hp}{a:Addr}{xs:ag}(e:aL H H')(h:bg K H a xs):bg K H' a xs:=h.elim (λh=>.inl (Rd.same e h)) .inr
theorem nd.same{K:ao}{R A:ai}{τ:Addr->Option bt}{H H':Hp}{q:bt}{p:Addr}{n:Nd}{f:Fl}(e:aL H H')(h:nd K R A τ H q p n f):nd K R A τ H' q p n f:=by
 cases f with
 |ow=>exact⟨h.1.same e,h.2⟩
 |fz=>exact⟨h.1.same e,h.2⟩
 |al=>exact⟨h.1.same e,h.2⟩
 |sc=>cases n with
  |l xs=>exact h.elim (λ⟨o,h⟩=>.inl ⟨o,e _ _ h⟩) .inr
  |d _ _ _ _=>exact h.elim
def aL.ne(e:aL H H'){a:Addr}(h:H a≠none):H' a≠none:=by
 cases q:H a with
 |none=>exact absurd q h
 |some o=>rw[e a o q];simp
structure SI(X:Cx)(F R:ai)(τ:Addr->Option bt)(ρ:a_)(σ:St)(H:Hp):Prop where
 len:ρ.length=σ.length
 rep:∀(i:Nat) (d:D),ρ[i]?=some (some d)->∃v,σ[i]?=some (some v)/\Rep (bg X.K H) (nd X.K R (λ_=>False) τ H) [i] v d
 rt:∀p,R p->τ p=none
 rh:∀p,R p->H p≠none
 rf:∀p,R p->F p\/X.H₀ p=none
 th:∀p q,τ p=some q->H p≠none
 t0:∀p q,τ p=some q->X.H₀ p=none
 same:aL X.H₀ H
variable {X:Cx}{ρ:a_}{σ:L2.St}
def SI.go(S:SI X F R τ ρ σ H)(e:aL H H'):SI X F R τ ρ σ H' :=
 ⟨S.len,λi d h=>let ⟨v,h1,h2⟩:=S.rep i d h;⟨v,h1,h2.imp (λ_ _ h=>bg.same e h) λ_ _ _ _ h=>nd.same e h⟩,S.rt,λp h=>aL.ne e (S.rh p h),S.rf,λp q h=>aL.ne e (S.th p q h),S.t0,S.same.trans e⟩
def kZ(G:ai)(τ:Addr->Option bt)(fv:aJ)(p:Addr):Prop:=G p/\∀c i,τ p=some (c++[i])->i∈fv
variable {caps fv fv' is:aJ}
def kZ.mono{p:Addr}(h:kZ G τ fv p)(hs:∀i∈fv,i∈fv'):kZ G τ fv' p:=⟨h.1,λc i e=>hs i (h.2 c i e)⟩
def gP(X:Cx)(F:ai)(p:Addr):Prop:=F p\/X.H₀ p=none
inductive b8(K:ao)(G R:ai)(τ:Addr->Option bt)(fv:aJ)(H H':Hp)(v:V)(d:D):Prop where
 |mk (τt:Addr->Option bt) (h1:∀p q,τt p=some q->H p=none) (h2:Rep (bg K H') (nd K R (kZ G τ fv) τt H') [] v d)
inductive cF(K:ao)(G R:ai)(τ:Addr->Option bt)(fv:aJ)(H H':Hp)(vs:ag)(ds:aa):Prop where
 |mk (τt:Addr->Option bt) (h1:∀p q,τt p=some q->H p=none) (h2:aI (bg K H') (nd K R (kZ G τ fv) τt H') [] 0 vs ds)
section
variable {K:ao}{G R:ai}{τ:Addr->Option bt}{fv fv':aJ}{H H1 H2:Hp}{v:V}{d:D}{vs:ag}{ds:aa}
def b8.go(h:b8 K G R τ fv H H1 v d)(e:aL H1 H2):b8 K G R τ fv H H2 v d :=
 let ⟨τt,h1,h2⟩:=h;⟨τt,h1,h2.imp (λ_ _ h=>bg.same e h) λ_ _ _ _ h=>nd.same e h⟩
def nd.mono{a:Addr->Prop}{τ:Addr->Option bt}{q:bt}{p:Addr}{xs:Nd}(h:nd K R A τ H q p xs f)(hR:R p->R' p)(c:A p->a p)(b:τ p=some q->τ' p=some q'):nd K R' a τ' H q' p xs f:=by
 cases f with
 |ow=>exact⟨h.1,b h.2⟩
 |fz=>exact⟨h.1,hR h.2⟩
 |al=>exact⟨h.1,c h.2⟩
 |sc=>exact h
theorem b8.mono(h:b8 K G R τ fv H H1 v d)(hs:∀i∈fv,i∈fv'):b8 K G R τ fv' H H1 v d :=
 let ⟨τt,h1,h2⟩:=h;⟨τt,h1,h2.imp (λ_ _ h=>h) λ_ _ _ _ h=>h.mono id (λh=>h.mono hs) id⟩
theorem cF.mono(h:cF K G R τ fv H H1 vs ds)(hs:∀i∈fv,i∈fv'):cF K G R τ fv' H H1 vs ds :=
 let ⟨τt,h1,h2⟩:=h;⟨τt,h1,h2.imp (λ_ _ h=>h) λ_ _ _ _ h=>h.mono id (λh=>h.mono hs) id⟩
def b8.old{a:Hp}(h:b8 K G R τ fv H H1 v d)(e:aL a H):b8 K G R τ fv a H1 v d :=
 let ⟨τt,h1,h2⟩:=h;⟨τt,λp q z=>e.free (h1 p q z),h2⟩
theorem b8.int{i:Int}:b8 K G R τ fv H H1 (.int i) (.int i):=⟨λ_=>none,λ_ _ h=>by simp at h,.int i⟩
theorem b8.bl{b:Bool}:b8 K G R τ fv H H1 (.bl b) (.bl b):=⟨λ_=>none,λ_ _ h=>by simp at h,.bl b⟩
theorem b8.str{s:Str}:b8 K G R τ fv H H1 (.str s) (.str s):=⟨λ_=>none,λ_ _ h=>by simp at h,.str s⟩
theorem b8.bz:b8 K G R τ fv H H1 .bz .bz:=⟨λ_=>none,λ_ _ h=>by simp at h,.bz⟩
def b8.isInt{i:Int}(h:b8 K G R τ fv H H1 v (.int i)):v=.int i:=by obtain⟨_,_,h⟩:=h;cases h;rfl
def b8.BJ{i:Bool}(h:b8 K G R τ fv H H1 v (.bl i)):v=.bl i:=by obtain⟨_,_,h⟩:=h;cases h;rfl
noncomputable def su:bt->bt
 |[]=>[]
 |[n]=>[n+1]
 |a::b::r=>a::su (b::r)
def vc(c:bt)(n:Nat):su (c++[n])=c++[n+1]:=by
 induction c with
 |nil=>rfl
 |cons a c e =>
  cases c with
  |nil=>rfl
  |cons b c=>show a::su (b::c++[n])=_;rw[e];rfl
def aI.shift(b:∀c n p xs f,N (c++[n]) p xs f->N' (c++[n+1]) p xs f){n:Nat}{vs:ag}{ds:aa}(h:aI T N [] n vs ds):aI T N' [] (n+1) vs ds :=
 h.ind (P:=λn vs ds=>aI T N' [] (n+1) vs ds) (λ_=>.nil) λn _ _ _ _ h _ a=>.cons (h.imp (q:=[n]) (q':=[n+1]) (λ_ _ h=>h) λc p xs f h=>b c n p xs f h) a
theorem cF.nil:cF K G R τ fv H H1 [] []:=⟨λ_=>none,λ_ _ h=>by simp at h,.nil⟩
open Classical in
theorem cF.cons(s:aL H H1)(j:aL H1 H2)(h:b8 K G R τ fv H H1 v d)(t:cF K G R τ fv H1 H2 vs ds):cF K G R τ fv H H2 (v::vs) (d::ds):=by
 obtain⟨a,r,m⟩:=h;obtain⟨g,o,l⟩:=t;refine⟨λp=>if H1 p=none then(g p).map su else(a p).map (· ++ [0]),λp q i=>?_,.cons (m.imp (q':=[0]) (λ_ _ h=>bg.same j h) λc p xs f h=>?_) (aI.shift (λc n p xs f h=>?_) l)⟩
 ·by_cases b:H1 p=none
  ·exact s.free b
  ·simp only[b,if_false]at i;cases q1:a p with
   |none=>rw[q1]at i;simp at i
   |some k=>exact r p k q1
 ·have e:nd K R (kZ G τ fv) a H2 (c++[]) p xs f:=nd.same j h;cases f with
  |ow =>
   have b:H1 p≠none:=h.1.ne;refine⟨e.1,?_⟩;simp only[b,if_false];rw[h.2];simp
  |fz=>exact e
  |al=>exact e
  |sc=>exact e
 ·cases f with
  |ow =>
   have b:H1 p=none:=o p _ h.2;refine⟨h.1,?_⟩;simp only[b,if_true];rw[h.2];simp[vc]
  |fz=>exact h
  |al=>exact h
  |sc=>exact h
end
inductive tD(X:Cx)(F:ai)(Φ:aU)(c:CE)(σ:St)(H:Hp)(Q:VK):Prop where
 |mk (R:ai) (τ:Addr->Option bt) (ρ:a_) (d:D) (h1:SI X F R τ ρ σ H) (h2:bp Φ c ρ=ok d) (h3:∀v H',aL H H'->b8 X.K (gP X F) R τ (gE c) H H' v d->Q v H')
inductive uC(X:Cx)(F:ai)(Φ:aU)(cs:aA)(σ:St)(H:Hp)(Q:ag->Hp->Prop):Prop where
 |mk (R:ai) (τ:Addr->Option bt) (ρ:a_) (ds:aa) (h1:SI X F R τ ρ σ H) (h2:bL Φ cs ρ=ok ds) (h3:∀vs H',aL H H'->cF X.K (gP X F) R τ (dJ cs) H H' vs ds->Q vs H')
inductive ip(X:Cx)(F:ai)(Φ:aU)(c:CE)(σ:St)(H:Hp)(Q:Bool->Hp->Prop):Prop where
 |mk (R:ai) (τ:Addr->Option bt) (ρ:a_) (b:Bool) (h1:SI X F R τ ρ σ H) (h2:lr Φ c ρ=ok b) (h3:∀H',aL H H'->Q b H')
def PE.imp{e:Expr}{t t':TE}(h:PE X e t)(a:∀σ H Q,t' σ H Q->t σ H Q):PE X e t':=λpins s σ H Q I hw=>h pins s σ H Q I (a σ H Q hw)
def PT.imp{e:Expr}{t t':TT}(h:PT X e t)(a:∀σ H Q,t' σ H Q->t σ H Q):PT X e t':=λpins s σ H Q I hw=>h pins s σ H Q I (a σ H Q hw)
def PW.imp{e:Expr}{t t':TT}(h:PW X e t)(b:∀σ H Q,t' σ H Q->t σ H Q):PW X e t':=λa pins s σ H Q I hw=>h a pins s σ H Q I (b σ H Q hw)
def PA.imp{es:ak}{t t':TA}(h:PA X es t)(b:∀σ H Q,t' σ H Q->t σ H Q):PA X es t':=λa pins s σ H Q I hw=>h a pins s σ H Q I (b σ H Q hw)
variable {st:Stmt}
def PS.imp{t t':TS}(h:PS X st t)(a:∀D σ H,t' D σ H->t D σ H):PS X st t':=λpins s σ H D I hw=>h pins s σ H D I (a D σ H hw)
def jd.imp{st:aW}{t t':TS}(h:jd X st t)(a:∀D σ H,t' D σ H->t D σ H):jd X st t':=λpins s σ H D I hw=>h pins s σ H D I (a D σ H hw)
theorem pF:∀(as bs:aa),gQ as bs=true ↔ as.length=bs.length/\∀(j:Nat) (a b:D),as[j]?=some a->bs[j]?=some b->nj a b=true
 |[],[]=>by simp[gQ]
 |[],b::bs=>by simp[gQ]
 |a::as,[]=>by simp[gQ]
 |a::as,b::bs=>by
  rw[gQ,zaf,pF as bs];constructor
  ·rintro ⟨h,g,e⟩;refine⟨by simp[g],λj x y d c=>?_⟩;cases j with
   |zero=>simp at d c;subst d c;exact h
   |succ j=>exact e j x y (by simpa using d) (by simpa using c)
  ·rintro ⟨g,e⟩;exact⟨e 0 a b rfl rfl,by simpa using g,λj x y d c=>e (j+1) x y (by simpa using d) (by simpa using c)⟩
def Uw(as bs:aa)(j:Nat):Bool:=match as[j]?,bs[j]? with
 |some a,some b=>nj a b
 |_,_=>false
def kR(as bs:aa):((List.range (min as.length bs.length)).all (Uw as bs)&&as.length==bs.length)=gQ as bs:=by
 rw[zbx,pF,zaf,zaH,zbr];constructor
 ·rintro ⟨g,e⟩;refine⟨e,λj a b c d=>?_⟩;have i:j<as.length:=by
   by_cases h:j<as.length
   ·exact h
   ·rw[List.getElem?_eq_none (by left)]at c;cases c
  have:=g j (by rw[zbl];left);unfold Uw at this;rw[c,d]at this;exact this
 ·rintro ⟨e,g⟩;refine⟨λj i=>?_,e⟩;rw[zbl]at i;unfold Uw;have c:as[j]?=some as[j]:=aao (by left);have d:bs[j]?=some bs[j]:=aao (by left);rw[c,d];exact g j _ _ c d
variable {d' d0 d1:D}{v':V}
section
variable {X:Cx}{pins:aw}{σ:St}{H:Hp}{s:Shared}{N N':kA}
def lI{n:Nat}(h:iV n (.tup ds)=true):∃m,n=m+1/\∀d∈ds,iV m d=true:=by
 cases n with
 |zero=>cases h
 |succ m=>exact⟨m,rfl,List.all_eq_true.mp h⟩
def lJ{n:Nat}(h:iV n (.lst f ds)=true):∃m,n=m+1/\∀d∈ds,iV m d=true:=by
 cases n with
 |zero=>cases h
 |succ m=>exact⟨m,rfl,List.all_eq_true.mp h⟩
def zI(I:Inv X pins σ H s){p:Addr}{b:ag}(h:dD X.K H p xs)(h':bg X.K H p b):False:=by
 obtain⟨d,_,c,_⟩:=I.list h;obtain⟨a,_,pt,_⟩:=I.tuple h';exact SeqAt.ne_of_list_tuple c.isList pt rfl
def Dn(I:Inv X pins σ H s)(y:∀q p xs f,N q p (.l xs) f->dD X.K H p xs)(B:∀q p xs f,N' q p (.l xs) f->dD X.K H p xs):
  ∀(n:Nat) {k k':bt} {v:V} {d d':D},Rep (bg X.K H) N k v d->Rep (bg X.K H) N' k' v d'->iV n d=true->iV n d'=true->nj d d'=true:=by
 intro n;induction n with
 |zero =>
  intro k k' v d d' h c e g;cases h with
  |bz=>cases c;rfl
  |bl b=>cases c;exact abo b
  |int i=>cases c;exact abo i
  |str t=>cases c;exact abo t
  |tup _ _=>obtain⟨m,u,_⟩:=lI e;left
  |lst _ _=>obtain⟨m,u,_⟩:=lJ e;left
  |de _ _=>cases e
 |succ n C =>
  have sub:∀{q q':bt} {xs:ag} {ds ds':aa},aI (bg X.K H) N q 0 xs ds->aI (bg X.K H) N' q' 0 xs ds'->(∀d∈ds,iV n d=true)->(∀d∈ds',iV n d=true)->gQ ds ds'=true:=by
   intro q q' xs ds ds' r o e g;rw[pF];refine⟨by rw[<- r.length,<- o.length],λj a b x w=>?_⟩;obtain⟨L,E,r1⟩:=r.get x;obtain⟨J,z,r2⟩:=o.get w;rw[E]at z;cases z;exact C r1 r2 (e a (aaC x)) (g b (aaC w))
  intro k k' v d d' h c e g;cases h with
  |bz=>cases c;rfl
  |bl b=>cases c;exact abo b
  |int i=>cases c;exact abo i
  |str t=>cases c;exact abo t
  |tup h r =>
   obtain⟨m,u,e⟩:=lI e;obtain rfl:n=m:=by left
   cases c with
   |tup c o =>
    obtain⟨m,u,g⟩:=lI g;obtain rfl:n=m:=by left
    obtain rfl:=I.l_ h c;exact sub r o e g
   |lst c o=>exact(zI I (B _ _ _ _ c) h).elim
   |de _ _=>cases g
  |lst h r =>
   obtain⟨m,u,e⟩:=lJ e;obtain rfl:n=m:=by left
   cases c with
   |tup c o=>exact(zI I (y _ _ _ _ h) c).elim
   |lst c o =>
    obtain⟨m,u,g⟩:=lJ g;obtain rfl:n=m:=by left
    obtain rfl:=I.jH (y _ _ _ _ h) (B _ _ _ _ c);exact sub r o e g
   |de _ _=>cases g
  |de _ _=>cases e
structure Alike(A:aN)(s:Shared)(u u':Value)(b:Bool):Prop where
 eq:SeqAt.EqAt A s u u' b
 rc:SeqAt.RcAt A s u u' b
 ne:SeqAt.RcNeAt A s u u' (!b)
def vD{d:D}(h:iV 0 d=true):ej d=true:=by
 cases d<;>first|rfl|cases h
def Gr{A:aN}{k:bt}{v:V}{u g:Value}{d:D}(h:Rep T N k v d)(h':Rep T' N' k' v' d')(f:ej d=true)(e:ej d'=true)(r:RelV v u)(c:RelV v' g):Alike A s u g (nj d d'):=by
 cases h with
 |bz =>
  cases r;cases h' with
  |bz=>cases c;exact⟨abR _,SeqAt.RcAt.none_none,SeqAt.RcNeAt.none_none⟩
  |bl b=>cases c;exact⟨SeqAt.EqAt.none_bool b,SeqAt.RcAt.none_bool b,SeqAt.RcNeAt.none_bool b⟩
  |int b=>obtain⟨t,rfl⟩:=c;exact⟨SeqAt.EqAt.none_int b t,SeqAt.RcAt.none_int b t,SeqAt.RcNeAt.none_int b t⟩
  |str b=>obtain⟨t,rfl⟩:=c;exact⟨SeqAt.EqAt.none_str b t,SeqAt.RcAt.none_str b t,SeqAt.RcNeAt.none_str b t⟩
  |_=>cases e
 |bl a =>
  cases r;cases h' with
  |bz=>cases c;exact⟨SeqAt.EqAt.bool_none a,SeqAt.RcAt.bool_none a,SeqAt.RcNeAt.bool_none a⟩
  |bl b=>cases c;exact⟨abw a b,SeqAt.RcAt.bool_bool a b,SeqAt.RcNeAt.bool_bool a b⟩
  |int b=>obtain⟨t,rfl⟩:=c;exact⟨SeqAt.EqAt.bool_int a b t,SeqAt.RcAt.bool_int a b t,SeqAt.RcNeAt.bool_int a b t⟩
  |str b=>obtain⟨t,rfl⟩:=c;exact⟨SeqAt.EqAt.bool_str a b t,SeqAt.RcAt.bool_str a b t,SeqAt.RcNeAt.bool_str a b t⟩
  |_=>cases e
 |int a =>
  obtain⟨t',rfl⟩:=r;cases h' with
  |bz=>cases c;exact⟨SeqAt.EqAt.int_none a t',SeqAt.RcAt.int_none a t',SeqAt.RcNeAt.int_none a t'⟩
  |bl b=>cases c;exact⟨SeqAt.EqAt.int_bool a t' b,SeqAt.RcAt.int_bool a t' b,SeqAt.RcNeAt.int_bool a t' b⟩
  |int b=>obtain⟨t,rfl⟩:=c;exact⟨acp a t' b t,SeqAt.RcAt.int_int a t' b t,SeqAt.RcNeAt.int_int a t' b t⟩
  |str b=>obtain⟨t,rfl⟩:=c;exact⟨SeqAt.EqAt.int_str a t' b t,SeqAt.RcAt.int_str a t' b t,SeqAt.RcNeAt.int_str a t' b t⟩
  |_=>cases e
 |str a =>
  obtain⟨t',rfl⟩:=r;cases h' with
  |bz=>cases c;exact⟨SeqAt.EqAt.str_none a t',SeqAt.RcAt.str_none a t',SeqAt.RcNeAt.str_none a t'⟩
  |bl b=>cases c;exact⟨SeqAt.EqAt.str_bool a t' b,SeqAt.RcAt.str_bool a t' b,SeqAt.RcNeAt.str_bool a t' b⟩
  |int b=>obtain⟨t,rfl⟩:=c;exact⟨SeqAt.EqAt.str_int a t' b t,SeqAt.RcAt.str_int a t' b t,SeqAt.RcNeAt.str_int a t' b t⟩
  |str b=>obtain⟨t,rfl⟩:=c;exact⟨SeqAt.EqAt.str_str a t' b t,SeqAt.RcAt.str_str a t' b t,SeqAt.RcNeAt.str_str a t' b t⟩
  |_=>cases e
 |_=>cases f
def alike(I:Inv X pins σ H s)(hN:∀q p xs f,N q p (.l xs) f->dD X.K H p xs)(S:∀q p xs f,N' q p (.l xs) f->dD X.K H p xs):
    ∀(n:Nat) (A:aN) {k k':bt} {v v':V} {u U:Value} {d d':D},Rep (bg X.K H) N k v d->Rep (bg X.K H) N' k' v' d'->iV n d=true->iV n d'=true->RelV v u->RelV v' U->A.units+n<cLine ->
      Alike A s u U (nj d d'):=by
  intro n;induction n with
  |zero=>exact λA k k' v v' u U d d' h g J B r i hu=>Gr h g (vD J) (vD B) r i
  |succ n ih =>
    intro A k k' v v' u U d d' h g J B r i hu;have c:A.units<cLine:=by left
    have X5:A.in1.units+n<cLine:=by show A.units+1+n<cLine;left
    have sub:∀{q q':bt} {xs xs':ag} {ds ds':aa} {o its':az},aI (bg X.K H) N q 0 xs ds->aI (bg X.K H) N' q' 0 xs' ds'->(∀d∈ds,iV n d=true)->(∀d∈ds',iV n d=true)->Vals xs o->Vals xs' its' ->
        ∀(j:Nat) (h1:j<o.toArray.size) (h2:j<its'.toArray.size),SeqAt.EqAt A.in1 s o.toArray[j] its'.toArray[j] (Uw ds ds' j):=by
      intro q q' xs xs' ds ds' o its' y x M Y rv E j h1 h2;have C:ds.length=o.length:=by rw[<- y.length,rv.length]
      have L:ds'.length=its'.length:=by rw[<- x.length,E.length]
      simp only[zad]at h1 h2;have ea:ds[j]?=some ds[j]:=aao (by left);have eb:ds'[j]?=some ds'[j]:=aao (by left);obtain⟨w1,g1,p1⟩:=y.get ea;obtain⟨w2,g2,p2⟩:=x.get eb;obtain⟨u1,k1,z1⟩:=rv.get g1;obtain⟨u2,k2,z2⟩:=E.get g2;have:=(ih A.in1 p1 p2 (M _ (aa6 _)) (Y _ (aa6 _)) z1 z2 X5).eq;unfold Uw;rw[ea,eb];rw[List.getElem?_eq_getElem h1]at k1;rw[List.getElem?_eq_getElem h2]at k2;cases k1;cases k2;simpa using this
    cases M:ej d with
    |true =>
      cases Y:ej d' with
      |true=>exact Gr h g M Y r i
      |false =>
        cases g with
        |tup g rr =>
          cases i;obtain⟨o,_,pt,_⟩:=I.tuple g;cases h with
          |bz=>cases r;exact⟨SeqAt.EqAt.none_tuple pt c,SeqAt.RcAt.none_tuple pt c,SeqAt.RcNeAt.none_tuple pt c⟩
          |bl a=>cases r;exact⟨SeqAt.EqAt.bool_tuple a pt c,SeqAt.RcAt.bool_tuple a pt c,SeqAt.RcNeAt.bool_tuple a pt c⟩
          |int a=>obtain⟨t',rfl⟩:=r;exact⟨SeqAt.EqAt.int_tuple a t' pt c,SeqAt.RcAt.int_tuple a t' pt c,SeqAt.RcNeAt.int_tuple a t' pt c⟩
          |str a=>obtain⟨t',rfl⟩:=r;exact⟨SeqAt.EqAt.str_tuple a t' pt c,SeqAt.RcAt.str_tuple a t' pt c,SeqAt.RcNeAt.str_tuple a t' pt c⟩
          |_=>cases M
        |lst g rr =>
          cases i;obtain⟨o,_,pt,_⟩:=I.list (S _ _ _ _ g);have pt:=pt.isList;cases h with
          |bz=>cases r;exact⟨SeqAt.EqAt.none_list pt c,SeqAt.RcAt.none_list pt c,SeqAt.RcNeAt.none_list pt c⟩
          |bl a=>cases r;exact⟨SeqAt.EqAt.bool_list a pt c,SeqAt.RcAt.bool_list a pt c,SeqAt.RcNeAt.bool_list a pt c⟩
          |int a=>obtain⟨t',rfl⟩:=r;exact⟨SeqAt.EqAt.int_list a t' pt c,SeqAt.RcAt.int_list a t' pt c,SeqAt.RcNeAt.int_list a t' pt c⟩
          |str a=>obtain⟨t',rfl⟩:=r;exact⟨SeqAt.EqAt.str_list a t' pt c,SeqAt.RcAt.str_list a t' pt c,SeqAt.RcNeAt.str_list a t' pt c⟩
          |_=>cases M
        |_=>first | (cases Y;done) | (cases B;done)
    |false =>
     cases h with
     | @tup _ p xs ds h y =>
      cases r;obtain⟨o,rv,pt,_⟩:=I.tuple h;have pt:s.heap.IsTuple p o.toArray:=pt;cases g with
      |de _ _=>cases B
      |bz=>cases i;exact⟨SeqAt.EqAt.tuple_none pt c,SeqAt.RcAt.tuple_none pt c,SeqAt.RcNeAt.tuple_none pt c⟩
      |bl b=>cases i;exact⟨SeqAt.EqAt.tuple_bool b pt c,SeqAt.RcAt.tuple_bool b pt c,SeqAt.RcNeAt.tuple_bool b pt c⟩
      |int b=>obtain⟨t,rfl⟩:=i;exact⟨SeqAt.EqAt.tuple_int b t pt c,SeqAt.RcAt.tuple_int b t pt c,SeqAt.RcNeAt.tuple_int b t pt c⟩
      |str b=>obtain⟨t,rfl⟩:=i;exact⟨SeqAt.EqAt.tuple_str b t pt c,SeqAt.RcAt.tuple_str b t pt c,SeqAt.RcNeAt.tuple_str b t pt c⟩
      |lst g rr=>cases i;obtain⟨its',_,e,_⟩:=I.list (S _ _ _ _ g);exact⟨SeqAt.EqAt.tuple_list pt e.isList c,SeqAt.RcAt.tuple_list pt e.isList c,SeqAt.RcNeAt.tuple_list pt e.isList c⟩
      | @tup _ z xs' ds' g x =>
        cases i;obtain⟨m,hm,P4⟩:=lI J;obtain rfl:n=m:=by left
        obtain⟨m,hm,Z⟩:=lI B;obtain rfl:n=m:=by left
        obtain⟨its',E,W,_⟩:=I.tuple g;have W:s.heap.IsTuple z its'.toArray:=W;have w:=sub y x P4 Z rv E;have C:ds.length=o.toArray.size:=by rw[zad,<- y.length,rv.length]
        have L:ds'.length=its'.toArray.size:=by rw[zad,<- x.length,E.length]
        have rc:SeqAt.RcAt A s (.ref p) (.ref z) (nj (.tup ds) (.tup ds')):=by
          have:=SeqAt.RcAt.tuples pt W c w;rw[<- C,<- L,kR]at this;exact this
        refine⟨?_,rc,?_⟩
        · by_cases Q:p=z
          · subst Q
            rw[Dn I hN S (n+1) (Rep.tup h y) (Rep.tup g x) J B];exact abR _
          · exact SeqAt.EqAt.of_refs Q rc
        · have:=SeqAt.RcNeAt.tuples pt W c w
          rw[<- C,<- L,kR]at this;exact this
     | @lst _ p xs f ds h y =>
      cases r;obtain⟨o,rv,e,_⟩:=I.list (hN _ _ _ _ h);have e:=e.isList;cases g with
      |de _ _=>cases B
      |bz=>cases i;exact⟨SeqAt.EqAt.list_none e c,SeqAt.RcAt.list_none e c,SeqAt.RcNeAt.list_none e c⟩
      |bl b=>cases i;exact⟨SeqAt.EqAt.list_bool b e c,SeqAt.RcAt.list_bool b e c,SeqAt.RcNeAt.list_bool b e c⟩
      |int b=>obtain⟨t,rfl⟩:=i;exact⟨SeqAt.EqAt.list_int b t e c,SeqAt.RcAt.list_int b t e c,SeqAt.RcNeAt.list_int b t e c⟩
      |str b=>obtain⟨t,rfl⟩:=i;exact⟨SeqAt.EqAt.list_str b t e c,SeqAt.RcAt.list_str b t e c,SeqAt.RcNeAt.list_str b t e c⟩
      |tup g rr=>cases i;obtain⟨its',_,pt,_⟩:=I.tuple g;exact⟨SeqAt.EqAt.list_tuple e pt c,SeqAt.RcAt.list_tuple e pt c,SeqAt.RcNeAt.list_tuple e pt c⟩
      | @lst _ z xs' f' ds' g x =>
        cases i;obtain⟨m,hm,P4⟩:=lJ J;obtain rfl:n=m:=by left
        obtain⟨m,hm,Z⟩:=lJ B;obtain rfl:n=m:=by left
        obtain⟨its',E,O,_⟩:=I.list (S _ _ _ _ g);have O:=O.isList;have w:=sub y x P4 Z rv E;have C:ds.length=o.toArray.size:=by rw[zad,<- y.length,rv.length]
        have L:ds'.length=its'.toArray.size:=by rw[zad,<- x.length,E.length]
        have two:SeqAt.RcAt A s (.ref p) (.ref z) (nj (.lst f ds) (.lst f' ds'))/\SeqAt.RcNeAt A s (.ref p) (.ref z) (!nj (.lst f ds) (.lst f' ds')):=by
          show SeqAt.RcAt A s (.ref p) (.ref z) (gQ ds ds')/\SeqAt.RcNeAt A s (.ref p) (.ref z) (!gQ ds ds');rw[<- kR];by_cases hl:ds.length=ds'.length
          · have e1:(ds.length==ds'.length)=true:=by simp[hl]
            rw[e1,zbA,<- hl,zbc];have P:o.toArray.size=its'.toArray.size:=by rw[<- C,<- L,hl]
            refine⟨?_,?_⟩
            · have:=SeqAt.RcAt.lists e O P c w
              rw[<- C]at this;exact this
            · have:=SeqAt.RcNeAt.lists e O P c w
              rw[<- C]at this;exact this
          · have e1:(ds.length==ds'.length)=false:=by simp[hl]
            rw[e1,zao];have P:(o.toArray.size != its'.toArray.size)=true:=by rw[<- C,<- L];simp[hl]
            exact⟨SeqAt.RcAt.lists_lengths e O P c,SeqAt.RcNeAt.lists_lengths e O P c⟩
        refine⟨?_,two.1,two.2⟩;by_cases Q:p=z
        · subst Q
          rw[Dn I hN S (n+1) (Rep.lst h y) (Rep.lst g x) J B];exact abR _
        · exact SeqAt.EqAt.of_refs Q two.1
     |_=>first | (cases M;done) | (cases J;done)
end
structure Px where
 pe:Nat->Scope->av->Expr->Option (ak)
 pi:Nat->Scope->av->Expr->Option (ak)
 pm:Nat->Scope->av->Stmt->Option (Expr×ak)
structure Sx where
 sc:Scope
 N:av
 fn:Nat->Option Str
 bl:av
 cs:List (Str×GK)
 px:Px
noncomputable def PK:AL->Operator
 |.add=>.Add|.sub=>.Sub|.mul=>.Mult|.fdiv=>.FloorDiv|.mod=>.Mod|.pow=>.Pow|.shr=>.RShift|.band=>.BitAnd
noncomputable def W_:Cv->CmpOp
 |.eq=>.Eq|.ne=>.NotEq|.lt=>.Lt|.le=>.LtE|.gt=>.Gt|.ge=>.GtE|.Co=>.In
noncomputable def tyName:Ty->String
 |.int=>"int" |.bool=>"bool" |.str=>"str" |.list=>"list" |.tuple=>"tuple"
noncomputable def uf:Bf->String
 |.len=>"len" |.abs=>"abs" |.tE=>"int" |.list1=>"list" |.tuple1=>"tuple" |.gu=>"sum" |.all1=>"all" |.iS=>"sorted"
noncomputable def L0(sc:Scope)(x:Str):Bool:=decide (sc.names.lookup x=some .local)||decide (sc.names.lookup x=some .cell)||decide (sc.names.lookup x=some .free)
noncomputable def iY(sc:Scope)(x:Str):Bool:=decide (sc.names.lookup x=some .globalImplicit)
noncomputable def oO(x:Str):Bool:=!(x==("__debug__" : Str))&&!(x==("__classdict__" : Str))&&decide (x≠("__name__" : Str))
noncomputable def jG:Expr->Bool
 |.Set _ _ _=>false
 |_=>true
noncomputable def vt(sc outer:Scope):Scope :=
 { sc with names:=sc.names.map λ(n,k)=>if (k==.free&&outer.kind==.function&&outer.names.lookup n==some .cell)then(n,.cell)else(n,k) }
noncomputable def cw:Expr->av
 |.Name x _=>[x]
 |.Tuple a _ _=>a.filterMap λe=>match e with|.Name x _=>some x|_=>none
 |_=>[]
noncomputable def hX(S:Sx)(caps:aJ):av:=caps.filterMap λi=>S.N[i]?
def Sx.inner(S:Sx)(target:Expr)(caps:aJ)(sc:Scope):Sx:=⟨vt sc S.sc,cw target++hX S caps,S.fn,S.bl,S.cs,S.px⟩
noncomputable def hU:Expr->Bool
 |.Tuple _ _ _=>true
 |_=>false
noncomputable def isNm(e:Expr):Bool:=decide (e.ctorIdx=23)
def nL{e:Expr}(h:isNm e=true):∃x p,e=.Name x p:=Expr.Name.elim (motive_1:=λe=>∃x p,e=.Name x p) e (aab h) λx p=>⟨x,p,rfl⟩
noncomputable def prE:Expr->Bool
 |.Call ..=>true
 |.BinOp ..=>true
 |.Subscript ..=>true
 |.Compare ..=>true
 |.Dict ..=>true
 |_=>false
noncomputable def Vj:Expr->Bool
 |.Call ..=>true
 |.Name ..=>true
 |_=>false
def aF{a b:Bool}(h:(a&&b)=true):a=true/\b=true:=by
 cases a<;>cases b<;>first|exact⟨rfl,rfl⟩|cases h
noncomputable def bC{b:Type}(o:Option b)(f:b->Bool):Bool:=match o with
 |some a=>f a
 |none=>false
def br{b:Type}{o:Option b}{f:b->Bool}(h:bC o f=true):∃a,o=some a/\f a=true:=by
 cases o with
 |some a=>exact⟨a,rfl,h⟩
 |none=>cases h
def dI{a:Type}{c:Prop}[Decidable c]{f:c->Option a}{x:a}(h:(if h:c then f h else none)=some x):∃k:c,f k=some x:=by
 by_cases k:c
 ·rw[dif_pos k]at h;exact⟨k,h⟩
 ·rw[dif_neg k]at h;cases h
def bT{d c:Type}{o:Option d}{f:d->Option c}{b:c}(h:o.bind f=some b):∃a,o=some a/\f a=some b:=Option.bind_eq_some_iff.mp h
def gT{a:Type}{c:Prop}[Decidable c]{o:Option a}{b:a}(h:(if c then o else none)=some b):c/\o=some b:=by
 by_cases k:c
 ·rw[zac k]at h;exact⟨k,h⟩
 ·rw[zab k]at h;cases h
noncomputable def vC(e:Expr):Option Const:=if h:e.ctorIdx=19 then Expr.Constant.elim (motive_1:=λ_=>Option Const) e h (λc _ _=>some c)else none
def zc{e:Expr}{c:Const}(h:vC e=some c):∃j p,e=.Constant c j p:=by
 obtain⟨k,h⟩:=dI h;exact Expr.Constant.elim (motive_1:=λe=>∀k:e.ctorIdx=19,Expr.Constant.elim (motive_1:=λ_=>Option Const) e k (λc _ _=>some c)=some c->∃j p,e=.Constant c j p) e k (λ_ _ _ _ h=>by cases h;exact⟨_,_,rfl⟩) k h
noncomputable def EN:Const->Bool
 |.none=>true
 |_=>false
def BG{c:Const}(h:EN c=true):c=.none:=by cases c<;>first|rfl|cases h
noncomputable def K9(b:Bool):Const->Bool
 |.bool c=>decide (b=c)
 |_=>false
def ER{b:Bool}{c:Const}(h:K9 b c=true):c=.bool b:=by cases c<;>first | (cases h;done)|rw[of_decide_eq_true h]
noncomputable def EO(b:Int):Const->Bool
 |.int c=>decide (b=c)
 |_=>false
def BH{b:Int}{c:Const}(h:EO b c=true):c=.int b:=by cases c<;>first | (cases h;done)|rw[of_decide_eq_true h]
noncomputable def EM(b:Str):Const->Bool
 |.str c=>decide (b=c)
 |_=>false
def BE{b:Str}{c:Const}(h:EM b c=true):c=.str b:=by cases c<;>first | (cases h;done)|rw[of_decide_eq_true h]
noncomputable def Kr(e:Expr):Option Str:=if h:e.ctorIdx=23 then Expr.Name.elim (motive_1:=λ_=>Option Str) e h (λx _=>some x)else none
def jA{e:Expr}{x:Str}(h:Kr e=some x):∃p,e=.Name x p:=by
 obtain⟨k,h⟩:=dI h;exact Expr.Name.elim (motive_1:=λe=>∀k:e.ctorIdx=23,Expr.Name.elim (motive_1:=λ_=>Option Str) e k (λx _=>some x)=some x->∃p,e=.Name x p) e k (λ_ _ _ h=>by cases h;exact⟨_,rfl⟩) k h
noncomputable def QN(e:Expr):Option (Expr×Operator×Expr):=if h:e.ctorIdx=2 then Expr.BinOp.elim (motive_1:=λ_=>Option (Expr×Operator×Expr)) e h (λl o r _=>some (l,o,r))else none
def Hf{e l r:Expr}{o:Operator}(h:QN e=some (l,o,r)):∃p,e=.BinOp l o r p:=by
 obtain⟨k,h⟩:=dI h;exact Expr.BinOp.elim (motive_1:=λe=>∀k:e.ctorIdx=2,Expr.BinOp.elim (motive_1:=λ_=>Option (Expr×Operator×Expr)) e k (λl o r _=>some (l,o,r))=some (l,o,r)->∃p,e=.BinOp l o r p) e k (λ_ _ _ _ _ h=>by cases h;exact⟨_,rfl⟩) k h
noncomputable def Wf(e:Expr):Option (UnaryOp×Expr):=if h:e.ctorIdx=3 then Expr.UnaryOp.elim (motive_1:=λ_=>Option (UnaryOp×Expr)) e h (λo e _=>some (o,e))else none
def CP{e x:Expr}{o:UnaryOp}(h:Wf e=some (o,x)):∃p,e=.UnaryOp o x p:=by
 obtain⟨k,h⟩:=dI h;exact Expr.UnaryOp.elim (motive_1:=λe=>∀k:e.ctorIdx=3,Expr.UnaryOp.elim (motive_1:=λ_=>Option (UnaryOp×Expr)) e k (λo e _=>some (o,e))=some (o,x)->∃p,e=.UnaryOp o x p) e k (λ_ _ _ _ h=>by cases h;exact⟨_,rfl⟩) k h
noncomputable def vBool(e:Expr):Option (BoolOp×ak):=if h:e.ctorIdx=0 then Expr.BoolOp.elim (motive_1:=λ_=>Option (BoolOp×ak)) e h (λo vs _=>some (o,vs))else none
def uN{e:Expr}{o:BoolOp}{vs:ak}(h:vBool e=some (o,vs)):∃p,e=.BoolOp o vs p:=by
 obtain⟨k,h⟩:=dI h;exact Expr.BoolOp.elim (motive_1:=λe=>∀k:e.ctorIdx=0,Expr.BoolOp.elim (motive_1:=λ_=>Option (BoolOp×ak)) e k (λo vs _=>some (o,vs))=some (o,vs)->∃p,e=.BoolOp o vs p) e k (λ_ _ _ _ h=>by cases h;exact⟨_,rfl⟩) k h
noncomputable def ZY(e:Expr):Option (Expr×Expr×Expr):=if h:e.ctorIdx=5 then Expr.IfExp.elim (motive_1:=λ_=>Option (Expr×Expr×Expr)) e h (λt x y _=>some (t,x,y))else none
def L7{e t x y:Expr}(h:ZY e=some (t,x,y)):∃p,e=.IfExp t x y p:=by
 obtain⟨k,h⟩:=dI h;exact Expr.IfExp.elim (motive_1:=λe=>∀k:e.ctorIdx=5,Expr.IfExp.elim (motive_1:=λ_=>Option (Expr×Expr×Expr)) e k (λt x y _=>some (t,x,y))=some (t,x,y)->∃p,e=.IfExp t x y p) e k (λ_ _ _ _ _ h=>by cases h;exact⟨_,rfl⟩) k h
noncomputable def one{a:Type}:List a->Option a
 |[]=>none
 |x::xs=>match xs with
  |[]=>some x
  |_::_=>none
def bV{a:Type}{l:List a}{x:a}(h:one l=some x):l=[x]:=by
 cases l with
 |nil=>cases h
 |cons y b=>cases b with
  |nil=>cases h;rfl
  |cons _ _=>cases h
def two{a:Type}:List a->Option (a×a)
 |[]=>none
 |x::xs=>(one xs).map λy=>(x,y)
def jB{a:Type}{l:List a}{x y:a}(h:two l=some (x,y)):l=[x,y]:=by
 cases l with
 |nil=>cases h
 |cons z b=>cases b with
  |nil=>cases h
  |cons w c=>cases c with
   |nil=>cases h;rfl
   |cons _ _=>cases h
noncomputable def Wg{a:Type}:List a->Option (a×List a)
 |[]=>none
 |x::xs=>some (x,xs)
def xy{a:Type}{l xs:List a}{x:a}(h:Wg l=some (x,xs)):l=x::xs:=by
 cases l with
 |nil=>cases h
 |cons y b=>cases h;rfl
noncomputable def CQ(e:Expr):Option (Expr×List CmpOp×ak):=if h:e.ctorIdx=15 then Expr.Compare.elim (motive_1:=λ_=>Option (Expr×List CmpOp×ak)) e h (λl b a _=>some (l,b,a))else none
def r6{e l:Expr}{a:List CmpOp}{rs:ak}(h:CQ e=some (l,a,rs)):∃p,e=.Compare l a rs p:=by
 obtain⟨k,h⟩:=dI h;exact Expr.Compare.elim (motive_1:=λe=>∀k:e.ctorIdx=15,Expr.Compare.elim (motive_1:=λ_=>Option (Expr×List CmpOp×ak)) e k (λl a rs _=>some (l,a,rs))=some (l,a,rs)->∃p,e=.Compare l a rs p) e k (λ_ _ _ _ _ h=>by cases h;exact⟨_,rfl⟩) k h
noncomputable def CT(e:Expr):Option (Expr×ak×List Keyword):=if h:e.ctorIdx=16 then Expr.Call.elim (motive_1:=λ_=>Option (Expr×ak×List Keyword)) e h (λf as a _=>some (f,as,a))else none
def AR{e f:Expr}{as:ak}{ks:List Keyword}(h:CT e=some (f,as,ks)):∃p,e=.Call f as ks p:=by
 obtain⟨k,h⟩:=dI h;exact Expr.Call.elim (motive_1:=λe=>∀k:e.ctorIdx=16,Expr.Call.elim (motive_1:=λ_=>Option (Expr×ak×List Keyword)) e k (λf as ks _=>some (f,as,ks))=some (f,as,ks)->∃p,e=.Call f as ks p) e k (λ_ _ _ _ _ h=>by cases h;exact⟨_,rfl⟩) k h
def fV(e:Expr):Option (Str×ak):=(CT e).bind λz=>if z.2.2.isEmpty=true then(Kr z.1).bind λx=>some (x,z.2.1)else none
def RX{a:Type}{l:List a}(h:l.isEmpty=true):l=[]:=List.isEmpty_iff.mp h
def ck{e:Expr}{x:Str}{as:ak}(h:fV e=some (x,as)):∃p a,e=.Call (.Name x p) as [] a:=by
 obtain⟨⟨f,i,g⟩,b,h⟩:=bT h;obtain⟨d,h⟩:=gT h;obtain⟨y,c,h⟩:=bT h;cases h;obtain⟨a,rfl⟩:=AR b;obtain⟨p,rfl⟩:=jA c;obtain rfl:=RX d;exact⟨p,a,rfl⟩
noncomputable def xu(e:Expr):Option (Expr×Expr):=if h:e.ctorIdx=21 then Expr.Subscript.elim (motive_1:=λ_=>Option (Expr×Expr)) e h (λa b _=>some (a,b))else none
def lA{e a b:Expr}(h:xu e=some (a,b)):∃p,e=.Subscript a b p:=by
 obtain⟨k,h⟩:=dI h;exact Expr.Subscript.elim (motive_1:=λe=>∀k:e.ctorIdx=21,Expr.Subscript.elim (motive_1:=λ_=>Option (Expr×Expr)) e k (λa b _=>some (a,b))=some (a,b)->∃p,e=.Subscript a b p) e k (λ_ _ _ _ h=>by cases h;exact⟨_,rfl⟩) k h
noncomputable def AQ(e:Expr):Option (ak):=if h:e.ctorIdx=25 then Expr.Tuple.elim (motive_1:=λ_=>Option (ak)) e h (λa _ _=>some a)else none
def jZ{e:Expr}{es:ak}(h:AQ e=some es):∃n p,e=.Tuple es n p:=by
 obtain⟨k,h⟩:=dI h;exact Expr.Tuple.elim (motive_1:=λe=>∀k:e.ctorIdx=25,Expr.Tuple.elim (motive_1:=λ_=>Option (ak)) e k (λes _ _=>some es)=some es->∃n p,e=.Tuple es n p) e k (λ_ _ _ _ h=>by cases h;exact⟨_,_,rfl⟩) k h
noncomputable def QL(e:Expr):Option (ak):=if h:e.ctorIdx=24 then Expr.List.elim (motive_1:=λ_=>Option (ak)) e h (λa _=>some a)else none
def Hc{e:Expr}{es:ak}(h:QL e=some es):∃p,e=.List es p:=by
 obtain⟨k,h⟩:=dI h;exact Expr.List.elim (motive_1:=λe=>∀k:e.ctorIdx=24,Expr.List.elim (motive_1:=λ_=>Option (ak)) e k (λes _=>some es)=some es->∃p,e=.List es p) e k (λ_ _ _ h=>by cases h;exact⟨_,rfl⟩) k h
noncomputable def Ks(e:Expr):Option (Expr×List Comprehension×Scope):=if h:e.ctorIdx=8 then Expr.ListComp.elim (motive_1:=λ_=>Option (Expr×List Comprehension×Scope)) e h (λe b a _=>some (e,b,a))else none
def uM{e x:Expr}{a:List Comprehension}{sc:Scope}(h:Ks e=some (x,a,sc)):∃p,e=.ListComp x a sc p:=by
 obtain⟨k,h⟩:=dI h;exact Expr.ListComp.elim (motive_1:=λe=>∀k:e.ctorIdx=8,Expr.ListComp.elim (motive_1:=λ_=>Option (Expr×List Comprehension×Scope)) e k (λe a sc _=>some (e,a,sc))=some (x,a,sc)->∃p,e=.ListComp x a sc p) e k (λ_ _ _ _ _ h=>by cases h;exact⟨_,rfl⟩) k h
def fY{a:Bool}(h:(!a)=true):a=false:=by cases a<;>first|rfl|cases h
def t_(S:Sx)(n:Nat)(t:Tg)(caps:aJ)(target:Expr)(sc:Scope):Bool :=
 decide (sc.kind=.function)&&sc.names.all (λ(x,k)=>decide (k≠.cell)&&(decide (k≠.local)||decide (sc.names.lookup x=some .local))&&(decide (k≠.free)||decide (S.sc.names.lookup x=some .cell)||decide (S.sc.names.lookup x=some .free))) &&
 decide (n=(cw target).length)&&(cw target).all (λx=>decide (sc.names.lookup x=some .local))&&decide (cw target++hX S caps).Nodup &&
 caps.all (λi=>match S.N[i]? with|some x=>decide (sc.names.lookup x=some .free)|none=>false) &&
 (match t with
  |.nm i=>decide (i=0)&&isNm target
  |.tp is=>bC (AQ target) λa=>decide (is=List.range a.length)&&a.all isNm)
mutual
noncomputable def b6(S:Sx):CE->Expr->Bool
 |.cI p es,e0=>prE e0&&bC (S.px.pe p S.sc S.bl e0) λxs=>bZ S es xs
 |.bz,e0=>bC (vC e0) λc=>EN c
 |.bl b,e0=>bC (vC e0) λc=>K9 b c
 |.int i,e0=>bC (vC e0) λc=>EO i c
 |.str s,e0=>bC (vC e0) λc=>EM s c
 |.v i,e0=>bC (Kr e0) λx=>decide (S.N[i]?=some x)&&L0 S.sc x&&oO x
 |.glo x i,e0=>bC (Kr e0) λy=>decide (y=x)&&iY S.sc x&&decide ((x,GK.i i)∈S.cs)&&!(x==("__debug__" : Str))
 |.glt x zs,e0=>bC (Kr e0) λy=>decide (y=x)&&iY S.sc x&&decide ((x,GK.t zs)∈S.cs)&&!(x==("__debug__" : Str))
 |.bin op a b,e0=>bC (QN e0) λz=>decide (z.2.1=PK op)&&b6 S a z.1&&b6 S b z.2.2
 |.neg a,e0=>bC (Wf e0) λz=>decide (z.1=.USub)&&b6 S a z.2
 |.not a,e0=>bC (Wf e0) λz=>decide (z.1=.Not)&&b6 S a z.2
 |.and es,e0=>bC (vBool e0) λz=>decide (z.1=.And)&&bZ S es z.2
 |.or es,e0=>bC (vBool e0) λz=>decide (z.1=.Or)&&bZ S es z.2
 |.ite c a b,e0=>bC (ZY e0) λz=>b6 S c z.1&&b6 S a z.2.1&&b6 S b z.2.2
 |.cmp op a b,e0=>bC (CQ e0) λz=>decide (z.2.1=[W_ op])&&b6 S a z.1&&bC (one z.2.2) λr=>b6 S b r&&jG r
 |.ra a t,e0=>bC (fV e0) λz=>decide (z.1=("isinstance" : Str))&&iY S.sc z.1&&decide (z.1∈S.bl)&&bC (two z.2) λy=>b6 S a y.1&&bC (Kr y.2) λx=>decide (x=(tyName t:Str))&&iY S.sc x&&decide (x∈S.bl)
 |.call f es,e0=>bC (fV e0) λz=>decide (S.fn f=some z.1)&&iY S.sc z.1&&oO z.1&&bC (Wg z.2) λy=>bZ S es (y.1::y.2)
 |.bf f es,e0=>bC (fV e0) λz=>decide (z.1=(uf f:Str))&&iY S.sc z.1&&decide (z.1∈S.bl)&&bC (Wg z.2) λy=>bZ S es (y.1::y.2)
 |.mj a,e0=>bC (fV e0) λz=>decide (z.1=("len" : Str))&&iY S.sc z.1&&decide (z.1∈S.bl)&&bC (one z.2) λy=>bC (fV y) λw=>decide (w.1=("set" : Str))&&iY S.sc w.1&&decide (w.1∈S.bl)&&bC (one w.2) λu=>b6 S a u
 |.ix a b,e0=>bC (xu e0) λz=>b6 S a z.1&&b6 S b z.2
 |.tup es,e0=>bC (AQ e0) λxs=>bZ S es xs&&decide (es.length<=1000)
 |.lst es,e0=>bC (QL e0) λxs=>bZ S es xs&&decide (es.length<=1000)
 |.comp n t caps ik es bJ elt,e0=>bC (Ks e0) λz=>bC (one z.2.1) λg=>decide (g.is_async=0)&&t_ S n t caps g.target z.2.2&&jG g.iter&&decide (bJ.length<=1)&&bZ (S.inner g.target caps z.2.2) bJ g.ifs&&b6 (S.inner g.target caps z.2.2) elt z.1 &&
     (match ik with
      |.ku=>bC (fV g.iter) λw=>decide (w.1=("range" : Str))&&iY S.sc w.1&&decide (w.1∈S.bl)&&bC (one w.2) λy=>bZ S es [y]
      |.seq=>bZ S es [g.iter]
      |.cI p=>Vj g.iter&&(decide (1100<=p)||hU g.target)&&bC (S.px.pi p S.sc S.bl g.iter) λxs=>bZ S es xs)
noncomputable def bZ(S:Sx):aA->ak->Bool
 |[],es=>match es with
  |[]=>true
  |_::_=>false
 |c::cs,es=>match es with
  |[]=>false
  |e::es=>b6 S c e&&bZ S cs es
end
def Hv(K:ao)(n:Nat)(m:aj):Sp:=λvs H Q _=>∃(F:ai) (ds:aa) (r:D),vs.length=n/\aI (bg K H) (nd K F (λ_=>False) (λ_=>none) H) [] 0 vs ds/\m ds=ok r /\
 ∀v H',aL H H'->(∃τt:Addr->Option bt,(∀p q,τt p=some q->H p=none)/\Rep (bg K H') (nd K (λp=>F p\/H p=none) (λ_=>False) τt H') [] v r)->Q v H'
structure Pw(X:Cx)(k:Nat)(x:Str)(m:aj):Prop where
 ex:∃(f:Addr) (fd:FuncData) (ps:av),iM X.prog X.w X.K X.mg X.base Cg k f fd ps (Hv X.K ps.length m)/\X.mg x=some (.ref f)/\PySem.W.keepIn X.K (.ref f)=true/\Binds X.K fd ps []/\∀ds r,m ds=ok r->ds.length=ps.length
noncomputable def kinds:List String:=["NoneType","bool","int","str","list","tuple","dict"]
def Sr:Ty->String->Bool
 |.int,s=>s == "int" ||s == "bool"
 |t,s=>s==tyName t
theorem aL.upd{H:Hp}{p:Addr}{o:HO}(h:H p=none):aL H (upd H p o):=λb u e=>by
 rw[bq (by rintro rfl;rw[h]at e;cases e)];exact e
def Eu{i j:Int}(h:jm i j=true):IntMulOk i j:=by
 unfold jm at h;simp only[zaU,zaf,decide_eq_true_eq]at h;rcases h with (h|h)|⟨c,b⟩
 ·exact .of_left (intBits_le h)
 ·exact .of_right (intBits_le h)
 ·have b1:Builtin.Int.intBits i<=9000:=intBits_le c;have b2:Builtin.Int.intBits j<=9000:=intBits_le b;unfold IntMulOk;have a:Builtin.Int.intTooBig ((Builtin.Int.intBits i:Int)+(Builtin.Int.intBits j:Int))=false:=by
   unfold Builtin.Int.intTooBig;have:(bitsLine:Int)=134217728:=by decide
   exact abl (by left)
  rw[a];simp
section
variable {K:ao}{R:ai}{τ τt:Addr->Option bt}{fv:aJ}{H H':Hp}
def Im:mT X (binaryOp .Add) (λx y H Q=>∃a b xs c,x=.ref a/\y=.ref b/\bg X.K H a xs/\bg X.K H b c/\xs.length+c.length<=sizeLine/\(xs=[]->Q (.ref b) H)/\(c=[]->Q (.ref a) H)/\∀p,H p=none->Q (.ref p) (upd H p (.tup (xs++c)))):=by
 intro pins s σ H x y v u Q I z w h;obtain⟨a,b,xs,c,rfl,rfl,o,m,L,q0,q1,q2⟩:=h;cases z;cases w;by_cases i:xs=[]
 ·subst i;obtain⟨P,r1,C,_⟩:=I.tuple o;obtain⟨J,r2,B,_⟩:=I.tuple m;cases r1;obtain⟨⟨O,M,data,t⟩,j,l,n,k⟩:=id C;obtain⟨⟨S,q,data2,r⟩,g,e,E,d⟩:=id B;simp only at l k e d;subst l k e d;exact concat_meets ⟨_,j,rfl⟩ ⟨_,g,rfl⟩ noFill_tuple_add seq_tuple_add ab7 ab3 (abX _ _)
   (tuple_addW0 a b [].toArray J.toArray n E M q t r rfl) ⟨j,g,⟨.ref b,H,I,rfl,q0 rfl⟩⟩
 ·exact Il pins s σ H (.ref a) (.ref b) _ _ Q I rfl rfl ⟨a,b,xs,c,rfl,rfl,o,m,i,L,q1,λ_=>q2⟩
def nd.pw(k k':bt)(p:Addr)(xs:Nd)(f:Fl)(h:nd K R A (λ_=>none) H k p xs f):nd K R A (λ_=>none) H k' p xs f:=by
 cases f with
 |ow=>exact nomatch h.2
 |fz=>exact h
 |al=>exact h
 |sc=>exact h
def RY(b:SI X F R τ ρ σ H)(a:∀p q,τt p=some q->H p=none)(k k':bt)(p:Addr)(xs:Nd)(f:Fl)(h:nd K R (kZ (gP X F) τ fv) τt H' k p xs f):
  nd K R (kZ (gP X F) τ fv) (λ_=>none) H' k' p xs (ba f):=by
 cases f with
 |ow=>exact⟨h.1,.inr (b.same.free (a p _ h.2)),λc i e=>absurd (a p _ h.2) (b.th p _ e)⟩
 |fz=>exact h
 |al=>exact h
 |sc=>exact h
def aI.gJ{k:bt}{n:Nat}(h:aI (bg K H') (nd K R (kZ (gP X F) τ fv) τt H') k n xs ds)(b:SI X F R τ ρ σ H)(a:∀p q,τt p=some q->H p=none){n':Nat}:
  aI (bg K H') (nd K R (kZ (gP X F) τ fv) (λ_=>none) H') k' n' xs (au ba ds):=aI.jw (λ_ _ h=>h) (RY b a) h _ _
def Rep.gJ{k:bt}{v:V}{d:D}(h:Rep (bg K H') (nd K R (kZ (gP X F) τ fv) τt H') k v d)(b:SI X F R τ ρ σ H)(a:∀p q,τt p=some q->H p=none):
  Rep (bg K H') (nd K R (kZ (gP X F) τ fv) (λ_=>none) H') k' v (aB ba d):=Rep.jw (λ_ _ h=>h) (RY b a) h _
theorem aI.rep{A:ai}{xs:ag}{ds:aa}(h:aI (bg K H) (nd K R A (λ_=>none) H) [] 0 xs (au ba ds)):∀n:Nat,aI (bg K H) (nd K R A (λ_=>none) H) [] 0 (List.replicate n xs).flatten (au ba (List.replicate n ds).flatten)
 |0=>.nil
 |n+1=>by
  rw[zaF,zaF,zaO,zaO,aE,zax,<- aE,<- aE];exact aI.uo nd.pw h (aI.rep h n)
def b8.oP{p:Addr}(d:H p=none)(e:aL H H')(hl:H' p=some (.lst xs))(r:aI (bg K H') (nd K R (kZ G τ fv) (λ_=>none) H') [] 0 xs ds):b8 K G R τ fv H H' (.ref p) (.lst .ow ds):=by
 refine⟨λq=>if q=p then some []else none,λq k b=>?_,.lst ⟨hl,by simp⟩ (r.imp (λ_ _ h=>h) λc q xs f h=>?_)⟩
 ·by_cases a:q=p
  ·subst a;exact d
  ·simp[a]at b
 ·cases f with
  |ow=>exact nomatch h.2
  |fz=>exact h
  |al=>exact h
  |sc=>exact h
end
def IQ(K:ao):∀t:Ty,∀s∈kinds,PySem.W.kitOne K (.type s) (.type (tyName t))=some (Sr t s):=by
 intro t s a;simp only[kinds,zak,zai,or_false]at a;cases t<;>rcases a with rfl|rfl|rfl|rfl|rfl|rfl|rfl<;>rfl
structure PX(X:Cx)(sc:Scope)(bl:av)(k:Nat):Prop where
 sc:X.env.scope=sc
 calm:X.calm=true
 room:h_ k X.A
 bl:∀x∈bl,X.mg x=none
def PX.gl{sc:Scope}{bl:av}{k:Nat}(L:PX X sc bl k){x:Str}(h:iY sc x=true):Gl X x:=by
 unfold Gl;show X.env.scope.names.lookup x=some .globalImplicit;rw[L.sc];exact aab h
def ql(X:Cx)(F:ai)(Φ:aU):aA->ak->Prop
 |[],[]=>True
 |c::cs,a::as=>PE X a (tD X F Φ c)/\(∀b,starEach (a::b) X.env=(false,eval a X.env)::starEach b X.env)/\og a/\ql X F Φ cs as
 |_,_=>False
structure rP(K:ao)(H2:Hp)(vs:ag)(xs:aa)(H':Hp):Prop where
 n0:∃R0:ai,aI (bg K H2) (nd K R0 (λ_=>False) (λ_=>none) H2) [] 0 vs (au aD xs)/\∀p o,R0 p->H2 p=some o->H' p=some o
 tp:∀a ys,bg K H2 a ys->bg K H' a ys
structure Ki(K:ao)(J:It)(H2:Hp)(vs:ag)(xs items:aa):Prop where
 go:∀i H' R',rP K H2 vs xs H'->aI (bg K H') (nd K R' (λ_=>False) (λ_=>none) H') [] 0 vs (au aD xs)->i<items.length->J.go i H'
 w9:∀i H' R' x ko,rP K H2 vs xs H'->aI (bg K H') (nd K R' (λ_=>False) (λ_=>none) H') [] 0 vs (au aD xs)->i<items.length->J.w9 i H' x ko->aL H' ko/\∃d,items[i]?=some d/\Rep (bg K ko) (nd K R' (λ_=>False) (λ_=>none) ko) [] x d
 stop:∀i H' R',rP K H2 vs xs H'->aI (bg K H') (nd K R' (λ_=>False) (λ_=>none) H') [] 0 vs (au aD xs)->items.length<=i->J.stop i H'
abbrev GY(a:Scope->av->Expr->Option (ak))(m:aj):Prop:=∀{Φ:aU} {n:Nat},Φ n=m->∀{X:Cx} {sc:Scope} {bl:av} {k:Nat},PX X sc bl k->∀{e:Expr} {args:ak},a sc bl e=some args->∀{F:ai} {cs:aA},ql X F Φ cs args->PE X e (tD X F Φ (.cI n cs))/\PT X e (ip X F Φ (.cI n cs))
structure qb(px:Px)(Φ:aU):Prop where
 e:∀(X:Cx) (sc:Scope) (bl:av) (k:Nat),PX X sc bl k->∀(p:Nat) (e:Expr) (args:ak),px.pe p sc bl e=some args->∀(F:ai) (cs:aA),ql X F Φ cs args->PE X e (tD X F Φ (.cI p cs))/\PT X e (ip X F Φ (.cI p cs))
 i:∀(X:Cx) (sc:Scope) (bl:av) (k:Nat),PX X sc bl k->∀(p:Nat) (e:Expr) (args:ak),px.pi p sc bl e=some args->∀(F:ai) (cs:aA) (tg:Expr),(decide (1100<=p)||hU tg)=true->ql X F Φ cs args ->
  ∀(pins:aw) (s:Shared) (σ:St) (H:Hp) (R:ai) (τ:Addr->Option bt) (ρ:a_) (xs:aa) (d:D) (items:aa),Inv X pins σ H s->SI X F R τ ρ σ H->bL Φ cs ρ=ok xs->Φ p xs=ok d->kI d=ok items->∀Rr:It->Hp->Prop,
   (∀J H2 vs,aL H H2->cF X.K (gP X F) R τ (dJ cs) H H2 vs xs->Ki X.K J H2 vs xs items->Rr J H2) ->
   wpAny (model X.prog X.w) X.A (eval e X.env) (λv s1=>wpAny (model X.prog X.w) X.A (pyIter v) (Ct X pins σ tg Rr) X.xe s1) X.xe s
def w8(K:ao):GK->Value->Prop
 |.i i,u=>RelV (.int i) u
 |.t zs,u=>∃(a:Addr) (o:Obj) (b:aY) (n:Nat),u=.ref a/\K.lookup a=some o/\o.cls=.type "tuple" /\ o.data=.seq b n/\b.size<=sizeLine/\Vals (zs.map V.int) b.toList
structure Lk(X:Cx)(S:Sx)(k:Nat)(Φ:aU):Prop where
 sc:X.env.scope=S.sc
 N:X.N=S.N
 nd:X.N.Nodup
 calm:X.calm=true
 room:h_ k X.A
 bl:∀x∈S.bl,X.mg x=none
 fn:∀f x,S.fn f=some x->Pw X k x (Φ f)
 cs:∀x i,(x,i)∈S.cs->∃u,X.mg x=some u/\w8 X.K i u
 pr:qb S.px Φ
variable {S:Sx}{Φ:aU}
def Lk.pX{k:Nat}(L:Lk X S k Φ):PX X S.sc S.bl k:=⟨L.sc,L.calm,L.room,L.bl⟩
variable {Q:VK}{p' p1 p2 pos pos':Pos}
section
variable {X:Cx}{S:Sx}{k:Nat}{F:ai}{Φ:aU}
def Lk.gl(L:Lk X S k Φ){x:Str}(h:iY S.sc x=true):Gl X x:=by
 unfold Gl;show X.env.scope.names.lookup x=some .globalImplicit;rw[L.sc];exact aab h
def Lk.ZW(L:Lk X S k Φ){x:Str}(h:L0 S.sc x=true):Pq X.env.scope x:=by
 unfold Pq;rw[L.sc];unfold L0 at h;rw[zaU,zaU]at h;rcases h with (h|h)|h
 ·exact .inl (aab h)
 ·exact .inr (.inl (aab h))
 ·exact .inr (.inr (aab h))
def tD.intro{c:CE}{d:D}(a:SI X F R τ ρ σ H)(e:bp Φ c ρ=ok d)(h:∀v H',aL H H'->b8 X.K (gP X F) R τ (gE c) H H' v d->Q v H'):tD X F Φ c σ H Q:=⟨R,τ,ρ,d,a,e,h⟩
def WO(L:Lk X S k Φ){i:Nat}{x:Str}(h:b6 S (.v i) (.Name x pos)=true):PE X (.Name x pos) (tD X F Φ (.v i)):=by
 replace h:=aF h;replace h:=And.intro (aF h.1) h.2;obtain⟨⟨r,o⟩,a⟩:=h;unfold oO at a;simp only[zaf,zaW]at a;refine PE.imp (mf (i:=i) (by rw[L.N];exact aab r) (L.ZW o) a.1.1 a.1.2) λσ H Q b=>?_;obtain⟨R,τ,ρ,d,g,s,b⟩:=b;obtain⟨d',n,rfl⟩:=Dl s
 ·obtain⟨v,l,m⟩:=g.rep i d' n;refine⟨v,l,b v H (aL.refl H) ⟨λ_=>none,λ_ _ h=>by simp at h,?_⟩⟩;refine Rep.map (q:=[i]) (q':=[]) (λ_ _ h=>h) (λc p xs f h=>?_) m [] rfl;cases f with
  |ow =>
   refine⟨h.1,.inr (g.t0 p _ h.2),λu j e=>?_⟩;rw[h.2]at e;have t:=aat e;have:=aaU List.getLast? t;simp at this;show _∈[i];simp[this]
  |fz=>exact h
  |al=>exact h.2.elim
  |sc=>exact h
def J9{op:AL}{x y d:D}(h:dB op x y=ok d):(∃i j,x=.int i/\y=.int j/\Xd op i j=true/\d=.int (resB op i j))\/J8 op x y=ok d:=by
 cases x with
 |int i=>cases y with
  |int j =>
   obtain⟨c,e⟩:=uE h;exact .inl ⟨i,j,rfl,rfl,c,e.symm⟩
  |_=>exact .inr h
 |_=>exact .inr h
def W9(op:AL):mT X (binaryOp (PK op)) (rI (λi j=>Xd op i j=true) λi j=>.int (resB op i j)):=by
 cases op with
 |add=>exact KW λ_ _ _ _ _ _ _ _ q=>add_int q
 |sub=>exact KW λ_ _ _ _ _ _ _ _ q=>sub_int q
 |mul=>exact KW λ_ _ _ _ _ _ _ a q=>mul_int q (Eu a)
 |mod=>exact KW λ_ _ _ _ _ _ _ a q=>mod_int' (aab a) q
 |fdiv =>
  exact KW λi j _ _ _ _ _ a q=>by
   obtain⟨b,c⟩:=aF a;exact floordiv_int (aab b) q (.inl (PyProof.noPylong_of_log2 ((Nat.log2_lt (by have:=aab b;left)).mpr (aab c))))
 |pow =>
  exact KW λi j _ _ _ _ _ a q=>by
   obtain⟨a,d⟩:=aF a;obtain⟨b,c⟩:=aF a;exact pow_int_small (aab b) (aab c) (aab d) q
 |shr=>exact KW λi j _ _ _ _ _ a q=>rshift_int (aab a) (by rw[zaA i (xA _)];exact q)
 |band =>
  exact KW λi j _ _ _ _ _ a q=>by
   obtain rfl:=aab a;exact and_int (by rw[bitAnd_m1];exact q)
def ME(L:Lk X S k Φ){op:AL}{a b:CE}{l r:Expr}(ha:PE X l (tD X F Φ a))(hb:PE X r (tD X F Φ b)):PE X (.BinOp l (PK op) r pos) (tD X F Φ (.bin op a b)):=by
 have gen:∀{Z:R2},mT X (binaryOp (PK op)) Z->(∀{R τ ρ σ H d x y v u H'} {Q:VK},SI X F R τ ρ σ H->J8 op x y=ok d->aL H H'->b8 X.K (gP X F) R τ (gE (.bin op a b)) H H' v x->b8 X.K (gP X F) R τ (gE (.bin op a b)) H H' u y ->
   (∀v H',aL H H'->b8 X.K (gP X F) R τ (gE (.bin op a b)) H H' v d->Q v H')->Z v u H' Q)->PE X (.BinOp l (PK op) r pos) (tD X F Φ (.bin op a b)):=by
  intro Z ho hx;refine PE.imp (KR ((W9 op).or ho) ha hb) λσ H Q t=>?_;obtain⟨R,τ,ρ,d,w,E,t⟩:=t;obtain⟨x,ex,E⟩:=aH E;obtain⟨y,ey,E⟩:=aH E;refine tD.intro w ex λv H1 e1 r1=>tD.intro (w.go e1) ey λu H2 e2 r2=>?_;have e:=e1.trans e2;rcases J9 E with ⟨i,j,rfl,rfl,c,rfl⟩|E
  ·exact .inl ⟨i,j,(r1.go e2).isInt,r2.isInt,c,t _ H2 e .int⟩
  ·exact .inr (hx w E e ((r1.go e2).mono λi hi=>aaB _ hi) ((r2.old e1).mono λi hi=>aap _ hi) t)
 have no:∀{f:Value->Value->Sem Value},mT X f λ_ _ _ _=>False:=λ_ _ _ _ _ _ _ _ _ _ _ _ h=>h.elim;have hz:sizeLine=16777216:=abn;have o9:eB=1000000:=rfl;cases op with
 |mul =>
  refine gen M5 λ{R τ ρ σ H d x y v u H' Q} w o e rv W t=>?_;cases x with
  |lst f a=>cases y with
   |int j =>
    obtain⟨M,o⟩:=uE o;subst o;obtain⟨τt,O,J⟩:=rv;obtain⟨p,xs,rfl,I,B⟩:=J.mU;refine⟨p,j,xs,rfl,W.isInt,I.lst M.1,by left,by left,by rw[B.length];left,λp' C=>?_⟩;have q:aL H' (upd H' p' (.lst (List.replicate j.toNat xs).flatten)):=aL.upd C;refine t _ _ (e.trans q) (b8.oP (e.free C) (e.trans q) (bc) ?_);exact(aI.rep (B.gJ w O) j.toNat).imp (λ_ _ h=>bg.same q h) λ_ _ _ _ h=>nd.same q h
   |_=>cases o
  |_=>cases o
 |add =>
  refine gen (Ef.or Im) λ{R τ ρ σ H d x y v u H' Q} w o e rv W t=>?_;cases x with
  |lst f a=>cases y with
   |lst g b =>
    obtain⟨M,o⟩:=uE o;subst o;obtain⟨τt,O,J⟩:=rv;obtain⟨V_,Ua,WV⟩:=W;obtain⟨p,xs,rfl,I,B⟩:=J.mU;obtain⟨p2,U,rfl,Y,P⟩:=WV.mU;refine .inl ⟨p,p2,xs,U,rfl,rfl,I.lst M.1,Y.lst M.2.1,by rw[B.length,P.length];left,λp' C=>?_⟩;have q:aL H' (upd H' p' (.lst (xs++U))):=aL.upd C;refine t _ _ (e.trans q) (b8.oP (e.free C) (e.trans q) (bc) ?_);rw[aE,zax,<- aE,<- aE];exact(aI.uo nd.pw (n:=0) (m:=0) (B.gJ w O) (P.gJ w Ua)).imp (λ_ _ h=>bg.same q h) λ_ _ _ _ h=>nd.same q h
   |_=>cases o
  |tup a=>cases y with
   |tup b =>
    obtain⟨M,o⟩:=uE o;subst o;obtain⟨τt,O,J⟩:=rv;obtain⟨V_,Ua,WV⟩:=W;obtain⟨p,xs,rfl,I,B⟩:=J.AO;obtain⟨p2,U,rfl,Y,P⟩:=WV.AO;have hl:=B.length;have yt:=P.length;have s:=aI.uo nd.pw (n:=0) (m:=0) (l:=0) (k:=[]) (B.gJ w O) (P.gJ w Ua);rw[aE,aE,<- zax,<- aE]at s;refine .inr ?_;refine⟨p,p2,xs,U,rfl,rfl,I,Y,by rw[hl,yt];left,λz=>?_,λz=>?_,λp' C=>?_⟩
    ·subst z;exact t _ H' e ⟨λ_=>none,λ_ _ h=>by simp at h,.tup Y s⟩
    ·subst z;rw[zaI]at s;exact t _ H' e ⟨λ_=>none,λ_ _ h=>by simp at h,.tup I s⟩
    ·have q:aL H' (upd H' p' (.tup (xs++U))):=aL.upd C;exact t _ _ (e.trans q) ⟨λ_=>none,λ_ _ h=>by simp at h,.tup (bg.of bc) (s.imp (λ_ _ h=>bg.same q h) λ_ _ _ _ h=>nd.same q h)⟩
   |_=>cases o
  |_=>cases o
 |_=>exact gen no λ_ o _ _ _ _=>nk o
end
section
variable {T T':nq}{N N':kA}{P:Fl->Bool}
def Rep.without(a:∀p xs,T p xs->T' p xs)(b:∀k k' p xs f,P f=false->N k p xs f->N' k' p xs f){k:bt}{v:V}{d:D}(h:Rep T N k v d)(e:bh P d=false)(k':bt):Rep T' N' k' v d:=by
 have:=Rep.gen (g:=id) (P:=P) (N':=N') (C:=λ_ _=>True) (I:=λ_ _=>True) a trivial (λ_ _ e=>e) (λ_ _ _ _ e _=>e) (λk k' p xs f _ e h=>b k k' p xs f e h) h (k':=k') trivial e;rw[fj]at this;exact this
def aI.without(a:∀p xs,T p xs->T' p xs)(b:∀k k' p xs f,P f=false->N k p xs f->N' k' p xs f){k:bt}{n:Nat}(h:aI T N k n vs ds)(e:aV P ds=false)(k':bt)(n':Nat):aI T' N' k' n' vs ds:=by
 have:=aI.gen (g:=id) (P:=P) (N':=N') (C:=λ_ _=>True) (I:=λ_ _=>True) a trivial (λ_ _ e=>e) (λ_ _ _ _ e _=>e) (λk k' p xs f _ e h=>b k k' p xs f e h) h (k':=k') (n':=n') trivial trivial e;rw[fG]at this;exact this
def Rep.lu(i:∀p xs,T p xs->T' p xs)(j:∀k p xs f,P f=false->N k p xs f->N' k p xs f){k:bt}{v:V}{d:D}(h:Rep T N k v d)(e:bh P d=false):Rep T' N' k v d:=by
 have:=Rep.gen (g:=id) (P:=P) (N':=N') (C:=λa b=>a=b) (I:=λa b=>a=b) i rfl (λ_ _ e=>by rw[e]) (λ_ _ _ _ a b=>by rw[a,b]) (λk k' p xs f c e h=>by subst c;exact j k p xs f e h) h rfl e;rw[fj]at this;exact this
def aI.lu(d:∀p xs,T p xs->T' p xs)(i:∀k p xs f,P f=false->N k p xs f->N' k p xs f){k:bt}{n:Nat}(h:aI T N k n vs ds)(e:aV P ds=false):aI T' N' k n vs ds:=by
 have:=aI.gen (g:=id) (P:=P) (N':=N') (C:=λa b=>a=b) (I:=λa b=>a=b) d rfl (λ_ _ e=>by rw[e]) (λ_ _ _ _ a b=>by rw[a,b]) (λk k' p xs f c e h=>by subst c;exact i k p xs f e h) h rfl rfl e;rw[fG]at this;exact this
end
def Rep.sZ{k:bt}{v:V}{d:D}(h:Rep (bg K H) (nd K R (λ_=>False) (λ_=>none) H) k v d):Rep (bg K H) (nd K R (λ_=>False) (λ_=>none) H) k' v d:=by
 have:=Rep.jw (g:=id) (λ_ _ h=>h) nd.pw h k';rw[fj]at this;exact this
inductive kz(X:Cx)(R:ai)(τ:Addr->Option bt)(H:Hp)(v:V)(d:D):Prop where
 |mk (τt:Addr->Option bt) (h1:∀p q,τt p=some q->τ p=none/\¬ R p/\X.H₀ p=none/\H p≠none) (h2:Rep (bg X.K H) (nd X.K R (λ_=>False) τt H) [] v d)
section
variable {X:Cx}{F R:ai}{τ:Addr->Option bt}{ρ:a_}{σ:St}{H H':Hp}
noncomputable def xE(i:Nat)(τt τ:Addr->Option bt):Addr->Option bt:=λp=>match τt p with|some q=>some (q++[i])|none=>τ p
def SI.Rm{i:Nat}{v:V}{d:D}(a:SI X F R τ ρ σ H)(e:∀p q,τt p=some q->τ p=none/\¬ R p/\X.H₀ p=none/\H p≠none)(o:Rep (bg X.K H) (nd X.K R (λ_=>False) τt H) [] v d)(n:i<ρ.length):SI X F R (xE i τt τ) (ρ.set i (some d)) (σ.set i (some v)) H:=by
 refine⟨by simp[a.len],λj d' g=>?_,λp m=>?_,a.rh,a.rf,λp q b=>?_,λp q b=>?_,a.same⟩
 ·by_cases l:j=i
  ·subst l;rw[List.getElem?_set_self n]at g;cases g;refine⟨v,abj (by rw[<- a.len];exact n),o.imp (q':=[j]) (λ_ _ h=>h) λc p xs f h=>?_⟩;cases f with
   |ow=>rw[zaI]at h;exact⟨h.1,by simp only[xE,h.2]⟩
   |fz=>exact h
   |al=>exact h
   |sc=>exact h
  ·rw[List.getElem?_set_ne (Ne.symm l)]at g;obtain⟨w,hw,r⟩:=a.rep j d' g;refine⟨w,by rw[List.getElem?_set_ne (Ne.symm l)];exact hw,r.imp (λ_ _ h=>h) λc p xs f h=>?_⟩;cases f with
   |ow =>
    refine⟨h.1,?_⟩;cases q:τt p with
    |none=>simp only[xE,q];exact h.2
    |some k=>have:=(e p k q).1;rw[h.2]at this;cases this
   |fz=>exact h
   |al=>exact h
   |sc=>exact h
 ·cases q:τt p with
  |none=>simp only[xE,q];exact a.rt p m
  |some k=>exact absurd m (e p k q).2.1
 ·cases z:τt p with
  |none=>simp only[xE,z]at b;exact a.th p q b
  |some k=>exact(e p k z).2.2.2
 ·cases z:τt p with
  |none=>simp only[xE,z]at b;exact a.t0 p q b
  |some k=>exact(e p k z).2.2.1
theorem SI.set{i:Nat}{v:V}{d:D}(e:SI X F R τ ρ σ H)(r:kz X R τ H v d)(c:i<ρ.length):∃τ',SI X F R τ' (ρ.set i (some d)) (σ.set i (some v)) H:=by
 obtain⟨τt,b,a⟩:=r;exact⟨_,e.Rm b a c⟩
def BS{k:bt}{v:V}{d:D}(h:Rep (bg X.K H) (nd X.K R (λ_=>False) τ H) k v d)(a:bh cQ d=false):kz X R τ H v d :=
 ⟨λ_=>none,λ_ _ h=>by simp at h,Rep.without (P:=cQ) (λ_ _ h=>h) (λk k' p xs f b h=>by
  cases f with
  |ow=>cases b
  |fz=>exact h
  |al=>exact h.2.elim
  |sc=>exact h) h a _⟩
open Classical in
def SI.move{i:Nat}{d:D}(a:SI X F R τ ρ σ H)(s:ρ[i]?=some (some d)):∃v τ',σ[i]?=some (some v)/\SI X F R τ' (ρ.set i none) σ H/\kz X R τ' H v d:=by
 obtain⟨v,n,l⟩:=a.rep i d s;refine⟨v,λp=>match τ p with|some q=>if q.getLast?=some i then none else some q|none=>none,n,⟨by simp[a.len],λj d' e=>?_,λp o=>?_,a.rh,a.rf,λp q b=>?_,λp q b=>?_,a.same⟩,
  λp=>match τ p with|some q=>if q.getLast?=some i then(if H p=none then none else some q.dropLast)else none|none=>none,λp q b=>?_,l.imp (q:=[i]) (q':=[]) (λ_ _ h=>h) λc p xs f h=>?_⟩
 ·by_cases g:j=i
  ·subst g;rw[List.getElem?_set]at e;simp at e
  ·rw[List.getElem?_set_ne (Ne.symm g)]at e;obtain⟨w,hw,m⟩:=a.rep j d' e;refine⟨w,hw,m.imp (q:=[j]) (q':=[j]) (λ_ _ h=>h) λc p xs f h=>?_⟩;cases f with
   |ow =>
    refine⟨h.1,?_⟩;simp only[h.2];rw[zab (by simp;exact g)]
   |fz=>exact h
   |al=>exact h
   |sc=>exact h
 ·simp only[a.rt p o]
 ·cases z:τ p with
  |none=>simp only[z]at b;cases b
  |some k=>exact a.th p k z
 ·cases z:τ p with
  |none=>simp only[z]at b;cases b
  |some k=>exact a.t0 p k z
 ·cases z:τ p with
  |none=>simp only[z]at b;cases b
  |some k =>
   simp only[z]at b ⊢;by_cases hl:k.getLast?=some i
   ·rw[zac hl];exact⟨rfl,(λhR=>by have:=a.rt p hR;rw[z]at this;cases this),a.t0 p k z,a.th p k z⟩
   ·rw[zab hl]at b;cases b
 ·cases f with
  |ow =>
   refine⟨h.1,?_⟩;have r:H p≠none:=h.1.ne;simp only[h.2];rw[zac (by simp),zab r];simp
  |fz=>exact h
  |al=>exact h.2.elim
  |sc=>exact h
def z6(is:aJ)(ρ:a_)(j:Nat)(d:D)(h:(jo is ρ)[j]?=some (some d)):∃d',ρ[j]?=some (some d')/\d=(if j∈is then aB aD d' else d'):=by
 unfold jo at h;rw[List.getElem?_mapIdx]at h;cases q:ρ[j]? with
 |none=>rw[q]at h;exact nk h
 |some o =>
  rw[q]at h;cases o with
  |none=>simp at h
  |some d' =>
   refine⟨d',rfl,?_⟩;by_cases a:j∈is
   ·simp[a]at h ⊢;exact h.symm
   ·simp[a]at h ⊢;exact h.symm
open Classical in
def z7(b:SI X F R τ ρ σ H)(es:aL H H'):
  ∃R' τ',(∀p,R p->R' p)/\SI X F R' τ' (jo fv ρ) σ H'/\∀τt:Addr->Option bt,(∀p q,τt p=some q->H p=none)->∀(k k':bt) (p:Addr) (xs:Nd) (f:Fl),nd X.K R (kZ (gP X F) τ fv) τt H' k p xs f->nd X.K R' (λ_=>False) (λ_=>none) H' k' p xs (aD f):=by
 have g:=b.go es;have fresh:∀p,H p=none->kZ (gP X F) τ fv p:=λp a=>⟨.inr (b.same.free a),λc i e=>absurd a (b.th p _ e)⟩
 refine⟨λp=>R p\/(H' p≠none/\kZ (gP X F) τ fv p),λp=>if kZ (gP X F) τ fv p then none else τ p,λp h=>.inl h,⟨by simp[jo,b.len],λj d' o=>?_,λp a=>?_,λp a=>?_,λp a=>?_,λp q d=>?_,λp q d=>?_,g.same⟩,λτt s k k' p xs f h=>?_⟩
 ·obtain⟨d0,r,e0⟩:=z6 _ _ _ _ o;obtain⟨w,hw,m⟩:=g.rep j d0 r;refine⟨w,hw,?_⟩;by_cases l:j∈fv
  ·rw[zac l]at e0;subst e0;refine Rep.map (q:=[j]) (q':=[j]) (λ_ _ h=>h) (λc p xs f h=>?_) m [] rfl;cases f with
   |ow =>
    refine⟨h.1,.inr ⟨h.1.ne,.inr (b.t0 p _ h.2),λu t n=>?_⟩⟩;rw[h.2]at n;have:=aaU List.getLast? (aat n);simp at this;subst this;exact l
   |fz=>exact⟨h.1,.inl h.2⟩
   |al=>exact h.2.elim
   |sc=>exact h
  ·rw[zab l]at e0;subst e0;refine m.imp (q:=[j]) (q':=[j]) (λ_ _ h=>h) λc p xs f h=>?_;cases f with
   |ow =>
    refine⟨h.1,?_⟩;show(if kZ (gP X F) τ fv p then none else τ p)=some (c++[j]);rw[zab (λz=>l (z.2 c j h.2))];exact h.2
   |fz=>exact⟨h.1,.inl h.2⟩
   |al=>exact h.2.elim
   |sc=>exact h
 ·rcases a with a|a
  ·simp only[b.rt p a];split<;>rfl
  ·rw[zac a.2]
 ·rcases a with a|a
  ·exact g.rh p a
  ·exact a.1
 ·rcases a with a|a
  ·exact b.rf p a
  ·exact a.2.1
 ·split at d
  ·cases d
  ·exact g.th p q d
 ·split at d
  ·cases d
  ·exact b.t0 p q d
 ·cases f with
  |ow=>exact⟨h.1,.inr ⟨h.1.ne,fresh p (s p _ h.2)⟩⟩
  |fz=>exact⟨h.1,.inl h.2⟩
  |al=>exact⟨h.1,.inr ⟨h.1.ne,h.2⟩⟩
  |sc=>exact h
def tP{v:V}{d:D}(i:SI X F R τ ρ σ H)(es:aL H H')(r:b8 X.K (gP X F) R τ fv H H' v d):
  ∃R' τ',(∀p,R p->R' p)/\SI X F R' τ' (jo fv ρ) σ H'/\Rep (bg X.K H') (nd X.K R' (λ_=>False) (λ_=>none) H') [] v (aB aD d):=by
 obtain⟨τt,g,a⟩:=r;obtain⟨R',τ',e,c,b⟩:=z7 (fv:=fv) i es;exact⟨R',τ',e,c,Rep.jw (λ_ _ h=>h) (b τt g) a _⟩
def v7(g:SI X F R τ ρ σ H)(es:aL H H')(r:cF X.K (gP X F) R τ fv H H' vs ds):
  ∃R' τ',(∀p,R p->R' p)/\SI X F R' τ' (jo fv ρ) σ H'/\aI (bg X.K H') (nd X.K R' (λ_=>False) (λ_=>none) H') [] 0 vs (au aD ds):=by
 obtain⟨τt,e,a⟩:=r;obtain⟨R',τ',d,c,b⟩:=z7 (fv:=fv) g es;exact⟨R',τ',d,c,aI.jw (λ_ _ h=>h) (b τt e) a _ _⟩
def nG{v:V}{d:D}(h:Rep (bg X.K H) (nd X.K R (λ_=>False) (λ_=>none) H) [] v d):kz X R τ' H v d:=⟨λ_=>none,λ_ _ h=>by simp at h,h⟩
open Classical in
def K4{e:CE}{v:V}{d:D}(c:SI X F R τ ρ σ H)(es:aL H H')(r:b8 X.K (gP X F) R τ (gE e) H H' v d):
  ∃R' τ',(∀p,R p->R' p)/\SI X F R' τ' (keep e d ρ).2 σ H'/\kz X R' τ' H' v (keep e d ρ).1:=by
 unfold keep;by_cases b:bh bR d=true
 ·rw[zac b];obtain⟨R',τ',n,m,l⟩:=tP c es r;exact⟨R',τ',n,m,nG l⟩
 ·obtain⟨τt,o,i⟩:=r;rw[zab b];refine⟨R,τ,λ_ h=>h,c.go es,λp=>if H' p=none then none else τt p,λp q g=>?_,?_⟩
  ·try dsimp only at g
   split at g
   ·cases g
   ·rename_i j;have a:=o p q g;refine⟨?_,λhR=>c.rh p hR a,c.same.free a,j⟩;cases z:τ p with
    |none=>rfl
    |some k=>exact absurd a (c.th p k z)
  ·have s:bh bR d=false:=by simpa using b
   have st:∀{k:bt} {v:V} {d:D},Rep (bg X.K H') (nd X.K R (kZ (gP X F) τ (gE e)) τt H') k v d->bh bR d=false->Rep (bg X.K H') (nd X.K R (λ_=>False) (λp=>if H' p=none then none else τt p) H') k v d:=by
    intro k v d h b;exact Rep.lu (P:=bR) (λ_ _ h=>h) (λk p xs f a h=>by
     cases f with
     |ow=>exact⟨h.1,by show(if H' p=none then none else τt p)=_;rw[zab (h.1.ne)];exact h.2⟩
     |fz=>exact h
     |al=>cases a
     |sc=>exact h) h b
   exact st i s
open Classical in
inductive tK(X:Cx)(F:ai)(Φ:aU)(c:CE)(σ:St)(H:Hp)(Q:VK):Prop where
 |mk (R:ai) (τ:Addr->Option bt) (ρ:a_) (r:D×a_) (h1:SI X F R τ ρ σ H) (h2:jL Φ c ρ=ok r) (h3:∀v H' R' τ',aL H H'->(∀p,R p->R' p)->SI X F R' τ' r.2 σ H'->kz X R' τ' H' v r.1->Q v H')
end
theorem kX{env:Env}:∀(names:List (Str×NameKind)) (b:List (Str×Addr)),(∀x,(x,NameKind.free)∈names->∃c,env.cells.lookup x=some c) ->
  ∃d,(forIn names b (λ(y:Str×NameKind) (cs:List (Str×Addr))=>do
    let (name,kind):=y
    let mut cs:=cs
    if kind==.free then cs:=(name,<- cellOf env name)::cs
    pure (ForInStep.yield cs)):Sem (List (Str×Addr)))=pure d /\
   (∀x c,d.lookup x=some c->b.lookup x=some c\/(env.cells.lookup x=some c/\(x,NameKind.free)∈names))/\(∀x,((x,NameKind.free)∈names\/(∃c,b.lookup x=some c))->∃c,d.lookup x=some c)
 |[],b,_=>⟨b,rfl,λx c h=>.inl h,λx h=>h.elim (λh=>nomatch h) id⟩
 | (n,kd)::names,b,h=>by
  by_cases j:kd=.free
  ·subst j;obtain⟨c,m⟩:=h n aai;obtain⟨d,e,l,k⟩:=kX names ((n,c)::b) (λx a=>h x (aah _ a));refine⟨d,?_,λx g a=>?_,λx a=>?_⟩
   ·rw[zbh];have e0:cellOf env n=pure c:=by unfold cellOf;rw[m]
    simp only[zaR,if_true,e0,pure_bind];exact e
   ·rcases l x g a with z|z
    ·by_cases i:x=n
     ·subst i;simp at z;subst z;exact .inr ⟨m,aai⟩
     ·rw[zal]at z;have:(x==n)=false:=by simpa using i
      rw[this]at z;exact .inl z
    ·exact .inr ⟨z.1,aah _ z.2⟩
   ·refine k x ?_;rcases a with a|⟨g,a⟩
    ·rcases List.mem_cons.mp a with z|z
     ·cases z;exact .inr ⟨c,by simp⟩
     ·exact .inl z
    ·by_cases i:x=n
     ·subst i;exact .inr ⟨c,by simp⟩
     ·refine .inr ⟨g,?_⟩;rw[zal];have:(x==n)=false:=by simpa using i
      rw[this];exact a
  ·obtain⟨d,e,l,k⟩:=kX names b (λx a=>h x (aah _ a));have o:(kd==NameKind.free)=false:=by simpa using j
   refine⟨d,?_,λx g a=>(l x g a).imp id λz=>⟨z.1,aah _ z.2⟩,λx a=>k x ?_⟩
   ·rw[zbh];simp only[o,zat,if_false,pure_bind];exact e
   ·rcases a with a|a
    ·rcases List.mem_cons.mp a with z|z
     ·cases z;exact absurd rfl j
     ·exact .inl z
    ·exact .inr a
variable {env:Env}
def pQ{sc:Scope}(h:∀x,(x,NameKind.free)∈sc.names->∃c,env.cells.lookup x=some c):
  ∃a,closureFor sc env=pure a/\(∀x c,a.lookup x=some c->env.cells.lookup x=some c)/\(∀x,(x,NameKind.free)∈sc.names->∃c,a.lookup x=some c):=by
 obtain⟨a,e,g,d⟩:=kX (env:=env) sc.names [] h;refine⟨a,?_,λx c b=>(g x c b).elim (λz=>by simp at z) (·.1),λx b=>d x (.inl b)⟩;unfold closureFor;simp only[bind_pure];exact e
variable {P prog:aM}{e1 e2 jM iter o target tg value:Expr}{w:World}
def tU{A:aN}{R:Result->Shared->Prop}{s:Shared}{q:Expr}{p:ak}{scope:Scope}{it t:Value}(I:Nat->Shared->Prop)
  (turn:∀n s,I n s->wpAny (model prog w) A (pyNext it) (λr a=>match r with
   |none=>R (.ok .next) a
   |some v=>wpAny (model prog w) A (letOwnedTupleGo target it v) (λ_ a=>wpAny (model prog w) A (assign target env v) (λ_ d =>
     wpAny (model prog w) A (forIn p true λc r=>if r=true then do let ok <- isTrue c env (eval c env);pure (ForInStep.yield ok)else pure (ForInStep.yield r)) (λok b =>
      if ok=true then wpAny (model prog w) A (eval q env) (λx j =>
       wpAny (model prog w) A (call (.builtin "list.append") [t,x]) (λ_ i=>∃m,m<n/\I m i) (λ_ _=>False) j) (λ_ _=>False) b
      else ∃m,m<n/\I m b) (λ_ _=>False) d) (λ_ _=>False) a) (λ_ _=>False) a) (λ_ _=>False) s)
  (n:Nat) (h:I n s) :
  codeAny (model prog w) A (.compLoop (.ListComp q [⟨target,iter,p,0⟩] scope pos) 0 it t env) R s:=by
 refine codeAny_loop rfl I (λn s z=>?_) n h;show wpAny _ A ((compTurn (.ListComp q [⟨target,iter,p,0⟩] scope pos) 0 it t env).onRaise (λx=>do noteFrame x env;theTreesLotGoes x)) _ _ s;refine wpAny_noted ?_;rw[compTurn_list];refine aaa (wpAny_standAt (aaa (aaA (turn n s z) (λr a l=>?_) λ_ _ g=>g.elim)));cases r with
 |none=>exact aae l
 |some v =>
  refine aaa (aaA l (λ_ d e=>?_) λ_ _ g=>g.elim);refine aaa (aaA e (λ_ d e=>aaa (aaA e (λok b k=>?_) λ_ _ g=>g.elim)) λ_ _ g=>g.elim);cases ok with
  |false=>exact aae ⟨rfl,k⟩
  |true =>
   exact aaa (aaa (aaA k (λx j y=>aaa (aaA y (λ_ i u=>aae (aae ⟨rfl,u⟩)) λ_ _ g=>g.elim)) λ_ _ g=>g.elim))
noncomputable def eX(X:Cx)(N':av)(scope:Scope)(cl:List (Str×Addr))(C:Addr)(s₀:Shared)(H₀:Hp)(fp:bo):Cx :=
 { X with N:=N',s₀:=s₀,H₀:=H₀,env:=compEnvC scope cl C X.env,outer:=X.stack,stack:=X.stack,ex:=fp,fn:=λ_=>false,pn:=[],xe:=λ_ _=>False }
theorem gz{env:Env}:∀{names:List (Str×NameKind)} {x:Str} {c:NameKind},(names.map λ(n,k)=>if (k==NameKind.free&&env.scope.kind==.function&&env.kindOf n==some .cell)then(n,NameKind.cell)else(n,k)).lookup x=some c ->
  names.lookup x=some c\/(c=.cell/\names.lookup x=some .free)
 |[],_,_,h=>by simp at h
 | (n,k)::r,x,c,h=>by
  rw[zag]at h;cases a:x==n with
  |true =>
   by_cases b:(k==NameKind.free&&env.scope.kind==.function&&env.kindOf n==some .cell)=true
   ·simp only[b,if_true,zal,a]at h;cases h;simp only[zaf,zbr]at b;refine .inr ⟨rfl,?_⟩;rw[zal,a,b.1.1]
   ·have d:(k==NameKind.free&&env.scope.kind==.function&&env.kindOf n==some .cell)=false:=by simpa using b
    simp only[d,zat,if_false,zal,a]at h;cases h;exact .inl (by rw[zal,a])
  |false =>
   have:List.lookup x (r.map λ(n,k)=>if (k==NameKind.free&&env.scope.kind==.function&&env.kindOf n==some .cell)then(n,NameKind.cell)else(n,k))=some c:=by
    by_cases b:(k==NameKind.free&&env.scope.kind==.function&&env.kindOf n==some .cell)=true
    ·simp only[b,if_true,zal,a]at h;exact h
    ·have d:(k==NameKind.free&&env.scope.kind==.function&&env.kindOf n==some .cell)=false:=by simpa using b
     simp only[d,zat,if_false,zal,a]at h;exact h
   rw[zal,a];exact gz this
theorem dQ{env:Env}:∀{names:List (Str×NameKind)} {x:Str},names.lookup x=some .free ->
  (names.map λ(n,k)=>if (k==NameKind.free&&env.scope.kind==.function&&env.kindOf n==some .cell)then(n,NameKind.cell)else(n,k)).lookup x=some .free \/
  (names.map λ(n,k)=>if (k==NameKind.free&&env.scope.kind==.function&&env.kindOf n==some .cell)then(n,NameKind.cell)else(n,k)).lookup x=some .cell
 |[],_,h=>by simp at h
 | (n,k)::r,x,h=>by
  rw[zag];cases a:x==n with
  |true =>
   rw[zal,a]at h;cases h;by_cases b:(NameKind.free==NameKind.free&&env.scope.kind==.function&&env.kindOf n==some .cell)=true
   ·simp only[b,if_true,zal,a];exact .inr trivial
   ·have c:(NameKind.free==NameKind.free&&env.scope.kind==.function&&env.kindOf n==some .cell)=false:=by simpa using b
    simp only[c,zat,if_false,zal,a];exact .inl trivial
  |false =>
   rw[zal,a]at h;by_cases b:(k==NameKind.free&&env.scope.kind==.function&&env.kindOf n==some .cell)=true
   ·simp only[b,if_true,zal,a];exact dQ h
   ·have c:(k==NameKind.free&&env.scope.kind==.function&&env.kindOf n==some .cell)=false:=by simpa using b
    simp only[c,zat,if_false,zal,a];exact dQ h
def d_{names:List (Str×NameKind)}{x:Str}{a:NameKind}(h:names.lookup x=some a):(x,a)∈names:=abh h
structure lp(S:Sx)(n:Nat)(t:Tg)(caps:aJ)(target:Expr)(sc:Scope):Prop where
 kind:sc.kind=.function
 Em:∀y∈sc.names,y.2≠.cell
 loc:∀y∈sc.names,y.2=.local->sc.names.lookup y.1=some .local
 free:∀x,(x,NameKind.free)∈sc.names->S.sc.names.lookup x=some .cell\/S.sc.names.lookup x=some .free
 n:n=(cw target).length
 tl:∀x∈cw target,sc.names.lookup x=some .local
 nd:(cw target++hX S caps).Nodup
 eB:∀i∈caps,∃x,S.N[i]?=some x/\sc.names.lookup x=some .free
 tg:(∃x p,t=.nm 0/\target=.Name x p)\/(∃es k p,t=.tp (List.range es.length)/\target=.Tuple es k p/\es.all isNm=true)
set_option tactic.hygienic true in
def mv{n:Nat}{t:Tg}{sc:Scope}(h:t_ S n t caps target sc=true):lp S n t caps target sc:=by
 unfold t_ at h;simp only[zaf,decide_eq_true_eq,zaH,zaU]at h;obtain⟨⟨⟨⟨⟨⟨C,b⟩,B⟩,v⟩,u⟩,s⟩,j⟩:=h;refine⟨C,λy a=>(b y a).1.1,λy a q=>?_,λx l=>?_,B,v,u,λi r=>?_,?_⟩
 ·rcases(b y a).1.2 with z|z
  ·exact absurd q z
  ·exact z
 ·rcases(b _ l).2 with (z|z)|z
  ·exact absurd rfl z
  ·exact .inl z
  ·exact .inr z
 ·have:=s i r;split at this
  ·rename_i x e;exact⟨x,e,aab this⟩
  ·cases this
 ·cases t with
  |nm i =>
   obtain⟨d,c⟩:=aF j;obtain rfl:i=0:=aab d;obtain⟨x,p,rfl⟩:=nL c;exact .inl ⟨x,p,rfl,rfl⟩
  |tp is =>
   obtain⟨E,m,g⟩:=br j;obtain⟨k,p,rfl⟩:=jZ m;obtain⟨d,c⟩:=aF g;obtain rfl:is=_:=aab d;exact .inr ⟨E,k,p,rfl,rfl,c⟩
theorem wH{S:Sx}:∀{caps:aJ},(∀i∈caps,∃x,S.N[i]?=some x)->(hX S caps).length=caps.length/\∀(j i:Nat),caps[j]?=some i->(hX S caps)[j]?=S.N[i]?
 |[],_=>⟨rfl,λj i h=>by simp at h⟩
 |i::caps,h=>by
  obtain⟨x,b⟩:=h i aai;obtain⟨d,c⟩:=wH (caps:=caps) λj a=>h j (aah _ a);have e:hX S (i::caps)=x::hX S caps:=by unfold hX;rw[zaS,b]
  rw[e];refine⟨by simp[d],λj k a=>?_⟩;cases j with
  |zero=>simp at a;subst a;simp[b]
  |succ j=>simp at a ⊢;exact c j k a
variable {base h' h₁:Heap}
section
variable {X:Cx}{S:Sx}{k:Nat}{Φ:aU}{pins:aw}{σ:St}{H2:Hp}{s₂:Shared}
noncomputable def qv(n:Nat)(caps:aJ)(σ:St):St:=List.replicate n none++caps.map λi=>σ[i]?.getD none
noncomputable def fM(a:az)(n:Nat):Obj:={ cls:=.type "list",data:=.seq a.toArray n }
def JY{n:Nat}{t:Tg}{sc:Scope}{cl:List (Str×Addr)}(L:Lk X S k Φ)(l:lp S n t caps target sc)(a:Inv X pins σ H2 s₂)
  (i:∀x c,cl.lookup x=some c->X.env.cells.lookup x=some c) (j:∀x,(x,NameKind.free)∈sc.names->∃c,cl.lookup x=some c) (h:∀b∈fp,qd X pins H2 b) (s:∀b∈fp,b<s₂.heap.objs.size) :
  (eX X (cw target++hX S caps) sc cl (s₂.heap.objs.size+1) s₂ H2 fp).Ok:=by
 have r:=a.kH;refine⟨a.ok.mod,l.kind,a.ok.glob,a.ok.blt,acE _,λx y c q p=>a.ok.inj x y c (i x c q) (i y c p),λx m=>?_,(λ_ _ z=>by cases z),a.ok.hd,a.ok.frames,.inl rfl,λb d=>⟨?_,λx c e=>(h b d).2.2.2.2.1 x c (i x c e)⟩,a.bs,aaS a.ok.Gh a.sz,λb o e d=>?_,λb d z=>?_,a.stack,a.lF⟩
 ·have g:(relabel sc X.env).names.lookup x=some .cell\/(relabel sc X.env).names.lookup x=some .free:=m;rcases g with g|g
  ·rcases gz g with z|z
   ·exact absurd rfl (l.Em _ (d_ z))
   ·exact j x (d_ z.2)
  ·rcases gz g with z|z
   ·exact j x (d_ z)
   ·cases z.1
 ·exact aak (aaR (s b d))
 ·rcases(h b d).2.2.2.1 with z|z
  ·exact a.ok.vH b o e z
  ·exact absurd (aaf (aag e) (aaS a.ok.Gh z)) (aaz _)
 ·rcases List.mem_cons.mp (r b z)with w|w
  ·exact(h b d).2.1 w
  ·exact(h b d).2.2.1 w
def ET{n:Nat}{t:Tg}{sc:Scope}{cl:List (Str×Addr)}{tk:Nat}(L:Lk X S k Φ)(d:lp S n t caps target sc)(a:Inv X pins σ H2 s₂)
  (s:∀x c,cl.lookup x=some c->X.env.cells.lookup x=some c) (Y:∀x,(x,NameKind.free)∈sc.names->∃c,cl.lookup x=some c) (Jk:∀b∈fp,qd X pins H2 b) (NT:∀b∈fp,b<s₂.heap.objs.size)
  (Cq:h₁.Ns (s₂.heap.objs.size+1) λ_=>none) (old:∀b o,s₂.heap.get? b=some o->h₁.get? b=some o) (gO:h₁.get? s₂.heap.objs.size=some (fM [] 0)) :
  Inv (eX X (cw target++hX S caps) sc cl (s₂.heap.objs.size+1) s₂ H2 fp) [(s₂.heap.objs.size,fM [] 0)] (qv n caps σ) H2 { s₂ with heap:=h₁,toks:=tk }:=by
 have o9:∀i∈caps,∃x,S.N[i]?=some x:=λi g=>let ⟨x,e,_⟩:=d.eB i g;⟨x,e⟩;obtain⟨W,U⟩:=wH o9;refine⟨JY L d a s Y Jk NT,rfl,a.bare,Un.kept old,⟨_,Cq,λi x v e1 e2 e3=>?_⟩,λx c e=>?_,a.cJ.fresh (acE _),λx c e=>a.gF x c (s x c e),λp hp=>?_,a.cJ.kept old,?_⟩
 ·unfold qv at e2;have g:n<=i:=by
   by_cases g:i<n
   ·rw[List.getElem?_append_left (by simpa using g),List.getElem?_replicate,zac g]at e2;cases e2
   ·left
  have B:(cw target++hX S caps)[i]?=some x:=e1;rw[List.getElem?_append_right (by rw[<- d.n];exact g),<- d.n]at B;rw[List.getElem?_append_right (by simpa using g),zar,List.getElem?_map]at e2;cases y:caps[i - n]? with
  |none=>rw[y]at e2;cases e2
  |some j =>
   rw[y]at e2;rw[U _ _ y]at B;obtain⟨x',Z,C⟩:=d.eB j (aaC y);rw[Z]at B;cases B;have O:σ[j]?=some (some v):=by
    have l:σ[j]?.getD none=some v:=aat e2;cases q:σ[j]? with
    |none=>rw[q]at l;cases l
    |some o=>rw[q]at l;simp at l;rw[l]
   have X1:Pq X.env.scope x:=by
    unfold Pq;rw[L.sc];rcases d.free x (d_ C)with z|z
    ·exact .inr (.inl z)
    ·exact .inr (.inr z)
   obtain⟨m,hn,hl⟩:=a.loc;obtain⟨u,r,lk⟩:=hl j x v (by rw[L.N];exact Z) O X1;refine⟨u,r,.inr ⟨?_,?_⟩⟩
   ·rcases dQ (env:=X.env) C with z|z
    ·exact .inr z
    ·exact .inl z
   ·have M:∃c,X.env.cells.lookup x=some c/\s₂.heap.IsCell c (some u):=by
     rcases lk with ⟨z,_⟩|⟨_,z⟩
     ·have E:X.env.scope.names.lookup x=some .local:=z;rw[L.sc]at E;rcases d.free x (d_ C)with w|w<;>(rw[w]at E;cases E)
     ·exact z
    obtain⟨c,ec,o,I,J⟩:=M;obtain⟨c',h⟩:=Y x (d_ C);have:=s x c' h;rw[ec]at this;cases this;exact⟨c,h,o,old _ _ I,J⟩
 ·obtain⟨v,o,I,J⟩:=a.cell x c (s x c e);exact⟨v,o,old _ _ I,J⟩
 ·have rg:p=(s₂.heap.objs.size,fM [] 0):=by simpa [eX]using hp
  subst rg;refine⟨gO,a.cJ.fresh (aaj _),aak (abi _),λz=>?_,λv z=>by cases z⟩;rcases List.mem_cons.mp (a.kH _ z)with w|w
  ·exact absurd w (aay a.lt)
  ·exact a.M_ (aaj _) w
 ·show(qv n caps σ).length=(cw target++hX S caps).length;unfold qv;rw[zah,zah,zar,zaa,W,d.n]
end
open Classical in
theorem cF.snoc{K:ao}{G R:ai}{τ:Addr->Option bt}{fv:aJ}{H H1 H2:Hp}{v:V}{d:D}{vs:ag}{ds:aa}(e1:aL H H1)(e2:aL H1 H2)(h:cF K G R τ fv H H1 vs ds)(t:b8 K G R τ fv H1 H2 v d):
  cF K G R τ fv H H2 (vs++[v]) (ds++[d]):=by
 obtain⟨b,l,j⟩:=h;obtain⟨a,k,i⟩:=t;refine⟨λp=>if H1 p=none then(a p).map (· ++ [ds.length])else b p,λp q e=>?_,aI.snoc (j.imp (q:=[]) (q':=[]) (λ_ _ h=>bg.same e2 h) λc p xs f h=>?_) ((Nat.zero_add ds.length).symm▸i.imp (q:=[]) (q':=[ds.length]) (λ_ _ h=>h) λc p xs f h=>?_)⟩
 ·replace e:(if H1 p=none then(a p).map (· ++ [ds.length])else b p)=some q:=e;by_cases g:H1 p=none
  ·exact e1.free g
  ·rw[zab g]at e;exact l p q e
 ·have h':=nd.same e2 h;cases f with
  |ow =>
   refine⟨h'.1,?_⟩;show(if H1 p=none then(a p).map (· ++ [ds.length])else b p)=_;rw[zab (h.1.ne)];exact h.2
  |fz=>exact h'
  |al=>exact h'
  |sc=>exact h'
 ·cases f with
  |ow =>
   refine⟨h.1,?_⟩;show(if H1 p=none then(a p).map (· ++ [ds.length])else b p)=_;rw[zac (k p _ h.2),h.2];simp
  |fz=>exact h
  |al=>exact h
  |sc=>exact h
structure Yl(K:ao)(J:It)(R:ai)(H1:Hp)(items:aa):Prop where
 go:∀i H',aL H1 H'->i<items.length->J.go i H'
 w9:∀i H' x ko,aL H1 H'->i<items.length->J.w9 i H' x ko->aL H' ko/\∃d,items[i]?=some d/\Rep (bg K ko) (nd K R (λ_=>False) (λ_=>none) ko) [] x d
 stop:∀i H',aL H1 H'->items.length<=i->J.stop i H'
variable {C i1 i2 l1 l2:Addr}{s₂:Shared}
section
variable {X:Cx}{S:Sx}{k:Nat}{F:ai}{Φ:aU}
def md(X:Cx)(F:ai)(τ:Addr->Option bt)(fv:aJ)(H2:Hp)(p:Addr):Prop:=H2 p≠none/\kZ (gP X F) τ fv p
def xN(a:SI X F R τ ρ σ H)(b:∀p q,τt p=some q->H p=none)(hs:∀i∈fv,i∈fv')(g d:bt)(p:Addr)(xs:Nd)(f:Fl)
  (h:nd X.K R (kZ (gP X F) τ fv) τt H2 g p xs f):nd X.K (md X F τ fv' H2) (λ_=>False) (λ_=>none) H2 d p xs (aD f):=by
 cases f with
 |ow=>exact⟨h.1,h.1.ne,.inr (a.same.free (b p _ h.2)),λc i e=>absurd (b p _ h.2) (a.th p _ e)⟩
 |fz=>exact⟨h.1,h.1.ne,a.rf p h.2,λc i e=>by rw[a.rt p h.2]at e;cases e⟩
 |al=>exact⟨h.1,h.1.ne,h.2.mono hs⟩
 |sc=>exact h
def G8{a:Addr}{q:bt}(hl:dD X.K H1 a xs)(rs:aI (bg X.K H1) (nd X.K R (λ_=>False) (λ_=>none) H1) q 0 xs items):Yl X.K (Qt X.K a) R H1 items where
 go:=λi H' e b=>⟨xs,xs[i]'(by rw[rs.length];exact b),e.seq hl,aao _⟩
 w9:=λi H' x l e b y=>by
  obtain⟨rfl,y⟩:=y;obtain⟨d,j,c⟩:=rs.yy (y xs (e.seq hl));refine⟨aL.refl _,d,j,?_⟩;have:=Rep.jw (g:=id) (λ_ _ h=>h) nd.pw c [];rw[fj]at this;exact this.imp (λ_ _ h=>bg.same e h) λ_ _ _ _ h=>nd.same e h
 stop:=λi H' e b=>⟨xs,e.seq hl,by rw[rs.length];exact b⟩
def LV{a:Addr}{q:bt}(hl:bg X.K H1 a xs)(rs:aI (bg X.K H1) (nd X.K R (λ_=>False) (λ_=>none) H1) q 0 xs items):Yl X.K (Qs X.K a) R H1 items where
 go:=λi H' e b=>⟨xs,xs[i]'(by rw[rs.length];exact b),bg.same e hl,aao _⟩
 w9:=λi H' x l e b y=>by
  obtain⟨rfl,y⟩:=y;obtain⟨d,j,c⟩:=rs.yy (y xs (bg.same e hl));refine⟨aL.refl _,d,j,?_⟩;have:=Rep.jw (g:=id) (λ_ _ h=>h) nd.pw c [];rw[fj]at this;exact this.imp (λ_ _ h=>bg.same e h) λ_ _ _ _ h=>nd.same e h
 stop:=λi H' e b=>⟨xs,bg.same e hl,by rw[rs.length];exact b⟩
def LW{lo:Int}{n:Nat}:Yl X.K (Cu lo n) R H1 ((List.range n).map λ(k:Nat)=>D.int (lo+(k:Int))) where
 go:=λi H' e a=>by simpa [Cu]using a
 w9:=λi H' x c e a y=>by
  obtain⟨rfl,rfl⟩:=y;have b:i<n:=by simpa using a
  exact⟨aL.refl _,.int (lo+i),by rw[List.getElem?_map,List.getElem?_range b];rfl,.int _⟩
 stop:=λi H' e a=>by simpa [Cu]using a
def Dm{n:Nat}{t:Tg}{sc:Scope}{cl:List (Str×Addr)}(m:SI X F R τ ρ σ H2)(hs:∀i∈caps,i∈fv):
  SI (eX X (cw target++hX S caps) sc cl C s₂ H2 fp) (kZ (gP X F) τ fv) (md X F τ fv H2) (λ_=>none) (bx n caps ρ) (qv n caps σ) H2:=by
 refine⟨by simp[bx,qv],λi d a=>?_,λ_ _=>rfl,λp h=>h.1,λp h=>.inl h.2,λ_ _ h=>by simp at h,λ_ _ h=>by simp at h,aL.refl _⟩;unfold bx at a;have j:n<=i:=by
  by_cases j:i<n
  ·rw[List.getElem?_append_left (by simpa using j),List.getElem?_replicate,zac j]at a;cases a
  ·left
 rw[List.getElem?_append_right (by simpa using j),zar,List.getElem?_map]at a;cases l:caps[i - n]? with
 |none=>rw[l]at a;exact nk a
 |some b =>
  rw[l]at a;have g:(ρ[b]?.getD none).map (aB aD)=some d:=aat a;have s:∃d0,ρ[b]?=some (some d0)/\aB aD d0=d:=by
   cases q:ρ[b]? with
   |none=>rw[q]at g;cases g
   |some o =>
    cases o with
    |none=>rw[q]at g;cases g
    |some d0=>rw[q]at g;exact⟨d0,rfl,aat g⟩
  obtain⟨d0,x,rfl⟩:=s;obtain⟨v,r,rv⟩:=m.rep b d0 x;refine⟨v,?_,Rep.jw (λ_ _ h=>h) (λz y p xs f h=>?_) ((rv.imp (q:=[b]) (q':=[b]) (N':=λq p xs f=>nd X.K R (λ_=>False) τ H2 q p xs f/\(f=.ow->∃c,q=c++[b])) (λ_ _ h=>h) λc p xs f h=>⟨h,λ_=>⟨c,rfl⟩⟩)) [i]⟩
  ·unfold qv;rw[List.getElem?_append_right (by simpa using j),zar,List.getElem?_map,l];simp[r]
  ·obtain⟨h,u⟩:=h;cases f with
   |ow =>
    obtain⟨c,rfl⟩:=u rfl;refine⟨h.1,h.1.ne,.inr (m.t0 p _ h.2),λE B e=>?_⟩;rw[h.2]at e;have:=aaU List.getLast? (aat e);simp at this;subst this;exact hs _ (aaC l)
   |fz=>exact⟨h.1,h.1.ne,m.rf p h.2,λc i e=>by rw[m.rt p h.2]at e;cases e⟩
   |al=>exact h.2.elim
   |sc=>exact h
theorem Eo:∀{es:ak},es.all isNm=true->∃xs:List (Str×Pos),es=xs.map λx=>Expr.Name x.1 x.2
 |[],_=>⟨[],rfl⟩
 |e::es,h=>by
  rw[zaw,zaf]at h;obtain⟨xs,rfl⟩:=Eo h.2;obtain⟨x,p,rfl⟩:=nL h.1;exact⟨(x,p)::xs,rfl⟩
def xF(xs:List (Str×Pos)):(xs.map λx=>Expr.Name x.1 x.2).filterMap (λe=>match e with|.Name x _=>some x|_=>none)=xs.map (·.1):=by
 induction xs with
 |nil=>rfl
 |cons x xs a=>simp[a]
def FA(i:Nat):Nat->Kj
 |0=>Ob
 |n+1=>FC (pv i) (FA (i+1) n)
theorem zw{X:Cx}(a:X.N.Nodup):∀(xs:List (Str×Pos)) (i:Nat),(∀(j:Nat) x,xs[j]?=some x->X.N[i+j]?=some x.1/\X.env.scope.names.lookup x.1=some .local) ->
  Qq X (xs.map λx=>Expr.Name x.1 x.2) (FA i xs.length)/\(assignEach (xs.map λx=>Expr.Name x.1 x.2) X.env).length=xs.length/\(assignEach (xs.map λx=>Expr.Name x.1 x.2) X.env).findIdx? (·.1)=none
 |[],_,_=>⟨zv,rfl,rfl⟩
 |x::xs,i,h=>by
  obtain⟨g,e,d⟩:=zw a xs (i+1) λj y c=>by
   have:=h (j+1) y (by simpa using c)
   rwa [show i+(j+1)=i+1+j by left]at this
  obtain⟨l,b⟩:=h 0 x rfl;refine⟨vy (sM a l (.inl b) (.inr b)) g rfl,?_,?_⟩
  ·show(_::assignEach _ X.env).length=_;rw[zae,e];rfl
  ·show(((false,assign (.Name x.1 x.2) X.env)::assignEach (xs.map λx=>Expr.Name x.1 x.2) X.env)).findIdx? (·.1)=none;rw[List.findIdx?_cons];simp[d]
end
section
variable {X:Cx}{F R:ai}{τ:Addr->Option bt}{ρ:a_}{σ σ':St}{H:Hp}
def SI.Rn{i:Nat}{v:V}{d:D}(a:SI X F R τ ρ σ H)(k:Rep (bg X.K H) (nd X.K R (λ_=>False) (λ_=>none) H) [] v d)(g:i<ρ.length):SI X F R τ (ρ.set i (some d)) (σ.set i (some v)) H:=by
 refine⟨by simp[a.len],λj d' b=>?_,a.rt,a.rh,a.rf,a.th,a.t0,a.same⟩;by_cases e:j=i
 ·subst e;rw[List.getElem?_set_self g]at b;cases b;refine⟨v,abj (by rw[<- a.len];exact g),k.imp (q':=[j]) (λ_ _ h=>h) λc p xs f h=>?_⟩;cases f with
  |ow=>exact nomatch h.2
  |fz=>exact h
  |al=>exact h
  |sc=>exact h
 ·rw[List.getElem?_set_ne (Ne.symm e)]at b;obtain⟨w,hw,l⟩:=a.rep j d' b;exact⟨w,by rw[List.getElem?_set_ne (Ne.symm e)];exact hw,l⟩
def SI.sig(a:SI X F R τ ρ σ H)(hl:σ'.length=σ.length)(h:∀(i:Nat) d,ρ[i]?=some (some d)->σ'[i]?=σ[i]?):SI X F R τ ρ σ' H :=
 ⟨by rw[hl];exact a.len,λi d b=>let ⟨v,hv,r⟩:=a.rep i d b;⟨v,by rw[h i d b];exact hv,r⟩,a.rt,a.rh,a.rf,a.th,a.t0,a.same⟩
theorem oD{Q:St->Hp->Prop}(a:St)(b:Nat):∀{m i:Nat} {vs:ag} {ds:aa} {g:bt} {q:Nat} {σ:St} {ρ ρ':a_},i+m=b->aI (bg X.K H) (nd X.K R (λ_=>False) (λ_=>none) H) g q vs ds->SI X F R τ ρ σ H->fW (List.range' i m) ds ρ=ok ρ' ->
  σ.length=a.length->(∀j,b<=j->σ[j]?=a[j]?)->(∀σ',σ'.length=a.length->(∀j,b<=j->σ'[j]?=a[j]?)->SI X F R τ ρ' σ' H->Q σ' H)->FA i m vs σ H Q
 |0,_,_,_,_,_,σ,_,_,_,.nil,Si,e,h1,h2,hq=>by
  cases e;exact⟨rfl,hq σ h1 h2 Si⟩
 |0,_,_,_,_,_,_,_,_,_,.cons _ _,_,e,_,_,_=>by cases e
 |m+1,_,_,_,_,_,_,_,_,_,.nil,_,e,_,_,_=>by cases e
 |m+1,i,_,_,_,_,σ,ρ,_,him,.cons (v:=v) (d:=d) h t,Si,e,h1,h2,hq=>by
  change (if _ then _ else _)=_ at e;split at e
  ·rename_i c;have l:=Si.Rn (i:=i) (Rep.sZ h) c;refine⟨_,_,rfl,oD a b (by left) t l e (by simpa using h1) (λj k=>?_) hq⟩;rw[List.getElem?_set_ne (by left)];exact h2 j k
  ·cases e
end
section
variable {X:Cx}{S:Sx}{k:Nat}{F:ai}{Φ:aU}
set_option tactic.hygienic true in
def Mg{n:Nat}{t:Tg}{sc:Scope}{cl:List (Str×Addr)}(To:X.calm=true)(m:lp S n t caps target sc):
  ∃g,PG (eX X (cw target++hX S caps) sc cl C s₂ H2 fp) target g/\∀(u R':ai) (x:V) (d:D) (b:St) (l:Hp) (Q:St->Hp->Prop) (c ρ1:a_),
   SI (eX X (cw target++hX S caps) sc cl C s₂ H2 fp) u R' (λ_=>none) c b l->Rep (bg X.K l) (nd X.K R' (λ_=>False) (λ_=>none) l) [] x d->bh cQ d=false->cH t d c=ok ρ1 ->
   (∀h,h.length=b.length->(∀j,n<=j->h[j]?=b[j]?)->SI (eX X (cw target++hX S caps) sc cl C s₂ H2 fp) u R' (λ_=>none) ρ1 h l->Q h l)->g x b l Q:=by
 have J:∀x∈cw target,(relabel sc X.env).names.lookup x=some .local:=λx Y=>lookup_relabel_local (m.tl x Y);rcases m.tg with ⟨x,p,rfl,rfl⟩|⟨es,q,p,rfl,rfl,BQ⟩
 ·have M:n=1:=m.n;subst M;refine⟨pv 0,sM m.nd rfl (.inl (J x (List.mem_singleton.mpr rfl:x∈[x]))) (.inr (J x (List.mem_singleton.mpr rfl:x∈[x]))),λu R' v d b l Q c ρ1 I z _ e B=>?_⟩;simp only[cH]at e;split at e
  ·rename_i hi;cases e;refine B _ (by simp) (λj s=>?_) (I.Rn z hi);rw[List.getElem?_set_ne (by left)]
  ·cases e
 ·obtain⟨xs,rfl⟩:=Eo BQ;have E:cw (.Tuple (xs.map λx=>Expr.Name x.1 x.2) q p)=xs.map (·.1):=xF xs;have M:n=xs.length:=by rw[m.n,E,zaa]
  have:=zw (X:=eX X (cw (.Tuple (xs.map λx=>Expr.Name x.1 x.2) q p)++hX S caps) sc cl C s₂ H2 fp) m.nd xs 0 (λj y r=>by
   refine⟨?_,J y.1 (by rw[E];exact List.mem_map.mpr ⟨y,aaC r,rfl⟩)⟩;show(cw (.Tuple (xs.map λx=>Expr.Name x.1 x.2) q p)++hX S caps)[0+j]?=_;have s:j<xs.length:=by
    by_cases s:j<xs.length
    ·exact s
    ·rw[List.getElem?_eq_none (by left)]at r;cases r
   rw[E,zbG,List.getElem?_append_left (by simpa using s),List.getElem?_map,r];rfl)
  obtain⟨h1,h2,h3⟩:=this;refine⟨_,xU To h1 h2 h3,λu R' v d b l Q c ρ1 I z ho e B=>?_⟩;cases d<;>try (simp[cH]at e;done)
  rename_i ds;simp only[cH]at e;split at e
  ·cases e
  ·cases z with
   | @tup _ a U _ Z L =>
    rw[zaa]at e;have O:fW (List.range' 0 xs.length) ds c=ok ρ1:=by rw[<- zaJ];exact e
    refine⟨a,U,rfl,Z,?_,oD (X:=eX X (cw (.Tuple (xs.map λx=>Expr.Name x.1 x.2) q p)++hX S caps) sc cl C s₂ H2 fp) b n (by left) L I O rfl (λ_ _=>rfl) B⟩;rw[L.length];have:∀(is:aJ) (ds:aa) (ρ ρ':a_),fW is ds ρ=ok ρ'->ds.length=is.length:=by
     intro is;induction is with
     |nil=>intro ds ρ ρ' e;cases ds with|nil=>rfl|cons _ _=>cases e
     |cons i is W=>intro ds ρ ρ' e;cases ds with
      |nil=>cases e
      |cons d ds =>
       change (if _ then _ else _)=_ at e;split at e
       ·simp[W ds _ _ e]
       ·cases e
    rw[this _ _ _ _ O,List.length_range']
def owF:∀f:Fl,cQ (aD f)=false:=by intro f;cases f<;>rfl
mutual
theorem Iv:∀d:D,bh cQ (aB aD d)=false
 |.bz=>by simp[aB,bh]
 |.bl _=>by simp[aB,bh]
 |.int _=>by simp[aB,bh]
 |.str _=>by simp[aB,bh]
 |.tup ds=>by simp[aB,bh,iw ds]
 |.lst f ds=>by simp[aB,bh,iw ds,owF]
 |.de f a vs=>by simp[aB,bh,iw vs,owF]
theorem iw:∀ds:aa,aV cQ (au aD ds)=false
 |[]=>by simp[au,aV]
 |d::ds=>by simp[au,aV,Iv d,iw ds]
end
def zQ{h:Heap}{a:Addr}{o:HO}(x:kn H h)(d:H a=none)(new:dh (upd H a o) h a o):kn (upd H a o) h:=λb u e=>by
 by_cases c:b=a
 ·subst c;rw[bc]at e;cases e;exact new
 ·rw[bq c]at e;exact(x b u e).jD λ_ q=>q
structure CAt(X X':Cx)(F' R':ai)(n:Nat)(base:a_)(σ0:St)(fp:bo)(tn:Nat->Heap->Prop)(H2:Hp)(D:Addr)(items:List DI.D)(bind:DI.D->O a_)(test:a_->O Bool)(el:a_->O DI.D)(all:List DI.D)(m:Nat)(s':Shared):Prop where
 ex:∃(i:Nat) (vs:ag) (aS:az) (nn:Nat) (σ':St) (H':Hp) (dn rest:List DI.D),m=items.length - i/\i<=items.length/\Inv X' [(D,fM aS nn)] σ' H' s'/\tn i s'.heap/\(∀b∈fp,H' b=none)/\Vals vs aS/\aL H2 H' /\
  SI X' F' R' (λ_=>none) base σ' H'/\cF X.K (gP X' F') R' (λ_=>none) [] H2 H' vs dn/\jt bind test el (items.drop i)=ok rest/\dn++rest=all
end
def cF.go(h:cF K G R τ fv H H1 vs ds)(e:aL H1 H2):cF K G R τ fv H H2 vs ds :=
 let ⟨τt,h1,h2⟩:=h;⟨τt,h1,h2.imp (λ_ _ h=>bg.same e h) λ_ _ _ _ h=>nd.same e h⟩
theorem oN:∀{ds:aa} {d:D},aV cQ ds=false->d∈ds->bh cQ d=false
 |[],_,_,h=>nomatch h
 |e::ds,d,h,hm=>by
  rw[aV,Bool.or_eq_false_iff]at h;rcases List.mem_cons.mp hm with rfl|z
  ·exact h.1
  ·exact oN h.2 z
def A8{d:D}(h:kI d=ok items):∀d∈items,bh cQ d=false:=by
 unfold kI at h;split at h
 ·cases h;exact λd a=>oN (iw _) a
 ·cases h
def ym{b:IK}{xs:aa}(h:dR Φ b xs=ok items):∀d∈items,bh cQ d=false:=by
 cases b with
 |cI p=>obtain⟨d,_,h⟩:=aH h;exact A8 h
 |ku =>
  cases xs with
  |nil=>cases h
  |cons x t=>cases x<;>first | (cases h;done) | (cases t with
   |cons _ _=>cases h
   |nil =>
    obtain⟨_,h⟩:=uE h;subst h;intro d a;obtain⟨k,_,rfl⟩:=List.mem_map.mp a;rfl)
 |seq =>
  cases xs with
  |nil=>cases h
  |cons x t=>cases x<;>first | (cases h;done) | (cases t with
   |cons _ _=>cases h
   |nil=>cases h;exact λd a=>oN (iw _) a)
def yq{n:Nat}{i:Nat}{d:D}(h:(bx n caps ρ)[i]?=some (some d)):n<=i:=by
 unfold bx at h;by_cases a:i<n
 ·rw[List.getElem?_append_left (by simpa using a),List.getElem?_replicate,zac a]at h;cases h
 ·left
variable {c' elt:CE}{bJ cs es:aA}
section
variable {X:Cx}{S:Sx}{k:Nat}{F:ai}{Φ:aU}
def EC{n:Nat}{t:Tg}{sc:Scope}{cl:List (Str×Addr)}(L:Lk X S k Φ)(a:lp S n t caps target sc):
  Lk (eX X (cw target++hX S caps) sc cl C s₂ H2 fp) (S.inner target caps sc) k Φ:=by
 refine⟨?_,rfl,a.nd,L.calm,L.room,L.bl,λf x h=>⟨(L.fn f x h).ex⟩,L.cs,L.pr⟩;show relabel sc X.env=vt sc S.sc;rw[<- L.sc];rfl
def wB(L:Lk X S k Φ){n:Nat}{t:Tg}{ik:IK}{ifs:ak}{sc:Scope}(co:lp S n t caps target sc)(Cq:jG iter=true)
    (hE:∀(B:Cx) (F':ai),Lk B (S.inner target caps sc) k Φ->PE B jM (tD B F' Φ elt))
    (hC:(bJ=[]/\ifs=[])\/∃c e,bJ=[c]/\ifs=[e]/\∀(B:Cx) (F':ai),Lk B (S.inner target caps sc) k Φ->PT B e (ip B F' Φ c))
    (hI:∀(pins:aw) (s:Shared) (σ:St) (H:Hp) (R:ai) (τ:Addr->Option bt) (ρ:a_) (xs items:aa),Inv X pins σ H s->SI X F R τ ρ σ H->bL Φ es ρ=ok xs->dR Φ ik xs=ok items->∀Rr:It->Hp->Prop,
      (∀J H2,aL H H2->Yl X.K J (md X F τ (caps++dJ es) H2) H2 items->Rr J H2)->wpAny (model X.prog X.w) X.A (eval iter X.env) (λv W=>wpAny (model X.prog X.w) X.A (pyIter v) (Ct X pins σ target Rr) X.xe W) X.xe s)
    {use:Option (Value->Sem Unit)} {Post:aG} {pins:aw} {s:Shared} {d:D} {Y7:Pos} (I:Inv X pins σ H s) (Si:SI X F R τ ρ σ H) (ev:bp Φ (.comp n t caps ik es bJ elt) ρ=ok d)
    (SO:∀(acc C:Addr) (H1:Hp) (W:Shared) (m:aZ),W.heap.Ns C m->(C≠X.env.locals/\X.s₀.heap.objs.size<=C/\(∀x c,X.env.cells.lookup x=some c->c≠C)/\(∀p∈X.pn++pins,p.1≠C)/\H1 C=none)->(∀h',Heap.SameBut C W.heap h'->Inv X pins σ H1 { W with heap:=h' })->aL H H1 ->
      b8 X.K (gP X F) R τ (gE (.comp n t caps ik es bJ elt)) H H1 (.ref acc) d->compPost (model X.prog X.w) X.A X.xe use Post (.ref acc) C (.ok .next) W) :
    wpAny (model X.prog X.w) X.A (comprehension (.ListComp jM [⟨target,iter,ifs,0⟩] sc pos) sc X.env Y7 (newList []) false (eval iter X.env) use) Post X.xe s:=by
  obtain⟨xs,b_,ev⟩:=aH ev;obtain⟨items,yD,ev⟩:=aH ev;obtain⟨ds,OP,ev⟩:=aH ev;simp only[K_]at ev;obtain⟨o9,rfl⟩:=ev;have SY:=ym yD;obtain⟨cl,Fg,nh,yu⟩:=pQ (env:=X.env) (sc:=sc) (λx hx=>I.ok.has x (by
    show X.env.scope.names.lookup x=some .cell\/X.env.scope.names.lookup x=some .free;rw[L.sc];exact co.free x hx))
  have lN:∀x,foldedSetIterable iter X.env x=pure x:=by intro x;cases iter<;>first|rfl | (cases Cq;done)
  refine wpAny_comprehension_free (use:=use) rfl lN Fg co.kind co.loc (aaA (hI pins s σ H R τ ρ xs items I Si b_ yD (λJ H2=>aL H H2/\Yl X.K J (md X F τ (caps++dJ es) H2) H2 items) (λJ H2 e y=>⟨e,y⟩)) (λxv s₁ h₁=>aaA h₁ (λXF s₂ h₂=>?_) λ_ _ e=>e) λ_ _ e=>e);obtain⟨it,fp,tn,J,H2,rfl,I2,T,Rc,f2,e2,yl⟩:=h₂;have Cd:=Si.go e2;have NT:∀b∈fp,b<s₂.heap.objs.size:=λb l=>let ⟨o,ho,_⟩:=T.obj 0 _ Rc b l;aag ho;refine abb (wpAny_newFunctionEnv co.Em (by intro y hy;simp at hy) (λh₁ tG o7=>?_) co.kind);dsimp only at tG o7 ⊢;generalize YF:s₂.heap.push { cls:=.type "list",dict:=none,data:=.seq ([]:az).toArray }=G2 at tG o7 ⊢;have hGC:G2.objs.size=s₂.heap.objs.size+1:=by rw[<- YF,Heap.size_push]
  have VE:s₂.heap.objs.size≠s₂.heap.objs.size+1:=aak (abi _);rw[hGC]at tG o7;have old:∀b o,s₂.heap.get? b=some o->h₁.get? b=some o:=λb o e=>o7.extBut b o (aak (aaR (aag e))) (aad _ (YF▸aad _ e));have gO:h₁.get? s₂.heap.objs.size=some (fM [] 0):=o7.extBut _ _ VE (aad _ (YF▸aaq _ rfl))
  let B:=eX X (cw target++hX S caps) sc cl (s₂.heap.objs.size+1) s₂ H2 fp
  let F':=kZ (gP X F) τ (caps++dJ es)
  let R':=md X F τ (caps++dJ es) H2
  have L':Lk B (S.inner target caps sc) k Φ:=EC L co;have I4:=λtk=>ET (h₁:=h₁) (tk:=tk) L co I2 nh yu f2 NT (by simpa using tG) old gO;have S4:SI B F' R' (λ_=>none) (bx n caps ρ) (qv n caps σ) H2:=Dm (t:=t) Cd (λi hi=>by simp[hi]);obtain⟨g,hg,BP⟩:=Mg (X:=X) (S:=S) (cl:=cl) (fp:=fp) (s₂:=s₂) (H2:=H2) (C:=s₂.heap.objs.size+1) L.calm co;have YG:s₂.heap.objs.size∉B.fs:=λz=>by
    rcases List.mem_cons.mp (I2.kH _ z)with w|w
    · exact absurd w (aay I2.lt)
    · exact I2.M_ (aaj _) w
  have NU:∀x c,cl.lookup x=some c->c≠s₂.heap.objs.size:=λx c e=>by
    obtain⟨v,q⟩:=I2.cell x c (nh x c e);exact aak q.lt
  have Jj:∀b∈fp,b≠B.env.locals/\b∉B.fs/\(b∈B.ex\/B.s₀.heap.objs.size<=b)/\(∀x c,B.env.cells.lookup x=some c->c≠b):=λb l =>
    ⟨aak (aaR (NT b l)),λz=>by
      rcases List.mem_cons.mp (I2.kH b z)with w|w
      · exact(f2 b l).2.1 w
      · exact(f2 b l).2.2.1 w,.inl l,λx c e=>(f2 b l).2.2.2.2.1 x c (nh x c e)⟩
  have Tc:∀b∈fp,b≠s₂.heap.objs.size:=λb l=>aak (NT b l);have fin:∀(vs:ag) (O:az) (nn:Nat) (M:St) (H':Hp) (W:Shared),Inv B [(s₂.heap.objs.size,fM O nn)] M H' W->Vals vs O->aL H2 H'->cF X.K (gP B F') R' (λ_=>none) [] H2 H' vs ds ->
      compPost (model X.prog X.w) X.A X.xe use Post (.ref s₂.heap.objs.size) (s₂.heap.objs.size+1) (.ok .next) W:=by
    intro vs O nn M H' W I1 rv sm HP;obtain⟨m,hn,_⟩:=I1.loc;obtain⟨pD,nD,_,_,_⟩:=I1.pin (s₂.heap.objs.size,fM O nn) (aap _ aai);have bs:=I1.base;have K2:∀b o,s₂.heap.get? b=some o->b≠s₂.heap.objs.size+1:=λb o e=>aak (aaR (aag e));have neD:∀b o,s₂.heap.get? b=some o->b≠s₂.heap.objs.size:=λb o e=>aak (aag e);have Z0:∀b u,H' b=some u->upd H' s₂.heap.objs.size (.lst vs) b=some u:=λb u e=>by rw[bq (d6 e nD)];exact e
    have hlen:vs.length<=sizeLine:=by
      obtain⟨_,_,rr⟩:=HP;have hz:sizeLine=16777216:=abn;have hc:eB=1000000:=rfl;rw[rr.length];left
    have IX:∀h',Heap.SameBut (s₂.heap.objs.size+1) W.heap h'->Inv X pins σ (upd H' s₂.heap.objs.size (.lst vs)) { W with heap:=h' }:=λh' EW=>by
      have un:Un (mn X.stack) fp H2 (upd H' s₂.heap.objs.size (.lst vs)) s₂.heap h' :=
        ⟨λb o e n l hx=>EW.extBut b o (K2 b o e) (bs.keep b o e n l hx),
         λb o e n l hx=>let ⟨sl,q⟩:=bs.slot b o e n l hx;⟨sl,EW.extBut b _ (K2 b o e) q⟩,
         λb o e n hx=>by rw[bq (neD b o e)];exact bs.free b o e n hx,
         λb o e hx=>let ⟨o',q⟩:=bs.there b o e hx;⟨o',EW.extBut b _ (K2 b o e) q⟩,
         λb xs e=>Z0 b _ (bs.mV b xs e),λb o u e=>Z0 b _ (bs.mm b o u e)⟩
      have Yf:kn H' h':=λa o e=>(I1.cJ a o e).jD λu q=>EW.extBut a u (by
        rintro rfl;have hf:H' (s₂.heap.objs.size+1)=none:=I1.free;rw[hf]at e;cases e) q
      have Ye:kn (upd H' s₂.heap.objs.size (.lst vs)) h':=zQ Yf nD ⟨hlen,O,nn,rv,EW.extBut _ _ VE pD⟩;exact I2.Aq (ch:=fp) I1.os un Ye I1.bare λb l=>⟨(f2 b l).2.2.2.1,(f2 b l).2.1,(f2 b l).2.2.2.2.1,(f2 b l).2.2.2.2.2⟩
    have eS:aL H' (upd H' s₂.heap.objs.size (.lst vs)):=aL.upd nD;obtain⟨τt,fr,rs⟩:=HP;have Xf:s₂.heap.objs.size+1≠s₂.heap.objs.size:=acB _;refine SO s₂.heap.objs.size (s₂.heap.objs.size+1) _ W m hn ⟨aay (aaR I2.lt),acx I2.sz,λx c e=>?_,λp hp=>?_,?_⟩ IX ((e2.trans sm).trans eS) ⟨λq=>if q=s₂.heap.objs.size then some []else τt q,λq z hz=>?_,.lst ⟨bc,by simp⟩ (aI.map (q:=[]) (q':=[]) (λ_ _ h=>bg.same eS h) (λc p ys f h=>?_) rs [] rfl)⟩
    · obtain⟨v,z⟩:=I2.cell x c e
      exact aak (aaR z.lt)
    · exact aak (aaR (aag (I2.pin p hp).1))
    · rw[bq Xf];exact I1.free
    · by_cases yr:q=s₂.heap.objs.size
      · rw[yr];exact e2.free (sm.free nD)
      · simp only[yr,if_false]at hz;exact e2.free (fr q z hz)
    · have h':=nd.same eS h
      have ZE:∀p,gP B F' p->kZ (gP X F) τ (caps++dJ es) p:=λp hp=>hp.elim id λz=>⟨.inr (Cd.same.free z),λc i e=>absurd z (Cd.th p _ e)⟩
      cases f with
      |ow =>
        have yr:p≠s₂.heap.objs.size:=by
          intro z;subst z;exact h.1.ne nD
        refine⟨h'.1,?_⟩;show(if p=s₂.heap.objs.size then some []else τt p)=_;rw[zab yr];exact h'.2
      |fz=>exact⟨h'.1,h'.2.2⟩
      |al=>exact⟨h'.1,ZE p h'.2.1⟩
      |sc=>exact h'
  have tst:∀(P:aw) (ρ1:a_) (b:Bool) (E:St) (H5:Hp) (s6:Shared),jr Φ bJ ρ1=ok b->Inv B P E H5 s6->SI B F' R' (λ_=>none) ρ1 E H5 ->
      wpAny (model X.prog X.w) X.A (forIn ifs true λc r=>if r=true then do let ok <- isTrue c B.env (eval c B.env);pure (ForInStep.yield ok)else pure (ForInStep.yield r)) (λXa s7=>Xa=b/\∃H7,Inv B P E H7 s7/\aL H5 H7) (λ_ _=>False) s6:=by
    intro P ρ1 b E H5 s6 eb I6 S6;rcases hC with ⟨rfl,rfl⟩|⟨c,e,rfl,rfl,hPT⟩
    · rw[jr]at eb;cases eb
      exact wpAny_tests_nil ⟨rfl,H5,I6,aL.refl _⟩
    · rw[jr]at eb
      obtain⟨b',eb',eb⟩:=aH eb;have l:b'=b:=by
        cases b' with
        |true=>rw[zac rfl,jr]at eb;cases eb;rfl
        |false=>rw[zab (by simp)]at eb;cases eb;rfl
      subst l;refine wpAny_tests_one (aaA (hPT B F' L' P s6 E H5 (λb'' H7=>b''=b'/\aL H5 H7) I6 ⟨R',_,ρ1,b',S6,eb',λH7 e7=>⟨rfl,e7⟩⟩) (λb'' s7 ⟨H7,I7,l,e7⟩=>⟨l,H7,I7,e7⟩) λ_ _ e=>e)
  have loop:∀tk,codeAny (model X.prog X.w) X.A (.compLoop (.ListComp jM [⟨target,iter,ifs,0⟩] sc pos) 0 (.ref it) (.ref s₂.heap.objs.size) B.env)
      (compPost (model X.prog X.w) X.A X.xe use Post (.ref s₂.heap.objs.size) (s₂.heap.objs.size+1)) { s₂ with heap:=h₁,toks:=tk }:=by
    intro tk;refine tU (CAt X B F' R' n (bx n caps ρ) (qv n caps σ) fp tn H2 s₂.heap.objs.size items (λd=>cH t d (bx n caps ρ)) (λρ'=>jr Φ bJ ρ') (λρ'=>bp Φ elt ρ') ds) ?_ items.length
      ⟨0,[],[],0,qv n caps σ,H2,[],ds,rfl,aa3 _,I4 tk,T.keep _ _ _ Rc (λb _ o e=>old b o e),λb l=>(f2 b l).1,.nil,aL.refl _,S4,.nil,by rw[zbd];exact OP,rfl⟩
    rintro m s' ⟨i,vs,O,nn,M,H',dn,rest,hm,hi,I',m5,fr',rv,sm,gK,HP,Y,U⟩;have Oe:∀b∈fp,qd B [(s₂.heap.objs.size,fM O nn)] H' b:=λb l=>⟨fr' b l,(Jj b l).1,(Jj b l).2.1,(Jj b l).2.2.1,(Jj b l).2.2.2,λp hp=>by
      have rg:p=(s₂.heap.objs.size,fM O nn):=by simpa [B,eX]using hp
      rw[rg];exact(Tc b l).symm⟩
    by_cases jn:i<items.length
    · refine aaA (T.item B rfl rfl rfl L.calm i _ s' M H' (λ_ _=>False) I' Oe m5 (yl.go i H' sm jn)) (λr W h4=>?_) λ_ _ e=>e
      obtain⟨u,hr,h4⟩:=h4;subst hr;refine aaA h4 (λ_ s5 h5=>?_) λ_ _ e=>e;obtain⟨x,H5,I5,r5,y5,Mr,Y6⟩:=h5;obtain⟨e5,dd,hd,rd⟩:=yl.w9 i H' x H5 sm jn y5;have ZO:=I5.pinned (fp:=fp) (λb l=>⟨Y6 b l,(Oe b l).2⟩) (T.obj _ _ Mr);have vU:items.drop i=dd::items.drop (i+1):=by
        rw[zba jn];rw[List.getElem?_eq_getElem jn]at hd;cases hd;rfl
      rw[vU,jt]at Y;obtain⟨ρ1,eb,Y⟩:=aH Y;obtain⟨bb,et,Y⟩:=aH Y;refine aaA (hg _ s5 M H5 x u (λE H6=>H6=H5/\E.length=M.length/\(∀j,n<=j->E[j]?=M[j]?)/\SI B F' R' (λ_=>none) ρ1 E H5) ZO r5
        (BP F' R' x dd M H5 _ (bx n caps ρ) ρ1 (gK.go e5) rd (SY dd (aaC hd)) eb λE g1 g2 g3=>⟨rfl,g1,g2,g3⟩)) (λ_ s6 h6=>?_) λ_ _ e=>e
      obtain⟨E,H6,I6,rfl,g1,g2,S6⟩:=h6;refine aaA (tst _ ρ1 bb E H6 s6 et I6 S6) (λXa s7 h7=>?_) λ_ _ e=>e;obtain⟨rfl,H7,I7,e7⟩:=h7;have Wi:∀{P:aw} {σ3:St} {Z:Hp} {s8:Shared},Inv B (P++jF fp s5.heap) σ3 Z s8->tn (i+1) s8.heap/\∀b∈fp,Z b=none:=λ{P σ3 Z s8} I8 =>
        ⟨T.keep _ _ _ Mr λb l o e=>(I8.pin (b,o) (aap _ (aap _ (iW l e)))).1,λb l=>by
          obtain⟨o,e,_⟩:=T.obj _ _ Mr b l;exact(I8.pin (b,o) (aap _ (aap _ (iW l e)))).2.1⟩
      have LD:∀{Z:Hp},aL H7 Z->SI B F' R' (λ_=>none) (bx n caps ρ) E Z:=λ{Z} e8=>(gK.go ((e5.trans e7).trans e8)).sig g1 λj d hj=>g2 j (yq hj);cases Xa with
      |false =>
        rw[zab (by simp)]at Y ⊢;exact⟨items.length - (i+1),by left,i+1,vs,O,nn,E,H7,dn,rest,rfl,jn,I7.lC,(Wi I7).1,(Wi I7).2,rv,(sm.trans e5).trans e7,LD (aL.refl _),HP.go (e5.trans e7),Y,U⟩
      |true =>
        rw[zac rfl]at Y ⊢;obtain⟨y,ey,Y⟩:=aH Y;obtain⟨ys,kO,Y⟩:=aH Y;cases Y;refine aaA (hE B F' L' _ s7 E H7 (λv Z=>aL H7 Z/\b8 X.K (gP B F') R' (λ_=>none) [] H7 Z v y) I7 ⟨R',_,ρ1,y,S6.go e7,ey,λv Z e8 r8=>⟨e8,?_⟩⟩) (λu8 s8 h8=>?_) λ_ _ e=>e
        · obtain⟨τt,fr,rr⟩:=r8
          exact⟨τt,fr,rr.imp (q:=[]) (q':=[]) (λ_ _ h=>h) λc p ys f h=>h.mono id (λh=>⟨h.1,λ_ _ e=>by cases e⟩) id⟩
        · obtain⟨v8,Z,I8,rv8,e8,r8⟩:=h8
          obtain⟨pD,nD,_,_,_⟩:=I8.pin (s₂.heap.objs.size,fM O nn) (aap _ (aaB _ aai));have hlen:O.length<=1000000:=by
            obtain⟨_,_,rr⟩:=HP;have h1:dn.length<=ds.length:=by rw[<- U,zah];left
            have hc:eB=1000000:=rfl;rw[<- rv.length,rr.length];left
          have hz:sizeLine=16777216:=abn;refine abx PySem.F.slot_list_append ⟨_,pD,rfl⟩ PySem.F.entry_list_append (PySem.F.args_list_append_2 _ _) (PySem.list_append s₂.heap.objs.size O.toArray nn u8 (by rw[zad];left)) ⟨pD,?_⟩;have q:=PySem.IsL.update pD (λx=>x.push u8);have SM:O.toArray.push u8=(O++[u8]).toArray:=by simp
          rw[SM]at q;obtain⟨Vs,q'⟩:∃Vs,(s8.heap.update s₂.heap.objs.size (Obj.mapSeq λx=>x.push u8)).get? s₂.heap.objs.size=some (fM (O++[u8]) Vs):=⟨_,q⟩
          have I8d:Inv B (jF fp s5.heap) E Z s8:=I8.j7 λp hp=>I8.pin p (aap _ (aap _ hp));have I8t:Inv B (jF fp s5.heap) E Z { s8 with heap:=s8.heap.update s₂.heap.objs.size (Obj.mapSeq λx=>x.push u8),toks:=s8.toks } :=
            I8d.turned (it:=s₂.heap.objs.size) (λb o l e=>(aa4 s8.heap (Obj.mapSeq λx=>x.push u8) (acb l)).trans e) nD VE (.inr (aaj _)) NU λp hp=>by
              have rg:p∈jF fp s5.heap:=by simpa [B,eX]using hp
              exact Tc p.1 (qX rg).1
          have kp:=Wi (P:=[]) (by rw[zay];exact I8t);refine⟨items.length - (i+1),by left,i+1,vs++[v8],O++[u8],Vs,E,Z,dn++[y],ys,rfl,jn,I8t.j7 (λp hp=>?_),kp.1,kp.2,rv.append (.cons rv8 .nil),((sm.trans e5).trans e7).trans e8,LD e8,cF.snoc ((sm.trans e5).trans e7) e8 (HP.go (e5.trans e7)) r8,kO,by rw[zbo];exact U⟩;have rg:p=(s₂.heap.objs.size,fM (O++[u8]) Vs):=by simpa using hp
          rw[rg];exact⟨q',nD,VE,YG,λv z=>by cases z⟩
    · refine aaA (T.done B rfl rfl rfl L.calm i _ s' M H' (λ_ _=>False) I' Oe m5 (yl.stop i H' sm (by left))) (λr W h1=>?_) λ_ _ e=>e
      obtain⟨hr,I1⟩:=h1;subst hr;have Yj:items.drop i=[]:=List.drop_eq_nil_of_le (by left);rw[Yj,jt]at Y;cases Y;rw[zaI]at U;subst U;exact fin vs O nn M H' W I1 rv sm HP
  have key:=λtk=>codeAny_compStart_list (loop tk) (T.self X.A 0 _ _ _ (T.keep _ _ _ Rc λb _ o e=>old b o e) (loop tk));rw[hGC];exact key _
def HB(L:Lk X S k Φ){n:Nat}{t:Tg}{l:IK}{a:ak}{sc:Scope}(E:lp S n t caps target sc)(W:jG iter=true)
  (y:∀(b:Cx) (i:ai),Lk b (S.inner target caps sc) k Φ->PE b jM (tD b i Φ elt))
  (z:(bJ=[]/\a=[])\/∃c e,bJ=[c]/\a=[e]/\∀(b:Cx) (i:ai),Lk b (S.inner target caps sc) k Φ->PT b e (ip b i Φ c))
  (x:∀(pins:aw) (s:Shared) (σ:St) (H:Hp) (R:ai) (τ:Addr->Option bt) (ρ:a_) (xs items:aa),Inv X pins σ H s->SI X F R τ ρ σ H->bL Φ es ρ=ok xs->dR Φ l xs=ok items->∀p:It->Hp->Prop,
   (∀J H2,aL H H2->Yl X.K J (md X F τ (caps++dJ es) H2) H2 items->p J H2)->wpAny (model X.prog X.w) X.A (eval iter X.env) (λv j=>wpAny (model X.prog X.w) X.A (pyIter v) (Ct X pins σ target p) X.xe j) X.xe s) :
  PE X (.ListComp jM [⟨target,iter,a,0⟩] sc pos) (tD X F Φ (.comp n t caps l es bJ elt)):=by
 intro pins s σ H Q I g;obtain⟨R,τ,ρ,d,M,B,g⟩:=g;rw[eval_ListComp];refine wB L E W y z x (use:=none) (Post:=EP X pins σ Q) I M B λh C H1 j m u _ O q r=>?_;exact⟨m,u,λh' U=>⟨.ref h,H1,O h' U,rfl,g _ _ q r⟩⟩
end
section
variable {X:Cx}{pins:aw}{s:Shared}{σ:L2.St}{H:Hp}
def vO{A:aN}{E:aG}{l:Addr}{items:aY}{Q:aG}{s:Shared}(hl:s.heap.IsList l items)
  (h:∀s₂:Shared,s₂={ s with heap:=s.heap.push { cls:=.type "list_iterator",data:=.fields #[.ref l,.int 0 0] } }->s₂.heap.IsListIter s.heap.objs.size l 0/\s₂.heap.IsList l items->(∀b∈[s.heap.objs.size,l],b<s₂.heap.objs.size)->l≠s.heap.objs.size->Q (.ref s.heap.objs.size) s₂) :
  wpAny (model prog w) A (pyIter (.ref l)) Q E s:=by
 have a:l<s.heap.objs.size:=by obtain⟨_,e,_⟩:=hl;exact aag e
 refine wpAny_pyIter_list hl (h _ rfl ⟨⟨_,aaq _ rfl,rfl,rfl⟩,hl.push _⟩ (λb g=>?_) (aak a));have d:(s.heap.push { cls:=.type "list_iterator",data:=.fields #[.ref l,.int 0 0] }).objs.size=s.heap.objs.size+1:=Heap.size_push ..;have c:b=s.heap.objs.size\/b=l:=by simpa using g
 show b<_;rw[d];rcases c with e|e
 ·rw[e];exact abi _
 ·rw[e];exact aaR a
def vM{a:Obj}{s:Shared}(d:∀b o,b∉[s.heap.objs.size]->(s.heap.push a).get? b=some o->h'.get? b=some o):∀b o,s.heap.get? b=some o->h'.get? b=some o:=λb o e =>
 d b o (λc=>absurd ((by simpa using c:b=s.heap.objs.size)▸aag e) (aaz _)) (aad _ e)
def dU{h:Heap}{a:Addr}{b:aY}(p:PlainL h a b):h.IsList a b:=let ⟨o,n,h1,h2,_,h4⟩:=p;⟨o,h1,h2,n,h4⟩
theorem mI(a:Nat->Int)(ns:ae)(b:∀i,a i=ns.getD i 0):∀k,k<=ns.length->preSum a k=(ns.take k).sum
 |0,_=>by simp[preSum]
 |k+1,h=>by
  have c:k<ns.length:=by left
  rw[preSum,mI a ns b k (by left),b k,List.take_add_one,List.sum_append];simp[List.getD,c]
def B_(t:X.calm=true):iO X (.builtin "sum") (λxs H Q=>∃(p:Addr) (ns:ae),xs=[.ref p]/\dD X.K H p (ns.map V.int)/\Q (.int ns.sum) H):=by
 intro pins s σ H xs E Q I r h;obtain⟨p,ns,rfl,l,q⟩:=h;obtain⟨u,rfl,b⟩:=r.one;cases b;obtain⟨a,rv,k,d⟩:=I.list l;have hlen:a.length=ns.length:=by have:=rv.length;simpa using this.symm
 refine call_sum_walkG (vO (dU k) λs₂ e st B y=>?_);subst e;refine⟨_,_,_,_,_,_,λi=>ns.getD i 0,rfl,Walks.list (A:=X.A.in1) (I.ok.hd t) _ p y a.toArray,st,B,λi v x=>?_,λh' j t' n=>?_⟩
 ·have c:a[i]?=some v:=by simpa using x
  have J:i<a.length:=by
   by_cases z:i<a.length
   ·exact z
   ·rw[List.getElem?_eq_none (by left)]at c;cases c
  have m:(ns.map V.int)[i]?=some (.int (ns.getD i 0)):=by
   rw[List.getElem?_map,List.getElem?_eq_getElem (by left)];simp[List.getD,show i<ns.length by left]
  obtain⟨u,g,b⟩:=rv.get m;rw[c]at g;cases g;exact b
 ·refine⟨.int ns.sum,H,I.kept (t':=j) (vM n),⟨t',?_⟩,q⟩;have d:preSum (λi=>ns.getD i 0) a.toArray.size=ns.sum:=by
   rw[zad,hlen,mI _ ns (λ_=>rfl) _ (Nat.le_refl _),List.take_length]
  rw[d]
def range_all{c:Type}(l:List c)(f:c->Bool)(d:Nat->Bool)(h:∀i a,l[i]?=some a->d i=f a):(List.range l.length).all d=l.all f:=by
 rw[zbx,zaH,zaH];constructor
 ·intro z a g;obtain⟨i,b,e⟩:=List.mem_iff_getElem.mp g;have:=z i (List.mem_range.mpr b);rw[h i a (by rw[List.getElem?_eq_getElem b,e])]at this;exact this
 ·intro z i b;have b:=List.mem_range.mp b;rw[h i l[i] (List.getElem?_eq_getElem b)];exact z _ (aa6 b)
def Cb(t:X.calm=true):iO X (.builtin "all") (λxs H Q=>∃(p:Addr) (bs:List Bool),xs=[.ref p]/\dD X.K H p (bs.map V.bl)/\Q (.bl (bs.all id)) H):=by
 intro pins s σ H xs E Q I r h;obtain⟨p,bs,rfl,l,q⟩:=h;obtain⟨u,rfl,c⟩:=r.one;cases c;obtain⟨b,rv,k,L⟩:=I.list l;have hlen:b.length=bs.length:=by have:=rv.length;simpa using this.symm
 refine call_all_walk (vO (dU k) λs₂ e st U B=>?_);subst e;refine⟨_,_,_,_,_,_,λi=>bs.getD i false,rfl,Walks.list (A:=X.A.in1) (I.ok.hd t) _ p B b.toArray,st,λi v J O W y x=>?_,λh' j n=>?_⟩
 ·have d:b[i]?=some v:=by simpa using y
  have M:i<b.length:=by
   by_cases z:i<b.length
   ·exact z
   ·rw[List.getElem?_eq_none (by left)]at d;cases d
  have m:(bs.map V.bl)[i]?=some (.bl (bs.getD i false)):=by
   rw[List.getElem?_map,List.getElem?_eq_getElem (by left)];simp[List.getD,show i<bs.length by left]
  obtain⟨u,g,c⟩:=rv.get m;rw[d]at g;cases g;cases c;exact aa1 x
 ·refine⟨.bl (bs.all id),H,I.kept (t':=j) (vM n),?_,q⟩;show Value.bool _=Value.bool _;rw[zad,hlen,range_all bs id _ λi a e=>by simp[List.getD,e]]
end
variable {ns:ae}
section
variable {prog:aM}{w:World}{A:aN}{E:aG}{s:Shared}
def pP{l:Addr}{vs:az}{Q:az->Shared->Prop}{o:Obj}{n:Nat}(c:s.heap.get? l=some o)(e:o.cls=.type "tuple")(d:o.data=.seq vs.toArray n)
  (h:Q vs { s with heap:=(s.heap.push (seqObj "list" #[] 0)).update s.heap.objs.size (Obj.mapSeq (· ++ vs.toArray)) }) (hsz:vs.length<=sizeLine):wpAny (model prog w) A (collect (.ref l)) Q E s:=by
 unfold collect;refine aaa (wpAny_runValue (abu entry_proto_collect' ?_));show wpAny _ _ (newList [] >>= λz=>again (.builtin "list.__iadd__" ⟨[z,.ref l],[]⟩)) _ _ s;refine aaa (acw (aae ⟨acs _ (by decide +kernel),abu entry_list_iadd' ?_⟩));have b:(s.heap.push (seqObj "list" #[] 0)).get? l=some o:=aad _ c;have a:(s.heap.push (seqObj "list" #[] 0)).get? s.heap.objs.size=some (seqObj "list" #[] 0):=aaq _ rfl;show wpAny _ _ (Builtin.List.listExtendWith (.ref s.heap.objs.size) (.ref l) (.ref s.heap.objs.size)) _ _ ({ s with heap:=s.heap.push (seqObj "list" #[] 0) }:Shared);unfold Builtin.List.listExtendWith;refine aaa (wpAny_typeOf (T:="tuple") ⟨o,b,e⟩ ?_);rw[aa5 (by rw[show(Value.type "tuple" == Value.type "tuple")=true from rfl,zaY])];refine aaa (listItems_at b d (aaa (listItems_at a rfl ?_)));rw[zab (by simp)];refine aaa (listUpdate_at a rfl ?_ (aa3 _) (by
  show(#[]++vs.toArray).size<=sizeLine+1;rw[Array.size_append,zad];exact acx (by simpa using hsz)))
 refine aae ?_;show wpAny (model prog w) A (load s.heap.objs.size >>= λo=>match o.data with
   |.seq xs _=>pure xs.toList
   |_=>unsupported "internal:collect") Q E ({ s with heap:=(s.heap.push (seqObj "list" #[] 0)).update s.heap.objs.size (Obj.mapSeq (· ++ vs.toArray)) }:Shared)
 refine aaa (wpAny_load (get?_update_seq a _) ?_);show wpAny _ _ (pure ((#[]:aY)++vs.toArray).toList) Q E _;rw[show((#[]:aY)++vs.toArray).toList=vs by simp];exact aae h
def qt{l:Addr}{vs:az}{Q:aG}{o:Obj}{n:Nat}(c:s.heap.get? l=some o)(e:o.cls=.type "tuple")(d:o.data=.seq vs.toArray n)(g:IntsAre vs ns)(p:vs.length<64)
  (h:∀(out:aY) (a:ae),IntsAre out.toList a->a.Perm ns->a.Pairwise (· <= ·)->Q (.ref (s.heap.objs.size+1)) { s with heap:=sortedAll s.heap vs out }):wpAny (model prog w) A (call (.builtin "sorted") [.ref l]) Q E s:=by
 refine Calls.call_function_entry kind_sorted plain_sorted entry_sorted (args_sorted1 _) ?_;unfold Builtin.«sorted»;have b:vs.length<=sizeLine:=by rw[sizeLine_eq];left
 refine aaa (m:=checkCount "sorted" 1 1 _) (aae (aaa (pP c e d (aaa (acw ?_)) b)));have e1:((s.heap.push (seqObj "list" #[] 0)).update s.heap.objs.size (Obj.mapSeq (· ++ vs.toArray))).objs.size=s.heap.objs.size+1:=by rw[Heap.size_update,size_push']
 have e2:(((s.heap.push (seqObj "list" #[] 0)).update s.heap.objs.size (Obj.mapSeq (· ++ vs.toArray))).push (seqObj "list" vs.toArray 0)).get? (s.heap.objs.size+1)=some (seqObj "list" vs.toArray 0):=by
  rw[<- e1];exact aaq _ rfl
 show wpAny _ _ _ _ _ ({ s with heap:=((s.heap.push (seqObj "list" #[] 0)).update s.heap.objs.size (Obj.mapSeq (· ++ vs.toArray))).push (seqObj "list" vs.toArray 0) }:Shared);rw[e1];refine aaa (abd (aaZ slot_list_sort ⟨_,e2,rfl⟩ entry_list_sort (list_sort_tree e2 g p λout a k j i=>⟨_,rfl,aae ⟨_,rfl,h out a k j i⟩⟩) (args_list_sort _)))
end
def sortI_perm(ns:ae):(sortI ns).Perm ns:=abr ..
def Dk(ns:ae):(sortI ns).Pairwise (· <= ·):=by
 have:=List.pairwise_mergeSort (le:=λa b:Int=>decide (a<=b)) (by intro a b c;simp;left) (by intro a b;simp;left) ns;unfold sortI;simpa using this
theorem eF:∀{vs:az} {ns:ae},Vals (ns.map V.int) vs->IntsAre vs ns
 |_,[],h=>by cases h;exact .nil
 |_,n::ns,h=>by
  cases h with
  |cons r t=>obtain⟨a,rfl⟩:=r;exact .cons n a (eF t)
def ua:iO X (.builtin "sorted") (λxs H Q=>∃(p:Addr) (ns:ae),xs=[.ref p]/\(dD X.K H p (ns.map V.int)\/bg X.K H p (ns.map V.int))/\ns.length<64/\∀l,H l=none->Q (.ref l) (upd H l (.lst ((sortI ns).map V.int)))):=by
 intro pins s σ H xs L Q I r h;obtain⟨p,ns,rfl,c,k,q⟩:=h;obtain⟨u,rfl,m⟩:=r.one;cases m;have fin:∀(vs:az) (out:aY) (a:ae),IntsAre out.toList a->a.Perm ns->a.Pairwise (· <= ·)->EP X pins σ Q (.ref (s.heap.objs.size+1)) { s with heap:=sortedAll s.heap vs out }:=by
  intro vs out a i g d;obtain rfl:a=sortI ns:=PySem.W.ksm_same (g.trans (sortI_perm ns).symm) d (Dk ns);obtain⟨e,B⟩:=sortedAll_at s.heap vs out;have y:H (s.heap.objs.size+1)=none:=I.cJ.fresh (acE _);refine⟨.ref (s.heap.objs.size+1),upd H (s.heap.objs.size+1) (.lst ((sortI ns).map V.int)),I.laid (t':=s.toks) (λb u z=>sortedAll_old z) (acE _) ⟨?_,out.toList,e,l8 i,by simpa using B⟩,rfl,q _ y⟩;rw[zaa,(sortI_perm ns).length_eq,sizeLine_eq];left
 rcases c with c|c
 ·obtain⟨j,rv,t,v⟩:=I.list c;have hl:j.length<64:=by rw[<- rv.length];simpa using k
  exact sorted_ints (dU t) (eF rv) hl λout a i g d=>fin j out a i g d
 ·obtain⟨j,rv,⟨o,x,J,n,E⟩,v⟩:=I.tuple c;have hl:j.length<64:=by rw[<- rv.length];simpa using k
  exact qt x J E (eF rv) hl λout a i g d=>fin j out a i g d
def CY:isSubtype (.type "tuple") (.type "set")=pure false:=by rw[isSubtype_type];kernel_rfl
def uS:isSubtype (.type "tuple") (.type "frozenset")=pure false:=by rw[isSubtype_type];kernel_rfl
noncomputable abbrev m6(a:Bool):Obj:={ cls:=.type "set",dict:=none,data:=.set #[] 0 (.fresh 0 0 a) }
noncomputable abbrev dist(ns:ae):ae:=firstMet (λi=>ns.getD i 0) ns.length
section
variable {prog:aM}{w:World}{A:aN}{E:aG}{s:Shared}
def xM{l:Addr}{d:az}{Q:aG}(hh:A.handled=none)(hl:s.heap.IsTuple l d.toArray)(hi:IntsAre d ns)(I:d.length+1<scanBound)
  (h:∀(h':Heap) (tk:Nat),h'.SetOf (intKind prog w) s.heap.objs.size (λk=>(dist ns).any (· == k)) (dist ns).length->(∀b o,b<s.heap.objs.size->s.heap.get? b=some o->h'.get? b=some o)->Q (.ref s.heap.objs.size) { s with heap:=h',toks:=tk }) :
  wpAny (model prog w) A (call (.type "set") [.ref l]) Q E s:=by
 have M:d.length=ns.length:=hi.length;obtain⟨c,tl,k1⟩:=PySem.F.called_set.mro;have k2:=PySem.F.called_set.made;have k3:=PySem.F.called_set.sub;have k4:=PySem.F.called_set.notType;have k5:=PySem.F.called_set.canCreate;have k6:=PySem.F.typeCall_set_1 (.ref l);refine wpAny_call (codeAny_of_tree (show wpAny _ _ (callAny (.type "set") _) _ _ _ from aae ⟨acs _ (by decide +kernel),abu PySem.F.entry_type_call ?_⟩));rw[Around.under_plain (weight_type_call_type "set" [.ref l] []) rfl]
 repeat (any_goals (first|assumption|wp_step))
 refine ach (code_set_new_1 (.ref l) (E:=E) (Q₁:=λz g=>∃a:Bool,z=.ref s.heap.objs.size/\g={ s with heap:=s.heap.push (m6 a) }) λa=>⟨a,rfl,rfl⟩) λr g q=>?_;cases r with
 |error e=>exact q
 |ok fl =>
  cases fl with
  |next=>exact q.elim
  |brk=>exact q.elim
  |cont=>exact q.elim
  |ret z =>
   obtain⟨a,rfl,rfl⟩:=q;have g1:(s.heap.push (m6 a)).get? s.heap.objs.size=some (m6 a):=aaq _ rfl;have g2:Shared.TypeIs { s with heap:=s.heap.push (m6 a) } (.ref s.heap.objs.size) "set":=⟨_,g1,rfl⟩
   have g3:=PySem.F.called_set.init.lookup;have g4:=PySem.F.called_set.init.bind (.ref s.heap.objs.size)
   repeat (any_goals (first|assumption|wp_step))
   refine ach (acj (R:=wants (λr s₂=>r=.none/\∃h' tk,s₂={ s with heap:=h',toks:=tk }/\h'.SetOf (intKind prog w) s.heap.objs.size (λk=>(dist ns).any (· == k)) (dist ns).length/\∀b o,b<s.heap.objs.size->s.heap.get? b=some o->h'.get? b=some o) E) PySem.F.called_set.init.plain PySem.F.entry_set_init (check_set_init_1 g2 ?_)) λp s₂ n=>?_
   ·obtain⟨ot,u,y,Z,x⟩:=hl;obtain⟨oc,od,odt,Ea⟩:=ot;simp only at y x;subst y;subst x;have u1:(s.heap.push (m6 a)).get? l=some { cls:=.type "tuple",dict:=od,data:=.seq d.toArray Z,slots:=Ea }:=aad _ u;have u2:=CY;have u3:=uS;have u4:(Value.type "tuple" == Value.type "dict")=false:=by decide
    have Y:(s.heap.push (m6 a)).IsTuple l d.toArray:=⟨_,u1,rfl,Z,rfl⟩
    unfold Builtin.«set.__init__» noKeywords Builtin.Frozenset.updateFrom;generalize U:pyIter=PI
    wp_walk
    subst U;refine wpAny_pyIter_tuple Y (aaa (wpAny_runValue ?_));have W:l<s.heap.objs.size:=aag u;have u7:A.in1.in1.in1.handled=none:=by simp[hh]
    have L:(s.heap.push (m6 a)).objs.size=s.heap.objs.size+1:=Heap.size_push ..;have u8:l≠(s.heap.push (m6 a)).objs.size:=by rw[L];exact aak (aaR W)
    have u9:s.heap.objs.size∉[(s.heap.push (m6 a)).objs.size,l]:=by
     rw[L];intro m;simp at m;exact absurd m (aay W)
    have v1:∀(i:Nat) (v:Value),d.toArray[i]?=some v->∃t,v=.int ((λi=>ns.getD i 0) i) t:=λi v hv=>hi.int_at i v (by simpa using hv);refine codeAny_set_update_loopS ((Walks.tuple u7 _ l u8 d.toArray).toS) s.heap.objs.size u9 (λi=>ns.getD i 0) v1 (by rw[zad];exact I) (d.toArray.size - 0) 0 _ (by left) (aa3 _) ⟨⟨_,aaq _ rfl,rfl,rfl⟩,Y.push _⟩ ?hS0 ?hR
    case hS0 =>
     have y1:((s.heap.push (m6 a)).push { cls:=.type "tuple_iterator",data:=.fields #[.ref l,.int 0 0] }).get? s.heap.objs.size=some (m6 a):=aad _ g1;exact SetOf_congr ((setObjOf_fresh (knd:=intKind prog w) a).setOf y1 (by unfold scanBound;left)) (λ_=>rfl) rfl
    case hR =>
     intro s' B j;obtain⟨h',g',d',J,W8⟩:=s';cases (show g'=s.gens from B.gens);cases (show d'=s.drawn from B.drawn);cases (show W8=s.os from B.os);have j:h'.SetOf (intKind prog w) s.heap.objs.size (λk=>(dist ns).any (· == k)) (dist ns).length:=by
      have e:d.toArray.size=ns.length:=by rw[zad,M]
      rw[e]at j;exact j
     refine aae (show wpAny _ _ (ret Value.none) _ _ _ from aae ⟨rfl,h',J,rfl,j,λb o I e=>B.heap b o (λm=>?_) (aad _ (aad _ e))⟩);rcases List.mem_cons.mp m with m|m
     ·exact aak I m
     ·have m:b=(s.heap.push (m6 a)).objs.size:=by simpa using m
      rw[L]at m;exact aak (aaR I) m
   ·cases p with
    |error e=>exact n
    |ok Ub =>
     cases Ub with
     |ret r =>
      obtain⟨rfl,h',tk,rfl,j,O⟩:=n
      repeat (any_goals (first|assumption|wp_step))
      exact h _ _ j O
     |next=>exact n.elim
     |brk=>exact n.elim
     |cont=>exact n.elim
end
def FY(ns:ae):dist ns=wu ns:=by
 unfold dist firstMet wu;have e:(List.range ns.length).map (λi=>ns.getD i 0)=ns:=by
  refine acC (by simp) λi a b=>?_;simp at a;simp[a]
 rw[e];rfl
def rLs(K:ao):ag->Hp->VK->Prop:=λxs H Q=>∃(p:Addr) (ns:ae),xs=[.ref p]/\bg K H p (ns.map V.int)/\ns.length<4000/\Q (.int (wu ns).length) H
def boot_set:bootBuiltins ("set" : Str)=some (.type "set"):=by decide +kernel
def Ie{e:Expr}{t:TA}{p:Pos}(y:X.calm=true)(Z:Gl X ("len" : Str))(d:X.mg ("len" : Str)=none)(g:Gl X ("set" : Str))(c:X.mg ("set" : Str)=none)(B:PA X [e] t)
  (m:∀es,starEach (e::es) X.env=(false,eval e X.env)::starEach es X.env):PE X (.Call (.Name ("len" : Str) p) [.Call (.Name ("set" : Str) p') [e] [] pos'] [] pos) (Q7 (rLs X.K) t):=by
 intro pins s σ H Q I h;refine aa8 (eO I Z d PySem.boot_len ?_ (by decide) (by decide));refine PyProof.Rows.callWith_builtin1 ?_ rfl rfl;show wpAny _ _ (spliced ((false,eval (.Call (.Name ("set" : Str) p') [e] [] pos') X.env)::[])) _ _ s;refine abW ?_;refine aa8 (eO I g c boot_set ?_ (by decide) (by decide));refine aav (dG (B pos' pins s σ H _ I h) λus s1 W=>?_) (m _) rfl;obtain⟨vs,H1,i,r1,q1⟩:=W;obtain⟨a,ns,rfl,v,hl,q⟩:=q1;obtain⟨u,rfl,l⟩:=r1.one;cases l;obtain⟨Y,rv,r,hz⟩:=i.tuple v;have x:Y.length=ns.length:=by rw[<- rv.length];simp
 refine xM (i.ok.hd y) r (eF rv) (by unfold scanBound;left) λh' k j n=>ab5 ?_;rw[FY]at j;obtain⟨o,es,ep,tb,U,O,M,_,_,L,J,E⟩:=j;refine call_len_set U O M J (by unfold scanBound at L;omega) ?_;exact⟨.int (wu ns).length,H1,i.kept (t':=k+1+1) λb u z=>n b u (aag z) z,⟨_,by rw[E]⟩,q⟩
variable {args elts:ak}
section
variable {X:Cx}{S:Sx}{k:Nat}{F:ai}{Φ:aU}
def Lk.Z3(L:Lk X S k Φ):X.A.units+40<cLine:=by have:=L.room.units;left
def RB(K:ao)(neg:Bool):R2:=λv u H Q=>∃(d d':D) (N N':kA) (k k':bt),Rep (bg K H) N k v d/\Rep (bg K H) N' k' u d'/\(∀q p xs f,N q p (.l xs) f->dD K H p xs)/\(∀q p xs f,N' q p (.l xs) f->dD K H p xs)/\iV 40 d=true/\iV 40 d'=true /\
 Q (.bl (if neg then !nj d d' else nj d d')) H
def M7(i:X.A.units+40<cLine):mT X (compareOp .Eq) (RB X.K false):=by
 intro pins s σ H x y v u Q I b a h;obtain⟨d,d',N,N',k,k',r1,r2,n1,g,e,c,q⟩:=h;exact(alike I n1 g 40 X.A r1 r2 e c b a i).rc X.prog X.w X.xe _ ⟨.bl _,H,I,rfl,q⟩
def M6(i:X.A.units+40<cLine):mT X (compareOp .NotEq) (RB X.K true):=by
 intro pins s σ H x y v u Q I b a h;obtain⟨d,d',N,N',k,k',r1,r2,n1,g,e,c,q⟩:=h;exact(alike I n1 g 40 X.A r1 r2 e c b a i).ne X.prog X.w X.xe _ ⟨.bl _,H,I,rfl,q⟩
def DJ{k:bt}{v:V}{d:D}(h:Rep T N k v d)(h':Rep T' N' k' v' d')(f:ej d=true)(a:ej d'=true):jq v=true/\JA v v'=nj d d':=by
 cases h<;>first | (cases f;done) | (cases h'<;>first | (cases a;done)|exact⟨rfl,rfl⟩)
def Bk{k:bt}{v:V}{d:D}(h:Rep T N k v d)(f:ej d=true):jq v=true:=by
 cases h<;>first | (cases f;done)|rfl
def HU{v:V}{d:D}(c:Rep T' N' k' v d)(f:ej d=true){k:bt}{n:Nat}(h:aI T N k n xs ds):ds.all ej=true->xs.all jq=true/\Su v xs=inD d ds :=
 h.ind (P:=λ_ xs ds=>ds.all ej=true->xs.all jq=true/\Su v xs=inD d ds) (λ_ _=>⟨rfl,rfl⟩) λ_ _ _ _ _ h t b fs=>by
  obtain⟨l,j⟩:=aF fs;obtain⟨e,a⟩:=b j;obtain⟨i,g⟩:=DJ h c l f;refine⟨by rw[zaw,i,e];rfl,?_⟩;unfold Su at a ⊢;rw[zaG,g,a];rfl
def MO(K:ao)(op:Cv):R2:=match op with
 |.eq=>RB K false
 |.ne=>RB K true
 |.lt=>GI λi j=>.bl (decide (i<j))
 |.le=>GI λi j=>.bl (decide (i<=j))
 |.gt=>GI λi j=>.bl (decide (j<i))
 |.ge=>GI λi j=>.bl (decide (j<=i))
 |.Co=>Vd K false
def Ee(L:Lk X S k Φ)(op:Cv):mT X (compareOp (W_ op)) (MO X.K op):=by
 cases op with
 |eq=>exact M7 L.Z3
 |ne=>exact M6 L.Z3
 |lt=>exact RP
 |le=>exact RQ
 |gt=>exact RR
 |ge=>exact RS
 |Co=>exact Bp
def sU{op:CmpOp}{r:Expr}(h:jG r=true):behindInMarks op r=false:=by
 cases r<;>first|rfl | (cases h;done)
def Pb{f:Int->Int->Bool}{a b d:D}(h:Qi f a b=ok d):∃i j,a=.int i/\b=.int j/\d=.bl (f i j):=by
 cases a with
 |int i=>cases b with
  |int j=>cases h;exact⟨i,j,rfl,rfl,rfl⟩
  |_=>exact nk h
 |_=>exact nk h
def Nb{n:Bool}{a b d:D}(h:nnD n a b=ok d):b=.bz/\d=.bl (bif n then !Ek a else Ek a):=by
 cases b with
 |bz=>cases h;exact⟨rfl,rfl⟩
 |_=>exact nk h
def NH{n:Bool}{a b d:D}(h:Vu n a b=ok d):∃ds,yn b=some ds/\ej a=true/\ds.all ej=true/\d=.bl (bif n then !inD a ds else inD a ds):=by
 unfold Vu at h;cases g:yn b with
 |none=>rw[g]at h;exact nk h
 |some ds =>
  rw[g]at h;obtain⟨c,e⟩:=uE h;exact⟨ds,rfl,(aF c).1,(aF c).2,e.symm⟩
def wC{op:Cv}{a b:CE}(m:tD X F Φ (.cmp op a b) σ H Q):Ku (MO X.K op) (tD X F Φ a) (tD X F Φ b) σ H Q:=by
 obtain⟨R,τ,ρ,d,B,c,m⟩:=m;obtain⟨x,Z,c⟩:=aH c;obtain⟨y,Y,c⟩:=aH c;refine tD.intro B Z λv H1 e1 r1=>tD.intro (B.go e1) Y λu H2 e2 r2=>?_;have r:∀{b},d=.bl b->Q (.bl b) H2:=λ{b} z=>m _ H2 (e1.trans e2) (z▸.bl);clear m B;have L:∀n,ZF n x y=ok d->RB X.K n v u H2 Q:=λn h=>by
  obtain⟨E,z⟩:=uE h;obtain⟨g,J,p1⟩:=r1.go e2;obtain⟨e,I,p2⟩:=r2;exact⟨x,y,_,_,_,_,p1,p2,λq p xs f h=>h.sq,λq p xs f h=>h.sq,(aF E).1,(aF E).2,by have:=r z.symm;cases n<;>exact this⟩
 have s:∀f,Qi f x y=ok d->GI (λi j=>.bl (f i j)) v u H2 Q:=λf h=>by
  obtain⟨i,j,rfl,rfl,z⟩:=Pb h;exact⟨i,j,(r1.go e2).isInt,r2.isInt,r z⟩
 have nn:∀n,nnD n x y=ok d->u=.bz/\Q (.bl (bif n then !decide (v=.bz)else decide (v=.bz))) H2:=λn h=>by
  obtain⟨rfl,z⟩:=Nb h;obtain⟨g,J,p1⟩:=r1.go e2;obtain⟨e,I,p2⟩:=r2;cases p2;refine⟨rfl,?_⟩;rw[show decide (v=.bz)=Ek x by cases p1<;>rfl];exact r z
 have M:∀n,Vu n x y=ok d->Vd X.K n v u H2 Q:=λn h=>by
  obtain⟨ds,t,c1,c2,z⟩:=NH h;clear h;obtain⟨g,J,p1⟩:=r1.go e2;obtain⟨e,I,p2⟩:=r2;have q:=r z;have fin:∀{T:nq} {N:kA} {p:Addr} {xs:ag} {k:Nat},aI T N [] k xs ds->dD X.K H2 p xs\/bg X.K H2 p xs->Vd X.K n v (.ref p) H2 Q:=λl O=>by
   obtain⟨W,U⟩:=HU p1 c1 l c2;exact⟨_,_,rfl,O,Bk p1 c1,W,by rw[U];cases n<;>exact q⟩
  cases p2 with
  |tup h l=>cases t;exact fin l (.inr h)
  |lst h l=>cases t;exact fin l (.inl h.sq)
  |_=>cases t
 cases op with
 |eq=>exact L false c
 |ne=>exact L true c
 |lt=>exact s _ c
 |le=>exact s _ c
 |gt=>exact s _ c
 |ge=>exact s _ c
 |Co=>exact M false c
def C8{c:CE}{Q:Bool->Hp->Prop}(h:ip X F Φ c σ H Q):tB (tD X F Φ c) σ H Q:=by
 obtain⟨R,τ,ρ,b,l,a,i⟩:=h;unfold lr at a;obtain⟨d,j,g⟩:=aH a;refine tD.intro l j λv H' e r=>?_;cases d<;>simp[iR]at g;cases g;exact⟨_,r.BJ,i H' e⟩
def cP{c:CE}{e:Expr}(h:PE X e (tD X F Φ c))(he:∀whole,isTrue e X.env whole=(do let v <- whole;standAt e.pos;holding [v] (truthy v))):PT X e (ip X F Φ c) :=
 PT.imp (DP h he) λ_ _ _ h=>C8 h
def AY{op:Cv}{a b:CE}{Q:Bool->Hp->Prop}(h:ip X F Φ (.cmp op a b) σ H Q):Kt (Ku (MO X.K op) (tD X F Φ a) (tD X F Φ b)) σ H Q :=
 wC (C8 h)
def dictAt{pins:aw}{s:Shared}{p:Addr}{cs:aK}(I:Inv X pins σ H s)(h:H p=some (.ext (DO p cs as xs ep))):∃o,s.heap.get? p=some o/\o.cls=.type "dict":=by
 obtain⟨⟨c,o,es,_,_,_,b,a,_⟩,_⟩:=(show dh H s.heap p (.ext (DO p cs as xs ep)) from I.cJ p _ h)
 exact⟨o,b,a.1⟩
def Nr(L:Lk X S k Φ)(t:Ty):iO X (.builtin "isinstance") (λxs H Q=>∃(x:V) (d:D) (N:kA) (k:bt),xs=[x,.ty (tyName t)]/\Rep (bg X.K H) N k x d/\(∀q p xs f,N q p (.l xs) f->dD X.K H p xs)/\(∀q p cs as xs ep f,N q p (.d cs as xs ep) f->H p=some (.ext (DO p cs as xs ep)))/\Q (.bl (cM t d)) H):=by
 intro pins s σ H xs U Q I r h;obtain⟨x,d,N,k,rfl,E,M,v,q⟩:=h;obtain⟨u,B,rfl,a,J⟩:=vals2 r;cases (show B=Value.type (tyName t) from J);have c:=IQ X.K t;have fin:∀b:Bool,b=cM t d->∀m,EP X pins σ Q (.bool b) { s with toks:=m }:=λb e m=>⟨.bl b,H,I.tok m,rfl,by rw[e];exact q⟩
 cases E with
 |bz=>cases a;exact aba PySem.W.kitx_none I.Cn True.intro (c "NoneType" (by simp[kinds])) (λz=>nomatch z) (fin _ (by cases t<;>rfl))
 |bl b=>cases a;exact aba PySem.W.kitx_bool I.Cn True.intro (c "bool" (by simp[kinds])) (λz=>nomatch z) (fin _ (by cases t<;>rfl))
 |int i=>obtain⟨t',rfl⟩:=a;exact aba PySem.W.kitx_int I.Cn True.intro (c "int" (by simp[kinds])) (λz=>nomatch z) (fin _ (by cases t<;>rfl))
 |str y=>obtain⟨t',rfl⟩:=a;exact aba PySem.W.kitx_str I.Cn True.intro (c "str" (by simp[kinds])) (λz=>nomatch z) (fin _ (by cases t<;>rfl))
 |tup h _ =>
  cases a;obtain⟨O,_,⟨o,j,g,_⟩,_⟩:=I.tuple h;exact aba PySem.W.kitx_tuple I.Cn ⟨o,j,g⟩ (c "tuple" (by simp[kinds])) (λz=>nomatch z) (fin _ (by cases t<;>rfl))
 |lst h _ =>
  cases a;obtain⟨O,_,⟨o,n,j,g,_⟩,_⟩:=I.list (M _ _ _ _ h);exact aba PySem.W.kitx_list I.Cn ⟨o,j,g⟩ (c "list" (by simp[kinds])) (λz=>nomatch z) (fin _ (by cases t<;>rfl))
 |de h _ _ =>
  cases a;obtain⟨o,j,g⟩:∃o,s.heap.get? _=some o/\o.cls=.type "dict":=dictAt I (v _ _ _ _ _ _ _ h);exact aba PySem.W.kitx_dict I.Cn ⟨o,j,g⟩ (c "dict" (by simp[kinds])) (λz=>nomatch z) (fin _ (by cases t<;>rfl))
def J7(t:Ty):bootBuiltins (tyName t:Str)=some (.type (tyName t)):=by
 cases t<;>decide +kernel
def qP(t:Ty):(tyName t:Str) ≠ "__name__" /\ ((tyName t:Str)==("__debug__" : Str))=false:=by
 cases t<;>decide +kernel
def MD(L:Lk X S k Φ){a:CE}{t:Ty}{e:Expr}{p:Pos}(hf:iY S.sc ("isinstance" : Str)=true)(r:("isinstance" : Str)∈S.bl)(j:iY S.sc (tyName t:Str)=true)(s:(tyName t:Str)∈S.bl)
  (l:PE X e (tD X F Φ a)) (g:∀es,starEach (e::es) X.env=(false,eval e X.env)::starEach es X.env):PE X (.Call (.Name ("isinstance" : Str) p) [e,.Name (tyName t:Str) p'] [] pos) (tD X F Φ (.ra a t)):=by
 have m:PE X (.Name (tyName t:Str) p') (tC (.ty (tyName t))):=zy (L.gl j) (L.bl _ s) (J7 t) rfl (qP t).1 (qP t).2;refine PE.imp (fD (Nr L t) (L.gl hf) (L.bl _ r) PyProof.Rows.boot_isinstance (cE l (cE m eE) (g _)) (he:=g _)) λσ H Q b=>?_;obtain⟨R,τ,ρ,d,u,c,b⟩:=b;obtain⟨x,n,c⟩:=aH c;cases c;refine tD.intro u n λv H1 e1 r1=>?_;obtain⟨i,y,p1⟩:=r1;exact⟨v,x,_,_,rfl,p1,λq p xs f h=>h.sq,λq p cs as xs ep f h=>h.dat,b _ H1 e1 .bl⟩
def Nu:@DI.EJ=@L2.EJ:=rfl
set_option tactic.hygienic true in
def Ro(L:Lk X S k Φ){a b:CE}{e i:Expr}(U:PE X e (tD X F Φ a))(O:PE X i (tD X F Φ b))(J:og i):PE X (.Subscript e i pos) (tD X F Φ (.ix a b)):=by
 refine PE.imp (KS (IU.or Nt) U O J) λσ H Q s=>?_;obtain⟨R,τ,ρ,d,B,c,s⟩:=s;obtain⟨x,Y,c⟩:=aH c;obtain⟨y,W,c⟩:=aH c;refine tD.intro B Y λv H1 e1 r1=>tD.intro (B.go e1) W λu H2 e2 r2=>?_;have Z:=e1.trans e2;have rv:=(r1.go e2).mono (fv':=gE (.ix a b)) λj M=>aaB _ M;have item:∀{q:bt} {xs:ag} {ds:aa} {τt:Addr->Option bt} {j:Int},(∀p q,τt p=some q->H p=none)->aI (bg X.K H2) (nd X.K R (kZ (gP X F) τ (gE (.ix a b))) τt H2) q 0 xs ds->uF ds j=ok d->∃w,L2.Qm xs j=some w/\Q w H2:=by
  intro q xs ds τt j n g h;unfold uF at h;split at h
  ·rename_i d' l;cases h;cases r:DI.EJ ds.length j with
   |none=>rw[r]at l;cases l
   |some m =>
    rw[r]at l;obtain⟨w,hw,I⟩:=g.get (show ds[m]?=some d' from l);refine⟨w,?_,s w H2 Z ⟨λ_=>none,λ_ _ h=>by simp at h,I.gJ B n⟩⟩;unfold L2.Qm;rw[<- Nu,g.length,r];exact hw
  ·cases h
 cases y with
 |int j =>
  obtain⟨τt,n,E⟩:=rv;cases r2.isInt;cases x with
  |tup ds =>
   cases E with
   | @tup _ p xs _ h g=>obtain⟨w,z,t⟩:=item n g c;exact .inr ⟨p,xs,j,w,rfl,rfl,h,z,t⟩
  |lst f ds =>
   cases E with
   | @lst _ p xs _ _ h g=>obtain⟨w,z,t⟩:=item n g c;exact .inl ⟨p,xs,j,w,rfl,rfl,h.sq,z,t⟩
  |_=>exact nk c
 |_=>cases x<;>cases c
theorem pC:∀(cs:aA) {ρ:a_} {ds:aa},bL Φ cs ρ=ok ds->ds.length=cs.length
 |[],_,_,h=>by cases h;rfl
 |c::cs,_,_,h=>by
  obtain⟨x,_,h⟩:=aH h;obtain⟨xs,a,h⟩:=aH h;cases h;simp[pC cs a]
def My{es:ak}{n:Nat}(h:PA X es (uC X F Φ cs))(hl:cs.length<=1000):PE X (.Tuple es n pos) (tD X F Φ (.tup cs)):=by
 refine PE.imp (MW h) λσ H Q a=>?_;obtain⟨R,τ,ρ,d,j,b,a⟩:=a;obtain⟨ds,e,b⟩:=aH b;cases b;refine⟨R,τ,ρ,ds,j,e,λvs H1 e1 r1=>?_⟩;obtain⟨τt,i,c⟩:=r1;have l:sizeLine=16777216:=abn;refine⟨by rw[c.length,pC cs e];left,λp g=>?_⟩;have es:aL H1 (upd H1 p (.tup vs)):=aL.upd g;exact a _ _ (e1.trans es) ⟨τt,i,.tup (bg.of bc) (c.imp (λ_ _ h=>bg.same es h) λ_ _ _ _ h=>nd.same es h)⟩
def MB{es:ak}(h:PA X es (uC X F Φ cs))(hl:cs.length<=1000):PE X (.List es pos) (tD X F Φ (.lst cs)):=by
 refine PE.imp (xW h) λσ H Q a=>?_;obtain⟨R,τ,ρ,d,m,g,a⟩:=a;obtain⟨ds,j,g⟩:=aH g;cases g;refine⟨R,τ,ρ,ds,m,j,λvs H1 e1 r1=>?_⟩;obtain⟨τt,l,i⟩:=r1;have n:sizeLine=16777216:=abn;refine⟨by rw[i.length,pC cs j];left,λp e=>?_⟩;have es:aL H1 (upd H1 p (.lst vs)):=aL.upd e;refine a _ _ (e1.trans es) ⟨λq=>if q=p then some []else τt q,λq z a=>?_,.lst ⟨bc,by simp⟩ (i.imp (λ_ _ h=>bg.same es h) λc q xs f h=>?_)⟩
 ·by_cases b:q=p
  ·subst b;exact e1.free e
  ·simp only[b,if_false]at a;exact l q z a
 ·have h':=nd.same es h;cases f with
  |ow =>
   have b:q≠p:=by
    intro z;subst z;exact h.1.ne e
   exact⟨h'.1,by simp only[b,if_false];exact h'.2⟩
  |fz=>exact h'
  |al=>exact h'
  |sc=>exact h'
def HC(L:Lk X S k Φ){f:Nat}{x:Str}{y:Expr}{m:ak}{p:Pos}(hf:S.fn f=some x)(O:iY S.sc x=true)(s:oO x=true)(W:PA X (y::m) (uC X F Φ cs))
  (I:∀es,starEach (y::es) X.env=(false,eval y X.env)::starEach es X.env) (hpl:∀pos,(backTo pos (starEach m X.env)).any (·.1)=false):PE X (.Call (.Name x p) (y::m) [] pos) (tD X F Φ (.call f cs)):=by
 obtain⟨a,fd,ps,Fo,J,M,U,hl⟩:=(L.fn f x hf).ex;unfold oO at s;simp only[zaf,zaW]at s;refine PE.imp (zx Fo L.room (L.gl O) J M U .nil (RN (X:=X)) W s.1.1 (I _) (hpl _)) λσ H Q n=>?_;obtain⟨R,τ,ρ,d,j,g,n⟩:=n;obtain⟨xs,Z,g⟩:=aH g;obtain⟨r,u,g⟩:=aH g;cases g;refine⟨R,τ,ρ,xs,j,Z,λvs H1 e1 r1=>?_⟩;obtain⟨τt,Y,t⟩:=r1;have fresh:∀p,H p=none->kZ (gP X F) τ (dJ cs) p:=λp b=>⟨.inr (j.same.free b),λc i e=>absurd b (j.th p _ e)⟩
 have hR:∀p,R p->kZ (gP X F) τ (dJ cs) p:=λp b=>⟨j.rf p b,λc i e=>by rw[j.rt p b]at e;cases e⟩
 rw[zaI];refine⟨kZ (gP X F) τ (dJ cs),au aD xs,r,by rw[t.length,<- hl _ _ u,aE,zaa],aI.jw (λ_ _ h=>h) (λk k' p xs f h=>?_) t _ _,u,λv H2 e2 B=>?_⟩
 ·cases f with
  |ow=>exact⟨h.1,fresh p (Y p _ h.2)⟩
  |fz=>exact⟨h.1,hR p h.2⟩
  |al=>exact h
  |sc=>exact h
 ·obtain⟨l,Ua,E⟩:=B;refine n v H2 (e1.trans e2) ⟨l,λp q h=>e1.free (Ua p q h),Rep.map (q:=[]) (q':=[]) (λ_ _ h=>h) (λc p xs f h=>?_) E [] rfl⟩;cases f with
  |ow=>exact h
  |fz=>exact⟨h.1,h.2.elim id λz=>fresh p (e1.free z)⟩
  |al=>exact h.2.elim
  |sc=>exact h
def rBf(K:ao)(f:Bf):ag->Hp->VK->Prop:=match f with
 |.len=>λxs H Q=>∃p a,xs=[.ref p]/\(dD K H p a\/bg K H p a)/\Q (.int a.length) H
 |.abs=>λxs H Q=>∃i,xs=[.int i]/\Q (.int (if i<0 then -i else i)) H
 |.tE=>λxs H Q=>(∃i,xs=[.int i]/\Q (.int i) H)\/∃k,xs=[.bl k]/\Q (.int (if k then 1 else 0)) H
 |.list1=>λxs H Q=>∃p a,xs=[.ref p]/\(dD K H p a\/bg K H p a)/\∀l,H l=none->Q (.ref l) (upd H l (.lst a))
 |.tuple1=>λxs H Q=>∃p a,xs=[.ref p]/\((dD K H p a/\∀l,H l=none->Q (.ref l) (upd H l (.tup a)))\/(bg K H p a/\Q (.ref p) H))
 |.gu=>λxs H Q=>∃(p:Addr) (ns:ae),xs=[.ref p]/\dD K H p (ns.map V.int)/\Q (.int ns.sum) H
 |.all1=>λxs H Q=>∃(p:Addr) (bs:List Bool),xs=[.ref p]/\dD K H p (bs.map V.bl)/\Q (.bl (bs.all id)) H
 |.iS=>λxs H Q=>∃(p:Addr) (ns:ae),xs=[.ref p]/\(dD K H p (ns.map V.int)\/bg K H p (ns.map V.int))/\ns.length<64/\∀l,H l=none->Q (.ref l) (upd H l (.lst ((sortI ns).map V.int)))
def aI.one{k:bt}{n:Nat}{d:D}(h:aI T N k n vs [d]):∃v,vs=[v]/\Rep T N (n::k) v d:=by
 cases h with
 |cons h t=>cases t;exact⟨_,rfl,h⟩
def aI.two{k:bt}{n:Nat}{d e:D}(h:aI T N k n vs [d,e]):∃v w,vs=[v,w]/\Rep T N (n::k) v d/\Rep T N ((n+1)::k) w e:=by
 cases h with
 |cons h t=>obtain⟨w,rfl,h'⟩:=t.one;exact⟨_,_,rfl,h,h'⟩
def aI.ints1{k:bt}{n:Nat}{i:Int}(h:aI T N k n vs [.int i]):vs=[.int i]:=by
 obtain⟨v,rfl,z⟩:=h.one;cases z;rfl
noncomputable def Bf.one:Bf->Bool
 |_=>true
def LC{f:Bf}{xs:aa}{d:D}(hf:f.one=true)(h:qk f xs=ok d):∃x,xs=[x]:=by
 cases xs with
 |nil=>cases f<;>exact nk h
 |cons x xs=>cases xs with
  |nil=>exact⟨x,rfl⟩
  |cons y a=>cases f<;>first | (cases hf;done) | (cases x<;>exact nk h)
theorem aI.ofInts{T:nq}{N:kA}{k:bt}:∀{ns:ae} {n:Nat} {vs:ag},aI T N k n vs (ns.map D.int)->vs=ns.map V.int
 |[],_,_,h=>by cases h;rfl
 |i::ns,_,_,h=>by
  cases h with
  |cons h t=>cases h;rw[aI.ofInts t];rfl
theorem aI.K1{T:nq}{N:kA}{k:bt}:∀{ns:List Bool} {n:Nat} {vs:ag},aI T N k n vs (ns.map D.bl)->vs=ns.map V.bl
 |[],_,_,h=>by cases h;rfl
 |i::ns,_,_,h=>by
  cases h with
  |cons h t=>cases h;rw[aI.K1 t];rfl
theorem j9{T:nq}{N:kA}{k:bt}:∀(ns:ae) {n:Nat},aI T N k n (ns.map V.int) (ns.map D.int)
 |[],_=>.nil
 |i::ns,_=>.cons (.int i) (j9 ns)
set_option tactic.hygienic true in
def J_{f:Bf}(b:tD X F Φ (.bf f cs) σ H Q):Q7 (rBf X.K f) (uC X F Φ cs) σ H Q:=by
 obtain⟨R,τ,ρ,d,j,a,b⟩:=b;obtain⟨xs,p,a⟩:=aH a;refine⟨R,τ,ρ,xs,j,p,λvs H1 e1 r1=>?_⟩;obtain⟨τt,m,g⟩:=r1;cases f with
 |len =>
  obtain⟨x,rfl⟩:=LC rfl a;obtain⟨v,rfl,rv⟩:=g.one;cases x with
  |tup ds=>cases a;obtain⟨_,_,rfl,h,r⟩:=rv.AO;exact⟨_,_,rfl,.inr h,by rw[r.length];exact b _ H1 e1 .int⟩
  |lst f ds=>cases a;obtain⟨_,_,rfl,h,r⟩:=rv.mU;exact⟨_,_,rfl,.inl h.sq,by rw[r.length];exact b _ H1 e1 .int⟩
  |_=>exact nk a
 |abs =>
  obtain⟨x,rfl⟩:=LC rfl a;cases x with
  |int i=>cases a;cases g.ints1;exact⟨_,rfl,b _ H1 e1 .int⟩
  |_=>exact nk a
 |tE =>
  obtain⟨x,rfl⟩:=LC rfl a;obtain⟨v,rfl,rv⟩:=g.one;cases x with
  |bl i=>cases a;cases rv;exact .inr ⟨_,rfl,b _ H1 e1 .int⟩
  |_=>exact nk a
 |list1 =>
  obtain⟨x,rfl⟩:=LC rfl a;obtain⟨v,rfl,rv⟩:=g.one;cases x with
  |tup ds =>
   cases a;obtain⟨_,_,rfl,h,r⟩:=rv.AO;refine⟨_,_,rfl,.inr h,λl hl=>?_⟩;exact b _ _ (e1.trans (aL.upd hl)) (b8.oP (e1.free hl) (e1.trans (aL.upd hl)) bc ((r.gJ j m).imp (λ_ _ h=>bg.same (aL.upd hl) h) λ_ _ _ _ h=>nd.same (aL.upd hl) h))
  |lst f ds =>
   cases a;obtain⟨_,_,rfl,h,r⟩:=rv.mU;refine⟨_,_,rfl,.inl h.sq,λl hl=>?_⟩;exact b _ _ (e1.trans (aL.upd hl)) (b8.oP (e1.free hl) (e1.trans (aL.upd hl)) bc ((r.gJ j m).imp (λ_ _ h=>bg.same (aL.upd hl) h) λ_ _ _ _ h=>nd.same (aL.upd hl) h))
  |_=>exact nk a
 |tuple1 =>
  obtain⟨x,rfl⟩:=LC rfl a;obtain⟨v,rfl,rv⟩:=g.one;cases x with
  |lst f ds =>
   cases a;obtain⟨_,_,rfl,h,r⟩:=rv.mU;refine⟨_,_,rfl,.inl ⟨h.sq,λl hl=>?_⟩⟩;exact b _ _ (e1.trans (aL.upd hl)) ⟨λ_=>none,λ_ _ h=>by simp at h,.tup (bg.of bc) ((r.gJ j m).imp (λ_ _ h=>bg.same (aL.upd hl) h) λ_ _ _ _ h=>nd.same (aL.upd hl) h)⟩
  |_=>exact nk a
 |gu =>
  obtain⟨x,rfl⟩:=LC rfl a;obtain⟨v,rfl,rv⟩:=g.one;cases x with
  |lst f ds =>
   have a:(match intsOf ds with|some ns=>ok (.int ns.sum)|none=>none)=ok d:=a;cases c:intsOf ds with
   |none=>rw[c]at a;cases a
   |some ns =>
    rw[c]at a;cases a;cases eQ c;cases rv with
    |lst h r=>cases r.ofInts;exact⟨_,ns,rfl,h.sq,b _ H1 e1 .int⟩
  |_=>exact nk a
 |all1 =>
  obtain⟨x,rfl⟩:=LC rfl a;obtain⟨v,rfl,rv⟩:=g.one;cases x with
  |lst f ds =>
   have a:(match jP ds with|some bs=>ok (.bl (bs.all id))|none=>none)=ok d:=a;cases c:jP ds with
   |none=>rw[c]at a;cases a
   |some ns =>
    rw[c]at a;cases a;cases wJ c;cases rv with
    |lst h r=>cases r.K1;exact⟨_,ns,rfl,h.sq,b _ H1 e1 .bl⟩
  |_=>exact nk a
 |iS =>
  obtain⟨x,rfl⟩:=LC rfl a;obtain⟨v,rfl,rv⟩:=g.one;have fin:∀ds,u0 ds=ok d->∃ns:ae,ds=ns.map D.int/\ns.length<64/\∀l,H1 l=none->Q (.ref l) (upd H1 l (.lst ((sortI ns).map V.int))):=by
   intro ds e;unfold u0 at e;split at e
   ·rename_i ns c;split at e
    ·rename_i n;cases e;refine⟨ns,eQ c,n,λl hl=>b _ _ (e1.trans (aL.upd hl)) (b8.oP (e1.free hl) (e1.trans (aL.upd hl)) bc (j9 _))⟩
    ·cases e
   ·cases e
  cases x with
  |tup ds =>
   obtain⟨ns,rfl,n,q⟩:=fin ds a;cases rv with
   |tup h r=>cases r.ofInts;exact⟨_,ns,rfl,.inr h,n,q⟩
  |_=>exact nk a
def Rp(L:Lk X S k Φ){f:Bf}{y:Expr}{e:ak}{p:Pos}(b:iY S.sc (uf f:Str)=true)(c:(uf f:Str)∈S.bl)(d:PA X (y::e) (uC X F Φ cs))
  (a:∀es,starEach (y::es) X.env=(false,eval y X.env)::starEach es X.env) (hpl:∀pos,(backTo pos (starEach e X.env)).any (·.1)=false):PE X (.Call (.Name (uf f:Str) p) (y::e) [] pos) (tD X F Φ (.bf f cs)):=by
 refine PE.imp (t:=Q7 (rBf X.K f) (uC X F Φ cs)) ?_ λσ H Q g=>J_ g;cases f with
 |len=>exact fD uc (L.gl b) (L.bl _ c) PySem.boot_len d (he:=a _) (hpl:=hpl _)
 |abs=>exact fD Ge (L.gl b) (L.bl _ c) (by decide +kernel) d (he:=a _) (hpl:=hpl _)
 |tE=>exact mh Ca (L.gl b) (L.bl _ c) (by decide +kernel) d (he:=a _) (hpl:=hpl _)
 |list1=>exact mh ub (L.gl b) (L.bl _ c) (by decide +kernel) d (he:=a _) (hpl:=hpl _)
 |tuple1=>exact mh qH (L.gl b) (L.bl _ c) (by decide +kernel) d (he:=a _) (hpl:=hpl _)
 |gu=>exact fD (B_ L.calm) (L.gl b) (L.bl _ c) (by decide +kernel) d (he:=a _) (hpl:=hpl _)
 |iS=>exact fD ua (L.gl b) (L.bl _ c) (by decide +kernel) d (he:=a _) (hpl:=hpl _)
 |all1=>exact fD (Cb L.calm) (L.gl b) (L.bl _ c) (by decide +kernel) d (he:=a _) (hpl:=hpl _)
set_option tactic.hygienic true in
def HA(L:Lk X S k Φ){a:CE}{e:Expr}{p:Pos}(hf:iY S.sc ("len" : Str)=true)(q:("len" : Str)∈S.bl)(l:iY S.sc ("set" : Str)=true)(s:("set" : Str)∈S.bl)
  (m:PE X e (tD X F Φ a)) (g:∀es,starEach (e::es) X.env=(false,eval e X.env)::starEach es X.env):PE X (.Call (.Name ("len" : Str) p) [.Call (.Name ("set" : Str) p') [e] [] pos'] [] pos) (tD X F Φ (.mj a)):=by
 refine PE.imp (Ie L.calm (L.gl hf) (L.bl _ q) (L.gl l) (L.bl _ s) (cE m eE (g _)) g) λσ H Q c=>?_;obtain⟨R,τ,ρ,d,t,b,c⟩:=c;obtain⟨x,n,b⟩:=aH b;refine tD.intro t n λv H1 e1 r1=>?_;obtain⟨i,u,rv⟩:=r1;cases x with
 |tup ds =>
  simp only[zH]at b;split at b
  ·rename_i ns j;split at b
   ·rename_i hl;cases b;cases eQ j;cases rv with
    |tup h r=>cases r.ofInts;exact⟨_,ns,rfl,h,hl,c _ H1 e1 .int⟩
   ·cases b
  ·cases b
 |_=>exact nk b
def Mz{a:CE}{e:Expr}(h:PE X e (tD X F Φ a)):PE X (.UnaryOp .Not e pos) (tD X F Φ (.not a)):=by
 refine PE.imp (MY h) λσ H Q g=>?_;obtain⟨R,τ,ρ,d,l,i,g⟩:=g;obtain⟨b,c,i⟩:=aH i;obtain⟨x,j,c⟩:=aH c;cases i;refine tD.intro l j λv H1 e1 r1=>?_;cases x<;>simp[iR]at c;cases c;exact⟨_,r1.BJ,g _ H1 e1 .bl⟩
def Mp{a:CE}{e:Expr}(h:PT X e (ip X F Φ a)):PT X (.UnaryOp .Not e pos) (ip X F Φ (.not a)):=by
 refine PT.imp (DQ h) λσ H Q i=>?_;obtain⟨R,τ,ρ,b,n,g,i⟩:=i;unfold lr at g;obtain⟨d,j,g⟩:=aH g;obtain⟨c,l,j⟩:=aH j;cases j;have m:b=!c:=by
  have e2:ok (!c)=ok b:=g;exact(Except.ok.inj (aat e2)).symm
 subst m;exact⟨R,τ,ρ,c,n,l,λH' e=>i H' e⟩
def MC{c a b:CE}{t x y:Expr}(m:PT X t (ip X F Φ c))(p:PE X x (tD X F Φ a))(n:PE X y (tD X F Φ b)):PE X (.IfExp t x y pos) (tD X F Φ (.ite c a b)):=by
 refine PE.imp (D7 m p n) λσ H Q g=>?_;obtain⟨R,τ,ρ,d,l,h,g⟩:=g;obtain⟨w,q,h⟩:=aH h;refine⟨R,τ,ρ,w,l,q,λH1 e1=>?_⟩;cases w with
 |true=>exact tD.intro (l.go e1) h λv H' e r=>g v H' (e1.trans e) ((r.old e1).mono λi j=>by simp[gE,j])
 |false=>exact tD.intro (l.go e1) h λv H' e r=>g v H' (e1.trans e) ((r.old e1).mono λi j=>by simp[gE,j])
def Mq{c a b:CE}{t x y:Expr}(q:PT X t (ip X F Φ c))(u:PT X x (ip X F Φ a))(r:PT X y (ip X F Φ b)):PT X (.IfExp t x y pos) (ip X F Φ (.ite c a b)):=by
 intro pins s σ H Q I h;obtain⟨R,τ,ρ,d,j,g,h⟩:=h;unfold lr at g;obtain⟨l,B,n⟩:=aH g;obtain⟨w,v,g⟩:=aH B;refine isTrue_IfExp (dG (q pins s σ H (λi H1=>i=w/\aL H H1) I ⟨R,τ,ρ,w,j,v,λH1 e1=>⟨rfl,e1⟩⟩) λi m z=>?_);obtain⟨H1,p,hw,e1⟩:=z;subst hw;cases i with
 |true=>exact u pins m σ H1 Q p ⟨R,τ,ρ,d,j.go e1,by unfold lr;rw[show bp Φ a ρ=ok l from g];exact n,λH' e=>h H' (e1.trans e)⟩
 |false=>exact r pins m σ H1 Q p ⟨R,τ,ρ,d,j.go e1,by unfold lr;rw[show bp Φ b ρ=ok l from g];exact n,λH' e=>h H' (e1.trans e)⟩
def MA{a:CE}{e:Expr}(h:PE X e (tD X F Φ a)):PE X (.UnaryOp .USub e pos) (tD X F Φ (.neg a)):=by
 refine PE.imp (RJ Mb h) λσ H Q c=>?_;obtain⟨R,τ,ρ,d,i,b,c⟩:=c;obtain⟨x,g,b⟩:=aH b;refine tD.intro i g λv H1 e1 r1=>?_;cases x<;>simp[Iz]at b;cases b;exact⟨_,r1.isInt,c _ H1 e1 .int⟩
def Ke{c:CE}(e:tD X F Φ (.and [c]) σ H Q):tD X F Φ c σ H Q:=by
 obtain⟨R,τ,ρ,d,i,g,e⟩:=e;obtain⟨b,a,g⟩:=aH g;obtain⟨x,h,a⟩:=aH a;cases g;refine tD.intro i h λv H1 e1 r1=>?_;cases x<;>simp[iR]at a;cases a;rw[r1.BJ];exact e _ H1 e1 .bl
def M4{c:CE}(e:tD X F Φ (.or [c]) σ H Q):tD X F Φ c σ H Q:=by
 obtain⟨R,τ,ρ,d,i,g,e⟩:=e;obtain⟨b,a,g⟩:=aH g;obtain⟨x,h,a⟩:=aH a;cases g;refine tD.intro i h λv H1 e1 r1=>?_;cases x<;>simp[iR]at a;cases a;rw[r1.BJ];exact e _ H1 e1 .bl
def Gp{c:CE}{Q:Bool->Hp->Prop}(e:ip X F Φ (.and [c]) σ H Q):ip X F Φ c σ H Q:=by
 obtain⟨R,τ,ρ,d,i,a,e⟩:=e;unfold lr at a;obtain⟨b,g,a⟩:=aH a;obtain⟨x,h,g⟩:=aH g;cases g;cases a;exact⟨R,τ,ρ,_,i,h,e⟩
def Ij{c:CE}{Q:Bool->Hp->Prop}(e:ip X F Φ (.or [c]) σ H Q):ip X F Φ c σ H Q:=by
 obtain⟨R,τ,ρ,d,i,a,e⟩:=e;unfold lr at a;obtain⟨b,g,a⟩:=aH a;obtain⟨x,h,g⟩:=aH g;cases g;cases a;exact⟨R,τ,ρ,_,i,h,e⟩
def Gq{c:CE}(g:tD X F Φ (.and (c::c'::cs)) σ H Q):Kw (tD X F Φ c) (tD X F Φ (.and (c'::cs))) σ H Q:=by
 obtain⟨R,τ,ρ,d,j,a,g⟩:=g;obtain⟨b,h,a⟩:=aH a;obtain⟨x,m,h⟩:=aH h;refine tD.intro j m λv H1 e1 r1=>?_;cases x<;>simp[iR]at h;cases h;refine⟨_,r1.BJ,?_⟩;cases b with
 |true =>
  rw[zac rfl]at a ⊢;exact tD.intro (j.go e1) a λv H' e r=>g v H' (e1.trans e) ((r.old e1).mono λi l=>aap _ l)
 |false =>
  rw[zab (by simp)]at a ⊢;cases a;exact g _ H1 e1 .bl
def Ik{c:CE}(g:tD X F Φ (.or (c::c'::cs)) σ H Q):Q0 (tD X F Φ c) (tD X F Φ (.or (c'::cs))) σ H Q:=by
 obtain⟨R,τ,ρ,d,j,a,g⟩:=g;obtain⟨b,h,a⟩:=aH a;obtain⟨x,m,h⟩:=aH h;refine tD.intro j m λv H1 e1 r1=>?_;cases x<;>simp[iR]at h;cases h;refine⟨_,r1.BJ,?_⟩;cases b with
 |false =>
  rw[zab (by simp)]at a ⊢;exact tD.intro (j.go e1) a λv H' e r=>g v H' (e1.trans e) ((r.old e1).mono λi l=>aap _ l)
 |true =>
  rw[zac rfl]at a ⊢;cases a;exact g _ H1 e1 .bl
def Cc{c:CE}{Q:Bool->Hp->Prop}(g:ip X F Φ (.and (c::c'::cs)) σ H Q):Q9 (ip X F Φ c) (ip X F Φ (.and (c'::cs))) σ H Q:=by
 obtain⟨R,τ,ρ,d,i,a,g⟩:=g;unfold lr at a;obtain⟨x,j,h⟩:=aH a;obtain⟨b,l,a⟩:=aH j;refine⟨R,τ,ρ,b,i,l,λH1 e1=>?_⟩;cases b with
 |true =>
  rw[zac rfl]at a ⊢;exact⟨R,τ,ρ,d,i.go e1,by unfold lr;rw[show bp Φ (.and (c'::cs)) ρ=ok x from a];exact h,λH' e=>g H' (e1.trans e)⟩
 |false =>
  rw[zab (by simp)]at a ⊢;cases a;cases h;exact g H1 e1
def Eb{c:CE}{Q:Bool->Hp->Prop}(g:ip X F Φ (.or (c::c'::cs)) σ H Q):Z5 (ip X F Φ c) (ip X F Φ (.or (c'::cs))) σ H Q:=by
 obtain⟨R,τ,ρ,d,i,a,g⟩:=g;unfold lr at a;obtain⟨x,j,h⟩:=aH a;obtain⟨b,l,a⟩:=aH j;refine⟨R,τ,ρ,b,i,l,λH1 e1=>?_⟩;cases b with
 |false =>
  rw[zab (by simp)]at a ⊢;exact⟨R,τ,ρ,d,i.go e1,by unfold lr;rw[show bp Φ (.or (c'::cs)) ρ=ok x from a];exact h,λH' e=>g H' (e1.trans e)⟩
 |true =>
  rw[zac rfl]at a ⊢;cases a;cases h;exact g H1 e1
def j0{Q:ag->Hp->Prop}(a:uC X F Φ [] σ H Q):Q2 σ H Q:=by
 obtain⟨R,τ,ρ,d,c,b,a⟩:=a;cases b;exact a _ H (aL.refl H) .nil
def gq{c:CE}{Q:ag->Hp->Prop}(b:uC X F Φ (c::cs) σ H Q):Kv (tD X F Φ c) (uC X F Φ cs) σ H Q:=by
 obtain⟨R,τ,ρ,d,g,a,b⟩:=b;obtain⟨x,h,a⟩:=aH a;obtain⟨xs,j,a⟩:=aH a;cases a;refine tD.intro g h λv H1 e1 r1=>⟨R,τ,ρ,xs,g.go e1,j,λvs H2 e2 r2=>b _ H2 (e1.trans e2) (cF.cons e1 e2 (r1.mono λi e=>aaB _ e) (r2.mono λi e=>aap _ e))⟩
def cm{c:CE}{e:Expr}(h:b6 S c e=true)(es:ak)(env:Env):starEach (e::es) env=(false,eval e env)::starEach es env:=by
 cases e<;>first|rfl | (cases c<;>exact(aac h).elim)
theorem yO:∀{cs:aA} {es:ak},bZ S cs es=true->∀(pos:Pos) (env:Env),(backTo pos (starEach es env)).any (·.1)=false
 |[],[],_,_,_=>rfl
 |[],_::_,h,_,_=>by exact(aac h).elim
 |_::_,[],h,_,_=>by exact(aac h).elim
 |c::cs,e::es,h,pos,env=>by
  replace h:=aF h;rw[cm h.1];have:=yO h.2 pos env;unfold backTo at this ⊢;simp only[zag,zaG,Bool.false_or];exact this
def rC{c:CE}{e:Expr}(h:b6 S c e=true):og e:=by
 intro o i;cases e<;>first|rfl | (cases c<;>exact(aac h).elim)
def Ds{j:Nat}:PE X (.Constant .none j pos) (tD X F Φ .bz):=PE.imp D4 λσ H Q c=>by obtain⟨R,τ,ρ,d,e,b,a⟩:=c;cases b;exact a _ H (aL.refl H) .bz
def Kz{b:Bool}{j:Nat}:PE X (.Constant (.bool b) j pos) (tD X F Φ (.bl b)):=PE.imp RL λσ H Q e=>by obtain⟨R,τ,ρ,d,g,c,a⟩:=e;cases c;exact a _ H (aL.refl H) .bl
def Dt{i:Int}{j:Nat}:PE X (.Constant (.int i) j pos) (tD X F Φ (.int i)):=PE.imp MZ λσ H Q c=>by obtain⟨R,τ,ρ,d,e,b,a⟩:=c;cases b;exact a _ H (aL.refl H) .int
def Dq{i:Str}{j:Nat}:PE X (.Constant (.str i) j pos) (tD X F Φ (.str i)):=PE.imp sO λσ H Q c=>by obtain⟨R,τ,ρ,d,e,b,a⟩:=c;cases b;exact a _ H (aL.refl H) .str
def Ny(L:Lk X S k Φ){y:Expr}{p q:Pos}(j:iY S.sc ("range" : Str)=true)(i:("range" : Str)∈S.bl)(h:PA X [y] (uC X F Φ es))(a:bZ S es [y]=true)
  (pins:aw) (s:Shared) (σ:St) (H:Hp) (R:ai) (τ:Addr->Option bt) (ρ:a_) (xs items:aa) (I:Inv X pins σ H s) (m:SI X F R τ ρ σ H) (l:bL Φ es ρ=ok xs) (b:dR Φ .ku xs=ok items) (d:It->Hp->Prop)
  (hR:∀J H2,aL H H2->Yl X.K J (md X F τ (caps++dJ es) H2) H2 items->d J H2) :
  wpAny (model X.prog X.w) X.A (eval (.Call (.Name ("range" : Str) p) [y] [] q) X.env) (λv e=>wpAny (model X.prog X.w) X.A (pyIter v) (Ct X pins σ target d) X.xe e) X.xe s:=by
 match es,a with
 |[c],a =>
  replace a:=aF a;refine qV (L.gl j) (L.bl _ i) h (cm a.1 _ _) pins s σ H d I ⟨R,τ,ρ,xs,m,l,λvs H1 e1 rv=>?_⟩;obtain⟨τt,u,g⟩:=rv;obtain⟨n,rfl⟩:∃n,xs=[.int n]:=by
   cases xs with
   |nil=>cases b
   |cons x t=>cases x<;>first | (cases b;done) | (cases t with|nil=>exact⟨_,rfl⟩|cons _ _=>cases b)
  cases g.ints1
  ·obtain⟨⟨c1,z⟩,b⟩:=uE b;subst b;have r:(eB:Int)=1000000:=rfl;refine⟨n,rfl,by left,by left,hR _ H1 e1 ?_⟩;have:=LW (X:=X) (lo:=0) (n:=n.toNat) (R:=md X F τ (caps++dJ [c]) H1) (H1:=H1);simpa using this
 |[],a=>exact(aac a).elim
 |_::_::_,a=>exact(aac (aF a).2).elim
def Nx(L:Lk X S k Φ){c:CE}{y:Expr}(t:PE X y (tD X F Φ c))
  (pins:aw) (s:Shared) (σ:St) (H:Hp) (R:ai) (τ:Addr->Option bt) (ρ:a_) (xs items:aa) (I:Inv X pins σ H s) (e:SI X F R τ ρ σ H) (d:bL Φ [c] ρ=ok xs) (l:dR Φ .seq xs=ok items) (g:It->Hp->Prop)
  (hR:∀J H2,aL H H2->Yl X.K J (md X F τ (caps++dJ [c]) H2) H2 items->g J H2) :
  wpAny (model X.prog X.w) X.A (eval y X.env) (λv z=>wpAny (model X.prog X.w) X.A (pyIter v) (Ct X pins σ target g) X.xe z) X.xe s:=by
 obtain⟨x,u,d⟩:=aH d;obtain⟨xs',E,d⟩:=aH d;cases E;cases d;have b:∀i∈gE c,i∈caps++dJ [c]:=λi B=>aap _ (aaB _ B);cases x with
 |tup ds =>
  cases l;refine DZ t pins s σ H g I (tD.intro e u λv H1 e1 rv=>?_);obtain⟨τt,r,n⟩:=rv;cases n with
  | @tup _ p j _ a m=>exact⟨p,rfl,⟨j,a⟩,hR _ H1 e1 (LV (q:=[]) a (aI.jw (λ_ _ h=>h) (xN e r b) m _ _))⟩
 |lst f ds =>
  cases l;refine zu t pins s σ H g I (tD.intro e u λv H1 e1 rv=>?_);obtain⟨τt,r,n⟩:=rv;cases n with
  | @lst _ p j _ _ a m=>exact⟨p,rfl,⟨j,a.sq⟩,hR _ H1 e1 (G8 (q:=[]) a.sq (aI.jw (λ_ _ h=>h) (xN e r b) m _ _))⟩
 |_=>cases l
def Qx{xs:aa}{J:It}(l:SI X F R τ ρ σ H)(hs:∀i∈fv,i∈fv')(r:cF X.K (gP X F) R τ fv H H2 vs xs)(y:Ki X.K J H2 vs xs items):
  Yl X.K J (md X F τ fv' H2) H2 items:=by
 obtain⟨τt,j,c⟩:=r;have a:∀H',aL H2 H'->aI (bg X.K H') (nd X.K (md X F τ fv' H2) (λ_=>False) (λ_=>none) H') [] 0 vs (au aD xs):=λH' e =>
  (aI.jw (T':=bg X.K H2) (λ_ _ h=>h) (xN l j hs) c [] 0).imp (λ_ _ h=>bg.same e h) λ_ _ _ _ h=>nd.same e h
 have st:∀H',aL H2 H'->rP X.K H2 vs xs H':=λH' e=>⟨⟨_,a H2 (aL.refl H2),λp o _ h=>e p o h⟩,λ_ _ h=>bg.same e h⟩
 exact⟨λi H' e b=>y.go i H' _ (st H' e) (a H' e) b,λi H' x d e b g=>y.w9 i H' _ x d (st H' e) (a H' e) b g,λi H' e b=>y.stop i H' _ (st H' e) (a H' e) b⟩
def Nz(L:Lk X S k Φ){p:Nat}{y:Expr}(j:S.px.pi p S.sc S.bl y=some args)(h:(decide (1100<=p)||hU target)=true)(hs:ql X F Φ es args)
  (pins:aw) (s:Shared) (σ:St) (H:Hp) (R:ai) (τ:Addr->Option bt) (ρ:a_) (xs items:aa) (I:Inv X pins σ H s) (b:SI X F R τ ρ σ H) (q:bL Φ es ρ=ok xs) (e:dR Φ (.cI p) xs=ok items) (a:It->Hp->Prop)
  (hR:∀J H2,aL H H2->Yl X.K J (md X F τ (caps++dJ es) H2) H2 items->a J H2) :
  wpAny (model X.prog X.w) X.A (eval y X.env) (λv g=>wpAny (model X.prog X.w) X.A (pyIter v) (Ct X pins σ target a) X.xe g) X.xe s:=by
 obtain⟨d,n,m⟩:=aH (show bd (Φ p xs) kI=ok items from e);exact L.pr.i X _ _ k L.pX p y args j F es target h hs pins s σ H R τ ρ xs d items I b q n m a λJ H2 vs e2 r c=>hR J H2 e2 (Qx b (λi l=>by simp[l]) r c)
def wz{h:Sx}{a:ak}(l:bJ.length<=1)(g:bZ h bJ a=true)
  (i:∀(b:Cx) (d:ai),Lk b h k Φ->∀(j:Nat) (c:CE) (e:Expr),bJ[j]?=some c->a[j]?=some e->PE b e (tD b d Φ c)/\PT b e (ip b d Φ c)) :
  (bJ=[]/\a=[])\/∃c e,bJ=[c]/\a=[e]/\∀(b:Cx) (d:ai),Lk b h k Φ->PT b e (ip b d Φ c):=by
 cases bJ with
 |nil=>cases a with
  |nil=>exact .inl ⟨rfl,rfl⟩
  |cons _ _=>exact(aac g).elim
 |cons c cs=>cases cs with
  |cons _ _=>simp at l
  |nil=>cases a with
   |nil=>exact(aac g).elim
   |cons e a=>cases a with
    |cons _ _=>exact(aac (aF g).2).elim
    |nil=>exact .inr ⟨c,e,rfl,rfl,λb d m=>(i b d m 0 c e rfl rfl).2⟩
def UB(S:Sx)(a:IK)(es:aA)(target iter:Expr):Bool:=match a with
 |.ku=>bC (fV iter) λw=>decide (w.1=("range" : Str))&&iY S.sc w.1&&decide (w.1∈S.bl)&&bC (one w.2) λy=>bZ S es [y]
 |.seq=>bZ S es [iter]
 |.cI p=>Vj iter&&(decide (1100<=p)||hU target)&&bC (S.px.pi p S.sc S.bl iter) λxs=>bZ S es xs
def EL(L:Lk X S k Φ){d:IK}(O:∀l,bZ S es l=true->PA X l (uC X F Φ es))
  (m:∀l,bZ S es l=true->∀(j:Nat) (c:CE) (e:Expr),es[j]?=some c->l[j]?=some e->PE X e (tD X F Φ c)/\PT X e (ip X F Φ c)) (B:∀l,bZ S es l=true->ql X F Φ es l) (a:UB S d es target iter=true) :
  ∀(pins:aw) (s:Shared) (σ:St) (H:Hp) (R:ai) (τ:Addr->Option bt) (ρ:a_) (xs items:aa),Inv X pins σ H s->SI X F R τ ρ σ H->bL Φ es ρ=ok xs->dR Φ d xs=ok items->∀(h:It->Hp->Prop),
   (∀J H2,aL H H2->Yl X.K J (md X F τ (caps++dJ es) H2) H2 items->h J H2) ->
   wpAny (model X.prog X.w) X.A (eval iter X.env) (λv i=>wpAny (model X.prog X.w) X.A (pyIter v) (Ct X pins σ target h) X.xe i) X.xe s:=by
 cases d with
 |ku =>
  obtain⟨⟨x,as⟩,n,a⟩:=br a;obtain⟨p,U,rfl⟩:=ck n;obtain⟨E,g⟩:=aF a;obtain⟨I,t⟩:=aF E;obtain⟨M,u⟩:=aF I;obtain rfl:x=_:=aab M;obtain⟨y,q,b⟩:=br g;obtain rfl:as=[y]:=bV q;exact Ny L u (aab t) (O _ b) b
 |seq =>
  have z:=m _ a;cases es with
  |nil=>exact(aac a).elim
  |cons c cs=>cases cs with
   |cons _ _=>exact(aac (aF a).2).elim
   |nil=>exact Nx L (z 0 c _ rfl rfl).1
 |cI p =>
  obtain⟨a,g⟩:=aF a;obtain⟨xs,r,b⟩:=br g;exact Nz L r (aF a).2 (B _ b)
mutual
theorem bu:∀(c:CE) (X:Cx) (S:Sx) (F:ai) (L:Lk X S k Φ) (e:Expr),b6 S c e=true->PE X e (tD X F Φ c)/\PT X e (ip X F Φ c)
 |.cI p cs,X,S,F,L,e,h=>by
  obtain⟨args,ha,hb⟩:=br (aF h).2;exact L.pr.e X _ _ k L.pX p e args ha F cs (j6 cs X S F L args hb)
 |.bz,X,S,F,L,e,h=>by
  obtain⟨c,m,h_1⟩:=br h;obtain⟨j,p,rfl⟩:=zc m;obtain rfl:=BG h_1;exact⟨Ds,cP Ds λ_=>rfl⟩
 |.bl b,X,S,F,L,e,h=>by
  obtain⟨c,m,h_1⟩:=br h;obtain⟨j,p,rfl⟩:=zc m;obtain rfl:=ER h_1;exact⟨Kz,cP Kz λ_=>rfl⟩
 |.int i,X,S,F,L,e,h=>by
  obtain⟨c,m,h_1⟩:=br h;obtain⟨j,p,rfl⟩:=zc m;obtain rfl:=BH h_1;exact⟨Dt,cP Dt λ_=>rfl⟩
 |.str t,X,S,F,L,e,h=>by
  obtain⟨c,m,h_1⟩:=br h;obtain⟨j,p,rfl⟩:=zc m;obtain rfl:=BE h_1;exact⟨Dq,cP Dq λ_=>rfl⟩
 |.v i,X,S,F,L,e,h=>by
  obtain⟨x,m,h'⟩:=br h;obtain⟨p,rfl⟩:=jA m;have:=WO (F:=F) L h;exact⟨this,cP this λ_=>rfl⟩
 |.glo x i,X,S,F,L,e,h=>by
  obtain⟨y,m,h_1⟩:=br h;obtain⟨pos,rfl⟩:=jA m;obtain⟨h_2,E⟩:=aF h_1;obtain⟨B,s⟩:=aF h_2;obtain⟨J,q⟩:=aF B;obtain rfl:=aab J;obtain⟨u,hm,r⟩:=L.cs _ _ (aab s);have this:PE X (.Name y pos) (tD X F Φ (.glo y i)):=PE.imp (sP (v:=.int i) (L.gl q) hm r (fY E)) λσ H Q U=>by obtain⟨R,τ,ρ,d,Si,I,hq⟩:=U;cases I;exact hq _ H (aL.refl H) .int
  exact⟨this,cP this λ_=>rfl⟩
 |.glt x zs,X,S,F,L,e,h=>by
  obtain⟨y,m,h_1⟩:=br h;obtain⟨pos,rfl⟩:=jA m;obtain⟨h_2,E⟩:=aF h_1;obtain⟨B,s⟩:=aF h_2;obtain⟨J,q⟩:=aF B;obtain rfl:=aab J;obtain⟨u,hm,a,o,aS,n,rfl,q1,q2,q3,q4,q5⟩:=L.cs _ _ (aab s);have this:PE X (.Name y pos) (tD X F Φ (.glt y zs)):=PE.imp (sP (v:=.ref a) (L.gl q) hm rfl (fY E)) λσ H Q U=>by
   obtain⟨R,τ,ρ,d,Si,I,hq⟩:=U;cases I;exact hq _ H (aL.refl H) ⟨λ_=>none,λ_ _ h=>by simp at h,.tup (.inr ⟨o,aS,n,q1,q2,q3,q4,q5⟩) (j9 zs)⟩
  exact⟨this,cP this λ_=>rfl⟩
 |.bin op a b,X,S,F,L,e,h=>by
  obtain⟨⟨l,o,r⟩,m,h_1⟩:=br h;obtain⟨pos,rfl⟩:=Hf m;obtain⟨h_2,s⟩:=aF h_1;obtain⟨B,q⟩:=aF h_2;obtain rfl:o=PK op:=aab B;have:=ME (F:=F) (pos:=pos) L (op:=op) (bu a X S F L _ q).1 (bu b X S F L _ s).1;exact⟨this,cP this λ_=>rfl⟩
 |.neg a,X,S,F,L,e,h=>by
  obtain⟨⟨o,x⟩,m,h_1⟩:=br h;obtain⟨pos,rfl⟩:=CP m;obtain⟨h_2,q⟩:=aF h_1;obtain rfl:o=.USub:=aab h_2;have:=MA (F:=F) (Φ:=Φ) (pos:=pos) (bu a X S F L _ q).1;exact⟨this,cP this λ_=>rfl⟩
 |.not a,X,S,F,L,e,h=>by
  obtain⟨⟨o,x⟩,m,h_1⟩:=br h;obtain⟨pos,rfl⟩:=CP m;obtain⟨h_2,q⟩:=aF h_1;obtain rfl:o=.Not:=aab h_2;exact⟨Mz (bu a X S F L _ q).1,Mp (bu a X S F L _ q).2⟩
 |.and cs,X,S,F,L,e,h=>by
  obtain⟨⟨o,vs⟩,m,h_1⟩:=br h;obtain⟨pos,rfl⟩:=uN m;obtain⟨h_2,q⟩:=aF h_1;obtain rfl:o=.And:=aab h_2;exact⟨(ma cs X S F L vs q pos).1,(ma cs X S F L vs q pos).2.pt⟩
 |.or cs,X,S,F,L,e,h=>by
  obtain⟨⟨o,vs⟩,m,h_1⟩:=br h;obtain⟨pos,rfl⟩:=uN m;obtain⟨h_2,q⟩:=aF h_1;obtain rfl:o=.Or:=aab h_2;exact⟨(oy cs X S F L vs q pos).1,(oy cs X S F L vs q pos).2.pt⟩
 |.ite c a b,X,S,F,L,e,h=>by
  obtain⟨⟨t,x,y⟩,m,h_1⟩:=br h;obtain⟨pos,rfl⟩:=L7 m;obtain⟨h_2,s⟩:=aF h_1;obtain⟨h0,q⟩:=aF h_2;exact⟨MC (bu c X S F L _ h0).2 (bu a X S F L _ q).1 (bu b X S F L _ s).1,Mq (bu c X S F L _ h0).2 (bu a X S F L _ q).2 (bu b X S F L _ s).2⟩
 |.cmp op a b,X,S,F,L,e,h=>by
  obtain⟨⟨l,os,rs⟩,m,h_1⟩:=br h;obtain⟨pos,rfl⟩:=r6 m;obtain⟨h_2,s⟩:=aF h_1;obtain⟨B,q⟩:=aF h_2;obtain⟨r,hr,YV⟩:=br s;obtain⟨TM,E⟩:=aF YV;obtain rfl:os=[W_ op]:=aab B;obtain rfl:rs=[r]:=bV hr;exact⟨PE.imp (sQ (Ee L op) (bu a X S F L _ q).1 (bu b X S F L _ TM).1 (sU E)) λ_ _ _ B=>wC B,PT.imp (sG (Ee L op) (bu a X S F L _ q).1 (bu b X S F L _ TM).1 (sU E)) λ_ _ _ B=>AY B⟩
 |.ra a t,X,S,F,L,e,h=>by
  obtain⟨⟨f,as⟩,m,h_1⟩:=br h;obtain⟨p,pos,rfl⟩:=ck m;obtain⟨h_2,h5⟩:=aF h_1;obtain⟨B,s⟩:=aF h_2;obtain⟨J,q⟩:=aF B;obtain rfl:f=_:=aab J;obtain⟨⟨e,g⟩,hw,Jp⟩:=br h5;obtain rfl:as=[e,g]:=jB hw;obtain⟨TH,h6⟩:=aF Jp;obtain⟨x,hn,N5⟩:=br h6;obtain⟨p',rfl⟩:∃p,g=.Name x p:=jA hn;obtain⟨N4,M⟩:=aF N5;obtain⟨N3,E⟩:=aF N4;obtain rfl:=aab N3;have:=MD (F:=F) (p:=p) (p':=p') (pos:=pos) L q (aab s) E (aab M) (bu a X S F L _ TH).1 (λes=>cm TH es _);exact⟨this,cP this λ_=>rfl⟩
 |.call f cs,X,S,F,L,e,h=>by
  obtain⟨⟨x,as⟩,m,h_1⟩:=br h;obtain⟨p,pos,rfl⟩:=ck m;obtain⟨h_2,M⟩:=aF h_1;obtain⟨B,E⟩:=aF h_2;obtain⟨q,s⟩:=aF B;obtain⟨⟨y,W⟩,Z,O⟩:=br M;obtain rfl:as=y::W:=xy Z;cases cs with
  |nil=>exact(aac O).elim
  |cons c Ly =>
   have TJ:=aF O;have:=HC (F:=F) (p:=p) (pos:=pos) L (aab q) s E (gv (c::Ly) X S F L (y::W) O) (λes=>cm TJ.1 es _) (λpos=>yO TJ.2 pos _);exact⟨this,cP this λ_=>rfl⟩
 |.bf f cs,X,S,F,L,e,h=>by
  obtain⟨⟨x,as⟩,m,h_1⟩:=br h;obtain⟨p,pos,rfl⟩:=ck m;obtain⟨h_2,M⟩:=aF h_1;obtain⟨B,E⟩:=aF h_2;obtain⟨J,s⟩:=aF B;obtain rfl:x=_:=aab J;obtain⟨⟨y,W⟩,Z,O⟩:=br M;obtain rfl:as=y::W:=xy Z;cases cs with
  |nil=>exact(aac O).elim
  |cons c Ly =>
   have TJ:=aF O;have:=Rp (F:=F) (p:=p) (pos:=pos) L s (aab E) (gv (c::Ly) X S F L (y::W) O) (λes=>cm TJ.1 es _) (λpos=>yO TJ.2 pos _);exact⟨this,cP this λ_=>rfl⟩
 |.mj a,X,S,F,L,e,h=>by
  obtain⟨⟨x,as⟩,m,h_1⟩:=br h;obtain⟨p,pos,rfl⟩:=ck m;obtain⟨h_2,M⟩:=aF h_1;obtain⟨B,s⟩:=aF h_2;obtain⟨J,q⟩:=aF B;obtain rfl:x=_:=aab J;obtain⟨y,Z,O⟩:=br M;obtain rfl:as=[y]:=bV Z;obtain⟨⟨z,bs⟩,hw,h4_3⟩:=br O;obtain⟨p',pos',rfl⟩:=ck hw;obtain⟨YO,h5⟩:=aF h4_3;obtain⟨YN,h6⟩:=aF YO;obtain⟨YM,E⟩:=aF YN;obtain rfl:z=_:=aab YM;obtain⟨u,X4,Jp⟩:=br h5;obtain rfl:bs=[u]:=bV X4;have:=HA (F:=F) (p:=p) (p':=p') (pos:=pos) (pos':=pos') L q (aab s) E (aab h6) (bu a X S F L _ Jp).1 (λes=>cm Jp es _);exact⟨this,cP this λ_=>rfl⟩
 |.ix a b,X,S,F,L,e,h=>by
  obtain⟨⟨l,r⟩,m,h_1⟩:=br h;obtain⟨pos,rfl⟩:=lA m;obtain⟨q,s⟩:=aF h_1;have:=Ro (F:=F) (pos:=pos) L (bu a X S F L _ q).1 (bu b X S F L _ s).1 (rC s);exact⟨this,cP this λ_=>rfl⟩
 |.tup cs,X,S,F,L,e,h=>by
  obtain⟨es,m,h_1⟩:=br h;obtain⟨n,pos,rfl⟩:=jZ m;obtain⟨q,s⟩:=aF h_1;have:=My (F:=F) (n:=n) (pos:=pos) (gv cs X S F L es q) (aab s);exact⟨this,cP this λ_=>rfl⟩
 |.lst cs,X,S,F,L,e,h=>by
  obtain⟨es,m,h_1⟩:=br h;obtain⟨pos,rfl⟩:=Hc m;obtain⟨q,s⟩:=aF h_1;have:=MB (F:=F) (pos:=pos) (gv cs X S F L es q) (aab s);exact⟨this,cP this λ_=>rfl⟩
 |.comp n t caps ik es bJ elt,X,S,F,L,e,h=>by
  obtain⟨⟨jM,gens,sc⟩,m,h_1⟩:=br h;obtain⟨pos,rfl⟩:=uM m;obtain⟨⟨target,iter,Y,a⟩,hg,h_2⟩:=br h_1;obtain rfl:gens=_:=bV hg;obtain⟨B,h6⟩:=aF h_2;obtain⟨J,h5⟩:=aF B;obtain⟨h_5,M⟩:=aF J;obtain⟨h_6,E⟩:=aF h_5;obtain⟨h_7,s⟩:=aF h_6;obtain⟨h_8,q⟩:=aF h_7;obtain rfl:a=0:=aab h_8;have mM:=λ(X':Cx) (F':ai) (L':Lk X' (S.inner target caps sc) k Φ)=>jE bJ X' _ F' L' Y M;have this:PE X (.ListComp jM [⟨target,iter,Y,0⟩] sc pos) (tD X F Φ (.comp n t caps ik es bJ elt)) :=
   HB L (mv q) s (λX' F' L'=>(bu elt X' _ F' L' jM h5).1) (wz (aab E) M mM) (EL L (λl=>gv es X S F L l) (λl=>jE es X S F L l) (λl=>j6 es X S F L l) h6)
  exact⟨this,cP this λ_=>rfl⟩
theorem jE:∀(cs:aA) (X:Cx) (S:Sx) (F:ai) (L:Lk X S k Φ) (es:ak),bZ S cs es=true->∀(j:Nat) (c:CE) (e:Expr),cs[j]?=some c->es[j]?=some e->PE X e (tD X F Φ c)/\PT X e (ip X F Φ c)
 |[],X,S,F,L,_,_=>λj c e h _=>by simp at h
 |_::_,X,S,F,L,[],h=>by exact(aac h).elim
 |c::cs,X,S,F,L,e::es,h=>λj c' e' hc he=>by
  replace h:=aF h;cases j with
  |zero=>simp at hc he;subst hc he;exact bu c X S F L e h.1
  |succ j=>exact jE cs X S F L es h.2 j c' e' (by simpa using hc) (by simpa using he)
theorem j6:∀(cs:aA) (X:Cx) (S:Sx) (F:ai) (L:Lk X S k Φ) (es:ak),bZ S cs es=true->ql X F Φ cs es
 |[],X,S,F,L,[],_=>trivial
 |[],X,S,F,L,_::_,h=>by exact(aac h).elim
 |_::_,X,S,F,L,[],h=>by exact(aac h).elim
 |c::cs,X,S,F,L,e::es,h=>by
  replace h:=aF h;exact⟨(bu c X S F L e h.1).1,λl=>cm h.1 l _,rC h.1,j6 cs X S F L es h.2⟩
theorem gv:∀(cs:aA) (X:Cx) (S:Sx) (F:ai) (L:Lk X S k Φ) (es:ak),bZ S cs es=true->PA X es (uC X F Φ cs)
 |[],X,S,F,L,[],_=>PA.imp eE λ_ _ _ h=>j0 h
 |[],X,S,F,L,_::_,h=>by exact(aac h).elim
 |_::_,X,S,F,L,[],h=>by exact(aac h).elim
 |c::cs,X,S,F,L,e::es,h=>by
  replace h:=aF h;exact PA.imp (cE (bu c X S F L e h.1).1 (gv cs X S F L es h.2) (cm h.1 es _)) λ_ _ _ h=>gq h
theorem ma:∀(cs:aA) (X:Cx) (S:Sx) (F:ai) (L:Lk X S k Φ) (es:ak),bZ S cs es=true->∀pos,PE X (.BoolOp .And es pos) (tD X F Φ (.and cs))/\PW X (.BoolOp .And es pos) (ip X F Φ (.and cs))
 |[],X,S,F,L,_,_,pos=>⟨λ_ _ _ _ _ _ ⟨_,_,_,_,_,I,_⟩=>(by cases I),λ_ _ _ _ _ _ _ U=>by obtain⟨_,_,_,_,_,I,_⟩:=U;cases I⟩
 |[c],X,S,F,L,[e],h,pos=>by
  replace h:=aF h;exact⟨PE.imp (D3 (bu c X S F L e h.1).1) λ_ _ _ h=>Ke h,PW.imp (HZ (bu c X S F L e h.1).2) λ_ _ _ h=>Gp h⟩
 |[_],X,S,F,L,[],h,_=>by exact(aac h).elim
 |[_],X,S,F,L,_::_::_,h,_=>by exact(aac (aF h).2).elim
 |_::_::_,X,S,F,L,[],h,_=>by exact(aac h).elim
 |_::_::_,X,S,F,L,[_],h,_=>by exact(aac (aF h).2).elim
 |c::c'::cs,X,S,F,L,e::e'::es,h,pos=>by
  replace h:=aF h;have r:=ma (c'::cs) X S F L (e'::es) h.2 pos;exact⟨PE.imp (M0 (bu c X S F L e h.1).1 r.1) λ_ _ _ h=>Gq h,PW.imp (MR (bu c X S F L e h.1).2 r.2) λ_ _ _ h=>Cc h⟩
theorem oy:∀(cs:aA) (X:Cx) (S:Sx) (F:ai) (L:Lk X S k Φ) (es:ak),bZ S cs es=true->∀pos,PE X (.BoolOp .Or es pos) (tD X F Φ (.or cs))/\PW X (.BoolOp .Or es pos) (ip X F Φ (.or cs))
 |[],X,S,F,L,_,_,pos=>⟨λ_ _ _ _ _ _ ⟨_,_,_,_,_,I,_⟩=>(by cases I),λ_ _ _ _ _ _ _ U=>by obtain⟨_,_,_,_,_,I,_⟩:=U;cases I⟩
 |[c],X,S,F,L,[e],h,pos=>by
  replace h:=aF h;exact⟨PE.imp (D3 (bu c X S F L e h.1).1) λ_ _ _ h=>M4 h,PW.imp (DN (bu c X S F L e h.1).2) λ_ _ _ h=>Ij h⟩
 |[_],X,S,F,L,[],h,_=>by exact(aac h).elim
 |[_],X,S,F,L,_::_::_,h,_=>by exact(aac (aF h).2).elim
 |_::_::_,X,S,F,L,[],h,_=>by exact(aac h).elim
 |_::_::_,X,S,F,L,[_],h,_=>by exact(aac (aF h).2).elim
 |c::c'::cs,X,S,F,L,e::e'::es,h,pos=>by
  replace h:=aF h;have r:=oy (c'::cs) X S F L (e'::es) h.2 pos;exact⟨PE.imp (RK (bu c X S F L e h.1).1 r.1) λ_ _ _ h=>Ik h,PW.imp (KO (bu c X S F L e h.1).2 r.2) λ_ _ _ h=>Eb h⟩
end
def gw(L:Lk X S k Φ)(c:CE)(e:Expr)(h:b6 S c e=true):PE X e (tD X F Φ c)/\PT X e (ip X F Φ c):=bu c X S F L e h
def ox(L:Lk X S k Φ)(cs:aA)(es:ak)(h:bZ S cs es=true):ql X F Φ cs es:=j6 cs X S F L es h
def sk(L:Lk X S k Φ)(cs:aA)(es:ak)(h:bZ S cs es=true):PA X es (uC X F Φ cs):=gv cs X S F L es h
end
section
variable {T T':nq}{N N':kA}
def aI.child{q:bt}(b:∀p xs,T p xs->T' p xs)(d:∀c m p xs f,N (c++(m::q)) p xs f->N' (c++(m::q)) p xs f){n:Nat}(h:aI T N q n vs ds):aI T' N' q n vs ds :=
 h.ind (P:=λn vs ds=>aI T' N' q n vs ds) (λ_=>.nil) λn _ _ _ _ h _ a=>.cons (Rep.imp (q:=n::q) (q':=n::q) b (λc p xs f h=>d c n p xs f h) h) a
end
variable {n':Nd}
section
variable {X:Cx}{F R:ai}{τ:Addr->Option bt}{ρ:a_}{σ:St}{H:Hp}
def SI.own{i:Nat}(d:SI X F R τ ρ σ H)(c:ρ[i]?=some (some (.lst .ow ds))):∃p xs,σ[i]?=some (some (.ref p))/\H p=some (.lst xs)/\xs.length=ds.length/\τ p=some [i]/\aI (bg X.K H) (nd X.K R (λ_=>False) τ H) [i] 0 xs ds:=by
 obtain⟨v,b,a⟩:=d.rep i _ c;cases a with
 |lst h r=>exact⟨_,_,b,h.1,r.length,h.2,r⟩
def Dh{H:Hp}{p:Addr}{n:Nd}{o:HO}(i:fR H p n){a:Addr}{b:ag}(h:bg K H a b):bg K (upd H p o) a b:=by
 obtain⟨d,k,j,l⟩:=fR.some i;have c:∀a u,H a=some u->u≠d->a≠p:=λa u e h z=>by subst z;rw[k]at e;cases e;exact h rfl
 rcases h with (h|⟨g,h⟩)|h
 ·exact .inl (.inl (by rw[bq (c a _ h λz=>j _ z.symm)];exact h))
 ·exact .inl (.inr ⟨g,by rw[bq (c a _ h λz=>l _ _ z.symm)];exact h⟩)
 ·exact .inr h
def SI.W6{i m:Nat}{v:V}{d:D}{p:Addr}{n:Nd}{o:HO}(l:SI X F R τ ρ σ H)(hi:ρ[i]?=some (some d0))(hv:σ[i]?=some (some (.ref p)))(hp:fR H p n)(r:τ p=some [i])
  (rs:aI (bg X.K H) (nd X.K R (λ_=>False) τ H) [i] 0 xs ds) (rk:kz X R τ H v d) (xf:fR (upd H p o) p n')
  (mk:∀{N:kA},N [i] p n' .ow->aI (bg X.K (upd H p o)) N [i] 0 xs' ds'->Rep (bg X.K (upd H p o)) N [i] (.ref p) d1)
  (hb:∀{N:kA},aI (bg X.K (upd H p o)) N [i] 0 xs ds->Rep (bg X.K (upd H p o)) N (m::[i]) v d->aI (bg X.K (upd H p o)) N [i] 0 xs' ds') :
  ∃τ',SI X F R τ' (ρ.set i (some d1)) σ (upd H p o)/\τ' p=some [i]/\aI (bg X.K (upd H p o)) (nd X.K R (λ_=>False) τ' (upd H p o)) [i] 0 xs' ds':=by
 obtain⟨τt,g,rp⟩:=rk;have Ji:i<ρ.length:=by
  by_cases z:i<ρ.length
  ·exact z
  ·rw[List.getElem?_eq_none (by left)]at hi;cases hi
 obtain⟨o0,P1,SN,P0⟩:=fR.some hp;have W:∀a,R a->a≠p:=λa t e=>by subst e;rw[l.rt _ t]at r;cases r
 have nT:∀a q,τt a=some q->a≠p:=λa q e z=>by subst z;rw[(g _ q e).1]at r;cases r
 have Y:∀a u,H a=some u->u≠o0->a≠p:=λa u e h z=>by subst z;rw[P1]at e;cases e;exact h rfl
 have keep:∀a,a≠p->(upd H p o) a=H a:=λa h=>bq h;have Z:∀a b,bg X.K H a b->bg X.K (upd H p o) a b:=λa b h=>by
  rcases h with (h|⟨U,h⟩)|h
  ·exact .inl (.inl (by rw[keep a (Y a _ h λz=>SN _ z.symm)];exact h))
  ·exact .inl (.inr ⟨U,by rw[keep a (Y a _ h λz=>P0 _ _ z.symm)];exact h⟩)
  ·exact .inr h
 have L:∀a (z:Nd),a≠p->fR H a z->fR (upd H p o) a z:=λa z ne h=>h.at λu e=>by rw[keep a ne];exact e
 have B:∀{M:Addr->Option bt} q q' a (z:Nd),nd X.K R (λ_=>False) M H q a z .sc->∀x,nd X.K R (λ_=>False) x (upd H p o) q' a z .sc:=λq q' a z h x=>by
  obtain⟨b,rfl,h⟩:=h.KA;exact h.elim (λ⟨U,w⟩=>.inl ⟨U,by rw[keep a (Y a _ w λz=>P0 _ _ z.symm)];exact w⟩) .inr
 have I:∀q a b f,q≠[i]->nd X.K R (λ_=>False) τ H q a b f->nd X.K R (λ_=>False) (λa=>match τt a with|some q=>some (q++[m,i])|none=>τ a) (upd H p o) q a b f:=λq a b f s h=>by
  cases f with
  |ow =>
   have ne:a≠p:=λz=>by
    subst z;have:=h.2.symm.trans r;exact s (aat this)
   refine⟨L a b ne h.1,?_⟩;cases z:τt a with
   |none=>simp only[z];exact h.2
   |some k=>have:=(g a k z).1;rw[h.2]at this;cases this
  |fz=>exact⟨L a b (W a h.2) h.1,h.2⟩
  |al=>exact h.2.elim
  |sc=>exact B q q a b h _
 have Vx:(match τt p with|some q=>some (q++[m,i])|none=>τ p)=some [i]:=by
  cases z:τt p with
  |none=>exact r
  |some k=>exact absurd rfl (nT p k z)
 have E:aI (bg X.K (upd H p o)) (nd X.K R (λ_=>False) (λa=>match τt a with|some q=>some (q++[m,i])|none=>τ a) (upd H p o)) [i] 0 xs' ds':=hb (aI.child Z (λc n a b f h=>I _ a b f (λz=>by
  have:=aaU List.length z;simp at this) h) rs) (rp.imp (q:=[]) (q':=[m,i]) Z λc a b f h=>by
  cases f with
  |ow =>
   rw[zaI]at h;exact⟨L a b (nT a _ h.2) h.1,by simp only[h.2]⟩
  |fz=>exact⟨L a b (W a h.2) h.1,h.2⟩
  |al=>exact h.2.elim
  |sc=>exact B _ _ a b h _)
 refine⟨λa=>match τt a with|some q=>some (q++[m,i])|none=>τ a,⟨by simp[l.len],λj d' J=>?_,λa t=>?_,λa t=>?_,l.rf,λa q s=>?_,λa q s=>?_,?_⟩,Vx,E⟩
 ·by_cases O:j=i
  ·subst O;rw[List.getElem?_set_self Ji]at J;cases J;exact⟨.ref p,hv,mk ⟨xf,Vx⟩ E⟩
  ·rw[List.getElem?_set_ne (Ne.symm O)]at J;obtain⟨u,hu,ru⟩:=l.rep j d' J;refine⟨u,hu,ru.imp (q:=[j]) (q':=[j]) Z λc a b f h=>I _ a b f (λz=>?_) h⟩;have:=aaU List.getLast? z;simp at this;exact O this
 ·cases z:τt a with
  |none=>simp only[z];exact l.rt a t
  |some k=>exact absurd t (g a k z).2.1
 ·rw[keep a (W a t)];exact l.rh a t
 ·by_cases y:a=p
  ·subst y;rw[bc];simp
  ·rw[keep a y];cases z:τt a with
   |none=>simp only[z]at s;exact l.th a q s
   |some k=>exact(g a k z).2.2.2
 ·cases z:τt a with
  |none=>simp only[z]at s;exact l.t0 a q s
  |some k=>exact(g a k z).2.2.1
 ·intro a u e;have ne:a≠p:=λz=>by subst z;rw[l.t0 _ _ r]at e;cases e
  rw[keep a ne];exact l.same a u e
def SI.RG{i m:Nat}{v:V}{d:D}{p:Addr}{n:Nd}{o:HO}(l:SI X F R τ ρ σ H)(j:ρ[i]?=some (some d0))(c:σ[i]?=some (some (.ref p)))(g:fR H p n)(e:τ p=some [i])
  (rs:aI (bg X.K H) (nd X.K R (λ_=>False) τ H) [i] 0 xs ds) (b:kz X R τ H v d) (a:fR (upd H p o) p n')
  (mk:∀{N:kA},N [i] p n' .ow->aI (bg X.K (upd H p o)) N [i] 0 xs' ds'->Rep (bg X.K (upd H p o)) N [i] (.ref p) d1)
  (k:∀{N:kA},aI (bg X.K (upd H p o)) N [i] 0 xs ds->Rep (bg X.K (upd H p o)) N (m::[i]) v d->aI (bg X.K (upd H p o)) N [i] 0 xs' ds') :
  ∃τ',SI X F R τ' (ρ.set i (some d1)) σ (upd H p o):=(l.W6 j c g e rs b a mk k).imp λ_ h=>h.1
def SI.put{i m:Nat}{v:V}{d:D}{g:ag->ag}{p:Addr}(q:SI X F R τ ρ σ H)(j:ρ[i]?=some (some (.lst .ow ds)))(b:σ[i]?=some (some (.ref p)))(e:H p=some (.lst xs))(c:τ p=some [i])
  (rs:aI (bg X.K H) (nd X.K R (λ_=>False) τ H) [i] 0 xs ds) (a:kz X R τ H v d)
  (k:∀{N:kA},aI (bg X.K (upd H p (.lst (g xs)))) N [i] 0 xs ds->Rep (bg X.K (upd H p (.lst (g xs)))) N (m::[i]) v d->aI (bg X.K (upd H p (.lst (g xs)))) N [i] 0 (g xs) ds') :
  ∃τ',SI X F R τ' (ρ.set i (some (.lst .ow ds'))) σ (upd H p (.lst (g xs))) :=
 q.RG (n:=.l xs) (n':=.l (g xs)) j b e c rs a bc (λh r=>.lst h r) k
end
section
variable {X:Cx}{S:Sx}{k:Nat}{F:ai}{Φ:aU}
set_option tactic.hygienic true in
def si(L:Lk X S k Φ)(c:CE)(e:Expr)(h:b6 S c e=true):PE X e (tK X F Φ c):=by
 by_cases g:∃i,c=.v i
 ·obtain⟨i,rfl⟩:=g;obtain⟨x,z,I⟩:=br h;obtain⟨p,rfl⟩:=jA z;obtain⟨E,j⟩:=aF I;obtain⟨n,m⟩:=aF E;unfold oO at j;simp only[zaf,zaW]at j;refine PE.imp (mf (i:=i) (by rw[L.N];exact aab n) (L.ZW m) j.1.1 j.1.2) λσ H Q a=>?_;obtain⟨R,τ,ρ,r,l,b,a⟩:=a;simp only[jL]at b;split at b
  ·rename_i d q;split at b
   ·cases b;obtain⟨v,τ',g,J,u⟩:=l.move q;exact⟨v,g,a v H R τ' (aL.refl H) (λ_ h=>h) J u⟩
   ·rename_i B;cases b;obtain⟨v,g,t⟩:=l.rep i d q;exact⟨v,g,a v H R τ (aL.refl H) (λ_ h=>h) l (BS t (by simpa using B))⟩
  ·cases b
 ·refine PE.imp (gw (F:=F) L c e h).1 λσ H Q a=>?_;obtain⟨R,τ,ρ,r,l,b,a⟩:=a;have U:bd (bp Φ c ρ) (λd=>ok (keep c d ρ))=ok r:=by
   cases c<;>first|exact b|exact absurd ⟨_,rfl⟩ g
  obtain⟨d,O,M⟩:=aH U;cases M;refine tD.intro l O λv H' s y=>?_;obtain⟨R',τ',n,m,j⟩:=K4 l s y;exact a v H' R' τ' s n m j
end
structure Kp(R:ai)(H:Hp)(R':ai)(H':Hp):Prop where
 r:∀p,R p->R' p
 l:∀p (o:HO),R p->H p=some o->H' p=some o
 t:∀p xs,H p=some (.tup xs)->H' p=some (.tup xs)
 z:∀p o u,H p=some (.jo o u)->H' p=some (.jo o u)
def Kp.refl(R:ai)(H:Hp):Kp R H R H:=⟨λ_ h=>h,λ_ _ _ h=>h,λ_ _ h=>h,λ_ _ _ h=>h⟩
def Kp.of(e:aL H H')(h:∀p,R p->R' p):Kp R H R' H':=⟨h,λp xs _ h=>e _ _ h,λp xs h=>e _ _ h,λp o u h=>e _ _ h⟩
def Kp.trans{R2:Addr->Prop}(a:Kp R H R1 H1)(b:Kp R1 H1 R2 H2):Kp R H R2 H2 :=
 ⟨λp h=>b.r p (a.r p h),λp xs h e=>b.l p xs (a.r p h) (a.l p xs h e),λp xs h=>b.t p xs (a.t p xs h),λp o u h=>b.z p o u (a.z p o u h)⟩
def Kp.U9(a:Kp R H R' H'){p:Addr}(h:bg K H p xs):bg K H' p xs:=by
 rcases h with (h|⟨o,h⟩)|h
 ·exact .inl (.inl (a.t p xs h))
 ·exact .inl (.inr ⟨o,a.z p o _ h⟩)
 ·exact .inr h
theorem Kp.nd{K:ao}{R R':ai}{H H':Hp}(a:Kp R H R' H'){q:bt}{p:Addr}{xs:Nd}{f:Fl}(h:DI.nd K R (λ_=>False) (λ_=>none) H q p xs f):DI.nd K R' (λ_=>False) (λ_=>none) H' q p xs f:=by
 cases f with
 |ow=>exact nomatch h.2
 |fz=>exact⟨h.1.at λo e=>a.l p o h.2 e,a.r p h.2⟩
 |al=>exact h.2.elim
 |sc =>
  obtain⟨b,rfl,h⟩:=h.KA;exact h.elim (λ⟨o,h⟩=>.inl ⟨o,a.z p o _ h⟩) .inr
def Kp.rep(a:Kp R H R' H'){k:bt}{v:V}{d:D}(h:Rep (bg K H) (DI.nd K R (λ_=>False) (λ_=>none) H) k v d):Rep (bg K H') (DI.nd K R' (λ_=>False) (λ_=>none) H') k v d :=
 h.imp (λ_ _ h=>a.U9 h) λ_ _ _ _ h=>a.nd h
def Kp.WW(a:Kp R H R' H'){k:bt}{n:Nat}{v:ag}{d:aa}(h:aI (bg K H) (DI.nd K R (λ_=>False) (λ_=>none) H) k n v d):aI (bg K H') (DI.nd K R' (λ_=>False) (λ_=>none) H') k n v d :=
 h.imp (λ_ _ h=>a.U9 h) λ_ _ _ _ h=>a.nd h
inductive GA(X:Cx)(F:ai)(H':Hp)(v:V)(d:D):Prop where
 |mk (τt:Addr->Option bt) (h1:∀p q,τt p=some q->X.H₀ p=none) (h2:Rep (bg X.K H') (nd X.K (gP X F) (λ_=>False) τt H') [] v d)
def kz.ret{v:V}{d:D}(c:SI X F R τ ρ σ H)(h:kz X R τ H v d):GA X F H v d:=by
 obtain⟨τt,b,a⟩:=h;exact⟨τt,λp q e=>(b p q e).2.2.1,a.imp (λ_ _ h=>h) λ_ _ _ _ h=>h.mono (λh=>c.rf _ h) id id⟩
def mS(X:Cx)(F:ai)(D:Ends)(R:ai)(H:Hp):Fo×a_->Prop
 | (.nx,ρ')=>∀a H' R' τ',SI X F R' τ' ρ' a H'->Kp R H R' H'->D.nx a H'
 | (.rt d,_)=>∀v H',aL X.H₀ H'->GA X F H' v d->D.rt v H'
inductive qr(X:Cx)(F:ai)(Φ:aU)(c:CS)(D:Ends)(σ:St)(H:Hp):Prop where
 |mk (R:ai) (τ:Addr->Option bt) (ρ:a_) (r:Fo×a_) (h1:SI X F R τ ρ σ H) (h2:i0 Φ c ρ=ok r) (h3:mS X F D R H r)
inductive qq(X:Cx)(F:ai)(Φ:aU)(cs:af)(D:Ends)(σ:St)(H:Hp):Prop where
 |mk (R:ai) (τ:Addr->Option bt) (ρ:a_) (r:Fo×a_) (h1:SI X F R τ ρ σ H) (h2:bN Φ cs ρ=ok r) (h3:mS X F D R H r)
noncomputable def Nn(sc:Scope)(x:Str):Bool:=decide (sc.names.lookup x=some .local)||decide (sc.names.lookup x=some .cell)
def qG(S:Sx)(i:Nat):Expr->Bool
 |.Name x _=>decide (S.N[i]?=some x)&&Nn S.sc x
 |_=>false
def nmE:Expr->Bool
 |.Name x _=>oO x
 |_=>true
def F3(S:Sx):aJ->ak->Bool
 |[],es=>match es with
  |[]=>true
  |_::_=>false
 |i::is,es=>match es with
  |[]=>false
  |e::es=>qG S i e&&F3 S is es
def tV(S:Sx):Tg->Expr->Bool
 |.nm i,e=>qG S i e
 |.tp is,e=>bC (AQ e) λes=>F3 S is es
noncomputable def iX(e:Expr):Bool:=decide (e.ctorIdx=8)
noncomputable def isTup:Expr->Bool
 |.Tuple _ _ _=>true
 |_=>false
noncomputable def WI(S:Sx)(tg v:Expr):Bool:=match tg,v with
 |.Name x p,.ListComp _ _ sc pos=>(S.sc.names.lookup x==some .local)&&(p.line==pos.line)&&!(sc.names.any λ(n,k)=>n==x&&(k==.local||k==.cell))
 |_,_=>false
noncomputable def L6(e:Expr):Option (Str×Pos):=if h:e.ctorIdx=23 then Expr.Name.elim (motive_1:=λ_=>Option (Str×Pos)) e h (λx p=>some (x,p))else none
def y_{e:Expr}{x:Str}{p:Pos}(h:L6 e=some (x,p)):e=.Name x p:=by
 obtain⟨k,h⟩:=dI h;exact Expr.Name.elim (motive_1:=λe=>∀k:e.ctorIdx=23,Expr.Name.elim (motive_1:=λ_=>Option (Str×Pos)) e k (λx p=>some (x,p))=some (x,p)->e=.Name x p) e k (λ_ _ _ h=>by cases h;rfl) k h
def F2(S:Sx)(i j:Nat)(tg v:Expr):Bool :=
 bC (AQ tg) λa=>bC (two a) λt=>bC (L6 t.1) λx=>bC (L6 t.2) λy=>bC (AQ v) λvs=>bC (two vs) λw =>
  decide (S.N[i]?=some x.1)&&decide (S.N[j]?=some y.1)&&decide (i≠j)&&decide (S.sc.names.lookup x.1=some .local)&&decide (S.sc.names.lookup y.1=some .local)&&decide (x.1≠y.1) &&
   decide (x.2.line=y.2.line)&&!([w.1,w.2].all (foldedForSure 8))&&!([w.1,w.2].all (constantsAlone 8))&&decide (([w.1,w.2].any λe=>match e with|.Starred ..=>true|_=>false)=false)
def UC(S:Sx)(it:CI)(e:Expr):Bool:=match it with
 |.ku a=>bC (fV e) λw=>decide (w.1=("range" : Str))&&iY S.sc w.1&&decide (w.1∈S.bl)&&bC (one w.2) λy=>b6 S a y
 |.seq a=>b6 S a e&&jG e
 |.GL p es=>Vj e&&bC (S.px.pi p S.sc S.bl e) λxs=>bZ S es xs
noncomputable def Ei:CI->Bool
 |.GL p _=>decide (1100<=p)
 |_=>true
noncomputable def CV(s:Stmt):Option (ak×Expr):=if h:s.ctorIdx=5 then Stmt.Assign.elim (motive_2:=λ_=>Option (ak×Expr)) s h (λa v _=>some (a,v))else none
def lB{s:Stmt}{ts:ak}{v:Expr}(h:CV s=some (ts,v)):∃p,s=.Assign ts v p:=by
 obtain⟨k,h⟩:=dI h;exact Stmt.Assign.elim (motive_2:=λs=>∀k:s.ctorIdx=5,Stmt.Assign.elim (motive_2:=λ_=>Option (ak×Expr)) s k (λts v _=>some (ts,v))=some (ts,v)->∃p,s=.Assign ts v p) s k (λ_ _ _ _ h=>by cases h;exact⟨_,rfl⟩) k h
noncomputable def QK(s:Stmt):Option (Option Expr):=if h:s.ctorIdx=3 then Stmt.Return.elim (motive_2:=λ_=>Option (Option Expr)) s h (λv _=>some v)else none
def rY{s:Stmt}{v:Option Expr}(h:QK s=some v):∃p,s=.Return v p:=by
 obtain⟨k,h⟩:=dI h;exact Stmt.Return.elim (motive_2:=λs=>∀k:s.ctorIdx=3,Stmt.Return.elim (motive_2:=λ_=>Option (Option Expr)) s k (λv _=>some v)=some v->∃p,s=.Return v p) s k (λ_ _ _ h=>by cases h;exact⟨_,rfl⟩) k h
noncomputable def U2(s:Stmt):Option Expr:=if h:s.ctorIdx=24 then Stmt.Expr.elim (motive_2:=λ_=>Option Expr) s h (λv _=>some v)else none
def oq{s:Stmt}{v:Expr}(h:U2 s=some v):∃p,s=.Expr v p:=by
 obtain⟨k,h⟩:=dI h;exact Stmt.Expr.elim (motive_2:=λs=>∀k:s.ctorIdx=24,Stmt.Expr.elim (motive_2:=λ_=>Option Expr) s k (λv _=>some v)=some v->∃p,s=.Expr v p) s k (λ_ _ _ h=>by cases h;exact⟨_,rfl⟩) k h
noncomputable def L8(s:Stmt):Option (Expr×aW×aW):=if h:s.ctorIdx=12 then Stmt.If.elim (motive_2:=λ_=>Option (Expr×aW×aW)) s h (λt x y _=>some (t,x,y))else none
def rZ{s:Stmt}{t:Expr}{x y:aW}(h:L8 s=some (t,x,y)):∃q,s=.If t x y q:=by
 obtain⟨k,h⟩:=dI h;exact Stmt.If.elim (motive_2:=λs=>∀k:s.ctorIdx=12,Stmt.If.elim (motive_2:=λ_=>Option (Expr×aW×aW)) s k (λt x y _=>some (t,x,y))=some (t,x,y)->∃q,s=.If t x y q) s k (λ_ _ _ _ _ h=>by cases h;exact⟨_,rfl⟩) k h
noncomputable def QI(s:Stmt):Option (Expr×aW×aW):=if h:s.ctorIdx=11 then Stmt.While.elim (motive_2:=λ_=>Option (Expr×aW×aW)) s h (λt x y _=>some (t,x,y))else none
def Ha{s:Stmt}{t:Expr}{x y:aW}(h:QI s=some (t,x,y)):∃q,s=.While t x y q:=by
 obtain⟨k,h⟩:=dI h;exact Stmt.While.elim (motive_2:=λs=>∀k:s.ctorIdx=11,Stmt.While.elim (motive_2:=λ_=>Option (Expr×aW×aW)) s k (λt x y _=>some (t,x,y))=some (t,x,y)->∃q,s=.While t x y q) s k (λ_ _ _ _ _ h=>by cases h;exact⟨_,rfl⟩) k h
noncomputable def L9(s:Stmt):Option (Expr×Expr×aW×aW):=if h:s.ctorIdx=9 then Stmt.For.elim (motive_2:=λ_=>Option (Expr×Expr×aW×aW)) s h (λtg a x y _=>some (tg,a,x,y))else none
def Hd{s:Stmt}{it:Expr}{x y:aW}(h:L9 s=some (tg,it,x,y)):∃q,s=.For tg it x y q:=by
 obtain⟨k,h⟩:=dI h;exact Stmt.For.elim (motive_2:=λs=>∀k:s.ctorIdx=9,Stmt.For.elim (motive_2:=λ_=>Option (Expr×Expr×aW×aW)) s k (λtg it x y _=>some (tg,it,x,y))=some (tg,it,x,y)->∃q,s=.For tg it x y q) s k (λ_ _ _ _ _ _ h=>by cases h;exact⟨_,rfl⟩) k h
noncomputable def CU(e:Expr):Option (Expr×Str×Pos):=if h:e.ctorIdx=20 then Expr.Attribute.elim (motive_1:=λ_=>Option (Expr×Str×Pos)) e h (λo a p=>some (o,a,p))else none
def uO{e:Expr}{a:Str}{p:Pos}(h:CU e=some (o,a,p)):e=.Attribute o a p:=by
 obtain⟨k,h⟩:=dI h;exact Expr.Attribute.elim (motive_1:=λe=>∀k:e.ctorIdx=20,Expr.Attribute.elim (motive_1:=λ_=>Option (Expr×Str×Pos)) e k (λo a p=>some (o,a,p))=some (o,a,p)->e=.Attribute o a p) e k (λ_ _ _ _ h=>by cases h;rfl) k h
noncomputable def xw(e:Expr):Option (Expr×ak×List Keyword×Pos):=if h:e.ctorIdx=16 then Expr.Call.elim (motive_1:=λ_=>Option (Expr×ak×List Keyword×Pos)) e h (λf as a p=>some (f,as,a,p))else none
def qN{e f:Expr}{as:ak}{ks:List Keyword}{p:Pos}(h:xw e=some (f,as,ks,p)):e=.Call f as ks p:=by
 obtain⟨k,h⟩:=dI h;exact Expr.Call.elim (motive_1:=λe=>∀k:e.ctorIdx=16,Expr.Call.elim (motive_1:=λ_=>Option (Expr×ak×List Keyword×Pos)) e k (λf as ks p=>some (f,as,ks,p))=some (f,as,ks,p)->e=.Call f as ks p) e k (λ_ _ _ _ _ h=>by cases h;rfl) k h
noncomputable def isNil{a:Type}:List a->Bool
 |[]=>true
 |_::_=>false
def o4{a:Type}{l:List a}(h:isNil l=true):l=[]:=by cases l<;>first|rfl|cases h
noncomputable def I_:Stmt->Bool
 |.Raise _ _ _=>true
 |_=>false
def An{i:Nat}{e:Expr}(h:qG S i e=true):∃x p,e=.Name x p:=by
 cases e<;>first|exact⟨_,_,rfl⟩|exact(aac h).elim
def BI{e:Expr}(h:iX e=true):∃x g a p,e=.ListComp x g a p:=Expr.ListComp.elim (motive_1:=λe=>∃x g a p,e=.ListComp x g a p) e (aab h) λ_ _ _ _=>⟨_,_,_,_,rfl⟩
mutual
noncomputable def pT(S:Sx):CS->Stmt->Bool
 |.asg t e,s0=>bC (CV s0) λz=>bC (one z.1) λtg=>b6 S e z.2&&tV S t tg&&!(isTup z.2&&isTup tg)&&(!iX z.2||isNm tg)
 |.par i j a b,s0=>bC (CV s0) λz=>bC (one z.1) λtg=>b6 S (.tup [a,b]) z.2&&F2 S i j tg z.2
 |.ret e,s0=>bC (QK s0) λz=>bC z λv=>b6 S e v
 |.rs _,s0=>I_ s0
 |.mut p i es,s0=>bC (S.px.pm p S.sc S.bl s0) λz=>qG S i z.1&&nmE z.1&&bZ S es z.2
 |.unp is e,s0=>bC (CV s0) λz=>bC (one z.1) λtg=>b6 S e z.2&&tV S (.tp is) tg&&!(isTup z.2&&isTup tg)&&!iX z.2
 |.app i e,s0=>bC (U2 s0) λc=>bC (xw c) λz=>isNil z.2.2.1&&bC (CU z.1) λa=>decide (a.2.1=("append" : Str))&&qG S i a.1&&nmE a.1&&(a.2.2.endLine==z.2.2.2.line)&&bC (one z.2.1) λv=>b6 S e v
 |.ex e,s0=>bC (U2 s0) λv=>b6 S e v&&!iX v
 |.ifs c a b,s0=>bC (L8 s0) λz=>b6 S c z.1&&ju S a z.2.1&&ju S b z.2.2
 |.Ko c b,s0=>bC (QI s0) λz=>isNil z.2.2&&b6 S c z.1&&ju S b z.2.1
 |.fr t it b,s0=>bC (L9 s0) λz=>isNil z.2.2.2&&tV S t z.1&&UC S it z.2.1&&(hU z.1||Ei it)&&ju S b z.2.2.1
noncomputable def ju(S:Sx):af->aW->Bool
 |[],ss=>match ss with
  |[]=>true
  |_::_=>false
 |c::cs,ss=>match ss with
  |[]=>false
  |s::ss=>pT S c s&&ju S cs ss
end
structure GC(px:Px)(Φ:aU):Prop where
 m:∀(X:Cx) (sc:Scope) (bl:av) (k:Nat),PX X sc bl k->X.N.Nodup->(∀x,X.fn x=true)->∀(p:Nat) (st:Stmt) (x:Str) (pos:Pos) (args:ak),px.pm p sc bl st=some (.Name x pos,args)->∀(i:Nat),X.N[i]?=some x->L2.Loc X.env.scope x->PE X (.Name x pos) (mY i) ->
  ∀(F:ai) (cs:aA),ql X F Φ cs args->PS X st (qr X F Φ (.mut p i cs))
structure nu(X:Cx)(S:Sx)(k:Nat)(Φ:aU):Prop extends Lk X S k Φ where
 xh:∀x,X.fn x=true
 px:PassesOwn (model X.prog X.w) X.A X.env X.xe
 fk:S.sc.kind=.function
 pm:GC S.px Φ
section
variable {X:Cx}{S:Sx}{k:Nat}{F:ai}{Φ:aU}
def nu.loc(L:nu X S k Φ){x:Str}(h:Nn S.sc x=true):L2.Loc X.env.scope x:=by
 unfold L2.Loc;rw[L.sc];unfold Nn at h;rw[zaU]at h;exact h.imp aab aab
def Kx(L:nu X S k Φ){x:Str}{p:Pos}{l:Nat}{elt:Expr}{gens:List Comprehension}{sc:Scope}:swapsWith (.ListComp elt gens sc pos) (some (.Name x p)) l X.env=pure (WI S (.Name x p) (.ListComp elt gens sc pos)):=by
 have b:X.env.blockKind=.function:=by unfold Env.blockKind;rw[L.sc,L.fk];rfl
 have a:(X.env.kindOf x==some .local)=(S.sc.names.lookup x==some .local):=by
  unfold Env.kindOf;rw[L.sc]
 unfold swapsWith WI;simp only[b,a];rfl
def iD{c:CE}{e:Expr}(h:b6 S c e=true)(a:iX e=false)(t:Option Expr)(l:Nat)(env:Env):swapsWith e t l env=pure false:=by
 cases e<;>first|rfl | (cases a;done) | (cases c<;>exact(aac h).elim)
def VH:aJ->Kj
 |[]=>Ob
 |i::is=>FC (pv i) (VH is)
def D1(L:nu X S k Φ){i:Nat}{e:Expr}(h:qG S i e=true):PG X e (pv i):=by
 cases e<;>try (exact(aac h).elim;done)
 replace h:=aF h;exact sM L.nd (by rw[L.N];exact aab h.1) (L.loc h.2) (.inl (L.xh _))
def Iw{i:Nat}{e:Expr}(h:qG S i e=true)(es:ak)(env:Env):assignEach (e::es) env=(false,assign e env)::assignEach es env:=by
 cases e<;>first|rfl | (exact(aac h).elim;done)
theorem xV(L:nu X S k Φ):∀{is:aJ} {es:ak},F3 S is es=true->Qq X es (VH is)/\(assignEach es X.env).length=is.length/\(assignEach es X.env).findIdx? (·.1)=none
 |[],[],_=>⟨zv,rfl,rfl⟩
 |[],_::_,h=>by exact(aac h).elim
 |_::_,[],h=>by exact(aac h).elim
 |i::is,e::es,h=>by
  replace h:=aF h;obtain⟨d,c,b⟩:=xV L h.2;have a:=Iw h.1 es X.env;refine⟨vy (D1 L h.1) d (by rw[a];rfl),by rw[a];simp[c],?_⟩;rw[a,List.findIdx?_cons];simp[b]
theorem vd{H:Hp}{R:ai}{Q:St->Hp->Prop}:∀{is:aJ} {vs:ag} {ds:aa} {b:bt} {n:Nat} {σ:St} {τ:Addr->Option bt} {ρ ρ':a_},aI (bg X.K H) (nd X.K R (λ_=>False) (λ_=>none) H) b n vs ds->SI X F R τ ρ σ H->fW is ds ρ=ok ρ' ->
  (∀a τ',SI X F R τ' ρ' a H->Q a H)->VH is vs σ H Q
 |[],_,_,_,_,σ,τ,_,_,.nil,Si,e,hq=>by
  cases e;exact⟨rfl,hq σ τ Si⟩
 |[],_,_,_,_,_,_,_,_,.cons _ _,_,e,_=>by cases e
 |_::_,_,_,_,_,_,_,_,_,.nil,_,e,_=>by cases e
 |i::is,_,_,_,_,σ,τ,ρ,_,.cons (v:=v) (d:=d) h t,Si,e,hq=>by
  change (if _ then _ else _)=_ at e;split at e
  ·rename_i c;obtain⟨τ',g⟩:=Si.set (i:=i) (nG (τ':=τ) (Rep.sZ h)) c;exact⟨_,_,rfl,vd t g e hq⟩
  ·cases e
noncomputable def C4(n:Nat)(τt:Addr->Option bt):Addr->Option bt:=λp=>match τt p with|some q=>if q.getLast?=some n then some q.dropLast else none|none=>none
noncomputable def C3(n:Nat)(τt:Addr->Option bt):Addr->Option bt:=λp=>match τt p with|some q=>if q.getLast?=some n then none else some q|none=>none
def Hj{n:Nat}{p:Addr}{q:bt}(h:C4 n τt p=some q):τt p=some (q++[n]):=by
 unfold C4 at h;cases e:τt p with
 |none=>rw[e]at h;cases h
 |some k =>
  rw[e]at h;by_cases c:k.getLast?=some n
  ·simp only[c,if_true]at h;cases h;obtain⟨a,rfl⟩:=List.getLast?_eq_some_iff.mp c;simp
  ·simp only[c,if_false]at h;cases h
def Hi{n:Nat}{p:Addr}{q:bt}(h:C3 n τt p=some q):τt p=some q/\q.getLast?≠some n:=by
 unfold C3 at h;cases e:τt p with
 |none=>rw[e]at h;cases h
 |some k =>
  rw[e]at h;by_cases c:k.getLast?=some n
  ·simp only[c,if_true]at h;cases h
  ·simp only[c,if_false]at h;cases h;exact⟨rfl,c⟩
theorem qT{H:Hp}{R:ai}{τt:Addr->Option bt}{n:Nat}:∀{vs:ag} {ds:aa} {m:Nat},n<m->aI (bg X.K H) (nd X.K R (λ_=>False) τt H) [] m vs ds->aI (bg X.K H) (nd X.K R (λ_=>False) (C3 n τt) H) [] m vs ds
 |_,_,_,_,.nil=>.nil
 |_,_,m,hm,.cons h t=>.cons (h.imp (q':=[m]) (λ_ _ h=>h) λc p xs f h=>by
   cases f with
   |ow =>
    refine⟨h.1,?_⟩;have e:=h.2;unfold C3;rw[e];have:(c++[m]).getLast?≠some n:=by rw[List.getLast?_append];simp;left
    simp only[this,if_false]
   |fz=>exact h
   |al=>exact h
   |sc=>exact h) (qT (by left) t)
theorem qR{H:Hp}{R:ai}{Q:St->Hp->Prop}:∀{is:aJ} {vs:ag} {ds:aa} {n:Nat} {σ:St} {τ τt:Addr->Option bt} {ρ ρ':a_},(∀p q,τt p=some q->τ p=none/\¬ R p/\X.H₀ p=none/\H p≠none)->aI (bg X.K H) (nd X.K R (λ_=>False) τt H) [] n vs ds->SI X F R τ ρ σ H->fW is ds ρ=ok ρ' ->
  (∀a τ',SI X F R τ' ρ' a H->Q a H)->VH is vs σ H Q
 |[],_,_,_,σ,τ,_,_,_,_,.nil,Si,e,hq=>by
  cases e;exact⟨rfl,hq σ τ Si⟩
 |[],_,_,_,_,_,_,_,_,_,.cons _ _,_,e,_=>by cases e
 |_::_,_,_,_,_,_,_,_,_,_,.nil,_,e,_=>by cases e
 |i::is,_,_,n,σ,τ,τt,ρ,_,ht,.cons (v:=v) (d:=d) h t,Si,e,hq=>by
  change (if _ then _ else _)=_ at e;split at e
  ·rename_i j;have m:=Si.Rm (i:=i) (τt:=C4 n τt) (λp q b=>ht p _ (Hj b)) (h.imp (q':=[]) (λ_ _ h=>h) λc p xs f h=>by
    cases f with
    |ow =>
     refine⟨h.1,?_⟩;have e:=h.2;unfold C4;rw[e,zaI];simp
    |fz=>exact h
    |al=>exact h
    |sc=>exact h) j
   refine⟨_,_,rfl,qR (τt:=C3 n τt) (λp q b=>?_) (qT (abi n) t) m e hq⟩;obtain⟨g,l⟩:=Hi b;obtain⟨s,r⟩:=ht p q g;refine⟨?_,r⟩;unfold xE C4;rw[g];simp only[l,if_false];exact s
  ·cases e
set_option tactic.hygienic true in
def L_(L:nu X S k Φ)(h:tV S (.tp is) tg=true):∃g,PG X tg g/\∀(v:V) (σ:St) (H:Hp) (Q:St->Hp->Prop) (R:ai) (τ:Addr->Option bt) (ρ ρ':a_) (d:D),SI X F R τ ρ σ H->kz X R τ H v d->Ma is d ρ=ok ρ' ->
  (∀a τ',SI X F R τ' ρ' a H->Q a H)->g v σ H Q:=by
 obtain⟨es,m,s⟩:=br h;obtain⟨nn,z,rfl⟩:=jZ m;obtain⟨x,u,t⟩:=xV L s;refine⟨_,xU L.calm x u t,λv σ H Q R τ ρ ρ' d y j e q=>?_⟩;cases d<;>first|exact nk e | (cases e;done)|skip
 rename_i ds;have e:fW is ds ρ=ok ρ':=e;obtain⟨τt,n,c⟩:=j;cases c with
 | @tup _ p xs _ r b =>
  refine⟨p,xs,rfl,r,?_,qR n b y e q⟩;rw[b.length];have:∀(is:aJ) (ds:aa) (ρ ρ':a_),fW is ds ρ=ok ρ'->ds.length=is.length:=by
   intro is;induction is with
   |nil=>intro ds ρ ρ' e;cases ds with|nil=>rfl|cons _ _=>cases e
   |cons i is l=>intro ds ρ ρ' e;cases ds with
    |nil=>cases e
    |cons d ds =>
     change (if _ then _ else _)=_ at e;split at e
     ·rw[zae,zae,l ds _ _ e]
     ·cases e
  exact this _ _ _ _ e
set_option tactic.hygienic true in
def C2(L:nu X S k Φ){t:Tg}(h:tV S t tg=true):∃g,PG X tg g/\∀(v:V) (σ:St) (H:Hp) (Q:St->Hp->Prop) (R:ai) (τ:Addr->Option bt) (ρ ρ':a_) (d:D),SI X F R τ ρ σ H->kz X R τ H v d->cH t d ρ=ok ρ' ->
  (∀a τ',SI X F R τ' ρ' a H->Q a H)->g v σ H Q:=by
 cases t with
 |nm i =>
  refine⟨pv i,D1 L h,λv σ H Q R τ ρ ρ' d j b e c=>?_⟩;simp only[cH]at e;split at e
  ·rename_i x;cases e;obtain⟨τ',J⟩:=j.set b x;exact c _ τ' J
  ·cases e
 |tp is =>
  obtain⟨es,r,z⟩:=br h;obtain⟨nn,M,rfl⟩:=jZ r;obtain⟨I,E,B⟩:=xV L z;refine⟨_,xU L.calm I E B,λv σ H Q R τ ρ ρ' d j b e c=>?_⟩;cases d<;>try (simp[cH]at e;done)
  rename_i ds;simp only[cH]at e;split at e
  ·cases e
  ·rename_i u;obtain⟨τt,O,n⟩:=b;cases n with
   | @tup _ p xs _ s l =>
    have m:aI (bg X.K H) (nd X.K R (λ_=>False) (λ_=>none) H) [] 0 xs ds:=aI.without (P:=cQ) (λ_ _ h=>h) (λk k' p xs f y h=>by
     cases f with
     |ow=>cases y
     |fz=>exact h
     |al=>exact h.2.elim
     |sc=>exact h) l (by simpa using u) _ _
    refine⟨p,xs,rfl,s,?_,vd m j e c⟩;rw[l.length];have:∀(is:aJ) (ds:aa) (ρ ρ':a_),fW is ds ρ=ok ρ'->ds.length=is.length:=by
     intro is;induction is with
     |nil=>intro ds ρ ρ' e;cases ds with|nil=>rfl|cons _ _=>cases e
     |cons i is q=>intro ds ρ ρ' e;cases ds with
      |nil=>cases e
      |cons d ds =>
       change (if _ then _ else _)=_ at e;split at e
       ·simp[q ds _ _ e]
       ·cases e
    exact this _ _ _ _ e
end
section
variable {X:Cx}{S:Sx}{k:Nat}{F:ai}{Φ:aU}
def Dg(L:nu X S k Φ){t:Tg}{e:CE}{v:Expr}(he:b6 S e v=true)(d:tV S t tg=true)(s:(isTup v&&isTup tg)=false)(B:swapsWithSole [tg] v pos.line X.env=pure false):PS X (.Assign [tg] v pos) (qr X F Φ (.asg t e)):=by
 obtain⟨g,u,I⟩:=C2 (F:=F) L d;have l:(∃x p,tg=.Name x p)\/∃es n p,tg=.Tuple es n p:=by
  cases t with
  |nm i=>cases tg<;>first|exact .inl ⟨_,_,rfl⟩|exact(aac d).elim
  |tp is=>cases tg<;>first|exact .inr ⟨_,_,_,rfl⟩|exact(aac d).elim
 have each:(assignEach [tg] X.env).map (·.2)=[assign tg X.env]:=by
  rcases l with ⟨x,p,rfl⟩|⟨es,n,p,rfl⟩<;>rfl
 have hw:swappedStores [tg] v X.env=pure none:=by
  rcases l with ⟨x,p,rfl⟩|⟨es,n,p,rfl⟩
  ·first|rfl | (cases v<;>rfl)
  ·cases v<;>first|rfl|exact absurd s (by simp[isTup])
 refine PS.imp (DU (si (F:=F) L.toLk e v he) u B hw each) λD σ H h=>?_;obtain⟨R,τ,ρ,r,z,a,h⟩:=h;obtain⟨r1,J,a⟩:=aH a;obtain⟨c,j,a⟩:=aH a;cases a;exact⟨R,τ,ρ,r1,z,J,λv H' R' τ' es hR y q=>I v σ H' _ R' τ' r1.2 c r1.1 y q j λb m E=>h b H' R' m E (Kp.of es hR)⟩
def Ms(L:nu X S k Φ){e:CE}{v:Expr}(he:b6 S e v=true)(i:tV S (.tp is) tg=true)(q:(isTup v&&isTup tg)=false)(x:swapsWithSole [tg] v pos.line X.env=pure false):PS X (.Assign [tg] v pos) (qr X F Φ (.unp is e)):=by
 obtain⟨g,s,z⟩:=L_ (F:=F) L i;have j:∃es n p,tg=.Tuple es n p:=by
  cases tg<;>first|exact⟨_,_,_,rfl⟩|exact(aac i).elim
 have each:(assignEach [tg] X.env).map (·.2)=[assign tg X.env]:=by
  obtain⟨es,n,p,rfl⟩:=j;rfl
 have hw:swappedStores [tg] v X.env=pure none:=by
  obtain⟨es,n,p,rfl⟩:=j;cases v<;>first|rfl|exact absurd q (by simp[isTup])
 refine PS.imp (DU (si (F:=F) L.toLk e v he) s x hw each) λD σ H d=>?_;obtain⟨R,τ,ρ,r,u,a,d⟩:=d;obtain⟨r1,B,a⟩:=aH a;obtain⟨c,h,a⟩:=aH a;cases a;exact⟨R,τ,ρ,r1,u,B,λv H' R' τ' es hR t m=>z v σ H' _ R' τ' r1.2 c r1.1 t m h λb l y=>d b H' R' l y (Kp.of es hR)⟩
def Hs(L:nu X S k Φ){i n:Nat}{t:Tg}{E:IK}{x:Str}{p Rh:Pos}{gens:List Comprehension}{sc:Scope}
  (he:b6 S (.comp n t caps E es bJ elt) (.ListComp jM gens sc pos)=true) (hn:qG S i (.Name x p)=true) (NK:swapsWith (.ListComp jM gens sc pos) (some (.Name x p)) Rh.line X.env=pure true) :
  PS X (.Assign [.Name x p] (.ListComp jM gens sc pos) Rh) (qr X F Φ (.asg (.nm i) (.comp n t caps E es bJ elt))):=by
 intro pins s σ H D I j;obtain⟨R,τ,ρ,r,Si,M,j⟩:=j;obtain⟨r1,O,M⟩:=aH M;obtain⟨ρ',u,M⟩:=aH M;cases M;have O:bd (bp Φ (.comp n t caps E es bJ elt) ρ) (λd=>ok (keep (.comp n t caps E es bJ elt) d ρ))=ok r1:=O;obtain⟨d,ed,O⟩:=aH O;cases O;have hg:=D1 L hn;rw[exec_Assign_Name_used _ _ _ _ NK];refine aaa (wpAny_standAt (aaa ?_));obtain⟨⟨e0,g0,s0⟩,hv0,PZ⟩:=br he;cases hv0;obtain⟨⟨target,iter,y,a⟩,Yt,c⟩:=br PZ;obtain rfl:gens=_:=bV Yt;obtain⟨c,h6⟩:=aF c;obtain⟨c,h5⟩:=aF c;obtain⟨c,h4⟩:=aF c;obtain⟨c,h3⟩:=aF c;obtain⟨c,h2⟩:=aF c;obtain⟨c,h1⟩:=aF c;obtain rfl:a=0:=aab c;have hC:=wz (aab h3) h4 (λ(X':Cx) (F':ai) (L':Lk X' (S.inner target caps sc) k Φ)=>jE bJ X' _ F' L' y h4);have run:wpAny (model X.prog X.w) X.A (comprehension (.ListComp jM [⟨target,iter,y,0⟩] sc pos) sc X.env (firstIterPos [⟨target,iter,y,0⟩] pos) (newList []) false (eval iter X.env) (some (assign (.Name x p) X.env))) (λ_ W=>SP X pins D .next W) X.xe s:=by
  refine wB (F:=F) (k:=k) L.toLk (mv h1) h2 (λX' F' L'=>(gw (F:=F') L' elt jM h5).1) hC ?_ (use:=some (assign (.Name x p) X.env)) (Post:=λ_ W=>SP X pins D .next W) I Si ed ?_
  ·exact EL L.toLk (λl=>sk (F:=F) L.toLk es l) (λl=>jE es X S F L.toLk l) (λl=>ox L.toLk es l) h6
  ·intro g C H1 U m Cq hc IX sm rt;obtain⟨c1,c2,c3,c4,c5⟩:=hc;obtain⟨R',τ',hR,gK,rk⟩:=K4 (e:=.comp n t caps E es bJ elt) Si sm rt;have I1:Inv X pins σ H1 U:=IX U.heap (.refl ..);obtain⟨Y,esC,epC,hoC,J,hrC⟩:=Cq;have cfs:C∉X.fs:=λz=>by
    obtain⟨_,o,ho,_⟩:=I1.ok.kN.mem z;exact absurd (aaf (aag ho) c2) (aaz _)
   have I2:Inv X ((C,Y)::pins) σ H1 U:=I1.j7 λq j=>by
    rcases List.mem_cons.mp j with rfl|j
    ·exact⟨hoC,c5,c1,cfs,λv z=>by rw[J]at z;cases z⟩
    ·exact I1.pin q (aap _ j)
   simp only[cH]at u;split at u
   ·rename_i hi;cases u;obtain⟨Z,Cd⟩:=gK.set rk hi;show wpAny _ _ (assign (.Name x p) X.env (.ref g)) _ _ _;refine aaA (hg ((C,Y)::pins) U σ H1 (.ref g) (.ref g) (λB H'=>B=σ.set i (some (.ref g))/\H'=H1) I2 rfl ⟨rfl,rfl⟩) (λ_ s2 h2=>?_) λ_ _ z=>z;obtain⟨B,H',I3,rfl,rfl⟩:=h2;have hC3:=(I3.pin (C,Y) (aap _ aai)).1;refine⟨m,⟨Y,esC,epC,hC3,J,hrC⟩,λh' EW=>?_⟩;have I4:Inv X pins (σ.set i (some (.ref g))) H' s2:=I3.j7 λq j=>I3.pin q (aap _ (aah _ j));have I5:=I4.turned (t':=s2.toks) (h':=h') (it:=C) (λb o hb e=>(EW.2 b hb).trans e) c5 c1 (.inr c2) c3 c4;exact⟨_,H',I5,j _ H' R' Z Cd (Kp.of sm hR)⟩
   ·cases u
 exact aaa (aaA run (λ_ W h=>aae (aae h)) λ_ _ z=>z)
def Mt(L:nu X S k Φ){e:CE}{v:Expr}(he:b6 S e v=true):PS X (.Return (some v) pos) (qr X F Φ (.ret e)):=by
 refine PS.imp (oH (si (F:=F) L.toLk e v he)) λD σ H a=>?_;obtain⟨R,τ,ρ,r,g,b,a⟩:=a;obtain⟨r1,h,b⟩:=aH b;cases b;exact⟨R,τ,ρ,r1,g,h,λv H' R' τ' es hR c d=>a v H' c.same (d.ret c)⟩
def Rg(L:nu X S k Φ){e:CE}{v:Expr}(he:b6 S e v=true)(b:iX v=false):PS X (.Expr v pos) (qr X F Φ (.ex e)):=by
 refine PS.imp (nI (gw (F:=F) L.toLk e v he).1 (iD he b _ _ _)) λD σ H a=>?_;obtain⟨R,τ,ρ,r,g,c,a⟩:=a;obtain⟨d,i,c⟩:=aH c;cases c;exact tD.intro g i λv H' es rv=>a σ H' R τ (g.go es) (Kp.of es λ_ h=>h)
def mS.from{D:Ends}{r:Fo×a_}(h:mS X F D R H r)(c:Kp R H R1 H1):mS X F D R1 H1 r:=by
 obtain⟨e,b⟩:=r;cases e with
 |nx=>exact λa H' R' τ' g k2=>h a H' R' τ' g (c.trans k2)
 |rt d=>exact h
def Rf(L:nu X S k Φ){c:CE}{a b:af}{t:Expr}{x y:aW}(i:b6 S c t=true)(l:jd X x (qq X F Φ a))(j:jd X y (qq X F Φ b)):PS X (.If t x y pos) (qr X F Φ (.ifs c a b)):=by
 refine PS.imp (vx (gw (F:=F) L.toLk c t i).2 l j) λD σ H e=>?_;obtain⟨R,τ,ρ,r,g,d,e⟩:=e;obtain⟨w,m,d⟩:=aH d;refine⟨R,τ,ρ,w,g,m,λH1 e1=>?_⟩;cases w with
 |true=>rw[zac rfl]at d ⊢;exact⟨R,τ,ρ,r,g.go e1,d,e.from (Kp.of e1 λ_ h=>h)⟩
 |false=>rw[zab (by simp)]at d ⊢;exact⟨R,τ,ρ,r,g.go e1,d,e.from (Kp.of e1 λ_ h=>h)⟩
def De(L:nu X S k Φ){c:CE}{b:af}{t:Expr}{x:aW}(y:b6 S c t=true)(z:jd X x (qq X F Φ b)):PS X (.While t x [] pos) (qr X F Φ (.Ko c b)):=by
 refine PS.imp (DR L.px (gw (F:=F) L.toLk c t y).2 z) λD σ H l=>?_;obtain⟨R,τ,ρ,r,M,I,l⟩:=l;obtain⟨n,v⟩:=mi I;refine⟨λm a H'=>∃R' τ' e,SI X F R' τ' e a H'/\Kp R H R' H'/\dA m _ e=ok r,⟨n,R,τ,ρ,M,Kp.refl R H,v⟩,?_⟩;rintro m p H1 ⟨R1,g,j,q,k1,e1⟩;cases m with
 |zero=>simp[dA]at e1
 |succ m =>
  rw[dA]at e1;obtain⟨st,es,e1⟩:=aH e1;obtain⟨w,E,es⟩:=aH es;refine⟨R1,g,j,w,q,E,λH2 e2=>?_⟩;cases w with
  |false =>
   rw[zab (by simp)]at es ⊢;cases es;cases e1;exact l p H2 R1 g (q.go e2) (k1.trans (Kp.of e2 λ_ h=>h))
  |true =>
   rw[zac rfl]at es ⊢;obtain⟨⟨s,i⟩,J,es⟩:=aH es;refine⟨λa H'=>∃R' τ' e,SI X F R' τ' e a H'/\Kp R H R' H'/\dA m _ e=ok r,λa H' h=>⟨m,abi m,h⟩,R1,g,j,(s,i),q.go e2,J,?_⟩;have k2:Kp R H R1 H2:=k1.trans (Kp.of e2 λ_ h=>h);cases s with
   |nx=>cases es;exact λa H' R' τ' B u=>⟨R',τ',i,B,k2.trans u,e1⟩
   |rt d=>cases es;cases e1;exact l
def l4(X:Cx)(F:ai)(Φ:aU)(t:Tg)(b:af)(R1:ai)(H1:Hp)(r:Fo×a_)(items:List DI.D)(i:Nat)(σ:St)(H:Hp):Prop :=
 ∃R' τ' a,SI X F R' τ' a σ H/\Kp R1 H1 R' H/\eW (λd ρ=>cH t d ρ) (λρ=>bN Φ b ρ) (items.drop i) a=ok r
def pz{g:TG}{t:Tg}{b:af}{D:Ends}{r:Fo×a_}{items:List DI.D}{q:bt}
  (Y:∀(v:V) (σ:St) (H:Hp) (Q:St->Hp->Prop) (R:ai) (τ:Addr->Option bt) (ρ ρ':a_) (d:DI.D),SI X F R τ ρ σ H->kz X R τ H v d->cH t d ρ=ok ρ'->(∀a τ',SI X F R τ' ρ' a H->Q a H)->g v σ H Q)
  (rs:aI (bg X.K H1) (nd X.K R1 (λ_=>False) (λ_=>none) H1) q 0 xs items) (L:mS X F D R1 H1 r) (i:Nat) (x:V) (σ:St) (H:Hp) (J:xs[i]?=some x) (h:l4 X F Φ t b R1 H1 r items i σ H) :
  g x σ H λp H2=>qq X F Φ b { D with nx:=l4 X F Φ t b R1 H1 r items (i+1),ct:=l4 X F Φ t b R1 H1 r items (i+1),bk:=D.nx } p H2:=by
 obtain⟨R',τ',ρ',U,s,c⟩:=h;obtain⟨d,m,E⟩:=rs.yy J;have l:i<items.length:=by
  by_cases l:i<items.length
  ·exact l
  ·rw[List.getElem?_eq_none (by left)]at m;cases m
 have B:items.drop i=d::items.drop (i+1):=by
  rw[zba l];rw[List.getElem?_eq_getElem l]at m;cases m;rfl
 rw[B,eW]at c;obtain⟨j,e1,c⟩:=aH c;obtain⟨⟨u,e⟩,e2,c⟩:=aH c;refine Y x σ H _ R' τ' ρ' j d U (nG (Rep.sZ (s.rep E))) e1 λa z M=>⟨R',z,j,(u,e),M,e2,?_⟩
 cases u with
 |nx=>exact λy Z W n O I=>⟨W,n,e,O,s.trans I,c⟩
 |rt d=>cases c;exact L
def nN{t:Tg}{b:af}{D:Ends}{r:Fo×a_}{items:List DI.D}{n:Nat}(g:n=items.length)(e:mS X F D R1 H1 r)(σ:St)(H:Hp)(h:l4 X F Φ t b R1 H1 r items n σ H):D.nx σ H:=by
 obtain⟨R',τ',c,i,d,a⟩:=h;subst g;rw[List.drop_length,eW]at a;cases a;exact e σ H R' τ' i d
def z5(ρ:a_):jo [] ρ=ρ:=by
 unfold jo;apply acy;intro i;rw[List.getElem?_mapIdx];cases ρ[i]? with
 |none=>rfl
 |some o=>simp
def z8{v:V}{d:DI.D}(b:SI X F R τ ρ σ H)(es:aL H H')(r:b8 X.K (gP X F) R τ fv H H' v d):
  ∃R' τ',(∀p,R p->R' p)/\SI X F R' τ' (if bh bR d then jo fv ρ else ρ) σ H'/\Rep (bg X.K H') (nd X.K R' (λ_=>False) (λ_=>none) H') [] v (aB aD d):=by
 by_cases a:bh bR d=true
 ·rw[zac a];exact tP b es r
 ·rw[zab a];have e:b8 X.K (gP X F) R τ [] H H' v d:=by
   obtain⟨τt,i,c⟩:=r;exact⟨τt,i,Rep.lu (P:=bR) (λ_ _ h=>h) (λk p xs f g h=>by
    cases f with
    |ow=>exact h
    |fz=>exact h
    |al=>cases g
    |sc=>exact h) c (by simpa using a)⟩
  have:=tP b es e;rw[z5]at this;exact this
def FE{ds:List DI.D}(b:SI X F R τ ρ σ H)(es:aL H H')(r:cF X.K (gP X F) R τ fv H H' vs ds):
  ∃R' τ',(∀p,R p->R' p)/\SI X F R' τ' (if aV bR ds then jo fv ρ else ρ) σ H'/\aI (bg X.K H') (nd X.K R' (λ_=>False) (λ_=>none) H') [] 0 vs (au aD ds):=by
 by_cases a:aV bR ds=true
 ·rw[zac a];exact v7 b es r
 ·rw[zab a];have d:cF X.K (gP X F) R τ [] H H' vs ds:=by
   obtain⟨τt,g,c⟩:=r;exact⟨τt,g,aI.lu (P:=bR) (λ_ _ h=>h) (λk p xs f e h=>by
    cases f with
    |ow=>exact h
    |fz=>exact h
    |al=>cases e
    |sc=>exact h) c (by simpa using a)⟩
  have:=v7 b es d;rw[z5]at this;exact this
def wiP(X:Cx)(F:ai)(Φ:aU)(p:Nat)(cs:aA):TI:=λσ H a=>∃R τ ρ xs d items,SI X F R τ ρ σ H/\bL Φ cs ρ=ok xs/\Φ p xs=ok d/\kI d=ok items /\
 ∀J H2 vs,aL H H2->cF X.K (gP X F) R τ (dJ cs) H H2 vs xs->Ki X.K J H2 vs xs items->a J H2
def Hr(L:nu X S k Φ){t:Tg}{p:Nat}{b:af}{x:aW}(ht:tV S t tg=true)(hi:S.px.pi p S.sc S.bl iter=some args)(hc:bZ S cs args=true)(zP:Vj iter=true)(W:(decide (1100<=p)||hU tg)=true)(hb:jd X x (qq X F Φ b)):PS X (.For tg iter x [] pos) (qr X F Φ (.fr t (.GL p cs) b)):=by
 obtain⟨g,hg,BP⟩:=C2 (F:=F) L ht;have lN:∀y,foldedSetIterable iter X.env y=pure y:=by
  intro y;cases iter<;>first|rfl | (cases zP;done)
 have pi:PI X tg iter (wiP X F Φ p cs):=λpins s σ H Rr I ⟨R,τ,ρ,xs,d,items,B,b_,ed,e,hR⟩ =>
  L.pr.i X _ _ k L.toLk.pX p iter args hi F cs tg W (ox L.toLk cs args hc) pins s σ H R τ ρ xs d items I B b_ ed e Rr hR
 refine PS.imp (sI L.px L.calm pi hg hb lN) λD σ H Y=>?_;obtain⟨R,τ,ρ,r,B,ev,Y⟩:=Y;obtain⟨⟨items,ρ1⟩,e,ef⟩:=aH ev;obtain⟨xs,b_,e⟩:=aH e;obtain⟨d,ed,e⟩:=aH e;obtain⟨XG,Z,e⟩:=aH e;cases e;refine⟨R,τ,ρ,xs,d,items,B,b_,ed,Z,λJ H2 vs e2 HP U=>?_⟩;obtain⟨R',τ',hR,gK,rs⟩:=FE B e2 HP;have BN:=Y.from (Kp.of e2 hR);refine⟨λi m c H'=>m=items.length - i/\i<=items.length/\l4 X F Φ t b R' H2 r items i c H',⟨_,rfl,aa3 _,R',τ',_,gK,Kp.refl R' H2,by rw[zbd];exact ef⟩,?_⟩;rintro i m j H1 ⟨rfl,Ji,hf⟩;obtain⟨R1,M,O,xj,k1,e1⟩:=id hf;have MN:=k1.WW rs;have WK:rP X.K H2 vs xs H1:=⟨⟨R',rs,k1.l⟩,λa ys h=>k1.U9 h⟩
 by_cases z:i<items.length
 ·refine .inr ⟨U.go i H1 R1 WK MN z,λc H'=>l4 X F Φ t b R' H2 r items (i+1) c H',λc H' h=>⟨items.length - (i+1),by left,rfl,z,h⟩,λv H3 hy=>?_⟩;obtain⟨e3,dd,hd,rd⟩:=U.w9 i H1 R1 v H3 WK MN z hy;have vU:items.drop i=dd::items.drop (i+1):=by
   rw[zba z];rw[List.getElem?_eq_getElem z]at hd;cases hd;rfl
  rw[vU,eW]at e1;obtain⟨u,eb,e1⟩:=aH e1;obtain⟨⟨fo,q⟩,e4,e1⟩:=aH e1;have k3:Kp R' H2 R1 H3:=k1.trans (Kp.of e3 λ_ h=>h);refine BP v j H3 _ R1 M O u dd (xj.go e3) (nG rd) eb λc xn Gv=>⟨R1,xn,u,(fo,q),Gv,e4,?_⟩
  cases fo with
  |nx=>exact λσ3 H4 R3 E UT k4=>⟨R3,E,q,UT,k3.trans k4,e1⟩
  |rt d=>cases e1;exact BN
 ·exact .inl ⟨U.stop i H1 R1 WK MN (by left),nN (n:=i) (by left) BN j H1 hf⟩
theorem aI.ints{T:nq}{N:kA}:∀(is:ae) {k:bt} {n:Nat},aI T N k n (is.map V.int) (is.map DI.D.int)
 |[],_,_=>.nil
 |i::is,_,_=>.cons (.int i) (aI.ints is)
set_option tactic.hygienic true in
def Mv(L:nu X S k Φ){t:Tg}{it:CI}{b:af}{x:aW}(ht:tV S t tg=true)(B:UC S it iter=true)(hnp:(hU tg||Ei it)=true)(U:jd X x (qq X F Φ b)):PS X (.For tg iter x [] pos) (qr X F Φ (.fr t it b)):=by
 obtain⟨g,hg,BP⟩:=C2 (F:=F) L ht;have lN:∀y,foldedSetIterable iter X.env y=pure y:=by
  intro y;cases iter<;>first|rfl | (cases it<;>first|exact(aac B).elim|exact(aac (aF B).2).elim)
 have ku:∀{lo:Int} {n:Nat} {D:Ends} {R:ai} {τ:Addr->Option bt} {ρ:a_} {σ:St} {H H1:Hp} {r:Fo×a_},SI X F R τ ρ σ H->aL H H1->mS X F D R H r ->
   eW (λd ρ=>cH t d ρ) (λρ=>bN Φ b ρ) ((List.range n).map λ(k:Nat)=>DI.D.int (lo+(k:Int))) ρ=ok r ->
   ∃W:Nat->Nat->L2.St->Hp->Prop,(∃m,W 0 m σ H1)/\∀i m σ H,W i m σ H ->
    ((Cu lo n).stop i H/\D.nx σ H)\/((Cu lo n).go i H/\∃N:L2.St->Hp->Prop,(∀c H',N c H'->∃m',m'<m/\W (i+1) m' c H')/\∀x H',(Cu lo n).w9 i H x H'->g x σ H' λσ2 H2=>qq X F Φ b { D with nx:=N,ct:=N,bk:=D.nx } σ2 H2):=by
  intro lo n D R τ ρ σ H H1 r l e1 u E;have q:aI (bg X.K H1) (nd X.K R (λ_=>False) (λ_=>none) H1) [] 0 ((List.range n).map λ(k:Nat)=>V.int (lo+(k:Int))) ((List.range n).map λ(k:Nat)=>DI.D.int (lo+(k:Int))):=by
   have:=aI.ints (T:=bg X.K H1) (N:=nd X.K R (λ_=>False) (λ_=>none) H1) ((List.range n).map λ(k:Nat)=>lo+(k:Int)) (k:=[]) (n:=0);rw[zam,zam]at this;exact this
  have z:=u.from (Kp.of e1 (R':=R) λ_ h=>h);refine B0 (l4 X F Φ t b R H1 r _) ⟨R,τ,ρ,l.go e1,Kp.refl R H1,by rw[zbd];exact E⟩ (λi c H' S9 h=>?_) (λc H' h=>nN (by simp) z c H' h);exact pz BP q z i (.int (lo+i)) c H' (by rw[List.getElem?_map,List.getElem?_range S9];rfl) h
 intro pins s σ H D I X_;cases it with
 |GL p cs =>
  obtain⟨zP,hz⟩:=aF B;obtain⟨args,ha,Vv⟩:=br hz;exact Hr L ht ha Vv zP (by rw[Bool.or_comm];exact hnp) U pins s σ H D I X_
 |ku a =>
  obtain⟨R,τ,ρ,r,l,O,u⟩:=X_;obtain⟨⟨items,ρ1⟩,j,E⟩:=aH O;obtain⟨⟨y,as⟩,hv,hz⟩:=br B;obtain⟨p,ND,rfl⟩:=ck hv;obtain⟨hz1,Vv⟩:=aF hz;obtain⟨hz3,h2⟩:=aF hz1;obtain⟨hz4,h1⟩:=aF hz3;obtain rfl:y=_:=aab hz4;obtain⟨e,hu,h3⟩:=br Vv;obtain rfl:as=[e]:=bV hu;have pa:PA X [e] (uC X F Φ [a]):=PA.imp (cE (gw (F:=F) L.toLk a e h3).1 eE (cm h3 _ _)) λ_ _ _ h=>by
   have:=gq h;obtain⟨R,τ,ρ,d,l,O,u⟩:=this;exact⟨R,τ,ρ,d,l,O,λv H' e r=>j0 (u v H' e r)⟩
  refine sI L.px L.calm (qV (L.gl h1) (L.bl _ (aab h2)) pa (cm h3 _ _)) hg U lN pins s σ H D I ?_;obtain⟨d,Y,j⟩:=aH j;cases d<;>try (simp at j;done)
  rename_i n;simp at j;obtain⟨⟨c1,c2⟩,rfl,rfl⟩:=j;have o9:(eB:Int)=1000000:=rfl;refine⟨R,τ,ρ,[.int n],l,by show bd (bp Φ a ρ) _=_;rw[Y];rfl,λvs H1 e1 rv=>?_⟩;obtain⟨τt,fr,q⟩:=rv;cases q.ints1
  ·refine⟨n,rfl,by left,by left,?_⟩;refine ku (lo:=0) l e1 u ?_;simpa using E
 |seq a =>
  obtain⟨R,τ,ρ,r,l,O,u⟩:=X_;obtain⟨⟨items,ρ1⟩,j,E⟩:=aH O;replace B:=aF B;obtain⟨d,Y,j⟩:=aH j;have pe:=(gw (F:=F) L.toLk a iter B.1).1;cases d<;>try (simp at j;done)
  ·rename_i ds;simp at j;obtain⟨rfl,rfl⟩:=j;refine sI L.px L.calm (DZ pe) hg U lN pins s σ H D I (tD.intro l Y λv H1 e1 rv=>?_);obtain⟨R',τ',hR,gK,J⟩:=z8 l e1 rv;rw[aB]at J;cases J with
   | @tup _ p xs _ M q =>
    have z:=u.from (Kp.of e1 hR);refine⟨p,rfl,⟨xs,M⟩,Jt (xs:=xs) (l4 X F Φ t b R' H1 r (au aD ds)) ⟨R',τ',_,gK,Kp.refl R' H1,by rw[zbd];exact E⟩ (λi c H' _ h=>?_) (λi x c H' hx h=>pz BP q z i x c H' hx h) (λc H' h=>nN (q.length) z c H' h)⟩;obtain⟨R2,Z,ρ2,_,kp,_⟩:=h;exact kp.U9 M
  ·rename_i f ds;simp at j;obtain⟨rfl,rfl⟩:=j;refine sI L.px L.calm (zu pe) hg U lN pins s σ H D I (tD.intro l Y λv H1 e1 rv=>?_);obtain⟨R',τ',hR,gK,J⟩:=z8 l e1 rv;rw[aB]at J;obtain⟨p,xs,rfl,M,q⟩:=J.mU;have z:=u.from (Kp.of e1 hR);refine⟨p,rfl,⟨xs,M.sq⟩,FF (xs:=xs) (l4 X F Φ t b R' H1 r (au aD ds)) ⟨R',τ',_,gK,Kp.refl R' H1,by rw[zbd];exact E⟩ (λi c H' _ h=>?_) (λi x c H' hx h=>pz BP q z i x c H' hx h) (λc H' h=>nN (q.length) z c H' h)⟩;obtain⟨R2,Z,ρ2,_,kp,_⟩:=h;exact(kp.nd M).sq
def yj{ρ':a_}{p:Addr}{q:bt}{n:Nd}{o:HO}(h:SI X F R' τ' ρ' σ H1)(es:aL H H1)(hR:∀p,R p->R' p)(d:fR H1 p n)(b:τ' p=some q):Kp R H R' (upd H1 p o):=by
 obtain⟨m,c,i,j⟩:=fR.some d;exact⟨hR,λa u g e=>by
  have ne:a≠p:=λz=>by subst z;rw[h.rt _ (hR _ g)]at b;cases b
  rw[bq ne];exact es _ _ e,λa l e=>by
  have e1:=es _ _ e;have ne:a≠p:=λz=>by subst z;rw[c]at e1;cases e1;exact i _ rfl
  rw[bq ne];exact e1,λa o u e=>by
  have e1:=es _ _ e;have ne:a≠p:=λz=>by subst z;rw[c]at e1;cases e1;exact j _ _ rfl
  rw[bq ne];exact e1⟩
set_option tactic.hygienic true in
def nmK(L:nu X S k Φ){i:Nat}(h:qG S i o=true)(c:∀x p,o=.Name x p->oO x=true):∃x p,o=.Name x p/\X.N[i]?=some x/\L2.Loc X.env.scope x/\PE X o (mY i):=by
 cases o<;>try (exact(aac h).elim;done)
 rename_i x p;have a:=c x p rfl;replace h:=aF h;unfold oO at a;simp only[zaf,zaW]at a;have b:X.N[i]?=some x:=by rw[L.N];exact aab h.1
 have hl:=L.loc h.2;exact⟨x,p,rfl,b,hl,mf b (hl.imp id .inl) a.1.1 a.1.2⟩
set_option tactic.hygienic true in
def Jv{e:CE}{r:DI.D×a_}{i:Nat}{ds:List DI.D}(h:jL Φ e ρ=ok r)(a:r.2[i]?=some (some (.lst .ow ds))):ρ[i]?=some (some (.lst .ow ds)):=by
 by_cases g:∃j,e=.v j
 ·obtain⟨j,rfl⟩:=g;simp only[jL]at h;split at h
  ·split at h
   ·cases h;by_cases c:i=j
    ·subst c;rw[List.getElem?_set]at a;simp at a
    ·rw[List.getElem?_set_ne (Ne.symm c)]at a;exact a
   ·cases h;exact a
  ·cases h
 ·have h':bd (bp Φ e ρ) (λd=>ok (keep e d ρ))=ok r:=by
   cases e<;>first|exact h|exact absurd ⟨_,rfl⟩ g
  obtain⟨d,_,m⟩:=aH h';cases m;unfold keep at a;split at a
  ·obtain⟨d',l,b⟩:=z6 _ _ _ _ a;split at b
   ·cases d'<;>simp[aB]at b;rename_i f ds';cases f<;>simp[aD]at b
   ·rw[b];exact l
  ·exact a
set_option tactic.hygienic true in
def Mw(L:nu X S k Φ){i:Nat}{e:CE}{x:Str}{v:Expr}{p:Pos}(hn:qG S i (.Name x p)=true)(Z:oO x=true)(he:b6 S e v=true)(Fb:(p1.endLine==p2.line)=true):PS X (.Expr (.Call (.Attribute (.Name x p) ("append" : Str) p1) [v] [] p2) pos) (qr X F Φ (.app i e)):=by
 obtain⟨_,_,z,hN,hl,W⟩:=nmK L hn (λy q e=>by cases e;exact Z);cases z;refine PS.imp (nI (D8 ab4 PySem.F.slot_list_append PySem.F.type_list_append Bu W (cE (si (F:=F) L.toLk e v he) eE (cm he _ _)) (hfew:=by rw[cm he];rfl) (hline:=Fb) (hs:=cm he _ _))) λD σ H s=>?_;obtain⟨R,τ,ρ,r,u,b,s⟩:=s;obtain⟨r1,I,b⟩:=aH b;split at b
 ·rename_i ds c;split at b
  ·rename_i hc;cases b;have c:=Ii c;obtain⟨a,xs,j,ha,Y,hta,_⟩:=u.own (Jv I c);refine⟨.ref a,j,⟨rfl,_,dD.of ha⟩,R,τ,ρ,r1,u,I,λw H1 R1 J es hR h U=>?_⟩;obtain⟨a1,Wa,B,t,XX,E,MN⟩:=h.own c;rw[j]at B;cases B;have hz:sizeLine=16777216:=abn;have o9:eB=1000000:=rfl;refine⟨a,Wa,w,rfl,rfl,t,by left,?_⟩;obtain⟨d,Cd⟩:=h.put (m:=ds.length) (g:=λM=>M++[w]) c j t E MN U λO r=>aI.snoc O (by simpa using r);exact s σ _ R1 d Cd (yj (n:=.l _) h es hR t E)
  ·cases b
 ·cases b
end
section
variable {X:Cx}{S:Sx}{k:Nat}{F:ai}{Φ:aU}
def MU(x:Str)(p:Pos):(Expr.Name x p).pos=p:=rfl
def xH{x y:Str}{px d pt s:Pos}{j:Nat}{a b:Expr}(n:env.scope.kind=.function)(m:env.scope.names.lookup x=some .local)(l:env.scope.names.lookup y=some .local)(c:x≠y)(hl:px.line=d.line)
  (r:[a,b].all (foldedForSure 8)=false) (q:[a,b].all (constantsAlone 8)=false) (g:([a,b].any λe=>match e with|.Starred ..=>true|_=>false)=false) :
  swappedStores [.Tuple [.Name x px,.Name y d] j pt] (.Tuple [a,b] k2 s) env=pure (some [x,y]):=by
 have p:env.blockKind=.function:=by unfold Env.blockKind;rw[n];rfl
 have i:env.kindOf x=some .local:=m;have h:env.kindOf y=some .local:=l;have e1:([x,y].eraseDups.length != [x,y].length)=false:=by
  have:¬ (y==x)=true:=by simp;exact λz=>c z.symm
  have h':(y==x)=false:=by simpa using this
  simp[List.eraseDups_cons,List.filter,h',c]
 unfold swappedStores;simp only[p,g,zaS,List.filterMap_nil,i,h,hl,MU,List.head?_cons,zby,Option.getD_some,r,q];simp only[zaR,zbB,if_true];rw[zab (by simp)];refine(acr ?_).trans ?_
 ·intro z;exact aac (g.symm.trans z)
 rw[zab (by
  rw[e1];simp),zab zaj,zab zaj]
def oF{a:bt}{v:V}{d:DI.D}(h:Rep (bg X.K H) (nd X.K R A τ H) a v d)(hf:bh anyF d=false):kz X R' τ' H v d :=
 ⟨λ_=>none,λ_ _ h=>by simp at h,Rep.without (P:=anyF) (λ_ _ h=>h) (λk k' p xs f hf h=>by cases hf) h hf _⟩
def Mu(L:nu X S k Φ){i j:Nat}{a b:CE}{v:Expr}(he:b6 S (.tup [a,b]) v=true)(hp:F2 S i j tg v=true):PS X (.Assign [tg] v pos) (qr X F Φ (.par i j a b)):=by
 obtain⟨ts,NJ,q1⟩:=br hp;obtain⟨kt,pt,rfl⟩:=jZ NJ;obtain⟨⟨t1,t2⟩,z,q2⟩:=br q1;obtain rfl:ts=[t1,t2]:=jB z;obtain⟨⟨x,px⟩,u,q3⟩:=br q2;obtain rfl:t1=_:=y_ u;obtain⟨⟨y,py⟩,t,q4⟩:=br q3;obtain rfl:t2=_:=y_ t;obtain⟨vs,s,q5⟩:=br q4;obtain⟨k2,PH,rfl⟩:=jZ s;obtain⟨⟨ea,eb⟩,q,q6⟩:=br q5;obtain rfl:vs=[ea,eb]:=jB q
 ·obtain⟨q7,N9⟩:=aF q6;obtain⟨q8,E⟩:=aF q7;obtain⟨q9,I⟩:=aF q8;obtain⟨W5,J⟩:=aF q9;obtain⟨p,M⟩:=aF W5;obtain⟨n,d⟩:=aF p;obtain⟨m,e⟩:=aF n;obtain⟨l,O⟩:=aF m;obtain⟨W,U⟩:=aF l;replace W:S.N[i]?=some x:=aab W;replace U:S.N[j]?=some y:=aab U;replace O:=aab O;replace e:=aab e;replace d:=aab d;replace M:=aab M;replace J:=aab J;replace I:=fY I;replace E:=fY E;replace N9:=aab N9;replace he:=aF he;have pa:=sk (F:=F) L.toLk [a,b] [ea,eb] he.1;refine PS.imp (MT L.calm L.nd (by rw[L.N];exact W) (by rw[L.N];exact U) O (by rw[L.sc];exact e) (by rw[L.sc];exact d) pa (xH (by rw[L.sc];exact L.fk) (by rw[L.sc];exact e) (by rw[L.sc];exact d) M J I E N9)) λD σ H B=>?_;obtain⟨R,τ,ρ,r,Si,c,B⟩:=B;obtain⟨d1,Z,c⟩:=aH c;obtain⟨d2,Y,c⟩:=aH c;simp only[K_]at c;obtain⟨⟨f1,f2,l1,l2⟩,rfl⟩:=c;refine⟨R,τ,ρ,[d1,d2],Si,by show bd (bp Φ a ρ) _=_;rw[Z];show bd (bd (bp Φ b ρ) _) _=_;rw[Y];rfl,λvs H1 e1 rv=>?_⟩;obtain⟨τt,fr,rs⟩:=rv;obtain⟨v1,v2,rfl,r1,r2⟩:=rs.two
  ·obtain⟨τ1,S1⟩:=(Si.go e1).set (i:=i) (oF r1 f1) l1;obtain⟨g,S2⟩:=S1.set (i:=j) (oF r2 f2) (by simpa using l2);exact⟨v1,v2,rfl,B _ H1 R g S2 (Kp.of e1 λ_ h=>h)⟩
mutual
theorem xJ(L:nu X S k Φ):∀(c:CS) (st:Stmt),pT S c st=true->PS X st (qr X F Φ c)
 |.asg t e,st,h=>by
  obtain⟨⟨W,v⟩,n,q1⟩:=br h;obtain⟨pos,rfl⟩:=lB n;obtain⟨tg,B,q2⟩:=br q1;obtain rfl:W=[tg]:=bV B;obtain⟨J,u⟩:=aF q2;obtain⟨I,s⟩:=aF J;obtain⟨g,l⟩:=aF I;have g:b6 S e v=true:=g;replace s:(isTup v&&isTup tg)=false:=fY s;cases Z:iX v with
  |false=>exact Dg L g l s (iD g Z _ _ _)
  |true =>
   have u:(!iX v||isNm tg)=true:=u;rw[Z]at u;obtain⟨x,p,rfl⟩:=nL u;obtain⟨jM,gens,sc,QH,rfl⟩:=BI Z;cases e<;>try (exact(aac g).elim)
   cases t with
   |tp is=>exact(aac l).elim
   |nm i =>
    cases hb:WI S (.Name x p) (.ListComp jM gens sc QH)with
    |true=>exact Hs L g l (by rw[Kx L,hb])
    |false=>exact Dg L g l s (by
      show swapsWith (.ListComp jM gens sc QH) (some (.Name x p)) pos.line X.env=_;rw[Kx L,hb])
 |.par i j a b,st,h=>by
  obtain⟨⟨W,v⟩,n,q1⟩:=br h;obtain⟨pos,rfl⟩:=lB n;obtain⟨tg,B,q2⟩:=br q1;obtain rfl:W=[tg]:=bV B;exact Mu L (aF q2).1 (aF q2).2
 |.ret e,st,h=>by
  obtain⟨z,n,q1⟩:=br h;obtain⟨pos,rfl⟩:=rY n;obtain⟨v,B,q2⟩:=br q1;obtain rfl:z=some v:=B;exact Mt L q2
 |.rs c,st,h=>λ_ _ _ _ _ _ b4=>by obtain⟨R,τ,ρ,r,Y,E,M⟩:=b4;cases E
 |.ex e,st,h=>by
  obtain⟨v,n,q1⟩:=br h;obtain⟨pos,rfl⟩:=oq n;exact Rg L (aF q1).1 (fY (aF q1).2)
 |.mut p i es,st,h=>by
  obtain⟨⟨o,args⟩,ha,q1⟩:=br h;obtain⟨q2,s⟩:=aF q1;obtain⟨g,l⟩:=aF q2;obtain⟨x,pp,rfl,hN,hl,pe⟩:=nmK L g (λy q e=>by cases e;exact l);exact L.pm.m X _ _ k L.toLk.pX L.nd L.xh p st x pp args ha i hN hl pe F es (ox L.toLk es args s)
 |.unp is e,st,h=>by
  obtain⟨⟨W,v⟩,n,q1⟩:=br h;obtain⟨pos,rfl⟩:=lB n;obtain⟨tg,B,q2⟩:=br q1;obtain rfl:W=[tg]:=bV B;obtain⟨J,u⟩:=aF q2;obtain⟨I,s⟩:=aF J;obtain⟨g,l⟩:=aF I;have g:b6 S e v=true:=g;replace s:(isTup v&&isTup tg)=false:=fY s;exact Ms L g l s (iD g (fY u) _ _ _)
 |.app i e,st,h=>by
  obtain⟨c,n,q1⟩:=br h;obtain⟨pos,rfl⟩:=oq n;obtain⟨⟨fn,as,ks,p2⟩,B,q2⟩:=br q1;obtain rfl:c=_:=qN B;obtain⟨J,I⟩:=aF q2;obtain rfl:ks=[]:=o4 J;obtain⟨⟨o,a,p1⟩,v3,q5⟩:=br I;obtain rfl:fn=_:=uO v3;obtain⟨q6,q7⟩:=aF q5;obtain⟨v,v4,u⟩:=br q7;obtain rfl:as=[v]:=bV v4;obtain⟨q8,h5⟩:=aF q6;obtain⟨q9,l⟩:=aF q8;obtain⟨W5,g⟩:=aF q9;obtain rfl:a=_:=aab W5;obtain⟨x,p,rfl⟩:∃x p,o=.Name x p:=An g;exact Mw L g l u h5
 |.ifs c a b,st,h=>by
  obtain⟨⟨t,x,y⟩,n,q1⟩:=br h;obtain⟨pos,rfl⟩:=rZ n;obtain⟨q2,s⟩:=aF q1;obtain⟨g,l⟩:=aF q2;exact Rf L g (j5 L a _ l) (j5 L b _ s)
 |.Ko c b,st,h=>by
  obtain⟨⟨t,x,y⟩,n,q1⟩:=br h;obtain⟨pos,rfl⟩:=Ha n;obtain⟨q2,s⟩:=aF q1;obtain⟨g,l⟩:=aF q2;obtain rfl:y=[]:=o4 g;exact De L l (j5 L b _ s)
 |.fr t it b,st,h=>by
  obtain⟨⟨tg,iter,x,y⟩,n,q1⟩:=br h;obtain⟨pos,rfl⟩:=Hd n;obtain⟨q2,h5⟩:=aF q1;obtain⟨J,u⟩:=aF q2;obtain⟨I,s⟩:=aF J;obtain⟨g,l⟩:=aF I;obtain rfl:y=[]:=o4 g;exact Mv L l s u (j5 L b _ h5)
theorem j5(L:nu X S k Φ):∀(cs:af) (U:aW),ju S cs U=true->jd X U (qq X F Φ cs)
 |[],[],_=>jd.imp sH λD σ H b4=>by obtain⟨R,τ,ρ,r,Y,E,M⟩:=b4;cases E;exact M σ H R τ Y (Kp.refl R H)
 |[],_::_,h=>by exact(aac h).elim
 |_::_,[],h=>by exact(aac h).elim
 |c::cs,st::U,h=>by
  replace h:=aF h;have g:PS X st (qr X F Φ c):=xJ L c st h.1;have l:jd X U (qq X F Φ cs):=j5 L cs U h.2;refine jd.imp (dT g l) λD σ H M=>?_;obtain⟨R,τ,ρ,r,Y,E,M⟩:=M;obtain⟨⟨fo,O⟩,e1,E⟩:=aH E;refine⟨R,τ,ρ,(fo,O),Y,e1,?_⟩;cases fo with
  |nx=>exact λσ' H' R' τ' gK kp=>⟨R',τ',O,r,gK,E,M.from kp⟩
  |rt d=>cases E;exact M
end
end
variable {mg:Str->Option Value}{ps:av}{qual:Str}
def v_{x:Str}{f:Addr}{j:FuncData}{k:Nat}{N bl:av}{cs:List (Str×GK)}{px:Px}{B:Nat->Option Str}{m:aj}{body:af}
  (Fu:GD K x qual st f j) (n:gX N ps (aO st)) (Fh:ju ⟨aO st,N,B,bl,cs,px⟩ body (bQ st)=true) (zP:qb px Φ) (NN:GC px Φ)
  (rl:∀y∈bl,mg y=none) (mM:∀y i,(y,i)∈cs->∃u,mg y=some u/\w8 K i u)
  (xg:∀g y,B g=some y->∃(f:Addr) (j:FuncData) (ps:av),iM P w K mg base Cg k f j ps (Hv K ps.length (Φ g))/\mg y=some (.ref f)/\PySem.W.keepIn K (.ref f)=true/\Binds K j ps []/\∀ds r,Φ g ds=ok r->ds.length=ps.length)
  (hm:∀ds r,m ds=ok r->ds.length=ps.length/\sD Φ N.length body ds=ok r):iM P w K mg base Cg (k+1) f j ps (Hv K ps.length m):=by
 refine Fu.ok (N:=N) n (λvs H Q E ⟨_,_,_,h,_⟩=>h) λgf A outer s H vs Q E hr xd=>?_;obtain⟨F,ds,r,hl,I,er,M⟩:=xd;obtain⟨P8,l⟩:=hm ds r er
 let X:=(jO Cg P w K mg base N qual (aO st) f gf A outer s H E).zC
 have L:nu X ⟨aO st,N,B,bl,cs,px⟩ k Φ:=⟨⟨rfl,rfl,n.nd,rfl,hr,rl,λg y h=>⟨xg g y h⟩,mM,zP⟩,λ_=>rfl,PassesOwn.never,n.kind,NN⟩
 refine⟨qq X F Φ body,j5 L body _ Fh,?_⟩;unfold sD at l;obtain⟨⟨O,t⟩,eb,l⟩:=aH l;have hpl:ps.length<=N.length:=by have:=aaU List.length n.pre;rw[zaL]at this;left
 have Y:vs.length=ds.length:=I.length;refine⟨λp=>F p/\H p≠none,λ_=>none,_,(O,t),⟨?_,λi d e=>?_,λ_ _=>rfl,λp h=>h.2,λp h=>.inl h.1,λ_ _ h=>by simp at h,λ_ _ h=>by simp at h,aL.refl H⟩,eb,?_⟩
 ·unfold L2.start;simp[Y]
 ·have U:i<ds.length:=by
   by_cases J:i<ds.length
   ·exact J
   ·rw[List.getElem?_append_right (by simpa using J)]at e;rw[List.getElem?_replicate]at e;split at e<;>simp at e
  rw[List.getElem?_append_left (by simpa using U),List.getElem?_map]at e;have hd:ds[i]?=some d:=by
   cases q:ds[i]? with
   |none=>rw[q]at e;cases e
   |some z=>rw[q]at e;simp at e;rw[e]
  obtain⟨v,hv,rv⟩:=I.get hd;refine⟨v,?_,rv.imp (q:=[0+i]) (q':=[i]) (λ_ _ h=>h) λc p xs f h=>?_⟩
  ·unfold L2.start;rw[List.getElem?_append_left (by rw[zaa,Y];exact U),List.getElem?_map,hv];rfl
  ·cases f with
   |ow=>exact nomatch h.2
   |fz=>exact⟨h.1,h.2,h.1.ne⟩
   |al=>exact h.2.elim
   |sc=>exact h
 ·cases O with
  |nx =>
   cases l;exact λZ H' R' τ' gK kp=>M .bz H' gK.same ⟨λ_=>none,λ_ _ h=>by simp at h,.bz⟩
  |rt d =>
   cases l;exact λv H' es ⟨a,b,c⟩=>M v H' es ⟨a,b,c⟩
structure Ent(P:aM)(w:World)(K:ao)(mg:aZ)(base:Heap)(k:Nat)(y:Str)(m:aj):Prop where
 ex:∃(f:Addr) (fd:FuncData) (ps:av),iM P w K mg base Cg k f fd ps (Hv K ps.length m)/\mg y=some (.ref f)/\PySem.W.keepIn K (.ref f)=true/\Binds K fd ps []/\∀ds r,m ds=ok r->ds.length=ps.length
def Ent.up{k k':Nat}{y:Str}{m:aj}(h:Ent P w K mg base k y m)(a:k<=k'):Ent P w K mg base k' y m:=by
 obtain⟨f,d,ps,c,b⟩:=h.ex;exact⟨f,d,ps,c.mono a,b⟩
def ent{x:Str}{f:Addr}{a:FuncData}{k:Nat}{N bl:av}{cs:List (Str×GK)}{px:Px}{b:Nat->Option Str}{m:aj}{body:af}
  (d:GD K x qual st f a) (hmg:mg x=some (.ref f)) (p:Binds K a ps []) (q:gX N ps (aO st)) (t:ju ⟨aO st,N,b,bl,cs,px⟩ body (bQ st)=true) (e:qb px Φ) (s:GC px Φ) (l:∀y∈bl,mg y=none) (n:∀y i,(y,i)∈cs->∃u,mg y=some u/\w8 K i u)
  (j:∀g y,b g=some y->Ent P w K mg base k y (Φ g)) (c:∀ds r,m ds=ok r->ds.length=ps.length/\sD Φ N.length body ds=ok r):Ent P w K mg base (k+1) x m :=
 ⟨f,a,ps,v_ d q t e s l n (λg y h=>(j g y h).ex) c,hmg,d.kp,p,λds r h=>(c ds r h).1⟩
def bH{b:Type}(P:b->Prop):List b->Prop
 |[]=>True
 |a::l=>P a/\bH P l
theorem bH.mem{b:Type}{P:b->Prop}:∀{l:List b},bH P l->∀a∈l,P a
 |[],_,_,h=>by cases h
 |_::_,h,_,hm=>(List.mem_cons.mp hm).elim (λe=>e▸h.1) (bH.mem h.2 _)
theorem bH.tab{c:Type}{P:Nat->c->Prop}:∀{l:List (Nat×c)},bH (λp=>P p.1 p.2) l->∀g y,l.lookup g=some y->P g y
 |[],_,_,_,h=>by cases h
 | (k,b)::l,h,g,y,e=>by
  rw[zal]at e;cases a:g==k with
  |true=>rw[a]at e;cases e;rw[eq_of_beq a];exact h.1
  |false=>rw[a]at e;exact bH.tab h.2 g y e
def bH.two{b a:Type}{P:b->a->Prop}{l:List (b×a)}(h:bH (λp=>P p.1 p.2) l)(y:b)(i:a)(c:(y,i)∈l):P y i:=bH.mem h _ c
def Sg{b:Type}{l:List b}(h:l.length=1):∃a,l=[a]:=List.length_eq_one_iff.mp h
def IM{c:Type}{l:List c}(h:l.length=2):∃a b,l=[a,b]:=by
 cases l with
 |nil=>cases h
 |cons a l=>obtain⟨b,rfl⟩:=Sg (Nat.succ.inj h);exact⟨a,b,rfl⟩
def IL{d:Type}{l:List d}(h:l.length=3):∃a b c,l=[a,b,c]:=by
 cases l with
 |nil=>cases h
 |cons a l=>obtain⟨b,c,rfl⟩:=IM (Nat.succ.inj h);exact⟨a,b,c,rfl⟩
def Xm{e:Type}{l:List e}(h:l.length=4):∃a b c d,l=[a,b,c,d]:=by
 cases l with
 |nil=>cases h
 |cons a l=>obtain⟨b,c,d,rfl⟩:=IL (Nat.succ.inj h);exact⟨a,b,c,d,rfl⟩
noncomputable def o6:aa->Option (ae)
 |[]=>some []
 |.int i::ds=>(o6 ds).map (i :: ·)
 |_::_=>none
theorem o5:∀ns:ae,o6 (ns.map D.int)=some ns
 |[]=>rfl
 |n::ns=>by simp[o6,o5 ns]
theorem vE:∀{ds:aa} {ns:ae},o6 ds=some ns->ds=ns.map D.int
 |[],ns,h=>by simp[o6]at h;subst h;rfl
 |d::ds,ns,h=>by
  cases d<;>simp[o6]at h;obtain⟨b,a,rfl⟩:=h;rw[vE a];rfl
def s_:aj
 |[.lst .sc ds]=>match o6 ds with
  |some ns=>if ns.length<=63 then ok (.bl true)else none
  |none=>none
 |_=>none
def IG(h:ns.length<=63):s_ [.lst .sc (ns.map D.int)]=ok (.bl true):=by
 simp[s_,o5,h]
set_option tactic.hygienic true in
def EB{n:Nat}{b:af}(h:∀ns:ae,ns.length<=63->sD Φ n b [.lst .sc (ns.map D.int)]=ok (.bl true)):∀ds r,s_ ds=ok r->ds.length=1/\sD Φ n b ds=ok r:=by
 intro ds r e
 match ds,e with
 |[.lst .sc ds],e =>
  simp only[s_]at e;split at e
  ·rename_i ns a;split at e
   ·rename_i hl;cases e;obtain rfl:=vE a;exact⟨rfl,h ns hl⟩
   ·cases e
  ·cases e
def Nq(K:ao)(H:Hp)(a:Addr)(ns:ae)(m:aj)(c:m [.lst .sc (ns.map D.int)]=ok (.bl true))(e:Kl H)(d:dD K H a (ns.map V.int)):Hv K 1 m [.ref a] H (λv _=>v=.bl true) λ_ _ _=>False:=by
 refine⟨λ_=>True,_,.bl true,rfl,.cons (.lst ?_ (aI.ints ns)) .nil,c,λv H' _ g=>by obtain⟨τt,_,b⟩:=g;cases b;rfl⟩;rcases d with (h|h)|h
 ·rcases e a with z|⟨o,xs,z⟩
  ·rw[h]at z;cases z
  ·rw[h]at z;cases z
 ·exact .inl h
 ·exact .inr h
section
variable {X:Cx}{pins:aw}{σ:St}{H:Hp}{s:Shared}{h':Heap}
def r9(I:Inv X pins σ H s)(hf:∀b∈ch,qd X pins H b)(k:∀b u,b∉ch->s.heap.get? b=some u->h'.get? b=some u):Inv X pins σ H { s with heap:=h',toks:=t' }:=by
 have h:∀b u,H b=some u->b∉ch:=λb u e z=>by rw[(hf b z).1]at e;cases e
 refine I.step (g':=s.gens) (d':=s.drawn) (ch:=ch) (λb c=>⟨(hf b c).2.2.2.1,(hf b c).2.1,(hf b c).2.2.2.2.1,(hf b c).2.2.2.2.2⟩) (λb o _ _ a e _=>k b o a e) (λb o _ _ a e _=>⟨o.slots,k b o a e⟩) (λ_ _ _ _ n=>n)
  (λb o a e=>⟨o,k b o a e⟩) (λ_ _ e=>e) (λ_ _ _ e=>e) (λm g=>?_) (λb u e=>?_) I.bare
 ·obtain⟨o,es,ep,d,r⟩:=g;exact⟨o,es,ep,k _ o (λz=>(hf _ z).2.1 rfl) d,r⟩
 ·exact(I.cJ b u e).jD λv=>k b v (h b u e)
def r_{T:Addr}{o:HO}(I:Inv X pins σ H s)(hf:∀b∈ch,qd X pins H b)(k:∀b u,b∉ch->s.heap.get? b=some u->h'.get? b=some u)(g:s.heap.objs.size<=T)(new:dh (upd H T o) h' T o):
  Inv X pins σ (upd H T o) { s with heap:=h',toks:=t' }:=by
 have j:∀b u,H b=some u->b∉ch:=λb u e z=>by rw[(hf b z).1]at e;cases e
 have d:H T=none:=I.cJ.fresh g;have ne:∀b (u:Obj),s.heap.get? b=some u->b≠T:=λb u e z=>absurd (aag e) (by rw[z];exact Nat.not_lt.mpr g);have up:∀b u,H b=some u->upd H T o b=some u:=λb u e=>by rw[bq (d6 e d)];exact e
 refine I.step (g':=s.gens) (d':=s.drawn) (ch:=ch) (λb c=>⟨(hf b c).2.2.2.1,(hf b c).2.1,(hf b c).2.2.2.2.1,(hf b c).2.2.2.2.2⟩) (λb o _ _ a e _=>k b o a e) (λb o _ _ a e _=>⟨o.slots,k b o a e⟩) (λb u _ e n=>by rw[bq (ne b u e)];exact n)
  (λb o a e=>⟨o,k b o a e⟩) (λ_ _ e=>up _ _ e) (λ_ _ _ e=>up _ _ e) (λm i=>?_) (zQ (λb u e=>?_) d new) I.bare
 ·obtain⟨o,es,ep,h,r⟩:=i;exact⟨o,es,ep,k _ o (λz=>(hf _ z).2.1 rfl) h,r⟩
 ·exact(I.cJ b u e).jD λv=>k b v (j b u e)
end
def ZM(K:ao)(a b:Addr):It :=
  ⟨λi H=>∃xs c x y,dD K H a xs/\dD K H b c/\xs[i]?=some x/\c[i]?=some y,
   λi H v H'=>∃T x y,(∀xs,dD K H a xs->xs[i]?=some x)/\(∀c,dD K H b c->c[i]?=some y)/\H T=none/\v=.ref T/\H'=upd H T (.tup [x,y]),
   λi H=>∃xs c,dD K H a xs/\dD K H b c/\(xs.length<=i\/c.length<=i)⟩
def nB{h:Heap}{T:Addr}{x y:V}{u v:Value}(b:RelV x u)(a:RelV y v)(e:h.get? T=some { cls:=.type "tuple",data:=.seq #[u,v] }):dh H h T (.tup [x,y]) :=
 ⟨by rw[sizeLine_eq];simp,[u,v],.cons b (.cons a .nil),⟨_,e,rfl,_,rfl⟩⟩
def c_{h:Heap}{a b:Addr}{o u:Obj}(e:h.get? a=some o)(c:h.get? b=some u)(d:o.cls≠u.cls):a≠b:=λz=>by
 subst z;rw[e]at c;cases c;exact d rfl
def CW{tp:Pos}{a b z TI TO:Addr}(Z:TI≠TO)(Qc:i1≠i2):
  Turn P w K (.Tuple elts n1 tp) (ZM K a b) [z,TI,TO,i1,i2] z (λi h=>IsZip h z TI TO .none/\IsPair h TI (.ref i1) (.ref i2)/\(∃x y,IsPair h TO x y)/\h.IsListIter i1 a i/\h.IsListIter i2 b i):=by
 have apart:∀{h:Heap} {x y:Value} {xs t:aY} {i:Nat},IsZip h z TI TO .none->IsPair h TI (.ref i1) (.ref i2)->IsPair h TO x y->h.IsListIter i1 a i->h.IsListIter i2 b i->h.IsList a xs->h.IsList b t->ZipApart z TI TO i1 i2 a b:=by
  intro h x y xs t i d l j l1 l2 ha hb;obtain⟨B,e1,c1,_⟩:=l1;obtain⟨o2,e2,r,_⟩:=l2;obtain⟨oa,M,ca,_⟩:=ha;obtain⟨ob,L,O,_⟩:=hb;exact⟨c_ l d (by simp),c_ j d (by simp),c_ e1 d (by rw[c1];simp),c_ e2 d (by rw[r];simp),Z,c_ l e1 (by rw[c1];simp),c_ l e2 (by rw[r];simp),c_ j e1 (by rw[c1];simp),c_ j e2 (by rw[r];simp),Qc,
   c_ M d (by rw[ca];simp),c_ M j (by rw[ca];simp),c_ M e1 (by rw[ca,c1];simp),c_ M e2 (by rw[ca,r];simp),c_ L d (by rw[O];simp),c_ L j (by rw[O];simp),c_ L e1 (by rw[O,c1];simp),c_ L e2 (by rw[O,r];simp)⟩
 refine⟨by simp,λi h st c g=>?_,λi h h' st k=>?_,?_,?_,λA i s Q E st hQ=>wpAny_pyIter_zip st.1 hQ⟩
 ·obtain⟨d,l,⟨x,y,j⟩,⟨B,e1,_,d1⟩,⟨o2,e2,_,d2⟩⟩:=st;simp only[zak,zai,or_false]at g;rcases g with rfl|rfl|rfl|rfl|rfl
  ·exact⟨_,d,λv q=>by cases q⟩
  ·exact⟨_,l,λv q=>by cases q⟩
  ·exact⟨_,j,λv q=>by cases q⟩
  ·exact⟨B,e1,λv q=>by rw[d1]at q;cases q⟩
  ·exact⟨o2,e2,λv q=>by rw[d2]at q;cases q⟩
 ·obtain⟨d,l,⟨x,y,j⟩,l1,l2⟩:=st;exact⟨k z (by simp) _ d,k TI (by simp) _ l,⟨x,y,k TO (by simp) _ j⟩,l1.at λo e=>k i1 (by simp) o e,l2.at λo e=>k i2 (by simp) o e⟩
 ·intro X hP hw hK g i pins s σ H E I J st Y;subst hP hw hK;obtain⟨xs,t,x,y,q1,q2,ex,ey⟩:=Y;obtain⟨d,l,⟨x0,y0,j⟩,l1,l2⟩:=st;obtain⟨aS,rv,p,_⟩:=I.list q1;obtain⟨n,Ck,p',_⟩:=I.list q2;obtain⟨u,hu,ru⟩:=rv.get ex;obtain⟨u',Ld,W⟩:=Ck.get ey;have D:=apart d l j l1 l2 p.isList p'.isList;refine wpAny_pyNext_zip_item D d l j l1 l2 p.isList p'.isList (x:=u) (y:=u') (by simpa using hu) (by simpa using Ld) λh1 z1 B a1 b1 t1 PD k1=>⟨_,rfl,?_⟩
  refine wpAny_letOwnedTupleGo_zip z1 λh2 z2 m=>?_;have U:s.heap.objs.size≠z:=aay (aag d);have kk:∀c o,c∉[z,TI,TO,i1,i2]->s.heap.get? c=some o->h2.get? c=some o:=λc o g e=>by
   simp only[zak,zai,or_false,not_or]at g;exact m.extBut c o g.1 (k1 c o g.1 g.2.2.1 g.2.2.2.1 g.2.2.2.2 e)
  have hT:h2.get? s.heap.objs.size=some { cls:=.type "tuple",data:=.seq #[u,u'] }:=m.extBut _ _ U t1;have hn:H s.heap.objs.size=none:=I.cJ.fresh (aaj _);refine⟨.ref s.heap.objs.size,upd H s.heap.objs.size (.tup [x,y]),r_ (s:=s) (h':=h2) (t':=s.toks) I J kk (aaj _) (nB ru W hT),rfl,⟨_,x,y,λzs d=>by rw[I.jH d q1];exact ex,λzs d=>by rw[I.jH d q2];exact ey,hn,rfl,rfl⟩,⟨z2,m.extBut _ _ D.TIz (k1 _ _ D.TIz D.TITO D.TIi1 D.TIi2 l),⟨_,_,m.extBut _ _ D.TOz B⟩,a1.extBut m.extBut D.i1z,b1.extBut m.extBut D.i2z⟩,λc g=>?_⟩;rw[bq]
  ·exact(J c g).1
  ·intro z;subst z;simp only[zak,zai,or_false]at g;rcases g with e|e|e|e|e
   ·exact absurd (aag d) (by rw[<- e];exact aaz _)
   ·exact absurd (aag l) (by rw[<- e];exact aaz _)
   ·exact absurd (aag j) (by rw[<- e];exact aaz _)
   ·obtain⟨_,w,_⟩:=l1;exact absurd (aag w) (by rw[<- e];exact aaz _)
   ·obtain⟨_,w,_⟩:=l2;exact absurd (aag w) (by rw[<- e];exact aaz _)
 ·intro X hP hw hK g i pins s σ H E I J st Y;subst hP hw hK;obtain⟨xs,t,q1,q2,hl⟩:=Y;obtain⟨d,l,⟨x0,y0,j⟩,l1,l2⟩:=st;obtain⟨aS,rv,p,_⟩:=I.list q1;obtain⟨n,Ck,p',_⟩:=I.list q2;have e1:=rv.length;have e2:=Ck.length;refine wpAny_pyNext_zip_end (I.ok.hd g) (apart d l j l1 l2 p.isList p'.isList) d l j l1 l2 p.isList p'.isList (by simp;left) λh1 k1=>⟨rfl,r9 (t':=s.toks) I J λc o g e=>?_⟩
  simp only[zak,zai,or_false,not_or]at g;exact k1 c o g.1 g.2.2.1 g.2.2.2.1 g.2.2.2.2 e
variable {ta:TA}
def MV{m p:Pos}(x:Gl X "zip")(r:X.mg "zip" = none)(y:PA X [e1,e2] ta)(hs:∀es,starEach (e1::es) X.env=(false,eval e1 X.env)::starEach es X.env)(E:∀es,starEach (e2::es) X.env=(false,eval e2 X.env)::starEach es X.env):
  PI X (.Tuple elts n1 m) (.Call (.Name "zip" p) [e1,e2] [] pos) (λσ H R=>ta σ H λvs H1=>∃a b,vs=[.ref a,.ref b]/\(∃xs,dD X.K H1 a xs)/\(∃g,dD X.K H1 b g)/\R (ZM X.K a b) H1):=by
 intro pins s σ H R I h;refine Call_ (eO I x r boot_zip (aav (dG (y pos pins s σ H _ I h) λJ c B=>?_) (hs _) (by rw[E];rfl)));obtain⟨vs,H1,d,r1,q1⟩:=B;obtain⟨a,b,e,⟨xs,q1⟩,⟨g,q2⟩,q⟩:=q1;subst e;obtain⟨u,v,rfl,n,rv⟩:=vals2 r1;cases n;cases rv;obtain⟨L,_,p1,_⟩:=d.list q1;obtain⟨j,_,p2,_⟩:=d.list q2;refine call_zip_2 p1.isList p2.isList λh' z t o l1 l2 sz k=>wpAny_pyIter_zip z ?_;refine⟨c.heap.objs.size+4,[c.heap.objs.size+4,c.heap.objs.size+2,c.heap.objs.size+3,c.heap.objs.size,c.heap.objs.size+1],_,_,H1,rfl,d.kept (t':=c.toks) k,CW (aak (abi _)) (aak (abi _)),⟨z,t,⟨_,_,o⟩,l1,l2⟩,λb l=>?_,q⟩;have i:c.heap.objs.size<=b:=by
  simp only[zak,zai,or_false]at l;rcases l with rfl|rfl|rfl|rfl|rfl<;>first|exact acD .. |exact aaj _
 exact d.yA i (d.cJ.fresh i)
def pR(sc:Scope)(bl:av)(e:Expr):Option (ak):=(fV e).bind λz=>(two z.2).bind λ_=>if z.1=("zip" : Str)/\iY sc z.1=true/\z.1∈bl then some z.2 else none
def rE{sc:Scope}{bl:av}{e:Expr}(h:pR sc bl e=some args):∃p pos a b,e=.Call (.Name ("zip" : Str) p) [a,b] [] pos/\args=[a,b]/\iY sc ("zip" : Str)=true/\("zip" : Str)∈bl:=by
 obtain⟨⟨x,as⟩,c,h⟩:=bT h;obtain⟨⟨a,b⟩,hw,h⟩:=bT h;obtain⟨d,h⟩:=gT h;cases h;obtain⟨rfl,i,g⟩:=d;obtain⟨p,pos,rfl⟩:=ck c;obtain rfl:=jB hw;exact⟨p,pos,a,b,rfl,rfl,i,g⟩
def oJ{a b:Expr}(h:ql X F Φ cs [a,b]):(∃c d,cs=[c,d]/\PE X a (tD X F Φ c)/\PE X b (tD X F Φ d))/\PA X [a,b] (uC X F Φ cs)/\(∀es,starEach (a::es) X.env=(false,eval a X.env)::starEach es X.env)/\(∀es,starEach (b::es) X.env=(false,eval b X.env)::starEach es X.env):=by
 match cs,h with
 |[c,d],h =>
  obtain⟨j,i,_,g,e,_,_⟩:=h;exact⟨⟨c,d,rfl,j,g⟩,PA.imp (cE j (PA.imp (cE g (PA.imp eE λ_ _ _ h=>j0 h) (e _)) λ_ _ _ h=>gq h) (i _)) λ_ _ _ h=>gq h,i,e⟩
 |[],h=>exact h.elim
 |[_],h=>exact h.2.2.2.elim
 |_::_::_::_,h=>exact h.2.2.2.2.2.2.elim
def Rep.U5{k:bt}{v:V}{d:D}(e:aL H H')(h:Rep (bg K H) (nd K R (λ_=>False) (λ_=>none) H) k v d):Rep (bg K H') (nd K R (λ_=>False) (λ_=>none) H') k' v d :=
 (Rep.sZ h (k':=k')).imp (λ_ _ h=>bg.same e h) λ_ _ _ _ h=>nd.same e h
def G7{p q:Addr}{g:Fl}{a b:aa}:Ki K (ZM K p q) H2 [.ref p,.ref q] [.lst f a,.lst g b] (au aD (List.zipWith (λx y=>.tup [x,y]) a b)):=by
 have len:(au aD (List.zipWith (λx y=>D.tup [x,y]) a b)).length=min a.length b.length:=by rw[aE];simp
 have two:∀{H':Hp} {R':ai},aI (bg K H') (nd K R' (λ_=>False) (λ_=>none) H') [] 0 [.ref p,.ref q] (au aD [.lst f a,.lst g b]) ->
   ∃xs c,dD K H' p xs/\dD K H' q c/\aI (bg K H') (nd K R' (λ_=>False) (λ_=>none) H') [0] 0 xs (au aD a)/\aI (bg K H') (nd K R' (λ_=>False) (λ_=>none) H') [1] 0 c (au aD b):=by
  intro H' R' h;rw[au,aB,au,aB,au]at h;cases h with
  |cons h t=>cases t with
   |cons h' t=>cases h with
    |lst h r=>cases h' with
     |lst h' k=>exact⟨_,_,h.sq,h'.sq,r,k⟩
 refine⟨λi H' R' _ h j=>?_,λi H' R' x B _ h j l=>?_,λi H' R' _ h j=>?_⟩
 ·obtain⟨xs,c,e,d,r1,r2⟩:=two h;rw[len]at j;have l1:=r1.length;have l2:=r2.length;rw[aE,zaa]at l1 l2;exact⟨xs,c,xs[i]'(by left),c[i]'(by left),e,d,aao _,aao _⟩
 ·obtain⟨xs,c,e,d,r1,r2⟩:=two h;obtain⟨T,u,v,s,n,m,rfl,rfl⟩:=l;obtain⟨d1,e1,p1⟩:=r1.yy (s xs e);obtain⟨z,e2,p2⟩:=r2.yy (n c d);have es:aL H' (upd H' T (.tup [u,v])):=aL.upd m;refine⟨es,.tup [d1,z],?_,.tup (bg.of bc) (.cons (p1.U5 es) (.cons (p2.U5 es) .nil))⟩;rw[aE,List.getElem?_map]at e1 e2 ⊢;obtain⟨c1,q1,rfl⟩:=Option.map_eq_some_iff.mp e1;obtain⟨E,q2,rfl⟩:=Option.map_eq_some_iff.mp e2;rw[List.getElem?_zipWith,q1,q2];simp[aB,au]
 ·obtain⟨xs,c,e,d,r1,r2⟩:=two h;rw[len]at j;have l1:=r1.length;have l2:=r2.length;rw[aE,zaa]at l1 l2;exact⟨xs,c,e,d,by left⟩
def LU{n:Nat}(h:Φ n=rX){sc:Scope}{bl:av}{k:Nat}(L:PX X sc bl k){e:Expr}(he:pR sc bl e=some args)(x:hU tg=true)(hs:ql X F Φ cs args)
  {pins:aw} {s:Shared} {xs:aa} {d:D} (I:Inv X pins σ H s) (M:SI X F R τ ρ σ H) (E:bL Φ cs ρ=ok xs) (c:Φ n xs=ok d) (B:kI d=ok items) (i:It->Hp->Prop)
  (hR:∀J H2 vs,aL H H2->cF X.K (gP X F) R τ (dJ cs) H H2 vs xs->Ki X.K J H2 vs xs items->i J H2) :
  wpAny (model X.prog X.w) X.A (eval e X.env) (λv g=>wpAny (model X.prog X.w) X.A (pyIter v) (Ct X pins σ tg i) X.xe g) X.xe s:=by
 obtain⟨p,pos,a,b,rfl,rfl,z,y⟩:=rE he;cases tg<;>try (cases x;done)
 obtain⟨_,r,g,j⟩:=oJ hs;refine MV (L.gl z) (L.bl _ y) r g j pins s σ H i I ⟨R,τ,ρ,xs,M,E,λvs H1 e1 rv=>?_⟩;have O:=rv;obtain⟨τt,U,q⟩:=rv;rw[h]at c;unfold rX at c;split at c
 ·cases c;cases B;obtain⟨v,w,rfl,m,l⟩:=q.two;cases m with
  |lst u _=>cases l with
   |lst t _=>exact⟨_,_,rfl,⟨_,u.sq⟩,⟨_,t.sq⟩,hR _ H1 _ e1 O G7⟩
 ·cases c
abbrev uu(h:Heap)(z TI TO a:Addr)(f:Bool):Prop :=
 h.get? z=some { cls:=.type "zip",dict:=none,data:=.fields #[rawInt a,.bool f,.bool false,.ref TI,.ref TO],slots:=#[] }
variable {oa:Obj}{ys:aY}
section
variable {prog:aM}{w:World}{A:aN}{E:aG}{s:Shared}
def Cw{a:Addr}{o:Obj}{Q:Option Obj->Shared->Prop}(b:s.heap.get? a=some o)(h:Q (some o) s):wpAny (model prog w) A (loadIfAlive a) Q E s:=by
 have h':Q (s.heap.get? a) s:=by rw[b];exact h
 exact λ_ _ _=>h'
def y3{z TI TO a:Addr}{f:Bool}{Q:Bool->Shared->Prop}(hz:uu s.heap z TI TO a f)(e:s.heap.get? a=some oa)(c:∀h',uu h' z TI TO a true->Heap.SameBut z s.heap h'->Q false { s with heap:=h' }):
  wpAny (model prog w) A (Builtin.SmallTypes.ownedTupleIsFree (.ref z)) Q E s:=by
 unfold Builtin.SmallTypes.ownedTupleIsFree;refine aaa (aa_ hz rfl (x:=rawInt a) rfl ?_);show wpAny _ _ (loadIfAlive ((a:Int).toNat) >>= _) _ _ _;rw[zan];refine aaa (Cw e ?_);simp only[Option.isNone_some,zat,if_false];refine aaa (aa_ hz rfl (x:=.bool f) rfl ?_);cases f with
 |true =>
  rw[zab (show ¬ ((Value.bool true != Value.bool true)=true) from zaj)];exact aae (c s.heap hz (Heap.SameBut.refl _ _))
 |false =>
  rw[zac (show(Value.bool false != Value.bool true)=true from rfl)];exact aaa (wpAny_setField_rec hz (by simp) λb g d=>aae (c b g d))
def uI{z TI TO a:Addr}{f:Bool}{xs:aY}{x y:Value}{Q:aG}(D:ZipApart z TI TO i1 i2 l1 l2)
  (hz:uu s.heap z TI TO a f) (q:s.heap.get? a=some oa) (M:IsPair s.heap TI (.ref i1) (.ref i2))
  (u:s.heap.IsListIter i1 l1 k1) (t:s.heap.IsListIter i2 l2 k2) (O:s.heap.IsList l1 xs) (k:s.heap.IsList l2 ys) (n:xs[k1]?=some x) (m:ys[k2]?=some y)
  (r:∀h',uu h' z TI TO a true->h'.IsListIter i1 l1 (k1+1)->h'.IsListIter i2 l2 (k2+1)->IsPair h' s.heap.objs.size x y->h'.objs.size=s.heap.objs.size+1 ->
   (∀c o,c≠z->c≠i1->c≠i2->s.heap.get? c=some o->h'.get? c=some o)->Q (.ref s.heap.objs.size) { s with heap:=h' }) :
  wpAny (model prog w) A (Builtin.«zip.__next__» ⟨[.ref z],[]⟩) (λfin l=>∃v,fin=.done (.ret v)/\Q v l) E s:=by
 show wpAny _ _ (field (.ref z) 2 >>= _) _ _ _;refine aaa (aa_ hz rfl (x:=.bool false) rfl ?_);show wpAny _ _ (field (.ref z) 3 >>= _) _ _ _;refine aaa (aa_ hz rfl (x:=.ref TI) rfl ?_);refine aaa (ab0 M rfl ?_);show wpAny _ _ (Builtin.SmallTypes.ownedTupleIsFree (.ref z) >>= _) _ _ _;refine aaa (y3 hz q λh₁ L g=>?_);simp only[zat,if_false];refine aaa ?_;rw[<- Array.forIn_toList];simp only[zbh,List.forIn_nil];refine aaa (aaa (abd ?_));show wpAny _ _ (Builtin.SmallTypes.nextOf (.ref i1) >>= _) _ _ _;refine aaa (ab9 (u.extBut g.extBut D.i1z) (O.extBut g.extBut D.l1z) n λj J h=>aae ?_);refine aae ?_;refine aaa (aaa (abd ?_));show wpAny _ _ (Builtin.SmallTypes.nextOf (.ref i2) >>= _) _ _ _;refine aaa (ab9 ((t.extBut g.extBut D.i2z).extBut h.extBut D.i12.symm) ((k.extBut g.extBut D.l2z).extBut h.extBut D.l2i1) m λb I i=>aae ?_);refine aae ?_;refine aae ?_;have d:b.objs.size=s.heap.objs.size:=by rw[i.1,h.1,g.1]
 refine aaa (wpAny_newTuple ?_ (by show 2<=_;rw[sizeLine_eq];decide));refine aae ⟨_,rfl,?_⟩;show Q (.ref b.objs.size) _;have U:∀{c o},b.get? c=some o->c≠b.objs.size:=λe=>aak (aag e);have p:∀c o,c≠z->c≠i1->c≠i2->s.heap.get? c=some o->(b.push { cls:=.type "tuple",data:=.seq #[x,y] }).get? c=some o:=λc o c1 B c3 e=>aad _ (i.extBut _ _ c3 (h.extBut _ _ B (g.extBut _ _ c1 e)));rw[d];refine r _ (aad _ (i.extBut _ _ D.i2z.symm (h.extBut _ _ D.i1z.symm L))) ((J.extBut i.extBut D.i12).at λo e=>aad _ e) (I.at λo e=>aad _ e) ?_ (by rw[Heap.size_push,d]) p;rw[<- d];exact aaq _ rfl
def xo{z TI TO a:Addr}{f:Bool}{xs:aY}{Q:Fin->Shared->Prop}(m:A.handled=none)(D:ZipApart z TI TO i1 i2 l1 l2)
  (hz:uu s.heap z TI TO a f) (y:s.heap.get? a=some oa) (I:IsPair s.heap TI (.ref i1) (.ref i2))
  (p:s.heap.IsListIter i1 l1 k1) (B:s.heap.IsListIter i2 l2 k2) (q:s.heap.IsList l1 xs) (r:s.heap.IsList l2 ys) (t:xs[k1]?=none\/ys[k2]?=none)
  (n:∀h' e,(∀c o,c≠z->c≠i1->c≠i2->s.heap.get? c=some o->h'.get? c=some o)->(∃o,h'.get? e=some o/\o.cls=.type "StopIteration")->E (.ref e) { s with heap:=h' }) :
  wpAny (model prog w) A (Builtin.«zip.__next__» ⟨[.ref z],[]⟩) Q E s:=by
 show wpAny _ _ (field (.ref z) 2 >>= _) _ _ _;refine aaa (aa_ hz rfl (x:=.bool false) rfl ?_);show wpAny _ _ (field (.ref z) 3 >>= _) _ _ _;refine aaa (aa_ hz rfl (x:=.ref TI) rfl ?_);refine aaa (ab0 I rfl ?_);show wpAny _ _ (Builtin.SmallTypes.ownedTupleIsFree (.ref z) >>= _) _ _ _;refine aaa (y3 hz y λh₁ L d=>?_);simp only[zat,if_false];refine aaa ?_;rw[<- Array.forIn_toList];simp only[zbh,List.forIn_nil];refine aaa (aaa (abd ?_));show wpAny _ _ (Builtin.SmallTypes.nextOf (.ref i1) >>= _) _ _ _;cases j:xs[k1]? with
 |none =>
  refine aaa (wpAny_nextOf_list_end m (p.extBut d.extBut D.i1z) (q.extBut d.extBut D.l1z) j λb e g k=>?_);exact n b e (λc o c1 l c3 x=>g _ _ l (d.extBut _ _ c1 x)) k
 |some x =>
  have v:ys[k2]?=none:=by rcases t with h|h;rw[j]at h;cases h;exact h
  refine aaa (ab9 (p.extBut d.extBut D.i1z) (q.extBut d.extBut D.l1z) j λb J g=>aae ?_);refine aae ?_;refine aaa (aaa (abd ?_));show wpAny _ _ (Builtin.SmallTypes.nextOf (.ref i2) >>= _) _ _ _;refine aaa (wpAny_nextOf_list_end m ((B.extBut d.extBut D.i2z).extBut g.extBut D.i12.symm) ((r.extBut d.extBut D.l2z).extBut g.extBut D.l2i1) v λi e u k=>?_);exact n i e (λc o c1 l c3 x=>u _ _ c3 (g.extBut _ _ l (d.extBut _ _ c1 x))) k
def oh{z TI TO a:Addr}{f:Bool}{xs:aY}{x y:Value}{Q:Option Value->Shared->Prop}(D:ZipApart z TI TO i1 i2 l1 l2)
  (hz:uu s.heap z TI TO a f) (h:s.heap.get? a=some oa) (t:IsPair s.heap TI (.ref i1) (.ref i2))
  (k:s.heap.IsListIter i1 l1 k1) (j:s.heap.IsListIter i2 l2 k2) (u:s.heap.IsList l1 xs) (d:s.heap.IsList l2 ys) (g:xs[k1]?=some x) (e:ys[k2]?=some y)
  (i:∀h',uu h' z TI TO a true->h'.IsListIter i1 l1 (k1+1)->h'.IsListIter i2 l2 (k2+1)->IsPair h' s.heap.objs.size x y->h'.objs.size=s.heap.objs.size+1 ->
   (∀c o,c≠z->c≠i1->c≠i2->s.heap.get? c=some o->h'.get? c=some o)->Q (some (.ref s.heap.objs.size)) { s with heap:=h' }) :
  wpAny (model prog w) A (pyNext (.ref z)) Q E s:=by
 have b:s.TypeIs (.ref z) "zip":=⟨_,hz,rfl⟩
 unfold pyNext;exact aaa (aca (aa0 (name:=Str.ofString "__next__") b abv
  (aaZ abv b PySem.F.entry_zip_next
   (uI D hz h t k j u d g e λh' r q p n m l=>aae (i h' r q p n m l)) (PySem.F.args_zip_next_1 _))))
def qo{z TI TO a:Addr}{f:Bool}{xs:aY}{Q:Option Value->Shared->Prop}(k:A.handled=none)(D:ZipApart z TI TO i1 i2 l1 l2)
  (hz:uu s.heap z TI TO a f) (n:s.heap.get? a=some oa) (t:IsPair s.heap TI (.ref i1) (.ref i2))
  (r:s.heap.IsListIter i1 l1 k1) (q:s.heap.IsListIter i2 l2 k2) (u:s.heap.IsList l1 xs) (g:s.heap.IsList l2 ys) (h:xs[k1]?=none\/ys[k2]?=none)
  (p:∀h',(∀c o,c≠z->c≠i1->c≠i2->s.heap.get? c=some o->h'.get? c=some o)->Q none { s with heap:=h' }):wpAny (model prog w) A (pyNext (.ref z)) Q E s:=by
 have d:s.TypeIs (.ref z) "zip":=⟨_,hz,rfl⟩
 unfold pyNext;refine aaa (aca (aa0 (name:=Str.ofString "__next__") d abv
  (aaZ abv d PySem.F.entry_zip_next (xo k D hz n t r q u g h λh' e j l=>?_) (PySem.F.args_zip_next_1 _))))
 obtain⟨o,i,m⟩:=l;refine aaa (wpAny_isInstance (T:="StopIteration") (b:=true) ⟨o,i,m⟩ isSubtype_stop ?_);exact aae (p _ j)
end
def LS:typeLookup (.type "zip") "__len__" = pure none:=by rw[typeLookup_type,builtinLookup_eq_fast];kernel_rfl
def Qw:typeLookup (.type "zip") "__length_hint__" = pure none:=by rw[typeLookup_type,builtinLookup_eq_fast];kernel_rfl
section
variable {prog:aM}{w:World}{A:aN}{E:aG}{s:Shared}
def G4{z:Addr}(b:s.TypeIs (.ref z) "zip"){Q:Bool->Shared->Prop}(h:Q true s):wpAny (model prog w) A (Builtin.List.listLengthHint (.ref z)) Q E s:=by
 unfold Builtin.List.listLengthHint;refine aaa (wpAny_specialOf b LS ?_);refine wpAny_ite_split (λa=>absurd a (by decide)) (λ_=>?_);refine wpAny_ite_split (λa=>absurd a (by decide)) (λ_=>?_);refine aaa (wpAny_specialOf b Qw ?_);exact aae h
end
structure Zl(h:Heap)(z TI TO i1 i2 l1 l2 S:Addr)(xs ys:aY)(i:Nat):Prop where
 st:(IsZip h z TI TO .none/\∃a b,IsPair h TO a b)\/∃a f oa,uu h z TI TO a f/\h.get? a=some oa/\S<a
 ti:IsPair h TI (.ref i1) (.ref i2)
 w1:h.IsListIter i1 l1 i
 w2:h.IsListIter i2 l2 i
 q1:h.IsList l1 xs
 q2:h.IsList l2 ys
structure Below(z TI TO i1 i2 l1 l2 S:Addr):Prop where
 D:ZipApart z TI TO i1 i2 l1 l2
 z:z<S
 TI:TI<S
 TO:TO<S
 i1:i1<S
 i2:i2<S
 l1:l1<S
 l2:l2<S
section
variable {prog:aM}{w:World}{A:aN}{E:aG}{s:Shared}{z TI TO i1 i2 l1 l2 S:Addr}{xs ys:aY}{i:Nat}
def Zl.keep{h:Heap}(B:Below z TI TO i1 i2 l1 l2 S)(Z:Zl h z TI TO i1 i2 l1 l2 S xs ys i)(c:∀b o,b≠S->h.get? b=some o->h'.get? b=some o):Zl h' z TI TO i1 i2 l1 l2 S xs ys i:=by
 have n:∀{b},b<S->b≠S:=λh=>aak h;refine⟨?_,c _ _ (n B.TI) Z.ti,Z.w1.at λo e=>c _ o (n B.i1) e,Z.w2.at λo e=>c _ o (n B.i2) e,Z.q1.at λo e=>c _ o (n B.l1) e,Z.q2.at λo e=>c _ o (n B.l2) e⟩;rcases Z.st with ⟨g,a,b,d⟩|⟨a,f,oa,g,d,j⟩
 ·exact .inl ⟨c _ _ (n B.z) g,a,b,c _ _ (n B.TO) d⟩
 ·exact .inr ⟨a,f,oa,c _ _ (n B.z) g,c _ _ (aay j) d,j⟩
def G0{x y:Value}{Q:Option Value->Shared->Prop}(B:Below z TI TO i1 i2 l1 l2 S)(Z:Zl s.heap z TI TO i1 i2 l1 l2 S xs ys i)(t:S<s.heap.objs.size)(p:xs[i]?=some x)(m:ys[i]?=some y)
  (r:∀h',Zl h' z TI TO i1 i2 l1 l2 S xs ys (i+1)->IsPair h' s.heap.objs.size x y->h'.objs.size=s.heap.objs.size+1->(∀c o,c≠z->c≠TO->c≠i1->c≠i2->s.heap.get? c=some o->h'.get? c=some o)->Q (some (.ref s.heap.objs.size)) { s with heap:=h' }) :
  wpAny (model prog w) A (pyNext (.ref z)) Q E s:=by
 have D:=B.D;rcases Z.st with ⟨j,a,b,u⟩|⟨a,f,oa,j,q,d⟩
 ·refine wpAny_pyNext_zip_item D j Z.ti u Z.w1 Z.w2 Z.q1 Z.q2 p m λh' g v k b1 t1 l k1=>r h' ?_ t1 l k1;exact⟨.inr ⟨s.heap.objs.size,false,_,g,t1,t⟩,k1 _ _ D.TIz D.TITO D.TIi1 D.TIi2 Z.ti,k,b1,Z.q1.at λo e=>k1 _ o D.l1z D.l1TO D.l1i1 D.l1i2 e,Z.q2.at λo e=>k1 _ o D.l2z D.l2TO D.l2i1 D.l2i2 e⟩
 ·refine oh D j q Z.ti Z.w1 Z.w2 Z.q1 Z.q2 p m λh' g k b1 t1 l k1=>r h' ?_ t1 l λc o c1 _ c3 c4 e=>k1 c o c1 c3 c4 e;have n:∀{b},b<S->a≠b:=λh=>aay (abZ h d);exact⟨.inr ⟨a,true,oa,g,k1 _ _ (n B.z) (n B.i1) (n B.i2) q,d⟩,k1 _ _ D.TIz D.TIi1 D.TIi2 Z.ti,k,b1,Z.q1.at λo e=>k1 _ o D.l1z D.l1i1 D.l1i2 e,Z.q2.at λo e=>k1 _ o D.l2z D.l2i1 D.l2i2 e⟩
def G5{Q:Option Value->Shared->Prop}(h:A.handled=none)(B:Below z TI TO i1 i2 l1 l2 S)(Z:Zl s.heap z TI TO i1 i2 l1 l2 S xs ys i)(g:xs[i]?=none\/ys[i]?=none)
  (j:∀h',(∀c o,c≠z->c≠TO->c≠i1->c≠i2->s.heap.get? c=some o->h'.get? c=some o)->Q none { s with heap:=h' }):wpAny (model prog w) A (pyNext (.ref z)) Q E s:=by
 have D:=B.D;rcases Z.st with ⟨d,a,b,n⟩|⟨a,f,oa,d,l,m⟩
 ·exact wpAny_pyNext_zip_end h D d Z.ti n Z.w1 Z.w2 Z.q1 Z.q2 g j
 ·exact qo h D d l Z.ti Z.w1 Z.w2 Z.q1 Z.q2 g λh' k=>j h' λc o c1 _ c3 c4 e=>k c o c1 c3 c4 e
end
structure UR(xs ys:aY)(lo:Addr)(h:Heap)(as:bo):Prop where
 above:∀a∈as,lo<a
 nd:as.Nodup
 pairs:∀(j:Nat) (a:Addr),as[j]?=some a->∃x y,xs[j]?=some x/\ys[j]?=some y/\IsPair h a x y
section
variable {prog:aM}{w:World}{A:aN}{s:Shared}{R:Result->Shared->Prop}{z TI TO i1 i2 l1 l2 S:Addr}{xs ys:aY}
def GZ(hh:A.handled=none)(B:Below z TI TO i1 i2 l1 l2 S)(hn:min xs.size ys.size<=sizeLine)(res:Value) 
  (hR:∀h' tk d c as,(∀b o,b≠S->b≠z->b≠TO->b≠i1->b≠i2->h₁.get? b=some o->h'.get? b=some o)->h'.get? S=some { cls:=.type "list",dict:=none,data:=.seq d c,slots:=#[] }->as.length=min xs.size ys.size->UR xs ys S h' as ->
   d.toList=as.map Value.ref->R (.ok (.ret res)) { s with heap:=h',toks:=tk }) :
  ∀(k i:Nat) (h:Heap) (tk c:Nat) (d:aY) (as:bo),min xs.size ys.size - i=k->i<=min xs.size ys.size->Zl h z TI TO i1 i2 l1 l2 S xs ys i->(∀b o,b≠S->b≠z->b≠TO->b≠i1->b≠i2->h₁.get? b=some o->h.get? b=some o) ->
   h.get? S=some { cls:=.type "list",dict:=none,data:=.seq d c,slots:=#[] }->d.toList=as.map Value.ref->as.length=i->UR xs ys S h as ->
   codeAny (model prog w) A (.builtin "list.extend.loop" ⟨[.ref S,.ref z,res],[]⟩) R { s with heap:=h,toks:=tk }:=by
 have nz:S≠z:=aay B.z;have nO:S≠TO:=aay B.TO;have n1:S≠i1:=aay B.i1;have n2:S≠i2:=aay B.i2;have Z1:∀{a:Addr},S<a->a≠z/\a≠TO/\a≠i1/\a≠i2:=λh=>⟨aay (abZ B.z h),aay (abZ B.TO h),aay (abZ B.i1 h),aay (abZ B.i2 h)⟩
 intro k;induction k with
 |zero =>
  intro i h tk c d as hk hi Z Fd I L E l;refine abu PySem.F.entry_extend_loop ?_;rw[Around.under_plainId PySem.F.plain_extend_loop _];show wpAny _ A.in1 (pyNext (.ref z) >>= _) _ _ _;have vT:xs[i]?=none\/ys[i]?=none:=by
   rcases Nat.le_total xs.size ys.size with q|q
   ·exact .inl (Array.getElem?_eq_none (by left))
   ·exact .inr (Array.getElem?_eq_none (by left))
  refine aaa (G5 (s:={ s with heap:=h,toks:=tk }) (A:=A.in1) hh B Z vT λh' O=>?_);refine aae (hR h' tk d c as (λb o J v u t r e=>O b o v u t r (Fd b o J v u t r e)) (O S _ nz nO n1 n2 I) (by left) ⟨l.above,l.nd,λj a g=>?_⟩ L);obtain⟨x,y,e1,e2,U⟩:=l.pairs j a g;obtain⟨a1,a2,Y,W⟩:=Z1 (l.above a (aaC g));exact⟨x,y,e1,e2,O a _ a1 a2 Y W U⟩
 |succ k ih =>
  intro i h tk c d as hk hi Z Fd I L E l;have jn:i<min xs.size ys.size:=by left
  have hx:xs[i]?=some (xs[i]'(by left)):=abm _;have hy:ys[i]?=some (ys[i]'(by left)):=abm _;have p:d.size=i:=by rw[<- zaE,L,zaa,E]
  have YE:S<h.objs.size:=aag I;refine abu PySem.F.entry_extend_loop ?_;rw[Around.under_plainId PySem.F.plain_extend_loop _];show wpAny _ A.in1 (pyNext (.ref z) >>= _) _ _ _;refine aaa (G0 (s:={ s with heap:=h,toks:=tk }) B Z YE hx hy λh' Z' ht hz M=>?_);dsimp only at ht hz M ⊢;have BX:=M S _ nz nO n1 n2 I;have up:∀b o,b≠S->h'.get? b=some o->(h'.update S (Obj.mapSeq (·.push (Value.ref h.objs.size)))).get? b=some o:=λb o m e=>(aa4 _ _ (acb m)).trans e;show wpAny _ A.in1 (updateSeq S (·.push (Value.ref h.objs.size)) >>= _) _ _ _;refine aaa ?_;refine ack BX rfl (aae ⟨plainId_quiet PySem.F.plain_extend_loop _,ih (i+1) _ tk _ (d.push (Value.ref h.objs.size)) (as++[h.objs.size]) (by left) jn (Z'.keep B up)
   (λb o J v u t r e=>up b o J (M b o v u t r (Fd b o J v u t r e))) (aa9 _ BX rfl) (by rw[Array.toList_push,L,zax];rfl) (by rw[zah,E];rfl) ⟨?_,?_,?_⟩⟩) (by rw[p];left) (by show(d.push (Value.ref h.objs.size)).size<=sizeLine+1;rw[Array.size_push,p];left)
  ·intro a n;rcases List.mem_append.mp n with n|n
   ·exact l.above a n
   ·rw[List.mem_singleton.mp n];exact YE
  ·refine List.nodup_append.mpr ⟨l.nd,List.nodup_cons.mpr ⟨List.not_mem_nil,ab1⟩,λa n b m e=>?_⟩;rw[List.mem_singleton.mp m]at e;subst e;obtain⟨j,g⟩:=List.mem_iff_getElem?.mp n;obtain⟨_,_,_,_,e⟩:=l.pairs j _ g;exact absurd (aag e) (aaz _)
  ·intro j b g;rcases Nat.lt_trichotomy j as.length with q|q|q
   ·rw[List.getElem?_append_left q]at g;obtain⟨x',y',e1,e2,U⟩:=l.pairs j b g;have m:=l.above b (aaC g);obtain⟨a1,a2,Y,W⟩:=Z1 m;exact⟨x',y',e1,e2,up b _ (aay m) (M b _ a1 a2 Y W U)⟩
   ·subst q;have m:h.objs.size=b:=by simpa using g
    subst m;exact⟨_,_,by rw[E];exact hx,by rw[E];exact hy,up _ _ (aay YE) ht⟩
   ·have SW:(as++[h.objs.size])[j]?=none:=List.getElem?_eq_none (by rw[zah,zaX];left);rw[SW]at g;exact nk g
def AM(y:A.handled=none)(B:Below z TI TO i1 i2 l1 l2 S)(v:min xs.size ys.size<=sizeLine)(Z:Zl s.heap z TI TO i1 i2 l1 l2 S xs ys 0)(q:IsZip s.heap z TI TO .none)(res:Value)(d:Nat)(p:s.heap.get? S=some { cls:=.type "list",data:=.seq #[] d })
  (hR:∀h' u g c as,(∀b o,b≠S->b≠z->b≠TO->b≠i1->b≠i2->s.heap.get? b=some o->h'.get? b=some o)->h'.get? S=some { cls:=.type "list",dict:=none,data:=.seq g c,slots:=#[] }->as.length=min xs.size ys.size->UR xs ys S h' as ->
   g.toList=as.map Value.ref->R (.ok (.ret res)) { s with heap:=h',toks:=u }) :
  wpAny (model prog w) A.in1 (Builtin.List.listExtendWith (.ref S) (.ref z) res)
   (λfin h=>match fin with|.done f=>R (.ok f) h|.again c'=>c'.quiet=true/\codeAny (model prog w) A c' R h) (λe h=>R (.error e) h) s:=by
 have i:S≠z:=aay B.z;have n:s.TypeIs (.ref z) "zip":=⟨_,q,rfl⟩
 unfold Builtin.List.listExtendWith;refine aaa (wpAny_typeOf (T:="zip") n ?_);have k:Builtin.List.listSameRef (.ref S) (.ref z)=false:=by simp[Builtin.List.listSameRef,i]
 have J:(Value.type "zip" == Value.type "list")=false:=by decide
 have I:(Value.type "zip" == Value.type "tuple")=false:=by decide
 simp only[k,J,I,Bool.or_false,zat,if_false];refine aaa (wpAny_pyIter_zip q ?_);refine aaa (abd (G4 n ?_));refine wpAny_ite_split (λ_=>?_) (λt=>absurd rfl t);refine aaa (wpAny_rule ?_);refine aaa ?_;show wpAny _ _ (updateSeq S (·.push .none) >>= λ_=>updateSeq S (·.pop)) _ _ _;refine aaa (ack p rfl ?_);have l:=aa9 (Obj.mapSeq (·.push Value.none)) p rfl;refine ack (hz:=by seq_fits) l rfl ?_;have L:=aa9 (Obj.mapSeq (·.pop)) l rfl;have r:∀b o,b≠S->s.heap.get? b=some o->((s.heap.update S (Obj.mapSeq (·.push Value.none))).update S (Obj.mapSeq (·.pop))).get? b=some o:=λb o m e=>(aa4 _ _ (acb m)).trans ((aa4 _ _ (acb m)).trans e);refine aae ⟨plainId_quiet PySem.F.plain_extend_loop _,?_⟩;exact GZ y B v res (s:=s) (h₁:=s.heap) hR (min xs.size ys.size) 0 _ s.toks _ #[] [] (Nat.sub_zero _) (aa3 _) (Z.keep B r) (λb o k _ _ _ _ e=>r b o k e) L rfl rfl ⟨(λ_ E=>nomatch E),ab1,λj a x=>by simp at x⟩
def G3(n:A.handled=none)(B:Below z TI TO i1 i2 l1 l2 S)(l:min xs.size ys.size<=sizeLine)(Z:Zl s.heap z TI TO i1 i2 l1 l2 S xs ys 0)(y:IsZip s.heap z TI TO .none)(h:s.heap.get? S=some { cls:=.type "list",data:=.seq #[] })
  (hR:∀h' g a c as,(∀b o,b≠S->b≠z->b≠TO->b≠i1->b≠i2->s.heap.get? b=some o->h'.get? b=some o)->h'.get? S=some { cls:=.type "list",dict:=none,data:=.seq a c,slots:=#[] }->as.length=min xs.size ys.size->UR xs ys S h' as ->
   a.toList=as.map Value.ref->R (.ok (.ret .none)) { s with heap:=h',toks:=g }) :
  wpAny (model prog w) A.in1 (Builtin.«list.__init__» ⟨[.ref S,.ref z],[]⟩)
   (λfin d=>match fin with|.done f=>R (.ok f) d|.again c'=>c'.quiet=true/\codeAny (model prog w) A c' R d) (λe d=>R (.error e) d) s:=by
 show wpAny _ _ (do let old <- Builtin.List.listItems (.ref S);Builtin.List.listUpdate (.ref S) (λ_=>#[]);letGo old.toList.reverse;Builtin.List.listExtendWith (.ref S) (.ref z) .none) _ _ s;refine aaa ?_;unfold Builtin.List.listItems;refine aaa (ab0 h rfl (aae ?_));show wpAny _ _ (updateSeq S (λ_=>#[]) >>= λ_=>letGo (#[]:aY).toList.reverse >>= λ_=>Builtin.List.listExtendWith (.ref S) (.ref z) .none) _ _ s;refine aaa (ack h rfl ?_);have k:=aa9 (Obj.mapSeq (λ_=>(#[]:aY))) h rfl;have i:∀b o,b≠S->s.heap.get? b=some o->(s.heap.update S (Obj.mapSeq (λ_=>(#[]:aY)))).get? b=some o :=
  λb o p e=>(aa4 _ _ (acb p)).trans e
 refine aaa (wpAny_letGo ?_);refine AM n B l (Z.keep B i) (i _ _ (aak B.z) y) .none _ k λh' g a c as m E hl q x=>?_;exact hR h' g a c as (λb o j v u t r e=>m b o j v u t r (i b o j e)) E hl q x
end
section
variable {prog:aM}{w:World}{A:aN}{E:aG}{s:Shared}{z TI TO i1 i2 l1 l2:Addr}{xs ys:aY}
def G6{Q:aG}(r:A.handled=none)(D:ZipApart z TI TO i1 i2 l1 l2)(p:min xs.size ys.size<=sizeLine)(hz:IsZip s.heap z TI TO .none)(n:IsPair s.heap TI (.ref i1) (.ref i2)){a b:Value}(m:IsPair s.heap TO a b)(l:s.heap.IsListIter i1 l1 0)(i:s.heap.IsListIter i2 l2 0)(q1:s.heap.IsList l1 xs)(q2:s.heap.IsList l2 ys)
  (t:∀h' j d c as,(∀b o,b≠z->b≠TO->b≠i1->b≠i2->s.heap.get? b=some o->h'.get? b=some o)->h'.get? s.heap.objs.size=some { cls:=.type "list",dict:=none,data:=.seq d c,slots:=#[] }->as.length=min xs.size ys.size->UR xs ys s.heap.objs.size h' as ->
   d.toList=as.map Value.ref->Q (.ref s.heap.objs.size) { s with heap:=h',toks:=j }) :
  wpAny (model prog w) A (call (.type "list") [.ref z]) Q E s:=by
 refine callType_codes (Q₁:=λh g=>h=.ref s.heap.objs.size/\g={ s with heap:=s.heap.push { cls:=.type "list",data:=.seq #[] } }) PySem.F.called_list (PySem.F.typeCall_list_1 _) PySem.F.entry_list_init
  (code_list_new _ ⟨rfl,rfl⟩) λh g h₁=>?_
 obtain⟨rfl,rfl⟩:=h₁;have k:(s.heap.push { cls:=.type "list",data:=.seq #[] }).get? s.heap.objs.size=some { cls:=.type "list",data:=.seq #[] }:=aaq _ rfl;have up:∀b o,s.heap.get? b=some o->(s.heap.push { cls:=.type "list",data:=.seq #[] }).get? b=some o:=λb o e=>aad _ e;have B:Below z TI TO i1 i2 l1 l2 s.heap.objs.size:=⟨D,aag hz,aag n,aag m,(by obtain⟨_,e,_⟩:=l;exact aag e),(by obtain⟨_,e,_⟩:=i;exact aag e),(by obtain⟨_,e,_⟩:=q1;exact aag e),(by obtain⟨_,e,_⟩:=q2;exact aag e)⟩
 refine⟨⟨_,k,rfl⟩,PySem.F.args_list_init_2 _ _,G3 (A:=A.in1) r B p ⟨.inl ⟨up _ _ hz,a,b,up _ _ m⟩,up _ _ n,l.at λo e=>up _ o e,i.at λo e=>up _ o e,q1.at λo e=>up _ o e,q2.at λo e=>up _ o e⟩ (up _ _ hz) k λh' j d c as q J hl u I=>?_⟩;exact⟨rfl,t h' j d c as (λb o i y x v e=>q b o (aak (aag e)) i y x v (up b o e)) J hl u I⟩
end
def i7(f:Str)(sc:Scope)(bl:av)(e:Expr):Option (ak):=(fV e).bind λz=>(one z.2).bind λ_=>if z.1=f/\iY sc z.1=true/\z.1∈bl then some z.2 else none
def mw{f:Str}{sc:Scope}{bl:av}{e:Expr}(h:i7 f sc bl e=some args):∃p pos a,e=.Call (.Name f p) [a] [] pos/\args=[a]/\iY sc f=true/\f∈bl:=by
 obtain⟨⟨x,as⟩,b,h⟩:=bT h;obtain⟨a,hw,h⟩:=bT h;obtain⟨c,h⟩:=gT h;cases h;obtain⟨rfl,g,d⟩:=c;obtain⟨p,pos,rfl⟩:=ck b;obtain rfl:=bV hw;exact⟨_,_,_,rfl,rfl,g,d⟩
def Inv.Sl{pins:aw}{s:Shared}(I:Inv X pins σ H s)(k:∀b u,s.heap.get? b=some u->h'.get? b=some u)(up:∀b u,H b=some u->H' b=some u)
  (a:∀b u,H' b=some u->H b=some u\/(s.heap.objs.size<=b/\dh H' h' b u)):Inv X pins σ H' { s with heap:=h',toks:=t' }:=by
 refine I.step (g':=s.gens) (d':=s.drawn) (ch:=[]) (λb g=>nomatch g) (λb o _ _ _ e _=>k b o e) (λb o _ _ _ e _=>⟨o.slots,k b o e⟩) (λb u _ e n=>?_)
  (λb o _ e=>⟨o,k b o e⟩) (λ_ _ e=>up _ _ e) (λ_ _ _ e=>up _ _ e) (λm d=>?_) (λb u e=>?_) I.bare
 ·cases q:H' b with
  |none=>rfl
  |some v =>
   rcases a b v q with z|⟨z,_⟩
   ·rw[n]at z;exact nk z
   ·exact absurd (aag e) (Nat.not_lt.mpr z)
 ·obtain⟨o,es,ep,c,r⟩:=d;exact⟨o,es,ep,k _ o c,r⟩
 ·rcases a b u e with e|⟨_,e⟩
  ·exact(I.cJ b u e).jD (k b)
  ·exact e
def qA(H:Hp):List (Addr×V×V)->Hp
 |[]=>H
 |q::r=>upd (qA H r) q.1 (.tup [q.2.1,q.2.2])
theorem lK{H:Hp}{b:Addr}{u:HO}(e:H b=some u):∀{r:List (Addr×V×V)},(∀q∈r,H q.1=none)->qA H r b=some u
 |[],_=>e
 |q::r,h=>by
  have c:b≠q.1:=λz=>by rw[z,h q zaM]at e;cases e
  show upd (qA H r) q.1 _ b=_;rw[bq c];exact lK e λq a=>h q (aah _ a)
theorem zK{H:Hp}:∀{r:List (Addr×V×V)},(r.map (·.1)).Nodup->∀q∈r,qA H r q.1=some (.tup [q.2.1,q.2.2])
 |[],_,_,h=>nomatch h
 |q'::r,hn,q,h=>by
  show upd (qA H r) q'.1 _ q.1=_;have a:=List.nodup_cons.mp hn;rcases List.mem_cons.mp h with rfl|h
  ·exact bc
  ·have:q.1≠q'.1:=λz=>a.1 (by show q'.1∈_;rw[<- z];exact aaX h);rw[bq this];exact zK a.2 q h
theorem vL{H:Hp}{b:Addr}{u:HO}:∀{r:List (Addr×V×V)},qA H r b=some u->H b=some u\/∃q∈r,q.1=b/\u=.tup [q.2.1,q.2.2]
 |[],e=>.inl e
 |q::r,e=>by
  replace e:upd (qA H r) q.1 (.tup [q.2.1,q.2.2]) b=some u:=e;by_cases z:b=q.1
  ·subst z;rw[bc]at e;cases e;exact .inr ⟨q,aai,rfl,rfl⟩
  ·rw[bq z]at e;rcases vL e with h|⟨q',c,a⟩
   ·exact .inl h
   ·exact .inr ⟨q',aah _ c,a⟩
def tLZ(K:ao)(ta:TA):TE:=λσ H Q=>ta σ H λvs H1=>∃a b xs ys,vs=[.ref a,.ref b]/\dD K H1 a xs/\dD K H1 b ys /\
 ∀(l:Addr) (r:List (Addr×V×V)),H1 l=none->(∀q∈r,H1 q.1=none)->(r.map (·.1)).Nodup->l∉r.map (·.1)->r.map (·.2)=xs.zip ys->Q (.ref l) (upd (qA H1 r) l (.lst (r.map λq=>V.ref q.1)))
def Ic{p:Pos}(hc:X.calm=true)(Ta:Gl X "list")(Yn:X.mg "list" = none)(hg:Gl X "zip")(E:X.mg "zip" = none)(ha:PA X [e1,e2] ta)(hs:∀es,starEach (e1::es) X.env=(false,eval e1 X.env)::starEach es X.env)(X7:∀es,starEach (e2::es) X.env=(false,eval e2 X.env)::starEach es X.env):
  PE X (.Call (.Name "list" p') [.Call (.Name "zip" p) [e1,e2] [] pos] [] pos') (tLZ X.K ta):=by
 intro pins s σ H Q I h;refine aa8 (eO I Ta Yn boot_list ?_);refine aav ?_;show wpAny _ _ (spliced ((false,eval (.Call (.Name "zip" p) [e1,e2] [] pos) X.env)::backTo pos' (starEach [] X.env))) _ _ s;refine abW ?_;refine Call_ (eO I hg E boot_zip (aav (dG (ha pos pins s σ H _ I h) λus d b4=>?_) (hs _) (by rw[X7];rfl)));obtain⟨vs,H1,m,r1,q1⟩:=b4;obtain⟨a,b,xs,ys,e,q1,q2,i⟩:=q1;subst e;obtain⟨u,v,rfl,ru,rv⟩:=vals2 r1;cases ru;cases rv;obtain⟨aS,rx,p1,hz1⟩:=m.list q1;obtain⟨g,Z,p2,Vv⟩:=m.list q2;refine call_zip_2 p1.isList p2.isList λh' z t o l1 l2 sz k=>ab5 ?_;have GP:h'.IsList a aS.toArray:=p1.isList.at λo e=>k _ o e;have yt:h'.IsList b g.toArray:=p2.isList.at λo e=>k _ o e;have cls:∀{x y:Addr} {o u:Obj},h'.get? x=some o->h'.get? y=some u->o.cls≠u.cls->x≠y:=λh1 h2 h3=>c_ h1 h2 h3;have al:@LT.lt Nat _ a d.heap.objs.size:=by obtain⟨_,e,_⟩:=p1.isList;exact aag e
 have bl:@LT.lt Nat _ b d.heap.objs.size:=by obtain⟨_,e,_⟩:=p2.isList;exact aag e
 have D:ZipApart (d.heap.objs.size+4) (d.heap.objs.size+2) (d.heap.objs.size+3) d.heap.objs.size (d.heap.objs.size+1) a b:=by
  constructor<;>first|exact aak (by left)|exact aay (by left)
 have lx:=rx.length;have ly:=Z.length;have hn:min aS.toArray.size g.toArray.size<=sizeLine:=by simp;left
 refine G6 (s:={ d with heap:=h' }) (m.ok.hd hc) D hn z t o l1 l2 GP yt λM tk O c as J L hl l gO=>?_;dsimp only at J L l ⊢;have hlen:as.length=(xs.zip ys).length:=by rw[hl,zaK];simp;left
 have keep:∀b o,d.heap.get? b=some o->M.get? b=some o:=λb o e=>by
  have:@LT.lt Nat _ b d.heap.objs.size:=aag e;exact J b o (aak (by left)) (aak (by left)) (aak (by left)) (aak (by left)) (k b o e)
 have fresh:∀c,d.heap.objs.size<=c->H1 c=none:=λc h=>m.cJ.fresh h;have hS5:h'.objs.size=d.heap.objs.size+5:=sz
 let r:List (Addr×V×V):=as.zip (xs.zip ys)
 have r1:r.map (·.1)=as:=List.map_fst_zip (by left);have r2:r.map (·.2)=xs.zip ys:=List.map_snd_zip (by left);have n:∀c∈as,@LT.lt Nat _ h'.objs.size c:=l.above;have U:∀q∈r,H1 q.1=none:=λq i=>fresh _ (by have:=n q.1 (by rw[<- r1];exact aaX i);left);have Fb:H1 h'.objs.size=none:=fresh _ (by left);have Vz:h'.objs.size∉r.map (·.1):=by rw[r1];exact λz=>absurd (n _ z) (aaz _)
 have GO:(r.map (·.1)).Nodup:=by rw[r1];exact l.nd
 have W:(as.map V.ref)=r.map λq=>V.ref q.1:=by rw[<- r1,zam];rfl
 refine⟨.ref h'.objs.size,upd (qA H1 r) h'.objs.size (.lst (r.map λq=>V.ref q.1)),?_,rfl,i _ r Fb U GO Vz r2⟩;refine Inv.Sl (s:=d) (t':=tk) m keep (λb u e=>?_) λb u e=>?_
 ·rw[bq λz=>by rw[z,Fb]at e;cases e];exact lK e U
 ·by_cases Y:b=h'.objs.size
  ·subst Y;rw[bc]at e;cases e;refine .inr ⟨by left,?_,O.toList,c,?_,by rw[Array.toArray_toList];exact L⟩
   ·rw[<- W,zaa,hlen,zaK];left
   ·rw[<- W,gO];clear gO W l hl hlen r1 n GO r r2 U Vz L J keep;induction as with
    |nil=>exact .nil
    |cons a as ih=>exact .cons rfl ih
  ·rw[bq Y]at e;rcases vL e with e|⟨q,i,rfl,rfl⟩
   ·exact .inl e
   ·have E:q.1∈as:=by rw[<- r1];exact aaX i
    refine .inr ⟨by have:=n _ E;left,?_⟩;obtain⟨j,hj⟩:=List.mem_iff_getElem?.mp i;have VB:as[j]?=some q.1/\(xs.zip ys)[j]?=some q.2:=by
     have:=List.getElem?_zip_eq_some.mp hj;exact this
    obtain⟨x,y,ex,ey,hp⟩:=l.pairs j q.1 VB.1;obtain⟨e1,e2⟩:xs[j]?=some q.2.1/\ys[j]?=some q.2.2:=List.getElem?_zip_eq_some.mp VB.2;obtain⟨u1,X5,WT⟩:=rx.get e1;obtain⟨u2,B,WS⟩:=Z.get e2;rw[List.getElem?_toArray,X5]at ex;rw[List.getElem?_toArray,B]at ey;cases ex;cases ey;exact nB WT WS hp
noncomputable def pairD(x y:D):D:=.tup [x,y]
def Sa(xs:aa):O D:=match two xs with
 |some z=>match z.1 with
  |.lst _ a=>match z.2 with
   |.lst _ b=>ok (.lst .ow (au ba (List.zipWith pairD a b)))
   |_=>none
  |_=>none
 |none=>none
def Nk{x y d:D}(h:Sa [x,y]=ok d):∃f a g b,x=.lst f a/\y=.lst g b/\d=.lst .ow (au ba (List.zipWith pairD a b)):=by
 cases x<;>first|exact nk h | (cases h;done)|skip
 cases y<;>first|exact nk h | (cases h;done)|skip
 cases h;exact⟨_,_,_,_,rfl,rfl,rfl⟩
def F6(sc:Scope)(bl:av)(e:Expr):Option (ak):=(fV e).bind λz=>(one z.2).bind λi=>if z.1=("list" : Str)/\iY sc z.1=true/\z.1∈bl then pR sc bl i else none
def F5{sc:Scope}{bl:av}{e:Expr}(h:F6 sc bl e=some args):∃p pos i,e=.Call (.Name ("list" : Str) p) [i] [] pos/\iY sc ("list" : Str)=true/\("list" : Str)∈bl/\pR sc bl i=some args:=by
 obtain⟨⟨x,as⟩,c,h⟩:=bT h;obtain⟨a,hw,h⟩:=bT h;obtain⟨d,b⟩:=gT h;obtain⟨rfl,j,g⟩:=d;obtain⟨p,pos,rfl⟩:=ck c;obtain rfl:=bV hw;exact⟨p,pos,a,rfl,j,g,b⟩
theorem vo{T:nq}{N:kA}(c:∀k k' p xs f,N k p xs f->N k' p xs f):∀{r:List (Addr×V×V)} {xs ys:ag} {a b:aa} {k1 k2 k:bt} {n1 d n:Nat},aI T N k1 n1 xs a->aI T N k2 d ys b->r.map (·.2)=xs.zip ys->(∀q∈r,T q.1 [q.2.1,q.2.2])->aI T N k n (r.map λq=>V.ref q.1) (List.zipWith pairD a b)
 |[],xs,ys,a,b,_,_,_,_,_,_,r1,r2,e,_=>by
  have l1:=r1.length;have l2:=r2.length;have l:=aaU List.length e;rw[zaK]at l;have:List.zipWith pairD a b=[]:=List.eq_nil_of_length_eq_zero (by rw[List.length_zipWith];simp at l;left);rw[this];exact .nil
 |q::r,xs,ys,a,b,k1,k2,k,n1,d,n,r1,r2,e,ht=>by
  cases r1 with
  |nil=>cases e
  |cons t t1=>cases r2 with
   |nil=>cases e
   |cons s t2 =>
    have e1:q.2=(_,_):=(aas e).1;have e2:=(aas e).2;refine .cons (.tup (ht q aai) ?_) (vo c t1 t2 e2 λq m=>ht q (aah _ m));rw[e1];have j:=Rep.jw (T':=T) (N':=N) (g:=id) (λ_ _ h=>h) c t (0::n::k);have i:=Rep.jw (T':=T) (N':=N) (g:=id) (λ_ _ h=>h) c s (1::n::k);rw[fj]at j i;exact .cons j (.cons i .nil)
theorem eh(g:Fl->Fl):∀a b:aa,au g (List.zipWith pairD a b)=List.zipWith pairD (au g a) (au g b)
 |[],_=>by cases ‹aa› <;> rfl
 |_::_,[]=>rfl
 |x::a,y::b=>by
  show aB g (pairD x y)::au g (List.zipWith pairD a b)=_;rw[eh g a b];rfl
def R_:GY F6 Sa:=by
 intro Φ n t X sc bl k L e args he F cs hs;obtain⟨p,pos,i,rfl,h1,h2,u⟩:=F5 he;obtain⟨p',pos',a,b,rfl,rfl,h3,h4⟩:=rE u;obtain⟨⟨c,d,rfl,_,_⟩,Z,O,M⟩:=oJ hs;have this:PE X (.Call (.Name ("list" : Str) p) [.Call (.Name ("zip" : Str) p') [a,b] [] pos'] [] pos) (tD X F Φ (.cI n [c,d])):=by
  refine PE.imp (Ic L.calm (L.gl h1) (L.bl _ h2) (L.gl h3) (L.bl _ h4) Z O M) λσ H Q m=>?_;obtain⟨R,τ,ρ,d',E,j,m⟩:=m;obtain⟨xs,b_,j⟩:=aH j;rw[t]at j;refine⟨R,τ,ρ,xs,E,b_,λvs H1 e1 r1=>?_⟩;obtain⟨τt,J,Y⟩:=r1;have hl:∃x y,xs=[x,y]:=by
   unfold Sa at j;cases hw:two xs with
   |none=>rw[hw]at j;exact nk j
   |some z=>exact⟨z.1,z.2,jB hw⟩
  obtain⟨x,y,rfl⟩:=hl;obtain⟨f,da,g,db,rfl,rfl,rfl⟩:=Nk j;obtain⟨v,w,rfl,W,U⟩:=Y.two;cases W with
  |lst hx ax=>cases U with
   |lst hy ay =>
    refine⟨_,_,_,_,rfl,hx.sq,hy.sq,λl r hl I hn Vz u=>m _ _ ?_ ?_⟩
    ·intro b o e;have B:=e1 b o e;rw[bq λz=>by rw[z,hl]at B;cases B];exact lK B I
    ·have s:aL H1 (upd (qA H1 r) l (.lst (r.map λq=>V.ref q.1))):=λb o e=>by
      rw[bq λz=>by rw[z,hl]at e;cases e];exact lK e I
     refine b8.oP (e1.free hl) (e1.trans s) bc ?_;rw[eh];refine vo nd.pw ((ax.gJ E J (k':=[]) (n':=0)).imp (λ_ _ h=>bg.same s h) λ_ _ _ _ h=>nd.same s h) ((ay.gJ E J (k':=[]) (n':=0)).imp (λ_ _ h=>bg.same s h) λ_ _ _ _ h=>nd.same s h) u λq m=>?_;have BN:q.1≠l:=λz=>Vz (by rw[<- z];exact aaX m);exact bg.of (by rw[bq BN];exact zK hn q m)
 exact⟨this,cP this λ_=>rfl⟩
theorem aI.Lv{T:nq}{N:kA}{k:bt}:∀(j:Nat) {n:Nat} {vs:ag} {ds:aa},aI T N k n vs ds->aI T N k (n+j) (vs.drop j) (ds.drop j)
 |0,_,_,_,h=>h
 |j+1,_,_,_,.nil=>.nil
 |j+1,n,_,_,.cons h t=>by
  rw[show n+(j+1)=n+1+j by left];exact aI.Lv j t
theorem aI.C5{T:nq}{N:kA}{k:bt}:∀(j:Nat) {n:Nat} {vs:ag} {ds:aa},aI T N k n vs ds->aI T N k n (vs.take j) (ds.take j)
 |0,_,_,_,_=>by rw[List.take_zero,List.take_zero];exact .nil
 |j+1,_,_,_,.nil=>.nil
 |j+1,n,_,_,.cons h t=>.cons h (aI.C5 j t)
noncomputable def qF{a:Type}(b:Bool)(k:Nat)(xs:List a):List a:=if b then xs.drop k else xs.take k
def Rz(K:ao)(b:Bool):V->Option Int->Option Int->Hp->VK->Prop:=λx c d H Q=>∃(a:Addr) (xs:ag) (k:Nat),x=.ref a/\dD K H a xs/\c=(if b then some (k:Int)else none)/\d=(if b then none else some (k:Int))/\∀p,H p=none->Q (.ref p) (upd H p (.lst (qF b k xs)))
def sr(b:Bool):ZJ X (Rz X.K b):=by
 intro pins s σ H x v y u B E z Q I g p l j h;obtain⟨a,xs,k,rfl,n,rfl,rfl,q⟩:=h;cases g;obtain⟨c,r,t,d⟩:=I.list n;have hl:=dU t;have hlen:c.length=xs.length:=r.length.symm;refine⟨"list",_,slot_list_getitem.lookup,hl.typeIs,abY hl p l j .none (by simp) ?_ (by rw[zad,hlen];exact d)⟩;have e:slicePick c.toArray (if b then some (k:Int)else none) (if b then none else some (k:Int)) none=(qF b k c).toArray:=by
  cases b with
  |true=>exact slicePick_from' c.toArray k
  |false=>exact slicePick_upto' c.toArray k
 have i:Vals (qF b k xs) (qF b k c):=by
  cases b with
  |true=>exact r.drop k
  |false=>exact r.take k
 have m:(qF b k xs).length<=xs.length:=by
  cases b with
  |true=>show(xs.drop k).length<=_;rw[List.length_drop];left
  |false=>show(xs.take k).length<=_;rw[zaL];left
 rw[e];exact⟨.ref s.heap.objs.size,_,I.II (t':=s.toks) i (aaS m d),rfl,q _ I.fresh⟩
def cutD(b:Bool)(xs:aa):O D:=match two xs with
 |some z=>match z.1 with
  |.lst _ ds=>match z.2 with
   |.int k=>if 0<=k then ok (.lst .ow (au ba (qF b k.toNat ds)))else none
   |_=>none
  |_=>none
 |none=>none
set_option tactic.hygienic true in
def JX{b:Bool}{x y d:D}(h:cutD b [x,y]=ok d):∃(f:Fl) (ds:aa) (k:Nat),x=.lst f ds/\y=.int k/\d=.lst .ow (au ba (qF b k ds)):=by
 cases x<;>first|exact nk h | (cases h;done) | (cases y<;>first|exact nk h | (cases h;done)|skip)
 obtain⟨c,a⟩:=uE h;rename_i f ds k;exact⟨f,ds,k.toNat,rfl,by rw[Int.toNat_of_nonneg c],a.symm⟩
noncomputable def QM(b:Bool)(e:Expr):Option Expr:=match e with
 |.Slice a c st _=>match st with
  |none=>match b with
   |true=>match c with
    |none=>a
    |some _=>none
   |false=>match a with
    |none=>c
    |some _=>none
  |some _=>none
 |_=>none
set_option tactic.hygienic true in
def He{b:Bool}{e k:Expr}(h:QM b e=some k):∃p,e=.Slice (if b then some k else none) (if b then none else some k) none p:=by
 cases e<;>first|exact nk h | (cases h;done)|skip
 rename_i a c st p;cases st with
 |some _=>cases h
 |none=>cases b with
  |true=>cases c with
   |some _=>cases h
   |none=>cases h;exact⟨p,rfl⟩
  |false=>cases a with
   |some _=>cases h
   |none=>cases h;exact⟨p,rfl⟩
def pU(b:Bool)(_:Scope)(_:av)(e:Expr):Option (ak):=(xu e).bind λz=>(QM b z.2).bind λk=>some [z.1,k]
def rG{b:Bool}{sc:Scope}{bl:av}{e:Expr}(h:pU b sc bl e=some args):∃a k p pos,e=.Subscript a (.Slice (if b then some k else none) (if b then none else some k) none p) pos/\args=[a,k]:=by
 obtain⟨⟨a,s⟩,c,h⟩:=bT h;obtain⟨k,hw,h⟩:=bT h;cases h;obtain⟨pos,rfl⟩:=lA c;obtain⟨p,rfl⟩:=He hw;exact⟨a,k,p,pos,rfl,rfl⟩
def O_{b:Bool}:GY (pU b) (cutD b):=by
 intro Φ n J X sc bl k L e args he F cs s;obtain⟨a,m,p,pos,rfl,rfl⟩:=rG he;cases cs with
 |nil=>exact s.elim
 |cons c cs=>cases cs with
  |nil=>exact s.2.2.2.elim
  |cons c' cs=>cases cs with
   |cons _ _=>exact s.2.2.2.2.2.2.elim
   |nil =>
    obtain⟨h1,_,_,h2,_,_,_⟩:=s;have this:PE X (.Subscript a (.Slice (if b then some m else none) (if b then none else some m) none p) pos) (tD X F Φ (.cI n [c,c'])):=by
     have go:∀{z B:TO},PO X (if b then some m else none) z->PO X (if b then none else some m) B->(∀(H1:Hp) (R:ai) (τ:Addr->Option bt) (ρ:a_) (k:Nat) (σ:St) (Q:Option Int->Option Int->Hp->Prop),SI X F R τ ρ σ H1->bp Φ c' ρ=ok (.int k)->(∀H2,aL H1 H2->Q (if b then some (k:Int)else none) (if b then none else some (k:Int)) H2)->z σ H1 λl H2=>B σ H2 λu Y=>Q l u Y)->PE X (.Subscript a (.Slice (if b then some m else none) (if b then none else some m) none p) pos) (tD X F Φ (.cI n [c,c'])):=by
      intro z B pl pu hh;refine PE.imp (vA (sr b) h1 pl pu) λσ H Q M=>?_;obtain⟨R,τ,ρ,d,g,t,M⟩:=M;obtain⟨xs,r,t⟩:=aH t;obtain⟨x,ex,r⟩:=aH r;obtain⟨ys,I,r⟩:=aH r;cases r;obtain⟨y,ey,I⟩:=aH I;cases I;rw[J]at t;obtain⟨f,ds,j,rfl,rfl,rfl⟩:=JX t;refine tD.intro g ex λv H1 e1 r1=>hh H1 R τ ρ j σ (λl u Y=>Rz X.K b v l u Y Q) (g.go e1) ey λH2 e2=>?_;have r2:=(r1.go e2).mono (fv':=gE (.cI n [c,c'])) λi hi=>aaB _ hi;obtain⟨τt,fr,rp⟩:=r2;obtain⟨q,xs,rfl,hn,Z⟩:=rp.mU;have W:=e1.trans e2;refine⟨q,xs,j,rfl,hn.sq,rfl,rfl,λl hl=>M _ _ (W.trans (aL.upd hl)) (b8.oP (W.free hl) (W.trans (aL.upd hl)) bc ?_)⟩;have E:∃n',aI (bg X.K H2) (nd X.K R (kZ (gP X F) τ (gE (.cI n [c,c']))) τt H2) [] n' (qF b j xs) (qF b j ds):=by
       cases b with
       |true=>exact⟨_,Z.Lv j⟩
       |false=>exact⟨_,Z.C5 j⟩
      obtain⟨n',E⟩:=E;exact(E.gJ g fr).imp (λ_ _ h=>bg.same (aL.upd hl) h) λ_ _ _ _ h=>nd.same (aL.upd hl) h
     cases b with
     |true =>
      refine go (sJ h2) sL λH1 R τ ρ k σ Q g U O=>tD.intro g U λv H2 e2 r2=>?_;cases r2.isInt;exact⟨k,rfl,O H2 e2⟩
     |false =>
      refine go sL (sJ h2) λH1 R τ ρ k σ Q g U O=>tD.intro g U λv H2 e2 r2=>?_;cases r2.isInt;exact⟨k,rfl,O H2 e2⟩
    exact⟨this,cP this λ_=>by cases b<;>rfl⟩
section
open PySem.SeqAt
open PySem.AutoSeq1 (wpAny_loadPart')
open PySem.MeetsSeq PySem.MeetsSeq2 PySem.MeetsSeq3
def DL(A:aN)(s:Shared)(a:Int)(t:Tok)(c:Int)(u:Tok)(prog:aM)(w:World)(E:aG)(Q:aG)(h:Q (.bool (decide (a ≥ c))) s):wpAny (model prog w) A (richCompare .GtE (.int a t) (.int c u)) Q E s :=
 (PyProof.Rows.ge_int h:wpAny (model prog w) A (compareOp .GtE (.int a t) (.int c u)) Q E s)
def IJ{vs ws:az}{b:ae}{m n:Nat}(e:IntsAre vs ns)(d:IntsAre ws b)(hz:vs.zip ws=[])(hl:ns.length+n=b.length+m):(!HT.lexLt ns b)=decide (m ≥ n):=by
 cases e with
 |nil=>cases d with
  |nil=>simp only[zaD]at hl;exact(aaT (by left)).symm
  |cons c u h=>simp only[zaD,zae]at hl;exact(abl (by left)).symm
 |cons a t h=>cases d with
  |nil=>simp only[zaD,zae]at hl;exact(aaT (by left)).symm
  |cons c u h=>rw[zbb]at hz;cases hz
def qp(l b:Addr)(items p:aY)(n n2:Nat)(dd Y:Option Addr)(sl Z:Array (Option Value))(ns B:ae)(U:IntsAre items.toList ns)(O:IntsAre p.toList B):
  Meets (Builtin.«tuple.__ge__» ⟨[.ref l,.ref b],[]⟩) (λ_ R s=>s.heap.get? l=some { cls:=.type "tuple",dict:=dd,data:=.seq items n,slots:=sl }/\s.heap.get? b=some { cls:=.type "tuple",dict:=Y,data:=.seq p n2,slots:=Z }/\R (.ok (.ret (.bool (!HT.lexLt ns B)))) s) :=
 .of_wp λprog w A R s h=>by
  obtain⟨E,g,d,v,z⟩:=s;obtain⟨hl,hb,h⟩:=h;have f2:=AutoSeq1.sub_tuple_tuple;have z1:items.size=ns.length:=by rw[<- U.length];simp
  have z2:p.size=B.length:=by rw[<- O.length];simp
  wp_walk using wpAny_loadPart' hl,wpAny_loadPart' hb,wpAny_forIn_list _ (λrest b I=>b.1=none/\I=⟨E,g,d,v,z⟩/\∃(vs ws:az) (j r:ae),rest=vs.zip ws/\IntsAre vs j/\IntsAre ws r/\j.length+p.size=r.length+items.size/\R (.ok (.ret (.bool (!HT.lexLt j r)))) ⟨E,g,d,v,z⟩) _
  case turn =>
   rintro ⟨y,x⟩ rest b I ⟨J,rfl,vs,ws,j,r,i,L,M,hlen,hR⟩;cases L with
   |nil=>rw[List.zip_nil_left]at i;cases i
   |cons a t m=>cases M with
    |nil=>rw[List.zip_nil_right]at i;cases i
    |cons c u k =>
     rw[zbb]at i;injection i with XT EY
     injection XT with hy hx
     subst hy hx;rw[HT.d7]at hR;simp only[zae]at hlen;obtain⟨e,he,W⟩:=HT.wg A.in1 ⟨E,g,d,v,z⟩ a t c u;refine aaa (he prog w _ _ ?_);cases e with
     |true =>
      rw[zac (W.mp rfl)]at hR
      wp_walk
      exact⟨rfl,rfl,_,_,_,_,EY,m,k,by left,hR⟩
     |false =>
      have qh:¬ a=c:=λq=>absurd (W.mpr q) aac;rw[zab qh,show(!decide (a<c))=decide (a ≥ c) by by_cases q:a<c<;>simp[q]<;>left]at hR;have X9:=DL A.in1 ⟨E,g,d,v,z⟩ a t c u prog w
      wp_walk using X9
      exact⟨_,rfl,by simpa using hR⟩
  case fin =>
   rintro ⟨b1,b2⟩ I ⟨J,rfl,vs,ws,j,r,i,L,M,hlen,hR⟩;simp only at J;subst J;rw[IJ L M i.symm hlen]at hR
   wp_walk
   exact⟨_,rfl,by simpa [Builtin.Tuple.tupleCompareSizes]using hR⟩
  case h=>exact⟨rfl,rfl,items.toList,p.toList,ns,B,rfl,U,O,by left,h⟩
end
def Ry(K:ao):R2:=λx y H Q=>∃a b ns c,x=.ref a/\y=.ref b/\bg K H a (ns.map V.int)/\bg K H b (c.map V.int)/\Q (.bl (!HT.lexLt ns c)) H
def Ed(E:X.A.units<cLine):mT X (compareOp .GtE) (Ry X.K):=by
 intro pins s σ H x y v u Q I t r h;obtain⟨a,b,ns,e,rfl,rfl,L,J,q⟩:=h;cases t;cases r;obtain⟨U,r1,⟨⟨O,M,data,p⟩,i,k,n,j⟩,_⟩:=I.tuple L;obtain⟨B,r2,⟨⟨W,l,data2,m⟩,g,d,z,c⟩,_⟩:=I.tuple J;simp only at k j d c;subst k j d c;exact richCompare_meets_room (op:=.GtE) ⟨_,i,rfl⟩ ⟨_,g,rfl⟩ PySem.F.slot_tuple_ge PySem.F.entry_tuple_ge (PySem.F.args_tuple_ge_2 _ _) (qp a b U.toArray B.toArray n z M l p m ns e (intsAre_of r1) (intsAre_of r2))
  ⟨i,g,show Value.bool (!HT.lexLt ns e)≠Value.notImplemented/\EP X pins σ Q (.bool (!HT.lexLt ns e)) s from⟨(λx=>nomatch x),⟨.bl _,H,I,rfl,q⟩⟩⟩ E
def Qd(xs:aa):O D:=match two xs with
 |some z=>match z.1 with
  |.tup a=>match z.2 with
   |.tup b=>match intsOf a with
    |some ns=>match intsOf b with
     |some c=>ok (.bl (!HT.lexLt ns c))
     |none=>none
    |none=>none
   |_=>none
  |_=>none
 |none=>none
set_option tactic.hygienic true in
def N_{x y d:D}(h:Qd [x,y]=ok d):∃ns c:ae,x=.tup (ns.map D.int)/\y=.tup (c.map D.int)/\d=.bl (!HT.lexLt ns c):=by
 cases x<;>first|exact nk h | (cases h;done) | (cases y<;>first|exact nk h | (cases h;done)|skip)
 rename_i a b;have h:(match intsOf a with|some ns=>(match intsOf b with|some c=>ok (D.bl (!HT.lexLt ns c))|none=>none)|none=>none)=ok d:=h;cases e:intsOf a with
 |none=>rw[e]at h;exact nk h
 |some ns=>cases g:intsOf b with
  |none=>rw[e,g]at h;cases h
  |some c =>
   rw[e,g]at h;cases h;exact⟨ns,c,by rw[eQ e],by rw[eQ g],rfl⟩
def F_(_:Scope)(_:av)(e:Expr):Option (ak):=(CQ e).bind λz=>(one z.2.2).bind λr=>if z.2.1=[.GtE]then some [z.1,r]else none
def F9{sc:Scope}{bl:av}{e:Expr}(h:F_ sc bl e=some args):∃l r p,e=.Compare l [.GtE] [r] p/\args=[l,r]:=by
 obtain⟨⟨l,d,c⟩,a,h⟩:=bT h;obtain⟨r,hw,h⟩:=bT h;obtain⟨b,h⟩:=gT h;cases h;obtain rfl:=b;obtain⟨p,rfl⟩:=r6 a;obtain rfl:=bV hw;exact⟨l,r,p,rfl,rfl⟩
def T6:GY F_ Qd:=by
 intro Φ n s X Z bl k L e args M F cs m;obtain⟨l,r,p,rfl,rfl⟩:=F9 M;have t:X.A.units<cLine:=by have:=L.room.units;left
 cases cs with
 |nil=>exact m.elim
 |cons c cs=>cases cs with
  |nil=>exact m.2.2.2.elim
  |cons c' cs=>cases cs with
   |cons _ _=>exact m.2.2.2.2.2.2.elim
   |nil =>
    obtain⟨B,_,_,z,_,_,_⟩:=m;have i:∀{σ:St} {H:Hp} {R:ai} {τ:Addr->Option bt} {ρ:a_} {d:D} {Q:VK},SI X F R τ ρ σ H->bp Φ (.cI n [c,c']) ρ=ok d->(∀b H2,d=.bl b->aL H H2->Q (.bl b) H2)->Ku (Ry X.K) (tD X F Φ c) (tD X F Φ c') σ H Q:=by
     intro σ H R τ ρ d Q h g a;obtain⟨xs,j,g⟩:=aH g;obtain⟨x,U,j⟩:=aH j;obtain⟨ys,q,j⟩:=aH j;cases j;obtain⟨y,O,q⟩:=aH q;cases q;rw[s]at g;obtain⟨ns,J,rfl,rfl,rfl⟩:=N_ g;refine tD.intro h U λv H1 e1 r1=>tD.intro (h.go e1) O λu H2 e2 r2=>?_;obtain⟨_,_,p1⟩:=r1.go e2;obtain⟨_,_,p2⟩:=r2;cases p1 with
     |tup t1 I=>cases p2 with
      |tup t2 E =>
       cases I.ofInts;cases E.ofInts;exact⟨_,_,ns,J,rfl,rfl,t1,t2,a _ H2 rfl (e1.trans e2)⟩
    refine⟨PE.imp (sQ (Ed t) B z (El _)) λσ H Q a=>?_,PT.imp (sG (Ed t) B z (El _)) λσ H Q a=>?_⟩
    ·obtain⟨R,τ,ρ,d,h,g,a⟩:=a;exact i h g λb H2 e es=>a _ H2 es (by subst e;exact .bl)
    ·obtain⟨R,τ,ρ,b,h,g,a⟩:=a;obtain⟨d,Y,W⟩:=aH g;refine i h Y λb' H2 e es=>?_;subst e;cases W;exact⟨_,rfl,a H2 es⟩
section
variable {prog:aM}{w:World}{A:aN}{E:aG}{s:Shared}
theorem vK{fin:Bool}{Q:Bool->Shared->Prop}:∀{d g:az} {ns c:ae} (i:Nat),IntsAre d ns->IntsAre g c->fin=decide (d.length<g.length)->Q (HT.lexLt ns c) s->PySem.W.KatLex prog w A true fin Q (d.zip g) i s
 |_,_,_,_,i,.nil,.nil,hf,h=>by subst hf;exact h
 |_,_,_,_,i,.nil,.cons _ _ _,hf,h=>by subst hf;exact h
 |_,_,_,_,i,.cons _ _ _,.nil,hf,h=>by subst hf;exact h
 |_,_,_,_,i,.cons (ns:=ns) a t h1,.cons (ns:=c) b u h2,hf,h=>by
  rw[HT.d7]at h;refine PySem.W.kat_cons (wpAny_eqBool_int (PySem.W.kat_go (λe=>?_) λe=>?_))
  ·have e:a=b:=by simpa using e
   rw[zac e]at h;exact PySem.W.kat_yes (vK (i+1) h1 h2 (by rw[hf];simp) h)
  ·have e:¬ a=b:=by simpa using e
   rw[zab e]at h;refine PySem.W.kat_no ?_;rw[zbn];cases i==0 with
   |true=>exact oneLt_int h
   |false=>exact PySem.W.kat_one _ _ (lt_int h)
end
noncomputable def hJ(ns:ae):D:=.tup (ns.map D.int)
theorem aI.UP{T:nq}{N:kA}{q:bt}:∀{n:Nat} {vs ws:ag} {ds es:aa},aI T N q n vs ds->aI T N q (n+ds.length) ws es->aI T N q n (vs++ws) (ds++es)
 |_,_,_,_,_,.nil,h=>h
 |n,_,_,_,_,.cons (ds:=ds) h t,h'=>.cons h (aI.UP t (by
   rw[zae,zbg ds.length 1,<- Nat.add_assoc]at h';exact h'))
def Hu{p a:Addr}{ys:ag}{o:HO}(b:H p=some (.lst xs))(h:bg K H a ys):bg K (upd H p o) a ys:=by
 rcases h with (h|⟨c,h⟩)|h
 ·exact .inl (.inl (by rw[bq (λz=>by subst z;rw[b]at h;cases h)];exact h))
 ·exact .inl (.inr ⟨c,by rw[bq (λz=>by subst z;rw[b]at h;cases h)];exact h⟩)
 ·exact .inr h
set_option tactic.hygienic true in
def zD{n i:Nat}{xs:aa}{r:Fo×a_}(a:yb Φ n i (o3 cs xs ρ)=ok r)(c:aV bR xs=false):∃d d',ρ[i]?=some (some d)/\Φ n (d::xs)=ok d'/\r=(.nx,ρ.set i (some d')):=by
 unfold o3 at a;rw[zab (by rw[c];exact zaj)]at a;unfold yb at a;split at a
 ·rename_i d b;obtain⟨d',g,e⟩:=aH a;cases e;exact⟨d,d',b,g,rfl⟩
 ·cases a
set_option tactic.hygienic true in
def Et{n i:Nat}{xs:aa}{r:Fo×a_}(a:yb Φ n i (o3 cs xs ρ)=ok r)(b:aV bR xs=true):∃d d',Φ n (d::au aD xs)=ok d':=by
 unfold o3 at a;rw[zac b]at a;unfold yb at a;split at a
 ·rename_i d e;obtain⟨d',c,g⟩:=aH a;exact⟨d,d',c⟩
 ·cases a
def M3:D->Option (aa)
 |.lst f ds=>if cQ f then some ds else none
 |_=>none
set_option tactic.hygienic true in
def D_{d:D}(h:M3 d=some ds):d=.lst .ow ds:=by
 cases d<;>first|exact nk h | (cases h;done)|skip
 rename_i f es;have h:(if cQ f then some es else none)=some ds:=h;cases f<;>first | (cases h;rfl) | (cases h;done)
def FG(xs:aa):O D:=match two xs with
 |some z=>match M3 z.1 with
  |some ds=>match M3 z.2 with
   |some es=>if aV anyF es=false/\ds.length+es.length<=eB then ok (.lst .ow (ds++es))else none
   |none=>none
  |none=>none
 |none=>none
def z_{x y d:D}(h:FG [x,y]=ok d):∃ds es,x=.lst .ow ds/\y=.lst .ow es/\aV anyF es=false/\ds.length+es.length<=eB/\d=.lst .ow (ds++es):=by
 have h:(match M3 x with|some ds=>(match M3 y with|some es=>if aV anyF es=false/\ds.length+es.length<=eB then ok (.lst .ow (ds++es))else none|none=>none)|none=>none)=ok d:=h;cases a:M3 x with
 |none=>rw[a]at h;exact nk h
 |some ds=>cases b:M3 y with
  |none=>rw[a,b]at h;cases h
  |some es =>
   rw[a,b]at h;obtain⟨⟨g,e⟩,c⟩:=uE h;exact⟨ds,es,D_ a,D_ b,g,e,c.symm⟩
def za(m:Str)(st:Stmt):Option (Expr×ak):=(U2 st).bind λc=>(xw c).bind λz=>(CU z.1).bind λy=>if y.2.1=m/\z.2.2.1.isEmpty=true/\(y.2.2.endLine==z.2.2.2.line)=true then some (y.1,z.2.1)else none
def oo{m:Str}{as:ak}(h:za m st=some (o,as)):∃p1 p2 pos,st=.Expr (.Call (.Attribute o m p1) as [] p2) pos/\(p1.endLine==p2.line)=true:=by
 obtain⟨c,g,h⟩:=bT h;obtain⟨⟨f,k,j,p2⟩,e,h⟩:=bT h;obtain⟨⟨i,a,p1⟩,d,h⟩:=bT h;obtain⟨b,h⟩:=gT h;cases h;obtain⟨pos,rfl⟩:=oq g;obtain rfl:=qN e;obtain rfl:=uO d;obtain rfl:=RX b.2.1;obtain rfl:=b.1;exact⟨p1,p2,pos,rfl,b.2.2⟩
def Ga(_:Scope)(_:av)(st:Stmt):Option (Expr×ak):=(za ("extend" : Str) st).bind λz=>(one z.2).bind λ_=>some z
set_option tactic.hygienic true in
def OI{n:Nat}(e:Φ n=FG){sc:Scope}{bl:av}{k:Nat}(L:PX X sc bl k)(hN:X.N.Nodup)(xg:∀x,X.fn x=true){x:Str}(he:Ga sc bl st=some (.Name x pos,args))
  {i:Nat} (hi:X.N[i]?=some x) (hl:L2.Loc X.env.scope x) (pe:PE X (.Name x pos) (mY i)) (hs:ql X F Φ cs args):PS X st (qr X F Φ (.mut n i cs)):=by
 obtain⟨⟨o,as⟩,h1,he⟩:=bT he;obtain⟨v,h2,he⟩:=bT he;cases he;obtain rfl:=bV h2;obtain⟨p1,p2,pos',rfl,Fb⟩:=oo h1;cases cs with
 |nil=>exact hs.elim
 |cons c cs=>cases cs with
  |cons _ _=>exact hs.2.2.2.elim
  |nil =>
   refine PS.imp (nI (D8 ab4 PySem.F.slot_list_extend PySem.F.type_list_extend Bs pe (cE hs.1 eE (hs.2.1 _)) (hfew:=by rw[hs.2.1];rfl) (hline:=Fb) (hs:=hs.2.1 _))) λD σ H I=>?_;obtain⟨R,τ,ρ,r,O,p,I⟩:=I;obtain⟨xs,M,p⟩:=aH p;obtain⟨y,ey,M⟩:=aH M;cases M;have z:∃ds es,y=.lst .ow es/\ρ[i]?=some (some (.lst .ow ds))/\aV anyF es=false/\ds.length+es.length<=eB/\r=(.nx,ρ.set i (some (.lst .ow (ds++es)))):=by
    cases B:aV bR [y]with
    |true =>
     obtain⟨d,d',h⟩:=Et p B;rw[e]at h;obtain⟨ds,es,_,j,_⟩:=z_ h;cases y<;>first|exact nk j | (cases j;done)|skip
     rename_i f Qf;cases f<;>cases j
    |false =>
     obtain⟨d,d',h,h',rfl⟩:=zD p B;rw[e]at h';obtain⟨ds,es,rfl,rfl,j,h4,rfl⟩:=z_ h';exact⟨ds,es,rfl,h,j,h4,rfl⟩
   obtain⟨ds,es,rfl,J,hf,hc,rfl⟩:=z;obtain⟨a,xs,E,ha,hxl,hta,_⟩:=O.own J;refine⟨.ref a,E,⟨rfl,_,dD.of ha⟩,tD.intro O ey λu H1 e1 ru=>?_⟩;have t:=O.go e1;obtain⟨a1,Wa,Y,q,XX,Z,MN⟩:=t.own J;rw[E]at Y;cases Y;obtain⟨τt,fr,rp⟩:=ru;obtain⟨b,U,rfl,hb,W⟩:=rp.mU;have B:sizeLine=16777216:=abn;have o9:eB=1000000:=rfl;have hzl:=W.length;refine⟨a,b,Wa,U,rfl,rfl,q,hb.1,by left,?_⟩;obtain⟨s,Cd⟩:=t.put (m:=0) (g:=λys=>ys++U) (v:=.int 0) (d:=.int 0) J E q Z MN ⟨λ_=>none,λ_ _ h=>by simp at h,.int 0⟩ λrs _=>aI.UP rs (W.without (P:=anyF) (λ_ _ h=>Hu q h) (λ_ _ _ _ _ h=>by cases h) hf _ _);exact I σ _ R s Cd (yj (n:=.l _) t e1 (λ_ h=>h) q Z)
def ZN(K:ao)(a:Addr):It :=
  ⟨λi H=>∃xs x,dD K H a xs/\xs[i]?=some x,
   λi H v H'=>∃T x,(∀xs,dD K H a xs->xs[i]?=some x)/\H T=none/\v=.ref T/\H'=upd H T (.tup [.int i,x]),
   λi H=>∃xs,dD K H a xs/\xs.length<=i⟩
def AU{B:Pos}{a e it:Addr}(t:e≠it):
  Turn P w K (.Tuple elts n1 B) (ZN K a) [e,it] e (λi h=>(∃old,IsEnum h e it (i:Int) old)/\h.IsListIter it a i):=by
 refine⟨by simp,λi h st c b=>?_,λi h h' st k=>?_,?_,?_,λA i s Q E st Z=>?_⟩
 ·obtain⟨⟨old,d⟩,⟨L,e1,_,d1⟩⟩:=st;simp only[zak,zai,or_false]at b;rcases b with rfl|rfl
  ·exact⟨_,d,λv q=>by cases q⟩
  ·exact⟨L,e1,λv q=>by rw[d1]at q;cases q⟩
 ·obtain⟨⟨old,d⟩,l1⟩:=st;exact⟨⟨old,k e (by simp) _ d⟩,l1.at λo z=>k it (by simp) o z⟩
 ·intro X m hw n b i pins s σ H E I g st l;subst m hw n;obtain⟨xs,x,q1,y⟩:=l;obtain⟨⟨old,d⟩,l1⟩:=st;obtain⟨aS,rv,p,_⟩:=I.list q1;obtain⟨u,U,J⟩:=rv.get y;refine wpAny_pyNext_enum_item d l1 p.isList (x:=u) (by simpa using U) t λh1 e1 a1 t1 PD k1=>⟨_,rfl,?_⟩
  refine wpAny_letOwnedTupleGo_enum e1 λr e2 j=>?_;have Zf:s.heap.objs.size≠e:=aay (aag d);have M:∀c o,c∉[e,it]->s.heap.get? c=some o->r.get? c=some o:=λc o b z=>by
   simp only[zak,zai,or_false,not_or]at b;exact j.extBut c o b.1 (k1 c o b.1 b.2 z)
  have Y:r.get? s.heap.objs.size=some { cls:=.type "tuple",data:=.seq #[.int i s.toks,u] }:=j.extBut _ _ Zf t1;have W:H s.heap.objs.size=none:=I.cJ.fresh (aaj _);have ci:((i+1:Nat):Int)=(i:Int)+1:=by push_cast;rfl
  refine⟨.ref s.heap.objs.size,upd H s.heap.objs.size (.tup [.int i,x]),r_ (s:=s) (h':=r) (t':=s.toks+1) I g M (aaj _) (nB ⟨_,rfl⟩ J Y),rfl,⟨_,x,λzs O=>by rw[I.jH O q1];exact y,W,rfl,rfl⟩,⟨⟨u,by rw[ci];exact e2⟩,a1.extBut j.extBut t.symm⟩,λc b=>?_⟩;rw[bq]
  ·exact(g c b).1
  ·intro z;subst z;simp only[zak,zai,or_false]at b;rcases b with z|z
   ·exact absurd (aag d) (by rw[<- z];exact aaz _)
   ·obtain⟨_,w,_⟩:=l1;exact absurd (aag w) (by rw[<- z];exact aaz _)
 ·intro X m hw n b i pins s σ H E I g st l;subst m hw n;obtain⟨xs,q1,hl⟩:=l;obtain⟨⟨old,d⟩,l1⟩:=st;obtain⟨aS,rv,p,_⟩:=I.list q1;have e1:=rv.length;refine wpAny_pyNext_enum_end (I.ok.hd b) d l1 p.isList (by simp;left) λh1 k1=>⟨rfl,r9 (t':=s.toks) I g λc o b z=>?_⟩
  simp only[zak,zai,or_false,not_or]at b;exact k1 c o b.2 z
 ·obtain⟨⟨old,d⟩,_⟩:=st;exact ab6 d Z
def rH:bootBuiltins "enumerate" = some (.type "enumerate"):=by decide +kernel
def Ia{j p:Pos}(n:Gl X "enumerate")(m:X.mg "enumerate" = none)(r:PA X [e1] ta)(hs:∀es,starEach (e1::es) X.env=(false,eval e1 X.env)::starEach es X.env):
  PI X (.Tuple elts n1 j) (.Call (.Name "enumerate" p) [e1] [] pos) (λσ H R=>ta σ H λvs H1=>∃a,vs=[.ref a]/\(∃xs,dD X.K H1 a xs)/\R (ZN X.K a) H1):=by
 intro pins s σ H R I h;refine Call_ (eO I n m rH (aav (dG (r pos pins s σ H _ I h) λv c t=>?_) (hs _) rfl));obtain⟨vs,H1,d,r1,q1⟩:=t;obtain⟨a,e,⟨xs,q1⟩,q⟩:=q1;subst e;obtain⟨u,rfl,l⟩:=vals1 r1;cases l;obtain⟨x,_,p1,_⟩:=d.list q1;refine call_enumerate_list p1.isList λh' z l1 sz k=>ab6 z ?_;refine⟨c.heap.objs.size+1,[c.heap.objs.size+1,c.heap.objs.size],_,_,H1,rfl,d.kept (t':=c.toks) k,AU (acB _),⟨⟨_,z⟩,l1⟩,λb i=>?_,q⟩;have g:c.heap.objs.size<=b:=by
  simp only[zak,zai,or_false]at i;rcases i with rfl|rfl<;>first|exact acD .. |exact aaj _
 exact d.yA g (d.cJ.fresh g)
noncomputable def b9(k:Nat):aa->aa
 |[]=>[]
 |x::xs=>.tup [.int k,x]::b9 (k+1) xs
theorem gc:∀(a:aa) (k i:Nat),(b9 k a)[i]?=(a[i]?).map λx=>.tup [.int ((k+i:Nat):Int),x]
 |[],k,i=>by simp[b9]
 |x::xs,k,0=>by simp[b9]
 |x::xs,k,i+1=>by
  rw[b9,List.getElem?_cons_succ,List.getElem?_cons_succ,gc xs (k+1) i,show k+1+i=k+(i+1) by left]
theorem i6:∀(a:aa) (k:Nat),(b9 k a).length=a.length
 |[],k=>rfl
 |x::xs,k=>by rw[b9,zae,zae,i6 xs]
def Ih{a:Expr}(h:ql X F Φ cs [a]):PA X [a] (uC X F Φ cs)/\(∀es,starEach (a::es) X.env=(false,eval a X.env)::starEach es X.env):=by
 match cs,h with
 |[c],h =>
  obtain⟨d,b,_,_⟩:=h;exact⟨PA.imp (cE d (PA.imp eE λ_ _ _ h=>j0 h) (b _)) λ_ _ _ h=>gq h,b⟩
 |[],h=>exact h.elim
 |_::_::_,h=>exact h.2.2.2.elim
def Cz{p:Addr}{a:aa}:Ki K (ZN K p) H2 [.ref p] [.lst f a] (au aD (b9 0 a)):=by
 have len:(au aD (b9 0 a)).length=a.length:=by rw[aE,zaa,i6]
 have two:∀{H':Hp} {R':ai},aI (bg K H') (nd K R' (λ_=>False) (λ_=>none) H') [] 0 [.ref p] (au aD [.lst f a]) ->
   ∃xs,dD K H' p xs/\aI (bg K H') (nd K R' (λ_=>False) (λ_=>none) H') [0] 0 xs (au aD a):=by
  intro H' R' h;rw[au,aB,au]at h;cases h with
  |cons h t=>cases h with
   |lst h r=>exact⟨_,h.sq,r⟩
 refine⟨λi H' R' _ h c=>?_,λi H' R' x j _ h c d=>?_,λi H' R' _ h c=>?_⟩
 ·obtain⟨xs,b,r1⟩:=two h;rw[len]at c;have l1:=r1.length;rw[aE,zaa]at l1;exact⟨xs,xs[i]'(by left),b,aao _⟩
 ·obtain⟨xs,b,r1⟩:=two h;obtain⟨T,u,g,e,rfl,rfl⟩:=d;obtain⟨d1,e1,p1⟩:=r1.yy (g xs b);have es:aL H' (upd H' T (.tup [.int i,u])):=aL.upd e;refine⟨es,.tup [.int i,d1],?_,.tup (bg.of bc) (.cons (.int _) (.cons (p1.U5 es) .nil))⟩;rw[aE,List.getElem?_map]at e1 ⊢;obtain⟨c1,q1,rfl⟩:=Option.map_eq_some_iff.mp e1;rw[gc,q1];simp[aB,au]
 ·obtain⟨xs,b,r1⟩:=two h;rw[len]at c;have l1:=r1.length;rw[aE,zaa]at l1;exact⟨xs,b,by left⟩
noncomputable def lq(n:Int):ae:=(List.range n.toNat).map λ(k:Nat)=>(k:Int)
def Sd(xs:aa):O D:=match one xs with
 |some x=>match x with
  |.int n=>if n<=eB /\ -eB<=n then ok (.lst .ow ((lq n).map D.int))else none
  |_=>none
 |none=>none
set_option tactic.hygienic true in
def Nm{xs:aa}{d:D}(h:Sd xs=ok d):∃n:Int,xs=[.int n]/\n<=eB /\ -eB<=n/\d=.lst .ow ((lq n).map D.int):=by
 unfold Sd at h;cases hw:one xs with
 |none=>rw[hw]at h;exact nk h
 |some x =>
  obtain rfl:=bV hw;rw[hw]at h;cases x<;>first|exact nk h | (cases h;done)|skip
  rename_i n;obtain⟨⟨c,b⟩,a⟩:=uE h;exact⟨n,rfl,c,b,a.symm⟩
def Ao(sc:Scope)(bl:av)(e:Expr):Option (ak):=match fV e with
 |some z=>match one z.2 with
  |some i=>if z.1=("list" : Str)/\iY sc z.1=true/\z.1∈bl then i7 ("range" : Str) sc bl i else none
  |none=>none
 |none=>none
def F7{sc:Scope}{bl:av}{e:Expr}(h:Ao sc bl e=some args):∃p pos i,e=.Call (.Name ("list" : Str) p) [i] [] pos/\iY sc ("list" : Str)=true/\("list" : Str)∈bl/\i7 ("range" : Str) sc bl i=some args:=by
 unfold Ao at h;cases d:fV e with
 |none=>rw[d]at h;exact nk h
 |some z =>
  obtain⟨x,as⟩:=z;rw[d]at h;obtain⟨p,pos,rfl⟩:=ck d;have b:(match one as with|some i=>if x=("list" : Str)/\iY sc x=true/\x∈bl then i7 ("range" : Str) sc bl i else none|none=>none)=some args:=h;clear h;cases hw:one as with
  |none=>rw[hw]at b;exact nk b
  |some a =>
   rw[hw]at b;have c:(if x=("list" : Str)/\iY sc x=true/\x∈bl then i7 ("range" : Str) sc bl a else none)=some args:=b;clear b;obtain rfl:=bV hw;by_cases g:x=("list" : Str)/\iY sc x=true/\x∈bl
   ·rw[zac g]at c;obtain⟨rfl,j,b⟩:=g;exact⟨_,_,_,rfl,j,b,c⟩
   ·rw[zab g]at c;cases c
def tLR(ta:TA):TE:=λσ H Q=>ta σ H λvs H1=>∃n:Int,vs=[.int n]/\n<=eB /\ -eB<=n/\∀l,H1 l=none->Q (.ref l) (upd H1 l (.lst ((lq n).map V.int)))
theorem uL:∀{ns:ae} {a:az},a.length=ns.length->(∀(i:Nat) (u:Value),a[i]?=some u->∃t,u=.int (ns.getD i 0) t)->Vals (ns.map V.int) a
 |[],[],_,_=>.nil
 |[],_::_,h,_=>by simp at h
 |_::_,[],h,_=>by simp at h
 |n::ns,u::a,h,hu=>.cons (hu 0 u rfl) (uL (by simpa using h) λi v b=>hu (i+1) v b)
def Bn{p:Pos}(L:X.calm=true)(Y:Gl X "list")(W:X.mg "list" = none)(J:Gl X "range")(z:X.mg "range" = none)(M:PA X [e1] ta)(hs:starEach [e1] X.env=[(false,eval e1 X.env)]):
  PE X (.Call (.Name "list" p') [.Call (.Name "range" p) [e1] [] pos] [] pos') (tLR ta):=by
 intro pins s σ H Q I h;refine aa8 (eO I Y W boot_list ?_);refine aav ?_;show wpAny _ _ (spliced ((false,eval (.Call (.Name "range" p) [e1] [] pos) X.env)::backTo pos' (starEach [] X.env))) _ _ s;refine abW ?_;refine Call_ (eO I J z boot_range (aav (dG (M pos pins s σ H _ I h) λZ a U=>?_) hs rfl));obtain⟨vs,H1,g,r1,q1⟩:=U;obtain⟨n,e,n1,v,y⟩:=q1;subst e;have Xg:n<=1000000:=n1;have q:-1000000<=n:=v;cases r1 with
 |cons r m =>
  cases m;obtain⟨t,rfl⟩:=r;refine call_range_1 (ab5 ?_);have e2:Builtin.Range.rangeSize 0 n 1=((n.toNat:Nat):Int):=by rw[rangeSize_one];split<;>left
  refine call_list_range (g.ok.hd L) (IsRange.new ..) (small_one (by left) (by left) (by left) (by left)) e2 (by left) λh' l d c' B O j=>?_;have keep:∀b o,a.heap.get? b=some o->h'.get? b=some o:=λb o e=>B b o (aad _ e);have c:d.size=n.toNat:=j.1;refine⟨.ref _,upd H1 _ (.lst ((lq n).map V.int)),g.laid (t':=l) keep ?_ ⟨?_,d.toList,c',?_,?_⟩,rfl,y _ (g.cJ.fresh ?_)⟩
  ·show a.heap.objs.size<=(a.heap.push _).objs.size;simp[Heap.push]
  ·rw[sizeLine_eq];simp[lq];left
  ·refine uL (by simp[lq,c]) λi u x=>?_;have k:d[i]?=some u:=by simpa using x
   have E:i<n.toNat:=by rw[<- c];exact(Array.getElem?_eq_some_iff.mp k).1
   obtain⟨t,rfl⟩:=j.2 i u k;refine⟨t,?_⟩;have:(lq n).getD i 0=(i:Int):=by unfold lq;simp[List.getD,E]
   rw[this];congr 1;left
  ·rw[Array.toArray_toList];exact O
  ·show a.heap.objs.size<=(a.heap.push _).objs.size;simp[Heap.push]
def Sb:GY Ao Sd:=by
 intro Φ n r X Y bl k L e args E F cs j;obtain⟨p,pos,i,rfl,O,M,B⟩:=F7 E;obtain⟨p',pos',a,rfl,rfl,J,I⟩:=mw B;cases cs with
 |nil=>exact j.elim
 |cons c cs=>cases cs with
  |cons _ _=>exact j.2.2.2.elim
  |nil =>
   have u:PA X [a] (uC X F Φ [c]):=PA.imp (cE j.1 (PA.imp eE λ_ _ _ h=>j0 h) (j.2.1 _)) λ_ _ _ h=>gq h;have this:PE X (.Call (.Name ("list" : Str) p) [.Call (.Name ("range" : Str) p') [a] [] pos'] [] pos) (tD X F Φ (.cI n [c])):=by
    refine PE.imp (Bn L.calm (L.gl O) (L.bl _ M) (L.gl J) (L.bl _ I) u (j.2.1 _)) λσ H Q s=>?_;obtain⟨R,τ,ρ,d,W,q,s⟩:=s;obtain⟨xs,U,q⟩:=aH q;rw[r]at q;obtain⟨m,rfl,y,x,rfl⟩:=Nm q;refine⟨R,τ,ρ,_,W,U,λvs H1 e1 r1=>?_⟩;obtain⟨τt,Z,t⟩:=r1;obtain⟨v,rfl,rv⟩:=t.one;cases rv;refine⟨m,rfl,y,x,λl hl=>s _ _ ?_ ?_⟩
    ·intro b o e;have g:=e1 b o e;rw[bq λz=>by rw[z,hl]at g;cases g];exact g
    ·refine b8.oP (e1.free hl) (λb o e=>?_) bc (j9 _);have g:=e1 b o e;rw[bq λz=>by rw[z,hl]at g;cases g];exact g
   exact⟨this,cP this λ_=>rfl⟩
section
variable {α β:Type}
noncomputable def cK:aK->List α->ae->Option α
 |c'::cs,v::vs,c=>if c'=c then some v else cK cs vs c
 |_,_,_=>none
noncomputable def setC:aK->List α->ae->α->List α
 |c'::cs,v'::vs,c,v=>(if c'=c then v else v')::setC cs vs c v
 |_,_,_,_=>[]
noncomputable def dz(cs:aK)(c:ae):aK:=if c∈cs then cs else cs++[c]
noncomputable def wV(cs:aK)(as:List α)(c:ae)(a:α):List α:=if c∈cs then as else as++[a]
def cj(cs:aK)(vs:List α)(c:ae)(v:α):List α:=if c∈cs then setC cs vs c v else vs++[v]
end
section
variable {zs:List (ae×Addr×Value)}{c:ae}
theorem mz:∀(zs:List (ae×Addr×Value)) (c:ae),(atKey zs c).map (·.2)=cK (zs.map (·.1)) (zs.map (·.2.2)) c
 |[],_=>rfl
 |z::zs,c=>by
  have a:=mz zs c;unfold atKey at a ⊢;rw[List.find?_cons];show _=if z.1=c then some z.2.2 else cK (zs.map (·.1)) (zs.map (·.2.2)) c
  by_cases e:z.1=c
  ·rw[zaB e,zac e];rfl
  ·rw[zau e,zab e];exact a
theorem eZ:∀(zs:List (ae×Addr×Value)) (c:ae),(atKey zs c).isSome=true ↔ c∈zs.map (·.1)
 |[],c=>by simp[atKey]
 |z::zs,c=>by
  have a:=eZ zs c;unfold atKey at a ⊢;rw[List.find?_cons,zag,zak];by_cases e:z.1=c
  ·rw[zaB e];simp[e]
  ·rw[zau e];rw[a];exact⟨.inr,λh=>h.resolve_left λz=>e z.symm⟩
def mH(a:Addr)(v:Value):(storedH zs c a v).map (·.1)=dz (zs.map (·.1)) c:=by
 unfold storedH dz;by_cases h:c∈zs.map (·.1)
 ·rw[zac ((eZ zs c).mpr h),zac h,zam];refine aax λz _=>?_;show(putAt c v z).1=z.1;unfold putAt;split<;>rfl
 ·rw[zab (λz=>h ((eZ zs c).mp z)),zab h,zax];rfl
def uY(a:Addr)(v:Value):(storedH zs c a v).map (·.2.1)=wV (zs.map (·.1)) (zs.map (·.2.1)) c a:=by
 unfold storedH wV;by_cases h:c∈zs.map (·.1)
 ·rw[zac ((eZ zs c).mpr h),zac h,zam];refine aax λz _=>?_;show(putAt c v z).2.1=z.2.1;unfold putAt;split<;>rfl
 ·rw[zab (λz=>h ((eZ zs c).mp z)),zab h,zax];rfl
theorem vw(v:Value):∀zs:List (ae×Addr×Value),(zs.map (putAt c v)).map (·.2.2)=setC (zs.map (·.1)) (zs.map (·.2.2)) c v
 |[]=>rfl
 |z::zs=>by
  show(putAt c v z).2.2::((zs.map (putAt c v)).map (·.2.2))=(if z.1=c then v else z.2.2)::setC (zs.map (·.1)) (zs.map (·.2.2)) c v;rw[vw v zs];unfold putAt;by_cases e:z.1=c
  ·rw[zac e,zac e]
  ·rw[zab e,zab e]
def uX(a:Addr)(v:Value):(storedH zs c a v).map (·.2.2)=cj (zs.map (·.1)) (zs.map (·.2.2)) c v:=by
 unfold storedH cj;by_cases h:c∈zs.map (·.1)
 ·rw[zac ((eZ zs c).mpr h),zac h];exact vw v zs
 ·rw[zab (λz=>h ((eZ zs c).mp z)),zab h,zax];rfl
end
theorem uK{c:ae}{v:V}{u:Value}(r:RelV v u):∀{cs:aK} {xs:ag} {a:az},Vals xs a->Vals (setC cs xs c v) (setC cs a c u)
 |[],_,_,h=>by cases h<;>exact .nil
 |c'::cs,_,_,h=>by
  cases h with
  |nil=>exact .nil
  |cons h t =>
   refine .cons ?_ (uK r t);show RelV (if c'=c then v else _) (if c'=c then u else _);by_cases e:c'=c
   ·rw[zac e,zac e];exact r
   ·rw[zab e,zab e];exact h
theorem qM{v:V}{u:Value}(r:RelV v u):∀{xs:ag} {a:az},Vals xs a->Vals (xs++[v]) (a++[u])
 |_,_,.nil=>.cons r .nil
 |_,_,.cons h t=>.cons h (qM r t)
def CO{cs:aK}{a:az}(h:Vals xs a){c:ae}{v:V}{u:Value}(r:RelV v u):Vals (cj cs xs c v) (cj cs a c u):=by
 unfold cj;by_cases e:c∈cs
 ·rw[zac e,zac e];exact uK r h
 ·rw[zab e,zab e];exact qM r h
theorem om:∀{cs:aK} {xs:ag} {a:az} (_:Vals xs a) (c:ae),uy (cK cs xs c) (cK cs a c)
 |[],_,_,_,_=>by cases ‹Vals _ _› <;> exact True.intro
 |c'::cs,_,_,h,c=>by
  cases h with
  |nil=>exact True.intro
  |cons h t =>
   show uy (if c'=c then some _ else _) (if c'=c then some _ else _);by_cases e:c'=c
   ·rw[zac e,zac e];exact h
   ·rw[zab e,zab e];exact om t c
section
variable {X:Cx}{pins:aw}{σ:St}{H:Hp}{s:Shared}{p b:Addr}{cs:aK}{as:bo}{xs:ag}{ep:Nat}{c:ae}{A:aN}{E:aG}
theorem items_int:∀{c:ae} {a:az},Vals (c.map V.int) a->ItemsAre (intKind X.prog X.w) c a
 |[],_,h=>by cases h;exact .nil
 |i::c,_,h=>by
  cases h with
  |cons h t =>
   obtain⟨t',rfl⟩:=h;exact .cons (by simp[intKind,Value.isInt]) (items_int t)
def tx(I:Inv X pins σ H s)(h:bg X.K H b (c.map V.int)):(tupleKind (intKind X.prog X.w)).is s.heap c b:=by
 obtain⟨g,rv,⟨o,e,d,n,a⟩,_⟩:=I.tuple h;exact⟨o,g.toArray,n,e,d,a,by simpa using items_int rv⟩
def tT(I:Inv X pins σ H s)(h:H p=some (.ext (DO p cs as xs ep)))(k:fL (bg X.K H) as cs):
  ∃(zs:List (ae×Addr×Value)) (o:Obj) (es:Array DictEntry),zs.map (·.1)=cs/\zs.map (·.2.1)=as/\Vals xs (zs.map (·.2.2))/\s.heap.get? p=some o/\o.ExactDict/\o.data=.dict es ep /\
   s.heap.DictOfH (tupleKind (intKind X.prog X.w)) p zs/\es.toList=zs.map (entryOfKey (tupleKind (intKind X.prog X.w)))/\cs.length<=sizeLine/\(p==sysModules)=false:=by
 obtain⟨⟨zs,o,es,e1,e2,q,d,a,i,g,n,hl,m⟩,_⟩:=(show dh H s.heap p (.ext (DO p cs as xs ep)) from I.cJ p _ h)
 refine⟨zs,o,es,e1,e2,q,d,a,i,⟨o,es,ep,d,a,i,g,λz l=>?_,by rw[e1];exact n⟩,g,hl,m⟩;obtain⟨j,e⟩:=List.mem_iff_getElem?.mp l;exact tx I (k.tup j z.2.1 z.1 (by rw[<- e2,List.getElem?_map,e];rfl) (by rw[<- e1,List.getElem?_map,e];rfl))
def dict_cls(I:Inv X pins σ H s)(h:H p=some (.ext (DO p cs as xs ep))):s.TypeIs (.ref p) "dict" /\ ∀b,Value.ref p=.ref b->∃a,s.heap.get? b=some a/\a.dict=none:=by
 obtain⟨⟨g,o,es,e1,e2,i,e,d,_⟩,_⟩:=(show dh H s.heap p (.ext (DO p cs as xs ep)) from I.cJ p _ h)
 exact⟨⟨o,e,d.1⟩,λb q=>by cases q;exact⟨o,e,d.2.1⟩⟩
def JV{d:V}{r:Value}{Q:aG}(n:A.units+1<cLine)(I:Inv X pins σ H s)(h:H p=some (.ext (DO p cs as xs ep)))(k:fL (bg X.K H) as cs)(x:bg X.K H b (c.map V.int))(m:RelV d r)(y:∀e g,Inv X pins σ H g->RelV ((cK cs xs c).getD d) e->Q e g):
  wpAny (model X.prog X.w) A (call (.builtin "dict.get") [.ref p,.ref b,r]) Q E s:=by
 obtain⟨j,o,es,e1,e2,z,L,J,M,i,_,hl,t⟩:=tT I h k;refine call_meetsIn PySem.F.slot_dict_get i.typeIs PySem.F.entry_dict_get (PySem.F.args_dict_get_3 _ _ _) (meetsH_dict_get_default (tupleKind (intKind X.prog X.w)) p b t r) ⟨acu n,c,j,tx I x,i,y _ _ (I.tok _) ?_⟩;rw[mz,e1];have a:=om (cs:=cs) z c;cases q:cK cs xs c with
 |none =>
  rw[q]at a;rw[uy.none_of a];exact m
 |some v =>
  rw[q]at a;obtain⟨u,B,l⟩:=uy.some_of a;rw[B];exact l
def yM{v:V}{r:Value}{Q:Unit->Shared->Prop}(t:A.units+1<cLine)(I:Inv X pins σ H s)(h:H p=some (.ext (DO p cs as xs ep)))(k:fL (bg X.K H) as cs)(g:bg X.K H b (c.map V.int))(rv:RelV v r)(jn:cs.length<sizeLine)
  (y:∀i j,Inv X pins σ (upd H p (.ext (DO p (dz cs c) (wV cs as c b) (cj cs xs c v) i))) j->Q () j) :
  wpAny (model X.prog X.w) A (setItem (.ref p) (.ref b) r) Q E s:=by
 obtain⟨d,o,es,e1,e2,e3,ho,hx,hd,dd,_,hl,u⟩:=tT I h k;have n:d.length<=sizeLine:=by rw[<- e1,zaa]at hl;exact hl
 refine wpAny_setItem_heap (hsz:=n) (acu t) (tx I g) dd λh' Zp EW=>?_;obtain⟨q,Qf,i,e,M,L,J,_,B⟩:=Zp;refine y i _ (I.write (x:=p) (by rw[h];exact True.intro) (λb q g z=>(EW.2 b g).trans z) ⟨q,e⟩ ⟨⟨storedH d c b r,q,Qf,?_,?_,?_,e,M,L,J,?_,?_,u⟩,⟨q,e⟩,?_⟩)
 ·rw[mH,e1]
 ·rw[uY,e1,e2]
 ·rw[uX,e1];exact CO e3 rv
 ·rw[<- e1,<- mH (zs:=d) (c:=c) b r];exact B
 ·unfold dz;split
  ·exact hl
  ·rw[zah,zaX];left
 ·rintro h1 VG ⟨U0,l,a,Z,Y,W,U,O⟩ m;exact⟨U0,l,a,Z,Y,W,m _ U,O⟩
def Ig:PE X (.Dict [] [] pos) (λ_ H Q=>∀p,H p=none->Q (.ref p) (upd H p (.ext (DO p [] [] [] 0)))):=λpins s σ H Q I h=>by
 have r:sysModules<s.heap.objs.size:=abZ (by decide) (show mainGlobals<s.heap.objs.size from(I.mod.glob.keeps I.bk).lt);refine wpAny_Dict_empty ⟨.ref s.heap.objs.size,_,I.laid (a:=s.heap.objs.size) (o:=.ext (DO s.heap.objs.size [] [] [] 0)) (t':=s.toks) (λ_ _ q=>aad _ q) (aaj _) ?_,rfl,h _ (I.cJ.fresh (aaj _))⟩;have e:(s.heap.push { cls:=.type "dict",data:=.dict #[] }).get? s.heap.objs.size=some { cls:=.type "dict",data:=.dict #[] }:=aaq _ rfl;refine⟨⟨[],_,#[],rfl,rfl,.nil,e,⟨rfl,rfl,rfl⟩,rfl,rfl,ab1,aa3 _,beq_eq_false_iff_ne.mpr (acb (aak r))⟩,⟨_,e⟩,?_⟩;rintro u v ⟨t,g,d,n,m,l,k,j⟩ i;exact⟨t,g,d,n,m,l,i _ k,j⟩
end
def lH{k:bt}{v:V}{d:D}(h:Rep T N k v d)(hf:bh anyF d=false):Rep T N' k' v d:=by
 have:=Rep.gen (T':=T) (N':=N') (g:=id) (P:=anyF) (C:=λ_ _=>True) (I:=λ_ _=>True) (λ_ _ h=>h) trivial (λ_ _ e=>e) (λ_ _ _ _ e _=>e) (λk k' p xs f _ a _=>nomatch a) h (k':=k') trivial hf;rw[fj]at this;exact this
theorem oE{T:nq}{N:kA}:∀{cs:aK} {k:bt} {n:Nat} {xs:ag} {ds:aa} (_:aI T N k n xs ds) (c:ae),(cK cs xs c=none/\cK cs ds c=none)\/∃v d k',cK cs xs c=some v/\cK cs ds c=some d/\Rep T N k' v d/\d∈ds
 |[],_,_,_,_,_,_=>by cases ‹aI _ _ _ _ _ _› <;> exact .inl ⟨rfl,rfl⟩
 |c'::cs,_,_,_,_,r,c=>by
  cases r with
  |nil=>exact .inl ⟨rfl,rfl⟩
  | @cons _ _ v d vs ds h t =>
   by_cases e:c'=c
   ·exact .inr ⟨v,d,_,aa5 e,aa5 e,h,aai⟩
   ·have e1:∀{b:Type} (a:b) (l:List b),cK (c'::cs) (a::l) c=cK cs l c:=λa l=>acr e;rw[e1,e1];rcases oE (cs:=cs) t c with h|⟨v',d',k',m,j,i,g⟩
    ·exact .inl h
    ·exact .inr ⟨v',d',k',m,j,i,aah _ g⟩
theorem rm{p:Fl->Bool}:∀{ds:aa},aV p ds=false->∀d∈ds,bh p d=false
 |[],_,_,h=>nomatch h
 |d::ds,h,d',hd=>by
  have h:=KV h;rcases List.mem_cons.mp hd with rfl|hd
  ·exact h.1
  ·exact rm h.2 d' hd
theorem vp{T:nq}{N:kA}{c:ae}{v:V}{d:D}(a:∀k,Rep T N k v d):∀{cs:aK} {k:bt} {n:Nat} {xs:ag} {ds:aa},aI T N k n xs ds->aI T N k n (setC cs xs c v) (setC cs ds c d)
 |[],_,_,_,_,r=>by cases r<;>exact .nil
 |c'::cs,_,_,_,_,r=>by
  cases r with
  |nil=>exact .nil
  |cons h t =>
   refine .cons ?_ (vp a t);show Rep _ _ _ (if c'=c then v else _) (if c'=c then d else _);by_cases e:c'=c
   ·rw[zac e,zac e];exact a _
   ·rw[zab e,zab e];exact h
def Bj{v:V}{d:D}(a:∀k,Rep T N k v d){k:bt}{n:Nat}(h:aI T N k n xs ds):aI T N k n (xs++[v]) (ds++[d]):=h.snoc (a _)
def DH{c:ae}{v:V}{d:D}(a:∀k,Rep T N k v d){cs:aK}{k:bt}{n:Nat}(r:aI T N k n xs ds):aI T N k n (cj cs xs c v) (cj cs ds c d):=by
 unfold cj;by_cases e:c∈cs
 ·rw[zac e,zac e];exact vp a r
 ·rw[zab e,zab e];exact Bj a r
def EI{cs:aK}(k:fL T as cs){b:Addr}{c:ae}(l:T b (c.map V.int)):fL T (wV cs as c b) (dz cs c):=by
 unfold wV dz;by_cases e:c∈cs
 ·rw[zac e,zac e];exact k
 ·rw[zab e,zab e];refine⟨by rw[zah,zah,k.len];rfl,λj a c' d g=>?_⟩;by_cases i:j<as.length
  ·rw[List.getElem?_append_left i]at d;rw[List.getElem?_append_left (by rw[<- k.len];exact i)]at g;exact k.tup j a c' d g
  ·rw[List.getElem?_append_right (by left)]at d;rw[List.getElem?_append_right (by rw[<- k.len];left),<- k.len]at g;cases h:j - as.length with
   |zero =>
    rw[h]at d g;cases d;cases g;exact l
   |succ m=>rw[h]at d;cases d
def b8.newD{p:Addr}(e:H p=none)(hl:H' p=some (.ext (DO p [] [] [] 0))):b8 K G R τ fv H H' (.ref p) (.de .ow [] []):=by
 refine⟨λq=>if q=p then some []else none,λq k d=>?_,.de (ep:=0) (as:=[]) (xs:=[]) ⟨hl,by simp⟩ ⟨rfl,λj a c h=>by simp at h⟩ .nil⟩;by_cases b:q=p
 ·subst b;exact e
 ·simp[b]at d
noncomputable def FT(xs:aa):O D:=match xs with
 |[]=>ok (.de .ow [] [])
 |_::_=>none
noncomputable def tY(_:Scope)(_:av)(e:Expr):Option (ak):=match e with
 |.Dict [] [] _=>some []
 |_=>none
def JR:GY tY FT:=by
 intro Φ n c X l bl k L e args a F cs i;have j:∃pos,e=.Dict [] [] pos/\args=[]:=by
  unfold tY at a;split at a
  ·cases a;exact⟨_,rfl,rfl⟩
  ·cases a
 obtain⟨pos,rfl,rfl⟩:=j;cases cs with
 |cons _ _=>exact i.elim
 |nil =>
  have this:PE X (.Dict [] [] pos) (tD X F Φ (.cI n [])):=by
   refine PE.imp (Ig (X:=X) (pos:=pos)) λσ H Q g p h=>?_;obtain⟨R,τ,ρ,d,m,b,g⟩:=g;have b:Φ n []=ok d:=b;rw[c]at b;cases b;exact g _ _ (aL.upd h) (b8.newD h bc)
  exact⟨this,cP this λ_=>rfl⟩
noncomputable def three{d:Type}:List d->Option (d×d×d)
 |[a,b,c]=>some (a,b,c)
 |_=>none
def uT{e:Type}{l:List e}{z:e×e×e}(h:three l=some z):l=[z.1,z.2.1,z.2.2]:=by
 rcases l with _|⟨a,_|⟨b,_|⟨c,_|⟨d,l⟩⟩⟩⟩<;>cases h;rfl
noncomputable def iC:D->Option (aK×aa)
 |.de _ cs vs=>some (cs,vs)
 |_=>none
def keyOf:D->Option (ae)
 |.tup a=>intsOf a
 |_=>none
def lS{d:D}{z:aK×aa}(h:iC d=some z):∃f,d=.de f z.1 z.2:=by
 cases d<;>first | (cases h;done) | (cases h;exact⟨_,rfl⟩)
def oZ{d:D}{c:ae}(h:keyOf d=some c):d=.tup (c.map D.int):=by
 cases d<;>first | (cases h;done)|skip
 rw[eQ (show intsOf _=some c from h)]
def FX(xs:aa):O D:=match two xs with
 |some z=>match iC z.1 with
  |some d=>match keyOf z.2 with
   |some c=>match cK d.1 d.2 c with
    |some v=>if bh anyF v=false then ok v else none
    |none=>none
   |none=>none
  |none=>none
 |none=>none
def JT{xs:aa}{r:D}(h:FX xs=ok r):∃f cs vs c,xs=[.de f cs vs,.tup (c.map D.int)]/\cK cs vs c=some r/\bh anyF r=false:=by
 unfold FX at h;cases g:two xs with
 |none=>rw[g]at h;cases h
 |some z =>
  rw[g]at h;have h:(match iC z.1 with|some d=>(match keyOf z.2 with|some c=>(match cK d.1 d.2 c with|some v=>if bh anyF v=false then ok v else none|none=>none)|none=>none)|none=>none)=ok r:=h;cases e:iC z.1 with
  |none=>rw[e]at h;cases h
  |some d =>
   rw[e]at h;have h:(match keyOf z.2 with|some c=>(match cK d.1 d.2 c with|some v=>if bh anyF v=false then ok v else none|none=>none)|none=>none)=ok r:=h;cases b:keyOf z.2 with
   |none=>rw[b]at h;cases h
   |some c =>
    rw[b]at h;have h:(match cK d.1 d.2 c with|some v=>if bh anyF v=false then ok v else none|none=>none)=ok r:=h;cases a:cK d.1 d.2 c with
    |none=>rw[a]at h;cases h
    |some v =>
     rw[a]at h;obtain⟨i,rfl⟩:=uE (show(if bh anyF v=false then ok v else none)=ok r from h);obtain⟨f,e1⟩:=lS e;exact⟨f,d.1,d.2,c,by rw[jB g,e1,oZ b],a,i⟩
def W2(K:ao):R2:=λx y H Q=>∃p b cs as xs ep c v,x=.ref p/\y=.ref b/\H p=some (.ext (DO p cs as xs ep))/\fL (bg K H) as cs/\bg K H b (c.map V.int)/\cK cs xs c=some v/\Q v H
def IV(m:X.A.units+1<cLine):LO X (W2 X.K):=by
 intro value slice pins s σ H x y v u Q I k j h n;obtain⟨p,b,cs,as,xs,ep,c,w,rfl,rfl,t,z,E,B,q⟩:=h;cases k;cases j;obtain⟨g,o,es,e1,e2,J,O,M,U,e,_,hl,W⟩:=tT I t z;have a:=om (cs:=cs) J c;rw[B]at a;obtain⟨u,L,l⟩:=uy.some_of a;have:(atKey g c).map (·.2)=some u:=by rw[mz,e1];exact L
 obtain⟨q',d,rfl⟩:=Option.map_eq_some_iff.mp this;exact ab8 (x:=q'.2) e.typeIs PySem.F.slot_dict_getitem.lookup
  (wpAny_getItem_heap (Q:=λr i=>r=q'.2/\EP X pins σ Q r i) (acu m) (tx I E) e d ⟨rfl,w,H,I.tok _,l,q⟩) n
def yQ(_:Scope)(_:av)(e:Expr):Option (ak):=match xu e with
 |some z=>some [z.1,z.2]
 |none=>none
def O6:GY yQ FX:=by
 intro Φ n i X sc bl k L e args a F cs p;unfold yQ at a;cases l:xu e with
 |none=>rw[l]at a;cases a
 |some z =>
  rw[l]at a;cases a;obtain⟨pos,rfl⟩:=lA l;obtain⟨⟨c1,s,rfl,p1,p2⟩,_⟩:=oJ p;have this:PE X (.Subscript z.1 z.2 pos) (tD X F Φ (.cI n [c1,s])):=by
   refine PE.imp (KS (IV (EU L.room)) p1 p2 p.2.2.2.2.2.1) λσ H Q j=>?_;obtain⟨R,τ,ρ,d,t,g,j⟩:=j;obtain⟨xs,b,g⟩:=aH g;rw[i]at g;obtain⟨f,cs,vs,c,rfl,q,W⟩:=JT g;obtain⟨x,ex,b⟩:=aH b;obtain⟨ys,I,b⟩:=aH b;obtain⟨y,ey,Y8⟩:=aH I;cases Y8;cases b;refine tD.intro t ex λv H1 e1 r1=>tD.intro (t.go e1) ey λu H2 e2 r2=>?_;obtain⟨E,f1,q1⟩:=r1;obtain⟨B,f2,q2⟩:=r2;cases q1 with
   |de O U M=>cases q2 with
    |tup J SK =>
     cases SK.ofInts;rcases oE M c with ⟨_,m⟩|⟨w,d',k',Z,r,Y,_⟩
     ·rw[q]at m;cases m
     ·rw[q]at r;cases r;refine⟨_,_,_,_,_,_,c,w,rfl,rfl,e2 _ _ O.dat,U.imp λ_ _ h=>bg.same e2 h,J,Z,j w H2 (e1.trans e2) ⟨λ_=>none,λ_ _ h=>by simp at h,?_⟩⟩;exact(lH (N':=nd X.K R (kZ (gP X F) τ (gE (.cI n [c1,s]))) (λ_=>none) H1) (k':=[]) Y W).imp (λ_ _ h=>bg.same e2 h) λ_ _ _ _ h=>nd.same e2 h
  exact⟨this,cP this λ_=>rfl⟩
def wt(xs:aa):O D:=match three xs with
 |some z=>match iC z.1 with
  |some d=>match keyOf z.2.1 with
   |some c=>if aV anyF d.2=false/\bh anyF z.2.2=false then ok ((cK d.1 d.2 c).getD z.2.2)else none
   |none=>none
  |none=>none
 |none=>none
def FZ{xs:aa}{r:D}(h:wt xs=ok r):∃f cs vs c x,xs=[.de f cs vs,.tup (c.map D.int),x]/\aV anyF vs=false/\bh anyF x=false/\r=(cK cs vs c).getD x:=by
 unfold wt at h;cases e:three xs with
 |none=>rw[e]at h;cases h
 |some z =>
  rw[e]at h;have h:(match iC z.1 with|some d=>(match keyOf z.2.1 with|some c=>if aV anyF d.2=false/\bh anyF z.2.2=false then ok ((cK d.1 d.2 c).getD z.2.2)else none|none=>none)|none=>none)=ok r:=h;cases b:iC z.1 with
  |none=>rw[b]at h;cases h
  |some d =>
   rw[b]at h;have h:(match keyOf z.2.1 with|some c=>if aV anyF d.2=false/\bh anyF z.2.2=false then ok ((cK d.1 d.2 c).getD z.2.2)else none|none=>none)=ok r:=h;cases a:keyOf z.2.1 with
   |none=>rw[a]at h;cases h
   |some c =>
    rw[a]at h;obtain⟨⟨i,g⟩,rfl⟩:=uE (show(if aV anyF d.2=false/\bh anyF z.2.2=false then ok ((cK d.1 d.2 c).getD z.2.2)else none)=ok r from h);obtain⟨f,e1⟩:=lS b;exact⟨f,d.1,d.2,c,z.2.2,by rw[uT e,e1,oZ a],i,g,rfl⟩
def tZ(_:Scope)(_:av)(e:Expr):Option (ak):=(za ("get" : Str) (.Expr e ⟨0,0,0,0⟩)).bind λz=>(two z.2).bind λy=>if isNm z.1=true then some [z.1,y.1,y.2]else none
def yR{sc:Scope}{bl:av}{e:Expr}(h:tZ sc bl e=some args):∃x p p1 p2 a b,e=.Call (.Attribute (.Name x p) ("get" : Str) p1) [a,b] [] p2/\args=[.Name x p,a,b]/\(p1.endLine==p2.line)=true:=by
 obtain⟨⟨o,as⟩,g,h⟩:=bT h;obtain⟨⟨a,b⟩,d,h⟩:=bT h;obtain⟨c,h⟩:=gT h;cases h;obtain⟨x,p,rfl⟩:=nL c;obtain rfl:=jB d;obtain⟨p1,p2,pos,e1,hl⟩:=oo g;cases e1;exact⟨x,p,p1,p2,a,b,rfl,rfl,hl⟩
def Bo{x:Str}{p:Pos}{a b:Expr}{l:TE}(B:X.A.units+1<cLine)(E:PE X (.Name x p) l)(O:PA X [a,b] ta)(m:∀es,starEach (a::es) X.env=(false,eval a X.env)::starEach es X.env)(s2:∀es,starEach (b::es) X.env=(false,eval b X.env)::starEach es X.env)(hl:(p1.endLine==p2.line)=true):
  PE X (.Call (.Attribute (.Name x p) ("get" : Str) p1) [a,b] [] p2) (λσ H Q=>l σ H λv H1=>∃q cs as xs ep,v=.ref q/\H1 q=some (.ext (DO q cs as xs ep))/\ta σ H1 λys H2=>∃k c z,ys=[.ref k,z]/\H2 q=some (.ext (DO q cs as xs ep))/\fL (bg X.K H2) as cs/\bg X.K H2 k (c.map V.int)/\Q ((cK cs xs c).getD z) H2):=by
 intro pins s σ H Q I h;refine wpAny_Call_method rfl (by rw[m,s2];rfl) hl PySem.F.plainAttrs_dict PySem.F.slot_dict_get PySem.F.type_dict_get (dG (E pins s σ H _ I h) λu d j=>?_);obtain⟨v,H1,r,t,q,cs,as,xs,ep,W,L,q1⟩:=j;subst W;obtain rfl:u=Value.ref q:=t;obtain⟨t1,t2⟩:=dict_cls r L;refine⟨t1,t2,?_⟩;have n:=O p2 pins d σ H1 _ r q1;rw[m]at n ⊢;refine Calls.callWith_builtin (by show(false||(backTo p2 (starEach [b] X.env)).any (·.1))=false;rw[s2];rfl) (aci ?_);refine dG n λus s3 j=>?_;obtain⟨ys,H2,Z,r2,k,c,z,U,i,J,M,q2⟩:=j;subst U;obtain⟨w1,w2,rfl,g,e⟩:=vals2 r2;cases g;exact JV B Z i J M e λw' s4 Y y=>⟨_,H2,Y,y,q2⟩
def JU:GY tZ wt:=by
 intro Φ n j X sc bl k L e args he F cs r;obtain⟨x,p,p1,p2,a,b,rfl,rfl,hl⟩:=yR he;cases cs with
 |nil=>exact r.elim
 |cons u cs =>
  obtain⟨h0,_,_,Vy⟩:=r;obtain⟨⟨c1,t,rfl,_,_⟩,M,J,I⟩:=oJ Vy;have this:PE X (.Call (.Attribute (.Name x p) ("get" : Str) p1) [a,b] [] p2) (tD X F Φ (.cI n [u,c1,t])):=by
   refine PE.imp (Bo (EU L.room) h0 M J I hl) λσ H Q l=>?_;obtain⟨R,τ,ρ,d,z,i,l⟩:=l;obtain⟨xs,g,i⟩:=aH i;rw[j]at i;obtain⟨f,cs,vs,c,y,rfl,hf,U,rfl⟩:=FZ i;obtain⟨x0,ex,g⟩:=aH g;obtain⟨ys,O,g⟩:=aH g;cases g;refine tD.intro z ex λv H1 e1 r1=>?_;obtain⟨E,f1,q1⟩:=r1;cases q1 with
   |de s Z Y =>
    refine⟨_,_,_,_,_,rfl,s.dat,R,τ,ρ,_,z.go e1,O,λus H2 e2 r2=>?_⟩;obtain⟨B,f2,q2⟩:=r2;obtain⟨u1,u2,rfl,WT,WS⟩:=q2.two;obtain⟨_,_,rfl,W,SK⟩:=WT.AO;cases SK.ofInts;refine⟨_,c,u2,rfl,e2 _ _ s.dat,Z.imp λ_ _ h=>bg.same e2 h,W,?_⟩;refine l _ H2 (e1.trans e2) ⟨λ_=>none,λ_ _ h=>by simp at h,?_⟩;rcases oE Y c with ⟨q,m⟩|⟨w,d',k',q,m,g3,g4⟩
    ·rw[q,m];exact lH (T:=bg X.K H2) WS U
    ·rw[q,m];exact(lH (N':=nd X.K R (kZ (gP X F) τ (gE (.cI n [u,c1,t]))) (λ_=>none) H1) (k':=[]) g3 (rm hf _ g4)).imp (λ_ _ h=>bg.same e2 h) λ_ _ _ _ h=>nd.same e2 h
  exact⟨this,cP this λ_=>rfl⟩
def wq(xs:aa):O D:=match three xs with
 |some z=>match z.1 with
  |.de f cs vs=>match keyOf z.2.2 with
   |some c=>if cQ f=true/\bh anyF z.2.1=false/\cs.length<eB then ok (.de .ow (dz cs c) (cj cs vs c z.2.1))else none
   |none=>none
  |_=>none
 |none=>none
set_option tactic.hygienic true in
def wo{d:D}{xs:aa}{r:D}(h:wq (d::xs)=ok r):∃cs vs c x,d=.de .ow cs vs/\xs=[x,.tup (c.map D.int)]/\bh anyF x=false/\cs.length<eB/\r=.de .ow (dz cs c) (cj cs vs c x):=by
 unfold wq at h;cases b:three (d::xs)with
 |none=>rw[b]at h;cases h
 |some z =>
  rw[b]at h;have e0:=uT b;obtain⟨d',x,y⟩:=z;obtain⟨rfl,rfl⟩:d=d'/\xs=[x,y]:=aas e0;cases d<;>first | (cases h;done)|skip
  rename_i f cs vs;have h:(match keyOf y with|some c=>if cQ f=true/\bh anyF x=false/\cs.length<eB then ok (D.de .ow (dz cs c) (cj cs vs c x))else none|none=>none)=ok r:=h;cases a:keyOf y with
  |none=>rw[a]at h;cases h
  |some c =>
   rw[a]at h;obtain⟨⟨g,e,hl⟩,rfl⟩:=uE (show(if cQ f=true/\bh anyF x=false/\cs.length<eB then ok (D.de .ow (dz cs c) (cj cs vs c x))else none)=ok r from h);cases f<;>first | (cases g;done)|exact⟨cs,vs,c,x,rfl,by rw[oZ a],e,hl,rfl⟩
def tX(_:Scope)(_:av)(st:Stmt):Option (Expr×ak):=(CV st).bind λz=>(one z.1).bind λt=>(xu t).bind λy=>some (y.1,[z.2,y.2])
def yP{sc:Scope}{bl:av}(h:tX sc bl st=some (o,args)):∃v i pos' pos,st=.Assign [.Subscript o i pos'] v pos/\args=[v,i]:=by
 obtain⟨⟨d,v⟩,c,h⟩:=bT h;obtain⟨t,b,h⟩:=bT h;obtain⟨⟨e,i⟩,a,h⟩:=bT h;cases h;obtain rfl:=bV b;obtain⟨pos,rfl⟩:=lB c;obtain⟨pos',rfl⟩:=lA a;exact⟨v,i,pos',pos,rfl,rfl⟩
mutual
theorem any_map(g:Fl->Fl):∀d:D,bh anyF (aB g d)=bh anyF d
 |.bz=>rfl
 |.bl _=>rfl
 |.int _=>rfl
 |.str _=>rfl
 |.tup ds=>p8 g ds
 |.lst _ ds=>rfl
 |.de _ _ ds=>rfl
theorem p8(g:Fl->Fl):∀ds:aa,aV anyF (au g ds)=aV anyF ds
 |[]=>rfl
 |d::ds=>by show(bh _ _||aV _ _)=(bh _ d||aV _ ds);rw[any_map g d,p8 g ds]
end
mutual
theorem yW:∀d:D,bh anyF d=false->bh bR d=false
 |.bz,_=>rfl
 |.bl _,_=>rfl
 |.int _,_=>rfl
 |.str _,_=>rfl
 |.tup ds,h=>AA ds h
 |.lst _ ds,h=>nomatch h
 |.de _ _ ds,h=>nomatch h
theorem AA:∀ds:aa,aV anyF ds=false->aV bR ds=false
 |[],_=>rfl
 |d::ds,h=>by
  have h:=KV h;show(bh _ d||aV _ ds)=false;rw[yW d h.1,AA ds h.2];rfl
end
theorem any_ints:∀c:ae,aV anyF (c.map D.int)=false
 |[]=>rfl
 |i::c=>any_ints c
def Mm{i:Expr}{l:Nat}:swapsWith value (some (.Subscript o i pos')) l env=pure false:=by
 unfold swapsWith;cases value<;>rfl
def DT{x:Str}{j:Pos}{i:Expr}{e to g:TE}(B:X.A.units+1<cLine)(z:PE X value e)(E:PE X (.Name x j) to)(L:PE X i g):
  PS X (.Assign [.Subscript (.Name x j) i pos'] value pos) (λD σ H=>e σ H λv H1=>to σ H1 λo H2=>g σ H2 λy a=>∃q b cs as xs ep c,o=.ref q/\y=.ref b/\a q=some (.ext (DO q cs as xs ep))/\fL (bg X.K a) as cs/\bg X.K a b (c.map V.int)/\cs.length<sizeLine /\
   ∀d,D.nx σ (upd a q (.ext (DO q (dz cs c) (wV cs as c b) (cj cs xs c v) d)))):=by
 intro pins s σ H D I h;refine wpAny_Assign_Subscript (dG (z pins s σ H _ I h) λr l ⟨v,H1,I1,rv,q1⟩=>dG (E pins l σ H1 _ I1 q1) λu k ⟨o,H2,I2,n,q2⟩=>dG (L pins k σ H2 _ I2 q2) λt s3 Y=>?_) Mm;obtain⟨y,a,I3,m,q,b,cs,as,xs,ep,c,W,U,M,J,O,hl,p⟩:=Y;subst W U;obtain rfl:u=Value.ref q:=n;obtain rfl:t=Value.ref b:=m;exact yM B I3 M J O rv hl λd s4 Z=>⟨σ,_,Z,p d⟩
def SI.RO{i:Nat}{cs:aK}(d:SI X F R τ ρ σ H)(c:ρ[i]?=some (some (.de .ow cs ds))):
  ∃p as xs ep,σ[i]?=some (some (.ref p))/\H p=some (.ext (DO p cs as xs ep))/\τ p=some [i]/\fL (bg X.K H) as cs/\aI (bg X.K H) (nd X.K R (λ_=>False) τ H) [i] 0 xs ds:=by
 obtain⟨v,b,a⟩:=d.rep i _ c;cases a with
 |de h k r=>exact⟨_,_,_,_,b,h.1,h.2,k,r⟩
def JQ{n:Nat}(j:Φ n=wq){sc:Scope}{bl:av}{k:Nat}(L:PX X sc bl k)(hN:X.N.Nodup)(xg:∀x,X.fn x=true){x:Str}(he:tX sc bl st=some (.Name x pos,args))
  {i:Nat} (hi:X.N[i]?=some x) (hl:L2.Loc X.env.scope x) (pe:PE X (.Name x pos) (mY i)) (hs:ql X F Φ cs args):PS X st (qr X F Φ (.mut n i cs)):=by
 obtain⟨v,ix,p1,p2,rfl,rfl⟩:=yP he;obtain⟨⟨c1,c2,rfl,h1,h2⟩,_⟩:=oJ hs;refine PS.imp (DT (EU L.room) h1 pe h2) λD σ H U=>?_;obtain⟨R,τ,ρ,r,E,z,U⟩:=U;obtain⟨xs,s,z⟩:=aH z;obtain⟨y,ey,s⟩:=aH s;obtain⟨ys,kO,s⟩:=aH s;cases s;obtain⟨a,ek,Y8⟩:=aH kO;cases Y8;have M:∃cs vs c,a=.tup (c.map DI.D.int)/\ρ[i]?=some (some (.de .ow cs vs))/\bh anyF y=false/\cs.length<eB/\r=(.nx,ρ.set i (some (.de .ow (dz cs c) (cj cs vs c y)))):=by
  cases l:aV bR [y,a]with
  |true =>
   obtain⟨d,d',h⟩:=Et z l;rw[j]at h;obtain⟨cs,vs,c,x',_,e1,e2,_⟩:=wo h;have B:aB aD y=x'/\aB aD a=.tup (c.map DI.D.int):=by
    have:=aas e1;exact⟨this.1,(aas this.2).1⟩
   have a1:bh bR y=false:=yW y (by rw[<- any_map aD y,B.1];exact e2);have a2:bh bR a=false:=yW a (by rw[<- any_map aD a,B.2];exact any_ints c);have:aV bR [y,a]=false:=by show(bh bR y||(bh bR a||false))=false;rw[a1,a2];rfl
   rw[this]at l;cases l
  |false =>
   obtain⟨d,d',h,h',rfl⟩:=zD z l;rw[j]at h';obtain⟨cs,vs,c,x',rfl,e1,e2,B,rfl⟩:=wo h';cases e1;exact⟨cs,vs,c,rfl,h,e2,B,rfl⟩
 obtain⟨cs,vs,c,rfl,W,Y,hc,rfl⟩:=M;obtain⟨p,as,g,ep,O,hd,ht,hk,J⟩:=E.RO W;refine tD.intro E ey λu H1 e1 ru=>⟨.ref p,O,tD.intro (E.go e1) ek λw H2 e2 nF=>?_⟩
 obtain⟨τ1,f1,q1⟩:=ru;obtain⟨τ2,f2,q2⟩:=nF;cases q2 with
 | @tup _ b _ _ hb SK =>
  cases SK.ofInts;have es:=e1.trans e2;have Z:=E.go es;have e:=es _ _ hd;have o9:eB=1000000:=rfl;have l:sizeLine=16777216:=abn;refine⟨p,b,cs,as,g,ep,c,rfl,rfl,e,hk.imp λ_ _ h=>bg.same es h,hb,by left,λAg=>?_⟩;have t:fR H2 p (.d cs as g ep):=e;have rk:kz X R τ H2 u y:=oF ((lH (N':=nd X.K R (λ_=>False) τ H1) (k':=[]) q1 Y).imp (λ_ _ h=>bg.same e2 h) λ_ _ _ _ h=>nd.same e2 h) Y;obtain⟨p',UN,U0,afo,q,BR,ht',hk',vi⟩:=Z.RO W;rw[O]at q;cases q;rw[e]at BR;obtain⟨I,UT⟩:=Z.RG (m:=0) (n':=.d (dz cs c) (wV cs as c b) (cj cs g c u) Ag) (o:=.ext (DO p (dz cs c) (wV cs as c b) (cj cs g c u) Ag)) (d1:=.de .ow (dz cs c) (cj cs vs c y)) (xs':=cj cs g c u) (ds':=cj cs vs c y) W O t ht (J.imp (λ_ _ h=>bg.same es h) λ_ _ _ _ h=>nd.same es h) rk bc
   (λhN r=>.de hN (EI ((hk.imp λ_ _ h=>bg.same es h).imp λ_ _ h=>Dh t h) (Dh t hb)) r) (λJ r=>DH (λk=>lH r Y) J)
  exact U σ _ R I UT (yj Z es (λ_ h=>h) t ht)
end DI
end
section
namespace DI
open PySem PySem.Spec PyProof.Rows L2 PySem.W
noncomputable def runK{b:Type}(n:Nat)(lt:Nat->Nat->Bool):KasT b->Option b
 |.ret a=>some a
 |.ask i j k=>if i<n/\j<n then runK n lt (k (lt i j))else none
theorem DD{d:Type}{b:Nat->Nat->(Bool->Shared->Prop)->Shared->Prop}{lt:Nat->Nat->Bool}{s:Shared}{n:Nat}(f:∀i j C,i<n->j<n->C (lt i j) s->b i j C s){Q:d->Shared->Prop}{a:d}(e:Q a s):
  ∀(t:KasT d),runK n lt t=some a->t.kasWp b Q s
 |.ret _,h=>by cases h;exact e
 |.ask i j k,h=>by
  unfold runK at h;by_cases c:i<n/\j<n
  ·rw[zac c]at h;exact f i j _ c.1 c.2 (DD f e _ h)
  ·rw[zab c]at h;cases h
theorem run_eq{b:Type}{n:Nat}{lt a:Nat->Nat->Bool}(h:∀i j,i<n->j<n->lt i j=a i j):∀t:KasT b,runK n lt t=runK n a t
 |.ret _=>rfl
 |.ask i j k=>by
  unfold runK;by_cases c:i<n/\j<n
  ·rw[zac c,zac c,h i j c.1 c.2,run_eq h]
  ·rw[zab c,zab c]
structure Arr(p:Array Nat)(n:Nat):Prop where
 sz:p.size=n
 pm:p.toList.Perm (List.range n)
noncomputable def Jb(x:Nat):aJ->List (aJ)
 |[]=>[[x]]
 |y::l=>(x::y::l)::(Jb x l).map (y :: ·)
def sN:aJ->List (aJ)
 |[]=>[[]]
 |x::l=>(sN l).flatMap (Jb x)
theorem zF{x:Nat}{b:aJ}:∀a:aJ,a++x::b∈Jb x (a++b)
 |[]=>by cases b<;>simp[Jb]
 |y::a=>aah _ (aaX (zF a))
theorem qZ:∀{l m:aJ},m.Perm l->m∈sN l
 |[],m,h=>by rw[h.eq_nil];simp[sN]
 |x::l,m,h=>by
  obtain⟨a,b,rfl⟩:=List.append_of_mem (h.symm.subset aai);exact List.mem_flatMap.mpr ⟨a++b,qZ ((List.perm_middle.symm.trans h).cons_inv),zF a⟩
theorem vz{b:Type}(f:Nat->b):∀{l:List b} {m:aJ},l.Perm (m.map f)->∃a:aJ,a.Perm m/\l=a.map f
 |[],m,h=>⟨[],by rw[List.map_eq_nil_iff.mp h.symm.eq_nil],rfl⟩
 |x::l,m,h=>by
  obtain⟨y,c,rfl⟩:=List.mem_map.mp (h.subset aai);obtain⟨a,e,d⟩:=vz f (h.trans ((List.perm_cons_erase c).map f)).cons_inv;exact⟨y::a,(e.cons y).trans (List.perm_cons_erase c).symm,by rw[d];rfl⟩
noncomputable def Xi(a:aJ)(i j:Nat):Bool:=decide (a.getD i 0<a.getD j 0)
def Rk(n:Nat)(a:aJ):Bool:=match runK n (Xi a) (kas_sort n)with
 |some p=>p.toList.isPerm (List.range n)&&p.toList.map (λi=>a.getD i 0)==List.range n
 |none=>false
def sorts:∀n,n<7->2<=n->∀σ∈sN (List.range n),Rk n σ=true:=by decide +kernel
end DI
end
section
namespace DI
open PySem PySem.Spec PyProof.Rows L2
def qI(h:Heap)(vs:az)(nss:aK):Prop:=vs.length=nss.length/\∀(i:Nat) (ns:ae),nss[i]?=some ns->∃t a,vs[i]?=some (.ref t)/\IsTup h t a.toArray/\IntsAre a ns
variable {nss:aK}{vs:az}
def qI.mono{h h':Heap}(k:∀b o,h.get? b=some o->h'.get? b=some o)(t:qI h vs nss):qI h' vs nss :=
 ⟨t.1,λi c e=>let ⟨a,aS,e1,⟨o,ho,r⟩,e3⟩:=t.2 i c e;⟨a,aS,e1,⟨o,k _ _ ho,r⟩,e3⟩⟩
def qI.mem{h:Heap}(t:qI h vs nss){v:Value}(f:v∈vs):∃a b e,v=.ref a/\IsTup h a b.toArray/\IntsAre b e:=by
 obtain⟨i,c⟩:=List.mem_iff_getElem?.mp f;have hl:i<nss.length:=by rw[<- t.1];exact(List.getElem?_eq_some_iff.mp c).1
 obtain⟨a,b,d,j,g⟩:=t.2 i _ (aao hl);rw[c]at d;cases d;exact⟨a,b,_,rfl,j,g⟩
section
variable {prog:aM}{w:World}{A:aN}{E:aG}{s:Shared}
theorem pB:∀{vs:az} {nss:aK} {Q:List (Option Value)->Shared->Prop},qI s.heap vs nss->(∀fs:List (Option Value),fs.length=vs.length->(∀f∈fs,∀v,f=some v->∃n t,v=.int n t)->Q fs s)->wpAny (model prog w) A (vs.mapM firstOfTuple') Q E s
 |[],_,_,_,h=>by rw[List.mapM_nil];exact aae (h [] rfl λ_ h=>nomatch h)
 |v::vs,[],_,t,_=>by have:=t.1;simp at this
 |v::vs,ns::nss,Q,t,h=>by
  obtain⟨a,r,e,⟨o,d,l,n,k⟩,g⟩:=t.2 0 ns rfl;cases e;rw[List.mapM_cons];refine aaa ?_;rw[PySem.W.kas_first_eq];refine aaa (PySem.W.Looks.here (show PySem.W.Looks (model prog w) s.heap (typeOf (.ref a)) o.cls from(PySem.W.Looks.ld d).andThen .now) ?_);rw[l,zab (by first|decide|simp)];refine aaa (listItems_at d k (aae ?_));refine aaa (pB (vs:=vs) (nss:=nss) ⟨by simpa using t.1,λi j e=>t.2 (i+1) j e⟩ λfs p m=>aae (h _ (by simp[p]) λf c v b=>?_));rcases List.mem_cons.mp c with rfl|c
  ·cases g with
   |nil=>simp at b
   |cons u q g=>simp at b;exact⟨_,_,b.symm⟩
  ·exact m f c v b
def LN(κ:SortKind):Prop:=κ=tuples' true\/κ=general'\/κ=oneType'
def kind_any{Q:SortKind->Shared->Prop}(t:qI s.heap vs nss)(G:vs≠[])(h:∀C,LN C->Q C s):wpAny (model prog w) A (keyKind' vs.toArray) Q E s:=by
 obtain⟨e,d,rfl⟩:∃e d,vs=e::d:=by
  cases vs with
  |nil=>exact absurd rfl G
  |cons e d=>exact⟨e,d,rfl⟩
 rw[kat_kind_eq,zbp,map_eq_pure_bind];refine aaa (aaa (pB t λfs hl D=>aae ?_));by_cases j:(fs.toArray.all λx=>x.isSome)=true
 ·rw[zac j];refine aaa (wpAny_rule ?_);obtain⟨c,J,p⟩:∃c:az,fs=c.map some/\∀v∈c,∃n t,v=.int n t:=by
   clear h hl t;induction fs with
   |nil=>exact⟨[],rfl,λ_ h=>nomatch h⟩
   |cons f fs H =>
    simp only[zbs,zaw,zaf]at j;obtain⟨c,N,L⟩:=H (λf y=>D f (aah _ y)) (by simpa using j.2);cases f with
    |none=>simp at j
    |some v =>
     exact⟨v::c,by rw[N];rfl,λu l=>by
      rcases List.mem_cons.mp l with rfl|l
      ·exact D _ aai _ rfl
      ·exact L u l⟩
  subst J;obtain⟨i,g,rfl⟩:∃i g,c=i::g:=by
   cases c with
   |nil=>simp at hl
   |cons a b=>exact⟨a,b,rfl⟩
  have q:(((i::g).map some).toArray.filterMap id)=(i::g).toArray:=by simp
  rw[q,oneTypeOnly'_eq,zbp,map_eq_pure_bind];refine aaa (aaa (aaa (PySem.W.kas_mapM (r:=Value.type "int") _ (λv k O m=>by
   obtain⟨n,t,rfl⟩:=p v k;exact(PySem.W.Looks.of_pure (M:=model prog w) rfl).here m) (aae ?_))))
  have B:((List.map (λ_=>Value.type "int") (i::g)).toArray.all λx=>x==Value.type "int")=true:=by
   simp only[zbs,zaN,zaH];intro _ _;show(Value.type "int" == Value.type "int")=true;decide
  have z:(List.map (λ_=>Value.type "int") (i::g)).toArray[0]?=some (Value.type "int"):=by simp
  rw[z];simp only[B,if_true];exact aae (aae (h _ (.inl rfl)))
 ·rw[zab j];by_cases F:((fs.toArray[0]?.bind id).isSome)=true
  ·rw[zac F];exact aae (h _ (.inr (.inl rfl)))
  ·rw[zab F];rw[oneTypeOnly'_eq,zbp,map_eq_pure_bind];refine aaa (aaa (aaa (PySem.W.kas_mapM (r:=Value.type "tuple") _ (λv k O m=>by
    obtain⟨a,R,P,rfl,⟨o,I,K,_⟩,_⟩:=t.mem k;refine PySem.W.Looks.here (show PySem.W.Looks (model prog w) s.heap (typeOf (.ref a)) o.cls from(PySem.W.Looks.ld I).andThen .now) ?_;rw[K];exact m) (aae ?_))))
   have B:((List.map (λ_=>Value.type "tuple") (e::d)).toArray.all λx=>x==Value.type "tuple")=true:=by
    simp only[zbs,zaN,zaH];intro _ _;show(Value.type "tuple" == Value.type "tuple")=true;decide
   have z:(List.map (λ_=>Value.type "tuple") (e::d)).toArray[0]?=some (Value.type "tuple"):=by simp
   rw[z];simp only[B,if_true];exact aae (aae (h _ (.inr (.inr rfl))))
def Nl{κ:SortKind}(B:LN κ)(m:A.units<cLine){a b:Addr}{q r:az}{ns g:ae}{Q:Bool->Shared->Prop}(l:IsTup s.heap a q.toArray)(k:IsTup s.heap b r.toArray)(j:IntsAre q ns)(i:IntsAre r g)(h:Q (HT.lexLt ns g) s):
  wpAny (model prog w) A (keyLt' κ (.ref a) (.ref b)) Q E s:=by
 rcases B with rfl|rfl|rfl
 ·obtain⟨o,c,_,n,f⟩:=l;obtain⟨H,z,_,I,G⟩:=k;exact PySem.W.kat_lt c f z G (vK 0 j i (by simp) h)
 ·exact PySem.W.kat_one _ _ (HT.ye l k (by simpa using j) (by simpa using i) m h)
 ·show wpAny (model prog w) A (oneLt' true (.ref a) (.ref b)) Q E s;rw[oneLt'_eq];simp only[if_true];refine aaa (wpAny_cRoomFor m ?_);obtain⟨⟨D,C,data,x⟩,c,p,n,f⟩:=id l;obtain⟨⟨J,t,data2,u⟩,v,e,y,d⟩:=id k;simp only at p f e d;subst p f e d;refine aaa (wpAny_callSpecialIfBound?_slot (name:=Str.ofString "__lt__") ⟨_,c,rfl⟩ acd (abx acd ⟨_,c,rfl⟩ PySem.F.entry_tuple_lt (PySem.F.args_tuple_lt_2 _ _) (HT.kB a b _ _ n y C t x u ns g (by simpa using j) (by simpa using i)) ⟨c,v,?_⟩));exact aa1 h
end
def uz(h:Heap)(d:Addr)(es:Array DictEntry)(ep:Nat):Prop:=∃o,h.get? d=some o/\o.ExactDict/\o.data=.dict es ep
section
variable {prog:aM}{w:World}{A:aN}{E:aG}{s:Shared}{d it:Addr}{es:Array DictEntry}{ep i:Nat}
def uz.typeIs(h:uz s.heap d es ep):s.TypeIs (.ref d) "dict":=let ⟨o,ho,hx,_⟩:=h;⟨o,ho,hx.1⟩
def Aj{Q:aG}(f:(d==sysModules)=false)(e:uz s.heap d es ep)
  (g:Q (.ref s.heap.objs.size) { s with heap:=s.heap.push { cls:=.type "dict_keyiterator",data:=.fields #[.ref d,.int 0 0,.int es.size 0,.int ep 0] } }):wpAny (model prog w) A (pyIter (.ref d)) Q E s:=by
 have a:=e.typeIs;obtain⟨o,c,h,b⟩:=e;refine wpAny_pyIter_slot a PySem.F.slot_dict_iter (aaZ PySem.F.slot_dict_iter a PySem.F.entry_dict_iter ?_ (PySem.F.args_dict_iter_1 _));unfold Builtin.«dict.__iter__» Builtin.Dict.dictSlotNone;refine aaa (aaa (wpAny_notOrdered_dict a (aae ?_)));show wpAny _ _ (Builtin.Dict.showsAll d >>= _) _ _ s;unfold Builtin.Dict.showsAll;rw[zab (by rw[f];exact zaj)];refine aaa (aae (aaa (acz c b (aaa (wpAny_dictEpoch c b ?_)))));exact aaa (abb (aae ⟨_,rfl,"dict_keyiterator",_,⟨_,aaq _ rfl,rfl⟩,PySem.F.slot_dict_keyiterator_next.lookup,g⟩))
def Ai{Q:Option Value->Shared->Prop}(a:s.heap.IsKeyIter it d i es.size ep)(k:uz s.heap d es ep)(j:i<es.size)
  (m:∀e,e.IsKeyIter it d (i+1) es.size ep->Heap.SameBut it s.heap e->Q (some es[i].key) { s with heap:=e }):wpAny (model prog w) A (pyNext (.ref it)) Q E s:=by
 obtain⟨o,c,l,b⟩:=id a;obtain⟨p,g,n,f⟩:=k;unfold pyNext;refine aaa (aca (aa0 (name:=Str.ofString "__next__") a.typeIs aa2 (aaZ aa2 a.typeIs PySem.F.entry_dict_keyiterator_next ?_ (PySem.F.args_dict_keyiterator_next_1 _))));refine aaa (aae (aaa (aaa ?_)))
 first|refine aaa (abg a.typeIs (aae ?_))|refine aaa (abp a.typeIs (aae ?_))
 refine aaa (wpAny_fieldsOf c b ?_);simp only[show Builtin.Dict_items.ownsTuple "dict_keyiterator" = false by decide,zat,if_false];show wpAny _ _ (if (Value.ref d==Value.none)=true then _ else _) _ _ s;rw[zab (show ¬ ((Value.ref d==Value.none)=true) from zaj)];refine aaa (aae (aaa (acz g f ?_)));rw[zab (by simp)];refine aaa (aae (aaa (wpAny_dictEpoch g f ?_)));rw[zab (by simp)];refine aae ?_;simp only[show ¬ ((i:Int)<0) from by left,if_false,zan,Array.getElem?_eq_getElem j];refine aaa ?_
 first|refine aaa (abg a.typeIs (aae ?_))|refine aaa (abp a.typeIs (aae ?_))
 refine aaa (wpAny_isOneOf_keyiter a.typeIs ?_);show wpAny _ _ (setField (.ref it) 1 (rawInt ((i:Int)+1)) >>= _) _ _ s;refine aaa (acn c b (by simp) ?_);have h:(s.heap.update it (Obj.mapFields (·.setIfInBounds 1 (rawInt ((i:Int)+1))))).IsKeyIter it d (i+1) es.size ep :=
  ⟨_,aa9 _ c (Obj.isFreed_of_fields (Obj.data_mapFields b _)),(Obj.cls_mapFields ..).trans l,by rw[Obj.data_mapFields b];simp[rawInt]⟩
 refine aaa (abd (aaa (wpAny_isOneOf_keyiter (s:={ s with heap:=s.heap.update it (Obj.mapFields (·.setIfInBounds 1 (rawInt ((i:Int)+1)))) }) h.typeIs ?_)));show wpAny _ _ (pure es[i].key) _ _ _;exact aae (aae ⟨_,rfl,aae (m _ h (abt ..))⟩)
def FW{Q:Option Value->Shared->Prop}(n:A.handled=none)(c:s.heap.IsKeyIter it d i es.size ep)(l:uz s.heap d es ep)(e:es.size<=i)
  (p:∀h,Heap.ExtBut it s.heap h->Q none { s with heap:=h }):wpAny (model prog w) A (pyNext (.ref it)) Q E s:=by
 obtain⟨o,f,t,g⟩:=id c;obtain⟨r,k,q,j⟩:=l;unfold pyNext;refine aaa (aca (aa0 (name:=Str.ofString "__next__") c.typeIs aa2 (aaZ aa2 c.typeIs PySem.F.entry_dict_keyiterator_next ?_ (PySem.F.args_dict_keyiterator_next_1 _))));refine aaa (aae (aaa (aaa ?_)))
 first|refine aaa (abg c.typeIs (aae ?_))|refine aaa (abp c.typeIs (aae ?_))
 refine aaa (wpAny_fieldsOf f g ?_);simp only[show Builtin.Dict_items.ownsTuple "dict_keyiterator" = false by decide,zat,if_false];show wpAny _ _ (if (Value.ref d==Value.none)=true then _ else _) _ _ s;rw[zab (show ¬ ((Value.ref d==Value.none)=true) from zaj)];refine aaa (aae (aaa (acz k j ?_)));rw[zab (by simp)];refine aaa (aae (aaa (wpAny_dictEpoch k j ?_)));rw[zab (by simp)];refine aae ?_;simp only[show ¬ ((i:Int)<0) from by left,if_false,zan,Array.getElem?_eq_none e];refine aaa ?_
 first|refine aaa (abg c.typeIs (aae ?_))|refine aaa (abp c.typeIs (aae ?_))
 show wpAny _ _ (setField (.ref it) 0 .none >>= _) _ _ s;refine aaa (acn f g (by simp) ?_);show wpAny _ _ (newExc (.type "StopIteration") [] >>= _) _ _ _;refine aaa ?_;simp only[newExc,newTuple];refine aaa (abb ?_ (by size_fits));refine aaa (m:=firstArgMember _ _) (wpAny_of_eq (a:=Value.none) (by first|rfl | (simp only[firstArgMember];rfl)) ?_);refine abb ?_ (by size_fits);simp only[raiseNew];refine aaa (wpAny_handled ?_);rw[show A.in1.handled=none from n];refine aaa (aae (wpAny_throw ?_));refine aaa (wpAny_isInstance (T:="StopIteration") (b:=true) ⟨_,aaq _ rfl,rfl⟩ isSubtype_stop ?_);exact aae (p _ (((abt ..).extBut.push _).push _))
end
end DI
end
section
namespace DI
open PySem PySem.Spec PyProof.Rows L2 PySem.W
theorem ED:∀a b c:ae,HT.lexLt a b=true->HT.lexLt b c=true->HT.lexLt a c=true
 |[],[],_,h,_=>by rw[HT.kD]at h;cases h
 |[],_::_,[],_,h=>by rw[HT.dw]at h;cases h
 |[],_::_,_::_,_,_=>rfl
 |_::_,[],_,h,_=>by rw[HT.dw]at h;cases h
 |_::_,_::_,[],_,h=>by rw[HT.dw]at h;cases h
 |x::a,y::b,z::c,h1,h2=>by
  rw[HT.d7]at *;by_cases e:x=y
  ·subst e;rw[zac rfl]at h1;by_cases d:x=z
   ·subst d;rw[zac rfl]at h2 ⊢;exact ED a b c h1 h2
   ·rw[zab d]at h2 ⊢;exact h2
  ·rw[zab e]at h1;have f:x<y:=aab h1;by_cases d:y=z
   ·subst d;rw[zab (by left)];exact aaT f
   ·rw[zab d]at h2;have g:y<z:=aab h2;rw[zab (by left)];exact aaT (by left)
theorem tu:∀a b:ae,HT.lexLt a b=true->HT.lexLt b a=false
 |[],[],_=>rfl
 |[],_::_,_=>rfl
 |_::_,[],h=>by rw[HT.dw]at h;cases h
 |x::a,y::b,h=>by
  rw[HT.d7]at *;by_cases e:x=y
  ·subst e;rw[zac rfl]at h ⊢;exact tu a b h
  ·rw[zab e]at h;have l:x<y:=aab h;rw[zab (by left)];exact abl (by left)
theorem tm:∀a b:ae,a≠b->HT.lexLt a b=true\/HT.lexLt b a=true
 |[],[],h=>absurd rfl h
 |[],_::_,_=>.inl rfl
 |_::_,[],_=>.inr rfl
 |x::a,y::b,h=>by
  rw[HT.d7,HT.d7];by_cases e:x=y
  ·subst e;rw[zac rfl,zac rfl];exact tm a b λz=>h (by rw[z])
  ·rw[zab e,zab (Ne.symm e)];rcases Int.lt_or_gt_of_ne e with l|l
   ·exact .inl (aaT l)
   ·exact .inr (aaT l)
def bY(nss:aK):aK:=nss.mergeSort λa b=>!HT.lexLt b a
def Pt(nss:aK):Prop:=nss.Pairwise λa b=>HT.lexLt a b=true
variable {nss:aK}
def oz(h:nss.Nodup):Pt (bY nss):=by
 have p:(bY nss).Perm nss:=abr _ _;have nd:(bY nss).Nodup:=p.nodup_iff.mpr h;have i:(bY nss).Pairwise λa b=>(!HT.lexLt b a)=true:=List.pairwise_mergeSort (λa b c d f=>by
  cases e:HT.lexLt c a with
  |false=>rfl
  |true =>
   exfalso;by_cases g:b=c
   ·subst g;rw[e]at d;cases d
   ·rcases tm b c g with l|l
    ·rw[ED _ _ _ l e]at d;cases d
    ·rw[l]at f;cases f) (λa b=>by
  cases e:HT.lexLt b a with
  |false=>rfl
  |true=>rw[tu _ _ e];rfl) nss
 exact(i.and nd).imp λ{a b} ⟨d,f⟩=>by
  rcases tm a b f with l|l
  ·exact l
  ·rw[l]at d;cases d
def ltN(nss:aK)(i j:Nat):Bool:=HT.lexLt (nss.getD i []) (nss.getD j [])
set_option tactic.hygienic true in
def Ri(A:nss.Nodup)(s:2<=nss.length)(w:nss.length<7):∃p,runK nss.length (ltN nss) (kas_sort nss.length)=some p/\Arr p nss.length/\(p.toList.map λi=>nss.getD i [])=bY nss:=by
 have o:=oz A;have g:nss.Perm (bY nss):=(abr _ _).symm;have hl:=g.length_eq;generalize bY nss=S at o g hl;have r:S=(List.range nss.length).map λi=>S.getD i []:=by
  rw[hl];refine acC (by simp) λi x s=>?_;simp[x]
 rw[r]at g;obtain⟨d,l,u⟩:=vz _ g;have B:d.length=nss.length:=by rw[l.length_eq,List.length_range]
 have f:∀i,i<nss.length->d.getD i 0<nss.length/\nss.getD i []=S.getD (d.getD i 0) []:=λi k=>by
  have n:i<d.length:=by left
  refine⟨?_,?_⟩
  ·rw[show d.getD i 0=d[i] by simp[n]];exact List.mem_range.mp (l.subset (aa6 _))
  ·have e:nss[i]?=(d[i]?).map λi=>S.getD i []:=by
    conv=>lhs;rw[u]
    rw[List.getElem?_map]
   rw[zap,e,List.getElem?_eq_getElem n,show d.getD i 0=d[i] by simp[n]];rfl
 have m:∀i j,i<nss.length->j<nss.length->ltN nss i j=Xi d i j:=λi j k v=>by
  obtain⟨z,y⟩:=f i k;obtain⟨b1,b2⟩:=f j v;unfold ltN Xi;rw[y,b2];generalize d.getD i 0=a at *;generalize d.getD j 0=b at *;have up:∀a b,a<b->b<nss.length->HT.lexLt (S.getD a []) (S.getD b [])=true:=λa b t C=>by
   have:=List.pairwise_iff_getElem.mp o a b (by left) (by left) t;simpa [show a<S.length by left,show b<S.length by left]using this
  rcases Nat.lt_trichotomy a b with h|h|h
  ·rw[up a b h b1,zaB h]
  ·subst h;rw[zau (Nat.lt_irrefl _)];cases q:HT.lexLt (S.getD a []) (S.getD a [])with
   |false=>rfl
   |true=>exact(tu _ _ q).symm.trans q▸rfl
  ·rw[tu _ _ (up b a h z),zau (by left)]
 have c:=sorts nss.length w s d (qZ l);rw[run_eq m];unfold Rk at c;split at c
 ·rename_i p e;rw[zaf,zbr,List.isPerm_iff]at c;refine⟨p,e,⟨by rw[<- zaE,c.1.length_eq,List.length_range],c.1⟩,?_⟩;rw[r,<- c.2,zam];exact aax λi k=>(f i (List.mem_range.mp (c.1.subset k))).2
 ·cases c
def Rj(h:nss.length<2):((List.range nss.length).map λi=>nss.getD i [])=bY nss:=by
 match nss,h with
 |[],_=>simp[bY]
 |[x],_=>simp[bY]
end DI
end
section
namespace DI
open PySem PySem.Spec PyProof.Rows L2
variable {ep:Nat}{nss:aK}
section
variable {prog:aM}{w:World}{A:aN}{E:aG}{s:Shared}
def Di{a:Addr}{vs:az}{n:Nat}{P:PySem.Fin->Shared->Prop}(V:A.units<cLine)(q:s.heap.get? a=some (seqObj "list" vs.toArray n))(Cr:vs.length<7)(GO:nss.Nodup)
  (m:qI (((s.heap.update a (Obj.mapSeq λ_=>#[])).push (seqObj "tuple" vs.toArray 0)).push (seqObj "list" #[] 0)) vs nss)
  (h:∀p:Array Nat,Arr p vs.length->(p.toList.map λi=>nss.getD i [])=bY nss->P (.done (.ret .none)) { s with heap:=sortedHeap s.heap a vs (List.toArray (p.toList.map λi=>vs.getD i Value.none)) }) :
  wpAny (model prog w) A (Builtin.«list.sort» ⟨[.ref a],[]⟩) P E s:=by
 rw[list_sort_plain];have ha:a<s.heap.objs.size:=aag q;have d:vs.toArray.size=vs.length:=by simp
 have B:vs.length<=sizeLine:=by rw[sizeLine_eq];left
 have hl:=m.1;refine aaa (listItems_at q rfl (aaa (listUpdate_at q rfl ?_ (by rw[d];exact B) (aa3 _))));obtain⟨f,O⟩:∃f,(s.heap.update a (Obj.mapSeq λ_=>#[])).get? a=some (seqObj "list" #[] f):=⟨_,get?_update_seq q (λ_=>#[])⟩
 refine aaa (seqEpoch_at O rfl (aaa (wpAny_newTuple (aaa (acw (abd ?_) (aa3 _))) (by simpa using B))));have k:(((s.heap.update a (Obj.mapSeq λ_=>#[])).push (seqObj "tuple" vs.toArray 0)).push (seqObj "list" #[] 0)).get? a=some (seqObj "list" #[] f):=aad _ (aad _ O);show wpAny (model prog w) A _ P E ({ s with heap:=((s.heap.update a (Obj.mapSeq λ_=>#[])).push (seqObj "tuple" vs.toArray 0)).push (seqObj "list" #[] 0) }:Shared);dsimp only;have fin:∀(c:SortSt) (p:Array Nat),Arr p vs.length->(p.toList.map λi=>nss.getD i [])=bY nss->(arrOf c).map (·.2)=List.toArray (p.toList.map λi=>vs.getD i Value.none)->failedOf c=none->wpAny (model prog w) A (do
   let touched:=(<- seqEpoch a) != f
   Builtin.List.listUpdate (.ref a) λ_=>(arrOf c).map (·.2)
   if let some e:=failedOf c then rule "list.sort.comparison-raised";throw e
   if touched then rule "list.sort.modified";raiseError "ValueError" "list modified during sort"
   ret .none) P E ({ s with heap:=((s.heap.update a (Obj.mapSeq λ_=>#[])).push (seqObj "tuple" vs.toArray 0)).push (seqObj "list" #[] 0) }:Shared):=by
  intro c p o D K J;refine aaa (seqEpoch_at k rfl ?_);rw[K];refine aaa (listUpdate_at k rfl ?_ (aa3 _) (by rw[zad,zaa,zaE,o.sz];exact acx B));rw[J];simp only[bne_self_eq_false,zat,if_false];exact aae (h p o D)
 by_cases b:vs.toArray.size<2
 ·rw[zac b,zac b];refine aaa (aae ?_);rw[StateT.run_pure];refine aaa (aae ?_);rw[d]at b;have H:Arr (List.toArray (List.range vs.length)) vs.length:=⟨by simp,by simp⟩
  refine fin (SortSt.mk' general' (vs.toArray.zip vs.toArray) #[] 7 none) (List.toArray (List.range vs.length)) H ?_ ?_ rfl
  ·rw[hl]at b ⊢;exact Rj b
  ·apply Array.toList_inj.mp;show(Array.map (·.2) (vs.toArray.zip vs.toArray)).toList=_;rw[Array.toList_map,show(vs.toArray.zip vs.toArray)=pairsOf vs from rfl,pairsOf_toList,List.map_snd_zip (Nat.le_refl _)];refine acC (by simp) λi h1 b=>?_;simp[h1]
 ·rw[zab b,zab b];rw[d]at b;refine aaa (kind_any m (λz=>by rw[z]at b;simp at b) λL Y=>?_);obtain⟨p6,v,u,t⟩:=Ri GO (by rw[<- hl];left) (by rw[<- hl];exact Cr);refine aaa (aaA (PySem.W.kat_run (ks:=vs) (vs:=vs) (κ:=L) (Q:=λc g=>g=({ s with heap:=((s.heap.update a (Obj.mapSeq λ_=>#[])).push (seqObj "tuple" vs.toArray 0)).push (seqObj "list" #[] 0) }:Shared)/\∃p,Arr p vs.length/\(p.toList.map λi=>nss.getD i [])=bY nss/\(arrOf c).map (·.2)=List.toArray (p.toList.map λi=>vs.getD i Value.none)/\failedOf c=none)
   (G:=λp g=>g=({ s with heap:=((s.heap.update a (Obj.mapSeq λ_=>#[])).push (seqObj "tuple" vs.toArray 0)).push (seqObj "list" #[] 0) }:Shared)/\Arr p vs.length/\(p.toList.map λi=>nss.getD i [])=bY nss) rfl (by left) (by left) (λp c g X F Z I=>⟨I.1,p,I.2.1,I.2.2,PySem.W.kat_snds rfl F,Z⟩) ?_) (λr g ⟨e,p,o,D,K,J⟩=>?_) λ_ _ e=>e)
  rotate_left
  ·subst e;exact fin r.2 p o D K J
  ·rw[hl];refine DD (lt:=ltN nss) (n:=nss.length) (λi j C N M hC=>?_) ⟨rfl,u,t⟩ _ v;obtain⟨x,aS,f,U,T⟩:=m.2 i _ (aao N);obtain⟨y,IT,e2,S,R⟩:=m.2 j _ (aao M);unfold PySem.W.kas_ask;rw[show vs.getD i Value.none=.ref x by simp[f],show vs.getD j Value.none=.ref y by simp[e2]];refine Nl Y V U S T R ?_;have e3:nss.getD i []=nss[i]:=by simp[N]
   have e4:nss.getD j []=nss[j]:=by simp[M]
   have l:C (HT.lexLt (nss.getD i []) (nss.getD j [])) _:=hC;rw[e3,e4]at l;exact l
def FV{es:Array DictEntry}(n:A.handled=none)(I d:Addr)(m:d≠I):Walks prog w A I [I,d] [I] es.size (λi v=>∃e,es[i]?=some e/\v=e.key) (λi h=>h.IsKeyIter I d i es.size ep/\uz h d es ep) where
 sub:=λb c=>by simp at c;simp[c]
 frame:=λ_ _ _ a j=>⟨a.1.at λo e=>j I (by simp) o e,let ⟨o,ho,r⟩:=a.2;⟨o,j d (by simp) o ho,r⟩⟩
 item:=λi s Q E k a f=>Ai a.1 a.2 k λg q l=>f _ g s.toks ⟨es[i],abm k,rfl⟩ ⟨q,let ⟨o,ho,r⟩:=a.2;⟨o,l.extBut d o m ho,r⟩⟩ λb o c e=>l.extBut b o (λh=>c (by simp[h])) e
 done:=λs Q E a f=>FW n a.1 a.2 (aaj _) λg p=>f g s.toks λb o c e=>p b o (λh=>c (by simp[h])) e
 self:=λ_ _ _ _ a f=>wpAny_pyIter_keyiter a.1 f
def O5{d:Addr}{es:Array DictEntry}(lo:(d==sysModules)=false):PySem.W.KdlSrc prog w "dict" d d es.size (λi v=>∃e,es[i]?=some e/\v=e.key) (λh=>uz h d es ep) where
 type:=λ_ a=>a.typeIs
 there:=λ_ a=>let ⟨_,ho,_⟩:=a;⟨aag ho,aag ho⟩
 keep:=λ_ _ a c=>let ⟨o,ho,r⟩:=a;⟨o,c d (.inl rfl) o ho,r⟩
 notList:=by decide
 notTuple:=by decide
 hint:=λ_ _ _ _ a b=>PySem.W.kdl_hint_dict a.typeIs b
 iter:=λ_ _ f a=>⟨_,_,(λ_ _ b=>Aj lo a b),FV f _ d (let ⟨_,ho,_⟩:=a;aak (aag ho)),⟨⟨_,aaq _ rfl,rfl,rfl⟩,let ⟨o,ho,r⟩:=a;⟨o,aad _ ho,r⟩⟩⟩
def uZ{d:Addr}{es:Array DictEntry}{Q:aG}(G:A.handled=none)(L:A.units+2<cLine)(lo:(d==sysModules)=false)(D:uz s.heap d es ep)(K:es.size<7)(J:nss.Nodup)(z:qI s.heap (es.toList.map (·.key)) nss)
  (h:∀(S:Addr) (h':Heap) (tk e:Nat) (p:Array Nat),s.heap.get? S=none->(∀b o,s.heap.get? b=some o->h'.get? b=some o)->Arr p es.size->(p.toList.map λi=>nss.getD i [])=bY nss ->
   h'.get? S=some (seqObj "list" (List.toArray (p.toList.map λi=>(es.toList.map (·.key)).getD i Value.none)) e)->Q (.ref S) { s with heap:=h',toks:=tk }) :
  wpAny (model prog w) A (call (.builtin "sorted") [.ref d]) Q E s:=by
 refine Calls.call_function_entry kind_sorted plain_sorted entry_sorted (args_sorted1 _) ?_;unfold Builtin.«sorted»;have v:es.size<=sizeLine:=by rw[sizeLine_eq];left
 refine aaa (m:=checkCount "sorted" 1 1 _) (aae (aaa (PySem.W.kdu_collect (A:=A.in1) (O5 lo) G D v λa tk f g n=>?_)));have I:f.toList=es.toList.map (·.key):=by
  refine acy λi=>?_;rw[List.getElem?_map,Array.getElem?_toList,Array.getElem?_toList];by_cases F:i<es.size
  ·have j:i<f.size:=by rw[n.1];exact F
   obtain⟨e,l,y⟩:=n.2 i f[i] (abm j);rw[Array.getElem?_eq_getElem j,l,y];rfl
  ·rw[Array.getElem?_eq_none (by rw[n.1];left),Array.getElem?_eq_none (by left)];rfl
 rw[I];generalize H:es.toList.map (·.key)=c at *;have t:c.length=es.size:=by rw[<- H];simp
 refine aaa (acw ?_ (by rw[t];exact v));show wpAny _ _ _ _ _ ({ s with heap:=a.push (seqObj "list" c.toArray 0),toks:=tk }:Shared);have r:(a.push (seqObj "list" c.toArray 0)).get? a.objs.size=some (seqObj "list" c.toArray 0):=aaq _ rfl;have x:∀b o,s.heap.get? b=some o->((((a.push (seqObj "list" c.toArray 0)).update a.objs.size (Obj.mapSeq λ_=>#[])).push (seqObj "tuple" c.toArray 0)).push (seqObj "list" #[] 0)).get? b=some o:=λb o e=>by
  refine aad _ (aad _ ?_);rw[Heap.get?_update_other _ _ (Nat.ne_of_gt (Heap.lt_size (g b o e)))];exact aad _ (g b o e)
 have k:s.heap.get? a.objs.size=none:=by
  cases q:s.heap.get? a.objs.size with
  |none=>rfl
  |some o=>exact absurd (aag (g _ o q)) (aaz _)
 refine aaa (abd (aaZ slot_list_sort ⟨_,r,rfl⟩ entry_list_sort (Di (s:={ s with heap:=a.push (seqObj "list" c.toArray 0),toks:=tk }) (nss:=nss) (show A.in1.in1.units<cLine by show A.units+1+1<cLine;left) r (by rw[t];exact K) J (z.mono x) λp C B=>⟨_,rfl,?_⟩) (args_list_sort _)));obtain⟨e,l⟩:=sortedHeap_at (out:=List.toArray (p.toList.map λi=>c.getD i Value.none)) r;refine aae ⟨_,rfl,h a.objs.size _ tk e p k (λb o e=>?_) (by rw[<- t];exact C) B l⟩;have u:=aag (g b o e);rw[sortedHeap_old (Nat.ne_of_lt u) (by rw[size_push'];exact Nat.lt_succ_of_lt u)];exact aad _ (g b o e)
end
variable {H:Hp}{X:Cx}{σ:L2.St}
def Inv.Sk{pins:aw}{s:Shared}{h':Heap}{t':Nat}{a:Addr}{o:HO}(I:Inv X pins σ H s)(k:∀b u,s.heap.get? b=some u->h'.get? b=some u)(f:s.heap.get? a=none)(new:dh (upd H a o) h' a o):
  H a=none/\Inv X pins σ (upd H a o) { s with heap:=h',toks:=t' }:=by
 have d:H a=none:=by
  cases q:H a with
  |none=>rfl
  |some u =>
   obtain⟨z,c⟩:=gR (I.cJ a u q);rw[f]at c;exact nk c
 have up:∀b u,H b=some u->upd H a o b=some u:=λb u e=>by rw[bq (d6 e d)];exact e
 refine⟨d,I.step (g':=s.gens) (d':=s.drawn) (ch:=[]) (λb i=>nomatch i) (λb o _ _ _ e _=>k b o e) (λb o _ _ _ e _=>⟨o.slots,k b o e⟩) (λb u _ e n=>?_)
  (λb o _ e=>⟨o,k b o e⟩) (λ_ _ e=>up _ _ e) (λ_ _ _ e=>up _ _ e) (λm h=>?_) (λb u e=>?_) I.bare⟩
 ·rw[bq λz=>by rw[z,f]at e;cases e];exact n
 ·obtain⟨o,j,ep,g,r⟩:=h;exact⟨o,j,ep,k _ o g,r⟩
 ·by_cases z:b=a
  ·subst z;rw[bc]at e;cases e;exact new
  ·rw[bq z]at e;exact(I.cJ b u e).jD (k b)
variable {tg:Expr}
section
variable {X:Cx}{pins:aw}{σ:St}{H:Hp}{s:Shared}{d:Addr}{cs:aK}{as:bo}{xs:ag}{ep:Nat}
def sF(I:Inv X pins σ H s)(h:H d=some (.ext (DO d cs as xs ep))):∃a:Array DictEntry,uz s.heap d a ep/\a.size=as.length/\a.toList.map (·.key)=as.map Value.ref/\cs.Nodup/\as.length=cs.length/\(d==sysModules)=false:=by
 obtain⟨⟨l,o,a,k,b,m,g,e,j,c,i,hl,f⟩,_⟩:=(show dh H s.heap d (.ext (DO d cs as xs ep)) from I.cJ d _ h)
 refine⟨a,⟨o,g,e,j⟩,?_,?_,i,?_,f⟩
 ·rw[<- zaE,c,<- b,zaa,zaa]
 ·rw[c,<- b,zam,zam];rfl
 ·rw[<- k,<- b,zaa,zaa]
noncomputable def Itd(d:Addr)(cs:aK)(as:bo)(xs:ag)(ep:Nat):It :=
 ⟨λi H=>H d=some (.ext (DO d cs as xs ep))/\i<as.length,λi H v b=>b=H/\∃a,as[i]?=some a/\v=.ref a,λi H=>H d=some (.ext (DO d cs as xs ep))/\as.length<=i⟩
def AV{P:aM}{w:World}{K:ao}(d it:Addr)(cs:aK)(as:bo)(xs:ag)(ep:Nat):Turn P w K tg (Itd d cs as xs ep) [it] it (λi h=>h.IsKeyIter it d i as.length ep) where
 mem:=by simp
 obj:=λi h a b f=>by
  have e:b=it:=by simpa using f
  subst e;obtain⟨o,e,c,d⟩:=a;exact⟨o,e,λv z=>by rw[d]at z;cases z⟩
 keep:=λi h n a k=>a.at λo e=>k it (by simp) o e
 item:=by
  intro X u hw x L i pins s σ H E I m a r;subst u hw x;obtain⟨t,j⟩:=r;obtain⟨F,q,g,G,_⟩:=sF I t;obtain⟨D,C,N,B,A,y⟩:=m it (by simp);have J:i<F.size:=by rw[g];exact j
  have R:F[i].key=.ref as[i]:=by
   have:=aaU (λl=>l[i]?) G;simp only[List.getElem?_map,Array.getElem?_toList]at this;rw[Array.getElem?_eq_getElem J,List.getElem?_eq_getElem j]at this;exact aat this
  rw[<- g]at a;refine Ai a q J λn p M=>?_;have S:Inv X pins σ H { s with heap:=n }:=I.turned (t':=s.toks) (λb o f e=>(M.2 b f).trans e) D C B A y;obtain⟨o,e,c,Q⟩:=id p;refine⟨_,rfl,zU (s:={ s with heap:=n }) e c Q (by decide) ⟨.ref as[i],H,S,by rw[R];rfl,⟨rfl,as[i],aao j,rfl⟩,?_,λb f=>(m b f).1⟩⟩;rw[g]at p;exact p
 done:=by
  intro X u hw x L i pins s σ H E I m a r;subst u hw x;obtain⟨t,j⟩:=r;obtain⟨F,q,g,G,_⟩:=sF I t;obtain⟨D,C,N,B,A,y⟩:=m it (by simp);rw[<- g]at a;exact FW (I.ok.hd L) a q (by rw[g];exact j) λn O=>⟨rfl,I.turned (t':=s.toks) (λb o f e=>O b o f e) D C B A y⟩
 self:=λ_ _ _ _ _ a h=>wpAny_pyIter_keyiter a h
end
def pK(xs:aa):O D:=match one xs with
 |some d=>match iC d with
  |some z=>ok (.lst .ow (z.1.map hJ))
  |none=>none
 |none=>none
variable {xs:aa}
def B6{r:D}(h:pK xs=ok r):∃f c g,xs=[.de f c g]/\r=.lst .ow (c.map hJ):=by
 unfold pK at h;cases b:one xs with
 |none=>rw[b]at h;exact nk h
 |some d =>
  rw[b]at h;have h:(match iC d with|some z=>ok (D.lst .ow (z.1.map hJ))|none=>none)=ok r:=h;cases a:iC d with
  |none=>rw[a]at h;exact nk h
  |some z =>
   rw[a]at h;cases h;obtain⟨f,e⟩:=lS a;exact⟨f,z.1,z.2,by rw[bV b,e],rfl⟩
theorem gS(g:Fl->Fl):∀a:aK,au g (a.map hJ)=a.map hJ
 |[]=>rfl
 |c::a=>by
  show aB g (hJ c)::au g (a.map hJ)=_;rw[gS g a];have:∀c:ae,au g (c.map D.int)=c.map D.int:=λc=>by
   induction c with
   |nil=>rfl
   |cons i c b=>show D.int i::au g (c.map D.int)=_;rw[b];rfl
  show D.tup (au g (c.map D.int))::_=_;rw[this];rfl
def zp{T:nq}{N:kA}{k:bt}{a:Addr}{c:ae}(h:T a (c.map V.int)):Rep T N k (.ref a) (hJ c):=.tup h (aI.ints c)
def Gb(_:Scope)(_:av)(e:Expr):Option (ak):=if isNm e=true then some [e]else none
variable {F:Addr->Prop}{args:ak}{cs:aA}{Φ:aU}
def FU{n:Nat}(P:Φ n=pK){sc:Scope}{bl:av}{k:Nat}(L:PX X sc bl k){e:Expr}(he:Gb sc bl e=some args)(ht:(decide (1100<=n)||hU tg)=true)(hs:ql X F Φ cs args)
  {pins:aw} {s:Shared} {R:ai} {M:Addr->Option bt} {ρ:a_} {d:D} {items:aa} (I:Inv X pins σ H s) (Si:SI X F R M ρ σ H) (S:bL Φ cs ρ=ok xs) (W:Φ n xs=ok d) (ei:kI d=ok items) (Y:It->Hp->Prop)
  (hR:∀J G y,aL H G->cF X.K (gP X F) R M (dJ cs) H G y xs->Ki X.K J G y xs items->Y J G) :
  wpAny (model X.prog X.w) X.A (eval e X.env) (λv g=>wpAny (model X.prog X.w) X.A (pyIter v) (Ct X pins σ tg Y) X.xe g) X.xe s:=by
 unfold Gb at he;by_cases U:isNm e=true
 ·rw[zac U]at he;cases he;cases cs with
  |nil=>exact hs.elim
  |cons c cs=>cases cs with
   |cons _ _=>exact hs.2.2.2.elim
   |nil =>
    rw[P]at W;obtain⟨f,t,y,rfl,rfl⟩:=B6 W;cases ei;obtain⟨x,ex,S⟩:=aH S;cases S;refine dG (hs.1 pins s σ H _ I (tD.intro Si ex (Q:=λv r=>aL H r/\b8 X.K (gP X F) R M (gE c) H r v (.de f t y)) λv r C r1=>⟨C,r1⟩)) λu g b4=>?_;obtain⟨v,r,E,rv,C,r1⟩:=b4;obtain⟨τt,fr,q1⟩:=id r1;cases q1 with
    | @de _ p _ as N ep _ _ GO hk hr =>
     cases rv;have z:=GO.dat;obtain⟨es,NM,hz,mL,SX,hlen,Jf⟩:=sF E z;refine Aj Jf NM ?_;have V:g.heap.objs.size<=g.heap.objs.size:=aaj _;refine⟨g.heap.objs.size,[g.heap.objs.size],_,Itd p t as N ep,r,rfl,E.kept (t':=g.toks) (λb o e=>aad _ e),AV p g.heap.objs.size t as N ep,⟨_,aaq _ rfl,rfl,by rw[hz];rfl⟩,λb V=>?_,hR _ r [.ref p] C (cF.cons C (aL.refl _) (r1.mono λj hj=>aaB _ hj) ⟨λ_=>none,λ_ _ h=>by simp at h,.nil⟩) ?_⟩
     ·have:b=g.heap.objs.size:=by simpa using V
      subst this;exact E.yA (aaj _) (E.cJ.fresh (aaj _))
     ·rw[gS];have jD:∀l,rP X.K r [.ref p] [.de f t y] l->l p=some (.ext (DO p t as N ep)):=λl m=>by
       obtain⟨R0,O,hl⟩:=m.n0;cases O with
       |cons h0 _=>cases h0 with
        |de B _ _ =>
         cases f with
         |sc=>exact B.elim
         |ow=>exact hl p _ B.2 z
         |fz=>exact hl p _ B.2 z
         |al=>exact hl p _ B.2 z
      refine⟨λi l Z m T q=>⟨jD l m,by rw[zaa]at q;left⟩,λi l Z x ko m T q hy=>?_,λi l Z m T q=>⟨jD l m,by rw[zaa]at q;left⟩⟩;obtain⟨rfl,a,ha,rfl⟩:=hy;rw[zaa]at q;refine⟨aL.refl _,hJ t[i],by rw[List.getElem?_map,List.getElem?_eq_getElem q];rfl,zp (m.tp _ _ (hk.tup i a _ ha (aao q)))⟩
 ·rw[zab U]at he;cases he
def yS(P:X.calm=true)(G:X.A.units+2<cLine):iO X (.builtin "sorted") (λxs H Q=>∃(d:Addr) (cs:aK) (as:bo) (t:ag) (ep:Nat),xs=[.ref d]/\H d=some (.ext (DO d cs as t ep))/\fL (bg X.K H) as cs/\cs.length<7 /\
  ∀(l:Addr) (bs:bo),H l=none->fL (bg X.K H) bs (bY cs)->Q (.ref l) (upd H l (.lst (bs.map V.ref)))):=by
 intro pins s σ H xs us Q I r h;obtain⟨d,cs,as,t,ep,rfl,O,w,T,q⟩:=h;obtain⟨u,rfl,y⟩:=r.one;cases y;obtain⟨U,NM,E,v,Z,hlen,Jf⟩:=sF I O;have J:qI s.heap (U.toList.map (·.key)) cs:=by
  rw[v];refine⟨by rw[zaa,hlen],λi B e=>?_⟩;have f:i<as.length:=by rw[hlen];exact(List.getElem?_eq_some_iff.mp e).1
  obtain⟨IT,z,C,_⟩:=I.tuple (w.tup i as[i] B (aao f) e);exact⟨as[i],IT,by rw[List.getElem?_map,List.getElem?_eq_getElem f];rfl,C,eF z⟩
 refine uZ (I.ok.hd P) G Jf NM (by rw[E,hlen];exact T) Z J λS h' x e p R P6 k M hl=>?_;rw[v]at hl;have W:(p.toList.map λi=>(as.map Value.ref).getD i Value.none)=(p.toList.map λi=>as.getD i 0).map Value.ref:=by
  rw[zam];refine aax λi f=>?_;have g:i<as.length:=by
   have:=List.mem_range.mp (k.pm.mem_iff.mp f);left
  simp[g]
 rw[W]at hl;have Y:fL (bg X.K H) (p.toList.map λi=>as.getD i 0) (bY cs):=by
  rw[<- M];refine⟨by simp,λj a c b n=>?_⟩;rw[List.getElem?_map]at b n;cases m:p.toList[j]? with
  |none=>rw[m]at b;exact nk b
  |some i =>
   rw[m]at b n;have g:i<as.length:=by
    have:=List.mem_range.mp (k.pm.mem_iff.mp (aaC m));left
   cases b;cases n;exact w.tup i _ _ (by simp[g]) (by simp[show i<cs.length by left])
 have SA:∀l:bo,Vals (l.map V.ref) (l.map Value.ref):=λl=>by
  induction l with
  |nil=>exact .nil
  |cons a l D=>exact .cons rfl D
 have L:sizeLine=16777216:=abn;obtain⟨N,I'⟩:=Inv.Sk (t':=x) (o:=.lst ((p.toList.map λi=>as.getD i 0).map V.ref)) I P6 R ⟨by rw[zaa,zaa,zaE,k.sz];left,_,e,SA _,hl⟩;exact⟨.ref S,_,I',rfl,q S _ N Y⟩
def pH(xs:aa):O D:=match one xs with
 |some d=>match iC d with
  |some z=>if z.1.length<7 then ok (.lst .ow ((bY z.1).map hJ))else none
  |none=>none
 |none=>none
def B5{r:D}(h:pH xs=ok r):∃f cs c,xs=[.de f cs c]/\cs.length<7/\r=.lst .ow ((bY cs).map hJ):=by
 unfold pH at h;cases b:one xs with
 |none=>rw[b]at h;exact nk h
 |some d =>
  rw[b]at h;have h:(match iC d with|some z=>if z.1.length<7 then ok (D.lst .ow ((bY z.1).map hJ))else none|none=>none)=ok r:=h;cases a:iC d with
  |none=>rw[a]at h;exact nk h
  |some z =>
   rw[a]at h;obtain⟨hl,rfl⟩:=uE (show(if z.1.length<7 then ok (D.lst .ow ((bY z.1).map hJ))else none)=ok r from h);obtain⟨f,e⟩:=lS a;exact⟨f,z.1,z.2,by rw[bV b,e],hl,rfl⟩
theorem qU{T:nq}{N:kA}:∀{bs:bo} {cs:aK} {k:bt} {n:Nat},fL T bs cs->aI T N k n (bs.map V.ref) (cs.map hJ)
 |[],[],_,_,_=>.nil
 |[],_::_,_,_,h=>by have:=h.len;simp at this
 |_::_,[],_,_,h=>by have:=h.len;simp at this
 |b::bs,c::cs,_,_,h=>.cons (zp (h.tup 0 b c rfl rfl)) (qU ⟨by have:=h.len;simpa using this,λj a f e d=>h.tup (j+1) a f e d⟩)
def FR:GY (i7 ("sorted" : Str)) pH:=by
 intro Φ n m X N bl k L e args r F cs b;obtain⟨p,j,a,rfl,rfl,E,D⟩:=mw r;cases cs with
 |nil=>exact b.elim
 |cons c cs=>cases cs with
  |cons _ _=>exact b.2.2.2.elim
  |nil =>
   have x:PA X [a] (uC X F Φ [c]):=PA.imp (cE b.1 (PA.imp eE λ_ _ _ h=>j0 h) (b.2.1 _)) λ_ _ _ h=>gq h;have z:X.A.units+2<cLine:=aaw (Nat.add_le_add_left (by decide:2<=64) _) L.room.units;have this:PE X (.Call (.Name ("sorted" : Str) p) [a] [] j) (tD X F Φ (.cI n [c])):=by
    refine PE.imp (fD (yS L.calm z) (L.gl E) (L.bl _ D) (by decide +kernel) x (he:=b.2.1 _)) λσ H Q o=>?_;obtain⟨R,t,u,d,J,i,o⟩:=o;obtain⟨xs,G,i⟩:=aH i;rw[m]at i;obtain⟨f,y,K,rfl,hl,rfl⟩:=B5 i;refine⟨R,t,u,_,J,G,λM S q r1=>?_⟩;obtain⟨s,P,w⟩:=r1;obtain⟨v,rfl,rv⟩:=w.one;cases rv with
    |de B C O =>
     refine⟨_,y,_,_,_,rfl,B.dat,C,hl,λl bs g I=>o _ _ (q.trans (aL.upd g)) (b8.oP (q.free g) (q.trans (aL.upd g)) bc ?_)⟩;exact qU (I.imp λ_ _ h=>bg.same (aL.upd g) h)
   exact⟨this,cP this λ_=>rfl⟩
noncomputable def kL:D->Bool
 |.bz=>true
 |_=>false
noncomputable def kK:D->Bool
 |.bz=>true
 |.tup _=>true
 |_=>false
def x_:aj
 |[.bz,.lst _ ds]=>if ds.all kK then ok (.bl (ds.any kL))else none
 |_=>none
def Iy{x y d:D}(h:x_ [x,y]=ok d):∃f a,x=.bz/\y=.lst f a/\a.all kK=true/\d=.bl (a.any kL):=by
 cases x with
 |bz=>cases y with
  |lst f a =>
   replace h:(if a.all kK then ok (D.bl (a.any kL))else none)=ok d:=h;by_cases e:a.all kK=true
   ·rw[zac e]at h;cases h;exact⟨f,a,rfl,rfl,e,rfl⟩
   ·rw[zab e]at h;cases h
  |_=>cases h
 |_=>cases h
noncomputable def yo:V->Bool
 |.bz=>true
 |_=>false
noncomputable def VQ:Value->Bool
 |.none=>true
 |_=>false
def Rx(K:ao):R2:=λx y H Q=>∃p xs,x=.bz/\y=.ref p/\dD K H p xs/\(∀v∈xs,v=.bz\/∃a b,v=.ref a/\bg K H a b)/\Q (.bl (xs.any yo)) H
theorem y9:∀{xs:ag} {a:az},Vals xs a->∀u∈a,∃x∈xs,RelV x u
 |_,_,.nil=>λu e=>by cases e
 |x::xs,u::a,.cons r t=>λv b=>by
  rcases List.mem_cons.mp b with rfl|b
  ·exact⟨x,aai,r⟩
  ·obtain⟨y,d,c⟩:=y9 t v b;exact⟨y,aah _ d,c⟩
theorem Ay:∀{xs:ag} {b:az},Vals xs b->(∀v∈xs,v=.bz\/∃a,v=.ref a)->b.any VQ=xs.any yo
 |_,_,.nil,_=>rfl
 |x::xs,u::b,.cons r t,h=>by
  rw[zaG,zaG,Ay t λv c=>h v (zaP _ c)];rcases h x aai with rfl|⟨a,rfl⟩
  ·cases r;rfl
  ·cases r;rfl
section
variable {X:Cx}
def Ec(j:X.A.units+1<cLine):mT X (compareOp .In) (Rx X.K):=by
 intro pins s σ H x y v u Q I b f h;obtain⟨p,xs,rfl,rfl,l,c,q⟩:=h;cases b;cases f;obtain⟨d,r,g,n⟩:=I.list l;refine SeqAt.in_listAt VQ g.isList (λw hw=>?_) ⟨.bl _,H,I,rfl,?_⟩
 ·obtain⟨x,i,b⟩:=y9 r w (by simpa using hw);rcases c x i with rfl|⟨a,m,rfl,k⟩
  ·cases b;exact abR _
  ·cases b;obtain⟨_,_,e,_⟩:=I.tuple k;exact SeqAt.EqAt.tuple_none e j
 ·rw[show d.toArray.any VQ=d.any VQ by simp,Ay r λv h=>by
   rcases c v h with h|⟨a,_,h,_⟩
   ·exact .inl h
   ·exact .inr ⟨a,h⟩]
  exact q
end
theorem vq{T:nq}{N:kA}{k:bt}:∀{n:Nat} {xs:ag} {ds:aa},aI T N k n xs ds->ds.all kK=true->(∀v∈xs,v=.bz\/∃a c,v=.ref a/\T a c)/\xs.any yo=ds.any kL
 |_,[],[],_,_=>⟨(λv h=>nomatch h),rfl⟩
 |n,x::xs,d::ds,.cons h t,ha=>by
  rw[zaw,zaf]at ha;obtain⟨f,e⟩:=vq t ha.2;cases d with
  |bz =>
   cases h;exact⟨λv b=>by
    rcases List.mem_cons.mp b with rfl|b
    ·exact .inl rfl
    ·exact f v b,by rw[zaG,zaG,e];rfl⟩
  |tup c =>
   obtain⟨_,_,rfl,g,_⟩:=h.AO;exact⟨λv b=>by
    rcases List.mem_cons.mp b with rfl|b
    ·exact .inr ⟨_,_,rfl,g⟩
    ·exact f v b,by rw[zaG,zaG,e];rfl⟩
  |_=>cases ha.1
def tW(_:Scope)(_:av)(e:Expr):Option (ak):=match CQ e with
 |some z=>match one z.2.2 with
  |some r=>if z.2.1=[.In]/\jG r=true then some [z.1,r]else none
  |none=>none
 |none=>none
def B8{sc:Scope}{bl:av}{e:Expr}(h:tW sc bl e=some args):∃l r p,e=.Compare l [.In] [r] p/\args=[l,r]/\jG r=true:=by
 unfold tW at h;cases c:CQ e with
 |none=>rw[c]at h;exact nk h
 |some z =>
  obtain⟨l,b,d⟩:=z;rw[c]at h;obtain⟨p,rfl⟩:=r6 c;replace h:(match one d with|some r=>if b=[.In]/\jG r=true then some [l,r]else none|none=>none)=some args:=h;cases hw:one d with
  |none=>rw[hw]at h;exact nk h
  |some r =>
   rw[hw]at h;replace h:(if b=[.In]/\jG r=true then some [l,r]else none)=some args:=h;obtain rfl:=bV hw;by_cases a:b=[.In]/\jG r=true
   ·rw[zac a]at h;cases h;obtain⟨a,f⟩:=a;subst a;exact⟨l,r,p,rfl,rfl,f⟩
   ·rw[zab a]at h;cases h
def Nc:GY tW x_:=by
 intro Φ n t X sc bl k L e args T F cs q;obtain⟨l,r,p,rfl,rfl,B⟩:=B8 T;have z:X.A.units+1<cLine:=by have:=L.room.units;left
 cases cs with
 |nil=>exact q.elim
 |cons c cs=>cases cs with
  |nil=>exact q.2.2.2.elim
  |cons J cs=>cases cs with
   |cons _ _=>exact q.2.2.2.2.2.2.elim
   |nil =>
    obtain⟨E,_,_,C,_,_,_⟩:=q;have j:∀{σ:St} {H:Hp} {R:ai} {o:Addr->Option bt} {ρ:a_} {d:D} {Q:VK},SI X F R o ρ σ H->bp Φ (.cI n [c,J]) ρ=ok d->(∀b h,d=.bl b->aL H h->Q (.bl b) h)->Ku (Rx X.K) (tD X F Φ c) (tD X F Φ J) σ H Q:=by
     intro σ H R o ρ d Q i g a;obtain⟨xs,m,g⟩:=aH g;obtain⟨x,W,m⟩:=aH m;obtain⟨ys,s,m⟩:=aH m;cases m;obtain⟨y,V,s⟩:=aH s;cases s;rw[t]at g;obtain⟨f,ds,rfl,rfl,U,rfl⟩:=Iy g;refine tD.intro i W λv H1 I r1=>tD.intro (i.go I) V λu h G r2=>?_;obtain⟨_,_,O⟩:=r1.go G;obtain⟨_,_,N⟩:=r2;cases O;obtain⟨_,_,rfl,t2,M⟩:=N.mU;obtain⟨S,P⟩:=vq M U;exact⟨_,_,rfl,rfl,t2.sq,S,by rw[P];exact a _ h rfl (I.trans G)⟩
    refine⟨PE.imp (sQ (Ec z) E C (sU B)) λσ H Q a=>?_,PT.imp (sG (Ec z) E C (sU B)) λσ H Q a=>?_⟩
    ·obtain⟨R,o,ρ,d,i,g,a⟩:=a;exact j i g λb h e w=>a _ h w (by subst e;exact .bl)
    ·obtain⟨R,o,ρ,b,i,g,a⟩:=a;obtain⟨d,Z,Y⟩:=aH g;refine j i Z λb' h e w=>?_;subst e;cases Y;exact⟨_,rfl,a h w⟩
def pN(xs:aa):O D:=match two xs with
 |some z=>match z.1 with
  |.lst _ a=>match z.2 with
   |.int k=>if k = -1/\1<=a.length then ok (.lst .ow (au ba (a.take (a.length - 1))))else none
   |_=>none
  |_=>none
 |none=>none
def F0{x y d:D}(h:pN [x,y]=ok d):∃(f:Fl) (ds:aa),x=.lst f ds/\y=.int (-1)/\1<=ds.length/\d=.lst .ow (au ba (ds.take (ds.length - 1))):=by
 cases x<;>first|exact nk h | (cases h;done) | (cases y<;>first|exact nk h | (cases h;done)|skip)
 obtain⟨⟨c,b⟩,a⟩:=uE h;subst c;exact⟨_,_,rfl,rfl,b,a.symm⟩
def JW:GY (pU false) pN:=by
 intro Φ n r X sc bl k L e args N F cs g;obtain⟨a,J,p,m,rfl,rfl⟩:=rG N;cases cs with
 |nil=>exact g.elim
 |cons c cs=>cases cs with
  |nil=>exact g.2.2.2.elim
  |cons D cs=>cases cs with
   |cons _ _=>exact g.2.2.2.2.2.2.elim
   |nil =>
    obtain⟨P,_,_,O,_,_,_⟩:=g;have this:PE X (.Subscript a (.Slice none (some J) none p) m) (tD X F Φ (.cI n [c,D])):=by
     refine PE.imp (vA (L2.sr) P sL (sJ O)) λσ H Q s=>?_;obtain⟨R,Y,Z,d,u,j,s⟩:=s;obtain⟨xs,b,j⟩:=aH j;obtain⟨x,V,b⟩:=aH b;obtain⟨ys,o,b⟩:=aH b;cases b;obtain⟨y,U,o⟩:=aH o;cases o;rw[r]at j;obtain⟨f,C,rfl,rfl,j2,rfl⟩:=F0 j;refine tD.intro u V λv H1 B r1=>tD.intro (u.go B) U λw H2 A r2=>?_;cases r2.isInt;refine⟨-1,rfl,?_⟩;have I:=(r1.go A).mono (fv':=gE (.cI n [c,D])) λi M=>aaB _ M;obtain⟨E,T,G⟩:=I;obtain⟨q,xs,rfl,K,z⟩:=G.mU;have t:=B.trans A;have hlen:=z.length;refine⟨q,xs,rfl,K.sq,λl hl=>?_⟩;have W:B7 xs none (some (-1))=xs.take (C.length - 1):=by
      unfold B7;have S:HT.uD xs.length xs.length (some (-1))=xs.length - 1:=by
       unfold HT.uD;simp;left
      rw[S,HT.DC,hlen];rfl
     rw[W];refine s _ _ (t.trans (aL.upd hl)) (b8.oP (t.free hl) (t.trans (aL.upd hl)) bc ?_);exact((z.C5 (C.length - 1)).gJ u T).imp (λ_ _ h=>bg.same (aL.upd hl) h) λ_ _ _ _ h=>nd.same (aL.upd hl) h
    exact⟨this,cP this λ_=>rfl⟩
theorem aI.rv{T:nq}{N:kA}{T':nq}{N':kA}{f:D->D}{k k':bt}{m:Nat}(a:∀{q:bt} {v:V} {d:D},Rep T N q v d->∀b,Rep T' N' b v (f d)):∀{n:Nat} {vs:ag} {ds:aa},aI T N k n vs ds->aI T' N' k' m vs.reverse (ds.map f).reverse
 |_,_,_,.nil=>.nil
 |_,_,_,.cons h t=>by
  rw[zaV,zag,zaV];exact(aI.rv a t).snoc (a h _)
def tRv(K:ao)(c ts:TE):TE:=λσ H Q=>c σ H λx d=>ts σ d λy b=>∃(a:Addr) (xs:ag),x=.ref a/\y=.int (-1)/\dD K b a xs/\∀p,b p=none->Q (.ref p) (upd b p (.lst xs.reverse))
def MX{e d:Expr}{i ts:TE}{p2 pos:Pos}(he:PE X e i)(hs:PE X d ts):PE X (.Subscript e (.Slice none none (some d) p2) pos) (tRv X.K i ts):=by
 intro pins s σ H Q I h;refine Subscript_ (dG (he pins s σ H _ I h) λv k f=>?_);obtain⟨x,G,D,r1,q1⟩:=f;refine wpAny_Slice ?_;rw[evalPart_none];refine aae (aae ?_);rw[evalPart_some];refine dG (hs pins k σ G _ D q1) λu c f=>?_;obtain⟨y,E,C,l,a,xs,z,p,n,q⟩:=f;subst z;subst p;cases r1;have m:IsPart u (some (-1)):=by obtain⟨t,rfl⟩:=l;exact .int _ _
 have g:Inv X pins σ E { c with heap:=c.heap.push { cls:=.type "slice",data:=.fields #[.none,.none,u] } }:=C.kept (t':=c.toks) λb L q=>aad _ q;obtain⟨B,r,J,j⟩:=g.list n;have hl:=dU J;have hlen:B.length=xs.length:=r.length.symm;have o:wpAny (model X.prog X.w) X.A (getItem (.ref a) (.ref c.heap.objs.size)) (EP X pins σ Q) X.xe { c with heap:=c.heap.push { cls:=.type "slice",data:=.fields #[.none,.none,u] } }:=by
  refine abY hl (Heap.IsSliceOf.new ..) .none .none m (by decide) ?_ (by rw[zad,hlen];exact j);rw[W.krv_pick];exact⟨.ref _,_,g.II (t':=c.toks) r.reverse (by rw[List.length_reverse];exact j),rfl,q _ g.fresh⟩
 show wpAny (model X.prog X.w) X.A (subscriptTail e (.Slice none none (some d) p2) (.ref a) (.ref c.heap.objs.size)) (EP X pins σ Q) X.xe { c with heap:=c.heap.push { cls:=.type "slice",data:=.fields #[.none,.none,u] } };exact tail_any (ops:=[.ref a,.ref c.heap.objs.size]) hl.typeIs slot_list_getitem.lookup o (by with_unfolding_all rfl)
def vm(xs:aa):O D:=match two xs with
 |some z=>match z.1 with
  |.lst _ a=>match z.2 with
   |.int k=>if k = -1 then ok (.lst .ow (a.map (aB ba)).reverse)else none
   |_=>none
  |_=>none
 |none=>none
def DG{x y d:D}(h:vm [x,y]=ok d):∃(f:Fl) (ds:aa),x=.lst f ds/\y=.int (-1)/\d=.lst .ow (ds.map (aB ba)).reverse:=by
 cases x<;>first|exact nk h | (cases h;done) | (cases y<;>first|exact nk h | (cases h;done)|skip)
 obtain⟨b,a⟩:=uE h;subst b;exact⟨_,_,rfl,rfl,a.symm⟩
noncomputable def QJ(e:Expr):Option Expr:=match e with
 |.Slice b c a _=>match b with
  |none=>match c with
   |none=>a
   |some _=>none
  |some _=>none
 |_=>none
set_option tactic.hygienic true in
def Hb{e k:Expr}(h:QJ e=some k):∃p,e=.Slice none none (some k) p:=by
 cases e<;>first|exact nk h | (cases h;done)|skip
 rename_i a b c p;cases a with
 |some _=>cases h
 |none=>cases b with
  |some _=>cases h
  |none=>cases h;exact⟨p,rfl⟩
def F1(_:Scope)(_:av)(e:Expr):Option (ak):=(xu e).bind λz=>(QJ z.2).bind λk=>some [z.1,k]
def HS{n:Nat}(o:Φ n=vm){sc:Scope}{bl:av}{k:Nat}(L:PX X sc bl k){e:Expr}(he:F1 sc bl e=some args)(hs:ql X F Φ cs args):PE X e (tD X F Φ (.cI n cs))/\PT X e (ip X F Φ (.cI n cs)):=by
 obtain⟨⟨a,s⟩,I,h⟩:=bT he;obtain⟨G,hw,h⟩:=bT h;cases h;obtain⟨j,rfl⟩:=lA I;obtain⟨p,rfl⟩:=Hb hw;cases cs with
 |nil=>exact hs.elim
 |cons c cs=>cases cs with
  |nil=>exact hs.2.2.2.elim
  |cons B cs=>cases cs with
   |cons _ _=>exact hs.2.2.2.2.2.2.elim
   |nil =>
    obtain⟨N,_,_,M,_,_,_⟩:=hs;have this:PE X (.Subscript a (.Slice none none (some G) p) j) (tD X F Φ (.cI n [c,B])):=by
     refine PE.imp (MX N M) λσ H Q r=>?_;obtain⟨R,T,U,d,w,g,r⟩:=r;obtain⟨xs,b,g⟩:=aH g;obtain⟨x,S,b⟩:=aH b;obtain⟨V,m,b⟩:=aH b;cases b;obtain⟨y,P,m⟩:=aH m;cases m;rw[o]at g;obtain⟨f,Y,rfl,rfl,rfl⟩:=DG g;refine tD.intro w S λv H1 A r1=>tD.intro (w.go A) P λu Z z r2=>?_;cases r2.isInt;have r2:=(r1.go z).mono (fv':=gE (.cI n [c,B])) λi K=>aaB _ K;obtain⟨C,O,E⟩:=r2;obtain⟨q,xs,rfl,J,D⟩:=E.mU;have t:=A.trans z;refine⟨q,xs,rfl,rfl,J.sq,λl hl=>r _ _ (t.trans (aL.upd hl)) (b8.oP (t.free hl) (t.trans (aL.upd hl)) bc ?_)⟩;exact(aI.rv (λh W=>Rep.gJ h w O) D).imp (λ_ _ h=>bg.same (aL.upd hl) h) λ_ _ _ _ h=>nd.same (aL.upd hl) h
    exact⟨this,cP this λ_=>rfl⟩
end DI
end
section
namespace DI
open PySem PySem.Spec PyProof.Rows PySem.W
structure XC(K:Frag)(C:Addr):Prop where
 ga:findIn K (.ref C) "__getattribute__" = some (some (.builtin "BaseException.__getattribute__"))
 gt:findIn K (.ref C) "__getattr__" = some none
 cl:findIn K (.ref C) "__class__" = some (some (.builtin "object.__class__"))
 be:mroIn K C (.type "BaseException")=some true
 ob:mroIn K C (.type "object")=some true
 cs:(clsIn K C).isSome=true
section
variable {prog:aM}{w:World}{A:aN}{E:aG}{h:Heap}{g:Array GenState}{d:Drawn}{t:Nat}{os:OsState}{K:Frag}{x C:Addr}{o:Obj}
def Wb{R:Result->Shared->Prop}(Z:XC K C)(X:K.In h)(a:h.get? x=some o)(b:o.cls=.ref C)(i:R (.ok (.ret (.ref C))) ⟨h,g,d,t,os⟩):
  codeAny (model prog w) A (.call (.builtin "getset_descriptor.__get__") ⟨[.builtin "object.__class__",.ref x,.ref C],[]⟩) R ⟨h,g,d,t,os⟩:=by
 have c:=looks_mroIn (M:=model prog w) X Z.ob;refine acj KF.slot_gs.plain KF.entry_gs (KF.slot_gs.check _ _ _ _ _ _ _ _ KF.type_class (KF.args_gs _ _ _) ?_);have e:(⟨h,g,d,t,os⟩:Shared).TypeIs (.builtin "object.__class__") "getset_descriptor":=ace;have f:(".".intercalate ("object.__class__".cutAt '.').dropLast) = "object":=F.owner_object_class
 repeat (any_goals (first|assumption | (with_reducible refine abc a ?_;rw[b]) | (with_reducible refine c.at ?_) | (rw[f];with_reducible refine c.at ?_)|wp_step))
 refine⟨acs _ (by decide +kernel),abu PySem.F.entry_object_class ?_⟩
 repeat (any_goals (first|assumption | (with_reducible refine abc a ?_;rw[b])|wp_step))
def LX{tk:Tok}{Q:Fin->Shared->Prop}(Z:XC K C)(X:K.In h)(a:h.get? x=some o)(b:o.cls=.ref C)(f:Q (.done (.ret (.ref C))) ⟨h,g,d,t,os⟩):
  wpAny (model prog w) A (Builtin.«object.__getattribute__» ⟨[.ref x,.str "__class__" tk],[]⟩) Q E ⟨h,g,d,t,os⟩:=by
 have c:(⟨h,g,d,t,os⟩:Shared).TypeIs (.builtin "object.__class__") "getset_descriptor":=ace;have k:=ace;have j:=PySem.F.slot_gs_get.lookup;have i:=PySem.F.slot_gs_set.lookup;have e:=looks_findIn (M:=model prog w) X Z.cl
 repeat (any_goals (first|assumption | (with_reducible refine abc a ?_;rw[b]) | (with_reducible refine e.at ?_)|wp_step))
 refine Wb Z X a b ?_
 repeat (any_goals (first|assumption|wp_step))
def LY{M:Model}{a:Value}{Q:Unit->Shared->Prop}(Z:XC K C)(X:K.In h)(b:h.get? x=some o)(f:o.cls=.ref C)(c:Q () ⟨h,g,d,t,os⟩):
  wpAny M A (checkBuiltinCall "BaseException.__getattribute__" ⟨[.ref x,a],[]⟩) Q E ⟨h,g,d,t,os⟩:=by
 have e:builtinKind "BaseException.__getattribute__" = some .slot:=by decide +kernel
 have i:splitId "BaseException.__getattribute__" = some ("BaseException","__getattribute__"):=by decide +kernel
 have j:=looks_mroIn (M:=M) X Z.be;have k:=PySem.F.args_bexc_ga (.ref x) a;simp only[checkBuiltinCall,e,i];refine aaa ?_
 ·unfold isInstance
  repeat (first | (with_reducible refine abc b ?_;rw[f]) | (with_reducible refine j.at ?_)|wp_step)
  exact c
def Qz{tk:Tok}{R:Result->Shared->Prop}(B:ExcAttrFacts "ValueError")(Z:XC K C)(X:K.In h)(a:h.get? x=some o)(b:o.cls=.ref C)(c:R (.ok (.ret (.ref C))) ⟨h,g,d,t,os⟩):
  codeAny (model prog w) A (.call (.builtin "BaseException.__getattribute__") ⟨[.ref x,.str "__class__" tk],[]⟩) R ⟨h,g,d,t,os⟩ :=
 acj B.ga.plain PySem.F.entry_bexc_ga (LY Z X a b (LX Z X a b c))
def xby{tk:Tok}{Q:aG}(B:ExcAttrFacts "ValueError")(Z:XC K C)(X:K.In h)(a:h.get? x=some o)(b:o.cls=.ref C)(i:Q (.ref C) ⟨h,g,d,t,os⟩):
  wpAny (model prog w) A (getAttrBy (.ref x) (.str "__class__" tk) false) Q E ⟨h,g,d,t,os⟩:=by
 have j:=B.ga.bind (.ref x);have c:(false&&onTheHeap (Value.builtin "BaseException.__getattribute__"))=false:=rfl;have e:(Value.builtin "BaseException.__getattribute__" == Value.builtin "object.__getattribute__")=false:=by decide +kernel
 have k:(onTheHeap (Value.ref C)&&Value.builtin "BaseException.__getattribute__" == Value.builtin "object.__getattribute__")=false:=by rw[e];rfl
 have f:=looks_findIn (M:=model prog w) X Z.ga;have L2:=looks_findIn (M:=model prog w) X Z.gt
 repeat (any_goals (first|assumption | (with_reducible refine abc a ?_;rw[b]) | (with_reducible refine f.at ?_) | (with_reducible refine L2.at ?_)|wp_step))
 refine Qz B Z X a b ?_
 repeat (any_goals (first|assumption|wp_step))
def QA{Q:Option Value->Shared->Prop}(B:ExcAttrFacts "ValueError")(Z:XC K C)(X:K.In h)(a:h.get? x=some o)(b:o.cls=.ref C)(c:Q (some (.ref C)) ⟨h,g,d,t+1,os⟩):
  wpAny (model prog w) A (getAttr? (.ref x) "__class__") Q E ⟨h,g,d,t,os⟩:=by
 unfold getAttr? getAttrBy?
 repeat (any_goals (first|assumption|with_reducible apply xby B Z X a b|wp_step))
end
def yY(x C:Addr)(h:Heap):Prop:=∃o,h.get? x=some o/\o.cls=.ref C
set_option tactic.hygienic true in
def EH{K:Frag}{x C:Addr}(B:ExcAttrFacts "ValueError")(Z:XC K C):KitX K (.ref x) (.ref C) (yY x C) where
 ty:=λM h _ p=>by
  obtain⟨o,f,c⟩:=p;exact c▸(Looks.ld f).andThen .now
 it:=λ_ _ X _=>by
  obtain⟨i,a⟩:=Option.isSome_iff_exists.mp Z.cs;unfold clsIn at a;split at a
  ·rename_i r m j u b;intro L I J D k q;unfold isType loadHead;exact aaa (wpAny_loadPart (k _ _ (X _ _ b)) (aae q))
  ·cases a
 ne:=λh l G H n y X v=>by
  obtain⟨i,a⟩:=Option.isSome_iff_exists.mp Z.cs;refine Bool.eq_false_iff.mpr λq=>?_;have e:C=l:=Value.ref.inj (beq_iff_eq.mp q);subst e;unfold clsIn at a;split at a
  ·rename_i r m j u b;have z:=(X _ _ b).symm.trans v;cases z
  ·cases a
 ca:=λ{prog w A E Q s} X p k=>by
  obtain⟨o,f,c⟩:=p;obtain⟨h,g,d,t,F⟩:=s;exact QA B Z X f c k
end DI
end
section
namespace DI
open PySem PySem.Spec PyProof.Rows L2
def V9(l:List Env)(H':Hp)(h h' B:Heap):Prop:=∀b o,h'.get? b=some o->b∉mn l->(H' b≠none\/h.get? b≠none)->B.get? b=some o
variable {B base h' h2 h3:Heap}{H H' H1:Hp}
def moved{l:List Env}{h:Heap}(un:Un (mn l) [] H H' h h2)(t:kn H' h2)(v:V9 l H' h h2 B)(r:h.FunFrames base l)(w:∀b∈mn l,H b=none)
  (A:B.StaysIn h3) (i:h2.UpToSlots h3):Un (mn l) [] H H' h h3/\kn H' h3/\V9 l H' h h3 B:=by
 have F:∀b∈mn l,H' b=none:=λb c=>by
  obtain⟨_,o,E,_⟩:=r.mem c;exact un.free b o E (w b c) (by simp)
 have keep:∀b o,h2.get? b=some o->b∉mn l->(H' b≠none\/h.get? b≠none)->h3.get? b=some o:=λb o e c d=>A b o (v b o e c d);have slot:∀b o,h.get? b=some o->b∈mn l->∃i,h3.get? b=some { o with slots:=i }:=λb o e c=>by
  obtain⟨C,f⟩:=un.slot b o e (w b c) c (by simp);obtain⟨_,k,m,D⟩:=r.mem c;rw[e]at m;cases m;obtain⟨x,g⟩:=i b _ f (λy z=>D y z);exact⟨x,g⟩
 refine⟨⟨λb o e n c _=>keep b o (un.keep b o e n c (by simp)) c (.inr (by rw[e];simp)),λb o e n c _=>slot b o e c,un.free,λb o e _=>?_,un.mV,un.mm⟩,λa o e=>?_,λb o e c d=>?_⟩
 ·by_cases c:b∈mn l
  ·obtain⟨G,f⟩:=slot b o e c;exact⟨_,f⟩
  ·obtain⟨k,f⟩:=un.there b o e (by simp);exact⟨k,keep b k f c (.inr (by rw[e];simp))⟩
 ·have p:H' a≠none:=by rw[e];simp
  exact(t a o e).jD λu q=>keep a u q (λz=>p (F a z)) (.inl p)
 ·have:∃j,h2.get? b=some j:=by
   rcases d with d|d
   ·cases q:H' b with
    |none=>exact absurd q d
    |some u=>exact gR (t b u q)
   ·cases q:h.get? b with
    |none=>exact absurd q d
    |some u=>exact un.there b u q (by simp)
  obtain⟨j,g⟩:=this;have s:=keep b j g c d;rw[e]at s;cases s;exact v b _ g c d
structure V6(P:aM)(w:World)(C:Addr)(l:List Env)(H:Hp)(s:Shared)(e:Addr)(H':Hp)(s':Shared):Prop where
 fly:∃t B,Heap.FlyingW B l e (.ref C) (.ref t) s'.heap/\V9 l H' s.heap s'.heap B
 os:s'.os=s.os
 bare:AllBare s'.gens
 un:Un (mn l) [] H H' s.heap s'.heap
 cJ:kn H' s'.heap
abbrev uB(P:aM)(w:World)(C:Addr):Cf:=λl H s E e b=>∃a H',e=.ref a/\V6 P w C l H s a H' b/\E (.ref C) none H'
def wa{l:List Env}{e:Addr}{cls j:Value}{h:Heap}(f:Heap.FlyingW B l e cls j h):e∉mn l:=λg=>by
 obtain⟨_,o,d,c⟩:=f.2.2.1.mem g;obtain⟨k,b,a,_,i,_⟩:=f.first;rw[d]at a;cases a;exact c b i
variable {C ea f it:Addr}{P:aM}{w:World}
def V6.new{l:List Env}{s s':Shared}{e:Addr}(f:V6 P w C l H s e H' s'):H' e=none/\s.heap.get? e=none:=by
 obtain⟨t,B,b,g⟩:=f.fly;obtain⟨c,h,d,_⟩:=b.first;have a:¬ (H' e≠none\/s.heap.get? e≠none):=λz=>by
  have:=g e c d (wa b) z;rw[b.2.1]at this;cases this
 exact⟨Classical.not_not.mp λz=>a (.inl z),Classical.not_not.mp λz=>a (.inr z)⟩
variable {s1:Shared}{σ:L2.St}
section
variable {P:aM}{w:World}{C:Addr}{K:ao}{mg:aZ}{base:Heap}{N:av}{qual:Str}{scope:Scope}{f:Addr}{cd:Value}{A:aN}{outer:List Env}{s:Shared}{H:Hp}{E:XK}
def left{pins:aw}{s2:Shared}{t:Addr}
  (I:Inv (jO (uB P w C) P w K mg base N qual scope f cd A outer s H E) pins σ H1 s1)
  (un:Un (mn (jO (uB P w C) P w K mg base N qual scope f cd A outer s H E).stack) [] H1 H' s1.heap h2) (m:kn H' h2) (p:V9 (jO (uB P w C) P w K mg base N qual scope f cd A outer s H E).stack H' s1.heap h2 B)
  (g:Heap.FlyingW B outer ea (.ref C) (.ref t) h3) (i:h2.UpToSlots h3) (j:s2.os=s1.os) (bare:AllBare s2.gens):V6 P w C outer H s ea H' { s2 with heap:=h3 }:=by
 obtain⟨c,h,n⟩:=moved un m p I.stack I.lF g.1 i;have J:=I.Aq (s':={ s2 with heap:=h3 }) (ch:=[]) j c h bare λ_ z=>nomatch z;refine⟨⟨t,B,g,λb o e k a=>?_⟩,J.os,bare,J.base,h⟩;have d:b≠s.heap.objs.size:=by
  rcases a with a|a
  ·rintro rfl;exact a J.free
  ·rintro rfl;exact a (Heap.get?_none_of_le (aaj _))
 refine n b o e (λz=>?_) ?_
 ·rcases List.mem_cons.mp (I.kH b z)with z|z
  ·exact d z
  ·exact k z
 ·rcases a with a|a
  ·exact .inl a
  ·right;cases q:s.heap.get? b with
   |none=>exact absurd q a
   |some u =>
    obtain⟨r,l⟩:=I.base.there b u q (by intro z;cases z);rw[l];simp
def RM{E1:XK}(i:∀H',E1 (.ref C) none H'->E (.ref C) none H'):Passes (uB P w C) (jO (uB P w C) P w K mg base N qual scope f cd A outer s H E) E1:=by
 intro pins σ H1 s1 e c I g;obtain⟨ea,H',rfl,⟨⟨t,B,j,l⟩,d,bare,un,k⟩,h⟩:=g;show wpAny (model P w) _ (leaving _ (.ref ea)) _ _ c;refine wpAny_leaves_onW (L:=s.heap.objs.size) I.ok.frames rfl j λh' a b=>?_;exact⟨ea,H',rfl,left I un k l a b d bare,i H' h⟩
def HV{pins:aw}{vs:az}
  (I:Inv (jO (uB P w C) P w K mg base N qual scope f cd A outer s H E) pins σ H1 s1) (d:Heap.MadeExcOf s1.heap h' ea (.ref C) vs) (he:E (.ref C) none H1) :
  (jO (uB P w C) P w K mg base N qual scope f cd A outer s H E).xe (.ref ea) { s1 with heap:=h' }:=by
 show wpAny (model P w) _ (leaving _ (.ref ea)) _ _ _
 let l:=(jO (uB P w C) P w K mg base N qual scope f cd A outer s H E).stack
 let B:=PySem.W.hideAll s1.heap (mn l)
 have r:B.StaysIn s1.heap:=λb o e=>PySem.W.of_hideAll _ e;refine wpAny_leaves_madeW (h:=s1.heap) (base:=B) (L:=s.heap.objs.size) I.ok.frames rfl r (PySem.W.funFrames_hide (as:=mn l) I.stack λi he a p=>List.mem_filterMap.mpr ⟨i,he,p⟩) d λv t x _ _ m=>?_;refine⟨ea,H1,rfl,left (s2:=s1) (H':=H1) I (Un.kept d.keeps) (I.cJ.kept d.keeps) (λb o e n c=>?_) x m rfl I.bare,he⟩;have:∃g,s1.heap.get? b=some g:=by
  rcases c with c|c
  ·cases q:H1 b with
   |none=>exact absurd q c
   |some u=>exact gR (I.cJ b u q)
  ·cases q:s1.heap.get? b with
   |none=>exact absurd q c
   |some u=>exact⟨u,rfl⟩
 obtain⟨g,k⟩:=this;have j:=d.keeps b g k;have e:h'.get? b=some o:=e;rw[e]at j;cases j;exact PySem.W.hideAll_get _ k n
end
abbrev L3:az:=[.type "ValueError",.type "Exception",.type "BaseException",.type "object"]
abbrev qJ(x:Str)(C:Addr)(mg:aZ)(h:Heap):Prop:=OwnCls x C L3 "ValueError.__new__" mg h
variable {K:ao}
set_option tactic.hygienic true in
def Aa(q:PySem.W.excIn K C L3 "ValueError.__new__" = true):∃(dd:Option Addr) (nm:Str) (bs bm:az) (ns:Addr) (g:Str) (h:Bool) (sn:av) (sub:az) (ab:Bool) (col:Option Bool) (k0 k1 k2 k3 k5:Option Value),
  K.lookup C=some (excClassObj nm g C ns bs bm h sn sub ab col dd k0 k1 k2 k3 k5 "ValueError.__new__")/\PySem.W.tailIn K L3 bm=true/\PySem.W.nsOkIn K ns=true/\PySem.W.nsIn K ns "__init__" = some none:=by
 unfold PySem.W.excIn at q;split at q
 case h_2=>cases q
 case h_1 dd cd sl ho =>
  split at q
  case h_2=>cases q
  case h_1 C' bm k0 k1 k2 k3 n k5 hm hs =>
   rw[zaf,zaf,zaf,zaf,zaf]at q;obtain⟨⟨⟨⟨⟨d,c⟩,b⟩,k⟩,j⟩,a⟩:=q;have d:=beq_iff_eq.mp d;have c:=beq_iff_eq.mp c;have a:=beq_iff_eq.mp a;subst d;subst c;cases cd with
   |mk nm bs i ns g h sn sub ab col e =>
    cases hm;have b:e=false:=by simpa using b
    subst b;cases sl with
    |mk l =>
     cases hs;exact⟨_,_,_,_,_,_,_,_,_,_,_,_,_,_,_,_,ho,k,j,a⟩
variable {mg:Str->Option Value}
def j8{h:Heap}{x:Str}(X:K.In h)(G:h.Ns mainGlobals mg)(e:PySem.W.nsIn K mainGlobals x=some (some (.ref C)))(q:PySem.W.excIn K C L3 "ValueError.__new__" = true):qJ x C mg h:=by
 obtain⟨_,_,_,_,_,_,_,_,_,_,_,_,_,_,_,_,b,d,a,c⟩:=Aa q;exact⟨abf X G e,_,_,_,_,_,_,_,_,_,_,_,_,_,_,_,_,_,X _ _ b,.of_isNs (PySem.W.isNs_of_in X a),PySem.W.nsMap_none_of_in X a c,PySem.W.tail_of_in X d⟩
variable {cpos np p1 p2 p3 pos:Pos}
section
variable {X:Cx}{C:Addr}{x:Str}
def Mi(X:Cx)(C:Addr):TS:=λD σ H=>∀pins s h' ea a,Inv X pins σ H s->Heap.MadeExcOf s.heap h' ea (.ref C) a->X.xe (.ref ea) { s with heap:=h' }
def DS{m:Str}{j:Nat}{p:Pos}(R:X.calm=true)(O:qJ x C X.mg X.base)(M:Gl X x)(Q:(x==("__debug__" : Str))=false):
  PS X (.Raise (some (.Call (.Name x np) [.Constant (.str m) j p] [] cpos)) none pos) (Mi X C):=by
 intro pins s σ H D I hw;obtain⟨E,N,h,q,bs,a,g,sub,z,b,y,t,o,n,l,k,i,U,S,W,T⟩:=O.obj;refine wpAny_Raise_call_subT (C:=C) (nm:=h) (q:=q) (N:=N) (bs:=bs) (bm:=E) (hdct:=a) (sn:=g) (sub:=sub) (ab:=z) (col:=b) (dd:=y) (k0:=t) (k1:=o) (k2:=n) (k3:=l) (k5:=k)
  F.excBase_ValueError (mN:=i) (T.hasType F.excBase_ValueError.hasBase) (I.ok.hd R) rfl W (tw I M O.bound ⟨rfl,?_⟩ Q)
 have v:starEach [.Constant (.str m) j p] X.env=(false,eval (.Constant (.str m) j p) X.env)::starEach [] X.env:=rfl;have u:=cE (sO (X:=X) (x:=m) (j:=j) (pos:=p)) eE v cpos pins s σ H (λd H'=>H'=H/\d.length<=1) I ⟨rfl,aaj 1⟩;rw[v]at u ⊢;refine aci (dG u λA G V=>?_);obtain⟨d,Y,c,r,q2,J⟩:=V;subst q2;exact⟨rfl,by rw[<- r.length];exact aaS J (by decide),c.bk _ _ U,S.keeps c.bk,T.keeps c.bk,λh' e L=>hw pins G h' e A c L⟩
end
variable {X:Cx}
def Cx.Ok.mk'(ok:X.Ok)(e:Value)(E:aG):Cx.Ok { X with A:=X.A.mark (some e),calm:=false,xe:=E } :=
 ⟨ok.mod,ok.kind,ok.glob,ok.blt,ok.above,ok.inj,ok.has,ok.Lz,(λh=>by cases h),ok.frames,ok.Mn,ok.Ue,ok.bs,ok.Gh,ok.vH,ok.yC,ok.kN,ok.Cs⟩
def ES{pins:aw}{s:Shared}(I:Inv X pins σ H s)(e:Value)(E:aG):Inv { X with A:=X.A.mark (some e),calm:=false,xe:=E } pins σ H s :=
 ⟨Cx.Ok.mk' I.ok e E,I.os,I.bare,I.base,I.loc,I.cell,I.free,I.gF,I.pin,I.cJ,I.len⟩
variable {E:Value->Shared->Prop}
def yp{pins:aw}{s:Shared}{e:Value}(ok:X.Ok)(I:Inv { X with A:=X.A.mark (some e),calm:=false,xe:=E } pins σ H s):Inv X pins σ H s :=
 ⟨ok,I.os,I.bare,I.base,I.loc,I.cell,I.free,I.gF,I.pin,I.cJ,I.len⟩
def Ib{i:Nat}{x:Str}(d:X.N[i]?=some x)(b:Pq X.env.scope x)(c:(x==("__debug__" : Str))=false)(a:(x==("__classdict__" : Str))=false):PE X (.Name x pos) (mY i):=mf d b c a
noncomputable def only(n j:Nat)(v:V):St:=(List.replicate n none).set j (some v)
def Eg{n j i:Nat}{v w:V}(h:(only n j v)[i]?=some (some w)):i=j/\w=v:=by
 unfold only at h;by_cases a:i=j
 ·subst a;refine⟨rfl,?_⟩;by_cases hl:i<n
  ·rw[List.getElem?_set_self (by simpa using hl)]at h;cases h;rfl
  ·rw[List.getElem?_eq_none (by simpa using hl)]at h;cases h
 ·rw[List.getElem?_set_ne (Ne.symm a),List.getElem?_replicate]at h;split at h<;>cases h
variable {A:aN}
section
variable {X:Cx}{C:Addr}{x n y:Str}{i j:Nat}{E1:XK}
def ya{M:Model}{pins:aw}{s:Shared}{v:V}{Q:Unit->Shared->Prop}(I:Inv X pins σ H s)(hl:X.env.kindOf n=some .local)(XU:y≠n)(nd:X.N.Nodup)(J:X.N[j]?=some y)(hv:σ[j]?=some (some v))
  (h:∀G,Inv X pins (only X.N.length j v) H G->Q () G):wpAny M A (do bindName X.env n .none;unbindBehindTheSuite X.env n pos) Q E s:=by
 obtain⟨m,hn,t⟩:=id I.loc;have W:(X.env.scope.kind==.class||(X.env.scope.kind==.module&&X.env.locals != X.env.globals))=false:=by rw[I.ok.kind];rfl
 refine wpAny_nameGoes_keeps hl hn W λh' u O a=>h _ ?_;have tracked:kn H h':=λb U e=>by
  exact(I.cJ b U e).jD λF q=>(a.2 b (by rintro rfl;rw[I.free]at e;cases e)).trans q
 refine⟨I.ok,I.os,I.bare,⟨λb o e n D l=>?_,λb o e n D l=>?_,I.base.free,λb o e l=>?_,I.base.mV,I.base.mm⟩,⟨_,O,λk z v' g e2 e3=>?_⟩,λz c e=>?_,I.free,I.gF,λp hp=>?_,tracked,by unfold only;simp⟩
 ·exact(a.2 b (aak (aaf (aag e) I.ok.above))).trans (I.base.keep b o e n D l)
 ·obtain⟨S,g⟩:=I.base.slot b o e n D l;exact⟨S,(a.2 b (aak (aaf (aag e) I.ok.above))).trans g⟩
 ·obtain⟨Y,g⟩:=I.base.there b o e l;exact⟨Y,(a.2 b (aak (aaf (aag e) I.ok.above))).trans g⟩
 ·obtain⟨rfl,rfl⟩:=Eg e2;rw[J]at g;cases g;obtain⟨R,T,q⟩:=t k y _ J hv e3;refine⟨R,T,?_⟩;rcases q with ⟨r,e⟩|⟨r,c,e,z⟩
  ·exact .inl ⟨r,by show(if y=n then u else m y)=_;rw[zab XU];exact e⟩
  ·exact .inr ⟨r,c,e,z.sameBut a (I.J0 y c e)⟩
 ·obtain⟨F,L⟩:=I.cell z c e;exact⟨F,L.sameBut a (I.J0 z c e)⟩
 ·obtain⟨e,n,ne,Z,d⟩:=I.pin p hp;exact⟨(a.2 p.1 ne).trans e,n,ne,Z,d⟩
end
noncomputable abbrev Cx.mW(X:Cx)(pins:aw)(E:aG):Cx:={ X with xe:=E,pn:=X.pn++pins }
section
variable {X:Cx}{C:Addr}{x n y:Str}{i j:Nat}{E1:XK}
def Ja{pins:aw}{s:Shared}(I:Inv X pins σ H s)(E:aG):Inv (Cx.mW X pins E) [] σ H s :=
 ⟨⟨I.ok.mod,I.ok.kind,I.ok.glob,I.ok.blt,I.ok.above,I.ok.inj,I.ok.has,I.ok.Lz,I.ok.hd,I.ok.frames,I.ok.Mn,I.ok.Ue,I.ok.bs,I.ok.Gh,I.ok.vH,I.ok.yC,I.ok.kN,I.ok.Cs⟩,I.os,I.bare,I.base,I.loc,I.cell,I.free,I.gF,λp a=>I.pin p (by simpa using a),I.cJ,I.len⟩
def iA{pins q:aw}{s:Shared}(I:Inv (Cx.mW X pins E) q σ H s):Inv X pins σ H s :=
 ⟨⟨I.ok.mod,I.ok.kind,I.ok.glob,I.ok.blt,I.ok.above,I.ok.inj,I.ok.has,I.ok.Lz,I.ok.hd,I.ok.frames,I.ok.Mn,I.ok.Ue,I.ok.bs,I.ok.Gh,I.ok.vH,I.ok.yC,I.ok.kN,I.ok.Cs⟩,I.os,I.bare,I.base,I.loc,I.cell,I.free,I.gF,λp a=>I.pin p (aaB _ a),I.cJ,I.len⟩
def tracked{l:List Env}{h:Heap}(un:Un (mn l) [] H H' h h')(t:kn H' h')(r:H' ea=none)(p:h.get? ea=none)(d:yY ea C h'):
  Un (mn l) [] H (upd H' ea (.ext (yY ea C))) h h'/\kn (upd H' ea (.ext (yY ea C))) h':=by
 have ne:∀b u,H' b=some u->b≠ea:=λb u q=>d6 q r;refine⟨⟨un.keep,un.slot,λb o e n s=>?_,un.there,λb m q=>?_,λb o u q=>?_⟩,λb u q=>?_⟩
 ·have:b≠ea:=by rintro rfl;rw[p]at e;cases e
  rw[bq this];exact un.free b o e n s
 ·have:=un.mV b m q;rw[bq (ne _ _ this)];exact this
 ·have:=un.mm b o u q;rw[bq (ne _ _ this)];exact this
 ·by_cases g:b=ea
  ·subst g;rw[bc]at q;cases q;obtain⟨o,a,c⟩:=d;exact⟨⟨o,a,c⟩,⟨o,a⟩,λv h2 ⟨o,a,c⟩ k=>⟨o,k o a,c⟩⟩
  ·rw[bq g]at q;exact(t b u q).jD λ_ q=>q
end
def Wq(C:Addr)(i:Nat)(b:Bool):TE:=λσ H Q=>∃ea,σ[i]?=some (some (.ref ea))/\H ea=some (.ext (yY ea C))/\Q (.bl b) H
def Q4(C:Addr)(i:Nat)(bs:List Bool):TA:=λσ H Q=>∃ea,σ[i]?=some (some (.ref ea))/\H ea=some (.ext (yY ea C))/\Q (bs.map V.bl) H
section
variable {X:Cx}{C:Addr}{i:Nat}
def NA{c:V}{d:Value}{b:Bool}(Z:XC X.K C)(l:∀u,RelV c u->u=d)(m:PySem.W.kitOne X.K (.ref C) d=some b):
  iO X (.builtin "isinstance") (λa H Q=>∃ea,a=[.ref ea,c]/\H ea=some (.ext (yY ea C))/\Q (.bl b) H):=by
 intro pins s σ H a v Q I r h;obtain⟨ea,rfl,n,q⟩:=h;obtain⟨u,e,rfl,j,k⟩:=vals2 r;cases j;cases l e k;obtain⟨⟨o,t,p⟩,_⟩:=(show dh H s.heap ea (.ext (yY ea C)) from I.cJ ea _ n)
 exact aba (EH PySem.F.attr_ValueError Z) I.Cn ⟨o,t,p⟩ m (λz=>nomatch z) λg=>⟨.bl b,H,I.tok g,rfl,q⟩
structure Qv(X:Cx)(C:Addr)(cl:Str->Option Bool):Prop where
 xc:XC X.K C
 isi:Gl X "isinstance"
 isn:X.mg "isinstance" = none
 ex:∀x b,cl x=some b->∀p,∃cv cu,PE X (.Name x p) (tC cv)/\(∀u,RelV cv u->u=cu)/\PySem.W.kitOne X.K (.ref C) cu=some b
def BF(err:Str)(cl:Str->Option Bool)(e:Expr):Option Bool:=(fV e).bind λz=>(two z.2).bind λw=>(Kr w.1).bind λy=>(Kr w.2).bind λx=>if z.1 = "isinstance" /\ y=err then cl x else none
def fZ(err:Str)(cl:Str->Option Bool):ak->Option (List Bool)
 |[]=>some []
 |e::es=>match BF err cl e,fZ err cl es with
  |some b,some bs=>some (b::bs)
  |_,_=>none
def D5{err:Str}{cl:Str->Option Bool}(Z:Qv X C cl)(he:∀p,PE X (.Name err p) (mY i)){e:Expr}{b:Bool}(h:BF err cl e=some b):PE X e (Wq C i b)/\(∀d,starEach (e::d) X.env=(false,eval e X.env)::starEach d X.env)/\∀whole,isTrue e X.env whole=(do let v <- whole;standAt e.pos;holding [v] (truthy v)):=by
 obtain⟨⟨f,as⟩,k,r⟩:=Option.bind_eq_some_iff.mp h;obtain⟨D,pos,rfl⟩:=ck k;obtain⟨⟨s,t⟩,hw,o⟩:=Option.bind_eq_some_iff.mp r;obtain rfl:as=[s,t]:=jB hw;obtain⟨y,g,n⟩:=Option.bind_eq_some_iff.mp o;obtain⟨p1,rfl⟩:=jA g;obtain⟨x,j,a⟩:=Option.bind_eq_some_iff.mp n;obtain⟨p2,rfl⟩:=jA j;by_cases c:f = "isinstance" /\ y=err
 ·rw[zac c]at a;obtain⟨rfl,rfl⟩:=c;refine⟨?_,λ_=>rfl,λ_=>rfl⟩;obtain⟨F,G,m,h2,h3⟩:=Z.ex x b a p2;refine PE.imp (fD (NA Z.xc h2 h3) Z.isi Z.isn PyProof.Rows.boot_isinstance (cE (he p1) (cE m eE))) λσ H Q l=>?_;obtain⟨ea,z,u,q⟩:=l;exact⟨_,z,ea,rfl,u,q⟩
 ·rw[zab c]at a;cases a
set_option tactic.hygienic true in
theorem xY{err:Str}{cl:Str->Option Bool}(Z:Qv X C cl)(he:∀p,PE X (.Name err p) (mY i)):∀{es:ak} {bs:List Bool},fZ err cl es=some bs->PA X es (Q4 C i bs)
 |[],bs,h=>by
  cases h;exact PA.imp eE λσ H Q ⟨ea,_,_,q⟩=>q
 |e::es,bs,h=>by
  rw[fZ]at h;split at h
  ·rename_i b j g h2;cases h;obtain⟨p1,p2,_⟩:=D5 Z he g;refine PA.imp (cE p1 (xY Z he h2) (p2 es)) λσ H Q d=>?_;obtain⟨ea,c,a,q⟩:=d;exact⟨ea,c,a,ea,c,a,q⟩
  ·cases h
end
def UE{i j:Nat}{err told:Str}{cl:Str->Option Bool}{es:ak}{bs bs':List Bool}{t s:Pos}(Z:Qv X C cl)(he:∀p,PE X (.Name err p) (mY i))(v:∀p,PE X (.Name told p) (mY j))(nd:X.N.Nodup)(y:X.N[j]?=some told)(hl:X.env.scope.names.lookup told=some .local)(r:i≠j)
  (h:fZ err cl es=some bs) (hlen:bs'.length+bs.length<=sizeLine):PS X (.Assign [.Name told p1] (.BinOp (.Name told p2) .Add (.List es p3) t) s)
   (λD σ H=>∃ea l,σ[i]?=some (some (.ref ea))/\H ea=some (.ext (yY ea C))/\σ[j]?=some (some (.ref l))/\H l=some (.lst (bs'.map V.bl))/\∀a H' b,aL H H'->H b=none->a[i]?=some (some (.ref ea))->a[j]?=some (some (.ref b))->H' b=some (.lst ((bs'++bs).map V.bl))->a.length=σ.length->D.nx a H'):=by
 refine PS.imp (oG (i:=j) nd y (.inl hl) (KR Ef (v p2) (xW (xY Z he h))) (hf:=.inr hl)) λD σ H x=>?_;obtain⟨ea,l,k,F,c,g,q⟩:=x;have m:j<σ.length:=by
  by_cases z:j<σ.length
  ·exact z
  ·rw[List.getElem?_eq_none (by left)]at c;cases c
 refine⟨_,c,ea,k,F,by simp;left,λp e=>?_⟩;refine⟨l,p,_,_,rfl,rfl,by rw[bq (d6 g e)];exact g,bc,by simpa using hlen,λu d=>?_⟩;have s1:aL H (upd H p (.lst (bs.map V.bl))):=aL.upd e;have n:=s1.trans (aL.upd (o:=.lst (bs'.map V.bl++bs.map V.bl)) d);refine q _ _ u n (aL.free s1 d) ?_ ?_ ?_ ?_
 ·rw[List.getElem?_set_ne (Ne.symm r)];exact k
 ·rw[List.getElem?_set_self m]
 ·rw[bc,zax]
 ·simp
theorem kY:∀{vs:az} {bs:List Bool},Vals (bs.map V.bl) vs->vs=bs.map Value.bool
 |_,[],h=>by cases h;rfl
 |_,b::bs,h=>by
  cases h with
  |cons r t=>cases r;rw[kY t];rfl
def KG(K:ao):V->ag->Hp->VK->Prop:=λx a H Q=>∃(l:Addr) (bs:List Bool) (b:Bool),x=.ref l/\a=[.bl b]/\dD K H l (bs.map V.bl)/\Q (.int (bs.count b:Nat)) H
def KD(K:ao):V->ag->Hp->VK->Prop:=λx a H Q=>∃(l:Addr) (bs:List Bool) (b:Bool),x=.ref l/\a=[.bl b]/\dD K H l (bs.map V.bl)/\b∈bs/\bs.length<=eB/\Q (.int (bs.idxOf b:Nat)) H
def Bt:UX X "list.count" (KG X.K):=by
 intro pins s σ H x G v J Q I k rv h;obtain⟨l,bs,b,rfl,rfl,t,q⟩:=h;cases k;obtain⟨u,rfl,m⟩:=rv.one;cases m;obtain⟨M,r,o,L⟩:=I.list t;obtain rfl:=kY r;obtain⟨⟨D,z,dat,j⟩,n,i,g,a,d⟩:=o;simp only at g a d;subst g d;refine abx PySem.F.slot_list_count ⟨_,i,rfl⟩ PySem.F.entry_list_count (PySem.F.args_list_count_2 _ _) (SeqAt.list_countAt l _ n z j (.bool b) (isBoolOf b)) ⟨i,λy p=>?_,?_⟩
 ·obtain⟨c,_,rfl⟩:=List.mem_map.mp (show y∈bs.map Value.bool by simpa using p);exact abw c b
 ·have e:(bs.map Value.bool).countP (isBoolOf b)=bs.count b:=by
   rw[List.countP_map];rfl
  rw[show(bs.map Value.bool).toArray.toList=bs.map Value.bool from rfl,e];exact⟨.int _,H,I.tok _,⟨_,rfl⟩,q⟩
def Br:UX X "list.index" (KD X.K):=by
 intro pins s σ H x S v T Q I j rv h;obtain⟨l,bs,b,rfl,rfl,G,L,N,q⟩:=h;cases j;obtain⟨u,rfl,k⟩:=rv.one;cases k;obtain⟨W,r,o,V⟩:=I.list G;obtain rfl:=kY r;obtain⟨⟨R,O,dat,i⟩,n,g,e,a,d⟩:=o;simp only at e a d;subst e d;have M:bs.idxOf b<bs.length:=List.idxOf_lt_length_iff.mpr L;have U:bs.length<=1000000:=N;refine abx PySem.F.slot_list_index ⟨_,g,rfl⟩ PySem.F.entry_list_index (PySem.F.args_list_index_2 _ _) (SeqAt.list_indexAt l _ n O i (.bool b) (isBoolOf b) (bs.idxOf b) (by simpa using M) (by omega) (by simp[isBoolOf]) λm J t=>?_) ⟨g,λy D=>?_,?_⟩
 ·have z:=List.not_of_lt_findIdx (p:=λx=>x==b) t;simpa [isBoolOf]using z
 ·obtain⟨c,_,rfl⟩:=List.mem_map.mp (show y∈bs.map Value.bool by simpa using D);exact abw c b
 ·exact⟨.int _,H,I.tok _,⟨_,rfl⟩,q⟩
noncomputable def ue:aa->Option (List Bool)
 |[]=>some []
 |.bl b::ds=>(ue ds).map (b :: ·)
 |_::_=>none
theorem rJ:∀{ds:aa} {bs:List Bool},ue ds=some bs->ds=bs.map D.bl
 |[],_,h=>by cases h;rfl
 |d::ds,bs,h=>by
  cases d<;>first | (cases h;done)|skip
  obtain⟨b,a,rfl⟩:=Option.map_eq_some_iff.mp (show(ue ds).map (_ :: ·)=some bs from h);rw[rJ a];rfl
def Ql(xs:aa):Option (List Bool×Bool):=match xs with
 |[.lst _ ds,.bl b]=>(ue ds).bind λbs=>some (bs,b)
 |_=>none
def Gi{x y:D}{bs:List Bool}{b:Bool}(h:Ql [x,y]=some (bs,b)):∃f,x=.lst f (bs.map D.bl)/\y=.bl b:=by
 unfold Ql at h;split at h
 ·rename_i e;cases e;obtain⟨c,a,h2⟩:=Option.bind_eq_some_iff.mp h;cases h2;exact⟨_,by rw[rJ a],rfl⟩
 ·cases h
def Am(xs:aa):O D:=match Ql xs with
 |some z=>ok (.int (z.1.count z.2:Nat))
 |none=>none
def zO(xs:aa):O D:=match Ql xs with
 |some z=>if z.2∈z.1/\z.1.length<=eB then ok (.int (z.1.idxOf z.2:Nat))else none
 |none=>none
def rF(m:Str)(e:Expr):Option (ak):=(za m (.Expr e ⟨0,0,0,0⟩)).bind λz=>(one z.2).bind λy=>if isNm z.1=true then some [z.1,y]else none
variable {args elts:ak}
def F4{m:Str}{e:Expr}(h:rF m e=some args):∃x p p1 p2 a,e=.Call (.Attribute (.Name x p) m p1) [a] [] p2/\args=[.Name x p,a]/\(p1.endLine==p2.line)=true:=by
 obtain⟨⟨o,as⟩,d,h2⟩:=Option.bind_eq_some_iff.mp h;obtain⟨y,h3,b⟩:=Option.bind_eq_some_iff.mp h2;obtain rfl:=bV h3;by_cases c:isNm o=true
 case neg=>rw[zab c]at b;cases b
 rw[zac c]at b;cases b;obtain⟨p1,p2,pos,g,hl⟩:=oo d;cases g;cases o<;>first | (cases c;done)|skip
 exact⟨_,_,_,_,_,rfl,rfl,hl⟩
variable {F R:Addr->Prop}{cs es:aA}{Φ:aU}
def Ew{n:Nat}{m:Str}{id:String}{f:aj}{r:ao->V->ag->Hp->VK->Prop}(I:Φ n=f)(slot:Slot "list" m id)(X6:typeOf (.builtin id)=pure (.type "method_descriptor"))(hm:UX X id (r X.K))
  (hf:∀x y z,f [x,y]=ok z->∃(M:Fl) (bs:List Bool) (b:Bool) (i:Int),x=.lst M (bs.map D.bl)/\y=.bl b/\z=.int i/\∀(l:Addr) (H:Hp) (Q:VK),dD X.K H l (bs.map V.bl)->Q (.int i) H->r X.K (.ref l) [.bl b] H Q)
  {e:Expr} (he:rF m e=some args) (hs:ql X F Φ cs args):PE X e (tD X F Φ (.cI n cs))/\PT X e (ip X F Φ (.cI n cs)):=by
 obtain⟨x,p,p1,p2,a,rfl,rfl,hl⟩:=F4 he;cases cs with
 |nil=>exact hs.elim
 |cons c cs=>cases cs with
  |nil=>exact hs.2.2.2.elim
  |cons c' cs=>cases cs with
   |cons _ _=>exact hs.2.2.2.2.2.2.elim
   |nil =>
    obtain⟨h1,_,_,h2,s,_,_⟩:=hs;have this:PE X (.Call (.Attribute (.Name x p) m p1) [a] [] p2) (tD X F Φ (.cI n [c,c'])):=by
     refine PE.imp (D8 ab4 slot X6 hm h1 (cE h2 eE (s _)) (hfew:=by rw[s];rfl) (hline:=hl) (hs:=s _)) λσ H Q J=>?_;obtain⟨R,τ,ρ,d,U,q,J⟩:=J;obtain⟨xs,o,q⟩:=aH q;obtain⟨y,ey,o⟩:=aH o;obtain⟨j,G,o⟩:=aH o;cases o;obtain⟨w,ew,G⟩:=aH G;cases G;rw[I]at q;obtain⟨M,bs,b,i,rfl,rfl,rfl,g⟩:=hf _ _ _ q;refine tD.intro U ey λv H1 S r1=>?_;obtain⟨_,_,q1⟩:=r1;cases q1 with
     |lst L Y =>
      refine⟨⟨rfl,_,L.sq⟩,tD.intro (U.go S) ew λu W O r2=>?_⟩;obtain⟨_,_,q2⟩:=r2;cases q2;have:∀{T:nq} {N:kA} {k:bt} {n:Nat} {j:ag} {bs:List Bool},aI T N k n j (bs.map D.bl)->j=bs.map V.bl:=λ{T N k n j bs} h=>by
       induction bs generalizing n j with
       |nil=>cases h;rfl
       |cons b bs Z=>cases h with
        |cons r t=>cases r;rw[Z t];rfl
      obtain rfl:=this Y;exact g _ W _ (nd.same O L).sq (J _ W (S.trans O) ⟨λ_=>none,λ_ _ h=>by simp at h,.int _⟩)
    exact⟨this,cP this λ_=>rfl⟩
def JZ{n:Nat}(a:Φ n=Am){e:Expr}(he:rF "count" e=some args)(hs:ql X F Φ cs args):PE X e (tD X F Φ (.cI n cs))/\PT X e (ip X F Φ (.cI n cs)):=by
 refine Ew (r:=KG) a PySem.F.slot_list_count PySem.F.type_list_count Bt (λx y z h=>?_) he hs;unfold Am at h;cases b:Ql [x,y]with
 |none=>rw[b]at h;cases h
 |some w =>
  rw[b]at h;cases h;obtain⟨f,rfl,rfl⟩:=Gi b;exact⟨_,_,_,_,rfl,rfl,rfl,λl H Q h q=>⟨l,_,_,rfl,rfl,h,q⟩⟩
def Jc{n:Nat}(a:Φ n=zO){e:Expr}(he:rF "index" e=some args)(hs:ql X F Φ cs args):PE X e (tD X F Φ (.cI n cs))/\PT X e (ip X F Φ (.cI n cs)):=by
 refine Ew (r:=KD) a PySem.F.slot_list_index PySem.F.type_list_index Br (λx y z h=>?_) he hs;unfold zO at h;cases b:Ql [x,y]with
 |none=>rw[b]at h;cases h
 |some w =>
  rw[b]at h;obtain⟨⟨g,d⟩,c⟩:=uE h;cases c;obtain⟨f,rfl,rfl⟩:=Gi b;exact⟨_,_,_,_,rfl,rfl,rfl,λl H Q h q=>⟨l,_,_,rfl,rfl,h,g,d,q⟩⟩
variable {N ps:av}{qual:Str}{st:Stmt}
def Zo{CX:Cf}{x:Str}{b:FuncData}{k:Nat}{sp:Sp}(F:GD K x qual st f b)(S:gX N ps (aO st))(len:∀vs H Q E,sp vs H Q E->vs.length=ps.length)
  (e:∀(a:Value) (A:aN) (outer:List Env) (s:Shared) (H:Hp) (vs:ag) (Q:VK) (E:XK),h_ k (A.deeper (envOfC qual (aO st) s.heap.objs.size f a))->sp vs H Q E ->
   ∃t,jd (jO CX P w K mg base N qual (aO st) f a A outer s H E) (bQ st) t/\t { nx:=λ_ H'=>Q .bz H',rt:=Q } (L2.start N vs) H):iM P w K mg base CX (k+1) f b ps sp:=by
 obtain⟨m,l,n,i,j,p,a,o,q,rfl,g,c⟩:=F.ex;exact Ll g c S len λA outer s H vs Q E h d=>e a A outer s H vs Q E h d
def WL(K:ao)(C:Addr)(n:Nat)(b:aa->Prop):Sp:=λa H _ E=>∃(F:ai) (ds:aa),a.length=n/\aI (bg K H) (nd K F (λ_=>False) (λ_=>none) H) [] 0 a ds/\b ds/\∀H',aL H H'->E (.ref C) none H'
def u_{vs:ag}{ds:aa}(l:X.H₀=H)(hl:ds.length<=N.length)(rs:aI (bg X.K H) (nd X.K F (λ_=>False) (λ_=>none) H) [] 0 vs ds):
  SI X F (λp=>F p/\H p≠none) (λ_=>none) (ds.map some++List.replicate (N.length - ds.length) none) (L2.start N vs) H:=by
 have g:vs.length=ds.length:=rs.length;refine⟨?_,λi d a=>?_,λ_ _=>rfl,λp h=>h.2,λp h=>.inl h.1,λ_ _ h=>by simp at h,λ_ _ h=>by simp at h,l▸aL.refl H⟩
 ·unfold L2.start;simp[g]
 ·have e:i<ds.length:=by
   by_cases b:i<ds.length
   ·exact b
   ·rw[List.getElem?_append_right (by simpa using b),List.getElem?_replicate]at a;split at a<;>simp at a
  rw[List.getElem?_append_left (by simpa using e),List.getElem?_map]at a;have k:ds[i]?=some d:=by
   cases q:ds[i]? with
   |none=>rw[q]at a;exact nk a
   |some z=>rw[q]at a;simp at a;rw[a]
  obtain⟨v,j,rv⟩:=rs.get k;refine⟨v,?_,rv.imp (q:=[0+i]) (q':=[i]) (λ_ _ h=>h) λc p m f h=>?_⟩
  ·unfold L2.start;rw[List.getElem?_append_left (by rw[zaa,g];exact e),List.getElem?_map,j];rfl
  ·cases f with
   |ow=>exact nomatch h.2
   |fz=>exact⟨h.1,h.2,h.1.ne⟩
   |al=>exact h.2.elim
   |sc=>exact h
def ov(X:Cx)(F:ai)(bad:a_->Prop):TS:=λ_ σ H=>∃R b a,SI X F R b a σ H/\bad a
theorem PS.zC{X:Cx}{st:Stmt}{t:TS}(h:PS X.zC st t):PS X st t:=λpins s σ H D I hw =>
 aaA (h pins s σ H D (I.oi _) hw) (λ_ _ q=>q.iQ) λ_ _ q=>q.elim
theorem SI.zC{X:Cx}{F R:ai}{a:Addr->Option bt}{ρ:a_}{σ:St}{H:Hp}(S:SI X F R a ρ σ H):SI X.zC F R a ρ σ H:=⟨S.len,S.rep,S.rt,S.rh,S.rf,S.th,S.t0,S.same⟩
variable {ρ:a_}{τ:Addr->Option bt}
def SI.QP(S:SI X.zC F R τ ρ σ H):SI X F R τ ρ σ H:=⟨S.len,S.rep,S.rt,S.rh,S.rf,S.th,S.t0,S.same⟩
def xG(X:Cx)(F:ai)(bad:a_->Prop):TE:=λσ H _=>∃R τ ρ,SI X F R τ ρ σ H/\bad ρ
section
variable {X:Cx}{S:Sx}{k:Nat}{Φ:aU}{F:ai}{bad:a_->Prop}{C:Addr}
def Jx{l:Addr}{i:FuncData}{j:av}{d:aa->Prop}{m:aA}{g:Str}{e:Expr}{es:ak}(L:Lk X S k Φ)(t:Passes (uB X.prog X.w C) X (λc _ H'=>c=.ref C/\aL X.H₀ H'))
  (O:iM X.prog X.w X.K X.mg X.base (uB X.prog X.w C) k l i j (WL X.K C j.length d)) (h2:iY S.sc g=true) (x:X.mg g=some (.ref l)) (v:PySem.W.keepIn X.K (.ref l)=true) (z:Binds X.K i j []) (y:(g==("__debug__" : Str))=false)
  (h3:bZ S m (e::es)=true) (s:∀r,starEach (e::r) X.env=(false,eval e X.env)::starEach r X.env) (hpl:(backTo cpos (starEach es X.env)).any (·.1)=false) :
  PE X (.Call (.Name g np) (e::es) [] cpos) (xG X F λρ=>∃a,bL Φ m ρ=ok a/\d (au aD a)/\a.length=j.length):=by
 refine PE.imp (zx (X:=X) (p:=np) (pos:=cpos) O L.room (L.gl h2) x v z .nil t (sk (F:=F) L m (e::es) h3) y (s _) hpl) λσ H Q u=>?_;obtain⟨R,τ,ρ,n,a,J,M,I⟩:=u;refine⟨R,τ,ρ,a,n,J,λq Y D rv=>?_⟩;obtain⟨o,V,b⟩:=rv;rw[zaI];refine⟨λ_=>True,au aD a,by rw[b.length,I],aI.jw (λ_ _ h=>h) (λk U p T f h=>?_) b _ _,M,λH' G=>⟨rfl,(n.same.trans D).trans G⟩⟩;cases f with
 |ow=>exact⟨h.1,trivial⟩
 |fz=>exact⟨h.1,trivial⟩
 |al=>exact⟨h.1,trivial⟩
 |sc=>exact h
def FK{e:Expr}(h:PE X e (xG X F bad)):PS X (.Return (some e) pos) (ov X F bad):=PS.imp (oH h) λ_ _ _ q=>q
def Ln{e:Expr}(h:PE X e (xG X F bad))(hs:swapsWith e none pos.line X.env=pure false):PS X (.Expr e pos) (ov X F bad):=PS.imp (nI h hs) λ_ _ _ q=>q
def OL{i:Nat}{x:Str}{e:Expr}{p:Pos}(c:X.N.Nodup)(b:X.N[i]?=some x)(a:L2.Loc X.env.scope x)(hf:X.fn x=true)(h:PE X e (xG X F bad))(hs:swapsWith e (some (.Name x p)) pos.line X.env=pure false):PS X (.Assign [.Name x p] e pos) (ov X F bad) :=
 PS.imp (oG c b a h hs (.inl hf)) λ_ _ _ q=>q
end
noncomputable def wx(x:Str):Bool:=!(x==("__debug__" : Str))&&!(x==("__classdict__" : Str))
theorem SI.mW{X:Cx}{F R:ai}{τ:Addr->Option bt}{ρ:a_}{σ:St}{H:Hp}{pn:aw}{E:aG}(S:SI X F R τ ρ σ H):SI (Cx.mW X pn E) F R τ ρ σ H:=⟨S.len,S.rep,S.rt,S.rh,S.rf,S.th,S.t0,S.same⟩
theorem DX{S:Sx}{env:Env}{pos:Pos}:∀{es:ak} {cs:aA},bZ S cs es=true->(backTo pos (starEach es env)).any (·.1)=false
 |[],_,_=>rfl
 |e::es,[],h=>by exact(aac h).elim
 |e::es,c::cs,h=>by
  replace h:=aF h;rw[cm h.1 es env];show(false||(backTo pos (starEach es env)).any (·.1))=false;rw[DX h.2];rfl
mutual
inductive qm(Φ:aU)(Ψ:Nat->aa->Prop)(n:Nat):CS->a_->Prop
 |ex {g:Nat} {es:aA} {ρ:a_} {xs:aa} (h1:bL Φ es ρ=ok xs) (h2:Ψ g (au aD xs)):qm Φ Ψ n (.ex (.call g es)) ρ
 |asg {i g:Nat} {es:aA} {ρ:a_} {xs:aa} (h1:bL Φ es ρ=ok xs) (h2:Ψ g (au aD xs)):qm Φ Ψ n (.asg (.nm i) (.call g es)) ρ
 |ret {g:Nat} {es:aA} {ρ:a_} {xs:aa} (h1:bL Φ es ρ=ok xs) (h2:Ψ g (au aD xs)):qm Φ Ψ n (.ret (.call g es)) ρ
 |WU {m g:Nat} {t:Tg} {caps:aJ} {es bJ:aA} {elt:CE} {ρ:a_} {xs:aa} (h1:bL Φ es ρ=ok xs) (h2:Ψ g (au aD xs)):qm Φ Ψ n (.ret (.comp m t caps .seq [.call g es] bJ elt)) ρ
 |rs {ρ:a_}:qm Φ Ψ n (.rs n) ρ
 |Cp {c:CE} {a b:af} {ρ:a_} (h1:lr Φ c ρ=ok true) (h2:Er Φ Ψ n a ρ):qm Φ Ψ n (.ifs c a b) ρ
 |iff {c:CE} {a b:af} {ρ:a_} (h1:lr Φ c ρ=ok false) (h2:Er Φ Ψ n b ρ):qm Φ Ψ n (.ifs c a b) ρ
inductive Er(Φ:aU)(Ψ:Nat->aa->Prop)(n:Nat):af->a_->Prop
 |hd {c:CS} {cs:af} {ρ:a_} (h:qm Φ Ψ n c ρ):Er Φ Ψ n (c::cs) ρ
 |tl {c:CS} {cs:af} {ρ ρ':a_} (h1:i0 Φ c ρ=ok (.nx,ρ')) (h2:Er Φ Ψ n cs ρ'):Er Φ Ψ n (c::cs) ρ
end
noncomputable def ZX:Stmt->Option Expr
 |.Raise e c _=>match c with
  |none=>e
  |some _=>none
 |_=>none
set_option tactic.hygienic true in
def L4{s:Stmt}{e:Expr}(h:ZX s=some e):∃p,s=.Raise (some e) none p:=by
 cases s<;>first|exact nk h | (cases h;done)|skip
 rename_i a c p;cases c with
 |some _=>cases h
 |none=>cases h;exact⟨p,rfl⟩
noncomputable def Ss:Expr->Bool
 |.Constant c _ _=>match c with|.str _=>true|_=>false
 |_=>false
set_option tactic.hygienic true in
def I0{e:Expr}(h:Ss e=true):∃m j p,e=.Constant (.str m) j p:=by
 cases e<;>first|exact(aac h).elim|skip
 rename_i c _ _;cases c<;>first|exact(aac h).elim|exact⟨_,_,_,rfl⟩
def rsB(y:Str)(st:Stmt):Bool:=bC (ZX st) λe=>bC (fV e) λz=>(z.1==y)&&bC (one z.2) Ss
mutual
noncomputable def xk(gl:Bool)(n:Nat)(y:Str):CS->Stmt->Bool
 |.rs m,st=>!(m==n)||(gl&&rsB y st)
 |.ifs _ a b,st=>bC (L8 st) λz=>CA gl n y a z.2.1&&CA gl n y b z.2.2
 |.fr _ _ b,st=>bC (L9 st) λz=>CA gl n y b z.2.2.1
 |_,_=>true
noncomputable def CA(gl:Bool)(n:Nat)(y:Str):af->aW->Bool
 |c::cs,st::qg=>xk gl n y c st&&CA gl n y cs qg
 |_,_=>true
end
structure jx(P:aM)(w:World)(K:ao)(mg:aZ)(base:Heap)(k:Nat)(C:Addr)(y:Str)(mr:aa->Prop):Prop where
 ex:∃(f:Addr) (fd:FuncData) (ps:av),iM P w K mg base (uB P w C) k f fd ps (WL K C ps.length mr)/\mg y=some (.ref f)/\PySem.W.keepIn K (.ref f)=true/\Binds K fd ps []/\∀ds,mr ds->ds.length=ps.length
structure LM(X:Cx)(S:Sx)(k:Nat)(Φ:aU)(Ψ:Nat->aa->Prop)(C:Addr)(y:Str)(gl:Bool):Prop where
 ls:nu X S k Φ
 hR:∀pins σ H1 s1 h' ea vs,Inv X pins σ H1 s1->aL X.H₀ H1->Heap.MadeExcOf s1.heap h' ea (.ref C) vs->X.xe (.ref ea) { s1 with heap:=h' }
 hx:Passes (uB X.prog X.w C) X (λc _ H'=>c=.ref C/\aL X.H₀ H')
 fe:∀g x,S.fn g=some x->(∃ds,Ψ g ds)->jx X.prog X.w X.K X.mg X.base k C x (Ψ g)
 gy:gl=true->Gl X y/\(y==("__debug__" : Str))=false
 own:qJ y C X.mg X.base
variable {xs:aa}
section
variable {X:Cx}{S:Sx}{k n:Nat}{Φ:aU}{Ψ:Nat->aa->Prop}{F:ai}{C:Addr}{y:Str}{gl:Bool}
def wd(L:Lk X S k Φ)(t:Passes (uB X.prog X.w C) X (λc _ H'=>c=.ref C/\aL X.H₀ H'))(M:∀g x,S.fn g=some x->(∃j,Ψ g j)->jx X.prog X.w X.K X.mg X.base k C x (Ψ g)){g:Nat}{e:Expr}(h:b6 S (.call g es) e=true):PE X e (xG X F λρ=>∃xs,bL Φ es ρ=ok xs/\Ψ g (au aD xs)):=by
 obtain⟨⟨x,as⟩,u,q1⟩:=br h;obtain⟨p,pos,rfl⟩:=ck u;obtain⟨q2,q⟩:=aF q1;obtain⟨o,h3⟩:=aF q2;obtain⟨J,h2⟩:=aF o;obtain⟨⟨a,m⟩,v,b⟩:=br q;obtain rfl:as=a::m:=xy v;by_cases l:∃j,Ψ g j
 case neg=>exact λ_ _ _ _ _ _ ⟨_,_,_,_,xs,_,d⟩=>absurd ⟨_,d⟩ l
 obtain⟨f,U,ps,Fo,D,G,I,hl⟩:=(M g x (aab J) l).ex;unfold oO at h3;simp only[zaf,zaW]at h3;have s:∀r,starEach (a::r) X.env=(false,eval a X.env)::starEach r X.env:=λr=>by
  cases es with
  |nil=>exact(aac b).elim
  |cons c cs=>exact cm (aF b).1 r _
 have i:(backTo pos (starEach m X.env)).any (·.1)=false:=by
  cases es with
  |nil=>exact(aac b).elim
  |cons c cs=>exact DX (aF b).2
 refine PE.imp (Jx (F:=F) (C:=C) (np:=p) (cpos:=pos) L t Fo h2 D G I h3.1.1 b s i) λσ H Q z=>?_;obtain⟨R,τ,ρ,T,xs,O,d⟩:=z;exact⟨R,τ,ρ,T,xs,O,d,by have:=hl _ d;rw[aE,zaa]at this;exact this⟩
def nP(L:LM X S k Φ Ψ C y gl){g:Nat}{e:Expr}(h:b6 S (.call g es) e=true):PE X e (xG X F λρ=>∃xs,bL Φ es ρ=ok xs/\Ψ g (au aD xs)):=wd L.ls.toLk L.hx L.fe h
def kQ{c:CS}(h:∀ρ,qm Φ Ψ n c ρ->False):PS X st (ov X F (qm Φ Ψ n c)):=λ_ _ _ _ _ _ a=>by
 obtain⟨_,_,ρ,_,b⟩:=a;exact(h ρ b).elim
def FL{c:CS}(h:∀ρ,qm Φ Ψ n c ρ->PS X st (λ_ σ H=>∃R τ,SI X F R τ ρ σ H)):PS X st (ov X F (qm Φ Ψ n c)):=λpins s σ H D I a=>by
 obtain⟨R,τ,ρ,d,b⟩:=a;exact h ρ b pins s σ H D I ⟨R,τ,d⟩
def ON(L:LM X S k Φ Ψ C y gl){g:Nat}(h:pT S (.ex (.call g es)) st=true)(a:bL Φ es ρ=ok xs)(b:Ψ g (au aD xs)):PS X st (λ_ σ H=>∃R τ,SI X F R τ ρ σ H):=by
 obtain⟨v,d,q1⟩:=br h;obtain⟨pos,rfl⟩:=oq d;obtain⟨c,h2⟩:=aF q1;exact PS.imp (Ln (nP (F:=F) L c) (iD c (fY h2) _ _ _)) λD σ H e=>by obtain⟨R,τ,i⟩:=e;exact⟨R,τ,ρ,i,_,a,b⟩
def Jw(L:LM X S k Φ Ψ C y gl){g:Nat}(h:pT S (.ret (.call g es)) st=true)(a:bL Φ es ρ=ok xs)(b:Ψ g (au aD xs)):PS X st (λ_ σ H=>∃R τ,SI X F R τ ρ σ H):=by
 obtain⟨z,d,q1⟩:=br h;obtain⟨pos,rfl⟩:=rY d;obtain⟨v,c,q2⟩:=br q1;obtain rfl:z=some v:=c;exact PS.imp (FK (nP (F:=F) L q2)) λD σ H e=>by obtain⟨R,τ,i⟩:=e;exact⟨R,τ,ρ,i,_,a,b⟩
def OM(L:LM X S k Φ Ψ C y gl){m g:Nat}{t:Tg}{caps:aJ}{bJ:aA}{i:CE}(h:pT S (.ret (.comp m t caps .seq [.call g es] bJ i)) st=true)(a:bL Φ es ρ=ok xs)(b:Ψ g (au aD xs)):PS X st (λ_ σ H=>∃R τ,SI X F R τ ρ σ H):=by
 obtain⟨z,r,q1⟩:=br h;obtain⟨pos,rfl⟩:=rY r;obtain⟨v,q,q2⟩:=br q1;obtain rfl:z=some v:=q;obtain⟨⟨jM,gens,o⟩,U,G⟩:=br q2;obtain⟨p,rfl⟩:=uM U;obtain⟨⟨target,iter,O,ga⟩,V,u⟩:=br G;obtain rfl:gens=_:=bV V;obtain⟨c,W⟩:=aF u;obtain⟨c,_⟩:=aF c;obtain⟨c,_⟩:=aF c;obtain⟨c,_⟩:=aF c;obtain⟨c,h2⟩:=aF c;obtain⟨Z,Y⟩:=aF c;obtain rfl:ga=0:=aab Z;have j:=mv Y;have J:PE X iter (xG X F λρ=>∃xs,bL Φ es ρ=ok xs/\Ψ g (au aD xs)):=nP (F:=F) L (aF (show bZ S [.call g es] [iter]=true from W)).1;refine PS.imp (FK (bad:=λd=>d=ρ) ?_) λD σ H e=>by obtain⟨R,τ,l⟩:=e;exact⟨R,τ,ρ,l,rfl⟩
 intro pins s σ H Q I e;obtain⟨R,τ,d,l,rfl⟩:=e;rw[eval_ListComp];obtain⟨cl,Fg,_,_⟩:=pQ (env:=X.env) (sc:=o) (λx T=>I.ok.has x (by
  show X.env.scope.names.lookup x=some .cell\/X.env.scope.names.lookup x=some .free;rw[L.ls.toLk.sc];exact j.free x T))
 have M:∀x,foldedSetIterable iter X.env x=pure x:=by intro x;cases iter<;>first|rfl | (cases h2;done)
 exact wpAny_comprehension_free (use:=none) rfl M Fg j.kind j.loc (aaA (J pins s σ H (λ_ _=>False) I ⟨R,τ,_,l,xs,a,b⟩) (λv s1 h=>by
  obtain⟨_,_,_,_,h⟩:=h;exact h.elim) λ_ _ h=>h)
def Jy(L:LM X S k Φ Ψ C y gl){i g:Nat}(h:pT S (.asg (.nm i) (.call g es)) st=true)(a:bL Φ es ρ=ok xs)(b:Ψ g (au aD xs)):PS X st (λ_ σ H=>∃R τ,SI X F R τ ρ σ H):=by
 obtain⟨⟨u,v⟩,l,q1⟩:=br h;obtain⟨pos,rfl⟩:=lB l;obtain⟨d,j,q2⟩:=br q1;obtain rfl:u=[d]:=bV j;obtain⟨o,z⟩:=aF q2;obtain⟨m,h3⟩:=aF o;obtain⟨c,h2⟩:=aF m;obtain⟨x,p,rfl⟩:∃x p,d=.Name x p:=An h2;have e:=aF (show _=true from h2);have s:iX v=false:=by
  obtain⟨⟨x,as⟩,q,_⟩:=br c;obtain⟨p,pos,rfl⟩:=ck q;rfl
 exact PS.imp (OL L.ls.nd (by rw[L.ls.N];exact aab e.1) (L.ls.loc e.2) (L.ls.xh _) (nP (F:=F) L c) (iD c s _ _ _)) λD σ H r=>by obtain⟨R,τ,t⟩:=r;exact⟨R,τ,ρ,t,_,a,b⟩
mutual
theorem erS(L:LM X S k Φ Ψ C y gl):∀(c:CS) (st:Stmt),pT S c st=true->xk gl n y c st=true->PS X st (ov X F (qm Φ Ψ n c))
 |.ex e,st,h,_=>FL λρ d=>by cases d with|ex a b=>exact ON L h a b
 |.ret e,st,h,_=>FL λρ d=>by cases d with|ret a b=>exact Jw L h a b|WU a b=>exact OM L h a b
 |.asg t e,st,h,_=>FL λρ d=>by cases d with|asg a b=>exact Jy L h a b
 |.rs m,st,h,g=>by
  by_cases O:m=n
  ·subst O;have g:(!(m==m)||(gl&&rsB y st))=true:=g;rw[zaR,Bool.not_true,Bool.false_or]at g;obtain⟨hg,g⟩:=aF g;obtain⟨gy,dy⟩:=L.gy hg;obtain⟨e,v,q1⟩:=br g;obtain⟨pos,rfl⟩:=L4 v;obtain⟨⟨x,as⟩,U,q2⟩:=br q1;obtain⟨p,pos',rfl⟩:=ck U;obtain⟨Z,Y⟩:=aF q2;obtain⟨c,T,W⟩:=br Y;obtain rfl:as=[c]:=bV T;obtain⟨m',j,p',rfl⟩:=I0 W;obtain rfl:x=y:=eq_of_beq Z;exact PS.imp (DS L.ls.calm L.own gy dy) λD σ H o=>by
    obtain⟨R,τ,ρ,l,d⟩:=o;exact λpins s h' ea V I EZ=>L.hR pins _ H s h' ea V I l.same EZ
  ·exact kQ λ_ d=>by cases d;exact absurd rfl O
 |.ifs c a b,st,h,g=>by
  obtain⟨⟨t,x,z⟩,v,q1⟩:=br h;obtain⟨pos,rfl⟩:=rZ v;obtain⟨q2,h3⟩:=aF q1;obtain⟨M,h2⟩:=aF q2;obtain⟨J,G⟩:=aF (show(CA gl n y a x&&CA gl n y b z)=true from g);refine PS.imp (vx (pos:=pos) (gw (F:=F) L.ls.toLk c t M).2 (Jz L a x h2 J) (Jz L b z h3 G)) λD σ H o=>?_;obtain⟨R,τ,ρ,l,d⟩:=o;cases d with
  |Cp r q=>exact⟨R,τ,ρ,true,l,r,λH2 es=>Nv ⟨R,τ,ρ,l.go es,q⟩⟩
  |iff r q=>exact⟨R,τ,ρ,false,l,r,λH2 es=>EK ⟨R,τ,ρ,l.go es,q⟩⟩
 |.par _ _ _ _,st,h,_=>kQ λ_ d=>by cases d
 |.mut _ _ _,st,h,_=>kQ λ_ d=>by cases d
 |.unp _ _,st,h,_=>kQ λ_ d=>by cases d
 |.app _ _,st,h,_=>kQ λ_ d=>by cases d
 |.Ko _ _,st,h,_=>kQ λ_ d=>by cases d
 |.fr _ _ _,st,h,_=>kQ λ_ d=>by cases d
theorem Jz(L:LM X S k Φ Ψ C y gl):∀(cs:af) (i:aW),ju S cs i=true->CA gl n y cs i=true->jd X i (ov X F (Er Φ Ψ n cs))
 |[],_,_,_=>λ_ _ _ _ _ _ b4=>by obtain⟨_,_,_,_,d⟩:=b4;cases d
 |_::_,[],h,_=>by exact(aac h).elim
 |c::cs,st::i,h,g=>by
  replace h:=aF h;obtain⟨J,G⟩:=aF (show(xk gl n y c st&&CA gl n y cs i)=true from g);have hN:jd X i Mj:=λ_ _ _ _ _ _ z=>z.elim;have M:PS X st (qr X F Φ c):=xJ (F:=F) L.ls c st h.1;have A:jd X (st::i) _:=dT (erS L c st h.1 J) hN;have B:jd X (st::i) _:=dT M (Jz L cs i h.2 G);intro pins s σ H D I o;obtain⟨R,τ,ρ,l,d⟩:=o;cases d with
  |hd e=>exact A pins s σ H D I ⟨R,τ,ρ,l,e⟩
  |tl r q=>exact B pins s σ H D I ⟨R,τ,ρ,(.nx,_),l,r,λQ H' R' u gK kp=>⟨R',u,_,gK,q⟩⟩
end
end
def OK{x:Str}{o:FuncData}{k n:Nat}{bl:av}{cs:List (Str×GK)}{px:Px}{c:Nat->Option Str}{Ψ:Nat->aa->Prop}{l:aa->Prop}{b:af}{y:Str}
  (Z:GD K x qual st f o) (d:gX N ps (aO st)) (Fh:ju ⟨aO st,N,c,bl,cs,px⟩ b (bQ st)=true) (U:CA (iY (aO st) y&&!(y==("__debug__" : Str))) n y b (bQ st)=true) (q:qb px Φ) (V:GC px Φ)
  (D:∀y∈bl,mg y=none) (G:∀y i,(y,i)∈cs->∃u,mg y=some u/\w8 K i u) (r:∀g y,c g=some y->Ent P w K mg base k y (Φ g)) (Y:∀g y,c g=some y->(∃a,Ψ g a)->jx P w K mg base k C y (Ψ g))
  (O:qJ y C mg base) (M:∀a,l a->a.length=ps.length/\Er Φ Ψ n b (a.map some++List.replicate (N.length - a.length) none)):iM P w K mg base (uB P w C) (k+1) f o ps (WL K C ps.length l):=by
 refine Zo (N:=N) Z d (λj H Q E ⟨_,_,h,_⟩=>h) λS A outer s H j Q E J t=>?_;obtain⟨F,a,hl,v,e,m⟩:=t;obtain⟨P8,T⟩:=M a e
 let X:=jO (uB P w C) P w K mg base N qual (aO st) f S A outer s H E
 have p:nu X ⟨aO st,N,c,bl,cs,px⟩ k Φ:=⟨⟨rfl,rfl,d.nd,rfl,J,D,λg y h=>⟨(r g y h).ex⟩,G,q⟩,λ_=>rfl,PassesOwn.leaving,d.kind,V⟩
 have L:ps.length<=N.length:=by have:=aaU List.length d.pre;rw[zaL]at this;left
 have W:LM X ⟨aO st,N,c,bl,cs,px⟩ k Φ Ψ C y (iY (aO st) y&&!(y==("__debug__" : Str))):=⟨p,λpins σ H1 s1 h' ea j I es EZ=>HV I EZ (m H1 es),RM λH' h=>m H' h.2,Y,λz=>⟨p.gl (aF z).1,by simpa using (aF z).2⟩,O⟩
 exact⟨_,Jz (F:=F) W b _ Fh U,_,_,_,u_ (X:=X) rfl (by left) v,T⟩
variable {items:aY}
section
variable {prog:aM}{w:World}{A:aN}{E:aG}{s:Shared}
def uR{l:Addr}:∀{s:Shared} {i:Nat} {Q E:aG},s.heap.IsTupleIter it l i->(∀o,s.heap.get? it=some o->o.cls=.type "tuple_iterator" -> o.data=.fields #[.ref l,.int i 0]->wpAny (model prog w) A.in1 (Builtin.«tuple_iterator.__next__» ⟨[.ref it],[]⟩) (λfin b=>∃v,fin=.done (.ret v)/\Q v b) E s)->wpAny (model prog w) A (Builtin.SmallTypes.nextOf (.ref it)) Q E s:=by
 intro s i Q E a h;obtain⟨o,c,g,d⟩:=id a;unfold Builtin.SmallTypes.nextOf;exact aaa (aa0 (name:=Str.ofString "__next__") a.typeIs PySem.F.slot_tuple_iterator_next (aaZ PySem.F.slot_tuple_iterator_next a.typeIs PySem.F.entry_tuple_iterator_next (aaA (h o c g d) (λfin b ⟨v,e,q⟩=>⟨v,e,aae q⟩) λ_ _ e=>e) (PySem.F.args_tuple_iterator_next_1 _)))
def Ends(prog:aM)(w:World)(A:aN)(it:Addr)(S:Heap->Prop):Prop:=∀(s:Shared) (Q E:aG),S s.heap->(∀h' e,Heap.ExtBut it s.heap h'->(∃o,h'.get? e=some o/\o.cls=.type "StopIteration")->E (.ref e) { s with heap:=h' })->wpAny (model prog w) A (Builtin.SmallTypes.nextOf (.ref it)) Q E s
def qQ(e:A.handled=none){l:Addr}{i:Nat}(d:items[i]?=none):Ends prog w A it (λh=>h.IsTupleIter it l i/\h.IsTuple l items):=by
 intro s Q E st g;refine uR st.1 λo b q c=>?_;obtain⟨n,k,_,p,j⟩:=id st.2;show wpAny _ _ (field (.ref it) 0 >>= _) _ _ _;refine aaa (aa_ b c (x:=.ref l) rfl ?_);rw[zab (show ¬ (Value.ref l==Value.none)=true from zaj)];refine aaa (aa_ b c (x:=.int i 0) rfl (aaa (ab0 k j ?_)));simp only[zan,d];refine aaa (wpAny_rule (aaa (acn b c (by simp) ?_)));show wpAny _ _ (newExc (.type "StopIteration") [] >>= _) _ _ _;refine aaa ?_;simp only[newExc,newTuple];refine aaa (abb (aaa (m:=firstArgMember _ _) (wpAny_of_eq (a:=Value.none) (by first|rfl | (simp only[firstArgMember];rfl)) (abb ?_ (by size_fits)))) (by size_fits));simp only[raiseNew];refine aaa (wpAny_handled ?_);rw[show A.in1.in1.handled=none from e];exact aaa (aae (wpAny_throw (g _ _ (((abt ..).extBut.push _).push _) ⟨_,aaq _ rfl,rfl⟩)))
def wk(m:A.handled=none)(it l:Addr)(j:l≠it)(items:aY):Draws prog w A it [it,l] items.size (λi v=>items[i]?=some v) (λi h=>h.IsTupleIter it l i/\h.IsTuple l items):=by
 refine⟨λ_ _ st=>let ⟨o,a,_⟩:=st.1;⟨o,a⟩,λ_ _ _ st d=>?_,λi s Q E e st p=>?_,λs Q E st q=>?_⟩
 ·obtain⟨⟨o,a,r⟩,c,k,g⟩:=st;exact⟨⟨o,d it (by simp) o a,r⟩,c,d l (by simp) c k,g⟩
 ·refine uR st.1 λo a n b=>?_;obtain⟨y,u,_,z,t⟩:=id st.2;show wpAny _ _ (field (.ref it) 0 >>= _) _ _ _;refine aaa (aa_ a b (x:=.ref l) rfl ?_);rw[zab (show ¬ (Value.ref l==Value.none)=true from zaj)];refine aaa (aa_ a b (x:=.int i 0) rfl (aaa (ab0 u t ?_)));simp only[zan,show items[i]?=some items[i] by simp[e]];refine aaa (acn a b (by simp) (aae ⟨_,rfl,p _ _ s.toks (by simp[e]) ⟨?_,st.2.extBut (abt ..).extBut j⟩ (abt ..)⟩));exact⟨_,aa9 _ a (Obj.isFreed_of_fields (Obj.data_mapFields b _)),(Obj.cls_mapFields ..).trans n,by rw[Obj.data_mapFields b];simp[rawInt]⟩
 ·exact qQ m (by simp) s Q E st q
end
section
variable {prog:aM}{w:World}{A:aN}{E:aG}{s:Shared}
def Es(l:Addr)(items:aY):Meets (Builtin.«enumerate.__new__» ⟨[.type "enumerate",.ref l],[]⟩) (λ_ R s=>s.heap.IsTuple l items /\
  R (.ok (.ret (.ref (s.heap.push { cls:=.type "tuple_iterator",data:=.fields #[.ref l,.int 0 0] }).objs.size))) { s with heap:=(s.heap.push { cls:=.type "tuple_iterator",data:=.fields #[.ref l,.int 0 0] }).push { cls:=.type "enumerate",data:=.fields #[.none,.bool false,.ref s.heap.objs.size,rawInt 0,.none,.none] } }) :=
 .of_wp λprog w A R s h=>by
  obtain⟨j,g,d,b,e⟩:=s;obtain⟨a,h⟩:=h;obtain⟨i,hl,r⟩:=id a;have k:=sub_enumerate
  wp_walk using AutoSeq1.wpAny_loadPart' hl
  refine wpAny_stack_any λst=>aae ?_;split
  ·rename_i c _ _ _ _ _;cases (c==Value.type "enumerate")<;>(wp_walk using AutoSeq1.wpAny_loadPart' hl,wpAny_pyIter_tuple a;exact⟨_,rfl,h⟩)
  ·wp_walk using AutoSeq1.wpAny_loadPart' hl,wpAny_pyIter_tuple a
   exact⟨_,rfl,h⟩
def yT{l:Addr}{Q:aG}(e:s.heap.IsTuple l items)
  (h:∀h',IsEnum h' (s.heap.objs.size+1) s.heap.objs.size 0 .none->h'.IsTupleIter s.heap.objs.size l 0->(∀b o,s.heap.get? b=some o->h'.get? b=some o)->Q (.ref (s.heap.objs.size+1)) { s with heap:=h' }) :
  wpAny (model prog w) A (call (.type "enumerate") [.ref l]) Q E s:=by
 refine callType_new PySem.F.called_enumerate (by decide) (PySem.F.typeCall_enumerate_1 _) (PySem.F.newCall_enumerate_1 _) (λa=>PySem.F.args_object_init_2 a _) PySem.F.entry_enumerate_new (Es l items) ⟨e,?_⟩;have c:(s.heap.push { cls:=.type "tuple_iterator",data:=.fields #[.ref l,.int 0 0] }).objs.size=s.heap.objs.size+1:=Heap.size_push ..;show _/\_;rw[c];have d:IsEnum ((s.heap.push { cls:=.type "tuple_iterator",data:=.fields #[.ref l,.int 0 0] }).push { cls:=.type "enumerate",data:=.fields #[.none,.bool false,.ref s.heap.objs.size,rawInt 0,.none,.none] }) (s.heap.objs.size+1) s.heap.objs.size 0 .none:=by
  have:=aaq (s.heap.push { cls:=.type "tuple_iterator",data:=.fields #[.ref l,.int 0 0] }) (o:={ cls:=.type "enumerate",data:=.fields #[.none,.bool false,.ref s.heap.objs.size,rawInt 0,.none,.none] }) rfl;rw[c]at this;exact this
 exact⟨⟨_,d,rfl⟩,h _ d ⟨_,aad _ (aaq _ rfl),rfl,rfl⟩ λb o x=>aad _ (aad _ x)⟩
def B3{e l:Addr}{i:Nat}{old:Value}{Q:Option Value->Shared->Prop}(h:A.handled=none)(he:IsEnum s.heap e it i old)(a:s.heap.IsTupleIter it l i)(hl:s.heap.IsTuple l items)(d:items[i]?=none)
  (k:∀h',Heap.ExtBut it s.heap h'->Q none { s with heap:=h' }):wpAny (model prog w) A (pyNext (.ref e)) Q E s:=by
 have c:s.TypeIs (.ref e) "enumerate":=⟨_,he,rfl⟩
 unfold pyNext;refine aaa (aca (aa0 (name:=Str.ofString "__next__") c PySem.F.slot_enumerate_next (aaZ PySem.F.slot_enumerate_next c PySem.F.entry_enumerate_next ?_ (PySem.F.args_enumerate_next_1 _))));show wpAny _ _ (field (.ref e) 2 >>= _) _ _ _;refine aaa (aa_ he rfl (x:=.ref it) rfl (aaa (qQ (A:=A.in1) h d s _ _ ⟨a,hl⟩ λh' x m n=>?_)));obtain⟨o,g,j⟩:=n;exact aaa (wpAny_isInstance (T:="StopIteration") (b:=true) ⟨o,g,j⟩ isSubtype_stop (aae (k _ m)))
end
def Pu(K:ao)(a:Addr):It :=
  ⟨λi H=>∃xs x,bg K H a xs/\xs[i]?=some x,
   λi H v H'=>∃T x,(∀xs,bg K H a xs->xs[i]?=some x)/\H T=none/\v=.ref T/\H'=upd H T (.tup [.int i,x]),
   λi H=>∃xs,bg K H a xs/\xs.length<=i⟩
variable {n1:Nat}
def xD{Z:Pos}{a e:Addr}(r:e≠it):
  Turn P w K (.Tuple elts n1 Z) (Pu K a) [e,it] e (λi h=>(∃old,IsEnum h e it (i:Int) old)/\h.IsTupleIter it a i):=by
 refine⟨by simp,λi h st c b=>?_,λi h h' st k=>?_,?_,?_,λA i s Q E st hQ=>?_⟩
 ·obtain⟨⟨old,d⟩,⟨U,j,_,d1⟩⟩:=st;simp only[zak,zai,or_false]at b;rcases b with rfl|rfl
  ·exact⟨_,d,λv q=>by cases q⟩
  ·exact⟨U,j,λv q=>by rw[d1]at q;cases q⟩
 ·obtain⟨⟨old,d⟩,g⟩:=st;exact⟨⟨old,k e (by simp) _ d⟩,g.at λo z=>k it (by simp) o z⟩
 ·intro X M hw O b i pins s σ H E I m st G;subst M hw O;obtain⟨xs,x,q1,Y⟩:=G;obtain⟨⟨old,d⟩,g⟩:=st;obtain⟨l,rv,p,_⟩:=I.tuple q1;obtain⟨u,W,ru⟩:=rv.get Y;have pt:s.heap.IsTuple a l.toArray:=p;have J:a≠it:=by
   obtain⟨o,D,S,_⟩:=pt;obtain⟨U,j,c1,_⟩:=g;exact c_ D j (by rw[S,c1];simp)
  have L:a≠e:=by
   obtain⟨o,D,S,_⟩:=pt;exact c_ D d (by rw[S];simp)
  have Ji:i<l.toArray.size:=by rw[zad];exact(List.getElem?_eq_some_iff.mp W).1
  refine wpAny_pyNext_enum_itemD (wk (A:=X.A.in1) (I.ok.hd b) it a J l.toArray) d ⟨g,pt⟩ Ji r (by simp;exact⟨r,λz=>L z.symm⟩) λy h1 T V j a1 t1 PD t=>⟨_,rfl,?_⟩
  obtain rfl:y=u:=by
   have:l.toArray[i]?=some u:=by simpa using W
   rw[this]at V;cases V;rfl
  refine wpAny_letOwnedTupleGo_enum j λh2 e2 n=>?_;have Zf:s.heap.objs.size≠e:=aay (aag d);have kk:∀c o,c∉[e,it]->s.heap.get? c=some o->h2.get? c=some o:=λc o b z=>by
   simp only[zak,zai,or_false,not_or]at b;exact n.extBut c o b.1 (t c o b.1 b.2 z)
  have hT:h2.get? s.heap.objs.size=some { cls:=.type "tuple",data:=.seq #[.int i T,y] }:=n.extBut _ _ Zf t1;have hn:H s.heap.objs.size=none:=I.cJ.fresh (aaj _);have ci:((i+1:Nat):Int)=(i:Int)+1:=by push_cast;rfl
  refine⟨.ref s.heap.objs.size,upd H s.heap.objs.size (.tup [.int i,x]),r_ (s:=s) (h':=h2) (t':=T+1) I m kk (aaj _) (nB ⟨_,rfl⟩ ru hT),rfl,⟨_,x,λzs hz=>by rw[I.l_ hz q1];exact Y,hn,rfl,rfl⟩,⟨⟨y,by rw[ci];exact e2⟩,a1.1.extBut n.extBut r.symm⟩,λc b=>?_⟩;rw[bq]
  ·exact(m c b).1
  ·intro z;subst z;simp only[zak,zai,or_false]at b;rcases b with z|z
   ·exact absurd (aag d) (by rw[<- z];exact aaz _)
   ·obtain⟨_,w,_⟩:=g;exact absurd (aag w) (by rw[<- z];exact aaz _)
 ·intro X M hw O b i pins s σ H E I m st G;subst M hw O;obtain⟨xs,q1,hl⟩:=G;obtain⟨⟨old,d⟩,g⟩:=st;obtain⟨l,rv,p,_⟩:=I.tuple q1;have j:=rv.length;refine B3 (I.ok.hd b) d g (show s.heap.IsTuple a l.toArray from p) (by simp;left) λh1 t=>⟨rfl,r9 (t':=s.toks) I m λc o b z=>?_⟩
  simp only[zak,zai,or_false,not_or]at b;exact t c o b.2 z
 ·obtain⟨⟨old,d⟩,_⟩:=st;exact ab6 d hQ
def D0{c:Expr}{i:TA}{m p:Pos}(t:Gl X "enumerate")(r:X.mg "enumerate" = none)(v:PA X [c] i)(hs:∀es,starEach (c::es) X.env=(false,eval c X.env)::starEach es X.env):
  PI X (.Tuple elts n1 m) (.Call (.Name "enumerate" p) [c] [] pos) (λσ H R=>i σ H λg H1=>∃a,g=[.ref a]/\(∃xs,bg X.K H1 a xs)/\R (Pu X.K a) H1):=by
 intro pins s σ H R I h;refine Call_ (eO I t r rH (aav (dG (v pos pins s σ H _ I h) λD s1 x=>?_) (hs _) rfl));obtain⟨g,H1,d,r1,q1⟩:=x;obtain⟨a,e,⟨xs,q1⟩,q⟩:=q1;subst e;obtain⟨u,rfl,n⟩:=vals1 r1;cases n;obtain⟨y,_,p1,_⟩:=d.tuple q1;refine yT (show s1.heap.IsTuple a y.toArray from p1) λh' z o k=>ab6 z ?_;refine⟨s1.heap.objs.size+1,[s1.heap.objs.size+1,s1.heap.objs.size],_,_,H1,rfl,d.kept (t':=s1.toks) k,xD (acB _),⟨⟨_,z⟩,o⟩,λb l=>?_,q⟩;have j:s1.heap.objs.size<=b:=by
  simp only[zak,zai,or_false]at l;rcases l with rfl|rfl<;>first|exact acD .. |exact aaj _
 exact d.yA j (d.cJ.fresh j)
def AN{p:Addr}{a:aa}{H2:Hp}:Ki K (Pu K p) H2 [.ref p] [.tup a] (au aD (b9 0 a)):=by
 have len:(au aD (b9 0 a)).length=a.length:=by rw[aE,zaa,i6]
 have two:∀{H':Hp} {R':ai},aI (bg K H') (nd K R' (λ_=>False) (λ_=>none) H') [] 0 [.ref p] (au aD [.tup a]) ->
   ∃xs,bg K H' p xs/\aI (bg K H') (nd K R' (λ_=>False) (λ_=>none) H') [0] 0 xs (au aD a):=by
  intro H' R' h;rw[au,aB,au]at h;cases h with
  |cons h t=>cases h with
   |tup h r=>exact⟨_,h,r⟩
 refine⟨λi H' R' _ h c=>?_,λi H' R' x m _ h c g=>?_,λi H' R' _ h c=>?_⟩
 ·obtain⟨xs,b,r1⟩:=two h;rw[len]at c;have d:=r1.length;rw[aE,zaa]at d;exact⟨xs,xs[i]'(by left),b,aao _⟩
 ·obtain⟨xs,b,r1⟩:=two h;obtain⟨T,u,k,j,rfl,rfl⟩:=g;obtain⟨l,e,p1⟩:=r1.yy (k xs b);have es:aL H' (upd H' T (.tup [.int i,u])):=aL.upd j;refine⟨es,.tup [.int i,l],?_,.tup (bg.of bc) (.cons (.int _) (.cons (p1.U5 es) .nil))⟩;rw[aE,List.getElem?_map]at e ⊢;obtain⟨c1,q1,rfl⟩:=Option.map_eq_some_iff.mp e;rw[gc,q1];simp[aB,au]
 ·obtain⟨xs,b,r1⟩:=two h;rw[len]at c;have d:=r1.length;rw[aE,zaa]at d;exact⟨xs,b,by left⟩
def tS:aj
 |[.lst _ a]=>ok (.lst .ow (b9 0 a))
 |[.tup a]=>ok (.lst .ow (b9 0 a))
 |_=>none
def FP{n:Nat}(o:Φ n=tS){sc:Scope}{bl:av}{k:Nat}(L:PX X sc bl k){e:Expr}(he:i7 "enumerate" sc bl e=some args){j:Expr}(M:hU j=true)(hs:ql X F Φ cs args)
  {pins:aw} {s:Shared} {d:D} {items:aa} (I:Inv X pins σ H s) (G:SI X F R τ ρ σ H) (z:bL Φ cs ρ=ok xs) (b:Φ n xs=ok d) (y:kI d=ok items) (g:It->Hp->Prop)
  (hR:∀J h c,aL H h->cF X.K (gP X F) R τ (dJ cs) H h c xs->Ki X.K J h c xs items->g J h) :
  wpAny (model X.prog X.w) X.A (eval e X.env) (λv s1=>wpAny (model X.prog X.w) X.A (pyIter v) (Ct X pins σ j g) X.xe s1) X.xe s:=by
 obtain⟨p,pos,a,rfl,rfl,x,h2⟩:=mw he;cases j<;>try (cases M;done)
 obtain⟨u,s1⟩:=Ih hs;rw[o]at b;unfold tS at b;split at b
 ·cases b;cases y;refine Ia (L.gl x) (L.bl _ h2) u s1 pins s σ H g I ⟨R,τ,ρ,_,G,z,λc H1 r rv=>?_⟩;have t:=rv;obtain⟨i,O,m⟩:=rv;obtain⟨v,rfl,l⟩:=m.one;cases l with
  |lst q _=>exact⟨_,rfl,⟨_,q.sq⟩,hR _ H1 _ r t Cz⟩
 ·cases b;cases y;refine D0 (L.gl x) (L.bl _ h2) u s1 pins s σ H g I ⟨R,τ,ρ,_,G,z,λc H1 r rv=>?_⟩;have t:=rv;obtain⟨i,O,m⟩:=rv;obtain⟨v,rfl,l⟩:=m.one;cases l with
  |tup q _=>exact⟨_,rfl,⟨_,q⟩,hR _ H1 _ r t AN⟩
 ·cases b
def FH{M:Model}{nm q b q':Str}{N B N':Addr}{bs bm bs' k:az}{hdct I:Bool}{sn a:av}{sub G:az}{ab j:Bool}{col z:Option Bool}{dd D:Option Addr}{k0 k1 k2 k3 k5 v u s r p:Option Value}{newId L:String}
  {h:Heap} {g:Array GenState} {d:Drawn} {t:Nat} {l:OsState} {e:Addr} {m:Obj} {Q:Bool->Shared->Prop}
  (y:h.get? C=some (excClassObj nm q C N bs bm hdct sn sub ab col dd k0 k1 k2 k3 k5 newId)) (n:h.get? B=some (excClassObj b q' B N' bs' k I a G j z D v u s r p L)) (he:h.get? e=some m) (o:m.cls=.ref C) (O:k.contains (.type "BaseException")=true) (J:bm.contains (.ref B)=true)
  (x:Q true ⟨h,g,d,t,l⟩):wpAny M A (excMatches (.ref e) (.ref B)) Q E ⟨h,g,d,t,l⟩:=by
 have i:(Value.ref B::k).contains (.type "BaseException")=true:=by rw[zbm,O,zaY]
 have c:(Value.ref C::bm).contains (.ref B)=true:=by rw[zbm,J,zaY]
 have f:=tc_notTuple;unfold excMatches
 repeat (first | (with_reducible refine abc he ?_;rw[o])|with_reducible refine abc n ?_ | (with_reducible refine wpAny_isSubtype_exc n ?_;rw[i]) | (with_reducible refine wpAny_isSubtype_exc y ?_;rw[c])|wp_step)
 exact x
def qc(C B:Addr)(h:Heap):Prop:=∃(nm q:Str) (N:Addr) (bs bm:az) (hdct:Bool) (sn:av) (sub:az) (ab:Bool) (col:Option Bool) (dd:Option Addr) (k0 k1 k2 k3 k5:Option Value) (newId:String),h.get? C=some (excClassObj nm q C N bs bm hdct sn sub ab col dd k0 k1 k2 k3 k5 newId)/\bm.contains (.ref B)=true
section
variable {X:Cx}{C B:Addr}{x n y:Str}{i j:Nat}{E1:XK}
def H_{body:aW}{tb:TS}{hpos:Pos}(SE:X.stack=X.env::X.outer)(P7:X.env.frame=some X.env.locals)(O:qJ x B X.mg X.base)(OS:qc C B X.base)(hg:Gl X x)(hd:(x==("__debug__" : Str))=false)
  (nd:X.N.Nodup) (W:X.N[i]?=some n) (V:X.N[j]?=some y) (XU:y≠n) (J:X.env.scope.names.lookup n=some .local) (o:X.env.scope.names.lookup y=some .local) (dn:(n==("__debug__" : Str))=false) (dc:(n==("__classdict__" : Str))=false)
  (NK:swapsWith (.Name n p2) (some (.Name y p1)) p3.line (X.env)=pure false)
  (hb:∀pn G9,Passes (uB X.prog X.w C) (Cx.mW X pn G9) E1->jd (Cx.mW X pn G9) body tb) :
  PS X (.Try body [.ExceptHandler (some (.Name x np)) (some n) [.Assign [.Name y p1] (.Name n p2) p3] hpos] [] [] pos)
   (λD σ H=>tb D σ H/\∀ea H',E1 (.ref C) none H'->H' ea=none->D.nx (only X.N.length j (.ref ea)) (upd H' ea (.ext (yY ea C)))):=by
 intro pins s σ H D I hw;obtain⟨Y,hh⟩:=hw;have ok:=I.ok;refine wpAny_Try_except ?_;refine aaA (hb pins _ ?_ [] s σ H D (Ja I (λe d=>wpAny (model X.prog X.w) X.A (noteFrame e X.env) (λ_ l=>wpAny (model X.prog X.w) X.A (setFlight e none) (λ_ k=>wpAny (model X.prog X.w) X.A (handleBy e X.env [.ExceptHandler (some (.Name x np)) (some n) [.Assign [.Name y p1] (.Name n p2) p3] hpos]) (SP X pins D) X.xe k) X.xe l) X.xe d)) Y) (λf d q=>?_) (λ_ _ q=>q)
 ·intro DY b H1 s1 e m c hx;obtain⟨ea,H',rfl,fl,he⟩:=hx;obtain⟨n1,n2⟩:=fl.new;obtain⟨⟨t,B,fw,GU⟩,os,bare,un,cJ⟩:=fl;have c:Inv X pins b H1 s1:=iA c;have fw:Heap.FlyingW B (X.env::X.outer) ea (.ref C) (.ref t) m.heap:=SE▸fw;have Y5:X.A.frames=some (X.env::X.outer):=SE▸c.ok.frames;show wpAny (model X.prog X.w) X.A (noteFrame (.ref ea) X.env) _ X.xe m;refine wpAny_looks_onW Y5 P7 fw λh4 held T=>?_;refine wpAny_landsW held λh5 Y4 S=>?_;obtain⟨Z2,SR,Zq⟩:=moved un cJ GU c.stack c.lF Y4.1 (T.trans S);have h:Inv X pins b H' { m with heap:=h5 }:=c.Aq (ch:=[]) os Z2 SR bare λ_ z=>nomatch z;refine wpAny_handleBy_cons (codeAny_handlers_test (abB h.ok.kind hg (Calls.loadGlobal_global (by rw[h.ok.glob];exact h.mod.glob.keeps h.bk) O.bound ?_) hd)) (by intro q;cases q);obtain⟨bm,nsA,nm,qn,bs,hdct,sn,sub,ab,col,dd,k0,k1,k2,k3,k5,mN,hB,_,_,TL⟩:=(O.keeps h.bk).obj;obtain⟨nm2,q2,N2,bs2,bm2,abe,sn2,ac4,ab2,afD,yN,l0,l1,l2,l3,l5,id2,Z,S9⟩:=OS;have Z:=h.bk _ _ Z;obtain⟨ob,U,Yi⟩:=Y4.there;refine FH Z hB U Yi (TL.hasType (by decide +kernel)) S9 (codeAny_handlers_suite_as ?_);refine lands_againW Y4 λh6 p Q=>?_;obtain⟨M,Yd,afC⟩:=moved Z2 SR Zq c.stack c.lF p.1 Q;obtain⟨L,Yc⟩:=tracked (C:=C) M Yd n1 n2 p.there;have I7:Inv X pins b (upd H' ea (.ext (yY ea C))) { m with heap:=h6 }:=c.Aq (s':={ m with heap:=h6 }) (ch:=[]) os L Yc bare λ_ z=>nomatch z;have lM:i<b.length:=by rw[I7.len];exact(List.getElem?_eq_some_iff.mp W).1
  have VB:j<b.length:=by rw[I7.len];exact(List.getElem?_eq_some_iff.mp V).1
  refine jC I7 nd W (.inl J) (v:=.ref ea) (u:=.ref ea) rfl (λs8 I8=>?_) (.inr J)
  let X2:Cx:={ X with A:=X.A.mark (some (.ref ea)),calm:=false,xe:=AsSuiteRaised (model X.prog X.w) (X.A.mark (some (.ref ea))) X.env n hpos (notedBy (model X.prog X.w) (X.A.mark (some (.ref ea))) X.env (cameBackBy (model X.prog X.w) X.A X.env X.xe)) }
  have ps:jd X2 [.Assign [.Name y p1] (.Name n p2) p3] _:=iT (oG (X:=X2) (i:=j) nd V (.inl o) (Ib (X:=X2) (i:=i) (pos:=p2) W (.inl J) dn dc) NK (hf:=.inr o));refine aaA (ps pins s8 _ _ { nx:=λa ko=>ko=upd H' ea (.ext (yY ea C))/\a[j]?=some (some (.ref ea)),rt:=λ_ _=>False } (ES I8 _ _) ⟨.ref ea,by rw[List.getElem?_set_self lM],rfl,by rw[List.getElem?_set_self (by simpa using VB)]⟩) (λf s9 G=>?_) (λ_ _ q=>q);cases f with
  |next =>
   obtain⟨σ9,H9,I9,rfl,e9⟩:=G;have I9:=yp ok I9;exact ya I9 J XU nd V e9 λs10 I10=>⟨_,_,I10,hh ea H' he n1⟩
  |ret v=>obtain⟨_,_,_,_,_,z⟩:=G;exact z.elim
  |brk=>obtain⟨_,_,_,z⟩:=G;exact z.elim
  |cont=>obtain⟨_,_,_,z⟩:=G;exact z.elim
 ·cases f with
  |next=>obtain⟨a,H',g,q⟩:=q;exact abQ ⟨a,H',iA g,q⟩
  |ret v=>obtain⟨v,a,H',g,r,q⟩:=q;exact⟨v,a,H',iA g,r,q⟩
  |brk=>obtain⟨a,H',g,q⟩:=q;exact⟨a,H',iA g,q⟩
  |cont=>obtain⟨a,H',g,q⟩:=q;exact⟨a,H',iA g,q⟩
end
section
variable {X:Cx}{S:Sx}{k n:Nat}{Φ:aU}{Ψ:Nat->aa->Prop}{F:ai}{C B:Addr}
noncomputable def NC:CE->Bool
 |.call _ _=>true
 |_=>false
def NB:CS->Bool
 |.ex e=>NC e
 |_=>false
def Mf:CS->Bool
 |.ex e=>NC e
 |.ifs _ a b=>bC (one a) λx=>bC (one b) λy=>NB x&&NB y
 |_=>false
def zN{e:CE}(h:NC e=true):∃g es,e=.call g es:=by
 cases e<;>first|exact(aac h).elim|exact⟨_,_,rfl⟩
def zM{c:CS}(h:NB c=true):∃g es,c=.ex (.call g es):=by
 cases c<;>first|exact(aac h).elim|skip
 obtain⟨g,es,rfl⟩:=zN h;exact⟨g,es,rfl⟩
def Lm(L:Lk X S k Φ)(i:Passes (uB X.prog X.w C) X (λc _ H'=>c=.ref C/\aL X.H₀ H'))(l:∀g x,S.fn g=some x->(∃m,Ψ g m)->jx X.prog X.w X.K X.mg X.base k C x (Ψ g)){g:Nat}(h:pT S (.ex (.call g es)) st=true):PS X st (ov X F (qm Φ Ψ n (.ex (.call g es)))):=by
 obtain⟨v,e,q1⟩:=br h;obtain⟨pos,rfl⟩:=oq e;obtain⟨d,h2⟩:=aF q1;exact PS.imp (Ln (wd (F:=F) L i l d) (iD d (fY h2) _ _ _)) λD σ H o=>by obtain⟨R,τ,ρ,p,j⟩:=o;cases j with|ex a b=>exact⟨R,τ,ρ,p,_,a,b⟩
def Ui(L:Lk X S k Φ)(o:Passes (uB X.prog X.w C) X (λc _ H'=>c=.ref C/\aL X.H₀ H'))(p:∀g x,S.fn g=some x->(∃J,Ψ g J)->jx X.prog X.w X.K X.mg X.base k C x (Ψ g)){c:CS}(j:Mf c=true)(h:pT S c st=true):PS X st (ov X F (qm Φ Ψ n c)):=by
 cases c<;>first|exact(aac j).elim|skip
 ·obtain⟨g,es,rfl⟩:=zN j;exact Lm L o p h
 ·obtain⟨ca,u,G⟩:=br j;obtain⟨Q,s,d⟩:=br G;obtain⟨r,q⟩:=aF d;obtain⟨_,_,rfl⟩:=zM r;obtain⟨_,_,rfl⟩:=zM q;cases bV u;cases bV s;obtain⟨⟨t,x,z⟩,v,q1⟩:=br h;obtain⟨pos,rfl⟩:=rZ v;obtain⟨q2,h3⟩:=aF q1;obtain⟨I,h2⟩:=aF q2;have one:∀{g:Nat} {es:aA} {i:aW},ju S [.ex (.call g es)] i=true->jd X i (ov X F (Er Φ Ψ n [.ex (.call g es)])):=λ{g es i} b=>by
   cases i with
   |nil=>exact(aac b).elim
   |cons O rest =>
    have b:=aF b;cases rest with
    |cons _ _=>exact(aac b.2).elim
    |nil =>
     refine jd.imp (iT (Lm (F:=F) (n:=n) L o p b.1)) λD σ H ⟨R,τ,ρ,a,d⟩=>?_;cases d with
     |hd e=>exact⟨R,τ,ρ,a,e⟩
     |tl _ e=>cases e
  refine PS.imp (vx (pos:=pos) (gw (F:=F) L _ t I).2 (one h2) (one h3)) λD σ H y=>?_;obtain⟨R,τ,ρ,a,d⟩:=y;cases d with
  |Cp m l=>exact⟨R,τ,ρ,true,a,m,λM es=>Nv ⟨R,τ,ρ,a.go es,l⟩⟩
  |iff m l=>exact⟨R,τ,ρ,false,a,m,λM es=>EK ⟨R,τ,ρ,a.go es,l⟩⟩
end
def LQ(K:ao)(mg:aZ)(sc:Scope)(C:Addr)(x:Str)(b:Bool):Prop :=
 (iY sc x=true/\(x==("__debug__" : Str))=false)/\((∃a,mg x=some (.ref a)/\PySem.W.kitOne K (.ref C) (.ref a)=some b)\/∃T,mg x=none/\bootBuiltins x=some (.type T)/\x ≠ "__name__" /\ PySem.W.kitOne K (.ref C) (.type T)=some b)
end DI
end
section
namespace DI
open PySem (Str)
section
variable {α β:Type}
@[simp]theorem dC(a:α)(f:α->O β):bd (ok a) f=f a:=rfl
@[simp]theorem VZ(c:Nat)(f:α->O β):bd (some (.error c)) f=some (.error c):=rfl
noncomputable def LI(f:α->O β)(x:O α):O β:=bd x f
@[simp]theorem Zz(f:α->O β)(a:α):LI f (ok a)=f a:=rfl
@[simp]theorem V3(f:α->O β)(c:Nat):LI f (some (.error c))=some (.error c):=rfl
end
def UJ(op:AL)(x y:O D):O D:=bd x λx=>bd y λy=>dB op x y
@[simp]theorem VY(op:AL)(x y:D):UJ op (ok x) (ok y)=dB op x y:=rfl
def UA(op:Cv)(x y:O D):O D:=bd x λx=>bd y λy=>gd op x y
@[simp]theorem VV(op:Cv)(x y:D):UA op (ok x) (ok y)=gd op x y:=rfl
def ixO(x y:O D):O D:=bd x λx=>bd y λy=>nK x y
@[simp]theorem XE(x y:D):ixO (ok x) (ok y)=nK x y:=rfl
def RU(x:O D):O D:=bd (bd x iR) λb=>ok (.bl (!b))
@[simp]theorem Vq(b:Bool):RU (ok (.bl b))=ok (.bl (!b)):=rfl
@[simp]theorem QT(b:Bool):iR (.bl b)=ok b:=rfl
def se(x:O D):O Bool:=bd x iR
@[simp]theorem U3(b:Bool):se (ok (.bl b))=ok b:=rfl
@[simp]theorem QS(c:Nat):se (some (.error c))=some (.error c):=rfl
def isO(t:Ty)(x:O D):O D:=bd x λx=>ok (.bl (cM t x))
@[simp]theorem XO(t:Ty)(x:D):isO t (ok x)=ok (.bl (cM t x)):=rfl
def Gg(m:aj)(xs:O (aa)):O D:=bd xs λxs=>bd (m (au aD xs)) λr=>ok (aB fN r)
def T8(x:O D):O D:=bd x λr=>ok (aB fN r)
@[simp]theorem Y3(r:D):T8 (ok r)=ok (aB fN r):=rfl
@[simp]theorem VI(c:Nat):T8 (some (.error c))=some (.error c):=rfl
@[simp]theorem Gf(m:aj)(xs:aa):Gg m (ok xs)=T8 (m (au aD xs)):=rfl
@[simp]theorem Qk(m:aj)(c:Nat):Gg m (some (.error c))=some (.error c):=rfl
noncomputable def pO(x:O D)(xs:O (aa)):O (aa):=bd x λx=>bd xs λxs=>ok (x::xs)
@[simp]theorem Uy(x:D)(xs:aa):pO (ok x) (ok xs)=ok (x::xs):=rfl
@[simp]theorem Qh(c:Nat)(xs:O (aa)):pO (some (.error c)) xs=some (.error c):=rfl
@[simp]theorem Pa(x:D)(c:Nat):pO (ok x) (some (.error c))=some (.error c):=rfl
noncomputable def Nw(x:O Bool)(a b:O D):O D:=bd x λk=>if k then a else b
@[simp]theorem XM(a b:O D):Nw (ok true) a b=a:=rfl
@[simp]theorem XN(a b:O D):Nw (ok false) a b=b:=rfl
def Kf(x y:O D):O D:=bd (bd x iR) λc=>if c then y else ok (.bl false)
@[simp]theorem ZA(y:O D):Kf (ok (.bl true)) y=y:=rfl
@[simp]theorem ZC(y:O D):Kf (ok (.bl false)) y=ok (.bl false):=rfl
@[simp]theorem ZD(a b:Bool):Kf (ok (.bl a)) (ok (.bl b))=ok (.bl (a&&b)):=by cases a<;>rfl
def Vl(x y:O D):O D:=bd (bd x iR) λc=>if c then ok (.bl true)else y
@[simp]theorem aal(y:O D):Vl (ok (.bl true)) y=ok (.bl true):=rfl
@[simp]theorem aam(y:O D):Vl (ok (.bl false)) y=y:=rfl
@[simp]theorem aan(a b:Bool):Vl (ok (.bl a)) (ok (.bl b))=ok (.bl (a||b)):=by cases a<;>rfl
def EG(x:O D):O D:=bd (bd x iR) λc=>ok (.bl c)
@[simp]theorem Sj(c:Bool):EG (ok (.bl c))=ok (.bl c):=rfl
@[simp]theorem Rl(d:D):zj (some (some d))=ok (aB ba d):=rfl
section
variable (Φ:aU)(ρ:a_)
@[simp]theorem abJ:bp Φ .bz ρ=ok .bz:=rfl
@[simp]theorem afz(b:Bool):bp Φ (.bl b) ρ=ok (.bl b):=rfl
@[simp]theorem Lq(i:Int):bp Φ (.int i) ρ=ok (.int i):=rfl
@[simp]theorem abE(i:Str):bp Φ (.str i) ρ=ok (.str i):=rfl
@[simp]theorem abO(x:Str)(i:Int):bp Φ (.glo x i) ρ=ok (.int i):=rfl
@[simp]theorem abN(x:Str)(zs:ae):bp Φ (.glt x zs) ρ=ok (.tup (zs.map D.int)):=rfl
@[simp]theorem e_v(i:Nat):bp Φ (.v i) ρ=zj ρ[i]?:=rfl
@[simp]theorem Lu(op:AL)(a b:CE):bp Φ (.bin op a b) ρ=UJ op (bp Φ a ρ) (bp Φ b ρ):=rfl
@[simp]theorem Uu(op:Cv)(a b:CE):bp Φ (.cmp op a b) ρ=UA op (bp Φ a ρ) (bp Φ b ρ):=rfl
@[simp]theorem abK(a:CE):bp Φ (.neg a) ρ=LI Iz (bp Φ a ρ):=rfl
@[simp]theorem abI(a:CE):bp Φ (.not a) ρ=RU (bp Φ a ρ):=rfl
@[simp]theorem abM(a:CE)(t:Ty):bp Φ (.ra a t) ρ=isO t (bp Φ a ρ):=rfl
@[simp]theorem abL(c a b:CE):bp Φ (.ite c a b) ρ=Nw (se (bp Φ c ρ)) (bp Φ a ρ) (bp Φ b ρ):=rfl
@[simp]theorem yJ(f:Nat)(es:aA):bp Φ (.call f es) ρ=Gg (Φ f) (bL Φ es ρ):=rfl
@[simp]theorem Uv(f:Bf)(es:aA):bp Φ (.bf f es) ρ=LI (qk f) (bL Φ es ρ):=rfl
@[simp]theorem abF(f:Nat)(es:aA):bp Φ (.cI f es) ρ=LI (Φ f) (bL Φ es ρ):=rfl
@[simp]theorem Us(a b:CE):bp Φ (.ix a b) ρ=ixO (bp Φ a ρ) (bp Φ b ρ):=rfl
@[simp]theorem Zh(a:CE):bp Φ (.mj a) ρ=LI zH (bp Φ a ρ):=rfl
@[simp]theorem Up(es:aA):bp Φ (.tup es) ρ=LI (λa=>ok (.tup a)) (bL Φ es ρ):=rfl
@[simp]theorem Ur(es:aA):bp Φ (.lst es) ρ=LI (λa=>ok (.lst .ow a)) (bL Φ es ρ):=rfl
@[simp]theorem abP(es:aA):bp Φ (.and es) ρ=rB Φ es ρ:=rfl
@[simp]theorem afy(es:aA):bp Φ (.or es) ρ=B1 Φ es ρ:=rfl
@[simp]theorem Zj(e:CE):rB Φ [e] ρ=EG (bp Φ e ρ):=rfl
@[simp]theorem Zi(e a:CE)(es:aA):rB Φ (e::a::es) ρ=Kf (bp Φ e ρ) (rB Φ (a::es) ρ):=rfl
@[simp]theorem abH(e:CE):B1 Φ [e] ρ=EG (bp Φ e ρ):=rfl
@[simp]theorem abG(e a:CE)(es:aA):B1 Φ (e::a::es) ρ=Vl (bp Φ e ρ) (B1 Φ (a::es) ρ):=rfl
@[simp]theorem Uq:bL Φ [] ρ=ok []:=rfl
@[simp]theorem kT(e:CE)(es:aA):bL Φ (e::es) ρ=pO (bp Φ e ρ) (bL Φ es ρ):=rfl
@[simp]theorem e_T(e:CE):lr Φ e ρ=se (bp Φ e ρ):=rfl
def Zn(e:CE):bd (bp Φ e ρ) iR=se (bp Φ e ρ):=rfl
@[simp]theorem Zm:jr Φ [] ρ=ok true:=rfl
@[simp]theorem Zk(e:CE):jr Φ [e] ρ=se (bp Φ e ρ):=by
 rw[jr,Zn];cases h:se (bp Φ e ρ)with
 |none=>rfl
 |some r=>cases r with
  |error c=>rfl
  |ok b=>cases b<;>simp[jr,bd,ok]
end
def tO(is:aJ):Nat->a_->a_
 |_,[]=>[]
 |n,d::ρ=>(if n∈is then d.map (aB aD)else d)::tO is (n+1) ρ
theorem Lj(is:aJ):∀(ρ:a_) (n:Nat),ρ.mapIdx (λi d=>if i+n∈is then d.map (aB aD)else d)=tO is n ρ
 |[],_=>rfl
 |d::ρ,n=>by
  rw[List.mapIdx_cons,tO,<- Lj is ρ (n+1)];simp only[zbG,Nat.add_assoc,zbg 1 n]
def tN(is:aJ)(ρ:a_):jo is ρ=tO is 0 ρ:=by rw[<- Lj];rfl
@[simp]theorem T_(is:aJ)(n:Nat):tO is n []=[]:=rfl
@[simp]theorem Qe(is:aJ)(n:Nat)(d:aX)(ρ:a_):tO is n (d::ρ)=(if n∈is then d.map (aB aD)else d)::tO is (n+1) ρ:=rfl
def df(e:CE)(ρ:a_)(x:O D):O (D×a_):=bd x λd=>ok (keep e d ρ)
variable {ρ ρ1 ρ2:a_}
@[simp]theorem iz{e:CE}{d:D}(h:bh bR d=false):df e ρ (ok d)=ok (d,ρ):=by
 show ok (keep e d ρ)=_;rw[keep,h];rfl
@[simp]theorem vN{e:CE}{d:D}(h:bh bR d=true):df e ρ (ok d)=ok (aB aD d,tO (gE e) 0 ρ):=by
 show ok (keep e d ρ)=_;rw[keep,h,<- tN];rfl
@[simp]theorem PQ(e:CE)(ρ:a_)(c:Nat):df e ρ (some (.error c))=some (.error c):=rfl
def Ex(i:Nat)(ρ:a_)(o:Option (aX)):O (D×a_):=match o with
 |some (some d)=>if bh cQ d then ok (d,ρ.set i none)else ok (d,ρ)
 |_=>none
@[simp]theorem R4{i:Nat}{d:D}(h:bh cQ d=true):Ex i ρ (some (some d))=ok (d,ρ.set i none):=aa5 h
@[simp]theorem R5{i:Nat}{d:D}(h:bh cQ d=false):Ex i ρ (some (some d))=ok (d,ρ):=acr (by rw[h];exact aac)
@[simp]theorem k_v(Φ:aU)(i:Nat)(ρ:a_):jL Φ (.v i) ρ=Ex i ρ ρ[i]?:=rfl
noncomputable def Vt:CE->Bool
 |.v _=>true
 |_=>false
@[simp]theorem aaN(Φ:aU)(ρ:a_)(op:AL)(a b:CE):jL Φ (.bin op a b) ρ=df (.bin op a b) ρ (bp Φ (.bin op a b) ρ):=rfl
@[simp]theorem aaM(Φ:aU)(ρ:a_)(op:Cv)(a b:CE):jL Φ (.cmp op a b) ρ=df (.cmp op a b) ρ (bp Φ (.cmp op a b) ρ):=rfl
@[simp]theorem Xr(Φ:aU)(ρ:a_)(f:Nat)(es:aA):jL Φ (.call f es) ρ=df (.call f es) ρ (bp Φ (.call f es) ρ):=rfl
@[simp]theorem adZ(Φ:aU)(ρ:a_)(f:Bf)(es:aA):jL Φ (.bf f es) ρ=df (.bf f es) ρ (bp Φ (.bf f es) ρ):=rfl
@[simp]theorem aaF(Φ:aU)(ρ:a_)(f:Nat)(es:aA):jL Φ (.cI f es) ρ=df (.cI f es) ρ (bp Φ (.cI f es) ρ):=rfl
@[simp]theorem adX(Φ:aU)(ρ:a_)(a b:CE):jL Φ (.ix a b) ρ=df (.ix a b) ρ (bp Φ (.ix a b) ρ):=rfl
@[simp]theorem aaD(Φ:aU)(ρ:a_)(es:aA):jL Φ (.tup es) ρ=df (.tup es) ρ (bp Φ (.tup es) ρ):=rfl
@[simp]theorem aaJ(Φ:aU)(ρ:a_)(es:aA):jL Φ (.lst es) ρ=df (.lst es) ρ (bp Φ (.lst es) ρ):=rfl
@[simp]theorem K5(Φ:aU)(ρ:a_)(i:Int):jL Φ (.int i) ρ=df (.int i) ρ (bp Φ (.int i) ρ):=rfl
@[simp]theorem adY(Φ:aU)(ρ:a_)(i:Bool):jL Φ (.bl i) ρ=df (.bl i) ρ (bp Φ (.bl i) ρ):=rfl
@[simp]theorem aaH(Φ:aU)(ρ:a_): jL Φ (.bz) ρ=df (.bz) ρ (bp Φ (.bz) ρ):=rfl
@[simp]theorem aaI(Φ:aU)(ρ:a_)(a:CE):jL Φ (.neg a) ρ=df (.neg a) ρ (bp Φ (.neg a) ρ):=rfl
@[simp]theorem aaG(Φ:aU)(ρ:a_)(a:CE):jL Φ (.not a) ρ=df (.not a) ρ (bp Φ (.not a) ρ):=rfl
@[simp]theorem aaO(Φ:aU)(ρ:a_)(es:aA):jL Φ (.and es) ρ=df (.and es) ρ (bp Φ (.and es) ρ):=rfl
@[simp]theorem adW(Φ:aU)(ρ:a_)(es:aA):jL Φ (.or es) ρ=df (.or es) ρ (bp Φ (.or es) ρ):=rfl
@[simp]theorem aaK(Φ:aU)(ρ:a_)(a b c:CE):jL Φ (.ite a b c) ρ=df (.ite a b c) ρ (bp Φ (.ite a b c) ρ):=rfl
@[simp]theorem Xq(Φ:aU)(ρ:a_)(n:Nat)(t:Tg)(caps:aJ)(b:IK)(es c:aA)(a:CE):jL Φ (.comp n t caps b es c a) ρ=df (.comp n t caps b es c a) ρ (bp Φ (.comp n t caps b es c a) ρ):=rfl
@[simp]theorem aaE(Φ:aU)(ρ:a_)(s:Str):jL Φ (.str s) ρ=df (.str s) ρ (bp Φ (.str s) ρ):=rfl
@[simp]theorem aaL(Φ:aU)(ρ:a_)(a:CE)(t:Ty):jL Φ (.ra a t) ρ=df (.ra a t) ρ (bp Φ (.ra a t) ρ):=rfl
@[simp]theorem Xp(Φ:aU)(ρ:a_)(a:CE):jL Φ (.mj a) ρ=df (.mj a) ρ (bp Φ (.mj a) ρ):=rfl
def BB(Φ:aU)(e:CE)(ρ:a_)(h:Vt e=false):jL Φ e ρ=df e ρ (bp Φ e ρ):=by cases e<;>first|rfl|cases h
@[simp]theorem PF(ρ:a_):fW [] [] ρ=ok ρ:=rfl
variable {ds xs:aa}{is:aJ}
@[simp]theorem Mx{i:Nat}{d:D}(h:i<ρ.length):fW (i::is) (d::ds) ρ=fW is ds (ρ.set i (some d)):=aa5 h
@[simp]theorem Hz{i:Nat}{d:D}(h:i<ρ.length):cH (.nm i) d ρ=ok (ρ.set i (some d)):=aa5 h
@[simp]theorem Va(h:aV cQ ds=false):cH (.tp is) (.tup ds) ρ=fW is ds ρ:=acr (by rw[h];exact aac)
def Pl(i:Nat)(r:O (D×a_)):O (Fo×a_):=bd r λr=>bd (cH (.nm i) r.1 r.2) λa=>ok (.nx,a)
@[simp]theorem nZ{i:Nat}{d:D}(h:i<ρ.length):Pl i (ok (d,ρ))=ok (.nx,ρ.set i (some d)):=by
 show bd (cH (.nm i) d ρ) _=_;rw[cH,zac h];rfl
@[simp]theorem UM(i:Nat)(c:Nat):Pl i (some (.error c))=some (.error c):=rfl
def UL(is:aJ)(r:O (D×a_)):O (Fo×a_):=bd r λr=>bd (cH (.tp is) r.1 r.2) λa=>ok (.nx,a)
@[simp]theorem V1(h:aV cQ ds=false):UL is (ok (.tup ds,ρ))=bd (fW is ds ρ) λa=>ok (.nx,a):=by
 show bd (cH (.tp is) (.tup ds) ρ) _=_;rw[cH,h];rfl
noncomputable def retS(r:O (D×a_)):O (Fo×a_):=bd r λr=>ok (.rt r.1,r.2)
@[simp]theorem Vc(d:D)(ρ:a_):retS (ok (d,ρ))=ok (.rt d,ρ):=rfl
@[simp]theorem Rw(c:Nat):retS (some (.error c))=some (.error c):=rfl
noncomputable def Za(ρ:a_)(x:O D):O (Fo×a_):=bd x λ_=>ok (.nx,ρ)
@[simp]theorem Y_(ρ:a_)(d:D):Za ρ (ok d)=ok (.nx,ρ):=rfl
@[simp]theorem VP(ρ:a_)(c:Nat):Za ρ (some (.error c))=some (.error c):=rfl
noncomputable def mG(Φ:aU)(a:af)(r:O (Fo×a_)):O (Fo×a_):=bd r λr=>match r with
 | (.nx,ρ')=>bN Φ a ρ'
 |r=>ok r
@[simp]theorem uU(Φ:aU)(a:af)(ρ:a_):mG Φ a (ok (.nx,ρ))=bN Φ a ρ:=rfl
@[simp]theorem QY(Φ:aU)(a:af)(d:D)(ρ:a_):mG Φ a (ok (.rt d,ρ))=ok (.rt d,ρ):=rfl
@[simp]theorem Pz(Φ:aU)(a:af)(c:Nat):mG Φ a (some (.error c))=some (.error c):=rfl
noncomputable def IY(Φ:aU)(a b:af)(ρ:a_)(x:O Bool):O (Fo×a_):=bd x λk=>if k then bN Φ a ρ else bN Φ b ρ
@[simp]theorem XI(Φ:aU)(a b:af)(ρ:a_):IY Φ a b ρ (ok true)=bN Φ a ρ:=rfl
@[simp]theorem XJ(Φ:aU)(a b:af)(ρ:a_):IY Φ a b ρ (ok false)=bN Φ b ρ:=rfl
@[simp]theorem Sq(Φ:aU)(a b:af)(ρ:a_)(c:Nat):IY Φ a b ρ (some (.error c))=some (.error c):=rfl
def UO(i:Nat)(r:O (D×a_)):O (Fo×a_):=bd r λr=>match D9 r.2[i]? with
  |some ds=>if ds.length<eB then ok (.nx,r.2.set i (some (.lst .ow (ds++[r.1]))))else none
  |none=>none
@[simp]theorem V2{i:Nat}{d:D}(h:ρ[i]?=some (some (.lst .ow ds)))(hl:ds.length<eB):UO i (ok (d,ρ))=ok (.nx,ρ.set i (some (.lst .ow (ds++[d])))):=by
 show(match D9 ρ[i]? with|some ds=>_|none=>_)=_;rw[h];exact aa5 hl
section
variable (Φ:aU)(ρ:a_)
@[simp]theorem ZU:bN Φ [] ρ=ok (.nx,ρ):=rfl
@[simp]theorem cG(s:CS)(a:af):bN Φ (s::a) ρ=mG Φ a (i0 Φ s ρ):=rfl
@[simp]theorem CD(i:Nat)(e:CE):i0 Φ (.asg (.nm i) e) ρ=Pl i (jL Φ e ρ):=rfl
@[simp]theorem Wd(is:aJ)(e:CE):i0 Φ (.asg (.tp is) e) ρ=UL is (jL Φ e ρ):=rfl
@[simp]theorem Kn(e:CE):i0 Φ (.ret e) ρ=retS (jL Φ e ρ):=rfl
def qK(c:CE)(b:af):i0 Φ (.Ko c b) ρ=gp (λρ=>bd (lr Φ c ρ) λk=>if k then bd (bN Φ b ρ) λr=>match r with
   | (.nx,ρ')=>ok (.inl ρ')
   | (.rt d,ρ')=>ok (.inr (.rt d,ρ'))
  else ok (.inr (.nx,ρ))) ρ:=rfl
def QC(i j:Nat)(a b:CE):i0 Φ (.par i j a b) ρ=bd (bp Φ a ρ) λx=>bd (bp Φ b ρ) λy=>if bh anyF x=false/\bh anyF y=false/\i<ρ.length/\j<ρ.length then ok (.nx,(ρ.set i (some x)).set j (some y))else none:=rfl
@[simp]theorem acq(c:Nat):i0 Φ (.rs c) ρ=some (.error c):=rfl
@[simp]theorem Wc(e:CE):i0 Φ (.ex e) ρ=Za ρ (bp Φ e ρ):=rfl
@[simp]theorem xp(c:CE)(a b:af):i0 Φ (.ifs c a b) ρ=IY Φ a b ρ (se (bp Φ c ρ)):=rfl
def Wh(is:aJ)(r:O (D×a_)):O (Fo×a_):=bd r λr=>bd (Ma is r.1 r.2) λa=>ok (.nx,a)
@[simp]theorem QB(is:aJ)(e:CE):i0 Φ (.unp is e) ρ=Wh is (jL Φ e ρ):=rfl
@[simp]theorem ZV(i:Nat)(e:CE):i0 Φ (.app i e) ρ=UO i (jL Φ e ρ):=rfl
end
noncomputable def mk(Φ:aU)(ar n:Nat)(b:af):aj:=λds=>if ds.length=ar then sD Φ n b ds else none
noncomputable def kS(r:O (Fo×a_)):O D:=bd r λr=>match r.1 with
 |.nx=>ok .bz
 |.rt d=>ok d
@[simp]theorem VS(ρ:a_):kS (ok (.nx,ρ))=ok .bz:=rfl
@[simp]theorem VR(d:D)(ρ:a_):kS (ok (.rt d,ρ))=ok d:=rfl
@[simp]theorem Uo(c:Nat):kS (some (.error c))=some (.error c):=rfl
variable {ar:Nat}{Φ:aU}
def mk_eq{n:Nat}{b:af}(h:ds.length=ar):mk Φ ar n b ds=kS (bN Φ b (ds.map some++List.replicate (n - ds.length) none)):=aa5 h
def yc{n:Nat}{b:af}(ds:aa)(r:D)(h:mk Φ ar n b ds=ok r):ds.length=ar/\sD Φ n b ds=ok r:=by
 unfold mk at h;split at h
 ·rename_i hl;exact⟨hl,h⟩
 ·cases h
def Int.beq_eq_decide_eq(i j:Int):(i==j)=decide (i=j):=rfl
section
variable (g:Fl->Fl)(p:Fl->Bool)
@[simp]theorem IF(b:Bool):aB g (.bl b)=.bl b:=rfl
@[simp]theorem EA(b:Int):aB g (.int b)=.int b:=rfl
@[simp]theorem R7:aB g .bz=.bz:=rfl
@[simp]theorem R6(s:Str):aB g (.str s)=.str s:=rfl
@[simp]theorem Ey(ds:aa):aB g (.tup ds)=.tup (au g ds):=rfl
@[simp]theorem R8(f:Fl)(ds:aa):aB g (.lst f ds)=.lst (g f) (au g ds):=rfl
@[simp]theorem R9(f:Fl)(ks:aK)(vs:aa):aB g (.de f ks vs)=.de (g f) ks (au g vs):=rfl
@[simp]theorem PL:au g []=[]:=rfl
@[simp]theorem Nh(d:D)(ds:aa):au g (d::ds)=aB g d::au g ds:=rfl
@[simp]theorem PN(a b:aa):au g (a++b)=au g a++au g b:=by simp only[aE,zax]
@[simp]theorem PM(ds:aa):(au g ds).length=ds.length:=by rw[aE,zaa]
def dH{a:Type}{e:a->D}(h:∀x,aB g (e x)=e x)(xs:List a):au g (xs.map e)=xs.map e:=by
 rw[aE,zam];exact aax λx _=>h x
theorem cS{a:Type}{e:a->D}(h:∀x,bh p (e x)=false):∀xs:List a,aV p (xs.map e)=false
 |[]=>by rw[zbD,aV]
 |x::xs=>by rw[zag,aV,h x,cS h xs];rfl
@[simp]theorem Jo(b:Bool):bh p (.bl b)=false:=acf rfl
@[simp]theorem pb(b:Int):bh p (.int b)=false:=acf rfl
@[simp]theorem Tv:bh p .bz=false:=acf rfl
@[simp]theorem Tu(s:Str):bh p (.str s)=false:=acf rfl
@[simp]theorem Tt(ds:aa):bh p (.tup ds)=aV p ds:=acf rfl
@[simp]theorem Fm(f:Fl)(ds:aa):bh p (.lst f ds)=(p f||aV p ds):=acf rfl
@[simp]theorem Tw(f:Fl)(ks:aK)(vs:aa):bh p (.de f ks vs)=(p f||aV p vs):=acf rfl
@[simp]theorem P_:aV p []=false:=acf rfl
@[simp]theorem NX(d:D)(ds:aa):aV p (d::ds)=(bh p d||aV p ds):=acf rfl
@[simp]theorem BW:∀a b:aa,aV p (a++b)=(aV p a||aV p b)
 |[],b=>by simp
 |d::a,b=>by simp[BW a b,Bool.or_assoc]
@[simp]theorem yd(ns:ae):au g (ns.map D.int)=ns.map D.int:=dH g (EA g) ns
@[simp]theorem yw(ns:ae):aV p (ns.map D.int)=false:=cS p (pb p) ns
@[simp]theorem Bx(ns:List Bool):au g (ns.map D.bl)=ns.map D.bl:=dH g (IF g) ns
@[simp]theorem BV(ns:List Bool):aV p (ns.map D.bl)=false:=cS p (Jo p) ns
@[simp]theorem PU(t:Ty)(d:D):cM t (aB g d)=cM t d:=by cases d<;>cases t<;>rfl
end
@[simp]theorem Ol:ba .ow=.al:=rfl
@[simp]theorem Om:ba .fz=.fz:=rfl
@[simp]theorem Oo:ba .al=.al:=rfl
@[simp]theorem Oj:ba .sc=.sc:=rfl
@[simp]theorem Og:aD .ow=.fz:=rfl
@[simp]theorem Oh:aD .fz=.fz:=rfl
@[simp]theorem Oi:aD .al=.fz:=rfl
@[simp]theorem Of:aD .sc=.sc:=rfl
@[simp]theorem OE:fN .ow=.ow:=rfl
@[simp]theorem OF:fN .fz=.al:=rfl
@[simp]theorem OG:fN .al=.al:=rfl
@[simp]theorem OD:fN .sc=.sc:=rfl
@[simp]theorem OA:bR .ow=false:=rfl
@[simp]theorem OB:bR .fz=false:=rfl
@[simp]theorem OC:bR .al=true:=rfl
@[simp]theorem Oz:bR .sc=false:=rfl
@[simp]theorem Ow:cQ .ow=true:=rfl
@[simp]theorem Ox:cQ .fz=false:=rfl
@[simp]theorem Oy:cQ .al=false:=rfl
@[simp]theorem Ov:cQ .sc=false:=rfl
@[simp]theorem Oq:qB .ow=false:=rfl
@[simp]theorem Ot:qB .fz=false:=rfl
@[simp]theorem Ou:qB .al=false:=rfl
noncomputable def ah(ns:ae):aa:=ns.map D.int
noncomputable def lT(ns:List Bool):aa:=ns.map D.bl
@[simp]theorem PY(ns:ae):(ah ns).length=ns.length:=abS ..
@[simp]theorem UI(ns:List Bool):(lT ns).length=ns.length:=abS ..
@[simp]theorem PV:ah []=[]:=rfl
@[simp]theorem NG(n:Int)(ns:ae):ah (n::ns)=.int n::ah ns:=rfl
@[simp]theorem NF(ns:ae)(n:Int):ah ns++[.int n]=ah (ns++[n]):=by simp[ah]
@[simp]theorem rb(ns:ae)(i:Nat):(ah ns)[i]?=ns[i]?.map D.int:=List.getElem?_map ..
@[simp]theorem dv(g:Fl->Fl)(ns:ae):au g (ah ns)=ah ns:=yd g ns
@[simp]theorem vX(p:Fl->Bool)(ns:ae):aV p (ah ns)=false:=yw p ns
@[simp]theorem Ni(g:Fl->Fl)(ns:List Bool):au g (lT ns)=lT ns:=Bx g ns
@[simp]theorem NY(p:Fl->Bool)(ns:List Bool):aV p (lT ns)=false:=BV p ns
@[simp]theorem abU(i j:Int):dB .add (.int i) (.int j)=ok (.int (i+j)):=rfl
@[simp]theorem abT(i j:Int):dB .sub (.int i) (.int j)=ok (.int (i - j)):=rfl
def iF{i j:Int}(h:jm i j=true):dB .mul (.int i) (.int j)=ok (.int (i*j)):=aa5 h
def pW{i j:Int}(h:Ak j=true):dB .fdiv (.int i) (.int j)=ok (.int (i.fdiv j)):=aa5 h
@[simp]theorem wK{i j:Int}(h:j≠0):dB .mod (.int i) (.int j)=ok (.int (i.fmod j)):=aa5 (aaT h)
@[simp]theorem UK{i j:Int}(h:0<=j):dB .shr (.int i) (.int j)=ok (.int (i / 2 ^ j.toNat)):=aa5 (aaT h)
def LF{i j:Int}(h:KQ i j=true):dB .pow (.int i) (.int j)=ok (.int (i ^ j.toNat)):=aa5 h
@[simp]theorem aau(i:Int):Iz (.int i)=ok (.int (-i)):=rfl
def mulOk_of{i j:Int}(h:i.natAbs<2 ^ 9000)(h':j.natAbs<2 ^ 9000):jm i j=true:=by
 simp only[jm,big,h,h',decide_true,zbB,zaY]
def tf{n:Nat}(h:n<2 ^ 64):n<2 ^ 9000:=aaf h (aar (by decide) (by decide))
def sW{i:Int}(j:Int)(h:i.natAbs<2 ^ 64):jm i j=true:=by simp only[jm,h,decide_true,Bool.true_or]
def IA{j:Int}(i:Int)(h:j.natAbs<2 ^ 64):jm i j=true:=by simp only[jm,h,decide_true,Bool.true_or,zaY]
def jN{j:Int}(a:j≠0)(h:j.natAbs<2 ^ 9000):Ak j=true:=by
 simp only[Ak,big,h,decide_true,zbA,decide_eq_true_eq];exact a
@[simp]theorem V0{i j:Int}(h:j.natAbs<2 ^ 64):dB .mul (.int i) (.int j)=ok (.int (i*j)):=iF (IA i h)
@[simp]theorem kb{i j:Int}(h:i.natAbs<2 ^ 64):dB .mul (.int i) (.int j)=ok (.int (i*j)):=iF (sW j h)
@[simp]theorem pV{i j:Int}(a:j≠0)(h:j.natAbs<2 ^ 64):dB .fdiv (.int i) (.int j)=ok (.int (i.fdiv j)):=pW (jN a (tf h))
def yU{a b:D}(d:iV 40 a=true)(c:iV 40 b=true):gd .eq a b=ok (.bl (nj a b)):=by
 show(if iV 40 a&&iV 40 b then _ else _)=_;rw[d,c];rfl
def Pd{a b:D}(d:iV 40 a=true)(c:iV 40 b=true):gd .ne a b=ok (.bl (!nj a b)):=by
 show(if iV 40 a&&iV 40 b then _ else _)=_;rw[d,c];rfl
@[simp]theorem iU(n:Nat)(i:Int):iV n (.int i)=true:=by cases n<;>rfl
@[simp]theorem Xc(n:Nat)(i:Bool):iV n (.bl i)=true:=by cases n<;>rfl
@[simp]theorem Vo(n:Nat):iV n .bz=true:=by cases n<;>rfl
@[simp]theorem Vn(n:Nat)(i:Str):iV n (.str i)=true:=by cases n<;>rfl
@[simp]theorem Ip(n:Nat)(ds:aa):iV (n+1) (.tup ds)=ds.all (iV n):=rfl
@[simp]theorem Vm(n:Nat)(f:Fl)(ds:aa):iV (n+1) (.lst f ds)=ds.all (iV n):=rfl
@[simp]theorem MQ(i j:Int):gd .eq (.int i) (.int j)=ok (.bl (decide (i=j))):=by rw[yU (iU _ _) (iU _ _)];show ok (D.bl (i==j))=_;rw[Int.beq_eq_decide_eq]
@[simp]theorem W4(i j:Int):gd .ne (.int i) (.int j)=ok (.bl (!decide (i=j))):=by rw[Pd (iU _ _) (iU _ _)];show ok (D.bl (!(i==j)))=_;rw[Int.beq_eq_decide_eq]
@[simp]theorem ady(i j:Int):gd .lt (.int i) (.int j)=ok (.bl (decide (i<j))):=rfl
@[simp]theorem adz(i j:Int):gd .le (.int i) (.int j)=ok (.bl (decide (i<=j))):=rfl
@[simp]theorem adA(i j:Int):gd .gt (.int i) (.int j)=ok (.bl (decide (j<i))):=rfl
@[simp]theorem adB(i j:Int):gd .ge (.int i) (.int j)=ok (.bl (decide (j<=i))):=rfl
@[simp]theorem aaV(ds:aa)(i:Int):nK (.tup ds) (.int i)=uF ds i:=rfl
@[simp]theorem aaW(f:Fl)(ds:aa)(i:Int):nK (.lst f ds) (.int i)=uF ds i:=rfl
def um{n:Nat}{d:D}(h:ds[n]?=some d):uF ds (n:Int)=ok (aB ba d):=by
 have a:n<ds.length:=(List.getElem?_eq_some_iff.mp h).1;have e:EJ ds.length (n:Int)=some n:=by unfold EJ;rw[zac (by left),zac (by left)];rfl
 unfold uF;rw[e,Option.bind_some,h]
def at_of{i:Int}{d:D}(a:0<=i)(h:ds[i.toNat]?=some d):uF ds i=ok (aB ba d):=by
 have:=um h
 rwa [show((i.toNat:Nat):Int)=i by left]at this
@[simp]theorem afM(d:D)(ds:aa):uF (d::ds) 0=ok (aB ba d):=um (n:=0) rfl
@[simp]theorem afL(a d:D)(ds:aa):uF (a::d::ds) 1=ok (aB ba d):=um (n:=1) rfl
@[simp]theorem afK(a b d:D)(ds:aa):uF (a::b::d::ds) 2=ok (aB ba d):=um (n:=2) rfl
@[simp]theorem VN(ds:aa):qk .len [.tup ds]=ok (.int ds.length):=rfl
@[simp]theorem VO(f:Fl)(ds:aa):qk .len [.lst f ds]=ok (.int ds.length):=rfl
@[simp]theorem abA(i:Int):qk .abs [.int i]=ok (.int i.natAbs):=by
 show ok (D.int (if i<0 then -i else i))=_;congr 2;split<;>left
@[simp]theorem Ud(f:Fl)(ds:aa):qk .list1 [.lst f ds]=ok (.lst .ow (au ba ds)):=rfl
@[simp]theorem Uc(ds:aa):qk .list1 [.tup ds]=ok (.lst .ow (au ba ds)):=rfl
@[simp]theorem VM(f:Fl)(ds:aa):qk .tuple1 [.lst f ds]=ok (.tup (au ba ds)):=rfl
@[simp]theorem aby(f:Fl)(ns:ae):qk .gu [.lst f (ah ns)]=ok (.int ns.sum):=by
 show(match intsOf (ns.map D.int)with|some ns=>_|none=>_)=_;rw[bI]
@[simp]theorem abz(f:Fl)(bs:List Bool):qk .all1 [.lst f (lT bs)]=ok (.bl (bs.all id)):=by
 show(match jP (bs.map D.bl)with|some ns=>_|none=>_)=_;rw[mx]
variable {ns:ae}
@[simp]theorem Ju(h:ns.length<64):qk .iS [.tup (ah ns)]=ok (.lst .ow (ah (sortI ns))):=by
 show u0 _=_;unfold u0 ah;rw[bI];exact aa5 h
@[simp]theorem OH(h:ns.length<4000):zH (.tup (ah ns))=ok (.int (wu ns).length):=by
 show(match intsOf (ns.map D.int)with|some ns=>_|none=>_)=_;rw[bI];exact aa5 h
@[simp]theorem lR(i j:Int):nj (.int i) (.int j)=decide (i=j):=by show(i==j)=_;rw[Int.beq_eq_decide_eq]
@[simp]theorem Zd(i j:Bool):nj (.bl i) (.bl j)=(i==j):=rfl
@[simp]theorem JC(a b:aa):nj (.tup a) (.tup b)=gQ a b:=rfl
@[simp]theorem JD(f g:Fl)(a b:aa):nj (.lst f a) (.lst g b)=gQ a b:=rfl
@[simp]theorem FO:gQ [] []=true:=rfl
@[simp]theorem mq(a b:D)(as bs:aa):gQ (a::as) (b::bs)=(nj a b&&gQ as bs):=rfl
theorem pE:∀{as bs:aa},gQ as bs=true->as.length=bs.length
 |[],[],_=>rfl
 |[],_::_,h=>(aac h).elim
 |_::_,[],h=>(aac h).elim
 |a::as,b::bs,h=>by
  replace h:(_&&_)=true:=h;rw[zaf]at h;rw[zae,zae,pE h.2]
theorem we{b:Type}{e:b->D}[DecidableEq b](h:∀x y,nj (e x) (e y)=decide (x=y)):∀xs a:List b,gQ (xs.map e) (a.map e)=decide (xs=a)
 |[],[]=>by simp
 |[],y::a=>by
  cases z:gQ ([].map e) ((y::a).map e)with
  |true=>have:=pE z;simp at this
  |false=>simp
 |x::xs,[]=>by
  cases z:gQ ((x::xs).map e) ([].map e)with
  |true=>have:=pE z;simp at this
  |false=>simp
 |x::xs,y::a=>by
  rw[zag,zag,mq,h,we h xs a];by_cases d:x=y<;>by_cases c:xs=a<;>simp[d,c]
def Iq{a:Type}{e:a->D}{n:Nat}(h:∀x,iV n (e x)=true)(xs:List a):(xs.map e).all (iV n)=true:=by
 rw[zaN];exact List.all_eq_true.mpr λx _=>h x
theorem bD{bind:D->O a_}{test:a_->O Bool}{el:a_->O D}{a:Type}{e:a->D}{g:a->D}:∀{xs:List a},(∀x∈xs,∃ρ,bind (e x)=ok ρ/\test ρ=ok true/\el ρ=ok (g x))->jt bind test el (xs.map e)=ok (xs.map g)
 |[],_=>rfl
 |x::xs,h=>by
  obtain⟨ρ,i,f,d⟩:=h x (aai ..);have b:=bD (xs:=xs) λy c=>h y (aah _ c);rw[zag,jt,i,dC,f,dC,zac rfl,d,dC,b];rfl
theorem gU{bind:D->O a_}{test:a_->O Bool}{el:a_->O D}{a:Type}{e:a->D}{g:a->D}{t:a->Bool}:∀{xs:List a},(∀x∈xs,∃ρ,bind (e x)=ok ρ/\test ρ=ok (t x)/\(t x=true->el ρ=ok (g x)))->jt bind test el (xs.map e)=ok ((xs.filter t).map g)
 |[],_=>rfl
 |x::xs,h=>by
  obtain⟨ρ,j,i,f⟩:=h x (aai ..);have b:=gU (xs:=xs) λy c=>h y (aah _ c);rw[zag,jt,j,dC,i,dC,List.filter_cons];cases d:t x with
  |true=>rw[zac rfl,f d,dC,b,zac rfl];rfl
  |false=>rw[zab zaj,b,zab zaj]
section
variable {Φ:aU}{n:Nat}{t:Tg}{caps:aJ}{ik:IK}{es bJ:aA}{elt:CE}{ρ:a_}{xs items ds:aa}
def bW(e:bL Φ es ρ=ok xs)(c:dR Φ ik xs=ok items)
  (b:jt (λd=>cH t d (bx n caps ρ)) (λa=>jr Φ bJ a) (λa=>bp Φ elt a) items=ok ds) (hl:ds.length<=eB):bp Φ (.comp n t caps ik es bJ elt) ρ=ok (.lst .ow (au fN ds)):=by
 show bd (bL Φ es ρ) _=_;rw[e,dC,c,dC,b,dC,zac hl]
end
def zL(Φ:aU)(ds:aa):dR Φ .seq [.tup ds]=ok (au aD ds):=rfl
def dq(Φ:aU)(f:Fl)(ds:aa):dR Φ .seq [.lst f ds]=ok (au aD ds):=rfl
def lL(Φ:aU){n:Int}(a:0<=n)(h:n<=1000000):dR Φ .ku [.int n]=ok ((List.range n.toNat).map λ(k:Nat)=>D.int (k:Int)):=by
 show(if n<=(eB:Int) /\ -(eB:Int)<=n then _ else _)=_;have:(eB:Int)=1000000:=rfl;rw[zac (by left)]
def bE{n:Nat}(h:n<=1000000):n<=eB:=h
def iq{t:Tg}{it:CI}{b:af}{items:aa}{r:O (Fo×a_)}(h:eP Φ it ρ=ok (items,ρ1))(h':eW (λd ρ=>cH t d ρ) (λρ=>bN Φ b ρ) items ρ1=r):i0 Φ (.fr t it b) ρ=r:=by
 show bd (eP Φ it ρ) _=_;rw[h];exact h'
def eV{bind:D->a_->O a_}{body:a_->O (Fo×a_)}{x:D}{r:O (Fo×a_)}(c:bind x ρ=ok ρ1)(b:body ρ1=ok (.nx,ρ2))(a:eW bind body xs ρ2=r):eW bind body (x::xs) ρ=r:=by
 rw[eW,c,dC,b];exact a
def yB{bind:D->a_->O a_}{body:a_->O (Fo×a_)}{x y:D}(b:bind x ρ=ok ρ1)(a:body ρ1=ok (.rt y,ρ2)):eW bind body (x::xs) ρ=ok (.rt y,ρ2):=by
 rw[eW,b,dC,a];rfl
def BD{a:CE}{n:Int}(h:bp Φ a ρ=ok (.int n))(c:0<=n)(b:n<=1000000):eP Φ (.ku a) ρ=ok ((List.range n.toNat).map λ(k:Nat)=>D.int (k:Int),ρ):=by
 show bd (bp Φ a ρ) _=_;rw[h];show(if n<=(eB:Int) /\ -(eB:Int)<=n then _ else _)=_;have:(eB:Int)=1000000:=rfl;rw[zac (by left)]
def IZ{a:CE}{f:Fl}(h:bp Φ a ρ=ok (.lst f ds)):eP Φ (.seq a) ρ=ok (au aD ds,if (bR f||aV bR ds)then tO (gE a) 0 ρ else ρ):=by
 show bd (bp Φ a ρ) _=_;rw[h,<- tN];show ok (_,if bh bR (.lst f ds)then _ else _)=_;rw[Fm]
noncomputable def gH(t b:Int):Int:=if b<0 then -(Int.gcd t b:Int)else(Int.gcd t b:Int)
def M8(t b:Int):Int:=t.fdiv (gH t b)
def M9(t b:Int):Int:=b.fdiv (gH t b)
def zV{t b:Int}(h:b≠0):0<Int.gcd t b:=Int.gcd_pos_of_ne_zero_right t h
def kU{t b:Int}(h:b≠0):gH t b≠0:=by
 have:=zV (t:=t) h;unfold gH;split<;>left
def Oa{t b:Int}(h:b≠0):Int.gcd t b<=b.natAbs:=abC (by left) (Nat.gcd_dvd_right _ _)
def JO{t b:Int}(h:b≠0):(gH t b).natAbs<=b.natAbs:=by
 have:=Oa (t:=t) h;unfold gH;split<;>left
def oM{t b:Int}(h:b≠0):∃g f:Int,t=gH t b*g/\b=gH t b*f/\M8 t b=g/\M9 t b=f/\1<=f/\Int.gcd g f=1:=by
 have n:=zV (t:=t) h;obtain⟨t1,i⟩:(Int.gcd t b:Int)∣t:=Int.gcd_dvd_left ..;obtain⟨b1,j⟩:(Int.gcd t b:Int)∣b:=Int.gcd_dvd_right ..;have m:Int.gcd t1 b1=1:=by
  have e:Int.gcd ((Int.gcd t b:Int)*t1) ((Int.gcd t b:Int)*b1)=Int.gcd t b*Int.gcd t1 b1:=by
   rw[Int.gcd_mul_left];simp
  rw[<- i,<- j]at e;have:Int.gcd t b*1=Int.gcd t b*Int.gcd t1 b1:=by rw[Nat.mul_one];exact e
  exact(Nat.eq_of_mul_eq_mul_left n this).symm
 by_cases l:b<0
 ·have a:gH t b = -(Int.gcd t b:Int):=by simp[gH,l]
  have d:t=gH t b*(-t1):=by rw[a,Int.neg_mul_neg];exact i
  have c:b=gH t b*(-b1):=by rw[a,Int.neg_mul_neg];exact j
  refine⟨-t1,-b1,d,c,?_,?_,?_,by rw[Int.gcd_neg,Int.neg_gcd];exact m⟩
  ·unfold M8
   conv=>lhs;arg 1;rw[d]
   exact abq _ (kU h)
  ·unfold M9
   conv=>lhs;arg 1;rw[c]
   exact abq _ (kU h)
  ·have:b1<0:=by
    by_cases k:b1<0
    ·exact k
    ·have:0<=(Int.gcd t b:Int)*b1:=Int.mul_nonneg (by left) (by left);left
   left
 ·have a:gH t b=(Int.gcd t b:Int):=by simp[gH,l]
  have d:t=gH t b*t1:=by rw[a];exact i
  have c:b=gH t b*b1:=by rw[a];exact j
  refine⟨t1,b1,d,c,?_,?_,?_,m⟩
  ·unfold M8
   conv=>lhs;arg 1;rw[d]
   exact abq _ (kU h)
  ·unfold M9
   conv=>lhs;arg 1;rw[c]
   exact abq _ (kU h)
  ·have:0<b1:=by
    by_cases k:0<b1
    ·exact k
    ·have:(Int.gcd t b:Int)*b1<=0:=Int.mul_nonpos_of_nonneg_of_nonpos (by left) (by left);left
   left
noncomputable def qD(q:Rat):D:=.tup [.int q.num,.int q.den]
@[simp]theorem Ez(g:Fl->Fl)(q:Rat):aB g (qD q)=qD q:=by unfold qD;simp
@[simp]theorem N0(g:Fl->Bool)(q:Rat):bh g (qD q)=false:=by unfold qD;simp
noncomputable def aQ(qs:aC):aa:=qs.map qD
@[simp]theorem Vg(qs:aC):(aQ qs).length=qs.length:=abS ..
@[simp]theorem Vf:aQ []=[]:=rfl
@[simp]theorem RD(q:Rat)(qs:aC):aQ (q::qs)=qD q::aQ qs:=rfl
@[simp]theorem RC(qs:aC)(q:Rat):aQ qs++[qD q]=aQ (qs++[q]):=by simp[aQ]
@[simp]theorem HY(qs:aC)(i:Nat):(aQ qs)[i]?=qs[i]?.map qD:=List.getElem?_map ..
@[simp]theorem Ve(qs:aC)(i:Nat)(q:Rat):(aQ qs).set i (qD q)=aQ (qs.set i q):=by unfold aQ;rw[List.map_set]
@[simp]theorem oT(g:Fl->Fl)(qs:aC):au g (aQ qs)=aQ qs:=dH g (Ez g) qs
@[simp]theorem Ts(g:Fl->Bool)(qs:aC):aV g (aQ qs)=false:=cS g (N0 g) qs
def K0(n:Nat)(q:Rat):iV (n+1) (qD q)=true:=by
 unfold qD;rw[Ip,zaw,zaw,iU,iU];rfl
def Um(p q:Rat):nj (qD p) (qD q)=decide (p=q):=by
 unfold qD;rw[JC,mq,mq,FO,lR,lR,zbA];by_cases h:p=q
 ·subst h;simp
 ·rw[zau h];cases b:decide (p.num=q.num)with
  |false=>rfl
  |true =>
   cases a:decide ((p.den:Int)=(q.den:Int))with
   |false=>rfl
   |true =>
    refine absurd (Rat.ext (by simpa using b) ?_) h;have:(p.den:Int)=q.den:=by simpa using a
    left
@[simp]theorem aaQ(q:Rat):nK (qD q) (.int 0)=ok (.int q.num):=by unfold qD;simp
@[simp]theorem aaP(q:Rat):nK (qD q) (.int 1)=ok (.int q.den):=by unfold qD;simp
def tQ{t b:Int}(f:b≠0):t.fdiv (gH t b)=(Rat.divInt t b).num/\b.fdiv (gH t b)=((Rat.divInt t b).den:Int):=by
 obtain⟨a,c,p,o,l,k,q,j⟩:=oM (t:=t) f;have h:=kU (t:=t) f;have e:Rat.divInt t b=Rat.divInt a c:=by
  generalize gH t b=d at *;rw[p,o];exact Rat.divInt_mul_left h
 obtain⟨n,rfl⟩:∃n:Nat,c=(n:Int):=⟨c.toNat,by left⟩
 have i:a.natAbs.Coprime n:=by
  have:Nat.gcd a.natAbs n=1:=by simpa [Int.gcd]using j
  exact this
 have g:n≠0:=by left
 have m:Rat.divInt a (n:Int)=⟨a,n,g,i⟩:=Rat.mk_eq_divInt.symm;rw[e,m];exact⟨l,k⟩
def kJ(q:Rat):(q.den:Int)≠0:=by have:=q.den_pos;left
def KI(q:Rat):(1:Int)<=q.den:=by have:=q.den_pos;left
def eD(q:Rat):Rat.divInt q.num q.den=q:=Rat.num_divInt_den q
def nH{t b:Int}(a:b≠0):(Rat.divInt t b).num.natAbs<=t.natAbs/\(Rat.divInt t b).den<=b.natAbs:=by
 obtain⟨d,c,l,k,i,h,n,m⟩:=oM (t:=t) a;obtain⟨f,j⟩:=tQ (t:=t) a;have e:1<=(gH t b).natAbs:=by have:=kU (t:=t) a;left
 rw[show t.fdiv (gH t b)=d from i]at f;rw[show b.fdiv (gH t b)=c from h]at j;refine⟨?_,?_⟩
 ·rw[<- f];have:t.natAbs=(gH t b).natAbs*d.natAbs:=by rw[<- zas,<- l]
  rw[this];exact Nat.le_mul_of_pos_left _ e
 ·have g:(Rat.divInt t b).den=c.natAbs:=by left
  rw[g];have:b.natAbs=(gH t b).natAbs*c.natAbs:=by rw[<- zas,<- k]
  rw[this];exact Nat.le_mul_of_pos_left _ e
def KN(p q:Rat):p+q=Rat.divInt (p.num*q.den+q.num*p.den) (p.den*q.den):=by
 conv=>lhs;rw[<- eD p,<- eD q]
 exact Rat.divInt_add_divInt _ _ (kJ p) (kJ q)
def KH(p q:Rat):p - q=Rat.divInt (p.num*q.den - q.num*p.den) (p.den*q.den):=by
 conv=>lhs;rw[<- eD p,<- eD q]
 exact Rat.divInt_sub_divInt _ _ (kJ p) (kJ q)
def KJ(p q:Rat):p*q=Rat.divInt (p.num*q.num) (p.den*q.den):=by
 conv=>lhs;rw[<- eD p,<- eD q]
 exact Rat.divInt_mul_divInt _ _
def RF(p q:Rat):p / q=Rat.divInt (p.num*q.den) (p.den*q.num):=by
 rw[Rat.div_def]
 conv=>lhs;rw[<- eD p,<- eD q,Rat.inv_divInt]
 exact Rat.divInt_mul_divInt _ _
def Sm(k:Nat)(q:Rat):Prop:=q.num.natAbs<2 ^ k/\q.den<2 ^ k
def Sm.mono{k l:Nat}{q:Rat}(h:Sm k q)(hl:k<=l):Sm l q :=
 ⟨aaf h.1 (aar (by decide) hl),aaf h.2 (aar (by decide) hl)⟩
def bB{a b k l:Nat}(h:a<2 ^ k)(h':b<2 ^ l):a*b<2 ^ (k+l):=by
 rw[Nat.pow_add];exact Nat.mul_lt_mul'' h h'
def Kh(a b:Int):(a+b).natAbs<=a.natAbs+b.natAbs:=acA a b
def Kg(a b:Int):(a - b).natAbs<=a.natAbs+b.natAbs:=by rw[Int.sub_eq_add_neg];exact Int.natAbs_neg b▸acA a (-b)
section
variable {k l:Nat}{p q:Rat}
theorem Sm.den(h:Sm k p)(h':Sm l q):((p.den:Int)*q.den).natAbs<2 ^ (k+l):=by
 rw[zas];exact bB (by simpa using h.2) (by simpa using h'.2)
def Sm.add(h:Sm k p)(h':Sm l q):Sm (k+l+1) (p+q):=by
 have a:(p.den:Int)*q.den≠0:=abV (kJ p) (kJ q);obtain⟨c,b⟩:=nH (t:=p.num*q.den+q.num*p.den) a;rw[<- KN]at c b;have g:(p.num*q.den).natAbs<2 ^ (k+l):=by rw[zas];exact bB h.1 (by simpa using h'.2)
 have f:(q.num*p.den).natAbs<2 ^ (k+l):=by rw[zas,zbg];exact bB h'.1 (by simpa using h.2)
 have:=Kh (p.num*q.den) (q.num*p.den);have e:2 ^ (k+l+1)=2 ^ (k+l)*2:=Nat.pow_succ ..;have d:=h.den h';exact⟨by left,by left⟩
def Sm.sub(h:Sm k p)(h':Sm l q):Sm (k+l+1) (p - q):=by
 have a:(p.den:Int)*q.den≠0:=abV (kJ p) (kJ q);obtain⟨c,b⟩:=nH (t:=p.num*q.den - q.num*p.den) a;rw[<- KH]at c b;have g:(p.num*q.den).natAbs<2 ^ (k+l):=by rw[zas];exact bB h.1 (by simpa using h'.2)
 have f:(q.num*p.den).natAbs<2 ^ (k+l):=by rw[zas,zbg];exact bB h'.1 (by simpa using h.2)
 have:=Kg (p.num*q.den) (q.num*p.den);have e:2 ^ (k+l+1)=2 ^ (k+l)*2:=Nat.pow_succ ..;have d:=h.den h';exact⟨by left,by left⟩
def Sm.mul(h:Sm k p)(h':Sm l q):Sm (k+l) (p*q):=by
 have a:(p.den:Int)*q.den≠0:=abV (kJ p) (kJ q);obtain⟨c,b⟩:=nH (t:=p.num*q.num) a;rw[<- KJ]at c b;have e:(p.num*q.num).natAbs<2 ^ (k+l):=by rw[zas];exact bB h.1 h'.1
 have d:=h.den h';exact⟨by left,by left⟩
def MP(h:q≠0):q.num≠0:=λz=>h (by rw[<- eD q,z];simp)
def Sm.big(h:Sm k p)(a:k<=9000):p.num.natAbs<2 ^ 9000/\(p.den:Int).natAbs<2 ^ 9000:=by
 have:=h.mono a;exact⟨this.1,by simpa using this.2⟩
end
def A7{t b:Int}{k:Nat}(a:b≠0)(d:t.natAbs<2 ^ k)(c:b.natAbs<2 ^ k):Sm k (Rat.divInt t b):=by
 obtain⟨f,e⟩:=nH (t:=t) a;exact⟨by left,by left⟩
def d5(d:D):Bool:=cM .int d&&!cM .bool d
def ff(m:aj):Prop:=∀d,m [d]=ok (.bl (d5 d))
noncomputable def i_:af:=[.ret (.and [(.ra (.v 0) .int),(.not (.ra (.v 0) .bool))])]
def xR(Φ:aU):ff (mk Φ 1 1 i_):=by
 intro d;simp[mk_eq,i_,d5]
def pA(a:Int){b:Int}(h:b≠0):(a.fmod b).natAbs<b.natAbs:=by
 rcases Int.lt_or_gt_of_ne h with c|c
 ·have e:=Int.neg_fmod_neg a b;have f:=ab_ (-a) (show 0 < -b by left);have d:=acv (-a) (show 0 < -b by left);left
 ·have f:=ab_ a c;have d:=acv a c;left
def Fy(a b:Int):Int.gcd b (a.fmod b)=Int.gcd a b:=by
 rw[Int.fmod_def,Int.gcd_sub_mul_left_right,Int.gcd_comm]
def bK(m:aj):Prop:=∀a b:Int,m [.int a,.int b]=ok (.int (Int.gcd a b))
noncomputable def CN:CS:=.Ko (.cmp .ne (.v 1) (.int 0)) [.asg (.nm 2) (.bin .mod (.v 0) (.v 1)),.asg (.nm 0) (.v 1),.asg (.nm 1) (.v 2)]
def dM:af:=[CN,.ret (.bf .abs [(.v 0)])]
def J3(Φ:aU):∀(n:Nat) (a b:Int) (r:aX),b.natAbs<=n->∃(g:Int) (d:aX),i0 Φ CN [some (.int a),some (.int b),r]=ok (.nx,[some (.int g),some (.int 0),d])/\g.natAbs=Int.gcd a b:=by
 intro n;induction n with
 |zero =>
  intro a b r h;have c:b=0:=by left
  subst c;refine⟨a,r,?_,by simp⟩;rw[CN,qK];exact iP (by simp)
 |succ n f =>
  intro a b r h;by_cases c:b=0
  ·subst c;refine⟨a,r,?_,by simp⟩;rw[CN,qK];exact iP (by simp)
  ·have j:=pA a c;obtain⟨g,d,e,i⟩:=f b (a.fmod b) (some (.int (a.fmod b))) (by left);refine⟨g,d,?_,by rw[i,Fy]⟩;rw[CN,qK]at e ⊢;rw[<- e];exact oj (by simp[c])
def me(Φ:aU):bK (mk Φ 2 3 dM):=by
 intro a b;obtain⟨g,d,e,f⟩:=J3 Φ b.natAbs a b none (aaj _);have c:(g.natAbs:Int)=(Int.gcd a b:Int):=by left
 simp[mk_eq,dM,e,c]
def km(m:aj):Prop:=∀t b:Int,b≠0->b.natAbs<2 ^ 9000->m [.int t,.int b]=ok (qD (Rat.divInt t b))
def dj(m:aj):Prop:=km m/\∀t:Int,m [.int t,.int 0]=some (.error 0)
noncomputable def di:af:=[.ifs (.cmp .eq (.v 1) (.int 0)) [.rs 0] [],.asg (.nm 2) (.call 1 [(.v 0),(.v 1)]),.ifs (.cmp .lt (.v 1) (.int 0)) [.asg (.nm 2) (.neg (.v 2))] [],.ret (.tup [(.bin .fdiv (.v 0) (.v 2)),(.bin .fdiv (.v 1) (.v 2))])]
def nS{t b:Int}(a:b≠0)(h:b.natAbs<2 ^ 9000)(x:Int):dB .fdiv (.int x) (.int (gH t b))=ok (.int (x.fdiv (gH t b))) :=
 pW (jN (kU a) (aaw (JO a) h))
def qy(Φ:aU)(d:bK (Φ 1)):dj (mk Φ 2 3 di):=by
 refine⟨λt b a h=>?_,λt=>by simp[mk_eq,di]⟩;obtain⟨j,i⟩:=tQ (t:=t) a;unfold bK at d;have g:=nS (t:=t) a h t;have f:=nS (t:=t) a h b;rw[qD,<- j,<- i];by_cases c:b<0
 ·have e:-(Int.gcd t b:Int)=gH t b:=by simp[gH,c]
  simp[mk_eq,di,a,d,c,e,g,f]
 ·have e:(Int.gcd t b:Int)=gH t b:=by simp[gH,c]
  simp[mk_eq,di,a,d,c,e,g,f]
noncomputable def bS:D->Bool
 |.tup [.int a,.int b]=>decide (1<=b)&&decide (Int.gcd a b=1)
 |_=>false
def z9(q:Rat):bS (qD q)=true:=by
 have b:=KI q;have a:Int.gcd q.num q.den=1:=by
  have:=q.reduced;simpa [Int.gcd]using this
 simp[qD,bS,b,a]
set_option tactic.hygienic true in
def v9{d:D}(h:bS d=true):∃q,d=qD q:=by
 unfold bS at h;split at h
 ·rename_i a b;simp only[zaf,decide_eq_true_eq]at h;obtain⟨n,rfl⟩:∃n:Nat,b=(n:Int):=⟨b.toNat,by left⟩
  have c:a.natAbs.Coprime n:=by
   have:Nat.gcd a.natAbs n=1:=by simpa [Int.gcd]using h.2
   exact this
  exact⟨⟨a,n,by left,c⟩,rfl⟩
 ·cases h
def fA(m:aj):Prop:=∀d,m [d]=ok (.bl (bS d))
noncomputable def cf:af:=[.ifs (.or [(.not (.ra (.v 0) .tuple)),(.cmp .ne (.bf .len [(.v 0)]) (.int 2))]) [.ret (.bl false)] [],.ifs (.or [(.not (.call 0 [(.ix (.v 0) (.int 0))])),(.not (.call 0 [(.ix (.v 0) (.int 1))]))]) [.ret (.bl false)] [],.ret (.and [(.cmp .ge (.ix (.v 0) (.int 1)) (.int 1)),(.cmp .eq (.call 1 [(.ix (.v 0) (.int 0)),(.ix (.v 0) (.int 1))]) (.int 1))])]
def mF(g:Fl->Fl)(d:D):d5 (aB g d)=d5 d:=by simp[d5]
def kG{d:D}(h:d5 d=true):∃i,d=.int i:=by
 cases d<;>simp[d5,cM]at h ⊢
def rq{x y:D}(h:d5 x=false\/d5 y=false):bS (.tup [x,y])=false:=by
 cases x<;>cases y<;>simp[d5,cM]at h<;>rfl
def BZ(h:ds.length≠2):bS (.tup ds)=false:=by
 unfold bS;split
 ·rename_i e;cases e;simp at h
 ·rfl
def qx(Φ:aU)(f:ff (Φ 0))(h:bK (Φ 1)):fA (mk Φ 1 1 cf):=by
 intro d;unfold ff at f;unfold bK at h;cases d with
 |tup ds =>
  by_cases hl:ds.length=2
  ·match ds,hl with
   |[x,y],_ =>
    by_cases c:d5 x=true
    ·by_cases e:d5 y=true
     ·obtain⟨a,rfl⟩:=kG c;obtain⟨b,rfl⟩:=kG e;simp[mk_eq,cf,f,h,c,e,cM,bS];by_cases g:a.gcd b=1
      ·simp[g]
      ·simp[g];left
     ·simp[mk_eq,cf,f,c,e,cM,mF,rq (.inr (by simpa using e))]
    ·simp[mk_eq,cf,f,c,cM,mF,rq (.inl (by simpa using c))]
  ·have i:¬ (ds.length:Int)=2:=by left
   simp[mk_eq,cf,cM,i,BZ hl]
 |_=>simp[mk_eq,cf,cM,bS]
def rQ(m:aj):Prop:=∀p q,Sm 4000 p->Sm 4000 q->m [qD p,qD q]=ok (qD (p+q))
def y2(m:aj):Prop:=∀p q,Sm 4000 p->Sm 4000 q->m [qD p,qD q]=ok (qD (p - q))
def kl(m:aj):Prop:=∀p q,Sm 4000 p->Sm 4000 q->m [qD p,qD q]=ok (qD (p*q))
def UU(m:aj):Prop:=(∀p q,Sm 4000 p->Sm 4000 q->q≠0->m [qD p,qD q]=ok (qD (p / q)))/\∀p,Sm 4000 p->m [qD p,qD 0]=some (.error 0)
noncomputable def rO(f:Nat):af:=[.ret (.call f [(.bin .add (.bin .mul (.ix (.v 0) (.int 0)) (.ix (.v 1) (.int 1))) (.bin .mul (.ix (.v 1) (.int 0)) (.ix (.v 0) (.int 1)))),(.bin .mul (.ix (.v 0) (.int 1)) (.ix (.v 1) (.int 1)))])]
noncomputable def ug(f:Nat):af:=[.ret (.call f [(.bin .sub (.bin .mul (.ix (.v 0) (.int 0)) (.ix (.v 1) (.int 1))) (.bin .mul (.ix (.v 1) (.int 0)) (.ix (.v 0) (.int 1)))),(.bin .mul (.ix (.v 0) (.int 1)) (.ix (.v 1) (.int 1)))])]
noncomputable def nV(f:Nat):af:=[.ret (.call f [(.bin .mul (.ix (.v 0) (.int 0)) (.ix (.v 1) (.int 0))),(.bin .mul (.ix (.v 0) (.int 1)) (.ix (.v 1) (.int 1)))])]
noncomputable def Gj(f:Nat):af:=[.ret (.call f [(.bin .mul (.ix (.v 0) (.int 0)) (.ix (.v 1) (.int 1))),(.bin .mul (.ix (.v 0) (.int 1)) (.ix (.v 1) (.int 0)))])]
section
variable (Φ:aU){f:Nat}(h2:km (Φ f))
def O8{p q:Rat}(b:Sm 4000 p)(a:Sm 4000 q):(p.den:Int)*q.den≠0/\((p.den:Int)*q.den).natAbs<2 ^ 9000 :=
 ⟨abV (kJ p) (kJ q),aaf (b.den a) (aar (by decide) (by decide))⟩
def Bq{p q:Rat}(g:Sm 4000 p)(e:Sm 4000 q):dB .mul (.int p.num) (.int q.den)=ok (.int (p.num*q.den))/\dB .mul (.int p.num) (.int q.num)=ok (.int (p.num*q.num))/\dB .mul (.int p.den) (.int q.den)=ok (.int (p.den*q.den))/\dB .mul (.int p.den) (.int q.num)=ok (.int (p.den*q.num)):=by
 obtain⟨a,b⟩:=g.big (by decide);obtain⟨c,d⟩:=e.big (by decide);exact⟨iF (mulOk_of a d),iF (mulOk_of a c),iF (mulOk_of b d),iF (mulOk_of b c)⟩
include h2
def KC:rQ (mk Φ 2 2 (rO f)):=by
 intro p q h g;obtain⟨a,b,c,d⟩:=Bq h g;obtain⟨i,m,l,j⟩:=Bq g h;obtain⟨n,k⟩:=O8 h g;have e:=h2 (p.num*q.den+q.num*p.den) _ n k;rw[<- KN]at e;simp[mk_eq,rO,a,i,c,e]
def MH:y2 (mk Φ 2 2 (ug f)):=by
 intro p q h g;obtain⟨a,b,c,d⟩:=Bq h g;obtain⟨i,m,l,j⟩:=Bq g h;obtain⟨n,k⟩:=O8 h g;have e:=h2 (p.num*q.den - q.num*p.den) _ n k;rw[<- KH]at e;simp[mk_eq,ug,a,i,c,e]
def HE:kl (mk Φ 2 2 (nV f)):=by
 intro p q h g;obtain⟨a,b,c,d⟩:=Bq h g;obtain⟨n,k⟩:=O8 h g;have e:=h2 (p.num*q.num) _ n k;rw[<- KJ]at e;simp[mk_eq,nV,b,c,e]
omit h2 in
def s_by(h2:dj (Φ f)):UU (mk Φ 2 2 (Gj f)):=by
 refine⟨λp q g h i=>?_,λp g=>?_⟩
 ·obtain⟨a,b,c,d⟩:=Bq g h;have n:(p.den:Int)*q.num≠0:=abV (kJ p) (MP i);have k:((p.den:Int)*q.num).natAbs<2 ^ 9000:=by
   rw[zas];exact aaf (bB (by simpa using g.2) h.1) (aar (by decide) (by decide))
  have e:=h2.1 (p.num*q.den) _ n k;rw[<- RF]at e;simp[mk_eq,Gj,a,d,e]
 ·have e:=h2.2 p.num;simp[mk_eq,Gj,e]
end
def wA{bind:D->O a_}{test:a_->O Bool}{el:a_->O D}{g:D->D}(h:∀x∈xs,∃ρ,bind x=ok ρ/\test ρ=ok true/\el ρ=ok (g x)):jt bind test el xs=ok (xs.map g):=by
 have:=bD (bind:=bind) (test:=test) (el:=el) (e:=λd=>d) (g:=g) (xs:=xs) h
 rwa [List.map_id']at this
def eU(g:Fl->Fl)(d:D):bS (aB g d)=bS d:=by
 cases d with
 |tup ds =>
  match ds with
  |[]=>simp
  |[_]=>simp[bS]
  |[x,y]=>cases x<;>cases y<;>simp[bS]
  |_::_::_::_=>simp[bS]
 |_=>simp[bS]
def bG(d:D)(n:Int):Bool:=match d with
 |.lst _ ds=>decide ((ds.length:Int)=n)&&ds.all bS
 |_=>false
def du(d:D):Prop:=match d with
 |.lst _ ds=>ds.length<=1000000
 |.tup ds=>ds.length<64
 |_=>True
def cB(m:aj):Prop:=∀d n,du d->m [d,.int n]=ok (.bl (bG d n))
noncomputable def cA:af:=[.ifs (.or [(.not (.ra (.v 0) .list)),(.cmp .ne (.bf .len [(.v 0)]) (.v 1))]) [.ret (.bl false)] [],.ret (.bf .all1 [(.comp 1 (.nm 0) [] .seq [(.v 0)] [] (.call 3 [(.v 0)]))])]
def m9(Φ:aU)(b:fA (Φ 3)):cB (mk Φ 2 2 cA):=by
 intro d n e;unfold fA at b;cases d with
 |lst f ds =>
  by_cases a:(ds.length:Int)=n
  ·have c:bp Φ (.comp 1 (.nm 0) [] .seq [(.v 0)] [] (.call 3 [(.v 0)])) [some (.lst f ds),some (.int n)]=ok (.lst .ow (lT (ds.map bS))):=by
    rw[bW (xs:=[.lst (ba f) (au ba ds)]) (by simp) (dq ..) (wA (g:=λd=>.bl (bS d)) λx _=>⟨[some x],by simp[bx],by simp,by simp[b,eU]⟩) (by simp;exact bE e)];simp[aE,Function.comp_def,eU,lT]
   simp[mk_eq,cA,cM,a,c,bG]
  ·simp[mk_eq,cA,cM,a,bG]
 |_=>simp[mk_eq,cA,cM,bG]
def e_(f:Fl)(qs:aC)(n:Int):bG (.lst f (aQ qs)) n=decide ((qs.length:Int)=n):=by
 unfold bG;have:(aQ qs).all bS=true:=by unfold aQ;rw[zaN];exact List.all_eq_true.mpr λq _=>z9 q
 simp[this]
noncomputable def bA(qs:aC):Nat:=qs.foldl (λb q=>Nat.lcm b q.den) 1
def EE(b:Nat)(q:Rat):(b:Int).fdiv (Int.gcd b q.den)*q.den=(Nat.lcm b q.den:Nat):=by
 have c:0<Nat.gcd b q.den:=Nat.gcd_pos_of_pos_right _ q.den_pos;have e:Int.gcd (b:Int) (q.den:Int)=Nat.gcd b q.den:=by simp[Int.gcd]
 rw[e,zaA _ (by left)];have:((b:Int) / (Nat.gcd b q.den:Nat))=((b / Nat.gcd b q.den:Nat):Int):=(Int.natCast_ediv ..).symm;rw[this,Nat.lcm];have a:Nat.gcd b q.den∣b:=Nat.gcd_dvd_left ..;rw[zbF b,Nat.mul_div_assoc _ a,zbF];exact(Int.natCast_mul ..).symm
theorem lcm_pos{b:Nat}(a:0<b)(q:Rat):0<Nat.lcm b q.den:=Nat.lcm_pos a q.den_pos
theorem zJ:∀(qs:aC) (b k j:Nat),0<b->b<2 ^ j->(∀q∈qs,Sm k q)->0<qs.foldl (λb q=>Nat.lcm b q.den) b/\qs.foldl (λb q=>Nat.lcm b q.den) b<2 ^ (j+k*qs.length)/\b∣qs.foldl (λb q=>Nat.lcm b q.den) b/\∀q∈qs,q.den∣qs.foldl (λb q=>Nat.lcm b q.den) b
 |[],b,k,j,h0,h1,_=>⟨h0,by simpa using h1,Nat.dvd_refl _,λq c=>nomatch c⟩
 |q::qs,b,k,j,h0,h1,hs=>by
  have c:=hs q aai;have f:Nat.lcm b q.den<2 ^ (j+k):=aaw (Nat.lcm_le_mul h0 q.den_pos) (bB h1 c.2);obtain⟨i,h,d,g⟩:=zJ qs (Nat.lcm b q.den) k (j+k) (lcm_pos h0 q) f λp a=>hs p (aah _ a);have e:j+k*(q::qs).length=j+k+k*qs.length:=by rw[zae,zbt];left
  refine⟨i,by rw[e];exact h,Nat.dvd_trans (Nat.dvd_lcm_left ..) d,λp a=>?_⟩;rcases List.mem_cons.mp a with rfl|a
  ·exact Nat.dvd_trans (Nat.dvd_lcm_right ..) d
  ·exact g p a
structure xi(k:Nat)(qs:aC):Prop where
 sm:∀q∈qs,Sm k q
 tR:k*qs.length<=3000
 len:qs.length<=1000
variable {qs:aC}
def xi.lcm{k:Nat}(h:xi k qs):0<bA qs/\bA qs<2 ^ (1+k*qs.length)/\∀q∈qs,q.den∣bA qs:=by
 obtain⟨c,b,_,a⟩:=zJ qs 1 k 1 (by decide) (by decide) h.sm;exact⟨c,b,a⟩
def yf{n j:Nat}(h:n<2 ^ j)(a:j<=9000):n<2 ^ 9000:=aaf h (aar (by decide) a)
def fQ(m:aj):Prop:=∀f qs k,xi k qs->m [.lst f (aQ qs)]=ok (.int (bA qs))
noncomputable def cx:af:=[.asg (.nm 1) (.bin .mul (.bin .fdiv (.v 1) (.call 1 [(.v 1),(.ix (.v 2) (.int 1))])) (.ix (.v 2) (.int 1)))]
def dg:af:=[.asg (.nm 1) (.int 1),.fr (.nm 2) (.seq (.v 0)) cx,.ret (.v 1)]
theorem Ap(Φ:aU)(f:bK (Φ 1))(x:aX):∀(qs:aC) (b k j:Nat) (z:aX),0<b->b<2 ^ j->j+k*qs.length<=8000->(∀q∈qs,Sm k q) ->
  ∃c,eW (λd ρ=>cH (.nm 2) d ρ) (λρ=>bN Φ cx ρ) (aQ qs) [x,some (.int b),z]=ok (.nx,[x,some (.int (qs.foldl (λb q=>Nat.lcm b q.den) b:Nat)),c])
 |[],b,k,j,z,_,_,_,_=>⟨z,rfl⟩
 |q::qs,b,k,j,z,h0,hb,hj,hs=>by
  have g:=hs q aai;have m:Nat.lcm b q.den<2 ^ (j+k):=aaw (Nat.lcm_le_mul h0 q.den_pos) (bB hb g.2);have e:j+k*(q::qs).length=j+k+k*qs.length:=by rw[zae,zbt];left
  obtain⟨c,h⟩:=Ap Φ f x qs (Nat.lcm b q.den) k (j+k) (some (qD q)) (lcm_pos h0 q) m (by left) λp i=>hs p (aah _ i);have t:0<Nat.gcd b q.den:=Nat.gcd_pos_of_pos_right _ q.den_pos;have n:Int.gcd (b:Int) (q.den:Int)=Nat.gcd b q.den:=by simp[Int.gcd]
  have s:Nat.gcd b q.den<=b:=abC h0 (Nat.gcd_dvd_left ..);have a:b<2 ^ 9000:=yf hb (by left);have r:dB .fdiv (.int b) (.int (Nat.gcd b q.den:Nat))=ok (.int ((b:Int).fdiv (Nat.gcd b q.den:Nat))):=pW (jN (by left) (by simpa using Nat.lt_of_le_of_lt s a));have l:((b:Int).fdiv (Nat.gcd b q.den:Nat)).natAbs<=b:=by
   rw[zaA _ (by left),<- zbu];simp;exact acm ..
  have o:dB .mul (.int ((b:Int).fdiv (Nat.gcd b q.den:Nat))) (.int q.den)=ok (.int (Nat.lcm b q.den:Nat)):=by
   have:=EE b q;rw[n]at this;rw[iF (mulOk_of (Nat.lt_of_le_of_lt l a) (g.big (by
    rw[e]at hj;have:k<=j+k+k*qs.length:=by left
    left)).2),this]
  unfold bK at f;refine⟨c,eV (ρ1:=[x,some (.int b),some (qD q)]) (by simp) (ρ2:=[x,some (.int (Nat.lcm b q.den:Nat)),some (qD q)]) ?_ h⟩;simp[cx,f,r,o]
def m7(Φ:aU)(j:bK (Φ 1)):fQ (mk Φ 1 3 dg):=by
 intro f qs k h;have a:eP Φ (.seq (.v 0)) [some (.lst f (aQ qs)),some (.int 1),none]=ok (aQ qs,if (bR (ba f)||false)then[some (.lst (aD f) (aQ qs)),some (.int 1),none]else[some (.lst f (aQ qs)),some (.int 1),none]):=by
  rw[IZ (f:=ba f) (ds:=aQ qs) (by simp)];simp[show gE (.v 0)=[0] from rfl]
 have l:=h.tR;have g:∀x:aX,∃c,eW (λd ρ=>cH (.nm 2) d ρ) (λρ=>bN Φ cx ρ) (aQ qs) [x,some (.int (1:Nat)),none]=ok (.nx,[x,some (.int (bA qs)),c]):=λx=>Ap Φ j x qs 1 k 1 none (by decide) (by decide) (by left) h.sm;cases i:(bR (ba f)||false)with
 |true =>
  rw[i]at a;obtain⟨c,e⟩:=g (some (.lst (aD f) (aQ qs)));have:=iq (t:=.nm 2) (b:=cx) a e;simp[mk_eq,dg,this]
 |false =>
  rw[i]at a;obtain⟨c,e⟩:=g (some (.lst f (aQ qs)));have:=iq (t:=.nm 2) (b:=cx) a e;simp[mk_eq,dg,this]
noncomputable def bw(b:Nat)(q:Rat):Int:=q.num*(b:Int).fdiv q.den
def RE(q:Rat):(q.num:Rat)=q*(q.den:Rat):=by
 have h:(q.den:Rat)≠0:=by
  have:=q.den_pos;intro z;have:((q.den:Int):Rat)=0:=by rw[zav];exact z
  rw[zaT]at this;left
 have e:q=(q.num:Rat) / (q.den:Rat):=by
  conv=>lhs;rw[<- eD q,zaC,zav]
 grind
def ou{b:Nat}{q:Rat}(h:q.den∣b):((bw b q:Int):Rat)=q*(b:Rat):=by
 obtain⟨c,rfl⟩:=h;have a:(q.den:Int)≠0:=kJ q;unfold bw;rw[Int.natCast_mul,Int.mul_fdiv_cancel_left _ a,zbz,RE,Rat.natCast_mul,zav];grind
theorem lD{b:Nat}:∀{qs:aC},(∀q∈qs,q.den∣b)->(((qs.map (bw b)).sum:Int):Rat)=qs.sum*(b:Rat)
 |[],_=>by simp
 |q::qs,h=>by
  rw[zag,zaq,zaq,zbj,ou (h q zaM),lD λp a=>h p (zaP _ a)];grind
def jU(m:aj):Prop:=∀f qs k (b:Nat),xi k qs->b<2 ^ 8000->m [.lst f (aQ qs),.int b]=ok (.lst .ow (ah (qs.map (bw b))))
noncomputable def gV:af:=[.ret (.comp 1 (.nm 0) [1] .seq [(.v 0)] [] (.bin .mul (.ix (.v 0) (.int 0)) (.bin .fdiv (.v 1) (.ix (.v 0) (.int 1)))))]
def Hw{k:Nat}(h:xi k qs){q:Rat}(a:q∈qs):Sm 3000 q:=by
 refine(h.sm q a).mono ?_;have c:=h.tR;have b:0<qs.length:=List.length_pos_of_mem a;have:k*1<=k*qs.length:=abD _ b;left
def vg(Φ:aU):jU (mk Φ 2 2 gV):=by
 intro f qs k b a e;have c:bp Φ (.comp 1 (.nm 0) [1] .seq [(.v 0)] [] (.bin .mul (.ix (.v 0) (.int 0)) (.bin .fdiv (.v 1) (.ix (.v 0) (.int 1))))) [some (.lst f (aQ qs)),some (.int b)]=ok (.lst .ow (ah (qs.map (bw b)))):=by
  rw[bW (xs:=[.lst (ba f) (aQ qs)]) (items:=aQ qs) (ds:=qs.map λq=>.int (bw b q)) (by simp) (by rw[dq];simp) (bD λq d=>?_) (by have:=a.len;simp;exact bE (by left))]
  ·have:(qs.map λq=>D.int (bw b q))=ah (qs.map (bw b)):=by simp[ah]
   rw[this,dv]
  ·refine⟨[some (qD q),some (.int b)],by simp[bx],by simp,?_⟩;have h:=Hw a d;obtain⟨j,i⟩:=h.big (by decide);have m:dB .fdiv (.int b) (.int q.den)=ok (.int ((b:Int).fdiv q.den)):=pW (jN (kJ q) i);have l:dB .mul (.int q.num) (.int ((b:Int).fdiv q.den))=ok (.int (q.num*(b:Int).fdiv q.den)):=by
    refine iF (mulOk_of j ?_);rw[zaA _ (by left),<- zbu];have:=acm b q.den;have g:=yf e (by decide);rw[zaz];exact aaw this g
   simp[m,l,bw]
 simp[mk_eq,gV,c]
def k8(m:aj):Prop:=∀f qs k,xi k qs->m [.lst f (aQ qs)]=ok (.tup [.int (bA qs),.lst .ow (ah (qs.map (bw (bA qs))))])
noncomputable def i9:af:=[.asg (.nm 1) (.call 9 [(.v 0)]),.ret (.tup [(.v 1),(.call 10 [(.v 0),(.v 1)])])]
def xi.IP{k:Nat}(h:xi k qs):bA qs<2 ^ 8000:=aaf h.lcm.2.1 (aar (by decide) (by have:=h.tR;left))
def xQ(Φ:aU)(b:fQ (Φ 9))(e:jU (Φ 10)):k8 (mk Φ 1 2 i9):=by
 intro f qs k a;have d:=λf=>b f qs k a;have c:=λf=>e f qs k (bA qs) a a.IP;simp[mk_eq,i9,d,c]
def jb(m:aj):Prop:=∀f qs k,xi k qs->m [.lst f (aQ qs)]=ok (qD qs.sum)
noncomputable def gg:af:=[.asg (.nm 1) (.call 41 [(.v 0)]),.ret (.call 2 [(.bf .gu [(.ix (.v 1) (.int 1))]),(.ix (.v 1) (.int 0))])]
def sf{b:Nat}(c:0<b)(h:∀q∈qs,q.den∣b):Rat.divInt (qs.map (bw b)).sum b=qs.sum:=by
 have a:((b:Nat):Rat)≠0:=by
  intro z;have:((b:Int):Rat)=0:=by rw[zav];exact z
  rw[zaT]at this;left
 rw[zaC,lD h,zav];grind
def sA(Φ:aU)(c:dj (Φ 2))(h:k8 (Φ 41)):jb (mk Φ 1 2 gg):=by
 intro f qs k a;have g:=λf=>h f qs k a;obtain⟨e,i,d⟩:=a.lcm;have b:=c.1 (qs.map (bw (bA qs))).sum (bA qs) (by left) (by have:=yf a.IP (by decide);simpa using this);rw[sf e d]at b;simp[mk_eq,gg,g,b]
noncomputable def c9(n:Int):D->Bool
 |.int i=>decide (0<=i)&&decide (i<n)
 |_=>false
def mK(g:Fl->Fl)(n:Int)(d:D):c9 n (aB g d)=c9 n d:=by
 cases d<;>simp[c9]
theorem fH{n:Int}:∀{ds:aa},ds.all (c9 n)=true->∃ns:ae,ds=ah ns
 |[],_=>⟨[],rfl⟩
 |d::ds,h=>by
  simp only[zaw,zaf]at h;obtain⟨ns,rfl⟩:=fH h.2;cases d with
  |int i=>exact⟨i::ns,rfl⟩
  |_=>simp[c9]at h
def numsOf(ds:aa):ae:=(intsOf ds).getD []
def fE(ns:ae):numsOf (ah ns)=ns:=by unfold numsOf ah;rw[bI];rfl
def bP(d:D)(n:Int):Bool:=match d with
 |.tup ds=>ds.all (c9 n)&&decide ((wu (numsOf ds)).length=ds.length)
 |_=>false
def tj(d:D)(n:Int):Bool:=bP d n&&(match d with
 |.tup ds=>decide (numsOf ds=sortI (numsOf ds))
 |_=>false)
def jc(m:aj):Prop:=∀d n,du d->m [d,.int n]=ok (.bl (bP d n))
noncomputable def dN:af:=[.ifs (.not (.ra (.v 0) .tuple)) [.ret (.bl false)] [],.ifs (.not (.bf .all1 [(.comp 1 (.nm 0) [1] .seq [(.v 0)] [] (.and [(.call 0 [(.v 0)]),(.cmp .ge (.v 0) (.int 0)),(.cmp .lt (.v 0) (.v 1))]))])) [.ret (.bl false)] [],.ret (.cmp .eq (.mj (.v 0)) (.bf .len [(.v 0)]))]
def sC(Φ:aU)(b:ff (Φ 0)):jc (mk Φ 2 2 dN):=by
 intro d n h;unfold ff at b;cases d with
 |tup ds =>
  have hl:ds.length<64:=h;have c:bp Φ (.comp 1 (.nm 0) [1] .seq [(.v 0)] [] (.and [(.call 0 [(.v 0)]),(.cmp .ge (.v 0) (.int 0)),(.cmp .lt (.v 0) (.v 1))])) [some (.tup ds),some (.int n)]=ok (.lst .ow (lT (ds.map (c9 n)))):=by
   rw[bW (xs:=[.tup (au ba ds)]) (by simp) (zL ..) (wA (g:=λd=>.bl (c9 n d)) λx _=>⟨[some x,some (.int n)],by simp[bx],by simp,?_⟩) (by simp;exact bE (by left))]
   ·simp[aE,Function.comp_def,mK,lT]
   ·cases x with
    |int i =>
     simp[b,d5,cM,c9]
    |_=>simp[b,d5,cM,c9]
  cases a:ds.all (c9 n)with
  |true =>
   obtain⟨ns,rfl⟩:=fH a;have f:ns.length<4000:=by simp at hl;left
   have e:(List.all (List.map (c9 n) (ah ns)) id)=true:=by rw[zaN];exact a
   simp[mk_eq,dN,cM,c,e,OH f,bP,a,fE];simp[Int.natCast_inj]
  |false =>
   have e:(List.all (List.map (c9 n) ds) id)=false:=by rw[zaN];exact a
   simp only[mk_eq,dN,zae,zaD];simp[cM,c,e,bP,a]
 |_=>simp[mk_eq,dN,cM,bP]
def w6(m:aj):Prop:=∀d n,du d->m [d,.int n]=ok (.bl (tj d n))
noncomputable def iH:af:=[.ret (.and [(.call 43 [(.v 0),(.v 1)]),(.cmp .eq (.bf .list1 [(.v 0)]) (.bf .iS [(.v 0)]))])]
def vB(n:Nat)(f:Fl)(ns:ae):iV (n+1) (.lst f (ah ns))=true:=Iq (iU n) ns
def B2(ns a:ae):gQ (ah ns) (ah a)=decide (ns=a):=we (λx y=>lR x y) ns a
def eG(g:Fl->Fl)(d:D)(n:Int):bP (aB g d) n=bP d n:=by
 cases d with
 |tup ds =>
  cases h:ds.all (c9 n)with
  |true =>
   obtain⟨ns,rfl⟩:=fH h;simp
  |false =>
   have a:(au g ds).all (c9 n)=false:=by
    rw[aE,zaN,show(c9 n∘aB g)=c9 n from funext λd=>mK g n d];exact h
   simp[bP,h,a]
 |_=>simp[bP]
def eu{g:Fl->Fl}{d:D}(h:du d):du (aB g d):=by
 cases d<;>simp_all [du]
def Dz(Φ:aU)(h:jc (Φ 43)):w6 (mk Φ 2 2 iH):=by
 intro d n c;have a:=h (aB aD (aB ba d)) n (eu (eu c));rw[eG,eG]at a;cases d with
 |tup ds =>
  have hl:ds.length<64:=c;simp only[Ey]at a;cases b:bP (.tup ds) n with
  |true =>
   have e:=b;simp only[bP,zaf]at e;obtain⟨ns,rfl⟩:=fH e.1;have f:ns.length<64:=by simpa using hl
   have g:gd .eq (.lst .ow (ah ns)) (.lst .ow (ah (sortI ns)))=ok (.bl (decide (ns=sortI ns))):=by
    rw[yU (vB 39 _ _) (vB 39 _ _),JD,B2]
   rw[b]at a;simp at a;simp[mk_eq,iH,a,Ju f,g,tj,b,fE]
  |false =>
   rw[b]at a;simp[mk_eq,iH,a,tj,b]
 |_=>(simp at a;simp[mk_eq,iH,a,tj,bP])
def AI(n:Nat)(l:ae):Prop:=l.Pairwise (· < ·)/\∀h∈l,0<=h/\h<(n:Int)
theorem Al:∀(l m:ae),(∀x∈l,x∉m)->l.Nodup->l.foldl (λ(m:ae) (k:Int)=>if m.any (· == k)then m else m++[k]) m=m++l
 |[],m,_,_=>by simp
 |x::l,m,h,hn=>by
  have b:m.any (· == x)=false:=by
   rw[List.any_eq_false];intro y a z;have:y=x:=by simpa using z
   exact h x aai (this▸a)
  rw[List.foldl_cons,b,zab zaj,Al l (m++[x])]
  ·simp
  ·intro y a z;rcases List.mem_append.mp z with z|z
   ·exact h y (aah _ a) z
   ·have:y=x:=by simpa using z
    subst this;exact(List.nodup_cons.mp hn).1 a
  ·exact(List.nodup_cons.mp hn).2
def AI.nodup{n:Nat}{l:ae}(h:AI n l):l.Nodup:=h.1.imp λz=>by left
def Dj{l:ae}(h:l.Pairwise (· < ·)):sortI l=l:=by
 unfold sortI;apply List.mergeSort_of_pairwise;exact h.imp λz=>by simp;left
theorem AI.tj{n:Nat}{l:ae}(h:AI n l):tj (.tup (ah l)) n=true:=by
 have c:(ah l).all (c9 n)=true:=by
  unfold ah;rw[zaN,zaH];intro x a;have:=h.2 x a;simp[c9,this.1,this.2]
 have b:wu l=l:=by
  have:=Al l [] (by simp) h.nodup;rw[zay]at this;exact this
 simp[DI.tj,bP,c,fE,b,Dj h.1]
def bF(c:Nat)(p:D->Int->Bool)(m:aj):Prop:=∀d n,du d->m [d,.int n]=if p d n then ok .bz else some (.error c)
noncomputable def gh(f c:Nat):af:=[.ifs (.not (.call f [(.v 0),(.v 1)])) [.rs c] []]
def mA(g:Fl->Fl)(d:D)(n:Int):bG (aB g d) n=bG d n:=by
 cases d<;>simp[bG];rw[aE,zaN,show(bS∘aB g)=bS from funext λd=>eU g d]
def zl(Φ:aU){f c:Nat}{p:D->Int->Bool}(b:∀g d n,p (aB g d) n=p d n)(h:∀d n,du d->Φ f [d,.int n]=ok (.bl (p d n))):bF c p (mk Φ 2 2 (gh f c)):=by
 intro d n i;have a:=h (aB aD (aB ba d)) n (eu (eu i));rw[b,b]at a;cases e:p d n with
 |true=>rw[e]at a;simp[mk_eq,gh,a]
 |false=>rw[e]at a;simp[mk_eq,gh,a]
noncomputable def bX(ns:ae)(k:Int):Int :=
 let c:=if k<ns.length then ns.getD k.toNat 0 else 0
 if (10:Int) ^ 18<=c then(c - 10 ^ 18).fmod (10 ^ 60)else
  let n:=(c*48271+k*69621+11).fmod 2147483629
  let n:=(n*n).fmod 2147483587
  n*2147483563+(n*n).fmod 2147483563
def ux(m:aj):Prop:=∀(ns:ae) (k:Int),0<=k->m [.lst .sc (ah ns),.int k]=ok (.int (bX ns k))
noncomputable def fO:af:=[.asg (.nm 2) (.int 0),.ifs (.cmp .lt (.v 1) (.bf .len [(.v 0)])) [.asg (.nm 2) (.ix (.v 0) (.v 1))] [],.ifs (.cmp .ge (.v 2) (.bin .pow (.int 10) (.int 18))) [.ret (.bin .mod (.bin .sub (.v 2) (.bin .pow (.int 10) (.int 18))) (.bin .pow (.int 10) (.int 60)))] [],.asg (.nm 3) (.bin .mod (.bin .add (.bin .add (.bin .mul (.v 2) (.int 48271)) (.bin .mul (.v 1) (.int 69621))) (.int 11)) (.int 2147483629)),.asg (.nm 3) (.bin .mod (.bin .mul (.v 3) (.v 3)) (.int 2147483587)),.ret (.bin .add (.bin .mul (.v 3) (.int 2147483563)) (.bin .mod (.bin .mul (.v 3) (.v 3)) (.int 2147483563)))]
def eH(a:Int){b:Int}(h:0<b):0<=a.fmod b/\a.fmod b<b:=⟨ab_ a h,acv a h⟩
def B9(Φ:aU)(x:D)(k c:Int)(l:cM .list x=true)(o:aX):kS (bN Φ (fO.drop 2) [some x,some (.int k),some (.int c),o])=ok (.int (if (10:Int) ^ 18<=c then(c - 10 ^ 18).fmod (10 ^ 60)else
  let n:=(c*48271+k*69621+11).fmod 2147483629
  let n:=(n*n).fmod 2147483587
  n*2147483563+(n*n).fmod 2147483563)):=by
 have d:dB .pow (.int 10) (.int 18)=ok (.int (10 ^ 18)):=LF (by decide);have e:dB .pow (.int 10) (.int 60)=ok (.int (10 ^ 60)):=LF (by decide);by_cases h:(10:Int) ^ 18<=c
 ·have a:(1000000000000000000:Int)<=c:=h;simp[fO,d,e,a]
 ·have a:¬ (1000000000000000000:Int)<=c:=h;obtain⟨s,r⟩:=eH (c*48271+k*69621+11) (b:=2147483629) (by decide);generalize i:(c*48271+k*69621+11).fmod 2147483629=n at *;obtain⟨q,p⟩:=eH (n*n) (b:=2147483587) (by decide);have g:dB .mul (.int n) (.int n)=ok (.int (n*n)):=iF (sW _ (by left));generalize j:(n*n).fmod 2147483587=m at *;have f:dB .mul (.int m) (.int m)=ok (.int (m*m)):=iF (sW _ (by left));simp[fO,d,a,i,g,j,f]
def MJ(Φ:aU):ux (mk Φ 2 4 fO):=by
 intro ns k a;have:=λc=>B9 Φ (.lst .sc (ah ns)) k c rfl none;by_cases h:k<ns.length
 ·have b:uF (ah ns) k=ok (.int (ns.getD k.toNat 0)):=by
   have hl:k.toNat<ns.length:=by left
   rw[at_of a (d:=.int (ns.getD k.toNat 0)) (by rw[rb,List.getElem?_eq_getElem hl,zby,zap,List.getElem?_eq_getElem hl];rfl)];simp
  have e:kS (bN Φ fO ([some (D.lst Fl.sc (ah ns)),some (D.int k)]++[none,none]))=kS (bN Φ (fO.drop 2) [some (.lst .sc (ah ns)),some (.int k),some (.int (ns.getD k.toNat 0)),none]):=by
   rw[fO,cG,CD];simp only[K5,Lq,iz,pb];simp only[zaZ,zay,nZ,zae,zaD,Nat.reduceAdd,Nat.reduceLT,uU,List.set_cons_succ,List.set_cons_zero];rw[cG,xp];simp[h,b]
  rw[mk_eq (ar:=2) (ds:=[_,_]) rfl];refine(show _=_ from e).trans ?_;rw[this,bX,zac h]
 ·have e:kS (bN Φ fO ([some (D.lst Fl.sc (ah ns)),some (D.int k)]++[none,none]))=kS (bN Φ (fO.drop 2) [some (.lst .sc (ah ns)),some (.int k),some (.int 0),none]):=by
   rw[fO,cG,CD];simp only[K5,Lq,iz,pb];simp only[zaZ,zay,nZ,zae,zaD,Nat.reduceAdd,Nat.reduceLT,uU,List.set_cons_succ,List.set_cons_zero];rw[cG,xp];simp[h]
  rw[mk_eq (ar:=2) (ds:=[_,_]) rfl];refine(show _=_ from e).trans ?_;rw[this,bX,zab h]
noncomputable def lz:CS:=.Ko (.cmp .gt (.v 3) (.int 0)) [.par 2 3 (.v 3) (.bin .mod (.v 2) (.v 3))]
def lX:af:=[.asg (.nm 2) (.bf .abs [(.v 0)]),.asg (.nm 3) (.bf .abs [(.v 1)]),lz,.ifs (.cmp .lt (.v 1) (.int 0)) [.asg (.nm 2) (.bin .sub (.int 0) (.v 2))] [],.ret (.tup [(.bin .fdiv (.v 0) (.v 2)),(.bin .fdiv (.v 1) (.v 2))])]
def yi(Φ:aU)(x y:aX):∀(n:Nat) (a b:Nat),b<=n->i0 Φ lz [x,y,some (.int a),some (.int b)]=ok (.nx,[x,y,some (.int (Nat.gcd a b)),some (.int 0)]):=by
 intro n;induction n with
 |zero =>
  intro a b h;have c:b=0:=by left
  subst c;rw[lz,qK];exact iP (by simp)
 |succ n f =>
  intro a b h;by_cases c:b=0
  ·subst c;rw[lz,qK];exact iP (by simp)
  ·have k:=Nat.mod_lt a (show 0<b by left);have e:=f b (a % b) (by left);have j:Nat.gcd b (a % b)=Nat.gcd a b:=by rw[Nat.gcd_comm a b,Nat.gcd_rec b a,Nat.gcd_comm]
   rw[j]at e;rw[lz,qK]at e ⊢;rw[<- e];have d:0<b:=by left
   have i:((a:Int)).fmod (b:Int)=((a % b:Nat):Int):=by
    rw[Int.fmod_eq_emod_of_nonneg _ (by left)];exact(Int.natCast_emod a b).symm
   have g:i0 Φ (.par 2 3 (.v 3) (.bin .mod (.v 2) (.v 3))) [x,y,some (.int a),some (.int b)]=ok (.nx,[x,y,some (.int b),some (.int ((a % b:Nat):Int))]):=by
    rw[QC];simp[c,i]
   exact oj (by simp[d,g])
def HK(Φ:aU):km (mk Φ 2 4 lX):=by
 intro t b c h;obtain⟨j,i⟩:=tQ (t:=t) c;have g:=nS (t:=t) c h t;have f:=nS (t:=t) c h b;have hl:=yi Φ (some (.int t)) (some (.int b)) b.natAbs t.natAbs b.natAbs (aaj _);rw[qD,<- j,<- i];by_cases a:b<0
 ·have e:0 - (Nat.gcd t.natAbs b.natAbs:Int)=gH t b:=by simp[gH,a,Int.gcd]
  have d:-(Nat.gcd t.natAbs b.natAbs:Int)=gH t b:=by simp[gH,a,Int.gcd]
  simp[mk_eq,lX,hl,a,d,g,f]
 ·have e:(Nat.gcd t.natAbs b.natAbs:Int)=gH t b:=by simp[gH,a,Int.gcd]
  simp[mk_eq,lX,hl,a,e,g,f]
noncomputable def kj(qs:aC)(h:Int):Rat:=qs.getD h.toNat 0
def cO{h:Int}(b:0<=h)(a:h<qs.length):qs[h.toNat]?=some (kj qs h)/\kj qs h∈qs:=by
 have hl:h.toNat<qs.length:=by left
 have e:qs[h.toNat]?=some (kj qs h):=by
  unfold kj;rw[zap,List.getElem?_eq_getElem hl];rfl
 exact⟨e,aaC e⟩
def pY{h:Int}(a:0<=h)(b:h<qs.length):uF (aQ qs) h=ok (qD (kj qs h)):=by
 rw[at_of a (d:=qD (kj qs h)) (by rw[HY,(cO a b).1];rfl)];simp
def Bl{q:Rat}(h:0<q):0<q.num:=by
 have:=(Rat.lt_iff 0 q).mp h;simpa using this
noncomputable def Vk(p:Rat×Rat):D:=.tup [qD p.1,qD p.2]
def Cy(hz:Φ 1000=rX)(f g:Fl)(a qs:aC):dR Φ (.cI 1000) [.lst f (aQ a),.lst g (aQ qs)]=ok ((a.zip qs).map Vk):=by
 show bd (Φ 1000 _) kI=_;rw[hz];show ok (au aD (List.zipWith (λx y=>D.tup [x,y]) (aQ a) (aQ qs)))=_;congr 1;unfold aQ;rw[zbe,aE,zbf,List.zip,zbf];simp[Vk]
def AI.len{n:Nat}{l:ae}(h:AI n l):l.length<=n:=by
 have d:(l.map Int.toNat).Nodup:=by
  unfold List.Nodup;rw[List.pairwise_map];refine h.1.imp_of_mem λg f z e=>?_;have:=h.2 _ g;have:=h.2 _ f;left
 have c:(l.map Int.toNat) ⊆ List.range n:=λx b=>by
  obtain⟨y,a,rfl⟩:=List.mem_map.mp b;have:=h.2 y a;rw[zbl];left
 have:=d.length_le_of_subset c;simpa using this
def AI.eB{n:Nat}{l:ae}(h:AI n l)(a:n<=12):du (.tup (ah l)):=by
 have:=h.len;show(ah l).length<64;simp;left
def Ky{t b:Int}{k:Nat}(d:b≠0)(c:t.natAbs<2 ^ k)(a:b.natAbs<2 ^ k):Sm k (Rat.divInt t b):=A7 d c a
def pL{t b:Int}(c:0<t)(d:0<b):0<Rat.divInt t b:=by
 rw[zaC];have f:(0:Rat)<(t:Rat):=by
  have:=Rat.intCast_lt_intCast (a:=0) (b:=t);simpa using this.mpr c
 have e:(0:Rat)<(b:Rat):=by
  have:=Rat.intCast_lt_intCast (a:=0) (b:=b);simpa using this.mpr d
 rw[Rat.div_def];exact Rat.mul_pos f (Rat.inv_pos.mpr e)
def Sm.zero(k:Nat)(h:1<=k):Sm k 0:=by
 have:Sm 1 (0:Rat):=by constructor<;>decide
 exact this.mono h
theorem Sm.sum{k:Nat}:∀{qs:aC},(∀q∈qs,Sm k q)->Sm (1+(k+1)*qs.length) qs.sum
 |[],_=>Sm.zero _ (by simp)
 |q::qs,h=>by
  have c:=h q aai;have b:=Sm.sum (qs:=qs) λp a=>h p (aah _ a);rw[zaq];refine(c.add b).mono ?_;rw[zae,zbt];left
noncomputable def mZ(l:ae)(f:Int->Rat):Rat:=(l.map f).sum
@[simp]theorem Rb(f:Int->Rat):mZ [] f=0:=rfl
def AZ(h:Int)(l:ae)(f:Int->Rat):mZ (h::l) f=f h+mZ l f:=rfl
def xI{l:ae}{f g:Int->Rat}(h:∀x∈l,f x=g x):mZ l f=mZ l g:=by
 unfold mZ;rw[List.map_congr_left h]
abbrev Row:=Rat×ae
abbrev aq:=List Row
def rD(r:Row):D:=.tup [qD r.1,.tup (ah r.2)]
@[simp]theorem Nj(g:Fl->Fl)(r:Row):aB g (rD r)=rD r:=by unfold rD;simp
@[simp]theorem NZ(g:Fl->Bool)(r:Row):bh g (rD r)=false:=by unfold rD;simp
noncomputable def bO(rs:aq):aa:=rs.map rD
@[simp]theorem Vb(rs:aq):(bO rs).length=rs.length:=abS ..
@[simp]theorem iy(g:Fl->Fl)(rs:aq):au g (bO rs)=bO rs:=dH g (Nj g) rs
@[simp]theorem Tr(g:Fl->Bool)(rs:aq):aV g (bO rs)=false:=cS g (NZ g) rs
def aR(n:Nat)(rs:aq):D:=.tup [.int n,.lst .fz (bO rs)]
def GF(rs:aq):Prop:=∃W:Nat,0<W/\W<64/\∀r∈rs,r.1.den∣W
structure Dp(P:ae->Prop)(k n:Nat)(rs:aq):Prop where
 n1:1<=n
 n2:n<=12
 tR:k*(rs.length+1)<=66
 fin:k*(rs.length+1)<=60\/GF rs
 len:rs.length<=1000
 lot:∀r∈rs,P r.2
 pos:∀r∈rs,0<r.1
 sm:∀r∈rs,Sm k r.1
 one:(rs.map (·.1)).sum=1
 rise:Pt (rs.map (·.2))
abbrev Dr(k n:Nat)(rs:aq):Prop:=Dp (AI n) k n rs
noncomputable def bU(rs:aq):aC:=rs.map (·.1)
section
variable {P:ae->Prop}{k n:Nat}{rs:aq}(I:Dp P k n rs)
include I
def Dp.A6:xi k (bU rs):=⟨λq b=>by
 obtain⟨r,a,rfl⟩:=List.mem_map.mp b;exact I.sm r a,by
  have:=I.tR;have h:k*(bU rs).length<=k*(rs.length+1):=abD _ (by simp[bU]);left,by simp[bU];exact I.len⟩
omit I in
theorem oY{W:Nat}:∀(qs:aC) (b:Nat),b∣W->(∀q∈qs,q.den∣W)->qs.foldl (λb q=>Nat.lcm b q.den) b∣W
 |[],_,h,_=>h
 |q::qs,b,h,hq=>oY qs _ (Nat.lcm_dvd h (hq q aai)) λp a=>hq p (aah _ a)
def Dp.bot:0<bA (bU rs)/\bA (bU rs)<2 ^ 61/\∀q∈bU rs,q.den∣bA (bU rs):=by
 obtain⟨a,b,c⟩:=I.A6.lcm;refine⟨a,?_,c⟩;rcases I.fin with f|⟨W,d,w1,w2⟩
 ·refine aaf b (aar (by decide) ?_);have h:k*(bU rs).length<=k*(rs.length+1):=abD _ (by simp[bU]);left
 ·have:bA (bU rs)∣W:=oY _ 1 (Nat.one_dvd _) λq g=>by
   obtain⟨r,e,rfl⟩:=List.mem_map.mp g;exact w2 r e
  exact aaw (abC d this) (aaf w1 (by decide))
def Dp.top{r:Row}(d:r∈rs):(bw (bA (bU rs)) r.1).natAbs<2 ^ 64:=by
 obtain⟨a,b,c⟩:=I.A6.lcm;have s:=I.sm r d;unfold bw;rw[zas,zaA _ (by left),<- zbu,zaz];have j:(bU rs).length=rs.length:=by simp[bU]
 have l:=I.tR;rcases I.fin with f|⟨W,h,w1,w2⟩
 ·have g:bA (bU rs) / r.1.den<2 ^ (1+k*(bU rs).length):=aaw (acm _ _) b;have e:=bB s.1 g;refine aaf e (aar (by decide) ?_);rw[j];rw[zbt]at f;left
 ·have:bA (bU rs)∣W:=oY _ 1 (Nat.one_dvd _) λq i=>by
   obtain⟨r,d,rfl⟩:=List.mem_map.mp i;exact w2 r d
  have g:bA (bU rs) / r.1.den<2 ^ 6:=aaw (acm _ _) (aaw (abC h this) w1);have e:=bB s.1 g;refine aaf e (aar (by decide) ?_);have hl:1<=rs.length:=List.length_pos_of_mem d;have:k*2<=k*(rs.length+1):=abD _ (by left);left
end
noncomputable def fJ:af:=[.ifs (.or [(.not (.ra (.v 0) .tuple)),(.cmp .ne (.bf .len [(.v 0)]) (.int 2))]) [.ret (.bl false)] [],.ifs (.not (.call 43 [(.ix (.v 0) (.int 1)),(.v 1)])) [.ret (.bl false)] [],.ret (.and [(.call 3 [(.ix (.v 0) (.int 0))]),(.cmp .gt (.ix (.ix (.v 0) (.int 0)) (.int 0)) (.int 0))])]
noncomputable def AX:af:=[.ifs (.cI 1022 [(.ix (.v 1) (.int 1)),(.ix (.v 2) (.int 1))]) [.ret (.bl false)] []]
def fI:af:=[.fr (.tp [1,2]) (.GL 1000 [(.v 0),(.cI 1020 [(.v 0),(.int 1)])]) AX,.ret (.bl true)]
def oV(rs:aq):aa:=rs.map λr=>.tup (ah r.2)
@[simp]theorem oU(g:Fl->Fl)(rs:aq):au g (oV rs)=oV rs:=dH g (λr=>by simp) rs
@[simp]theorem NW(g:Fl->Bool)(rs:aq):aV g (oV rs)=false:=cS g (λr=>by simp) rs
def jz(b:Nat)(rs:aq):aa:=rs.map λr=>.tup [.int (bw b r.1),.tup (ah r.2)]
@[simp]theorem oS(g:Fl->Fl)(b:Nat)(rs:aq):au g (jz b rs)=jz b rs:=dH g (λr=>by simp) rs
@[simp]theorem Tq(g:Fl->Bool)(b:Nat)(rs:aq):aV g (jz b rs)=false:=cS g (λr=>by simp) rs
noncomputable def JL:CE:=.comp 2 (.tp [0,1]) [] .seq [(.v 0)] [] (.v 0)
noncomputable def JJ:CE:=.comp 2 (.tp [0,1]) [] .seq [(.v 0)] [] (.v 1)
def UD(Φ:aU){rs:aq}(h:rs.length<=1000)(r:a_):bp Φ JL (some (.lst .fz (bO rs))::r)=ok (.lst .ow (aQ (bU rs))):=by
 unfold JL;rw[bW (xs:=[.lst .fz (bO rs)]) (items:=bO rs) (ds:=rs.map λr=>qD r.1) (by simp) (by rw[dq];simp) (bD λr a=>?_) (by simp;exact bE (by left))]
 ·simp[aQ,bU,aE]
 ·exact⟨[some (qD r.1),some (.tup (ah r.2))],by simp[bx,rD],by simp,by simp⟩
def Se(Φ:aU){rs:aq}(h:rs.length<=1000)(r:a_):bp Φ JJ (some (.lst .fz (bO rs))::r)=ok (.lst .ow (oV rs)):=by
 unfold JJ;rw[bW (xs:=[.lst .fz (bO rs)]) (items:=bO rs) (ds:=rs.map λr=>.tup (ah r.2)) (by simp) (by rw[dq];simp) (bD λr a=>?_) (by simp;exact bE (by left))]
 ·exact aaU (λx=>ok (D.lst .ow x)) (oU fN rs)
 ·exact⟨[some (qD r.1),some (.tup (ah r.2))],by simp[bx,rD],by simp,by simp⟩
def gn(m:aj):Prop:=∀(rs:aq) k,xi k (bU rs)->m [.lst .fz (bO rs)]=ok (.tup [.int (bA (bU rs)),.lst .ow (jz (bA (bU rs)) rs)])
def ka:af:=[.asg (.nm 1) JL,.asg (.nm 2) JJ,.asg (.nm 3) (.call 9 [(.v 1)]),.ret (.tup [(.v 3),(.cI 1040 [(.call 10 [(.v 1),(.v 3)]),(.v 2)])])]
def A_(Φ:aU)(d:fQ (Φ 9))(m:jU (Φ 10))(l:Φ 1040=Sa):gn (mk Φ 1 4 ka):=by
 intro a k c;have hl:a.length<=1000:=by have:=c.len;simpa [bU]using this
 have j:=UD Φ hl;have i:=Se Φ hl;have h:=λf=>d f (bU a) k c;have g:=λf=>m f (bU a) k (bA (bU a)) c c.IP;generalize bA (bU a)=b at *;have e:Φ 1040 [.lst .ow (ah ((bU a).map (bw b))),.lst .al (oV a)]=ok (.lst .ow (jz b a)):=by
  rw[l];show ok (D.lst .ow (au ba (List.zipWith pairD (ah ((bU a).map (bw b))) (oV a))))=_;rw[eh,dv,oU];unfold bU ah oV jz;rw[zam,zam,zbe,List.zipWith_self];rfl
 simp[mk_eq,ka,BB Φ JL _ rfl,BB Φ JJ _ rfl,j,i,h,g,e]
noncomputable def OR:CE:=.comp 2 (.tp [0,1]) [] .seq [(.ix (.v 1) (.int 1))] [] (.v 0)
def fm:af:=[.asg (.nm 1) (.call 14 [(.v 0)]),.ret (.cmp .eq (.bf .gu [OR]) (.ix (.v 1) (.int 0)))]
def CZ{b:Nat}(h:∀q∈qs,q.den∣b)(a:qs.sum=1):(qs.map (bw b)).sum=(b:Int):=by
 have:=lD h;rw[a,Rat.one_mul,<- zav]at this;exact Rat.intCast_inj.mp this
noncomputable def lE:af:=[.ifs (.not (.call 12 [(.v 3),(.v 1)])) [.ret (.bl false)] []]
def cp:af:=[.ifs (.or [(.not (.ra (.v 0) .tuple)),(.cmp .ne (.bf .len [(.v 0)]) (.int 2))]) [.ret (.bl false)] [],.asg (.nm 1) (.ix (.v 0) (.int 0)),.asg (.nm 2) (.ix (.v 0) (.int 1)),.ifs (.or [(.not (.call 0 [(.v 1)])),(.cmp .lt (.v 1) (.int 1)),(.cmp .gt (.v 1) (.glo "MOST_HOUSES" 12))]) [.ret (.bl false)] [],.ifs (.not (.ra (.v 2) .list)) [.ret (.bl false)] [],.fr (.nm 3) (.seq (.v 2)) lE,.ret (.and [(.call 44 [(.v 2)]),(.call 15 [(.v 2)])])]
def Pr(m:aj):Prop:=∀k n a,Dr k n a->m [aR n a]=ok (.bl true)
def Dp.some{P:ae->Prop}{k n:Nat}{rs:aq}(I:Dp P k n rs):1<=rs.length:=by
 cases rs with
 |nil=>have:=I.one;simp at this
 |cons r rs=>simp
noncomputable def OZ:CE:=.comp 2 (.tp [0,1]) [0] .seq [(.ix (.v 0) (.int 1))] [] (.call 11 [(.v 1),(.ix (.v 2) (.int 0))])
def dK:af:=[.ret (.and [(.call 45 [(.v 0)]),(.bf .all1 [OZ])])]
def sv(Φ:aU)(b:w6 (Φ 11))(j:Pr (Φ 45)):Pr (mk Φ 1 1 dK):=by
 intro k n a I;have i:=j k n a I;have h:bp Φ OZ [some (aR n a)]=ok (.lst .ow (lT (a.map λ_=>true))):=by
  unfold OZ;rw[bW (xs:=[.lst .fz (bO a)]) (items:=bO a) (ds:=a.map λ_=>.bl true) (by simp[aR]) (by rw[dq];simp) (bD λr f=>?_) (by simp;exact bE (by have:=I.len;left))]
  ·simp[lT,aE]
  ·have hl:=I.lot r f;have e:=b (.tup (ah r.2)) n (hl.eB I.n2);rw[hl.tj]at e;exact⟨[some (qD r.1),some (.tup (ah r.2)),some (aR n a)],by simp[bx,rD,aR],by simp,by simp[aR,e]⟩
 have g:qk .all1 [.lst .ow (lT (a.map λ_=>true))]=ok (.bl true):=by
  show(match jP (lT (a.map λ_=>true))with|some bs=>ok (D.bl (bs.all id))|none=>none)=_;unfold lT;rw[mx];show ok (D.bl ((a.map λ_=>true).all id))=_;congr 2;simp
 have d:aB aD (aR n a)=aR n a:=by simp[aR]
 have c:aB ba (aR n a)=aR n a:=by simp[aR]
 simp[mk_eq,dK,d,c,i,h,g]
def b7(m:aj):Prop:=∀k n a,Dr k n a->m [aR n a]=ok .bz
noncomputable def cz:af:=[.ifs (.not (.call 16 [(.v 0)])) [.rs 1] []]
def m8(Φ:aU)(e:Pr (Φ 16)):b7 (mk Φ 1 1 cz):=by
 intro k n a I;have d:=e k n a I;have c:aB aD (aR n a)=aR n a:=by simp[aR]
 have b:aB ba (aR n a)=aR n a:=by simp[aR]
 simp[mk_eq,cz,c,b,d]
end DI
end
section
set_option maxHeartbeats 1000000
namespace DI
open PySem (Str)
noncomputable def DV(d:D):Bool:=match d with
 |.tup (.int a::_)=>decide (0<a)
 |_=>false
def jv(n:Int)(d:D):Bool:=match d with
 |.tup [c,l]=>bP l n&&(bS c&&DV c)
 |_=>false
def J5(d:D):Prop:=match d with
 |.tup [_,l]=>du l
 |_=>True
def yZ(m:aj):Prop:=∀d (n:Int),J5 d->m [d,.int n]=ok (.bl (jv n d))
variable {ds:aa}
def ze(h:ds.length=2):∃x y,ds=[x,y]:=by
 match ds,h with
 |[x,y],_=>exact⟨x,y,rfl⟩
def DE{n:Int}(h:ds.length≠2):jv n (.tup ds)=false:=by
 unfold jv
 match ds,h with
 |[],_=>rfl
 |[_],_=>rfl
 |[_,_],h=>exact absurd rfl h
 |_::_::_::_,_=>rfl
def MG(Φ:aU)(j:fA (Φ 3))(m:jc (Φ 43)):yZ (mk Φ 2 2 fJ):=by
 intro d n i;have g:∀ds,cM .tuple (.tup ds)=true:=λ_=>rfl;cases d with
 |tup ds =>
  by_cases hl:ds.length=2
  ·obtain⟨c,l,rfl⟩:=ze hl;have b:=m (aB aD (aB ba (aB ba l))) n (eu (eu (eu (show du l from i))));rw[eG,eG,eG]at b;have a:=j (aB aD (aB ba (aB ba c)));rw[eU,eU,eU]at a;cases e:bP l n with
   |false=>rw[e]at b;simp[mk_eq,fJ,g,b,jv,e]
   |true =>
    rw[e]at b;cases f:bS c with
    |false=>rw[f]at a;simp[mk_eq,fJ,g,b,a,jv,e,f]
    |true =>
     obtain⟨q,rfl⟩:=v9 f;rw[f]at a;have k:qD q=.tup [.int q.num,.int q.den]:=rfl;simp at a;simp[mk_eq,fJ,g,b,a,jv,e,f];simp[k,DV]
  ·have h:¬ (ds.length:Int)=2:=by left
   simp[mk_eq,fJ,g,h,DE hl,aE]
 |_=>simp[mk_eq,fJ,cM,jv]
def eC(d:D):Row:=match d with
 |.tup [.tup [.int a,.int b],.tup ds]=>(Rat.divInt a b,numsOf ds)
 |_=>(0,[])
set_option tactic.hygienic true in
def HR{n:Nat}{d:D}(h:jv n d=true):d=rD (eC d)/\0<(eC d).1/\bP (.tup (ah (eC d).2)) n=true:=by
 unfold jv at h;split at h
 ·rename_i c l;rw[zaf,zaf]at h;obtain⟨a,i,g⟩:=h;obtain⟨q,rfl⟩:=v9 i;cases l with
  |tup ds =>
   have j:=a;unfold bP at a;rw[zaf]at a;obtain⟨f,rfl⟩:=fH a.1;have e:eC (.tup [qD q,.tup (ah f)])=(q,f):=by
    show(Rat.divInt q.num q.den,numsOf (ah f))=_;rw[eD,fE]
   rw[e];refine⟨rfl,?_,j⟩;have:0<q.num:=aab g;have:=pL (t:=q.num) (b:=q.den) this (by have:=KI q;left)
   rwa [eD]at this
  |_=>simp[bP]at a
 ·cases h
def HQ{n:Nat}{rows:aa}(h:rows.all (jv n)=true):rows=bO (rows.map eC):=by
 unfold bO;rw[zam]
 conv=>lhs;rw[<- List.map_id rows]
 refine aax λd a=>?_;exact(HR (List.all_eq_true.mp h d a)).1
def fX:aK->Bool
 |a::b::l=>HT.lexLt a b&&fX (b::l)
 |_=>true
def AD(m:aj):Prop:=∀a:aq,m [.lst .fz (bO a)]=ok (.bl (fX (a.map (·.2))))
def T7{Φ:aU}(c:Φ 1022=Qd)(a b:ae):Φ 1022 [.tup (ah a),.tup (ah b)]=ok (.bl (!HT.lexLt a b)):=by
 rw[c];show(match intsOf (ah a)with|some ns=>(match intsOf (ah b)with|some ms=>ok (D.bl (!HT.lexLt ns ms))|none=>none)|none=>none)=_;unfold ah;rw[bI,bI]
theorem vj(Φ:aU)(g:Φ 1022=Qd)(b:aX):∀(rs:aq) (r:Row) (c1 f:aX),
  ∃a,eW (λd c=>cH (.tp [1,2]) d c) (λc=>bN Φ AX c) (List.zipWith (λx y=>D.tup [x,y]) (bO (r::rs)) (bO rs)) [b,c1,f]=ok (if fX ((r::rs).map (·.2))then .nx else .rt (.bl false),a)
 |[],r,c1,f=>⟨_,rfl⟩
 |s::rs,r,c1,f=>by
  have e:=T7 g r.2 s.2;have j:∀r:Row,rD r=.tup [qD r.1,.tup (ah r.2)]:=λ_=>rfl;have i:fX ((r::s::rs).map (·.2))=(HT.lexLt r.2 s.2&&fX ((s::rs).map (·.2))):=rfl;cases h:HT.lexLt r.2 s.2 with
  |true =>
   obtain⟨a,k⟩:=vj Φ g b rs s (some (rD r)) (some (rD s));refine⟨a,?_⟩;rw[i,h,zbn,<- k];rw[h]at e;exact eV (ρ1:=[b,some (rD r),some (rD s)]) (by simp) (ρ2:=[b,some (rD r),some (rD s)]) (by simp[AX,j,e]) rfl
  |false =>
   refine⟨[b,some (rD r),some (rD s)],?_⟩;rw[i,h,zaQ];rw[h]at e;exact yB (ρ1:=[b,some (rD r),some (rD s)]) (by simp) (by simp[AX,j,e])
def HF(Φ:aU)(k:Φ 1000=rX)(o:Φ 1020=cutD true)(j:Φ 1022=Qd):AD (mk Φ 1 3 fI):=by
 intro a;have n:Φ 1020 [.lst .fz (bO a),.int 1]=ok (.lst .ow (bO (a.drop 1))):=by
  rw[o];show(if (0:Int)<=1 then ok (D.lst .ow (au ba (qF true (1:Int).toNat (bO a))))else none)=_;rw[zac (by decide)];show ok (D.lst .ow (au ba ((bO a).drop 1)))=_;rw[show(bO a).drop 1=bO (a.drop 1) by simp[bO,List.map_drop]];simp
 have m:Φ 1000 [.lst .fz (bO a),.lst .ow (bO (a.drop 1))]=ok (.lst .ow (List.zipWith (λx y=>D.tup [x,y]) (bO a) (bO (a.drop 1)))):=by rw[k];rfl
 have l:au aD (List.zipWith (λx y=>D.tup [x,y]) (bO a) (bO (a.drop 1)))=List.zipWith (λx y=>D.tup [x,y]) (bO a) (bO (a.drop 1)):=by
  have:=eh aD (bO a) (bO (a.drop 1));rw[iy,iy]at this;exact this
 have i:eP Φ (.GL 1000 [(.v 0),(.cI 1020 [(.v 0),(.int 1)])]) [some (.lst .fz (bO a)),none,none]=ok (List.zipWith (λx y=>D.tup [x,y]) (bO a) (bO (a.drop 1)),[some (.lst .fz (bO a)),none,none]):=by
  show bd (bL Φ [(.v 0),(.cI 1020 [(.v 0),(.int 1)])] [some (.lst .fz (bO a)),none,none]) _=_;have:bL Φ [(.v 0),(.cI 1020 [(.v 0),(.int 1)])] [some (.lst .fz (bO a)),none,none]=ok [.lst .fz (bO a),.lst .ow (bO (a.drop 1))]:=by simp[n]
  rw[this,dC,m,dC];show ok (au aD (List.zipWith (λx y=>D.tup [x,y]) (bO a) (bO (a.drop 1))),if aV bR [D.lst .fz (bO a),.lst .ow (bO (a.drop 1))]then _ else _)=_;rw[l];simp
 obtain⟨f,e⟩:∃f,eW (λd g=>cH (.tp [1,2]) d g) (λg=>bN Φ AX g) (List.zipWith (λx y=>D.tup [x,y]) (bO a) (bO (a.drop 1))) [some (.lst .fz (bO a)),none,none]=ok (if fX (a.map (·.2))then .nx else .rt (.bl false),f):=by
  cases a with
  |nil=>exact⟨_,rfl⟩
  |cons r a=>exact vj Φ j _ a r none none
 have c:=iq (Φ:=Φ) (t:=.tp [1,2]) (b:=AX) i e;cases h:fX (a.map (·.2))with
 |true=>rw[h]at c;simp at c;simp[mk_eq,fI,c]
 |false=>rw[h]at c;simp at c;simp[mk_eq,fI,c]
def Gx(m:aj):Prop:=∀(rs:aq) k,xi k (bU rs)->m [.lst .fz (bO rs)]=ok (.bl (decide ((bU rs).sum=1)))
def C1{b:Nat}{qs:aC}(c:0<b)(h:∀q∈qs,q.den∣b):(qs.map (bw b)).sum=(b:Int) ↔ qs.sum=1:=by
 refine⟨λe=>?_,CZ h⟩;have:=lD h;rw[e]at this;have a:((b:Int):Rat)≠0:=by
  intro z;have:=Rat.intCast_inj.mp (z.trans Rat.intCast_zero.symm);left
 rw[zav]at this a;generalize (b:Rat)=x at *;grind
def MF(Φ:aU)(m:gn (Φ 14)):Gx (mk Φ 1 2 fm):=by
 intro a k c;have hl:a.length<=1000:=by have:=c.len;simpa [bU]using this
 have l:=m a k c;have d:=c.lcm;have j:=C1 d.1 d.2.2;generalize bA (bU a)=b at *;have i:∀e,bp Φ OR [e,some (.tup [.int b,.lst .ow (jz b a)])]=ok (.lst .ow (ah ((bU a).map (bw b)))):=λe=>by
  unfold OR;rw[bW (xs:=[.lst .al (jz b a)]) (items:=jz b a) (ds:=a.map λr=>.int (bw b r.1)) (by simp) (by rw[dq];simp) (bD λr n=>?_) (by simp;exact bE (by left))]
  ·simp[ah,bU,aE]
  ·exact⟨[some (.int (bw b r.1)),some (.tup (ah r.2))],by simp[bx],by simp,by simp⟩
 have h:qk .gu [.lst .ow (ah ((bU a).map (bw b)))]=ok (.int ((bU a).map (bw b)).sum):=by
  show(match intsOf (ah ((bU a).map (bw b)))with|some ns=>ok (D.int ns.sum)|none=>none)=_;unfold ah;rw[bI]
 have g:∀x y:Int,gd .eq (.int x) (.int y)=ok (.bl (x==y)):=λx y=>rfl;have f:(((bU a).map (bw b)).sum==(b:Int))=decide ((bU a).sum=1):=by
  rw[zbx,zbr,decide_eq_true_iff];exact j
 simp[mk_eq,fm,l,i,h,g,f]
structure Fz(d:D):Prop where
 fz:aB aD d=d
 al:aB ba d=d
 ow:bh cQ d=false
mutual
theorem gk(g h:Fl->Fl):∀d:D,aB g (aB h d)=aB (λf=>g (h f)) d
 |.tup ds=>by rw[aB,aB,aB,fF g h ds]
 |.lst f ds=>by rw[aB,aB,aB,fF g h ds]
 |.de f a ds=>by rw[aB,aB,aB,fF g h ds]
 |.bz=>rfl
 |.bl _=>rfl
 |.int _=>rfl
 |.str _=>rfl
theorem fF(g h:Fl->Fl):∀ds:aa,au g (au h ds)=au (λf=>g (h f)) ds
 |[]=>rfl
 |d::ds=>by rw[au,au,au,gk g h d,fF g h ds]
end
def FD(d:D):aB aD (aB ba d)=aB aD d:=by
 rw[gk];congr 1;funext f;cases f<;>rfl
def At(ρ:a_)(i:Nat)(Y:D):Prop:=∃y,ρ[i]?=some (some y)/\aB aD y=Y
def dP(Φ:aU)(e:CE)(ρ:a_)(Y:D):Prop:=∃d,bp Φ e ρ=ok d/\aB aD d=Y
def aP(Φ:aU)(es:aA)(ρ:a_)(a:aa):Prop:=∃ds,bL Φ es ρ=ok ds/\au aD ds=a
def zZ(d:D):aB aD (aB aD d)=aB aD d:=by
 rw[gk];congr 1;funext f;cases f<;>rfl
def Js(d:D):aB aD (aB fN d)=aB aD d:=by
 rw[gk];congr 1;funext f;cases f<;>rfl
def UQ(d:D):aB ba (aB aD d)=aB aD d:=by
 rw[gk];congr 1;funext f;cases f<;>rfl
mutual
theorem KU:∀d:D,bh cQ (aB aD d)=false
 |.tup ds=>sS ds
 |.lst f ds=>by
  show(cQ (aD f)||aV cQ (au aD ds))=false;rw[sS ds];cases f<;>rfl
 |.de f a ds=>by
  show(cQ (aD f)||aV cQ (au aD ds))=false;rw[sS ds];cases f<;>rfl
 |.bz=>rfl
 |.bl _=>rfl
 |.int _=>rfl
 |.str _=>rfl
theorem sS:∀ds:aa,aV cQ (au aD ds)=false
 |[]=>rfl
 |d::ds=>by
  show(bh cQ (aB aD d)||aV cQ (au aD ds))=false;rw[KU d,sS ds];rfl
end
def zW(d:D):Fz (aB aD d):=⟨zZ d,UQ d,KU d⟩
def At.fz{ρ:a_}{i:Nat}{Y:D}(h:At ρ i Y):Fz Y:=by
 obtain⟨y,_,rfl⟩:=h;exact zW y
variable {f:Fl}
section
variable {Φ:aU}{ρ:a_}{e a b:CE}{es:aA}{Y:D}{Ys:aa}
theorem At.v{i:Nat}(h:At ρ i Y):dP Φ (.v i) ρ Y:=by
 obtain⟨y,d,c⟩:=h;exact⟨aB ba y,by rw[e_v,d];rfl,by rw[FD,c]⟩
def dP.i{z:Int}(h:dP Φ e ρ (.int z)):bp Φ e ρ=ok (.int z):=by
 obtain⟨d,g,c⟩:=h;cases d<;>first | (cases c;exact g)|cases c
theorem dP.bl{z:Bool}(h:dP Φ e ρ (.bl z)):bp Φ e ρ=ok (.bl z):=by
 obtain⟨d,g,c⟩:=h;cases d<;>first | (cases c;exact g)|cases c
def dP.s{z:Str}(h:dP Φ e ρ (.str z)):bp Φ e ρ=ok (.str z):=by
 obtain⟨d,g,c⟩:=h;cases d<;>first | (cases c;exact g)|cases c
def dP.of{d:D}(h:bp Φ e ρ=ok d):dP Φ e ρ (aB aD d):=⟨d,h,rfl⟩
def aP.nil:aP Φ [] ρ []:=⟨[],rfl,rfl⟩
def aP.cons(h:dP Φ e ρ Y)(t:aP Φ es ρ Ys):aP Φ (e::es) ρ (Y::Ys):=by
 obtain⟨d,g,rfl⟩:=h;obtain⟨ds,c,rfl⟩:=t;exact⟨d::ds,by rw[kT,g,c];rfl,rfl⟩
theorem aP.tup(h:aP Φ es ρ Ys):dP Φ (.tup es) ρ (.tup Ys):=by
 obtain⟨ds,c,rfl⟩:=h;exact⟨.tup ds,by rw[Up,c];rfl,rfl⟩
theorem aP.lst(h:aP Φ es ρ Ys):dP Φ (.lst es) ρ (.lst .fz Ys):=by
 obtain⟨ds,c,rfl⟩:=h;exact⟨.lst .ow ds,by rw[Ur,c];rfl,rfl⟩
theorem aP.call{f:Nat}{r:D}(h:aP Φ es ρ Ys)(hf:Φ f Ys=ok r):dP Φ (.call f es) ρ (aB aD r):=by
 obtain⟨ds,c,rfl⟩:=h;refine⟨aB fN r,?_,Js r⟩;rw[yJ,c];show bd (Φ f (au aD ds)) _=_;rw[hf];rfl
def dP.tupI(h:dP Φ e ρ (.tup Ys)):∃ds,bp Φ e ρ=ok (.tup ds)/\au aD ds=Ys:=by
 obtain⟨d,g,c⟩:=h;cases d<;>first | (cases c;exact⟨_,g,rfl⟩)|cases c
def dP.yg(h:dP Φ e ρ (.lst f Ys)):∃g ds,bp Φ e ρ=ok (.lst g ds)/\au aD ds=Ys/\aD g=f:=by
 obtain⟨d,i,c⟩:=h;cases d<;>first | (cases c;exact⟨_,_,i,rfl,rfl⟩)|cases c
def LH{j:Nat}(c:(au aD ds)[j]?=some Y):∃d,uF ds (j:Int)=ok d/\aB aD d=Y:=by
 rw[aE,List.getElem?_map]at c;cases g:ds[j]? with
 |none=>rw[g]at c;cases c
 |some x =>
  rw[g]at c;cases c;exact⟨aB ba x,at_of (by left) (by rw[zan];exact g),FD x⟩
def dP.ixT{j:Nat}(h:dP Φ a ρ (.tup Ys))(g:bp Φ b ρ=ok (.int j))(c:Ys[j]?=some Y):dP Φ (.ix a b) ρ Y:=by
 obtain⟨ds,l,rfl⟩:=h.tupI;obtain⟨d,k,i⟩:=LH c;exact⟨d,by rw[Us,l,g];exact k,i⟩
def dP.K8{j:Nat}(h:dP Φ a ρ (.lst f Ys))(i:bp Φ b ρ=ok (.int j))(c:Ys[j]?=some Y):dP Φ (.ix a b) ρ Y:=by
 obtain⟨g,ds,m,rfl,_⟩:=h.yg;obtain⟨d,l,k⟩:=LH c;exact⟨d,by rw[Us,m,i];exact l,k⟩
def vZ(ds:aa):au aD (au ba ds)=au aD ds:=by
 rw[aE,aE,aE,zam];exact aax λd _=>FD d
def dP.cat{g:Fl}{c:aa}(i:dP Φ a ρ (.lst f Ys))(h:dP Φ b ρ (.lst g c))(hf:qB f=false)(d:qB g=false)(hl:Ys.length+c.length<=1000):dP Φ (.bin .add a b) ρ (.lst .fz (Ys++c)):=by
 obtain⟨k,ds,m,rfl,rfl⟩:=i.yg;obtain⟨j,es,l,rfl,rfl⟩:=h.yg;rw[aE,aE,zaa,zaa]at hl;refine⟨.lst .ow (au ba (ds++es)),?_,?_⟩
 ·rw[Lu,m,l];exact aa5 ⟨by cases k<;>first|rfl|exact hf,by cases j<;>first|rfl|exact d,by show _<=1000000;left⟩
 ·show D.lst .fz (au aD (au ba (ds++es)))=_;rw[vZ,aE,aE,aE,zax]
def dP.Me(h:dP Φ a ρ (.lst f Ys)):dP Φ (.bf .tuple1 [a]) ρ (.tup Ys):=by
 obtain⟨g,ds,c,rfl,_⟩:=h.yg;exact⟨.tup (au ba ds),by rw[Uv,kT,c];rfl,aaU D.tup (vZ ds)⟩
def Gm(h:dP Φ e ρ Y)(i:Vt e=false):∃d c,i0 Φ (.ret e) ρ=ok (.rt d,c)/\aB aD d=Y:=by
 obtain⟨d,j,rfl⟩:=h;rw[Kn,BB Φ e ρ i,j];cases g:bh bR d with
 |false=>rw[iz g];exact⟨d,_,rfl,rfl⟩
 |true=>rw[vN g];exact⟨_,_,rfl,zZ d⟩
theorem dP.tE{k:Bool}(h:dP Φ a ρ (.bl k)):bp Φ (.bf .tE [a]) ρ=ok (.int (bif k then(1:Nat)else(0:Nat))):=by
 rw[Uv,kT,h.bl];cases k<;>rfl
def kP{op:AL}{x y z:D}(g:bp Φ a ρ=ok x)(d:bp Φ b ρ=ok y)(c:dB op x y=ok z):bp Φ (.bin op a b) ρ=ok z:=by
 rw[Lu,g,d];exact c
def jK{op:Cv}{x y z:D}(g:bp Φ a ρ=ok x)(d:bp Φ b ρ=ok y)(c:gd op x y=ok z):bp Φ (.cmp op a b) ρ=ok z:=by
 rw[Uu,g,d];exact c
def Gn{i:Nat}(h:dP Φ e ρ Y)(p:Vt e=false)(l:i<ρ.length):∃c,i0 Φ (.asg (.nm i) e) ρ=ok (.nx,c)/\c.length=ρ.length/\At c i Y/\∀j Z,j≠i->At ρ j Z->At c j Z:=by
 obtain⟨d,g,rfl⟩:=h;rw[CD,BB Φ e ρ p,g];cases o:bh bR d with
 |false =>
  rw[iz o,nZ l];refine⟨_,rfl,List.length_set ..,⟨d,abj l,rfl⟩,λj Z k ⟨y,g,m⟩=>⟨y,by rw[List.getElem?_set_ne (Ne.symm k)];exact g,m⟩⟩
 |true =>
  have e0:df e ρ (ok d)=ok (aB aD d,jo (gE e) ρ):=by rw[vN o,tN]
  have hl:(jo (gE e) ρ).length=ρ.length:=by unfold jo;rw[List.length_mapIdx]
  rw[e0,nZ (by rw[hl];exact l)];refine⟨_,rfl,by rw[zbk,hl],⟨aB aD d,abj (by rw[hl];exact l),zZ d⟩,λj Z k ⟨y,g,m⟩=>?_⟩;by_cases n:j∈gE e
  ·refine⟨aB aD y,?_,by rw[zZ,m]⟩;rw[List.getElem?_set_ne (Ne.symm k)];unfold jo;rw[List.getElem?_mapIdx,g];show some (if j∈gE e then _ else _)=_;rw[zac n];rfl
  ·refine⟨y,?_,m⟩;rw[List.getElem?_set_ne (Ne.symm k)];unfold jo;rw[List.getElem?_mapIdx,g];show some (if j∈gE e then _ else _)=_;rw[zab n]
def Go(Φ:aU)(d:af)(ρ:a_)(Q:a_->Prop):Prop:=∃c,bN Φ d ρ=ok (.nx,c)/\Q c
variable {ss:af}{Q:a_->Prop}
def Go.nil(h:Q ρ):Go Φ [] ρ Q:=⟨ρ,rfl,h⟩
def Go.cons{s:CS}{ρ1:a_}(h:i0 Φ s ρ=ok (.nx,ρ1))(k:Go Φ ss ρ1 Q):Go Φ (s::ss) ρ Q:=by
 obtain⟨c,g,d⟩:=k;exact⟨c,by rw[cG,h];exact g,d⟩
def xl(n:Nat)(l:List (Nat×D))(ρ:a_):Prop:=ρ.length=n/\bH (λp:Nat×D=>At ρ p.1 p.2) l
theorem uk{i:Nat}{ρ':a_}(k:∀j Z,j≠i->At ρ j Z->At ρ' j Z):∀{l:List (Nat×D)},bH (λp:Nat×D=>At ρ p.1 p.2) l->(l.all λp=>p.1 != i)=true->bH (λp:Nat×D=>At ρ' p.1 p.2) l
 |[],_,_=>trivial
 |p::l,h,e=>by
  rw[zaw,zaf]at e;exact⟨k _ _ (by simpa using e.1) h.1,uk k h.2 e.2⟩
variable {n i:Nat}{l:List (Nat×D)}
def Go.jS(A:xl n l ρ)(h:dP Φ e ρ Y)(k:∀c,xl n ((i,Y)::l) c->Go Φ ss c Q)(d:Vt e=false:=by rfl)(j:i<n:=by decide)(g:(l.all λp=>p.1 != i)=true:=by rfl):Go Φ (.asg (.nm i) e::ss) ρ Q:=by
 obtain⟨c,r,q,o,m⟩:=Gn h d (by rw[A.1];exact j);exact .cons r (k c ⟨q.trans A.1,o,uk m A.2 g⟩)
theorem xl.set{d:D}(A:xl n l ρ)(hz:aB aD d=Y)(h:i<n:=by decide)(c:(l.all λp=>p.1 != i)=true:=by rfl):cH (.nm i) d ρ=ok (ρ.set i (some d))/\xl n ((i,Y)::l) (ρ.set i (some d)):=by
 have hl:i<ρ.length:=by rw[A.1];exact h
 exact⟨Hz hl,by rw[zbk];exact A.1,⟨d,abj hl,hz⟩,uk (λj Z g ⟨y,m,k⟩=>⟨y,by rw[List.getElem?_set_ne (Ne.symm g)];exact m,k⟩) A.2 c⟩
def Go.Sv{c:CE}{ts:af}(h:bp Φ c ρ=ok (.bl false))(k:Go Φ ss ρ Q):Go Φ (.ifs c ts []::ss) ρ Q :=
 .cons (by rw[xp,h];rfl) k
theorem Fx{t:Tg}{bb:af}{P:a_->Prop}:∀(items:aa),(∀d∈items,∀ρ,P ρ->∃g,cH t d ρ=ok g/\Go Φ bb g P)->∀ρ,P ρ->∃c,eW (λd ρ=>cH t d ρ) (λρ=>bN Φ bb ρ) items ρ=ok (.nx,c)/\P c
 |[],_,ρ,h=>⟨ρ,rfl,h⟩
 |d::ds,hs,ρ,h=>by
  obtain⟨g,r,j,q,p⟩:=hs d aai ρ h;obtain⟨c,o,m⟩:=Fx ds (λx k=>hs x (aah _ k)) j p;exact⟨c,eV r q o,m⟩
theorem Go.ku{i n:Nat}{bb:af}{P:a_->Prop}(q:n<=1000)(m:P ρ)(hs:∀w:Nat,w<n->∀ρ,P ρ->∃g,cH (.nm i) (.int w) ρ=ok g/\Go Φ bb g P)(k:∀c,P c->Go Φ ss c Q):Go Φ (.fr (.nm i) (.ku (.int n)) bb::ss) ρ Q:=by
 obtain⟨c,p,o⟩:=Fx (Φ:=Φ) (t:=.nm i) (bb:=bb) (P:=P) ((List.range n).map λ(k:Nat)=>D.int (k:Int)) (λd j ρ h=>by
  obtain⟨w,hw,rfl⟩:=List.mem_map.mp j;exact hs w (List.mem_range.mp hw) ρ h) ρ m
 exact .cons (iq (BD (n:=(n:Int)) rfl (by left) (by left)) p) (k c o)
end
mutual
theorem Ng(g:Fl->Fl):∀d:D,bh anyF d=false->aB g d=d
 |.tup ds,h=>aaU D.tup (sY g ds h)
 |.lst _ _,h=>by cases h
 |.de _ _ _,h=>by cases h
 |.bz,_=>rfl
 |.bl _,_=>rfl
 |.int _,_=>rfl
 |.str _,_=>rfl
theorem sY(g:Fl->Fl):∀ds:aa,aV anyF ds=false->au g ds=ds
 |[],_=>rfl
 |d::ds,h=>by
  obtain⟨b,a⟩:=Bool.or_eq_false_iff.mp (show(bh anyF d||aV anyF ds)=false from h);rw[au,Ng g d b,sY g ds a]
end
def tM{a:aa}(h:au aD ds=a)(b:aV anyF a=false):ds=a:=by
 rw[<- h,p8]at b;rw[<- h,sY aD ds b]
end DI
end
section
set_option maxHeartbeats 1000000
namespace DI
open PySem (Str)
def Gu(d:D):aB ba (aB aD d)=aB aD d:=by
 rw[gk];congr 1;funext f;cases f<;>rfl
def pJ(n:Int)(rows:aa):Bool:=rows.all (jv n)&&(fX ((rows.map eC).map (·.2))&&decide ((bU (rows.map eC)).sum=1))
def b5(d:D):Bool:=match d with
 |.tup [m,.lst _ rows]=>(match m with
  |.int n=>decide (1<=n)&&(decide (n<=12)&&pJ n rows)
  |_=>false)
 |_=>false
def KZ(d:D):Prop:=∀m f rows,d=.tup [m,.lst f rows]->f=.fz/\(∀r∈rows,J5 r)/\∀a,rows=bO a->∃k,xi k (bU a)
def p_(m:aj):Prop:=∀d,KZ d->aB aD d=d->m [d]=ok (.bl (b5 d))
theorem mP(Φ:aU)(l:yZ (Φ 12)){n:Int}(c b:aX):∀(rows:aa) (c3:aX),(∀d∈rows,J5 d/\aB aD d=d)->∃a,eW (λd g=>cH (.nm 3) d g) (λg=>bN Φ lE g) rows [c,some (.int n),b,c3]=ok (if rows.all (jv n)then .nx else .rt (.bl false),a)/\(rows.all (jv n)=true->∃q,a=[c,some (.int n),b,q])
 |[],c3,_=>⟨_,rfl,λ_=>⟨_,rfl⟩⟩
 |d::rows,c3,h=>by
  obtain⟨p,j⟩:=h d aai;have e:=l d n p;have k:aB ba d=d:=by rw[<- j,Gu]
  cases f:jv n d with
  |true =>
   obtain⟨a,m,i⟩:=mP Φ l c b rows (some d) λs o=>h s (aah _ o);refine⟨a,?_,λz=>i (by rw[zaw,f,zbn]at z;exact z)⟩;rw[zaw,f,zbn,<- m];rw[f]at e;exact eV (ρ1:=[c,some (.int n),b,some d]) (by simp) (ρ2:=[c,some (.int n),b,some d]) (by simp[lE,k,j,e]) rfl
  |false =>
   refine⟨[c,some (.int n),b,some d],?_,λz=>by rw[zaw,f]at z;cases z⟩;rw[zaw,f,zaQ];rw[f]at e;exact yB (ρ1:=[c,some (.int n),b,some d]) (by simp) (by simp[lE,k,j,e])
variable {ds rows:aa}
def vY(h:au aD ds=ds):∀d∈ds,aB aD d=d:=by
 induction ds with
 |nil=>intro d hd;cases hd
 |cons x e a =>
  rw[au]at h;obtain⟨c,b⟩:=aas h;intro d hd;rcases List.mem_cons.mp hd with rfl|hd
  ·exact c
  ·exact a b d hd
mutual
theorem zX:∀d:D,bh bR (aB aD d)=false
 |.tup ds=>by rw[aB,bh];exact lQ ds
 |.lst f ds=>by rw[aB,bh,lQ ds];cases f<;>rfl
 |.de f a ds=>by rw[aB,bh,lQ ds];cases f<;>rfl
 |.bz=>rfl
 |.bl _=>rfl
 |.int _=>rfl
 |.str _=>rfl
theorem lQ:∀ds:aa,aV bR (au aD ds)=false
 |[]=>rfl
 |d::ds=>by rw[au,aV,zX d,lQ ds];rfl
end
def vJ{d:D}(h:aB aD d=d):bh bR d=false:=by rw[<- h];exact zX d
def Po{d:D}(h:aB aD d=d):aB ba d=d:=by rw[<- h,Gu]
def DA(Φ:aU)(S:ff (Φ 0))(W:yZ (Φ 12))(G:Gx (Φ 15))(F:AD (Φ 44)):p_ (mk Φ 1 4 cp):=by
 intro d Q J;have c:∀ds,cM .tuple (.tup ds)=true:=λ_=>rfl;have I:∀f ds,cM .list (.lst f ds)=true:=λ_ _=>rfl;cases d with
 |tup ds =>
  by_cases hl:ds.length=2
  ·obtain⟨m,r,rfl⟩:=ze hl;have k:=vY (D.tup.inj J);have u:=k m (by simp);have a:=k r (by simp);have V:=Po u;have e:=Po a;have e0:=S m;cases hw:d5 m with
   |false =>
    rw[hw]at e0;have:b5 (.tup [m,r])=false:=by
     unfold b5;cases r<;>first|rfl|skip
     cases m<;>first|rfl|exact Bool.noConfusion (show true=false from hw)
    rw[this];simp[mk_eq,cp,c,V,e,u,a,vJ u,vJ a,e0]
   |true =>
    obtain⟨n,rfl⟩:=kG hw;rw[hw]at e0;by_cases j:n<1
    ·have:b5 (.tup [.int n,r])=false:=by
      unfold b5;cases r<;>first|rfl|skip
      show(decide (1<=n)&&_)=false;rw[zau (by left)];rfl
     rw[this];simp[mk_eq,cp,c,e,a,vJ a,e0,j]
    ·by_cases s:12<n
     ·have:b5 (.tup [.int n,r])=false:=by
       unfold b5;cases r<;>first|rfl|skip
       show(_&&(decide (n<=12)&&_))=false;rw[zau (by left:¬ n<=12),zaQ,zao]
      rw[this];simp[mk_eq,cp,c,e,a,vJ a,e0,j,s]
     ·by_cases E:∃f rows,r=.lst f rows
      ·obtain⟨f,rows,rfl⟩:=E;obtain⟨rfl,B,w⟩:=Q _ _ _ rfl;have l:=(D.lst.inj a).2;have x:=vY l;obtain⟨L,T,H⟩:=mP Φ W (n:=n) (some (.tup [.int n,.lst .fz rows])) (some (.lst .fz rows)) rows none λd K=>⟨B d K,x d K⟩
       have A:eP Φ (.seq (.v 2)) [some (.tup [.int n,.lst .fz rows]),some (.int n),some (.lst .fz rows),none]=ok (rows,[some (.tup [.int n,.lst .fz rows]),some (.int n),some (.lst .fz rows),none]):=by
        have U:bp Φ (.v 2) [some (.tup [.int n,.lst .fz rows]),some (.int n),some (.lst .fz rows),none]=ok (.lst .fz rows):=by
         show ok (aB ba (.lst .fz rows))=_;rw[e]
        have O:(bR Fl.fz||aV bR rows)=false:=vJ a;rw[IZ U,l,O];rfl
       have g:=iq (Φ:=Φ) (t:=.nm 3) (b:=lE) A T;have R:b5 (.tup [.int n,.lst .fz rows])=pJ n rows:=by
        show(decide (1<=n)&&(decide (n<=12)&&pJ n rows))=_;rw[zaB (by left),zaB (by left)];rfl
       rw[R];have X:aB ba (.tup [.int n,.lst .fz rows])=.tup [.int n,.lst .fz rows]:=Po J;cases i:rows.all (jv n)with
       |false =>
        have:pJ n rows=false:=by unfold pJ;rw[i];rfl
        rw[this];rw[i]at g;simp at g;simp[mk_eq,cp,c,I,e,vJ a,e0,j,s,g]
       |true =>
        obtain⟨Y,rfl⟩:=H i;obtain⟨n',rfl⟩:∃n':Nat,n=(n':Int):=⟨n.toNat,by left⟩
        have o:=HQ i;have p:=F (rows.map eC);obtain⟨P,z⟩:=w _ o;have q:=G (rows.map eC) P z;rw[<- o]at p q;have:pJ n' rows=(fX ((rows.map eC).map (·.2))&&decide ((bU (rows.map eC)).sum=1)):=by unfold pJ;rw[i];rfl
        rw[this];rw[i]at g;simp only[if_true]at g;have M:aB aD (.lst .fz rows)=.lst .fz rows:=a;generalize fX ((rows.map eC).map (·.2))=b1 at *;generalize decide ((bU (rows.map eC)).sum=1)=b2 at *;cases b1<;>simp[mk_eq,cp,c,I,e,a,vJ a,e0,j,s,g,p,q]
      ·have C:cM .list r=false:=by
        cases r<;>first|rfl|exact absurd ⟨_,_,rfl⟩ E
       have:b5 (.tup [.int n,r])=false:=by
        unfold b5;cases r<;>first|rfl|exact absurd ⟨_,_,rfl⟩ E
       rw[this];simp[mk_eq,cp,c,e,a,vJ a,e0,j,s,C]
  ·have N:¬ (ds.length:Int)=2:=by left
   have:b5 (.tup ds)=false:=by
    unfold b5
    match ds,hl with
    |[],_=>rfl
    |[_],_=>rfl
    |[_,_],h=>exact absurd rfl h
    |_::y::_::_,_=>cases y<;>rfl
   rw[this];simp[mk_eq,cp,c,N,aE]
 |_=>simp[mk_eq,cp,cM,b5]
def yL{m r:D}(h:∀n,m≠.int n):b5 (.tup [m,r])=false:=by
 unfold b5;cases r<;>first|rfl|skip
 cases m<;>first|rfl|exact absurd rfl (h _)
def yK{m r:D}(h:∀f ds,r≠.lst f ds):b5 (.tup [m,r])=false:=by
 unfold b5;cases r<;>first|rfl|exact absurd rfl (h _ _)
def gm(n:Int)(f:Fl)(rows:aa):b5 (.tup [.int n,.lst f rows])=(decide (1<=n)&&(decide (n<=12)&&(rows.all (jv n)&&(fX ((rows.map eC).map (·.2))&&decide ((bU (rows.map eC)).sum=1))))):=rfl
variable {f:Fl}
def kW{n:Int}{d:D}(a:d∈rows)(h:jv n d=false):b5 (.tup [.int n,.lst f rows])=false:=by
 have:rows.all (jv n)=false:=by rw[zbq];exact⟨d,a,by rw[h];decide⟩
 rw[gm,this,zaQ,zao,zao]
def wm{n:Int}(h:fX ((rows.map eC).map (·.2))=false):b5 (.tup [.int n,.lst f rows])=false:=by
 rw[gm,h,zaQ,zao,zao,zao]
def pI{n:Int}(h:¬ (bU (rows.map eC)).sum=1):b5 (.tup [.int n,.lst f rows])=false:=by
 rw[gm,zau h,zao,zao,zao,zao]
theorem tq:∀l:ae,HT.lexLt l l=false
 |[]=>rfl
 |x::l=>by
  have a:=tq l;unfold HT.lexLt;simp[a]
theorem vk(a:ae)(e:aK):∀d:aK,fX (d++a::a::e)=false
 |[]=>by show(HT.lexLt a a&&_)=false;rw[tq];rfl
 |[b]=>by show(HT.lexLt b a&&(HT.lexLt a a&&_))=false;rw[tq];simp
 |b::c::d=>by
  show(HT.lexLt b c&&fX (c::d++a::a::e))=false;rw[vk a e (c::d),zao]
def Hg(r:Row):eC (rD r)=r:=by
 show(Rat.divInt r.1.num r.1.den,numsOf (ah r.2))=_;rw[eD,fE]
def l9(rs:aq):(bO rs).map eC=rs:=by
 unfold bO;rw[zam]
 conv=>rhs;rw[<- List.map_id rs]
 exact aax λr _=>Hg r
theorem zo:∀{l:aK},Pt l->fX l=true
 |[],_=>rfl
 |[_],_=>rfl
 |a::b::l,h=>by
  obtain⟨d,c⟩:=List.pairwise_cons.mp h;show(HT.lexLt a b&&fX (b::l))=true;rw[d b (by simp),zo c];rfl
def KY{k n:Nat}{rs:aq}(I:Dr k n rs):KZ (aR n rs)/\b5 (aR n rs)=true:=by
 have j:=I.n1;have i:=I.n2;refine⟨λm f rows e=>?_,?_⟩
 ·cases e;refine⟨rfl,λd b=>?_,λc e=>⟨k,?_⟩⟩
  ·obtain⟨r,a,rfl⟩:=List.mem_map.mp b;have:=(I.lot r a).len;show(ah r.2).length<64;simp;left
  ·have:rs=c:=by rw[<- l9 rs,e,l9]
   rw[<- this];exact I.A6
 ·have e:b5 (aR n rs)=_:=gm n .fz (bO rs);rw[e,l9,zaB (by left:1<=(n:Int)),zaB (by left:(n:Int)<=12),zo I.rise,zaB (show(bU rs).sum=1 from I.one),List.all_eq_true.mpr]
  ·rfl
  ·intro d b;obtain⟨r,a,rfl⟩:=List.mem_map.mp b;show(bP (.tup (ah r.2)) n&&(bS (qD r.1)&&DV (qD r.1)))=true;have h:=(aF (I.lot r a).tj).1;have g:DV (qD r.1)=true:=aaT (Bl (I.pos r a));rw[h,z9,g];rfl
structure LR(d:D):Prop where
 fz:Fz d
 ok:KZ d
 bad:b5 d=false
def z16(Φ:aU)(b:p_ (Φ 45)):∀d,LR d->mk Φ 1 1 dK [d]=ok (.bl false):=by
 intro d B;have a:=b d B.ok B.fz.fz;rw[B.bad]at a;simp[mk_eq,dK,B.fz.al,B.fz.fz,a]
def O3{m:aj}(h:p_ m):∀k n a,Dr k n a->m [aR n a]=ok (.bl true):=λk n a I=>by
 have e:=h (aR n a) (KY I).1 (by simp[aR]);rw[(KY I).2]at e;exact e
noncomputable def gj(ws xs:aC):aC:=(ws.zip xs).map λp=>p.1*p.2
noncomputable def kv(ts:ae)(h:Int):Int:=ts.getD h.toNat 0
def sumZ(a:ae)(ts:ae):Int:=(a.map (kv ts)).sum
def Kc{ts:ae}{h:Int}(a:0<=h)(b:h<ts.length):uF (ah ts) h=ok (.int (kv ts h)):=by
 have hl:h.toNat<ts.length:=by left
 have:=at_of (ds:=ah ts) (d:=.int (kv ts h)) a (by
  rw[rb,List.getElem?_eq_getElem hl];show some (D.int ts[h.toNat])=_;unfold kv;simp[hl])
 simpa using this
noncomputable def OT:CE:=.comp 2 (.tp [0,1]) [] (.cI 1000) [(.v 1),(.v 2)] [] (.call 6 [(.v 0),(.v 1)])
noncomputable def OV:CE:=.comp 1 (.nm 0) [2] .seq [(.v 1)] [] (.ix (.v 1) (.v 0))
def OW:CE:=.comp 2 (.tp [0,1]) [4] .seq [(.ix (.v 0) (.int 1))] [] (.bf .gu [OV])
def fq:af:=[.asg (.nm 3) (.call 41 [OT]),.asg (.nm 4) (.ix (.v 3) (.int 1)),.ret (.tup [(.ix (.v 3) (.int 0)),OW])]
structure Gs(j n:Nat)(ws xs:aC):Prop where
 l1:ws.length=n
 l2:xs.length=n
 s1:∀q∈ws,Sm j q
 s2:∀q∈xs,Sm j q
 jj:j<=100
variable {ws xs:aC}
def Gs.A6{j n:Nat}(G:Gs j n ws xs)(c:n<=12):xi (j+j) (gj ws xs):=by
 have hl:(gj ws xs).length=n:=by unfold gj;rw[zaa,zaK,G.l1,G.l2,zbc]
 have d:=G.jj;refine⟨λq a=>?_,?_,by left⟩
 ·obtain⟨p,b,rfl⟩:=List.mem_map.mp a;have m:=aaY b;exact(G.s1 _ m.1).mul (G.s2 _ m.2)
 ·rw[hl];have:(j+j)*n<=200*12:=aco (by left) c;left
theorem Gs.at{j n:Nat}{ws xs:aC}(G:Gs j n ws xs){h:Int}(b:0<=h)(a:h<n):kj (gj ws xs) h=kj ws h*kj xs h:=by
 obtain⟨d,_⟩:=cO (qs:=ws) b (by rw[G.l1];exact a);obtain⟨c,_⟩:=cO (qs:=xs) b (by rw[G.l2];exact a);unfold kj at *;unfold gj;rw[zap,List.getElem?_map,List.zip,List.getElem?_zipWith,d,c];rfl
def gD(rs:aq)(P:aC):ae:=rs.map λr=>sumZ r.2 (P.map (bw (bA P)))
def hZ(m:aj):Prop:=∀k n a f g ws xs j,Dr k n a->Gs j n ws xs->m [aR n a,.lst f (aQ ws),.lst g (aQ xs)]=ok (.tup [.int (bA (gj ws xs)),.lst .ow (ah (gD a (gj ws xs)))])
def qw(Φ:aU)(E:kl (Φ 6))(F:k8 (Φ 41))(q:Φ 1000=rX):hZ (mk Φ 3 5 fq):=by
 intro k n i f g ws xs j I G;have z:=I.n2;have x:=G.A6 z;have w:∀a b c,bp Φ OT [a,some (.lst f (aQ ws)),some (.lst g (aQ xs)),b,c]=ok (.lst .ow (aQ (gj ws xs))):=λa b c=>by
  unfold OT;rw[bW (xs:=[.lst (ba f) (aQ ws),.lst (ba g) (aQ xs)]) (by simp) (Cy q ..) (ds:=(ws.zip xs).map λp=>qD (p.1*p.2)) (bD λp y=>?_) (by simp;exact bE (by have:=G.l1;left))]
  ·simp[gj,aQ,aE]
  ·have m:=aaY y;have H:=G.jj;have e:=E p.1 p.2 ((G.s1 _ m.1).mono (by left)) ((G.s2 _ m.2).mono (by left));exact⟨[some (qD p.1),some (qD p.2)],by simp[bx,Vk],by simp,by simp[e]⟩
 have v:=λf=>F f (gj ws xs) (j+j) x;have C:(gj ws xs).length=n:=by unfold gj;rw[zaa,zaK,G.l1,G.l2,zbc]
 unfold gD;generalize J:bA (gj ws xs)=b at *;generalize B:(gj ws xs).map (bw b)=d at *;have l:d.length=n:=by rw[<- B,zaa,C]
 have u:∀(r:Row),r∈i->bp Φ OV [some (qD r.1),some (.tup (ah r.2)),some (.lst .fz (ah d))]=ok (.lst .ow (ah (r.2.map (kv d)))):=λr o=>by
  have hl:=I.lot r o;unfold OV;rw[bW (xs:=[.tup (ah r.2)]) (items:=r.2.map D.int) (ds:=r.2.map λh=>.int (kv d h)) (by simp) (by rw[zL,dv];rfl) (bD λh A=>?_) (by simp;exact bE (by have:=hl.len;left))]
  ·simp[ah,aE]
  ·obtain⟨a,b⟩:=hl.2 h A;have e:=Kc (ts:=d) a (by rw[l];exact b);exact⟨[some (.int h),some (.lst .fz (ah d))],by simp[bx],by simp,by simp[e]⟩
 have t:∀(r:Row),qk .gu [.lst .ow (ah (r.2.map (kv d)))]=ok (.int (sumZ r.2 d)):=λr=>by
  show(match intsOf (ah (r.2.map (kv d)))with|some ns=>ok (D.int ns.sum)|none=>none)=_;unfold ah;rw[bI];rfl
 have s:∀a b c,bp Φ OW [some (aR n i),a,b,c,some (.lst .fz (ah d))]=ok (.lst .ow (ah (i.map λr=>sumZ r.2 d))):=λa b c=>by
  unfold OW;rw[bW (xs:=[.lst .fz (bO i)]) (items:=bO i) (ds:=i.map λr=>.int (sumZ r.2 d)) (by simp[aR]) (by rw[dq];simp) (bD λr o=>?_) (by simp;exact bE (by have:=I.len;left))]
  ·simp[ah,aE]
  ·exact⟨[some (qD r.1),some (.tup (ah r.2)),some (.lst .fz (ah d))],by simp[bx,rD],by simp,by simp[u r o,t]⟩
 simp[mk_eq,fq,w,v,s,gE]
noncomputable def B4:CE:=.comp 2 (.tp [0,1]) [] (.cI 1000) [(.ix (.v 2) (.int 1)),(.ix (.v 1) (.int 1))] [] (.bin .mul (.ix (.v 0) (.int 0)) (.v 1))
def kc:af:=[.asg (.nm 2) (.call 14 [(.v 0)]),.asg (.nm 3) (.bf .gu [B4]),.ret (.call 2 [(.v 3),(.bin .mul (.ix (.v 2) (.int 0)) (.ix (.v 1) (.int 0)))])]
def ir(b:Nat)(rs:aq)(a:ae):Int:=((rs.zip a).map λp=>bw b p.1.1*p.2).sum
def rS(m:aj):Prop:=∀{P:ae->Prop} k n rs gs (a:Nat),Dp P k n rs->gs.length=rs.length->0<a->a<2 ^ 8000->m [.lst .fz (bO rs),.tup [.int a,.lst .fz (ah gs)]]=ok (qD (Rat.divInt (ir (bA (bU rs)) rs gs) ((bA (bU rs):Int)*a)))
def Bc(Φ:aU)(z:dj (Φ 2))(C:gn (Φ 14))(i:Φ 1000=rX):rS (mk Φ 2 4 kc):=by
 intro P k n c d g I hl F A;have B:=C c k I.A6;obtain⟨b0,b1,_⟩:=I.bot;have u:=λr v=>I.top (r:=r) v;generalize bA (bU c)=b at *;have t:dR Φ (.cI 1000) [.lst .al (jz b c),.lst .fz (ah d)]=ok ((c.zip d).map λp=>.tup [.tup [.int (bw b p.1.1),.tup (ah p.1.2)],.int p.2]):=by
  show bd (Φ 1000 _) kI=_;rw[i];show ok (au aD (List.zipWith (λx y=>D.tup [x,y]) (jz b c) (ah d)))=_;have:=eh aD (jz b c) (ah d);rw[oS,dv]at this;refine aaU ok (Eq.trans this ?_);unfold jz ah;rw[zbe,List.zip,zbf];rfl
 have s:∀a h,bp Φ B4 [a,some (.tup [.int g,.lst .fz (ah d)]),some (.tup [.int b,.lst .ow (jz b c)]),h]=ok (.lst .ow (ah ((c.zip d).map λp=>bw b p.1.1*p.2))):=λa h=>by
  unfold B4;rw[bW (xs:=[.lst .al (jz b c),.lst .fz (ah d)]) (by simp) t (ds:=(c.zip d).map λp=>.int (bw b p.1.1*p.2)) (bD λp w=>?_) (by simp;exact bE (by have:=I.len;left))]
  ·simp[ah,aE]
  ·have m:=aaY w;have e:=kb (j:=p.2) (u p.1 m.1);exact⟨[some (.tup [.int (bw b p.1.1),.tup (ah p.1.2)]),some (.int p.2)],by simp[bx],by simp,by simp[e]⟩
 have q:qk .gu [.lst .ow (ah ((c.zip d).map λp=>bw b p.1.1*p.2))]=ok (.int (ir b c d)):=by
  show(match intsOf (ah ((c.zip d).map λp=>bw b p.1.1*p.2))with|some ns=>ok (D.int ns.sum)|none=>none)=_;unfold ah;rw[bI];rfl
 have E:((b:Int)).natAbs<2 ^ 64:=by rw[zaz];exact aaf b1 (by decide)
 have o:=kb (j:=(g:Int)) E;have l:=z.1 (ir b c d) ((b:Int)*g) (by
  have:(0:Int)<(b:Int)*g:=Int.mul_pos (by left) (by left);left) (by
  rw[zas,zaz,zaz];exact aaf (bB b1 A) (aar (by decide) (by decide)))
 simp[mk_eq,kc,B,s,q,o,l]
def q_(rs:aq)(ws xs:aC):Rat:=(rs.map λr=>r.1*mZ r.2 λh=>kj ws h*kj xs h).sum
def Hh{b:Nat}{P:aC}(a:∀q∈P,q.den∣b){h:Int}(d:0<=h)(c:h<P.length):((kv (P.map (bw b)) h:Int):Rat)=kj P h*(b:Rat):=by
 obtain⟨g,m⟩:=cO (qs:=P) d c;have hl:h.toNat<P.length:=by left
 have e:kv (P.map (bw b)) h=bw b (kj P h):=by
  unfold kv;rw[zap,List.getElem?_map,g];rfl
 rw[e,ou (a _ m)]
theorem uW{b:Nat}{P:aC}(c:∀q∈P,q.den∣b):∀(a:ae),(∀h∈a,0<=h/\h<(P.length:Int))->((sumZ a (P.map (bw b)):Int):Rat)=(mZ a λh=>kj P h)*(b:Rat)
 |[],_=>by simp[sumZ,mZ,Rat.zero_mul]
 |h::a,hh=>by
  have g:=uW c a λx i=>hh x (aah _ i);have d:=hh h aai;have e:sumZ (h::a) (P.map (bw b))=kv (P.map (bw b)) h+sumZ a (P.map (bw b)):=rfl;rw[e,zbj,Hh c d.1 d.2,g,AZ];grind
theorem zf{b c:Nat}{P:aC}(d:∀q∈P,q.den∣c):∀(rs:aq),(∀r∈rs,r.1.den∣b)->(∀r∈rs,∀h∈r.2,0<=h/\h<(P.length:Int)) ->
  ((ir b rs (rs.map λr=>sumZ r.2 (P.map (bw c))):Int):Rat)=(rs.map λr=>r.1*mZ r.2 λh=>kj P h).sum*((b:Rat)*(c:Rat))
 |[],_,_=>by simp[ir,Rat.zero_mul]
 |r::rs,hb,hl=>by
  have g:=zf d rs (λs a=>hb s (aah _ a)) λs a=>hl s (aah _ a);have e:ir b (r::rs) ((r::rs).map λr=>sumZ r.2 (P.map (bw c)))=bw b r.1*sumZ r.2 (P.map (bw c))+ir b rs (rs.map λr=>sumZ r.2 (P.map (bw c))):=rfl;rw[e,zbj,zbz,ou (hb r zaM),uW d r.2 (hl r zaM),g,zag,zaq];grind
def ja(m:aj):Prop:=∀k n a f g ws xs j,Dr k n a->Gs j n ws xs->m [aR n a,.lst f (aQ ws),.lst g (aQ xs)]=ok (qD (q_ a ws xs))
noncomputable def eJ:af:=[.ex (.call 17 [(.v 0)]),.ex (.call 46 [(.v 1),(.ix (.v 0) (.int 0))]),.ex (.call 47 [(.v 2),(.ix (.v 0) (.int 0))]),.ret (.call 49 [(.ix (.v 0) (.int 1)),(.call 48 [(.v 0),(.v 1),(.v 2)])])]
def sx(Φ:aU)(F:b7 (Φ 17))(J:bF 3 bG (Φ 46))(H:bF 4 bG (Φ 47))(U:hZ (Φ 48))(o:rS (Φ 49)):ja (mk Φ 3 3 eJ):=by
 intro k n a f g ws xs j I G;have O:=I.n2;have N:=G.l1;have M:=G.l2;have S:=F k n a I;have v:=λf=>J (.lst f (aQ ws)) n (by show(aQ ws).length<=1000000;simp;left);have u:=λf=>H (.lst f (aQ xs)) n (by show(aQ xs).length<=1000000;simp;left);simp only[e_,N,decide_true,if_true]at v;simp only[e_,M,decide_true,if_true]at u;have R:=λf g=>U k n a f g ws xs j I G;have p:=G.A6 O;obtain⟨w,c1,T⟩:=p.lcm;have m:=p.IP;have s:=o k n a (gD a (gj ws xs)) (bA (gj ws xs)) I (by simp[gD]) w m;have P:(gj ws xs).length=n:=by unfold gj;rw[zaa,zaK,G.l1,G.l2,zbc]
 obtain⟨b0,b1,b2⟩:=I.bot;have l:Rat.divInt (ir (bA (bU a)) a (gD a (gj ws xs))) ((bA (bU a):Int)*(bA (gj ws xs):Int))=q_ a ws xs:=by
  have t:=zf (b:=bA (bU a)) (c:=bA (gj ws xs)) T a (λr d=>b2 _ (aaX d)) λr d h i=>by rw[P];exact(I.lot r d).2 h i
  have Q:(a.map λr=>r.1*mZ r.2 λh=>kj (gj ws xs) h).sum=q_ a ws xs:=by
   unfold q_;congr 1;refine aax λr d=>?_;rw[xI λh i=>G.at ((I.lot r d).2 h i).1 ((I.lot r d).2 h i).2]
  rw[Q]at t;rw[zaC,show ir (bA (bU a)) a (gD a (gj ws xs))=ir (bA (bU a)) a (a.map λr=>sumZ r.2 ((gj ws xs).map (bw (bA (gj ws xs))))) from rfl,t,zbz,zav,zav];have z:∀{x:Nat},0<x->(x:Rat)≠0:=λ{x} V e=>by
   have:((x:Int):Rat)=0:=by rw[zav];exact e
   rw[zaT]at this;left
  have D:=z b0;have A:=z w;generalize ((bA (bU a):Nat):Rat)=B at *;generalize ((bA (gj ws xs):Nat):Rat)=C at *;have y:B*C≠0:=by
   intro h;rcases Rat.mul_eq_zero.mp h with h|h
   ·exact D h
   ·exact A h
  rw[Rat.mul_div_cancel y]
 rw[l]at s;have L:aB aD (aR n a)=aR n a:=by simp[aR]
 have K:aB ba (aR n a)=aR n a:=by simp[aR]
 have q:aR n a=.tup [.int n,.lst .fz (bO a)]:=rfl;have E:nK (aR n a) (.int 0)=ok (.int n):=by rw[q];simp
 have x1:nK (aR n a) (.int 1)=ok (.lst .fz (bO a)):=by rw[q];simp
 simp[mk_eq,eJ,L,K,E,x1,S,v,u,R,s]
def k7(m:aj):Prop:=∀f a j,1<=a.length->a.length<=12->xi j a->m [.lst f (aQ a)]=ok (qD a.sum)
noncomputable def d8:af:=[.ifs (.or [(.not (.ra (.v 0) .list)),(.cmp .lt (.bf .len [(.v 0)]) (.int 1)),(.cmp .gt (.bf .len [(.v 0)]) (.glo "MOST_HOUSES" 12))]) [.rs 4] [],.ex (.call 47 [(.v 0),(.bf .len [(.v 0)])]),.ret (.call 42 [(.v 0)])]
def xO(Φ:aU)(i:jb (Φ 42))(d:bF 4 bG (Φ 47)):k7 (mk Φ 1 1 d8):=by
 intro f a j l k e;have b:=λf=>d (.lst f (aQ a)) a.length (by show(aQ a).length<=1000000;simp;left);simp only[e_,decide_true,if_true]at b;have g:=λf=>i f a j e;have c:∀f ds,cM .list (.lst f ds)=true:=λ_ _=>rfl;have c1:gd .lt (.int (a.length:Int)) (.int 1)=ok (.bl false):=by
  show ok (D.bl (decide ((a.length:Int)<1)))=_;rw[zau (by left)]
 have h:gd .gt (.int (a.length:Int)) (.int 12)=ok (.bl false):=by
  show ok (D.bl (decide ((12:Int)<a.length)))=_;rw[zau (by left)]
 simp[mk_eq,d8,c,c1,h,b,g]
variable {es:aA}{Φ:aU}{ρ:a_}
def CB{p i:Nat}{xs:aa}{d d':D}(e:bL Φ es ρ=ok xs)(c:aV bR xs=false)(b:ρ[i]?=some (some d))(a:Φ p (d::xs)=ok d'):i0 Φ (.mut p i es) ρ=ok (.nx,ρ.set i (some d')):=by
 show bd (bL Φ es ρ) (λxs=>yb Φ p i (o3 es xs ρ))=_;rw[e,dC];unfold o3;rw[c,zab zaj];unfold yb;rw[b];show bd (Φ p (d::xs)) _=_;rw[a];rfl
def Ph(i:Int):dB .band (.int i) (.int 1)=ok (.int (i % 2)):=rfl
theorem ml(c:ae):∀(cs:aK) (ws:ae),cK cs (ah ws) c=(cK cs ws c).map D.int
 |[],_=>by cases ‹ae› <;> rfl
 |_::_,[]=>rfl
 |c'::cs,w::ws=>by
  show(if c'=c then some (D.int w)else cK cs (ah ws) c)=Option.map D.int (if c'=c then some w else cK cs ws c);by_cases e:c'=c
  ·rw[zac e,zac e];rfl
  ·rw[zab e,zab e];exact ml c cs ws
theorem qS(c:ae)(v:Int):∀(cs:aK) (ws:ae),setC cs (ah ws) c (.int v)=ah (setC cs ws c v)
 |[],_=>by cases ‹ae› <;> rfl
 |_::_,[]=>rfl
 |c'::cs,w::ws=>by
  show(if c'=c then D.int v else D.int w)::setC cs (ah ws) c (.int v)=D.int (if c'=c then v else w)::ah (setC cs ws c v);rw[qS c v cs ws];by_cases e:c'=c
  ·rw[zac e,zac e]
  ·rw[zab e,zab e]
def xr(cs:aK)(ws:ae)(c:ae)(v:Int):cj cs (ah ws) c (.int v)=ah (cj cs ws c v):=by
 unfold cj;by_cases e:c∈cs
 ·rw[zac e,zac e];exact qS c v cs ws
 ·rw[zab e,zab e];simp
def cU(cs:aK)(ws:ae)(c:ae):Int:=(cK cs ws c).getD 0
theorem pq{a:Type}{c:ae}:∀{cs:aK} (ws:List a),c∉cs->cK cs ws c=none
 |[],_,_=>by cases ‹List a› <;> rfl
 |_::_,[],_=>rfl
 |c'::cs,w::ws,h=>by
  show(if c'=c then some w else cK cs ws c)=none;rw[zab λe=>h (by rw[e];exact zaM)];exact pq ws λz=>h (aah _ z)
theorem lP{a:Type}{c:ae}:∀{cs:aK} {ws:List a},cs.length=ws.length->c∈cs->∃w,cK cs ws c=some w/\w∈ws
 |[],_,_,h=>nomatch h
 |_::_,[],hl,_=>by simp at hl
 |c'::cs,w::ws,hl,h=>by
  by_cases e:c'=c
  ·exact⟨w,aa5 e,aai⟩
  ·have d:c∈cs:=(List.mem_cons.mp h).resolve_left λz=>e z.symm;obtain⟨b,i,g⟩:=lP (cs:=cs) (ws:=ws) (by simpa using hl) d;exact⟨b,(acr e).trans i,aah _ g⟩
theorem oR:∀{cs:aK} {ws:ae},cs.Nodup->cs.length=ws.length->cs.map (cU cs ws)=ws
 |[],[],_,_=>rfl
 |[],_::_,_,h=>by simp at h
 |_::_,[],_,h=>by simp at h
 |c::cs,w::ws,hn,hl=>by
  have a:=List.nodup_cons.mp hn;have b:=oR (cs:=cs) (ws:=ws) a.2 (by simpa using hl);rw[zag];have g:cU (c::cs) (w::ws) c=w:=by
   show(if c=c then some w else cK cs ws c).getD 0=w;rw[zac rfl];rfl
  have e:cs.map (cU (c::cs) (w::ws))=cs.map (cU cs ws):=aax λx d=>by
   show(if c=x then some w else cK cs ws x).getD 0=_;rw[zab (show ¬ c=x from λz=>a.1 (by rw[z];exact d))];rfl
  rw[g,e,b]
theorem ve{c:ae}{v:Int}:∀{cs:aK} {ws:ae},cs.Nodup->cs.length=ws.length->c∈cs->(setC cs ws c v).sum=ws.sum - cU cs ws c+v/\(setC cs ws c v).length=ws.length
 |[],_,_,_,h=>nomatch h
 |_::_,[],_,h,_=>by simp at h
 |a::cs,w::ws,hn,hl,h=>by
  have i:=List.nodup_cons.mp hn;have j:cs.length=ws.length:=by simpa using hl
  have es:setC (a::cs) (w::ws) c v=(if a=c then v else w)::setC cs ws c v:=rfl;by_cases e:a=c
  ·have p:∀{cs:aK} {ws:ae},cs.length=ws.length->c∉cs->setC cs ws c v=ws:=λ{cs}=>by
    induction cs with
    |nil=>intro ws hl _;cases ws with|nil=>rfl|cons _ _=>simp at hl
    |cons d cs l =>
     intro ws hl k;cases ws with
     |nil=>simp at hl
     |cons w ws =>
      show(if d=c then v else w)::setC cs ws c v=_;rw[zab λz=>k (by rw[z];exact zaM),l (by simpa using hl) λz=>k (zaP _ z)]
   have b:c∉cs:=e▸i.1;rw[es,zac e,p j b];have g:cU (a::cs) (w::ws) c=w:=by
    show(if a=c then some w else cK cs ws c).getD 0=w;rw[zac e];rfl
   rw[g];refine⟨?_,rfl⟩;rw[zaq,zaq];left
  ·have o:c∈cs:=(List.mem_cons.mp h).resolve_left λz=>e z.symm;obtain⟨n,m⟩:=ve (v:=v) i.2 j o;have g:cU (a::cs) (w::ws) c=cU cs ws c:=by
    show(if a=c then some w else cK cs ws c).getD 0=_;rw[zab e];rfl
   rw[es,zab e,g];refine⟨?_,by rw[zae,zae,m]⟩;rw[zaq,zaq,n];left
theorem vf{c:ae}{v:Int}:∀{cs:aK} {ws:ae} {x:Int},x∈setC cs ws c v->x∈ws\/x=v
 |[],_,_,h=>by cases ‹ae› <;> exact nomatch h
 |_::_,[],_,h=>nomatch h
 |c'::cs,w::ws,x,h=>by
  have h:x∈(if c'=c then v else w)::setC cs ws c v:=h;rcases List.mem_cons.mp h with e|h
  ·by_cases q:c'=c
   ·rw[zac q]at e;exact .inr e
   ·rw[zab q]at e;rw[e];exact .inl aai
  ·rcases vf h with h|h
   ·exact .inl (aah _ h)
   ·exact .inr h
structure Tab(P:ae->Prop)(j:Nat)(cs:aK)(ws:ae):Prop where
 nd:cs.Nodup
 ln:cs.length=ws.length
 tR:cs.length<=j
 lot:∀c∈cs,P c
 pos:∀w∈ws,1<=w
 sum:ws.sum<=7*j
 ne:1<=j->cs≠[]
variable {cs:aK}
def Tab.get{n:ae->Prop}{j:Nat}{ws:ae}(T:Tab n j cs ws)(c:ae):0<=cU cs ws c:=by
 by_cases h:c∈cs
 ·obtain⟨w,e,m⟩:=lP T.ln h;unfold cU;rw[e];have:=T.pos w m;show 0<=w;left
 ·unfold cU;rw[pq ws h];exact Int.le_refl _
def Tab.put{n:ae->Prop}{j:Nat}{ws:ae}(T:Tab n j cs ws){c:ae}(m:n c){i:Int}(u:1<=i)(t:i<=7):Tab n (j+1) (dz cs c) (cj cs ws c (cU cs ws c+i)):=by
 have r:=T.get c;have s:=T.tR;have q:=T.sum;by_cases h:c∈cs
 ·obtain⟨k,g⟩:=ve (v:=cU cs ws c+i) T.nd T.ln h;unfold dz cj;rw[zac h,zac h];refine⟨T.nd,by rw[g];exact T.ln,by left,T.lot,λw hw=>?_,by rw[k];left,λ_ z=>by rw[z]at h;cases h⟩;rcases vf hw with hw|rfl
  ·exact T.pos w hw
  ·left
 ·have l:cU cs ws c=0:=by unfold cU;rw[pq ws h];rfl
  unfold dz cj;rw[zab h,zab h,l];refine⟨?_,by rw[zah,zah,T.ln];rfl,by rw[zah,zaX];left,λd hd=>?_,λw hw=>?_,by rw[List.sum_append];simp;left,λ_ z=>by simp at z⟩
  ·refine List.nodup_append.mpr ⟨T.nd,List.nodup_cons.mpr ⟨List.not_mem_nil,ab1⟩,λa p b o e=>?_⟩;rw[List.mem_singleton.mp o]at e;exact h (e▸p)
  ·rcases List.mem_append.mp hd with hd|hd
   ·exact T.lot d hd
   ·rw[List.mem_singleton.mp hd];exact m
  ·rcases List.mem_append.mp hw with hw|hw
   ·exact T.pos w hw
   ·rw[List.mem_singleton.mp hw];left
def mX(cs:aK)(ws:ae):aq:=(bY cs).map λc=>(Rat.divInt (cU cs ws c) ws.sum,c)
def Tab.zE{n:ae->Prop}{j:Nat}{ws:ae}(T:Tab n j cs ws):∀w∈ws,w<=ws.sum:=λw hw=>by
 have:∀l:ae,(∀x∈l,1<=x)->0<=l.sum/\∀x∈l,x<=l.sum:=λl=>by
  induction l with
  |nil=>intro _;exact⟨Int.le_refl _,λ_ h=>nomatch h⟩
  |cons a l c =>
   intro h;obtain⟨e,d⟩:=c λx b=>h x (aah _ b);have g:=h a aai;rw[zaq];refine⟨by left,λx b=>?_⟩;rcases List.mem_cons.mp b with rfl|b
   ·left
   ·have:=d x b;left
 exact(this ws T.pos).2 w hw
theorem zg(W:Int)(b:W≠0):∀a:ae,(a.map λx=>Rat.divInt x W).sum=Rat.divInt a.sum W
 |[]=>by simp
 |x::a=>by
  rw[zag,zaq,zg W b a,zaq,zaC,zaC,zaC,zbj];grind
def D2{a b:aC}(h:a.Perm b):a.sum=b.sum:=by
 induction h with
 |nil=>rfl
 |cons x _ c=>rw[zaq,zaq,c]
 |swap x y l=>rw[zaq,zaq,zaq,zaq];grind
 |trans _ _ e d=>rw[e,d]
def Tab.dr{P:ae->Prop}{n j:Nat}{ws:ae}(T:Tab P j cs ws)(k:1<=j)(t:j<=8)(i:1<=n)(h:n<=12):Dp P 6 n (mX cs ws):=by
 have g:(bY cs).Perm cs:=abr _ _;have hl:(mX cs ws).length=cs.length:=by unfold mX;rw[zaa];exact g.length_eq
 have q:=T.tR;have p:=T.sum;have b:∀c∈bY cs,1<=cU cs ws c/\cU cs ws c<=ws.sum:=λc a=>by
  obtain⟨w,e,m⟩:=lP T.ln (g.mem_iff.mp a);unfold cU;rw[e];exact⟨T.pos w m,T.zE w m⟩
 have s:1<=ws.sum:=by
  obtain⟨c,a⟩:=List.exists_mem_of_ne_nil cs (T.ne k);have:=b c (g.mem_iff.mpr a);left
 refine⟨i,h,by rw[hl];left,.inl (by rw[hl];left),by rw[hl];left,λr d=>?_,λr d=>?_,λr d=>?_,?_,?_⟩
 ·obtain⟨c,a,rfl⟩:=List.mem_map.mp d;exact T.lot c (g.mem_iff.mp a)
 ·obtain⟨c,a,rfl⟩:=List.mem_map.mp d;exact pL (by have:=b c a;left) (by left)
 ·obtain⟨c,a,rfl⟩:=List.mem_map.mp d;have:=b c a;exact Ky (by left) (by show _<64;left) (by show _<64;left)
 ·have e:(mX cs ws).map (·.1)=(bY cs).map λc=>Rat.divInt (cU cs ws c) ws.sum:=by
   unfold mX;rw[zam];rfl
  rw[e];have o:((bY cs).map λc=>Rat.divInt (cU cs ws c) ws.sum).sum=(cs.map λc=>Rat.divInt (cU cs ws c) ws.sum).sum:=D2 (g.map _);have l:(cs.map λc=>Rat.divInt (cU cs ws c) ws.sum)=(cs.map (cU cs ws)).map λx=>Rat.divInt x ws.sum:=by rw[zam];rfl
  rw[o,l,oR T.nd T.ln,zg _ (by left),zaC];have z:((ws.sum:Int):Rat)≠0:=λz=>by rw[zaT]at z;left
  grind
 ·have e:(mX cs ws).map (·.2)=bY cs:=by
   unfold mX;rw[zam];exact(aax λ_ _=>rfl).trans (List.map_id _)
  rw[e];exact oz T.nd
def Xk(n:Nat)(t:Nat->Bool):AI n (((List.range n).filter t).map λ(k:Nat)=>(k:Int)):=by
 refine⟨?_,λh b=>?_⟩
 ·rw[List.pairwise_map];refine(List.Pairwise.filter _ List.pairwise_lt_range).imp λz=>?_;left
 ·obtain⟨k,a,rfl⟩:=List.mem_map.mp b;have:=List.mem_range.mp (List.mem_filter.mp a).1;left
noncomputable def yI:CE:=.comp 1 (.nm 0) [7] .ku [(.v 4)] [(.cmp .eq (.bin .band (.bin .shr (.v 1) (.v 0)) (.int 1)) (.int 1))] (.v 0)
noncomputable def yV:CS:=.mut 1033 5 [(.bin .add (.bin .add (.cI 1031 [(.v 5),(.v 8),(.int 0)]) (.int 1)) (.bin .mod (.bin .fdiv (.v 7) (.int 4096)) (.int 7))),(.v 8)]
def Hn:af:=[.asg (.nm 7) (.call 200 [(.v 0),(.bin .add (.bin .add (.v 1) (.int 1)) (.v 6))]),.asg (.nm 8) (.bf .tuple1 [yI]),yV]
noncomputable def OX:CE:=.comp 1 (.nm 0) [5] (.cI 1100) [(.v 5)] [] (.cI 1032 [(.v 1),(.v 0)])
noncomputable def OY:CE:=.comp 1 (.nm 0) [9,5] .seq [(.cI 1035 [(.v 5)])] [] (.tup [(.call 201 [(.cI 1032 [(.v 2),(.v 0)]),(.v 1)]),(.v 0)])
def kh:af:=[.asg (.nm 3) (.call 200 [(.v 0),(.v 1)]),.asg (.nm 4) (.bin .add (.int 1) (.bin .mod (.v 3) (.v 2))),.asg (.nm 3) (.bin .fdiv (.v 3) (.v 2)),.asg (.nm 5) (.cI 1030 []),.fr (.nm 6) (.ku (.bin .add (.int 1) (.bin .mod (.v 3) (.int 6)))) Hn,.asg (.nm 9) (.bf .gu [OX]),.ret (.tup [(.v 4),OY])]
structure GH(Φ:aU):Prop where
 T2:Φ 1030=FT
 T1:Φ 1031=wt
 TZ:Φ 1032=FX
 TY:Φ 1033=wq
 TX:Φ 1035=pH
 TR:Φ 1100=pK
def JS(Φ:aU){n:Nat}(i:n<=12)(N:Int)(a b c d e f:aX)(r:a_):∃g,AI n g/\bp Φ yI (a::b::c::d::some (.int n)::e::f::some (.int N)::r)=ok (.lst .ow (ah g)):=by
 refine⟨_,Xk n λ(k:Nat)=>decide (N / 2 ^ k % 2=1),?_⟩;unfold yI;rw[bW (xs:=[.int n]) (ds:=((List.range n).filter λ(k:Nat)=>decide (N / 2 ^ k % 2=1)).map λ(k:Nat)=>D.int (k:Int)) (by simp) (lL Φ (by left) (by left)) ?_ ?_]
 ·simp[aE,ah]
 ·rw[zan];refine gU λk j=>⟨[some (.int k),some (.int N)],by simp[bx],?_,λ_=>by simp⟩
  have h:dB .shr (.int N) (.int k)=ok (.int (N / 2 ^ k)):=by rw[UK (by left)];simp
  simp[h,Ph]
 ·have:=List.length_filter_le (λ(k:Nat)=>decide (N / 2 ^ k % 2=1)) (List.range n);simp at this ⊢;exact bE (by left)
def O7(P:GH Φ)(f:Fl)(cs:aK)(ws:ae)(c:ae):Φ 1031 [.de f cs (ah ws),.tup (ah c),.int 0]=ok (.int (cU cs ws c)):=by
 rw[P.T1];show(match intsOf (ah c)with|some c=>if aV anyF (ah ws)=false/\bh anyF (.int 0)=false then ok ((cK cs (ah ws) c).getD (.int 0))else none|none=>none)=_;unfold ah;rw[bI];show(if aV anyF (ah ws)=false/\bh anyF (.int 0)=false then ok ((cK cs (ah ws) c).getD (.int 0))else none)=_;rw[zac ⟨vX _ _,rfl⟩,ml];unfold cU;cases cK cs ws c<;>rfl
def O4(P:GH Φ)(hl:cs.length<1000)(ws:ae)(c:ae)(v:Int):Φ 1033 [.de .ow cs (ah ws),.int v,.tup (ah c)]=ok (.de .ow (dz cs c) (ah (cj cs ws c v))):=by
 rw[P.TY];show(match intsOf (ah c)with|some c=>if cQ .ow=true/\bh anyF (.int v)=false/\cs.length<eB then ok (D.de .ow (dz cs c) (cj cs (ah ws) c (.int v)))else none|none=>none)=_;unfold ah;rw[bI];show(if cQ .ow=true/\bh anyF (.int v)=false/\cs.length<eB then ok (D.de .ow (dz cs c) (cj cs (ah ws) c (.int v)))else none)=_;rw[zac ⟨rfl,rfl,by show _<1000000;left⟩,xr];rfl
def Lw(P:GH Φ)(f:Fl){ws:ae}(hl:cs.length=ws.length){c:ae}(h:c∈cs):Φ 1032 [.de f cs (ah ws),.tup (ah c)]=ok (.int (cU cs ws c)):=by
 obtain⟨w,e,_⟩:=lP hl h;rw[P.TZ];show(match intsOf (ah c)with|some c=>(match cK cs (ah ws) c with|some v=>if bh anyF v=false then ok v else none|none=>none)|none=>none)=_;unfold ah;rw[bI];show(match cK cs (ah ws) c with|some v=>if bh anyF v=false then ok v else none|none=>none)=_;rw[ml,e];unfold cU;rw[e];rfl
theorem Ah(Φ:aU)(P:GH Φ)(r:ux (Φ 200))(ns:ae){a:Int}(u:0<=a){n:Nat}(s:n<=12)(e c3:aX):∀(k j:Nat) (cs:aK) (ws:ae) (c6 g c8:aX),Tab (AI n) j cs ws->j+k<=6 ->
  ∃l h m o p,eW (λd ρ=>cH (.nm 6) d ρ) (λρ=>bN Φ Hn ρ) ((List.range' j k).map λ(i:Nat)=>D.int (i:Int)) [some (.lst .sc (ah ns)),some (.int a),e,c3,some (.int n),some (.de .ow cs (ah ws)),c6,g,c8,none] =
   ok (.nx,[some (.lst .sc (ah ns)),some (.int a),e,c3,some (.int n),some (.de .ow l (ah h)),m,o,p,none])/\Tab (AI n) (j+k) l h
 |0,j,cs,ws,c6,g,c8,T,_=>⟨cs,ws,c6,g,c8,rfl,T⟩
 |k+1,j,cs,ws,c6,g,c8,T,hj=>by
  have y:=r ns (a+1+j) (by left);obtain⟨c,hl,x⟩:=JS Φ s (bX ns (a+1+j)) (some (.lst .sc (ah ns))) (some (.int a)) e c3 (some (.de .ow cs (ah ws))) (some (.int j)) [c8,none];obtain⟨C,B⟩:=eH ((bX ns (a+1+j)).fdiv 4096) (b:=7) (by decide);have hw:cU cs ws c+1+((bX ns (a+1+j)).fdiv 4096).fmod 7=cU cs ws c+(1+((bX ns (a+1+j)).fdiv 4096).fmod 7):=by left
  have z:=T.put hl (i:=1+((bX ns (a+1+j)).fdiv 4096).fmod 7) (by left) (by left);obtain⟨l,h,m,o,p,t,q⟩:=Ah Φ P r ns u s e c3 k (j+1) _ _ (some (.int j)) (some (.int (bX ns (a+1+j)))) (some (.tup (ah c))) z (by left);have w:=λf=>O7 P f cs ws c;have A:=T.tR;have v:=O4 P (cs:=cs) (by left) ws c (cU cs ws c+(1+((bX ns (a+1+j)).fdiv 4096).fmod 7));have x1:i0 Φ yV [some (.lst .sc (ah ns)),some (.int a),e,c3,some (.int n),some (.de .ow cs (ah ws)),some (.int j),some (.int (bX ns (a+1+j))),some (.tup (ah c)),none]=ok (.nx,[some (.lst .sc (ah ns)),some (.int a),e,c3,some (.int n),some (.de .ow (dz cs c) (ah (cj cs ws c (cU cs ws c+(1+((bX ns (a+1+j)).fdiv 4096).fmod 7))))),some (.int j),some (.int (bX ns (a+1+j))),some (.tup (ah c)),none]):=by
   unfold yV;refine(CB (xs:=[.int (cU cs ws c+(1+((bX ns (a+1+j)).fdiv 4096).fmod 7)),.tup (ah c)]) (d:=.de .ow cs (ah ws)) ?_ (by simp) rfl v).trans rfl;simp[w,hw]
  refine⟨l,h,m,o,p,?_,by rw[show j+(k+1)=j+1+k by left];exact q⟩;rw[List.range'_succ,zag];refine eV (ρ1:=[some (.lst .sc (ah ns)),some (.int a),e,c3,some (.int n),some (.de .ow cs (ah ws)),some (.int j),g,c8,none]) (by simp) (ρ2:=[some (.lst .sc (ah ns)),some (.int a),e,c3,some (.int n),some (.de .ow (dz cs c) (ah (cj cs ws c (cU cs ws c+(1+((bX ns (a+1+j)).fdiv 4096).fmod 7))))),some (.int j),some (.int (bX ns (a+1+j))),some (.tup (ah c)),none]) ?_ t;simp[Hn,y,x,x1]
def pM{t b:Int}(c:b≠0):(Rat.divInt t b).den∣b.natAbs:=by
 obtain⟨i,a,n,h,l,e,k,j⟩:=oM (t:=t) c;obtain⟨m,g⟩:=tQ (t:=t) c;rw[show b.fdiv (gH t b)=a from e]at g;have d:(Rat.divInt t b).den=a.natAbs:=by left
 have:b.natAbs=(gH t b).natAbs*a.natAbs:=by rw[<- zas,<- h]
 rw[d,this];exact Nat.dvd_mul_left ..
def rW(m:aj):Prop:=∀(ns:ae) (a:Int) (p:Nat),0<=a->1<=p->p<=12->∃n b,n<=p/\Dr 6 n b/\GF b/\m [.lst .sc (ah ns),.int a,.int p]=ok (.tup [.int n,.lst .ow (bO b)])
def Bi(Φ:aU)(P:GH Φ)(q:ux (Φ 200))(S:km (Φ 201)):rW (mk Φ 3 10 kh):=by
 intro g a p y V U;have L:=q g a y;obtain⟨f1,f2⟩:=eH (bX g a) (b:=(p:Int)) (by left);obtain⟨n,F⟩:∃n:Nat,1+(bX g a).fmod p=(n:Int):=⟨(1+(bX g a).fmod p).toNat,by left⟩
 obtain⟨Z,Y⟩:=eH ((bX g a).fdiv p) (b:=6) (by decide);obtain⟨k,H⟩:∃k:Nat,1+((bX g a).fdiv p).fmod 6=(k:Int):=⟨(1+((bX g a).fdiv p).fmod 6).toNat,by left⟩
 have N:Tab (AI n) 0 [] []:=⟨ab1,rfl,aaj _,(λ_ h=>nomatch h),(λ_ h=>nomatch h),by simp,λh=>by left⟩
 obtain⟨cs,ws,c6,z,c8,K,T⟩:=Ah Φ P q g y (n:=n) (by left) (some (.int p)) (some (.int ((bX g a).fdiv p))) k 0 [] [] none none none N (by left);rw[zbG]at T;have R:=T.dr (n:=n) (by left) (by left) (by left) (by left);have G:dB .mod (.int (bX g a)) (.int p)=ok (.int ((bX g a).fmod p)):=wK (by left);have J:dB .fdiv (.int (bX g a)) (.int p)=ok (.int ((bX g a).fdiv p)):=pW (jN (by left) (tf (by left)));have Q:Φ 1030 []=ok (.de .ow [] []):=by rw[P.T2];rfl
 have l:eP Φ (.ku (.bin .add (.int 1) (.bin .mod (.v 3) (.int 6)))) [some (.lst .sc (ah g)),some (.int a),some (.int p),some (.int ((bX g a).fdiv p)),some (.int n),some (.de .ow [] []),none,none,none,none]=ok ((List.range' 0 k).map λ(i:Nat)=>D.int (i:Int),[some (.lst .sc (ah g)),some (.int a),some (.int p),some (.int ((bX g a).fdiv p)),some (.int n),some (.de .ow [] []),none,none,none,none]):=by
  rw[BD (n:=k) (by simp[H]) (by left) (by left),zan,zaJ]
 have I:=iq (Φ:=Φ) (t:=.nm 6) (b:=Hn) l K;have u:(bY cs).Perm cs:=abr _ _;have E:∀f,dR Φ (.cI 1100) [.de f cs (ah ws)]=ok (cs.map hJ):=λf=>by
  show bd (Φ 1100 _) kI=_;rw[P.TR];show ok (au aD (cs.map hJ))=_;rw[gS]
 have x:=T.tR;have A:∀c,hJ c=.tup (ah c):=λ_=>rfl;have o:∀r,bp Φ OX [some (.lst .sc (ah g)),some (.int a),some (.int p),some (.int ((bX g a).fdiv p)),some (.int n),some (.de .ow cs (ah ws)),c6,z,c8,r]=ok (.lst .ow (ah (cs.map (cU cs ws)))):=λr=>by
  unfold OX;rw[bW (xs:=[.de .al cs (ah ws)]) (by simp) (E _) (ds:=cs.map λc=>.int (cU cs ws c)) (bD λc j=>?_) (by simp;exact bE (by left))]
  ·simp[ah,aE]
  ·have e:=Lw P .fz T.ln j;exact⟨[some (.tup (ah c)),some (.de .fz cs (ah ws))],by simp[bx,A],by simp,by simp[e]⟩
 rw[oR T.nd T.ln]at o;have C:qk .gu [.lst .ow (ah ws)]=ok (.int ws.sum):=by
  show(match intsOf (ah ws)with|some g=>ok (D.int g.sum)|none=>none)=_;unfold ah;rw[bI]
 have X:1<=ws.sum/\ws.sum<=42:=by
  have W:=T.sum;refine⟨?_,by left⟩;obtain⟨c,j⟩:=List.exists_mem_of_ne_nil cs (T.ne (by left));obtain⟨w,e,m⟩:=lP T.ln j;have:=T.pos w m;have:=T.zE w m;left
 refine⟨n,mX cs ws,by left,R,⟨ws.sum.toNat,by left,by left,λr s=>?_⟩,?_⟩
 ·unfold mX at s;obtain⟨c,_,rfl⟩:=List.mem_map.mp s;have h:ws.sum=((ws.sum.toNat:Nat):Int):=by left
  show(Rat.divInt (cU cs ws c) ws.sum).den∣_;have d:=pM (t:=cU cs ws c) (b:=ws.sum) (by left)
  rwa [show ws.sum.natAbs=ws.sum.toNat by left]at d
 have O:∀f,Φ 1035 [.de f cs (ah ws)]=ok (.lst .ow ((bY cs).map hJ)):=λf=>by
  rw[P.TX];show(if cs.length<7 then ok (D.lst .ow ((bY cs).map hJ))else none)=_;rw[zac (by left)]
 have B:bp Φ OY [some (.lst .sc (ah g)),some (.int a),some (.int p),some (.int ((bX g a).fdiv p)),some (.int n),some (.de .ow cs (ah ws)),c6,z,c8,some (.int ws.sum)]=ok (.lst .ow (bO (mX cs ws))):=by
  unfold OY;rw[bW (xs:=[.lst .ow ((bY cs).map hJ)]) (by simp[O]) (items:=(bY cs).map hJ) (by rw[dq,gS]) (ds:=(bY cs).map λc=>rD (Rat.divInt (cU cs ws c) ws.sum,c)) (bD λc j=>?_) (by rw[zaa];exact bE (by rw[u.length_eq];left))]
  ·have:((bY cs).map λc=>rD (Rat.divInt (cU cs ws c) ws.sum,c))=bO (mX cs ws):=by unfold bO mX;rw[zam];rfl
   rw[this,iy]
  ·have e:=Lw P .fz T.ln (u.mem_iff.mp j);have M:=S (cU cs ws c) ws.sum (by left) (tf (by left));exact⟨[some (.tup (ah c)),some (.int ws.sum),some (.de .fz cs (ah ws))],by simp[bx,A],by simp,by simp[e,M,rD]⟩
 simp[mk_eq,kh,L,G,J,F,Q];rw[I];simp[o,C,B]
def AG(m:aj):Prop:=∀(N:Int) (n:Nat),n<=12->∃a:aC,m [.int N,.int n]=ok (.lst .ow (aQ a))/\a.length=n/\∀q∈a,Sm 3 q
noncomputable def nC:af:=[.app 2 (.call 201 [(.bin .sub (.bin .mod (.v 0) (.int 13)) (.int 6)),(.bin .add (.int 1) (.bin .mod (.bin .fdiv (.v 0) (.int 13)) (.int 4)))]),.asg (.nm 0) (.bin .fdiv (.v 0) (.int 52))]
def nX:af:=[.asg (.nm 2) (.lst []),.fr (.nm 3) (.ku (.v 1)) nC,.ret (.v 2)]
theorem oW(Φ:aU)(g:km (Φ 201))(y:aX):∀(ks:aa) (a:aC) (n:Int) (w:aX),a.length+ks.length<=1000->(∀q∈a,Sm 3 q) ->
  ∃(qs:aC) (n' w':aX),eW (λd ρ=>cH (.nm 3) d ρ) (λρ=>bN Φ nC ρ) ks [some (.int n),y,some (.lst .ow (aQ a)),w]=ok (.nx,[n',y,some (.lst .ow (aQ qs)),w'])/\qs.length=a.length+ks.length/\∀q∈qs,Sm 3 q
 |[],a,n,w,_,hs=>⟨a,some (.int n),w,rfl,rfl,hs⟩
 |k::ks,a,n,w,h,hs=>by
  simp only[zae]at h;obtain⟨t,r⟩:=eH n (b:=13) (by decide);obtain⟨o,m⟩:=eH (n.fdiv 13) (b:=4) (by decide);have e:=g (n.fmod 13 - 6) (1+(n.fdiv 13).fmod 4) (by left) (tf (by left));have sq:Sm 3 (Rat.divInt (n.fmod 13 - 6) (1+(n.fdiv 13).fmod 4)):=Ky (by left) (by left) (by left);generalize Rat.divInt (n.fmod 13 - 6) (1+(n.fdiv 13).fmod 4)=q at *;obtain⟨qs,n',w',j,l,s⟩:=oW Φ g y ks (a++[q]) (n.fdiv 52) (some k) (by simp;left) (λp c=>by
   rcases List.mem_append.mp c with c|c
   ·exact hs p c
   ·have:p=q:=by simpa using c
    subst this;exact sq)
  have i:a.length<eB:=by show _<1000000;left
  refine⟨qs,n',w',eV (ρ1:=[some (.int n),y,some (.lst .ow (aQ a)),some k]) (by simp) (ρ2:=[some (.int (n.fdiv 52)),y,some (.lst .ow (aQ (a++[q]))),some k]) ?_ j,by rw[l];simp;left,s⟩;simp[nC,e,i]
def HJ(Φ:aU)(h:km (Φ 201)):AG (mk Φ 2 4 nX):=by
 intro N n m;have c:=BD (Φ:=Φ) (a:=.v 1) (ρ:=[some (.int N),some (.int n),some (.lst .ow []),none]) (n:=n) (by simp) (by left) (by left);obtain⟨d,j,i,g,l,s⟩:=oW Φ h (some (.int n)) ((List.range (n:Int).toNat).map λ(k:Nat)=>D.int (k:Int)) [] N none (by simp;left) (by simp);have e:=iq (t:=.nm 3) (b:=nC) c g;refine⟨d,?_,by simpa using l,s⟩;simp[mk_eq,nX,e]
def rV(m:aj):Prop:=∀n a,m [aR n a]=ok (.tup [.int n,.lst .ow (bO a)])
noncomputable def kg:af:=[.ret (.tup [(.ix (.v 0) (.int 0)),(.bf .list1 [(.ix (.v 0) (.int 1))])])]
def Bg(Φ:aU):rV (mk Φ 1 1 kg):=by
 intro n a;simp[mk_eq,kg,aR]
noncomputable def ez(g h:Int)(r:Row):Bool:=decide (g∈r.2)&&decide (h∈r.2)
def bj(rs:aq)(g h:Int):Rat:=(bU (rs.filter (ez g h))).sum
theorem vP(h:Int):∀a:ae,inD (.int h) (ah a)=decide (h∈a)
 |[]=>rfl
 |x::xs=>by
  show(nj (.int x) (.int h)||inD (.int h) (ah xs))=_;rw[lR,vP h xs];by_cases e:h=x<;>simp[e,eq_comm]
theorem rA:∀a:ae,(ah a).all ej=true
 |[]=>rfl
 |x::xs=>by show(ej (.int x)&&(ah xs).all ej)=true;rw[rA xs];rfl
def LA(h:Int)(ns:ae):gd .Co (.int h) (.tup (ah ns))=ok (.bl (decide (h∈ns))):=by
 show(if ej (.int h)&&(ah ns).all ej then ok (D.bl (inD (.int h) (ah ns)))else none)=_;rw[rA,vP];rfl
noncomputable def JK:CE:=.comp 2 (.tp [0,1]) [1,2] .seq [(.ix (.v 0) (.int 1))] [(.and [(.cmp .Co (.v 2) (.v 1)),(.cmp .Co (.v 3) (.v 1))])] (.v 0)
def nY:af:=[.asg (.nm 3) JK,.ret (.call 2 [(.bf .gu [(.v 3)]),(.ix (.v 0) (.int 0))])]
def n_(m:aj):Prop:=∀k n rs (g h:Int),Dr k n rs->m [.tup [.int (bA (bU rs)),.lst .fz (jz (bA (bU rs)) rs)],.int g,.int h]=ok (qD (bj rs g h))
def HL(Φ:aU)(t:dj (Φ 2)):n_ (mk Φ 3 4 nY):=by
 intro k n c g h I;obtain⟨b0,b1,b2⟩:=I.bot;have d:=sf (b:=bA (bU c)) (qs:=bU (c.filter (ez g h))) b0 λq o=>by
  obtain⟨r,i,rfl⟩:=List.mem_map.mp o;exact b2 _ (aaX ((List.mem_filter.mp i).1))
 generalize bA (bU c)=b at *;have m:∀a,bp Φ JK [some (.tup [.int b,.lst .fz (jz b c)]),some (.int g),some (.int h),a]=ok (.lst .ow (ah ((bU (c.filter (ez g h))).map (bw b)))):=λa=>by
  unfold JK;rw[bW (xs:=[.lst .fz (jz b c)]) (items:=c.map λr=>.tup [.int (bw b r.1),.tup (ah r.2)]) (ds:=(c.filter (ez g h)).map λr=>.int (bw b r.1)) (by simp) (by rw[dq,oS];rfl) (gU λr i=>⟨[some (.int (bw b r.1)),some (.tup (ah r.2)),some (.int g),some (.int h)],by simp[bx],by
   by_cases s:g∈r.2<;>by_cases p:h∈r.2<;>simp[LA,ez,s,p],λ_=>by simp⟩) ?_]
  ·simp[ah,aE,bU]
  ·have:=List.length_filter_le (ez g h) c;have:=I.len;rw[zaa];exact bE (by left)
 have l:qk .gu [.lst .ow (ah ((bU (c.filter (ez g h))).map (bw b)))]=ok (.int ((bU (c.filter (ez g h))).map (bw b)).sum):=by
  show(match intsOf (ah ((bU (c.filter (ez g h))).map (bw b)))with|some ns=>ok (D.int ns.sum)|none=>none)=_;unfold ah;rw[bI]
 have e:=t.1 ((bU (c.filter (ez g h))).map (bw b)).sum b (by left) (by
  rw[zaz];exact aaf b1 (aar (by decide) (by decide)))
 rw[d]at e;have j:∀f,qk .gu [.lst f (ah ((bU (c.filter (ez g h))).map (bw b)))]=ok (.int ((bU (c.filter (ez g h))).map (bw b)).sum):=λf=>l;simp[mk_eq,nY,BB Φ JK _ rfl,m,j,e];rfl
def eM(n:Nat)(rs:aq):aC:=(List.range n).map λ(k:Nat)=>bj rs k k
noncomputable def JI:CE:=.comp 1 (.nm 0) [1] .ku [(.ix (.v 0) (.int 0))] [] (.call 19 [(.v 1),(.v 0),(.v 0)])
def jQ:af:=[.ex (.call 17 [(.v 0)]),.asg (.nm 1) (.call 14 [(.ix (.v 0) (.int 1))]),.ret JI]
def iK(m:aj):Prop:=∀k n a,Dr k n a->m [aR n a]=ok (.lst .ow (aQ (eM n a)))
def Dv(Φ:aU)(p:gn (Φ 14))(h:b7 (Φ 17))(o:n_ (Φ 19)):iK (mk Φ 1 2 jQ):=by
 intro k n a I;have m:=h k n a I;have l:=p a k I.A6;have q:=I.n2;have c:aB ba (aR n a)=aR n a:=by simp[aR]
 have i:aB aD (aR n a)=aR n a:=by simp[aR]
 have d:aR n a=.tup [.int n,.lst .fz (bO a)]:=rfl;have g:nK (aR n a) (.int 0)=ok (.int n):=by rw[d];simp
 have x1:nK (aR n a) (.int 1)=ok (.lst .fz (bO a)):=by rw[d];simp
 have j:bp Φ JI [some (aR n a),some (.tup [.int (bA (bU a)),.lst .ow (jz (bA (bU a)) a)])]=ok (.lst .ow (aQ (eM n a))):=by
  unfold JI;rw[bW (xs:=[.int n]) (ds:=(List.range n).map λ(k:Nat)=>qD (bj a k k)) (by simp[c,g]) (lL Φ (by omega) (by omega)) (bD λb r=>?_) (by simp;exact bE (by omega))]
  ·simp[aQ,eM,aE]
  ·have e:=o k n a b b I;exact⟨[some (.int b),some (.tup [.int (bA (bU a)),.lst .fz (jz (bA (bU a)) a)])],by simp[bx],by simp,by simp[e]⟩
 simp[mk_eq,jQ,BB Φ JI _ rfl,i,c,x1,m,l,j]
def qW{rs:aq}{W:Nat}(e:∀r∈rs,r.1.den∣W)(i:0<W)(g h:Int):(bj rs g h).den∣W:=by
 have a:=sf (b:=W) (qs:=bU (rs.filter (ez g h))) i λq d=>by
  obtain⟨r,c,rfl⟩:=List.mem_map.mp d;exact e _ ((List.mem_filter.mp c).1)
 unfold bj;rw[<- a];have:=pM (t:=((bU (rs.filter (ez g h))).map (bw W)).sum) (b:=(W:Int)) (by left);simpa using this
theorem kC(p:Row->Bool):∀(rs:aq),(∀r∈rs,0<r.1)->0<=(bU (rs.filter p)).sum/\(bU (rs.filter p)).sum<=(bU rs).sum
 |[],_=>by simp[bU,Rat.le_refl]
 |r::rs,h=>by
  obtain⟨a,b⟩:=kC p rs λx d=>h x (aah _ d);have i:=h r aai;have e:(bU (r::rs)).sum=r.1+(bU rs).sum:=rfl;rw[e];cases c:p r with
  |true =>
   rw[zbv c];have g:(bU (r::rs.filter p)).sum=r.1+(bU (rs.filter p)).sum:=rfl;rw[g];constructor<;>grind
  |false =>
   rw[zbw (by simp[c])];constructor<;>grind
def oI{k n:Nat}{rs:aq}(I:Dr k n rs)(g h:Int):0<=bj rs g h/\bj rs g h<=1:=by
 have:=kC (ez g h) rs I.pos;have e:(bU rs).sum=1:=I.one;rw[e]at this;exact this
def zi{q:Rat}{k:Nat}(c:0<=q)(b:q<=1)(a:q.den<2 ^ k):Sm k q:=by
 refine⟨?_,a⟩;have e:=eD q;have g:=q.den_pos;have d:0<=q.num:=Rat.num_nonneg.mpr c;have:q.num<=q.den:=by
  have:=b;rw[Rat.le_iff]at this;simpa using this
 left
def gx{k n:Nat}{rs:aq}(I:Dr k n rs)(g h:Int):Sm 61 (bj rs g h):=by
 obtain⟨b0,b1,b2⟩:=I.bot;obtain⟨b,a⟩:=oI I g h;have:=qW (rs:=rs) (W:=bA (bU rs)) (λr c=>b2 _ (aaX c)) b0 g h;exact zi b a (aaw (abC b0 this) b1)
def xK{k n:Nat}{rs:aq}(I:Dr k n rs)(F:GF rs)(g h:Int):Sm 6 (bj rs g h):=by
 obtain⟨W,a,w1,w2⟩:=F;obtain⟨c,b⟩:=oI I g h;have:=qW w2 a g h;exact zi c b (aaw (abC a this) w1)
def IC{n:Nat}{rs:aq}{q:Rat}(h:q∈eM n rs):∃k:Nat,k<n/\q=bj rs k k:=by
 unfold eM at h;obtain⟨k,a,rfl⟩:=List.mem_map.mp h;exact⟨k,List.mem_range.mp a,rfl⟩
@[simp]theorem Hx(n:Nat)(rs:aq):(eM n rs).length=n:=by simp[eM]
def Hy{n k:Nat}(rs:aq)(h:k<n):(eM n rs)[k]?=some (bj rs k k):=by simp[eM,h]
noncomputable def lG(q:Rat):D:=if 0<q then qD (1 / q)else .bz
noncomputable def JG:CE:=.comp 1 (.nm 0) [] .seq [(.call 20 [(.v 0)])] [] (.ite (.cmp .gt (.ix (.v 0) (.int 0)) (.int 0)) (.call 7 [(.glt "ONE" [1,1]),(.v 0)]) .bz)
def i8:af:=[.ret JG]
def lZ(m:aj):Prop:=∀k n a,Dr k n a->m [aR n a]=ok (.lst .ow ((eM n a).map lG))
def vF(q:Rat):0<q.num ↔ 0<q:=by rw[Rat.lt_iff];simp
@[simp]theorem zG(g:Fl->Fl)(q:Rat):aB g (lG q)=lG q:=by
 unfold lG;split
 ·simp
 ·rfl
@[simp]theorem zR(g:Fl->Bool)(q:Rat):bh g (lG q)=false:=by
 unfold lG;split
 ·simp
 ·rfl
@[simp]theorem Bw(g:Fl->Fl)(qs:aC):au g (qs.map lG)=qs.map lG:=dH g (λq=>zG g q) qs
@[simp]theorem P9(g:Fl->Bool)(qs:aC):aV g (qs.map lG)=false:=cS g (λq=>zR g q) qs
def WM:Sm 1 (1:Rat):=by constructor<;>decide
def HG(Φ:aU)(m:UU (Φ 7))(p:iK (Φ 20)):lZ (mk Φ 1 1 i8):=by
 intro k n a I;have t:=I.n2;have o:=p k n a I;have h:aB aD (aR n a)=aR n a:=by simp[aR]
 have g:aB ba (aR n a)=aR n a:=by simp[aR]
 have r:D.tup ([1,1].map D.int)=qD 1:=rfl;have d:D.tup [.int 1,.int 1]=qD 1:=rfl;have i:bp Φ JG [some (aR n a)]=ok (.lst .ow ((eM n a).map lG)):=by
  unfold JG;rw[bW (xs:=[.lst .ow (aQ (eM n a))]) (items:=(eM n a).map qD) (ds:=(eM n a).map lG) (by simp[h,g,o]) (by rw[dq];simp;rfl) (bD λq l=>⟨[some (qD q)],by simp[bx],by simp,?_⟩) (by simp;exact bE (by left))]
  ·rw[Bw]
  ·obtain⟨j,_,rfl⟩:=IC l;have s:=gx I j j;generalize bj a j j=q at *;have c:gd .gt (.int q.num) (.int 0)=ok (.bl (decide (0<q))):=by
    show ok (D.bl (decide ((0:Int)<q.num)))=_;rw[decide_eq_decide.mpr (vF q)]
   unfold lG;by_cases b:0<q
   ·have e:=m.1 1 q (WM.mono (by decide)) (s.mono (by decide)) (by grind);simp[c,b,d,e]
   ·simp[c,b]
 simp[mk_eq,i8,BB Φ JG _ rfl,i]
noncomputable def qO(n:Nat)(h:Nat):aC:=(List.range n).map λ(k:Nat)=>if k=h then 1 else 0
def kF(n:Nat)(rs:aq)(ws:aC):Nat->Nat->Option Nat
 |_,0=>none
 |j,k+1=>if kj ws j*bj rs j j=1 then kF n rs ws (j+1) k else some j
def We(n:Nat):Option Nat->D
 |none=>.bz
 |some h=>.lst .ow (aQ (qO n h))
noncomputable def JE:CE:=.comp 1 (.nm 0) [3] .ku [(.ix (.v 0) (.int 0))] [] (.ite (.cmp .eq (.v 0) (.v 1)) (.glt "ONE" [1,1]) (.glt "ZERO" [0,1]))
def C6:af:=[.ifs (.cmp .ne (.call 6 [(.ix (.v 1) (.v 3)),(.v 4)]) (.glt "ONE" [1,1])) [.ret JE] []]
def j_:af:=[.asg (.nm 2) (.call 20 [(.v 0)]),.ex (.call 46 [(.v 1),(.ix (.v 0) (.int 0))]),.fr (.tp [3,4]) (.GL 1003 [(.v 2)]) C6,.ret .bz]
def AB(m:aj):Prop:=∀k n a f ws j,Dr k n a->ws.length=n->(∀q∈ws,Sm j q)->j<=100->m [aR n a,.lst f (aQ ws)]=ok (We n (kF n a ws 0 n))
def QO(Φ:aU){n:Nat}(m:n<=12){rs:aq}(h:Nat)(a b c:aX):bp Φ JE [some (aR n rs),a,b,some (.int h),c]=ok (.lst .ow (aQ (qO n h))):=by
 have l:aR n rs=.tup [.int n,.lst .fz (bO rs)]:=rfl;have j:aB ba (aR n rs)=aR n rs:=by simp[aR]
 have d:nK (aR n rs) (.int 0)=ok (.int n):=by rw[l];simp
 unfold JE;rw[bW (xs:=[.int n]) (ds:=(List.range n).map λ(k:Nat)=>qD (if k=h then 1 else 0)) (by simp[j,d]) (lL Φ (by omega) (by omega)) (bD λk o=>⟨[some (.int k),some (.int h)],by simp[bx],by simp,?_⟩) (by simp;exact bE (by omega))]
 ·simp[aQ,qO,aE]
 ·have c1:gd .eq (.int k) (.int h)=ok (.bl (decide (k=h))):=by
   rw[yU (by simp) (by simp),lR];by_cases e:k=h<;>simp[e];left
  have g:D.tup [.int 1,.int 1]=qD 1:=rfl;have i:D.tup [.int 0,.int 1]=qD 0:=rfl;by_cases e:k=h
  ·subst e;simp[c1,g]
  ·simp[c1,e,i]
theorem y8(Φ:aU)(o:kl (Φ 6)){d n m:Nat}{rs:aq}(I:Dr d n rs)(f:Fl){ws:aC}(hw:ws.length=n)(g:∀q∈ws,Sm m q)(w:m<=100)(a:aX):∀(k j:Nat) (c3 c4:aX),j+k=n ->
  ∃b ρ,eW (λd ρ=>cH (.tp [3,4]) d ρ) (λρ=>bN Φ C6 ρ) ((List.range' j k).map λ(i:Nat)=>D.tup [.int i,qD (bj rs i i)]) [some (aR n rs),some (.lst f (aQ ws)),a,c3,c4]=ok (b,ρ) /\
   ((b=.nx/\kF n rs ws j k=none)\/b=.rt (We n (kF n rs ws j k)))
 |0,j,c3,c4,_=>⟨.nx,_,rfl,.inl ⟨rfl,rfl⟩⟩
 |k+1,j,c3,c4,h=>by
  have r:=pY (qs:=ws) (h:=(j:Int)) (by left) (by left);have t:=g _ (cO (qs:=ws) (h:=(j:Int)) (by left) (by left)).2;have s:=gx I j j;have p:=o (kj ws j) (bj rs j j) (t.mono (by left)) (s.mono (by decide));have l:D.tup [.int 1,.int 1]=qD 1:=rfl;have c1:∀q:Rat,gd .ne (qD q) (qD 1)=ok (.bl (!decide (q=1))):=λq=>by rw[Pd (K0 39 _) (K0 39 _),Um]
  have u:=QO Φ I.n2 (rs:=rs) j (some (.lst f (aQ ws))) a (some (qD (bj rs j j)));rw[List.range'_succ,zag];by_cases e:kj ws j*bj rs j j=1
  ·obtain⟨b,ρ,v,x⟩:=y8 Φ o I f hw g w a k (j+1) (some (.int j)) (some (qD (bj rs j j))) (by left);have c:kF n rs ws j (k+1)=kF n rs ws (j+1) k:=aa5 e;rw[c];refine⟨b,ρ,eV (ρ1:=[some (aR n rs),some (.lst f (aQ ws)),a,some (.int j),some (qD (bj rs j j))]) (by simp) (ρ2:=[some (aR n rs),some (.lst f (aQ ws)),a,some (.int j),some (qD (bj rs j j))]) ?_ v,x⟩;simp[C6,r,p,l,c1,e]
  ·have c:kF n rs ws j (k+1)=some j:=acr e;rw[c];refine⟨_,[some (aR n rs),some (.lst f (aQ ws)),a,some (.int j),some (qD (bj rs j j))],yB (ρ1:=[some (aR n rs),some (.lst f (aQ ws)),a,some (.int j),some (qD (bj rs j j))]) (by simp) (y:=.lst .ow (aQ (qO n j))) ?_,.inr rfl⟩;simp[C6,r,p,l,c1,e,BB Φ JE _ rfl,u]
def wj(n:Nat)(rs:aq):au aD (b9 0 (aQ (eM n rs)))=(List.range' 0 n).map λ(i:Nat)=>D.tup [.int i,qD (bj rs i i)]:=by
 rw[aE];refine acy λi=>?_;rw[List.getElem?_map,gc,List.getElem?_map,aQ,List.getElem?_map];by_cases h:i<n
 ·rw[Hy rs h,List.getElem?_range' h];simp[aB,au]
 ·rw[List.getElem?_eq_none (by simp;left),List.getElem?_eq_none (by simp;left)];rfl
def HD(Φ:aU)(w:kl (Φ 6))(A:iK (Φ 20))(m:bF 3 bG (Φ 46))(z:Φ 1003=tS):AB (mk Φ 2 5 j_):=by
 intro k n a f ws j I hw l p;have B:=I.n2;have y:=A k n a I;have g:=λf=>m (.lst f (aQ ws)) n (by show(aQ ws).length<=1000000;simp;left);simp only[e_,hw,decide_true,if_true]at g;have e:aB aD (aR n a)=aR n a:=by simp[aR]
 have o:aB ba (aR n a)=aR n a:=by simp[aR]
 have s:aR n a=.tup [.int n,.lst .fz (bO a)]:=rfl;have h:nK (aR n a) (.int 0)=ok (.int n):=by rw[s];simp
 obtain⟨C,ρ,x,q⟩:=y8 Φ w I f hw l p (some (.lst .fz (aQ (eM n a)))) n 0 none none (by left);have c:eP Φ (.GL 1003 [(.v 2)]) [some (aR n a),some (.lst f (aQ ws)),some (.lst .ow (aQ (eM n a))),none,none]=ok ((List.range' 0 n).map λ(i:Nat)=>D.tup [.int i,qD (bj a i i)],[some (aR n a),some (.lst f (aQ ws)),some (.lst .fz (aQ (eM n a))),none,none]):=by
  have u:∀ρ,eP Φ (.GL 1003 [(.v 2)]) ρ=bd (bL Φ [(.v 2)] ρ) λxs=>bd (Φ 1003 xs) λd=>bd (kI d) λitems=>ok (items,if aV bR xs then jo (dJ [(.v 2)]) ρ else ρ):=λ_=>rfl;rw[u];have:bL Φ [(.v 2)] [some (aR n a),some (.lst f (aQ ws)),some (.lst .ow (aQ (eM n a))),none,none]=ok [.lst .al (aQ (eM n a))]:=by simp
  rw[this,dC,z];show bd (ok (D.lst .ow (b9 0 (aQ (eM n a))))) _=_;rw[dC];show bd (ok (au aD (b9 0 (aQ (eM n a))))) _=_;rw[dC,wj];simp[dJ,gE,tN,e]
 have r:=iq (Φ:=Φ) (t:=.tp [3,4]) (b:=C6) c x;simp[mk_eq,j_,e,o,h,y,g];rw[r];rcases q with ⟨rfl,hw⟩|rfl
 ·rw[hw];simp[We]
 ·simp
noncomputable def C7:af:=[.ifs (.and [(.cmp .Co (.v 2) (.v 7)),(.cmp .Co (.v 4) (.v 7))]) [.asg (.nm 5) (.call 202 [(.v 5),(.v 6)])] []]
def Hl:af:=[.asg (.nm 5) (.tup [(.int 0),(.int 1)]),.fr (.tp [6,7]) (.seq (.ix (.v 0) (.int 1))) C7,.app 3 (.v 5)]
def Hm:af:=[.asg (.nm 3) (.lst []),.fr (.nm 4) (.ku (.ix (.v 0) (.int 0))) Hl,.app 1 (.v 3)]
def lW:af:=[.asg (.nm 1) (.lst []),.fr (.nm 2) (.ku (.ix (.v 0) (.int 0))) Hm,.ret (.v 1)]
def xX(r:Row)(rs:aq)(g h:Int):bj (r::rs) g h=if ez g h r then r.1+bj rs g h else bj rs g h:=by
 unfold bj;cases e:ez g h r with
 |true=>rw[zbv e];rfl
 |false=>rw[zbw (by simp[e])];rfl
theorem sR(Φ:aU)(m:rQ (Φ 202))(g h:Int)(c c1 c3:aX):∀(rs:aq) (b:Rat) (i:Nat) (c6 k:aX),(∀r∈rs,Sm 6 r.1)->Sm (1+7*i) b->i+rs.length<=12 ->
  ∃e j,eW (λd ρ=>cH (.tp [6,7]) d ρ) (λρ=>bN Φ C7 ρ) (bO rs) [c,c1,some (.int g),c3,some (.int h),some (qD b),c6,k]=ok (.nx,[c,c1,some (.int g),c3,some (.int h),some (qD (b+bj rs g h)),e,j])
 |[],b,i,c6,k,_,_,_=>⟨c6,k,by simp[bj,bU,bO,for_nil,Rat.add_zero]⟩
 |r::rs,b,i,c6,k,hm,hs,hi=>by
  rw[zae]at hi;have o:=hm r aai;have A:=m b r.1 (hs.mono (by left)) (o.mono (by decide));have u:=(hs.add o).mono (l:=1+7*(i+1)) (by left);have t:=hs.mono (l:=1+7*(i+1)) (by left);have p:=λx w=>hm x (aah r w);have q:∀(a:aX),bp Φ (.and [(.cmp .Co (.v 2) (.v 7)),(.cmp .Co (.v 4) (.v 7))]) [c,c1,some (.int g),c3,some (.int h),a,some (qD r.1),some (.tup (ah r.2))]=ok (.bl (ez g h r)):=λa=>by
   by_cases z:g∈r.2<;>by_cases y:h∈r.2<;>simp[LA,ez,z,y]
  rw[xX];cases s:ez g h r with
  |true =>
   obtain⟨e,j,n⟩:=sR Φ m g h c c1 c3 rs (b+r.1) (i+1) (some (qD r.1)) (some (.tup (ah r.2))) p u (by left);refine⟨e,j,eV (ρ1:=[c,c1,some (.int g),c3,some (.int h),some (qD b),some (qD r.1),some (.tup (ah r.2))]) (by simp[rD]) (ρ2:=[c,c1,some (.int g),c3,some (.int h),some (qD (b+r.1)),some (qD r.1),some (.tup (ah r.2))]) ?_ ?_⟩
   ·rw[C7,cG,xp,q,s];simp[A]
   ·exact n.trans (by simp[Rat.add_assoc])
  |false =>
   obtain⟨e,j,n⟩:=sR Φ m g h c c1 c3 rs b (i+1) (some (qD r.1)) (some (.tup (ah r.2))) p t (by left);refine⟨e,j,eV (ρ1:=[c,c1,some (.int g),c3,some (.int h),some (qD b),some (qD r.1),some (.tup (ah r.2))]) (by simp[rD]) (ρ2:=[c,c1,some (.int g),c3,some (.int h),some (qD b),some (qD r.1),some (.tup (ah r.2))]) ?_ ?_⟩
   ·rw[C7,cG,xp,q,s];simp
   ·exact n.trans (by simp)
theorem zA(Φ:aU)(p:rQ (Φ 202)){n:Nat}{rs:aq}(I:Dr 6 n rs)(g:Int)(c1:aX):∀(k j:Nat) (qs:aC) (c4 c c6 a:aX),j+k<=12->qs.length=j ->
  ∃m o e h,eW (λd ρ=>cH (.nm 4) d ρ) (λρ=>bN Φ Hl ρ) ((List.range' j k).map λ(i:Nat)=>D.int (i:Int)) [some (aR n rs),c1,some (.int g),some (.lst .ow (aQ qs)),c4,c,c6,a] =
   ok (.nx,[some (aR n rs),c1,some (.int g),some (.lst .ow (aQ (qs++(List.range' j k).map λ(i:Nat)=>bj rs g i))),m,o,e,h])
 |0,j,qs,c4,c,c6,a,_,_=>⟨c4,c,c6,a,by simp[for_nil]⟩
 |k+1,j,qs,c4,c,c6,a,hj,hq=>by
  have w:D.tup [.int 0,.int 1]=qD 0:=rfl;have q:=I.tR;obtain⟨u,s,r⟩:=sR Φ p g j (some (aR n rs)) c1 (some (.lst .ow (aQ qs))) rs 0 0 c6 a I.sm (by constructor<;>decide) (by left);rw[Rat.zero_add]at r;have x1:bp Φ (.ix (.v 0) (.int 1)) [some (aR n rs),c1,some (.int g),some (.lst .ow (aQ qs)),some (.int j),some (qD 0),c6,a]=ok (.lst .fz (bO rs)):=by simp[aR]
  have l:eP Φ (.seq (.ix (.v 0) (.int 1))) [some (aR n rs),c1,some (.int g),some (.lst .ow (aQ qs)),some (.int j),some (qD 0),c6,a]=ok (bO rs,[some (aR n rs),c1,some (.int g),some (.lst .ow (aQ qs)),some (.int j),some (qD 0),c6,a]):=by
   rw[IZ x1];simp
  have y:=iq (Φ:=Φ) (t:=.tp [6,7]) (b:=C7) l r;obtain⟨m,o,e,h,x⟩:=zA Φ p I g c1 k (j+1) (qs++[bj rs g j]) (some (.int j)) (some (qD (bj rs g j))) u s (by left) (by simp[hq]);rw[List.range'_succ,zag,zag];refine⟨m,o,e,h,eV (ρ1:=[some (aR n rs),c1,some (.int g),some (.lst .ow (aQ qs)),some (.int j),c,c6,a]) (by simp) (ρ2:=[some (aR n rs),c1,some (.int g),some (.lst .ow (aQ (qs++[bj rs g j]))),some (.int j),some (qD (bj rs g j)),u,s]) ?_ ?_⟩
  ·have z:qs.length<eB:=by show _<1000000;left
   simp[Hl,w,y,z]
  ·exact x.trans (by simp)
def eN(n:Nat)(rs:aq)(f:Fl)(j k:Nat):aa:=(List.range' j k).map λ(g:Nat)=>.lst f (aQ ((List.range' 0 n).map λ(h:Nat)=>bj rs g h))
theorem zB(Φ:aU)(x:rQ (Φ 202)){n:Nat}{rs:aq}(I:Dr 6 n rs):∀(k j:Nat) (ds:aa) (l c3 c4 e c6 c:aX),j+k<=12->ds.length=j ->
  ∃q w s u m o,eW (λd ρ=>cH (.nm 2) d ρ) (λρ=>bN Φ Hm ρ) ((List.range' j k).map λ(i:Nat)=>D.int (i:Int)) [some (aR n rs),some (.lst .ow ds),l,c3,c4,e,c6,c] =
   ok (.nx,[some (aR n rs),some (.lst .ow (ds++eN n rs .ow j k)),q,w,s,u,m,o])
 |0,j,ds,l,c3,c4,e,c6,c,_,_=>⟨l,c3,c4,e,c6,c,by simp[for_nil,eN]⟩
 |k+1,j,ds,l,c3,c4,e,c6,c,hj,hq=>by
  have J:=I.n2;obtain⟨B,A,z,y,H⟩:=zA Φ x I j (some (.lst .ow ds)) n 0 [] c4 e c6 c (by left) rfl;have C:∀r:a_,bp Φ (.ix (.v 0) (.int 0)) (some (aR n rs)::r)=ok (.int n):=λr=>by simp[aR]
  have g:=BD (Φ:=Φ) (a:=.ix (.v 0) (.int 0)) (ρ:=[some (aR n rs),some (.lst .ow ds),some (.int j),some (.lst .ow (aQ [])),c4,e,c6,c]) (n:=n) (C _) (by left) (by left);rw[zan,zaJ]at g;have p:=iq (Φ:=Φ) (t:=.nm 4) (b:=Hl) g H;rw[zay]at p;obtain⟨q,w,s,u,m,o,E⟩:=zB Φ x I k (j+1) (ds++[.lst .ow (aQ ((List.range' 0 n).map λ(h:Nat)=>bj rs j h))]) (some (.int j)) none B A z y (by left) (by simp[hq]);have G:eN n rs .ow j (k+1)=.lst .ow (aQ ((List.range' 0 n).map λ(h:Nat)=>bj rs j h))::eN n rs .ow (j+1) k:=by unfold eN;rw[List.range'_succ,zag]
  rw[List.range'_succ,zag,G];have F:ds.length<eB:=by show _<1000000;left
  have q0:aQ []=[]:=rfl;refine⟨q,w,s,u,m,o,eV (ρ1:=[some (aR n rs),some (.lst .ow ds),some (.int j),c3,c4,e,c6,c]) (by simp) (ρ2:=[some (aR n rs),some (.lst .ow (ds++[.lst .ow (aQ ((List.range' 0 n).map λ(h:Nat)=>bj rs j h))])),some (.int j),none,B,A,z,y]) ?_ ?_⟩
  ·rw[q0]at p;simp[Hm,p,F]
  ·exact E.trans (by simp)
def wZ(m:aj):Prop:=∀n a,Dr 6 n a->m [aR n a]=ok (.lst .ow (eN n a .ow 0 n))
def Dy(Φ:aU)(h:rQ (Φ 202)):wZ (mk Φ 1 8 lW):=by
 intro n d I;have j:=I.n2;obtain⟨q,p,o,m,l,k,i⟩:=zB Φ h I n 0 [] none none none none none none (by left) rfl;have g:∀r:a_,bp Φ (.ix (.v 0) (.int 0)) (some (aR n d)::r)=ok (.int n):=λr=>by simp[aR]
 have c:=BD (Φ:=Φ) (a:=.ix (.v 0) (.int 0)) (ρ:=[some (aR n d),some (.lst .ow []),none,none,none,none,none,none]) (n:=n) (g _) (by left) (by left);rw[zan,zaJ]at c;have e:=iq (Φ:=Φ) (t:=.nm 2) (b:=Hm) c i;rw[zay]at e;simp[mk_eq,lW,e]
noncomputable def JF:CE:=.comp 1 (.nm 0) [1] .ku [(.ix (.v 0) (.int 0))] [] (.ix (.ix (.v 1) (.v 0)) (.v 0))
def kf:af:=[.asg (.nm 1) (.call 213 [(.v 0)]),.ret JF]
def rT(m:aj):Prop:=∀n a,Dr 6 n a->m [aR n a]=ok (.lst .ow (aQ (eM n a)))
def dW(g:Fl->Fl)(n:Nat)(rs:aq)(f:Fl)(j k:Nat):au g (eN n rs f j k)=eN n rs (g f) j k:=by
 unfold eN;rw[aE,zam];refine aax λx _=>?_;show aB g (.lst f (aQ _))=_;simp
def o_(g:Fl->Bool)(n:Nat)(rs:aq)(f:Fl)(j k:Nat)(h:g f=false):aV g (eN n rs f j k)=false:=cS g (λx=>by simp[h]) (List.range' j k)
def zt{n:Nat}{rs:aq}{k:Nat}(h:k<n):uF (eN n rs f 0 n) (k:Int)=ok (aB ba (.lst f (aQ ((List.range' 0 n).map λ(h:Nat)=>bj rs k h)))):=by
 have:=at_of (ds:=eN n rs f 0 n) (i:=(k:Int)) (d:=.lst f (aQ ((List.range' 0 n).map λ(h:Nat)=>bj rs k h))) (by left) (by
  rw[zan,eN,List.getElem?_map,List.getElem?_range' h];simp)
 exact this
def Be(Φ:aU)(r:wZ (Φ 213)):rT (mk Φ 1 2 kf):=by
 intro n a I;have s:=I.n2;have o:=r n a I;have g:aB aD (aR n a)=aR n a:=by simp[aR]
 have c:aB ba (aR n a)=aR n a:=by simp[aR]
 have j:aR n a=.tup [.int n,.lst .fz (bO a)]:=rfl;have e:nK (aR n a) (.int 0)=ok (.int n):=by rw[j];simp
 have i:bp Φ JF [some (aR n a),some (.lst .ow (eN n a .ow 0 n))]=ok (.lst .ow (aQ (eM n a))):=by
  unfold JF;rw[bW (xs:=[.int n]) (ds:=(List.range n).map λ(k:Nat)=>qD (bj a k k)) (by simp[c,e]) (lL Φ (by omega) (by omega)) (bD λk b=>⟨[some (.int k),some (.lst .fz (eN n a .fz 0 n))],by simp[bx,dW],by simp,?_⟩) (by simp;exact bE (by omega))]
  ·simp[aQ,eM,aE]
  ·rw[zan,zbl]at b;have q:=zt (rs:=a) (f:=.fz) b;have d:=pY (qs:=(List.range' 0 n).map λ(h:Nat)=>bj a k h) (h:=(k:Int)) (by left) (by simp;left);have p:kj ((List.range' 0 n).map λ(h:Nat)=>bj a k h) (k:Int)=bj a k k:=by
    unfold kj;rw[zan,zap,List.getElem?_map,List.getElem?_range' b];simp
   rw[p]at d;simp[dW,q,d]
 have m:fN .ow=.ow:=rfl;have l:=o_ bR n a .ow 0 n rfl;simp[mk_eq,kf,BB Φ JF _ rfl,g,c,o,i,dW,m,l]
theorem ny(Φ:aU):∀(a b:af) (ρ ρ':a_),bN Φ a ρ=ok (.nx,ρ')->bN Φ (a++b) ρ=bN Φ b ρ'
 |[],b,ρ,ρ',h=>by cases h;rfl
 |s::a,b,ρ,ρ',h=>by
  rw[cG]at h;rw[zaZ,cG];cases e:i0 Φ s ρ with
  |none=>rw[e]at h;cases h
  |some r=>cases r with
   |error c=>rw[e]at h;cases h
   |ok r =>
    obtain⟨g,d⟩:=r;rw[e]at h;cases g with
    |nx=>exact ny Φ a b d ρ' h
    |_=>cases h
@[simp]theorem QQ(n x:Nat):(qO n x).length=n:=by simp[qO]
noncomputable def Py(q:Rat):Rat:=if 0<q then 1 / q else 0
def Pm(qs:aC):(qs.map lG).any kL=qs.any λq=>!decide (0<q):=by
 rw[List.any_map];congr 1;funext q;show kL (lG q)=_;unfold lG;by_cases h:0<q
 ·rw[zac h];simp[h];rfl
 ·rw[zab h];simp[h];rfl
def Pn(qs:aC):(qs.map lG).all kK=true:=by
 rw[zaH];intro d a;obtain⟨q,_,rfl⟩:=List.mem_map.mp a;unfold lG;split<;>rfl
def Ep(h:Φ 1036=x_)(f:Fl)(qs:aC):Φ 1036 [.bz,.lst f (qs.map lG)]=ok (.bl (qs.any λq=>!decide (0<q))):=by
 rw[h];show(if (qs.map lG).all kK then ok (D.bl ((qs.map lG).any kL))else none)=_;rw[Pn,Pm];rfl
def HN{qs:aC}(h:∀q∈qs,0<q):qs.map lG=aQ (qs.map Py):=by
 unfold aQ;rw[zam];refine aax λq a=>?_;show lG q=qD (Py q);unfold lG Py;rw[zac (h q a),zac (h q a)]
def sX{i j:Int}(h:i.natAbs<2 ^ 9000)(h':j.natAbs<2 ^ 9000):jm i j=true:=by simp only[jm,big,h,h',decide_true,zbB,zaY]
theorem ur{B:Nat}:∀(l:ae),(∀z∈l,z.natAbs<=B)->l.sum.natAbs<=l.length*B
 |[],_=>by simp
 |z::l,h=>by
  have b:=ur l λx a=>h x (aah _ a);have c:=h z aai;have d:=acA z l.sum;rw[zaq,zae,zbE];left
def Ht(b:Nat)(rs:aq)(a:ae):Int:=((rs.zip a).map λp=>bw b p.1.1*p.2*p.2).sum
def nE(b c:Nat)(rs:aq)(a:ae):Rat:=Rat.divInt ((b:Int)*Ht b rs a - ir b rs a*ir b rs a) ((b:Int)*c*((b:Int)*c))
noncomputable def OQ:CE:=.comp 2 (.tp [0,1]) [] (.cI 1000) [(.ix (.v 2) (.int 1)),(.ix (.v 1) (.int 1))] [] (.bin .mul (.bin .mul (.ix (.v 0) (.int 0)) (.v 1)) (.v 1))
def gW:af:=[.asg (.nm 2) (.call 14 [(.v 0)]),.asg (.nm 3) (.bf .gu [B4]),.asg (.nm 4) (.bf .gu [OQ]),.asg (.nm 5) (.bin .mul (.ix (.v 2) (.int 0)) (.ix (.v 1) (.int 0))),.ret (.call 2 [(.bin .sub (.bin .mul (.ix (.v 2) (.int 0)) (.v 4)) (.bin .mul (.v 3) (.v 3))),(.bin .mul (.v 5) (.v 5))])]
def mR(m:aj):Prop:=∀{P:ae->Prop} k n rs gs (a:Nat),Dp P k n rs->gs.length=rs.length->0<a->a<2 ^ 2000->(∀g∈gs,g.natAbs<2 ^ 2000)->m [.lst .fz (bO rs),.tup [.int a,.lst .fz (ah gs)]]=ok (qD (nE (bA (bU rs)) a rs gs))
def vh(Φ:aU)(N:dj (Φ 2))(S:gn (Φ 14))(H:Φ 1000=rX):mR (mk Φ 2 6 gW):=by
 intro P k n a c d I hl U O o;have Q:=S a k I.A6;obtain⟨b0,b1,_⟩:=I.bot;have t:=λr M=>I.top (r:=r) M;have hlen:=I.len;generalize bA (bU a)=b at *;have i:dR Φ (.cI 1000) [.lst .al (jz b a),.lst .fz (ah c)]=ok ((a.zip c).map λp=>.tup [.tup [.int (bw b p.1.1),.tup (ah p.1.2)],.int p.2]):=by
  show bd (Φ 1000 _) kI=_;rw[H];show ok (au aD (List.zipWith (λx y=>D.tup [x,y]) (jz b a) (ah c)))=_;have:=eh aD (jz b a) (ah c);rw[oS,dv]at this;refine aaU ok (Eq.trans this ?_);unfold jz ah;rw[zbe,List.zip,zbf];rfl
 have pr:∀p∈a.zip c,(bw b p.1.1*p.2).natAbs<2 ^ 2064:=λp g=>by
  have m:=aaY g;rw[zas,show(2064:Nat)=64+2000 from rfl];exact bB (t p.1 m.1) (o p.2 m.2)
 have L:∀r,bp Φ B4 (some (.lst .fz (bO a))::some (.tup [.int d,.lst .fz (ah c)])::some (.tup [.int b,.lst .ow (jz b a)])::r)=ok (.lst .ow (ah ((a.zip c).map λp=>bw b p.1.1*p.2))):=λr=>by
  unfold B4;rw[bW (xs:=[.lst .al (jz b a),.lst .fz (ah c)]) (by simp) i (ds:=(a.zip c).map λp=>.int (bw b p.1.1*p.2)) (bD λp g=>?_) (by simp;exact bE (by left))]
  ·simp[ah,aE]
  ·have m:=aaY g;have e:=kb (j:=p.2) (t p.1 m.1);exact⟨[some (.tup [.int (bw b p.1.1),.tup (ah p.1.2)]),some (.int p.2)],by simp[bx],by simp,by simp[e]⟩
 have s:∀r,bp Φ OQ (some (.lst .fz (bO a))::some (.tup [.int d,.lst .fz (ah c)])::some (.tup [.int b,.lst .ow (jz b a)])::r)=ok (.lst .ow (ah ((a.zip c).map λp=>bw b p.1.1*p.2*p.2))):=λr=>by
  unfold OQ;rw[bW (xs:=[.lst .al (jz b a),.lst .fz (ah c)]) (by simp) i (ds:=(a.zip c).map λp=>.int (bw b p.1.1*p.2*p.2)) (bD λp g=>?_) (by simp;exact bE (by left))]
  ·simp[ah,aE]
  ·have m:=aaY g;have e:=kb (j:=p.2) (t p.1 m.1);have R:dB .mul (.int (bw b p.1.1*p.2)) (.int p.2)=ok (.int (bw b p.1.1*p.2*p.2)):=iF (sX (aaf (pr p g) (aar (by decide) (by decide))) (aaf (o p.2 m.2) (aar (by decide) (by decide))));exact⟨[some (.tup [.int (bw b p.1.1),.tup (ah p.1.2)]),some (.int p.2)],by simp[bx],by simp,by simp[e,R]⟩
 have v:∀l:ae,qk .gu [.lst .ow (ah l)]=ok (.int l.sum):=λl=>by
  show(match intsOf (ah l)with|some ns=>ok (D.int ns.sum)|none=>none)=_;unfold ah;rw[bI]
 have J:qk .gu [.lst .ow (ah ((a.zip c).map λp=>bw b p.1.1*p.2))]=ok (.int (ir b a c)):=v _;have K:qk .gu [.lst .ow (ah ((a.zip c).map λp=>bw b p.1.1*p.2*p.2))]=ok (.int (Ht b a c)):=v _;have u:(ir b a c).natAbs<2 ^ 2100:=by
  have h:=ur (B:=2 ^ 2064) ((a.zip c).map λp=>bw b p.1.1*p.2) λz i=>by
   obtain⟨p,g,rfl⟩:=List.mem_map.mp i;exact acg (pr p g)
  have i:((a.zip c).map λp=>bw b p.1.1*p.2).length<=1000:=by simp;left
  refine aaw (aaS h (Nat.mul_le_mul_right _ i)) ?_;rw[show(2100:Nat)=36+2064 from rfl,Nat.pow_add];exact Nat.mul_lt_mul_of_pos_right (by decide) (Nat.two_pow_pos _)
 have A:((b:Int)).natAbs<2 ^ 64:=by rw[zaz];exact aaf b1 (by decide)
 have G:=kb (j:=(d:Int)) A;have F:=kb (j:=Ht b a c) A;have E:dB .mul (.int (ir b a c)) (.int (ir b a c))=ok (.int (ir b a c*ir b a c)):=iF (sX (aaf u (aar (by decide) (by decide))) (aaf u (aar (by decide) (by decide))));have q:((b:Int)*d).natAbs<2 ^ 2061:=by
  rw[zas,zaz,zaz,show(2061:Nat)=61+2000 from rfl];exact bB b1 O
 have C:dB .mul (.int ((b:Int)*d)) (.int ((b:Int)*d))=ok (.int ((b:Int)*d*((b:Int)*d))):=iF (sX (aaf q (aar (by decide) (by decide))) (aaf q (aar (by decide) (by decide))));have w:=N.1 ((b:Int)*Ht b a c - ir b a c*ir b a c) ((b:Int)*d*((b:Int)*d)) (by
  have:(0:Int)<(b:Int)*d:=Int.mul_pos (by left) (by left);have:=Int.mul_pos this this;left) (by
  rw[zas];exact aaf (bB q q) (aar (by decide) (by decide)))
 change _=ok (qD (nE b d a c))at w;generalize nE b d a c=T at *;simp[mk_eq,gW,Q,L,s,J,K,G,F,E,C,w]
def zh(rs:aq)(ws xs:aC):Rat:=nE (bA (bU rs)) (bA (gj ws xs)) rs (gD rs (gj ws xs))
def mB(m:aj):Prop:=∀k n a f g ws xs j,Dr k n a->Gs j n ws xs->j<=50->m [aR n a,.lst f (aQ ws),.lst g (aQ xs)]=ok (qD (zh a ws xs))
noncomputable def iI:af:=[.ex (.call 17 [(.v 0)]),.ex (.call 46 [(.v 1),(.ix (.v 0) (.int 0))]),.ex (.call 47 [(.v 2),(.ix (.v 0) (.int 0))]),.ret (.call 50 [(.ix (.v 0) (.int 1)),(.call 48 [(.v 0),(.v 1),(.v 2)])])]
def Fw{k n j:Nat}{rs:aq}(I:Dr k n rs)(G:Gs j n ws xs)(x:j<=50):bA (gj ws xs)<2 ^ 2000/\∀g∈gD rs (gj ws xs),g.natAbs<2 ^ 2000:=by
 have o:=I.n2;have d:=G.A6 o;obtain⟨A,c1,y⟩:=d.lcm;have t:(gj ws xs).length=n:=by unfold gj;rw[zaa,zaK,G.l1,G.l2,zbc]
 have c3:bA (gj ws xs)<2 ^ 1201:=aaf c1 (aar (by decide) (by
  rw[t];have:(j+j)*n<=100*12:=aco (by left) o;left))
 refine⟨aaf c3 (aar (by decide) (by decide)),λg p=>?_⟩;unfold gD at p;obtain⟨r,i,rfl⟩:=List.mem_map.mp p;have u:∀z∈r.2.map (kv ((gj ws xs).map (bw (bA (gj ws xs))))),z.natAbs<=2 ^ 1301:=λz c=>by
  obtain⟨h,v,rfl⟩:=List.mem_map.mp c;obtain⟨a,b⟩:=(I.lot r i).2 h v;obtain⟨g,m⟩:=cO (qs:=gj ws xs) a (by rw[t];exact b);have e:kv ((gj ws xs).map (bw (bA (gj ws xs)))) h=bw (bA (gj ws xs)) (kj (gj ws xs) h):=by
   unfold kv;rw[zap,List.getElem?_map,g];rfl
  rw[e];have s:=(d.sm _ m).mono (l:=100) (by left);generalize kj (gj ws xs) h=q at *;unfold bw;rw[zas];have w:((bA (gj ws xs):Int).fdiv q.den).natAbs<=bA (gj ws xs):=by
   rw[zaA _ (by left)];have:=Int.natAbs_ediv_le_natAbs (bA (gj ws xs):Int) (q.den:Int);simpa using this
  have:=bB s.1 (aaw w c3);exact acg this
 have h:=ur (B:=2 ^ 1301) _ u;have hl:=(I.lot r i).len;have c:(r.2.map (kv ((gj ws xs).map (bw (bA (gj ws xs)))))).length<=12:=by rw[zaa];left
 refine aaw (aaS h (Nat.mul_le_mul_right _ c)) ?_;rw[show(2000:Nat)=699+1301 from rfl,Nat.pow_add];refine Nat.mul_lt_mul_of_pos_right ?_ (Nat.two_pow_pos _);exact aaf (show 12<2 ^ 4 by decide) (aar (by decide) (by decide))
def Bh(Φ:aU)(i:b7 (Φ 17))(p:bF 3 bG (Φ 46))(l:bF 4 bG (Φ 47))(B:hZ (Φ 48))(b:mR (Φ 50)):mB (mk Φ 3 3 iI):=by
 intro k n a f g ws xs j I G w;have v:=I.n2;have t:=G.l1;have s:=G.l2;have z:=i k n a I;have e:=λf=>p (.lst f (aQ ws)) n (by show(aQ ws).length<=1000000;simp;left);have d:=λf=>l (.lst f (aQ xs)) n (by show(aQ xs).length<=1000000;simp;left);simp only[e_,t,decide_true,if_true]at e;simp only[e_,s,decide_true,if_true]at d;have y:=λf g=>B k n a f g ws xs j I G;have u:=G.A6 v;obtain⟨A,c1,C⟩:=u.lcm;obtain⟨o,m⟩:=Fw I G w;have x:=b k n a (gD a (gj ws xs)) (bA (gj ws xs)) I (by simp[gD]) A o m;have r:aB aD (aR n a)=aR n a:=by simp[aR]
 have q:aB ba (aR n a)=aR n a:=by simp[aR]
 have c:aR n a=.tup [.int n,.lst .fz (bO a)]:=rfl;have h:nK (aR n a) (.int 0)=ok (.int n):=by rw[c];simp
 have x1:nK (aR n a) (.int 1)=ok (.lst .fz (bO a)):=by rw[c];simp
 simp[mk_eq,iI,r,q,h,x1,z,e,d,y,x];rfl
noncomputable def cL:af:=[.ifs (.or [(.not (.ra (.v 0) .tuple)),(.cmp .ne (.bf .len [(.v 0)]) (.int 2))]) [.rs 8] [],.ifs (.or [(.not (.call 40 [(.ix (.v 0) (.int 0)),(.v 1)])),(.not (.call 40 [(.ix (.v 0) (.int 1)),(.v 1)]))]) [.rs 8] []]
def fB(m:aj):Prop:=∀(n:Nat) f g ws bs,ws.length=n->bs.length=n->n<=12->m [.tup [.lst f (aQ ws),.lst g (aQ bs)],.int n]=ok .bz
def qz(Φ:aU)(c:cB (Φ 40)):fB (mk Φ 2 2 cL):=by
 intro n f g ws bs hw e h;have b:=λf=>c (.lst f (aQ ws)) n (by show(aQ ws).length<=1000000;simp;left);have a:=λf=>c (.lst f (aQ bs)) n (by show(aQ bs).length<=1000000;simp;left);simp only[e_,hw,decide_true]at b;simp only[e_,e,decide_true]at a;have d:∀ds,cM .tuple (.tup ds)=true:=λ_=>rfl;simp[mk_eq,cL,d,b,a]
noncomputable def subQ(xs bs:aC):aC:=(xs.zip bs).map λp=>p.1 - p.2
noncomputable def JM:CE:=.comp 2 (.tp [0,1]) [] (.cI 1000) [(.v 2),(.ix (.v 1) (.int 1))] [] (.call 5 [(.v 0),(.v 1)])
def iJ:af:=[.ex (.call 17 [(.v 0)]),.ex (.call 90 [(.v 1),(.ix (.v 0) (.int 0))]),.ex (.call 47 [(.v 2),(.ix (.v 0) (.int 0))]),.ret JM]
def qa(m:aj):Prop:=∀k n a ws bs f xs,Dr k n a->ws.length=n->Gs 10 n xs bs->m [aR n a,.tup [.lst .fz (aQ ws),.lst .fz (aQ bs)],.lst f (aQ xs)]=ok (.lst .ow (aQ (subQ xs bs)))
def DB(Φ:aU)(u:y2 (Φ 5))(d:b7 (Φ 17))(h:bF 4 bG (Φ 47))(x:fB (Φ 90))(l:Φ 1000=rX):qa (mk Φ 3 3 iJ):=by
 intro k n a ws bs f xs I hw G;have s:=I.n2;have o:=G.l1;have w:=d k n a I;have v:=λf g=>x n f g ws bs hw G.l2 s;have b:=λf=>h (.lst f (aQ xs)) n (by show(aQ xs).length<=1000000;simp;left);simp only[e_,o,decide_true,if_true]at b;have j:aB aD (aR n a)=aR n a:=by simp[aR]
 have i:aB ba (aR n a)=aR n a:=by simp[aR]
 have t:aR n a=.tup [.int n,.lst .fz (bO a)]:=rfl;have c:nK (aR n a) (.int 0)=ok (.int n):=by rw[t];simp
 have q:bp Φ JM [some (aR n a),some (.tup [.lst .fz (aQ ws),.lst .fz (aQ bs)]),some (.lst f (aQ xs))]=ok (.lst .ow (aQ (subQ xs bs))):=by
  unfold JM;rw[bW (xs:=[.lst (ba f) (aQ xs),.lst .fz (aQ bs)]) (by simp) (Cy l ..) (ds:=(xs.zip bs).map λp=>qD (p.1 - p.2)) (bD λp r=>?_) (by simp;exact bE (by left))]
  ·simp[subQ,aQ,aE]
  ·have m:=aaY r;have e:=u p.1 p.2 ((G.s1 _ m.1).mono (by decide)) ((G.s2 _ m.2).mono (by decide));exact⟨[some (qD p.1),some (qD p.2)],by simp[bx,Vk],by simp,by simp[e]⟩
 simp[mk_eq,iJ,BB Φ JM _ rfl,j,i,c,w,v,b,q]
noncomputable def iG:af:=[.asg (.nm 3) (.call 91 [(.v 0),(.v 1),(.v 2)]),.ret (.call 65 [(.v 0),(.ix (.v 1) (.int 0)),(.v 3)])]
def rR(m:aj):Prop:=∀k n a ws bs f xs,Dr k n a->Gs 10 n xs bs->Gs 10 n ws xs->m [aR n a,.tup [.lst .fz (aQ ws),.lst .fz (aQ bs)],.lst f (aQ xs)]=ok (qD (zh a ws (subQ xs bs)))
def Dc{n:Nat}{bs:aC}(G:Gs 10 n xs bs)(b:Gs 10 n ws xs):Gs 21 n ws (subQ xs bs) :=
 ⟨b.l1,by unfold subQ;rw[zaa,zaK,G.l1,G.l2,zbc],λq a=>(b.s1 q a).mono (by decide),λq a=>by
  unfold subQ at a;obtain⟨p,c,rfl⟩:=List.mem_map.mp a;have m:=aaY c;exact((G.s1 _ m.1).sub (G.s2 _ m.2)).mono (by decide),by decide⟩
def Bb(Φ:aU)(i:mB (Φ 65))(j:qa (Φ 91)):rR (mk Φ 3 4 iG):=by
 intro k n a ws bs f xs I G b;have h:=λf=>j k n a ws bs f xs I b.l1 G;have e:=λf g=>i k n a f g ws (subQ xs bs) 21 I (Dc G b) (by decide);have d:aB aD (aR n a)=aR n a:=by simp[aR]
 have c:aB ba (aR n a)=aR n a:=by simp[aR]
 simp[mk_eq,iG,d,c,h,e]
noncomputable def my:af:=[.asg (.nm 1) (.call 53 [(.v 0)]),.ifs (.cI 1036 [.bz,(.v 1)]) [.rs 6] [],.ret (.v 1)]
def uw(m:aj):Prop:=∀k n a,Dr k n a->(∀q∈eM n a,0<q)->m [aR n a]=ok (.lst .ow (aQ ((eM n a).map Py)))
def MI(Φ:aU)(l:lZ (Φ 53))(j:Φ 1036=x_):uw (mk Φ 1 2 my):=by
 intro k n a I c;have d:=l k n a I;have b:=λf=>Ep j f (eM n a);have i:((eM n a).any λq=>!decide (0<q))=false:=by
  rw[List.any_eq_false];intro q h;simp[c q h]
 rw[i]at b;have g:aB aD (aR n a)=aR n a:=by simp[aR]
 have e:aB ba (aR n a)=aR n a:=by simp[aR]
 rw[HN c]at d b;simp[mk_eq,my,g,e,d,b]
noncomputable def jR:af:=[.asg (.nm 2) (.call 94 [(.v 0)]),.ex (.call 47 [(.v 1),(.ix (.v 0) (.int 0))]),.ret (.tup [(.v 2),(.bf .list1 [(.v 1)])])]
def wY(m:aj):Prop:=∀k n a f xs,Dr k n a->(∀q∈eM n a,0<q)->xs.length=n->m [aR n a,.lst f (aQ xs)]=ok (.tup [.lst .fz (aQ ((eM n a).map Py)),.lst .fz (aQ xs)])
def Dx(Φ:aU)(d:bF 4 bG (Φ 47))(m:uw (Φ 94)):wY (mk Φ 2 3 jR):=by
 intro k n a f xs I i h;have o:=I.n2;have l:=m k n a I i;have b:=λf=>d (.lst f (aQ xs)) n (by show(aQ xs).length<=1000000;simp;left);simp only[e_,h,decide_true,if_true]at b;have g:aB aD (aR n a)=aR n a:=by simp[aR]
 have e:aB ba (aR n a)=aR n a:=by simp[aR]
 have j:aR n a=.tup [.int n,.lst .fz (bO a)]:=rfl;have c:nK (aR n a) (.int 0)=ok (.int n):=by rw[j];simp
 simp[mk_eq,jR,g,e,c,l,b]
noncomputable def JH:CE:=.comp 1 (.nm 0) [1,3] .ku [(.ix (.v 0) (.int 0))] [] (.call 19 [(.v 1),(.v 2),(.v 0)])
def Hk:af:=[.app 2 JH]
def iE:af:=[.ex (.call 17 [(.v 0)]),.asg (.nm 1) (.call 14 [(.ix (.v 0) (.int 1))]),.asg (.nm 2) (.lst []),.fr (.nm 3) (.ku (.ix (.v 0) (.int 0))) Hk,.ret (.v 2)]
def iL(m:aj):Prop:=∀k n a,Dr k n a->m [aR n a]=ok (.lst .ow (eN n a .ow 0 n))
theorem zq(Φ:aU)(c:n_ (Φ 19)){d n:Nat}{rs:aq}(I:Dr d n rs):∀(k j:Nat) (ds:aa) (c3:aX),j+k<=12->ds.length=j ->
  ∃a,eW (λd ρ=>cH (.nm 3) d ρ) (λρ=>bN Φ Hk ρ) ((List.range' j k).map λ(i:Nat)=>D.int (i:Int)) [some (aR n rs),some (.tup [.int (bA (bU rs)),.lst .ow (jz (bA (bU rs)) rs)]),some (.lst .ow ds),c3] =
   ok (.nx,[some (aR n rs),some (.tup [.int (bA (bU rs)),.lst .ow (jz (bA (bU rs)) rs)]),some (.lst .ow (ds++eN n rs .ow j k)),a])
 |0,j,ds,c3,_,_=>⟨c3,by simp[for_nil,eN]⟩
 |k+1,j,ds,c3,hj,hq=>by
  have s:=I.n2;have l:aB ba (aR n rs)=aR n rs:=by simp[aR]
  have p:aR n rs=.tup [.int n,.lst .fz (bO rs)]:=rfl;have g:nK (aR n rs) (.int 0)=ok (.int n):=by rw[p];simp
  have m:bp Φ JH [some (aR n rs),some (.tup [.int (bA (bU rs)),.lst .ow (jz (bA (bU rs)) rs)]),some (.lst .ow ds),some (.int j)]=ok (.lst .ow (aQ ((List.range' 0 n).map λ(h:Nat)=>bj rs j h))):=by
   unfold JH;rw[bW (xs:=[.int n]) (ds:=(List.range n).map λ(h:Nat)=>qD (bj rs j h)) (by simp[l,g]) (lL Φ (by left) (by left)) (bD λb t=>?_) (by simp;exact bE (by left))]
   ·simp[aQ,aE,zaJ]
   ·have e:=c d n rs j b I;exact⟨[some (.int b),some (.tup [.int (bA (bU rs)),.lst .fz (jz (bA (bU rs)) rs)]),some (.int j)],by simp[bx],by simp,by simp[e]⟩
  obtain⟨a,o⟩:=zq Φ c I k (j+1) (ds++[.lst .ow (aQ ((List.range' 0 n).map λ(h:Nat)=>bj rs j h))]) (some (.int j)) (by left) (by simp[hq]);have r:eN n rs .ow j (k+1)=.lst .ow (aQ ((List.range' 0 n).map λ(h:Nat)=>bj rs j h))::eN n rs .ow (j+1) k:=by unfold eN;rw[List.range'_succ,zag]
  rw[List.range'_succ,zag,r];have q:ds.length<eB:=by show _<1000000;left
  refine⟨a,eV (ρ1:=[some (aR n rs),some (.tup [.int (bA (bU rs)),.lst .ow (jz (bA (bU rs)) rs)]),some (.lst .ow ds),some (.int j)]) (by simp) (ρ2:=[some (aR n rs),some (.tup [.int (bA (bU rs)),.lst .ow (jz (bA (bU rs)) rs)]),some (.lst .ow (ds++[.lst .ow (aQ ((List.range' 0 n).map λ(h:Nat)=>bj rs j h))])),some (.int j)]) ?_ ?_⟩
  ·simp[Hk,BB Φ JH _ rfl,m,q]
  ·exact o.trans (by simp)
def Ba(Φ:aU)(s:gn (Φ 14))(h:b7 (Φ 17))(q:n_ (Φ 19)):iL (mk Φ 1 4 iE):=by
 intro k n c I;have u:=I.n2;have p:=h k n c I;have o:=s c k I.A6;have i:aB ba (aR n c)=aR n c:=by simp[aR]
 have j:aB aD (aR n c)=aR n c:=by simp[aR]
 have l:aR n c=.tup [.int n,.lst .fz (bO c)]:=rfl;have x1:nK (aR n c) (.int 1)=ok (.lst .fz (bO c)):=by rw[l];simp
 have g:∀r:a_,bp Φ (.ix (.v 0) (.int 0)) (some (aR n c)::r)=ok (.int n):=λr=>by simp[aR]
 obtain⟨w,m⟩:=zq Φ q I n 0 [] none (by left) rfl;have d:=BD (Φ:=Φ) (a:=.ix (.v 0) (.int 0)) (ρ:=[some (aR n c),some (.tup [.int (bA (bU c)),.lst .ow (jz (bA (bU c)) c)]),some (.lst .ow []),none]) (n:=n) (g _) (by left) (by left);rw[zan,zaJ]at d;have e:=iq (Φ:=Φ) (t:=.nm 3) (b:=Hk) d m;rw[zay]at e;simp[mk_eq,iE,j,i,x1,p,o,e]
noncomputable def uQ(p:Int×Int):D:=.tup [.int p.1,.int p.2]
def f_(a:List (Int×Int)):aa:=a.map uQ
@[simp]theorem IE(g:Fl->Fl)(p:Int×Int):aB g (uQ p)=uQ p:=by unfold uQ;simp
@[simp]theorem Jn(g:Fl->Bool)(p:Int×Int):bh g (uQ p)=false:=by unfold uQ;simp
@[simp]theorem Bv(g:Fl->Fl)(a:List (Int×Int)):au g (f_ a)=f_ a:=dH g (IE g) a
@[simp]theorem BU(g:Fl->Bool)(a:List (Int×Int)):aV g (f_ a)=false:=cS g (Jn g) a
@[simp]theorem QR(a:List (Int×Int)):(f_ a).length=a.length:=abS ..
noncomputable def jT(hs a:ae):List (Int×Int):=a.flatMap λg=>hs.map λh=>(g,h)
noncomputable def JN:CE:=.comp 1 (.nm 0) [2] .seq [(.v 0)] [] (.tup [(.v 1),(.v 0)])
def Ho:af:=[.mut 1013 1 [JN]]
def uj:af:=[.asg (.nm 1) (.lst []),.fr (.nm 2) (.seq (.v 0)) Ho,.ret (.v 1)]
def Gz(m:aj):Prop:=∀f a,a.length<=12->bR (ba f)=false->m [.lst f (ah a)]=ok (.lst .ow (f_ (jT a a)))
theorem Ax(Φ:aU)(j:Φ 1013=FG)(f:Fl)(hs:ae)(hl:hs.length<=12):∀(b:ae) (a:List (Int×Int)) (c:aX),a.length+12*b.length<=200 ->
  ∃e,eW (λd ρ=>cH (.nm 2) d ρ) (λρ=>bN Φ Ho ρ) (ah b) [some (.lst f (ah hs)),some (.lst .ow (f_ a)),c]=ok (.nx,[some (.lst f (ah hs)),some (.lst .ow (f_ (a++jT hs b))),e])
 |[],a,c,_=>⟨c,by simp[for_nil,jT]⟩
 |g::b,a,c,h=>by
  rw[zae]at h;have k:bp Φ JN [some (.lst f (ah hs)),some (.lst .ow (f_ a)),some (.int g)]=ok (.lst .ow (f_ (hs.map λh=>(g,h)))):=by
   unfold JN;rw[bW (xs:=[.lst (ba f) (ah hs)]) (items:=hs.map D.int) (ds:=hs.map λh=>uQ (g,h)) (by simp) (by rw[dq,dv];rfl) (bD λh o=>⟨[some (.int h),some (.int g)],by simp[bx],by simp,by simp[uQ]⟩) (by simp;exact bE (by left))];simp[f_,aE]
  have n:Φ 1013 [.lst .ow (f_ a),.lst .ow (f_ (hs.map λh=>(g,h)))]=ok (.lst .ow (f_ (a++hs.map λh=>(g,h)))):=by
   rw[j];show(if aV anyF (f_ (hs.map λh=>(g,h)))=false/\(f_ a).length+(f_ (hs.map λh=>(g,h))).length<=eB then ok (D.lst .ow (f_ a++f_ (hs.map λh=>(g,h))))else none)=_;rw[zac ⟨BU _ _,by simp;exact bE (by left)⟩];unfold f_;rw[zax]
  have m:=CB (Φ:=Φ) (p:=1013) (i:=1) (es:=[JN]) (ρ:=[some (.lst f (ah hs)),some (.lst .ow (f_ a)),some (.int g)]) (xs:=[.lst .ow (f_ (hs.map λh=>(g,h)))]) (by simp[k]) (by simp) rfl n;obtain⟨e,l⟩:=Ax Φ j f hs hl b (a++hs.map λh=>(g,h)) (some (.int g)) (by simp;left);refine⟨e,eV (ρ1:=[some (.lst f (ah hs)),some (.lst .ow (f_ a)),some (.int g)]) (by simp) (ρ2:=[some (.lst f (ah hs)),some (.lst .ow (f_ (a++hs.map λh=>(g,h)))),some (.int g)]) ?_ ?_⟩
  ·rw[Ho,cG,m];simp
  ·refine l.trans ?_;simp[jT]
def ML(Φ:aU)(g:Φ 1013=FG):Gz (mk Φ 1 3 uj):=by
 intro f a hl h;obtain⟨c,i⟩:=Ax Φ g f a hl a [] none (by simp;left);have d:eP Φ (.seq (.v 0)) [some (.lst f (ah a)),some (.lst .ow []),none]=ok (ah a,[some (.lst f (ah a)),some (.lst .ow []),none]):=by
  rw[IZ (f:=ba f) (ds:=ah a) (by simp)];cases f<;>simp[bR,ba]at h ⊢
 have e:=iq (Φ:=Φ) (t:=.nm 2) (b:=Ho) d i;rw[zay]at e;simp[mk_eq,uj,e]
noncomputable def lU:af:=[.ret (.ix (.ix (.v 0) (.ix (.v 1) (.int 0))) (.ix (.v 1) (.int 1)))]
noncomputable def ui:af:=[.ret (.call 6 [(.ix (.ix (.v 0) (.ix (.v 1) (.int 0))) (.ix (.v 1) (.int 0))),(.ix (.ix (.v 0) (.ix (.v 1) (.int 1))) (.ix (.v 1) (.int 1)))])]
def wX(m:aj):Prop:=∀n rs (g h:Nat),g<n->h<n->m [.lst .fz (eN n rs .fz 0 n),uQ (g,h)]=ok (qD (bj rs g h))
def Gy(m:aj):Prop:=∀k n rs (g h:Nat),Dr k n rs->g<n->h<n->m [.lst .fz (eN n rs .fz 0 n),uQ (g,h)]=ok (qD (bj rs g g*bj rs h h))
def xT{n:Nat}{rs:aq}{g h:Nat}(b:h<n):uF (aQ ((List.range' 0 n).map λ(h:Nat)=>bj rs g h)) (h:Int)=ok (qD (bj rs g h)):=by
 have a:=pY (qs:=(List.range' 0 n).map λ(h:Nat)=>bj rs g h) (h:=(h:Int)) (by left) (by simp;left);have c:kj ((List.range' 0 n).map λ(h:Nat)=>bj rs g h) (h:Int)=bj rs g h:=by
  unfold kj;rw[zan,zap,List.getElem?_map,List.getElem?_range' b];simp
 rw[c]at a;exact a
@[simp]theorem XB(p:Int×Int):nK (uQ p) (.int 0)=ok (.int p.1):=by unfold uQ;simp
@[simp]theorem XA(p:Int×Int):nK (uQ p) (.int 1)=ok (.int p.2):=by unfold uQ;simp
def Dw(Φ:aU):wX (mk Φ 2 2 lU):=by
 intro n a g h c b;have e:=zt (rs:=a) (f:=.fz) c;have d:=xT (rs:=a) (g:=g) b;simp[mk_eq,lU,dW,e,d]
def MK(Φ:aU)(d:kl (Φ 6)):Gy (mk Φ 2 2 ui):=by
 intro k n a g h I c b;have m:=zt (rs:=a) (f:=.fz) c;have l:=xT (rs:=a) (g:=g) c;have j:=zt (rs:=a) (f:=.fz) b;have i:=xT (rs:=a) (g:=h) b;have e:=d _ _ ((gx I g g).mono (by decide)) ((gx I h h).mono (by decide));simp[mk_eq,ui,dW,m,l,j,i,e]
def RI(rs:aq)(ws xs:aC)(g h:Int):Rat:=(bj rs g h - bj rs g g*bj rs h h)*(kj ws g*kj xs g*(kj ws h*kj xs h))
noncomputable def nW:af:=[.asg (.nm 4) (.call 6 [(.ix (.v 2) (.ix (.v 1) (.int 0))),(.ix (.v 3) (.ix (.v 1) (.int 0)))]),.asg (.nm 5) (.call 6 [(.ix (.v 2) (.ix (.v 1) (.int 1))),(.ix (.v 3) (.ix (.v 1) (.int 1)))]),.ret (.call 6 [(.call 5 [(.call 62 [(.v 0),(.v 1)]),(.call 61 [(.v 0),(.v 1)])]),(.call 6 [(.v 4),(.v 5)])])]
def AE(m:aj):Prop:=∀k n rs f f' ws xs j (g h:Nat),Dr k n rs->Gs j n ws xs->g<n->h<n->m [.lst .fz (eN n rs .fz 0 n),uQ (g,h),.lst f (aQ ws),.lst f' (aQ xs)]=ok (qD (RI rs ws xs g h))
def HH(Φ:aU)(s:y2 (Φ 5))(a:kl (Φ 6))(l:Gy (Φ 61))(i:wX (Φ 62)):AE (mk Φ 4 6 nW):=by
 intro k n p f J ws xs j g h I G r q;have H:=G.jj;have F:=G.l1;have E:=G.l2;have e:=G.s1 _ (cO (qs:=ws) (h:=(g:Int)) (by left) (by left)).2;have d:=G.s1 _ (cO (qs:=ws) (h:=(h:Int)) (by left) (by left)).2;have c:=G.s2 _ (cO (qs:=xs) (h:=(g:Int)) (by left) (by left)).2;have b:=G.s2 _ (cO (qs:=xs) (h:=(h:Int)) (by left) (by left)).2;have D:=pY (qs:=ws) (h:=(g:Int)) (by left) (by left);have C:=pY (qs:=ws) (h:=(h:Int)) (by left) (by left);have B:=pY (qs:=xs) (h:=(g:Int)) (by left) (by left);have A:=pY (qs:=xs) (h:=(h:Int)) (by left) (by left);have z:=a _ _ (e.mono (by left)) (c.mono (by left));have y:=a _ _ (d.mono (by left)) (b.mono (by left));have x:=a _ _ ((e.mul c).mono (by left)) ((d.mul b).mono (by left));have w:=l k n p g h I r q;have v:=i n p g h r q;have o:=gx I g h;have m:=(gx I g g).mul (gx I h h);have u:=s _ _ (o.mono (by decide)) (m.mono (by decide));have t:=a _ _ ((o.sub m).mono (by decide)) (((e.mul c).mul (d.mul b)).mono (by left));simp[mk_eq,nW,dW,D,C,B,A,z,y,x,w,v,u,t];rfl
noncomputable def OU:CE:=.comp 1 (.nm 0) [3,1,2] .seq [(.call 60 [(.v 4)])] [] (.call 63 [(.v 1),(.v 0),(.v 2),(.v 3)])
def eY:af:=[.asg (.nm 3) (.call 21 [(.v 0)]),.ex (.call 46 [(.v 1),(.ix (.v 0) (.int 0))]),.ex (.call 47 [(.v 2),(.ix (.v 0) (.int 0))]),.asg (.nm 4) (.cI 1041 [(.ix (.v 0) (.int 0))]),.ret (.call 42 [OU])]
def psQ(n:Nat)(rs:aq)(ws xs:aC):Rat:=((jT (lq n) (lq n)).map λp=>RI rs ws xs p.1 p.2).sum
def p9(m:aj):Prop:=∀k n a f g ws xs j i,Dr k n a->Gs j n ws xs->(∀g h,Sm i (bj a g h))->(3*i+1+4*j)*(n*n)<=3000->m [aR n a,.lst f (aQ ws),.lst g (aQ xs)]=ok (qD (psQ n a ws xs))
def zd(n:Nat):(lq (n:Int)).length=n:=by simp[lq]
def nA{n:Nat}{h:Int}:h∈lq (n:Int) ↔ ∃k:Nat,k<n/\h=k:=by
 unfold lq;simp[eq_comm]
def wR{hs a:ae}{p:Int×Int}:p∈jT hs a ↔ p.1∈a/\p.2∈hs:=by
 unfold jT;simp only[List.mem_flatMap,List.mem_map];constructor
 ·rintro ⟨g,c,h,b,rfl⟩;exact⟨c,b⟩
 ·rintro ⟨e,d⟩;exact⟨p.1,e,p.2,d,rfl⟩
theorem wU(hs:ae):∀a:ae,(jT hs a).length=a.length*hs.length
 |[]=>by simp[jT]
 |g::a=>by
  have e:jT hs (g::a)=(hs.map λh=>(g,h))++jT hs a:=by simp[jT]
  rw[e,zah,zaa,wU hs a,zae,zbE];left
def xP(Φ:aU)(Lg:iL (Φ 21))(Z:jb (Φ 42))(K:bF 3 bG (Φ 46))(J:bF 4 bG (Φ 47))(u:Gz (Φ 60))(t:AE (Φ 63))(TU:Φ 1041=Sd):p9 (mk Φ 3 5 eY):=by
 intro k n c f g ws xs j i I G s d;have r:=I.n2;have O:=G.l1;have N:=G.l2;have X:=Lg k n c I;have A:=λf=>K (.lst f (aQ ws)) n (by show(aQ ws).length<=1000000;simp;left);have z:=λf=>J (.lst f (aQ xs)) n (by show(aQ xs).length<=1000000;simp;left);simp only[e_,O,decide_true,if_true]at A;simp only[e_,N,decide_true,if_true]at z;have W:Φ 1041 [.int (n:Int)]=ok (.lst .ow (ah (lq n))):=by
  rw[TU];show(if (n:Int)<=eB /\ -eB<=(n:Int)then ok (D.lst .ow ((lq n).map D.int))else none)=_;rw[zac ⟨by show(n:Int)<=1000000;left,by show -1000000<=(n:Int);left⟩];rfl
 have V:=u .fz (lq n) (by rw[zd];exact r) rfl;have L:aB ba (aR n c)=aR n c:=by simp[aR]
 have M:aB aD (aR n c)=aR n c:=by simp[aR]
 have R:aR n c=.tup [.int n,.lst .fz (bO c)]:=rfl;have B:nK (aR n c) (.int 0)=ok (.int n):=by rw[R];simp
 have hlen:=wU (lq n) (lq n);rw[zd]at hlen;have Y:n*n<=144:=aco r r;have P:bp Φ OU [some (aR n c),some (.lst f (aQ ws)),some (.lst g (aQ xs)),some (.lst .ow (eN n c .ow 0 n)),some (.lst .ow (ah (lq n)))]=ok (.lst .ow (aQ ((jT (lq n) (lq n)).map λp=>RI c ws xs p.1 p.2))):=by
  unfold OU;rw[bW (xs:=[.lst .ow (f_ (jT (lq n) (lq n)))]) (items:=(jT (lq n) (lq n)).map uQ) (ds:=(jT (lq n) (lq n)).map λp=>qD (RI c ws xs p.1 p.2)) (by simp[V]) (by rw[dq,Bv];rfl) (bD λp o=>⟨[some (uQ p),some (.lst .fz (eN n c .fz 0 n)),some (.lst (aD f) (aQ ws)),some (.lst (aD g) (aQ xs))],by simp[bx,dW],by simp,?_⟩) (by simp;exact bE (by left))]
  ·simp[aQ,aE]
  ·obtain⟨m,l⟩:=wR.mp o;obtain⟨a,y,w⟩:=nA.mp m;obtain⟨b,d,v⟩:=nA.mp l;have x:p=((a:Int),(b:Int)):=Prod.ext w v;subst x;have e:=λf g=>t k n c f g ws xs j a b I G y d;simp[dW,e]
 have U:=λf=>Z f ((jT (lq n) (lq n)).map λp=>RI c ws xs p.1 p.2) (3*i+1+4*j) ⟨λq Q=>by
  obtain⟨p,o,rfl⟩:=List.mem_map.mp Q;obtain⟨m,l⟩:=wR.mp o;obtain⟨a,y,w⟩:=nA.mp m;obtain⟨b,d,v⟩:=nA.mp l;have x:p=((a:Int),(b:Int)):=Prod.ext w v;subst x;have H:=G.s1 _ (cO (qs:=ws) (h:=(a:Int)) (by left) (by left)).2;have F:=G.s1 _ (cO (qs:=ws) (h:=(b:Int)) (by left) (by left)).2;have E:=G.s2 _ (cO (qs:=xs) (h:=(a:Int)) (by left) (by left)).2;have C:=G.s2 _ (cO (qs:=xs) (h:=(b:Int)) (by left) (by left)).2;exact(((s a b).sub ((s a a).mul (s b b))).mul ((H.mul E).mul (F.mul C))).mono (by left),by rw[zaa,hlen];exact d,by rw[zaa,hlen];left⟩
 have T:fN .ow=.ow:=rfl;have S:=o_ bR n c .ow 0 n rfl;simp[mk_eq,eY,M,L,B,X,A,z,W,P,U,dW,T,S];rfl
def ID{n:Nat}{rs:aq}{c:aC}(I:Dr 6 n rs)(hw:ws.length=n)(m:c.length=n)(j:∀q∈ws,Sm 6 q)(i:∀q∈c,Sm 13 q):Sm 2481 (q_ rs ws c):=by
 have p:=I.tR;have o:=I.n2;have h:=Sm.sum (k:=247) (qs:=rs.map λr=>r.1*mZ r.2 λh=>kj ws h*kj c h) λq d=>by
  obtain⟨r,e,rfl⟩:=List.mem_map.mp d;have hl:=I.lot r e;have hlen:=hl.len;have g:=Sm.sum (k:=19) (qs:=r.2.map λh=>kj ws h*kj c h) λq d=>by
   obtain⟨h,l,rfl⟩:=List.mem_map.mp d;obtain⟨a,b⟩:=hl.2 h l;exact(j _ (cO (qs:=ws) a (by left)).2).mul (i _ (cO (qs:=c) a (by left)).2)
  rw[zaa]at g;exact((I.sm r e).mul g).mono (by left)
 rw[zaa]at h;exact h.mono (by left)
noncomputable def lV:af:=[.asg (.nm 3) (.call 91 [(.v 0),(.v 1),(.v 2)]),.ret (.call 4 [(.call 52 [(.ix (.v 1) (.int 1))]),(.call 51 [(.v 0),(.ix (.v 1) (.int 0)),(.v 3)])])]
def AF(m:aj):Prop:=∀n a ws bs f xs,Dr 6 n a->Gs 6 n xs bs->Gs 6 n ws xs->m [aR n a,.tup [.lst .fz (aQ ws),.lst .fz (aQ bs)],.lst f (aQ xs)]=ok (qD (bs.sum+q_ a ws (subQ xs bs)))
def Gs.up{i j n:Nat}(G:Gs i n ws xs)(h:i<=j)(b:j<=100):Gs j n ws xs:=⟨G.l1,G.l2,λq a=>(G.s1 q a).mono h,λq a=>(G.s2 q a).mono h,b⟩
def HI(Φ:aU)(s:rQ (Φ 4))(x:ja (Φ 51))(y:k7 (Φ 52))(z:qa (Φ 91)):AF (mk Φ 3 4 lV):=by
 intro n a ws bs f xs I G b;have C:=I.n1;have B:=I.n2;have e:=G.up (j:=10) (by decide) (by decide);have A:=b.up (j:=10) (by decide) (by decide);have d:=Dc e A;have w:=λf=>z 6 n a ws bs f xs I b.l1 e;have v:=λf g=>x 6 n a f g ws (subQ xs bs) 21 I d;have o:=G.l2;have u:=λf=>y f bs 6 (by left) (by left) ⟨G.s2,by left,by left⟩;have i:=Sm.sum G.s2;have h:=ID I b.l1 d.l2 b.s1 λq c=>by
  unfold subQ at c;obtain⟨p,r,rfl⟩:=List.mem_map.mp c;have m:=aaY r;exact(G.s1 _ m.1).sub (G.s2 _ m.2)
 have t:=s bs.sum _ (i.mono (by rw[o];left)) (h.mono (by decide));have l:aB aD (aR n a)=aR n a:=by simp[aR]
 have k:aB ba (aR n a)=aR n a:=by simp[aR]
 simp[mk_eq,lV,l,k,w,v,u,t]
noncomputable def O2:CE:=.comp 1 (.nm 0) [] .seq [(.call 233 [(.v 0)])] [(.cmp .eq (.ix (.v 0) (.int 0)) (.int 0))] (.v 0)
def Ka:af:=[.ret (.cmp .eq (.bf .len [O2]) (.int 0))]
def UW(m:aj):Prop:=∀n a,Dr 6 n a->m [aR n a]=ok (.bl (decide ((eM n a).filter (λq=>decide (q=0))=[])))
def WQ(Φ:aU)(j:rT (Φ 233)):UW (mk Φ 1 1 Ka):=by
 intro n a I;have m:=I.n2;have hl:=Hx n a;have i:=j n a I;have c:aB aD (aR n a)=aR n a:=by simp[aR]
 have b:aB ba (aR n a)=aR n a:=by simp[aR]
 have d:bp Φ O2 [some (aR n a)]=ok (.lst .ow (aQ ((eM n a).filter λq=>decide (q=0)))):=by
  unfold O2;rw[bW (xs:=[.lst .ow (aQ (eM n a))]) (items:=aQ (eM n a)) (ds:=((eM n a).filter λq=>decide (q=0)).map qD) (by simp[c,b,i]) (by rw[dq,oT]) (gU λq k=>⟨[some (qD q)],by simp[bx],?_,λ_=>by simp⟩) (by
   have:=List.length_filter_le (λq=>decide (q=0)) (eM n a);simp only[zaa];exact bE (by left))]
  ·show ok (D.lst .ow (au fN (aQ _)))=_;rw[oT]
  ·have h:qD q=.tup [.int q.num,.int q.den]:=rfl;have g:gd .eq (.int q.num) (.int 0)=ok (.bl (decide (q=0))):=by
    rw[yU rfl rfl];show ok (D.bl (q.num==0))=_;have:(q.num==0)=decide (q=0):=by
     rw[show(q.num==0)=decide (q.num=0) from rfl];exact decide_eq_decide.mpr Rat.num_eq_zero
    rw[this]
   rw[h];simp[g]
 have e:gd .eq (.int (((eM n a).filter λq=>decide (q=0)).length:Int)) (.int 0)=ok (.bl (decide ((eM n a).filter (λq=>decide (q=0))=[]))):=by
  rw[yU rfl rfl];show ok (D.bl ((((eM n a).filter λq=>decide (q=0)).length:Int)==0))=_;generalize (eM n a).filter (λq=>decide (q=0))=l;cases l with
  |nil=>rfl
  |cons x l =>
   have:(((x::l).length:Int)==0)=false:=by rw[beq_eq_false_iff_ne,zae];left
   rw[this];rfl
 simp[mk_eq,Ka,c,b,d,e]
def wb{g:Nat}{xs:aa}{r:D}(b:bL Φ es ρ=ok xs)(a:Φ g (au aD xs)=ok r):i0 Φ (.ex (.call g es)) ρ=ok (.nx,ρ):=by
 rw[Wc];rw[yJ,b,Gf];show bd (T8 (Φ g (au aD xs))) _=_;rw[a];rfl
def yX(p:D->Int->Bool)(ds:aa):Prop:=∃(d:D) (n:Int),ds=[d,.int n]/\du d/\p d n=false
def Uk{Ψ:Nat->aa->Prop}{f c:Nat}{p:D->Int->Bool}(b:∀g d n,p (aB g d) n=p d n)(a:∀g d,du d->du (aB g d))(h:∀d n,du d->Φ f [d,.int n]=ok (.bl (p d n)))(i:yX p ds):ds.length=2/\Er Φ Ψ c (gh f c) (ds.map some++List.replicate (2 - ds.length) none):=by
 obtain⟨d,n,rfl,j,k⟩:=i;have e:=h (aB aD (aB ba d)) n (a _ _ (a _ _ j));rw[b,b,k]at e;exact⟨rfl,.hd (.Cp (by simp[e]) (.hd .rs))⟩
section
variable {Φ:aU}{k n:Nat}{rs:aq}(I:Dr k n rs)
abbrev prO(n:Nat)(rs:aq):D:=.lst .ow (eN n rs .ow 0 n)
include I
def KP(h:iL (Φ 21)){i:Nat}{t:a_}(c:i<t.length):i0 Φ (.asg (.nm (i+1)) (.call 21 [(.v 0)])) (some (aR n rs)::t)=ok (.nx,some (aR n rs)::t.set i (some (prO n rs))):=by
 have g:=h k n rs I;have b:aB aD (aR n rs)=aR n rs:=by simp[aR]
 have a:aB ba (aR n rs)=aR n rs:=by simp[aR]
 have e:fN .ow=.ow:=rfl;have d:=o_ bR n rs .ow 0 n rfl;simp[b,a,g,dW,e,d,c]
omit I
def wc{j:Nat}{t:a_}{a:D}(h:t[j]?=some (some a))(e:Fz a):bL Φ [(.v (j+1)),(.ix (.v 0) (.int 0))] (some (aR n rs)::t)=ok [a,.int n]:=by
 have d:aR n rs=.tup [.int n,.lst .fz (bO rs)]:=rfl;have c:aB ba (aR n rs)=aR n rs:=by simp[aR]
 have b:nK (aR n rs) (.int 0)=ok (.int n):=by rw[d];simp
 simp[h,e.al,c,b]
def Li{a:D}{m:Int}(b:Fz a):au aD [a,.int m]=[a,.int m]:=by simp[b.fz]
end
def ro(qs:aC):Fz (.lst .fz (aQ qs)):=⟨by simp[aD],by simp[ba],by simp[cQ]⟩
def Zv{c:Nat}{m:aj}(h:bF c bG m){n:Nat}(a:n<=12)(hl:ws.length=n):m [.lst .fz (aQ ws),.int n]=ok .bz:=by
 have e:=h (.lst .fz (aQ ws)) n (by show(aQ ws).length<=1000000;simp;left);simp only[e_,hl,decide_true,if_true]at e;exact e
end DI
end
section
set_option maxHeartbeats 1000000
namespace DI
open PySem (Str)
def kE{a b:Type}{x:O a}{f:a->O b}{n:Nat}(h:x=some (.error n)):bd x f=some (.error n):=by rw[h];rfl
variable {Φ:aU}{ρ:a_}
def nU{g n:Nat}{es:aA}{xs:aa}(b:bL Φ es ρ=ok xs)(a:Φ g (au aD xs)=some (.error n)):bp Φ (.call g es) ρ=some (.error n):=by
 show bd (bL Φ es ρ) (λxs=>bd (Φ g (au aD xs)) λr=>ok (aB fN r))=_;rw[b,Ar,a];rfl
mutual
theorem qm.err{Φ:aU}{Ψ:Nat->aa->Prop}{n:Nat}(d:∀g e,Ψ g e->Φ g e=some (.error n)):∀{c:CS} {ρ:a_},qm Φ Ψ n c ρ->i0 Φ c ρ=some (.error n)
 |_,_,.ex h1 h2=>kE (nU h1 (d _ _ h2))
 |_,_,.asg h1 h2=>kE (kE (nU h1 (d _ _ h2)))
 |_,_,.ret h1 h2=>kE (kE (nU h1 (d _ _ h2)))
 |_,_,.WU h1 h2=>kE (kE (kE (by rw[bL];exact kE (nU h1 (d _ _ h2)))))
 |_,_,.rs=>rfl
 |_,_,.Cp (c:=c) (a:=a) (b:=b) (ρ:=ρ) h1 h2=>by
  show bd (lr Φ c ρ) (λk=>if k then bN Φ a ρ else bN Φ b ρ)=_;rw[h1,Ar];exact Er.err d h2
 |_,_,.iff (c:=c) (a:=a) (b:=b) (ρ:=ρ) h1 h2=>by
  show bd (lr Φ c ρ) (λk=>if k then bN Φ a ρ else bN Φ b ρ)=_;rw[h1,Ar];exact Er.err d h2
theorem Er.err{Φ:aU}{Ψ:Nat->aa->Prop}{n:Nat}(d:∀g e,Ψ g e->Φ g e=some (.error n)):∀{cs:af} {ρ:a_},Er Φ Ψ n cs ρ->bN Φ cs ρ=some (.error n)
 |_,_,.hd (c:=c) (cs:=cs) (ρ:=ρ) h=>by
  rw[cG];unfold mG;exact kE (qm.err d h)
 |_,_,.tl (c:=c) (cs:=cs) (ρ:=ρ) h1 h2=>by
  rw[cG];unfold mG;rw[h1,Ar];exact Er.err d h2
end
def Uh{d:D}{t:a_}(f:Fz d):bL Φ [(.v 0)] (some d::t)=ok [d]:=by simp[f.al]
def T9{d:D}(f:Fz d):au aD [d]=[d]:=by simp[f.fz]
def kM(n:Nat)(rs:aq):Fz (aR n rs):=⟨by simp[aR],by simp[aR],by simp[aR,cQ]⟩
def XD(k:Nat)(ds:aa):Prop:=∃(d:D) (xs:aa),LR d/\xs.length=k/\ds=d::xs
section
variable {Φ:aU}{Ψ:Nat->aa->Prop}{e:Nat}{ds:aa}{b:af}{m:Nat}
def uJ{g k:Nat}(h:∀ds,XD 0 ds->Ψ g ds)(a:XD k ds):ds.length=k+1/\Er Φ Ψ e (.ex (.call g [(.v 0)])::b) (ds.map some++List.replicate (m - ds.length) none):=by
 obtain⟨d,c,B,hl,rfl⟩:=a;exact⟨by simp[hl],.hd (.ex (Uh B.fz) (by rw[T9 B.fz];exact h _ ⟨d,[],B,rfl,rfl⟩))⟩
def y4{g k i:Nat}(h:∀ds,XD 0 ds->Ψ g ds)(a:XD k ds):ds.length=k+1/\Er Φ Ψ e (.asg (.nm i) (.call g [(.v 0)])::b) (ds.map some++List.replicate (m - ds.length) none):=by
 obtain⟨d,c,B,hl,rfl⟩:=a;exact⟨by simp[hl],.hd (.asg (Uh B.fz) (by rw[T9 B.fz];exact h _ ⟨d,[],B,rfl,rfl⟩))⟩
def Lo(f:∀d,LR d->Φ 16 [d]=ok (.bl false))(a:XD 0 ds):ds.length=1/\Er Φ Ψ e [.ifs (.not (.call 16 [(.v 0)])) [.rs e] []] (ds.map some++List.replicate (1 - ds.length) none):=by
 obtain⟨d,g,B,hl,rfl⟩:=a;obtain rfl:=List.length_eq_zero_iff.mp hl;have c:=f d B;exact⟨rfl,.hd (.Cp (by simp[B.fz.al,B.fz.fz,c]) (.hd .rs))⟩
def Ul(c:∀ds,XD 0 ds->Ψ 20 ds)(a:XD 0 ds):ds.length=1/\Er Φ Ψ e i8 (ds.map some++List.replicate (1 - ds.length) none):=by
 obtain⟨d,f,B,hl,rfl⟩:=a;obtain rfl:=List.length_eq_zero_iff.mp hl;exact⟨rfl,.hd (.WU (Uh B.fz) (by rw[T9 B.fz];exact c _ ⟨d,[],B,rfl,rfl⟩))⟩
def XW(j:Nat)(ds:aa):Prop:=∃(k n:Nat) (rs:aq) (a:D) (xs:aa),Dr k n rs/\Fz a/\du a/\bG a n=false/\xs.length=j/\ds=aR n rs::a::xs
def XH(ds:aa):Prop:=∃(k n:Nat) (rs:aq) (ws:aC) (c:D),Dr k n rs/\ws.length=n/\Fz c/\du c/\bG c n=false/\ds=[aR n rs,.lst .fz (aQ ws),c]
def X3(e:Nat)(ds:aa):Prop:=(e=1/\XD 2 ds)\/(e=3/\XW 1 ds)\/(e=4/\XH ds)
def JP{k n:Nat}{rs:aq}{t:a_}(a:b7 (Φ 17))(I:Dr k n rs):i0 Φ (.ex (.call 17 [(.v 0)])) (some (aR n rs)::t)=ok (.nx,some (aR n rs)::t) :=
 wb (Uh (kM n rs)) (by rw[T9 (kM n rs)];exact a k n rs I)
def y7{t:a_}(i:bF 3 bG (Φ 46))(q:e=3->∀ds,yX bG ds->Ψ 46 ds)(r:e=4->∀ds,yX bG ds->Ψ 47 ds){n:Nat}{rs:aq}{a c:D}(o:n<=12)(h:(e=3/\Fz a/\du a/\bG a n=false)\/(e=4/\Fz c/\du c/\bG c n=false/\∃d:aC,d.length=n/\a=.lst .fz (aQ d))):
  Er Φ Ψ e (.ex (.call 46 [(.v 1),(.ix (.v 0) (.int 0))])::.ex (.call 47 [(.v 2),(.ix (.v 0) (.int 0))])::b) (some (aR n rs)::some a::some c::t):=by
 rcases h with ⟨f,fa,ca,l⟩|⟨f,g,p,k,d,hl,rfl⟩
 ·exact .hd (.ex (wc (j:=0) rfl fa) (by rw[Li fa];exact q f _ ⟨a,n,rfl,ca,l⟩))
 ·exact .tl (wb (wc (j:=0) rfl (ro _)) (by rw[Li (ro _)];exact Zv i o hl)) (.hd (.ex (wc (j:=1) rfl g) (by rw[Li g];exact r f _ ⟨c,n,rfl,p,k⟩)))
def y6(f:b7 (Φ 17))(g:bF 3 bG (Φ 46))(yk:e=1->∀ds,XD 0 ds->Ψ 17 ds)(i:e=3->∀ds,yX bG ds->Ψ 46 ds)(j:e=4->∀ds,yX bG ds->Ψ 47 ds)(h:X3 e ds):
  ds.length=3/\Er Φ Ψ e (.ex (.call 17 [(.v 0)])::.ex (.call 46 [(.v 1),(.ix (.v 0) (.int 0))])::.ex (.call 47 [(.v 2),(.ix (.v 0) (.int 0))])::b) (ds.map some++List.replicate (m - ds.length) none):=by
 rcases h with ⟨d,h⟩|⟨d,k,n,o,a,t,I,fa,ca,q,hl,rfl⟩|⟨d,k,n,o,l,c,I,hl,r,s,p,rfl⟩
 ·exact uJ (yk d) h
 ·obtain⟨c,rfl⟩:=List.length_eq_one_iff.mp hl;exact⟨rfl,.tl (JP f I) (y7 g i j I.n2 (.inl ⟨d,fa,ca,q⟩))⟩
 ·exact⟨rfl,.tl (JP f I) (y7 g i j I.n2 (.inr ⟨d,r,s,p,l,hl,rfl⟩))⟩
def CK(j:iL (Φ 21))(g:bF 3 bG (Φ 46))(So:e=1->∀ds,XD 0 ds->Ψ 21 ds)(l:e=3->∀ds,yX bG ds->Ψ 46 ds)(o:e=4->∀ds,yX bG ds->Ψ 47 ds)(h:X3 e ds):
  ds.length=3/\Er Φ Ψ e eY (ds.map some++List.replicate (5 - ds.length) none):=by
 rcases h with ⟨d,h⟩|⟨d,k,n,p,a,v,I,fa,ca,r,hl,rfl⟩|⟨d,k,n,p,f,c,I,hl,s,u,q,rfl⟩
 ·exact y4 (So d) h
 ·obtain⟨c,rfl⟩:=List.length_eq_one_iff.mp hl;exact⟨rfl,.tl (KP I j (i:=2) (t:=[some a,some c,none,none]) (by simp)) (y7 g l o I.n2 (.inl ⟨d,fa,ca,r⟩))⟩
 ·exact⟨rfl,.tl (KP I j (i:=2) (t:=[some (.lst .fz (aQ f)),some c,none,none]) (by simp)) (y7 g l o I.n2 (.inr ⟨d,s,u,q,f,hl,rfl⟩))⟩
def V4(e:Nat)(ds:aa):Prop:=(e=1/\XD 1 ds)\/(e=3/\XW 0 ds)
def RH{k n i:Nat}{rs:aq}{t:a_}(I:Dr k n rs)(h:iK (Φ 20))(d:i<t.length):i0 Φ (.asg (.nm (i+1)) (.call 20 [(.v 0)])) (some (aR n rs)::t)=ok (.nx,some (aR n rs)::t.set i (some (.lst .ow (aQ (eM n rs))))):=by
 have g:=h k n rs I;have c:aB aD (aR n rs)=aR n rs:=by simp[aR]
 have a:aB ba (aR n rs)=aR n rs:=by simp[aR]
 have f:fN .ow=.ow:=rfl;simp[c,a,g,f,d,bR]
def CL(g:iK (Φ 20))(K7:e=1->∀ds,XD 0 ds->Ψ 20 ds)(f:e=3->∀ds,yX bG ds->Ψ 46 ds)(h:V4 e ds):ds.length=2/\Er Φ Ψ e j_ (ds.map some++List.replicate (5 - ds.length) none):=by
 rcases h with ⟨c,h⟩|⟨c,k,n,o,a,l,I,fa,ca,d,hl,rfl⟩
 ·exact y4 (K7 c) h
 ·obtain rfl:=List.length_eq_zero_iff.mp hl;exact⟨rfl,.tl (RH I g (i:=1) (t:=[some a,none,none,none]) (by simp)) (.hd (.ex (wc (j:=0) rfl fa) (by rw[Li fa];exact f c _ ⟨a,n,rfl,ca,d⟩)))⟩
def IB(d:D)(n:Int):Bool:=match d with
 |.tup [a,b]=>bG a n&&bG b n
 |_=>false
def J6(d:D):Prop:=match d with
 |.tup [a,b]=>du a/\du b
 |.tup ds=>ds.length<64
 |.lst _ ds=>ds.length<=1000000
 |_=>True
def Qo(ds:aa):Prop:=∃(d:D) (n:Int),ds=[d,.int n]/\Fz d/\J6 d/\IB d n=false
def CJ(q:cB (Φ 40))(h:Qo ds):ds.length=2/\Er Φ Ψ 8 cL (ds.map some++List.replicate (2 - ds.length) none):=by
 obtain⟨d,n,rfl,j,p,f⟩:=h;refine⟨rfl,?_⟩;have c:=j.al;have t1:∀b,cM .tuple d=b->bp Φ (.not (.ra (.v 0) .tuple)) [some d,some (.int n)]=ok (.bl (!b)):=λb h=>by simp[c,h]
 by_cases k:∃x y,d=.tup [x,y]
 ·obtain⟨x,y,rfl⟩:=k;have a:aB ba x=x/\aB ba y=y:=by
   have:=j.al;rw[aB]at this;have:=D.tup.inj this;exact⟨(aas this).1,(aas (aas this).2).1⟩
  have i:aB aD x=x/\aB aD y=y:=by
   have:=j.fz;rw[aB]at this;have:=D.tup.inj this;exact⟨(aas this).1,(aas (aas this).2).1⟩
  have g:=q x n p.1;have o:=q y n p.2;have f:(bG x n&&bG y n)=false:=f;refine .tl (ρ':=[some (.tup [x,y]),some (.int n)]) (by simp[a.1,a.2,cM]) (.hd (.Cp ?_ (.hd .rs)));show lr Φ _ _=_;cases l:bG x n with
  |false=>rw[l]at g;simp[a.1,i.1,g]
  |true =>
   rw[l]at f g;rw[show bG y n=false from f]at o;simp[a.1,a.2,i.1,i.2,g,o]
 ·refine .hd (.Cp ?_ (.hd .rs));show lr Φ _ _=_;cases d with
  |tup ds =>
   have hl:ds.length≠2:=λz=>k (by
    match ds,z with
    |[x,y],_=>exact⟨x,y,rfl⟩)
   have r:((ds.length:Int))≠2:=by left
   have c:au ba ds=ds:=D.tup.inj c;simp[c,cM,r]
  |_=>simp[c,cM]
def uv(e:Nat)(ds:aa):Prop:=(e=1/\XD 2 ds)\/(e=8/\∃(k n:Nat) (rs:aq) (d c:D),Dr k n rs/\Fz d/\Fz c/\J6 d/\IB d n=false/\ds=[aR n rs,d,c]) \/
 (e=4/\∃(k n:Nat) (rs:aq) (ws bs:aC) (c:D),Dr k n rs/\ws.length=n/\bs.length=n/\Fz c/\du c/\bG c n=false/\ds=[aR n rs,.tup [.lst .fz (aQ ws),.lst .fz (aQ bs)],c])
def zY(ws bs:aC):Fz (.tup [.lst .fz (aQ ws),.lst .fz (aQ bs)]):=⟨by simp[aD],by simp[ba],by simp[cQ]⟩
def CH(l:b7 (Φ 17))(u:fB (Φ 90))(yk:e=1->∀ds,XD 0 ds->Ψ 17 ds)(Sn:e=8->∀ds,Qo ds->Ψ 90 ds)(v:e=4->∀ds,yX bG ds->Ψ 47 ds)(h:uv e ds):ds.length=3/\Er Φ Ψ e iJ (ds.map some++List.replicate (3 - ds.length) none):=by
 rcases h with ⟨a,h⟩|⟨a,k,n,o,d,c,I,g,i,s,q,rfl⟩|⟨a,k,n,o,f,bs,c,I,hw,r,i,t,p,rfl⟩
 ·exact uJ (yk a) h
 ·exact⟨rfl,.tl (JP l I) (.hd (.ex (wc (j:=0) rfl g) (by rw[Li g];exact Sn a _ ⟨d,n,rfl,g,s,q⟩)))⟩
 ·exact⟨rfl,.tl (JP l I) (.tl (wb (wc (j:=0) rfl (zY f bs)) (by rw[Li (zY f bs)];exact u n .fz .fz f bs hw r I.n2)) (.hd (.ex (wc (j:=1) rfl i) (by rw[Li i];exact v a _ ⟨c,n,rfl,t,p⟩))))⟩
def xq(GN:∀ds,uv e ds->Ψ 91 ds){a d c:D}(fa:Fz a)(g:Fz d)(f:Fz c)(h:uv e [a,d,c]):Er Φ Ψ e (.asg (.nm 3) (.call 91 [(.v 0),(.v 1),(.v 2)])::b) [some a,some d,some c,none] :=
 .hd (.asg (xs:=[a,d,c]) (by simp[fa.al,g.al,f.al]) (by
  rw[show au aD [a,d,c]=[a,d,c] by simp[fa.fz,g.fz,f.fz]];exact GN _ h))
end
def Qn(ds:aa):Prop:=∃(k n:Nat) (rs:aq),Dr k n rs/\(∃q∈eM n rs,q=0)/\ds=[aR n rs]
section
variable {Φ:aU}{Ψ:Nat->aa->Prop}{e:Nat}{ds:aa}{b:af}
def CG(t:lZ (Φ 53))(u:Φ 1036=x_)(K6:e=1->∀ds,XD 0 ds->Ψ 53 ds)(h:(e=1/\XD 0 ds)\/(e=6/\Qn ds)):ds.length=1/\Er Φ Ψ e my (ds.map some++List.replicate (2 - ds.length) none):=by
 rcases h with ⟨p,h⟩|⟨rfl,k,n,a,I,l,rfl⟩
 ·exact y4 (K6 p) h
 ·have s:=t k n a I;have j:aB aD (aR n a)=aR n a:=by simp[aR]
  have i:aB ba (aR n a)=aR n a:=by simp[aR]
  have r:fN .ow=.ow:=rfl;have c:∀g,au g ((eM n a).map lG)=(eM n a).map lG:=λg=>dH g (zG g) _;have m:∀g,aV g ((eM n a).map lG)=false:=λg=>cS g (zR g) _;have d:=λf=>Ep u f (eM n a);rw[show((eM n a).any λq=>!decide (0<q))=true by
   obtain⟨q,o,rfl⟩:=l;exact List.any_eq_true.mpr ⟨0,o,by decide +kernel⟩]at d
  refine⟨rfl,.tl (ρ':=[some (aR n a),some (.lst .ow ((eM n a).map lG))]) ?_ (.hd (.Cp ?_ (.hd .rs)))⟩
  ·generalize (eM n a).map lG=W at *;simp[j,i,s,r,c,m,bR]
  ·show lr Φ (.cI 1036 [.bz,(.v 1)]) _=_;generalize (eM n a).map lG=W at *;simp[d,c]
def X95(e:Nat)(ds:aa):Prop:=(e=1/\XD 1 ds)\/(e=6/\∃(k n:Nat) (rs:aq) (c:D),Dr k n rs/\(∃q∈eM n rs,q=0)/\ds=[aR n rs,c]) \/
 (e=4/\∃(k n:Nat) (rs:aq) (c:D),Dr k n rs/\(∀q∈eM n rs,0<q)/\Fz c/\du c/\bG c n=false/\ds=[aR n rs,c])
def CF(s:uw (Φ 94))(PR:∀ds,(e=1/\XD 0 ds)\/(e=6/\Qn ds)->Ψ 94 ds)(t:e=4->∀ds,yX bG ds->Ψ 47 ds)(h:X95 e ds):ds.length=2/\Er Φ Ψ e (.asg (.nm 2) (.call 94 [(.v 0)])::.ex (.call 47 [(.v 1),(.ix (.v 0) (.int 0))])::b) (ds.map some++List.replicate (3 - ds.length) none):=by
 rcases h with ⟨d,h⟩|⟨d,k,n,a,c,I,m,rfl⟩|⟨d,k,n,a,c,I,o,f,r,l,rfl⟩
 ·exact y4 (λds h=>PR ds (.inl ⟨d,h⟩)) h
 ·exact⟨rfl,.hd (.asg (Uh (kM n a)) (by rw[T9 (kM n a)];exact PR _ (.inr ⟨d,k,n,a,I,m,rfl⟩)))⟩
 ·have q:=s k n a I o;have i:aB aD (aR n a)=aR n a:=by simp[aR]
  have g:aB ba (aR n a)=aR n a:=by simp[aR]
  have p:fN .ow=.ow:=rfl;refine⟨rfl,.tl (ρ':=[some (aR n a),some c,some (.lst .ow (aQ ((eM n a).map Py)))]) (by simp[i,g,q,p,bR]) (.hd (.ex (wc (j:=0) rfl f) (by rw[Li f];exact t d _ ⟨c,n,rfl,r,l⟩)))⟩
def Bz(d:D):Bool:=match d with
 |.lst _ ds=>decide (1<=ds.length)&&(decide (ds.length<=12)&&ds.all bS)
 |_=>false
def ZH(ds:aa):Prop:=∃d:D,ds=[d]/\Fz d/\du d/\Bz d=false
def CM(o:∀ds,yX bG ds->Ψ 47 ds)(h:ZH ds):ds.length=1/\Er Φ Ψ 4 d8 (ds.map some++List.replicate (1 - ds.length) none):=by
 obtain⟨d,rfl,m,n,j⟩:=h;refine⟨rfl,?_⟩;have g:=m.al;cases d with
 |lst f ds =>
  have a:ba f=f/\au ba ds=ds:=D.lst.inj g;have c:aD f=f/\au aD ds=ds:=D.lst.inj m.fz;by_cases l:1<=ds.length/\ds.length<=12
  ·have j:(decide (1<=ds.length)&&(decide (ds.length<=12)&&ds.all bS))=false:=j;rw[zaB l.1,zaB l.2]at j;have i:¬ ((ds.length:Int)<1):=by left
   have k:¬ (12<(ds.length:Int)):=by left
   refine .tl (ρ':=[some (.lst f ds)]) (by simp[a.1,a.2,cM,i,k]) (.hd (.ex (xs:=[.lst f ds,.int ds.length]) (by simp[a.1,a.2]) ?_));rw[show au aD [.lst f ds,.int ds.length]=[.lst f ds,.int ds.length] by simp[c.1,c.2]];refine o _ ⟨_,_,rfl,n,?_⟩;show(_&&ds.all bS)=false;rw[show ds.all bS=false from j,zao]
  ·refine .hd (.Cp ?_ (.hd .rs));show lr Φ _ _=_;by_cases i:(ds.length:Int)<1
   ·simp[a.1,a.2,cM,i]
   ·have k:12<(ds.length:Int):=by left
    simp[a.1,a.2,cM,i,k]
 |tup ds =>
  have g:au ba ds=ds:=D.tup.inj g;exact .hd (.Cp (by show lr Φ _ _=_;simp[g,cM]) (.hd .rs))
 |_=>exact .hd (.Cp (by show lr Φ _ _=_;simp[g,cM]) (.hd .rs))
end
def Kk(e:Nat):Nat->aa->Prop
 |51=>X3 e
 |52=>λa=>e=4/\ZH a
 |53=>λa=>e=1/\XD 0 a
 |54=>V4 e
 |65=>X3 e
 |66=>X3 e
 |92=>uv e
 |93=>uv e
 |95=>X95 e
 |_=>λ_=>False
noncomputable def gI(w:Nat):Nat:=match w with|0=>51|1=>65|2=>66|3=>54|4=>53|5=>92|6=>93|7=>95|_=>52
noncomputable def bM(w:Nat)(a b c g:D):aa:=match w with|0=>[a,b,c]|1=>[a,b,c]|2=>[a,b,c]|3=>[a,b]|4=>[a]|5=>[a,g,c]|6=>[a,g,c]|7=>[a,c]|_=>[c]
noncomputable def fP(w:Nat):aA:=match w with|0=>[(.v 2),(.v 3),(.v 4)]|1=>[(.v 2),(.v 3),(.v 4)]|2=>[(.v 2),(.v 3),(.v 4)]|3=>[(.v 2),(.v 3)]|4=>[(.v 2)]|5=>[(.v 2),(.v 5),(.v 4)]|6=>[(.v 2),(.v 5),(.v 4)]|7=>[(.v 2),(.v 4)]|_=>[(.v 4)]
structure AJ(a b c g:D):Prop where
 a:Fz a
 b:Fz b
 c:Fz c
 g:Fz g
def wW(P:Nat->aa->Prop)(ds:aa):Prop:=∃(w:Nat) (a b c g:D),w<9/\AJ a b c g/\P (gI w) (bM w a b c g)/\ds=[.int w,.tup [a,b,c,g]]
def La(w:Nat):CS:=.ifs (.cmp .eq (.v 0) (.int w)) [.ex (.call (gI w) (fP w))] []
def ki:af:=.asg (.tp [2,3,4,5]) (.v 1)::(List.range 9).map La
def wQ{w w':Nat}{a b c g:D}(F:AJ a b c g)(hw:w<9):bL Φ (fP w) [some (.int w'),some (.tup [a,b,c,g]),some a,some b,some c,some g]=ok (bM w a b c g)/\au aD (bM w a b c g)=bM w a b c g:=by
 match w,hw with
 |0,_=>exact⟨by simp[fP,bM,F.a.al,F.b.al,F.c.al],by simp[bM,F.a.fz,F.b.fz,F.c.fz]⟩
 |1,_=>exact⟨by simp[fP,bM,F.a.al,F.b.al,F.c.al],by simp[bM,F.a.fz,F.b.fz,F.c.fz]⟩
 |2,_=>exact⟨by simp[fP,bM,F.a.al,F.b.al,F.c.al],by simp[bM,F.a.fz,F.b.fz,F.c.fz]⟩
 |3,_=>exact⟨by simp[fP,bM,F.a.al,F.b.al],by simp[bM,F.a.fz,F.b.fz]⟩
 |4,_=>exact⟨by simp[fP,bM,F.a.al],by simp[bM,F.a.fz]⟩
 |5,_=>exact⟨by simp[fP,bM,F.a.al,F.g.al,F.c.al],by simp[bM,F.a.fz,F.g.fz,F.c.fz]⟩
 |6,_=>exact⟨by simp[fP,bM,F.a.al,F.g.al,F.c.al],by simp[bM,F.a.fz,F.g.fz,F.c.fz]⟩
 |7,_=>exact⟨by simp[fP,bM,F.a.al,F.c.al],by simp[bM,F.a.fz,F.c.fz]⟩
 |8,_=>exact⟨by simp[fP,bM,F.c.al],by simp[bM,F.c.fz]⟩
section
variable {Φ:aU}{w:Nat}{a b c g:D}(F:AJ a b c g)
noncomputable abbrev jl(w:Nat)(a b c g:D):a_:=[some (.int w),some (.tup [a,b,c,g]),some a,some b,some c,some g]
include F
def pZ(w:Nat):i0 Φ (.asg (.tp [2,3,4,5]) (.v 1)) [some (.int w),some (.tup [a,b,c,g]),none,none,none,none]=ok (.nx,jl w a b c g):=by
 simp[F.a.al,F.b.al,F.c.al,F.g.al,F.a.ow,F.b.ow,F.c.ow,F.g.ow,F.a.fz,F.b.fz,F.c.fz,F.g.fz]
omit F in
def wO{j:Nat}(h:j≠w):i0 Φ (La j) (jl w a b c g)=ok (.nx,jl w a b c g):=by
 have:¬ ((w:Int)=(j:Int)):=by left
 simp[La,this]
theorem p7{Ψ:Nat->aa->Prop}{e:Nat}(hw:w<9)(h:Ψ (gI w) (bM w a b c g)):∀(d:aJ),w∈d->Er Φ Ψ e (d.map La) (jl w a b c g)
 |j::d,hm=>by
  by_cases f:j=w
  ·subst f;obtain⟨k,i⟩:=wQ (Φ:=Φ) (w':=j) F hw;exact .hd (.Cp (by show lr Φ _ _=_;simp) (.hd (.ex k (by rw[i];exact h))))
  ·exact .tl (wO f) (p7 hw h d (by rcases List.mem_cons.mp hm with z|z;exact absurd z.symm f;exact z))
theorem wN(hw:w<9){r:D}(h:Φ (gI w) (bM w a b c g)=ok r):∀(d:aJ),bN Φ (d.map La) (jl w a b c g)=ok (.nx,jl w a b c g)
 |[]=>rfl
 |j::d=>by
  have go:i0 Φ (La j) (jl w a b c g)=ok (.nx,jl w a b c g):=by
   by_cases e:j=w
   ·subst e;obtain⟨l,k⟩:=wQ (Φ:=Φ) (w':=j) F hw;have i:=wb (g:=gI j) l (by rw[k];exact h);have f:bN Φ [.ex (.call (gI j) (fP j))] (jl j a b c g)=ok (.nx,jl j a b c g):=by rw[cG,i];rfl
    unfold La;rw[xp];have:se (bp Φ (.cmp .eq (.v 0) (.int j)) (jl j a b c g))=ok true:=by simp
    rw[this];exact f
   ·exact wO e
  rw[zag,cG,go];exact wN hw h d
end
variable {ds:aa}
def f9{n ar N:Nat}{b:af}(h:ds.length=ar/\Er Φ (λg ds=>Φ g ds=some (.error n)) n b (ds.map some++List.replicate (N - ds.length) none)):mk Φ ar N b ds=some (.error n):=by
 rw[mk_eq h.1,Er.err (λ_ _ h=>h) h.2];rfl
def hV{c:Nat}{m:aj}(h:bF c bG m):∀ds,yX bG ds->m ds=some (.error c):=λds a=>by
 obtain⟨d,n,rfl,b,e⟩:=a;rw[h d n b,e];rfl
def uG(m:aj):Prop:=∀ds,XD 0 ds->m ds=some (.error 1)
def uH(g:Nat)(m:aj):Prop:=∀e ds,Kk e g ds->m ds=some (.error e)
section
variable (Φ:aU)
def r17(a:∀d,LR d->Φ 16 [d]=ok (.bl false)):uG (mk Φ 1 1 cz):=λds h=>f9 (Lo a h)
def r20(h:uG (Φ 17)):uG (mk Φ 1 2 jQ):=λds a=>f9 (uJ h a)
def r21(h:uG (Φ 17)):uG (mk Φ 1 4 iE):=λds a=>f9 (uJ h a)
def r51(b:b7 (Φ 17))(a:bF 3 bG (Φ 46))(c:bF 4 bG (Φ 47))(yk:uG (Φ 17)):uH 51 (mk Φ 3 3 eJ):=λe ds h=>f9 (y6 b a (λq=>q▸yk) (λq=>q▸hV a) (λq=>q▸hV c) h)
def r65(b:b7 (Φ 17))(a:bF 3 bG (Φ 46))(c:bF 4 bG (Φ 47))(yk:uG (Φ 17)):uH 65 (mk Φ 3 3 iI):=λe ds h=>f9 (y6 b a (λq=>q▸yk) (λq=>q▸hV a) (λq=>q▸hV c) h)
def r66(c:iL (Φ 21))(a:bF 3 bG (Φ 46))(b:bF 4 bG (Φ 47))(So:uG (Φ 21)):uH 66 (mk Φ 3 5 eY):=λe ds h=>f9 (CK c a (λq=>q▸So) (λq=>q▸hV a) (λq=>q▸hV b) h)
def r53(K7:uG (Φ 20)):uG (mk Φ 1 1 i8):=λds h=>f9 (Ul K7 h)
def r54(b:iK (Φ 20))(a:bF 3 bG (Φ 46))(K7:uG (Φ 20)):uH 54 (mk Φ 2 5 j_):=λe ds h=>f9 (CL b (λq=>q▸K7) (λq=>q▸hV a) h)
def r90(a:cB (Φ 40)):∀ds,Qo ds->mk Φ 2 2 cL ds=some (.error 8):=λds h=>f9 (CJ a h)
def r91(a:b7 (Φ 17))(c:fB (Φ 90))(b:bF 4 bG (Φ 47))(yk:uG (Φ 17))(Sn:∀ds,Qo ds->Φ 90 ds=some (.error 8)):∀e ds,uv e ds->mk Φ 3 3 iJ ds=some (.error e):=λe ds h=>f9 (CH a c (λq=>q▸yk) (λq=>q▸Sn) (λq=>q▸hV b) h)
def r94(a:lZ (Φ 53))(b:Φ 1036=x_)(K6:uG (Φ 53)):∀e ds,((e=1/\XD 0 ds)\/(e=6/\Qn ds))->mk Φ 1 2 my ds=some (.error e):=λe ds h=>f9 (CG a b (λq=>q▸K6) h)
def r95(b:uw (Φ 94))(a:bF 4 bG (Φ 47))(PR:∀e ds,((e=1/\XD 0 ds)\/(e=6/\Qn ds))->Φ 94 ds=some (.error e)):uH 95 (mk Φ 2 3 jR):=λe ds h=>f9 (CF b (PR e) (λq=>q▸hV a) h)
def r52(a:bF 4 bG (Φ 47)):uH 52 (mk Φ 1 1 d8):=λe ds h=>by
 obtain⟨rfl,h⟩:=h;exact f9 (CM (hV a) h)
end
def dP.k{e:CE}{y:D}(h:bp Φ e ρ=ok y:=by rfl)(a:aB aD y=y:=by rfl):dP Φ e ρ y:=⟨y,h,a⟩
noncomputable def pG:CE:=.cI 1085 [(.v 0),(.neg (.int 1))]
def Ac:aA:=[(.bin .add (.v 0) (.lst [(.tup [(.int 1),(.int 1)])])),pG,(.bf .tuple1 [(.v 0)]),.bz,(.int 1),(.bin .add pG (.lst [(.tup [(.int 2),(.int 4)])])),(.bin .add pG (.lst [.bz])),(.bin .add pG (.lst [(.int 1)]))]
def Ab:aA:=[(.bin .add pG (.lst [(.tup [(.int 1),(.int 0)])])),(.bin .add pG (.lst [(.tup [(.bl true),(.int 1)])])),(.str "some")]
def Au:af:=[.asg (.nm 2) (.lst Ac),.ret (.ix (.bin .add (.v 2) (.lst Ab)) (.bin .mod (.v 1) (.int 11)))]
def oA(f:Fl)(qs ini:aC):aa:=[.lst f (aQ qs++[.tup [.int 1,.int 1]]),.lst f (aQ ini),.tup (aQ qs),.bz,.int 1,.lst f (aQ ini++[.tup [.int 2,.int 4]]),.lst f (aQ ini++[.bz]),.lst f (aQ ini++[.int 1])]
def oB(f:Fl)(ini:aC):aa:=[.lst f (aQ ini++[.tup [.int 1,.int 0]]),.lst f (aQ ini++[.tup [.bl true,.int 1]]),.str "some"]
def Iu{qs ini:aC}{n:Nat}(h:ini.length+1=n)(c:qs.length=n)(d:n<=12):∀x∈oA .fz qs ini++oB .fz ini,du x/\bG x n=false:=by
 have one:∀y:D,bS y=false->du (.lst .fz (aQ ini++[y]))/\bG (.lst .fz (aQ ini++[y])) n=false:=λy b=>by
  refine⟨by show(aQ ini++[y]).length<=1000000;simp;left,?_⟩;have:(aQ ini++[y]).all bS=false:=by rw[zbq];exact⟨y,by simp,by rw[b];decide⟩
  show(_&&(aQ ini++[y]).all bS)=false;rw[this,zao]
 intro x a;simp only[oA,oB,zaZ,zay,zak,zai,or_false]at a;rcases a with rfl|rfl|rfl|rfl|rfl|rfl|rfl|rfl|rfl|rfl|rfl
 ·refine⟨by show(aQ qs++[D.tup [.int 1,.int 1]]).length<=1000000;simp;left,?_⟩;show(decide (((aQ qs++[D.tup [.int 1,.int 1]]).length:Int)=n)&&_)=false;rw[zau (by simp;left)];rfl
 ·refine⟨by show(aQ ini).length<=1000000;simp;left,?_⟩;show(decide (((aQ ini).length:Int)=n)&&_)=false;rw[zau (by simp;left)];rfl
 ·exact⟨by show(aQ qs).length<64;simp;left,rfl⟩
 ·exact⟨trivial,rfl⟩
 ·exact⟨trivial,rfl⟩
 ·exact one _ (by decide +kernel)
 ·exact one _ rfl
 ·exact one _ rfl
 ·exact one _ (by decide +kernel)
 ·exact one _ rfl
 ·exact⟨trivial,rfl⟩
def LK(m:aj):Prop:=∀qs (z:Int),1<=qs.length->qs.length<=12->∃d,m [.lst .fz (aQ qs),.int z]=ok d/\du (aB aD d)/\bG (aB aD d) qs.length=false
def Rq(Φ:aU)(C:Φ 1085=pN):LK (mk Φ 2 3 Au):=by
 intro c z w n;obtain⟨L,K⟩:=eH z (b:=11) (by decide);obtain⟨j,E⟩:∃j:Nat,z.fmod 11=(j:Int):=⟨(z.fmod 11).toNat,by left⟩
 generalize t:c.take (c.length - 1)=g;have J:g.length+1=c.length:=by rw[<- t,zaL];left
 have s:∀{ρ:a_},At ρ 0 (.lst .fz (aQ c))->dP Φ pG ρ (.lst .fz (aQ g)):=λ{ρ} h=>by
  obtain⟨f,ds,r,I,_⟩:=(h.v (Φ:=Φ)).yg;obtain rfl:=tM I (by simp);refine⟨.lst .ow (aQ g),?_,by simp[aD]⟩;show bd (bL Φ [.v 0,.neg (.int 1)] ρ) (Φ 1085)=_;rw[kT,r,C];show(if (-1:Int) = -1/\1<=(aQ c).length then ok (D.lst .ow (au ba ((aQ c).take ((aQ c).length - 1))))else none)=_;rw[zac ⟨rfl,by simp;left⟩,show(aQ c).take ((aQ c).length - 1)=aQ g by rw[<- t];unfold aQ;rw[zbC,zaa]];simp
 have l:∀{ρ:a_} {a e:CE} {p:aC} {y:D},dP Φ a ρ (.lst .fz (aQ p))->dP Φ e ρ y->p.length<=12->dP Φ (.bin .add a (.lst [e])) ρ (.lst .fz (aQ p++[y])):=λw n hl=>.cat w (aP.cons n .nil).lst rfl rfl (by simp;left);have A:xl 3 [(0,.lst .fz (aQ c)),(1,.int z)] [some (.lst .fz (aQ c)),some (.int z),none]:=⟨rfl,⟨_,rfl,by simp[aD]⟩,⟨_,rfl,rfl⟩,trivial⟩
 have go:Go Φ [.asg (.nm 2) (.lst Ac)] [some (.lst .fz (aQ c)),some (.int z),none] (xl 3 [(2,.lst .fz (oA .fz c g)),(0,.lst .fz (aQ c)),(1,.int z)]):=by
  have q:=A.2.1.v (Φ:=Φ);have i:=s A.2.1;have F:aP Φ Ac [some (.lst .fz (aQ c)),some (.int z),none] (oA .fz c g):=.cons (l q .k n) (.cons i (.cons q.Me (.cons .k (.cons .k (.cons (l i .k (by left)) (.cons (l i .k (by left)) (.cons (l i .k (by left)) .nil)))))));exact .jS A F.lst λ_ A=>.nil A
 obtain⟨o,r,B⟩:=go;have i:=s B.2.2.1;have G:aP Φ Ab o (oB .fz g):=.cons (l i .k (by left)) (.cons (l i .k (by left)) (.cons .k .nil));have m:j<(oA .fz c g++oB .fz g).length:=by show j<11;left
 obtain⟨d,x,H,u⟩:=Gm (e:=.ix (.bin .add (.v 2) (.lst Ab)) (.bin .mod (.v 1) (.int 11))) (.K8 (j:=j) (.cat B.2.1.v G.lst rfl rfl (by show 8+3<=1000;decide)) (kP B.2.2.2.1.v.i rfl (by rw[wK (by decide),E])) (aao m)) rfl;obtain⟨b1,b2⟩:=Iu J rfl n _ (aa6 m);refine⟨d,?_,by rw[u];exact b1,by rw[u];exact b2⟩;rw[mk_eq (ar:=2) (ds:=[.lst .fz (aQ c),.int z]) rfl,show Au=[.asg (.nm 2) (.lst Ac)]++[.ret (.ix (.bin .add (.v 2) (.lst Ab)) (.bin .mod (.v 1) (.int 11)))] from rfl];show kS (bN Φ _ [some (.lst .fz (aQ c)),some (.int z),none])=_;rw[ny Φ _ _ _ _ r,cG,H];rfl
def oK{d:D}(h:∀m f rows,d≠.tup [m,.lst f rows]):KZ d:=λm f rows e=>absurd e (h m f rows)
def xZ{m:D}{rs:aq}{k:Nat}(hl:∀r∈rs,r.2.length<64)(h:xi k (bU rs)):KZ (.tup [m,.lst .fz (bO rs)]):=λg f rows e=>by
 cases e;refine⟨rfl,λd c=>?_,λa e=>⟨k,?_⟩⟩
 ·obtain⟨r,b,rfl⟩:=List.mem_map.mp c;show(ah r.2).length<64;simp[hl r b]
 ·rw[<- show rs=a by rw[<- l9 rs,e,l9]];exact h
def sT{m:D}{a b:Int}(j:a.natAbs<4)(p:b.natAbs<4)(hl:ds.length<64):KZ (.tup [m,.lst .fz [.tup [.tup [.int a,.int b],.tup ds]]]):=λo f rows e=>by
 cases e;refine⟨rfl,λd i=>by rw[List.mem_singleton.mp i];exact hl,λg e=>⟨2,?_⟩⟩
 match g,e with
 |[r],e =>
  have n:D.tup [.tup [.int a,.int b],.tup ds]=rD r:=(aas e).1;have l:D.tup [.int a,.int b]=qD r.1:=(aas (D.tup.inj n)).1;have c:=D.tup.inj l;have k:a=r.1.num:=D.int.inj (aas c).1;have s:b=(r.1.den:Int):=D.int.inj (aas (aas c).2).1;refine⟨λq h=>?_,by simp[bU],by simp[bU]⟩;have:q=r.1:=by simpa [bU]using h
  rw[this];exact⟨by rw[<- k];exact j,by left⟩
def Gk(n:Nat)(rs:aq):aa:=[.tup [.int n,.lst .fz []],.tup [.int n,.lst .fz (bO (rs.reverse++rs))],.tup [.int 0,.lst .fz (bO rs)],.tup [.int 13,.lst .fz (bO rs)],.tup [.bl true,.lst .fz (bO rs)],.tup [.int n,.tup (bO rs)],.bz]
def GX(n:Nat)(rs:aq):aa:=[.tup [.int n,.lst .fz (rs.map λr=>.tup [qD r.1,.lst .fz (ah r.2)])],.lst .fz [.int n,.lst .fz (bO rs)],.tup [.int n,.lst .fz (bO rs),.int 0],.str "drawing"]
noncomputable def LG(n:Nat):aa:=[.tup [.int n,.lst .fz [.tup [.tup [.int 1,.int 2],.tup []]]],.tup [.int n,.lst .fz [.tup [.tup [.int 1,.int 1],.tup [.int n]]]],.tup [.int n,.lst .fz [.tup [.tup [.int 2,.int 2],.tup []]]]]
def Pj{n:Nat}{rs:aq}(I:Dr 6 n rs):∀x∈Gk n rs++GX n rs++LG n,KZ x/\b5 x=false:=by
 have t:=I.n1;have s:=I.n2;have g:=I.tR;obtain⟨r,b,rfl⟩:∃r b,rs=r::b:=by
  cases rs with
  |nil=>exact absurd I.some (by decide)
  |cons r b=>exact⟨r,b,rfl⟩
 have hl:∀x∈r::b,x.2.length<64:=λx a=>by have:=(I.lot x a).len;left
 have c:∀m,KZ (.tup [m,.lst .fz (bO (r::b))]):=λm=>xZ hl I.A6;have o:∀(m:D) (l:ae),J5 (.tup [m,.lst .fz (ah l)]) ↔ (ah l).length<=1000000:=λ_ _=>Iff.rfl;intro x a;simp only[Gk,GX,LG,zaZ,zay,zak,zai,or_false]at a;rcases a with rfl|rfl|rfl|rfl|rfl|rfl|rfl|rfl|rfl|rfl|rfl|rfl|rfl|rfl
 ·exact⟨xZ (rs:=[]) (k:=1) (λ_ h=>nomatch h) ⟨(λ_ h=>nomatch h),by decide,by decide⟩,pI (by decide +kernel)⟩
 ·refine⟨xZ (k:=6) (λx a=>?_) ⟨λq i=>?_,?_,?_⟩,wm ?_⟩
  ·rcases List.mem_append.mp a with a|a
   ·exact hl x (List.mem_reverse.mp a)
   ·exact hl x a
  ·obtain⟨x,a,rfl⟩:=List.mem_map.mp i;rcases List.mem_append.mp a with a|a
   ·exact I.sm x (List.mem_reverse.mp a)
   ·exact I.sm x a
  ·simp[bU]at g ⊢;left
  ·simp[bU]at g ⊢;left
  ·rw[l9,zaV,zbo,zax];exact vk r.2 (b.map (·.2)) (b.reverse.map (·.2))
 ·exact⟨c _,by rw[gm];rfl⟩
 ·exact⟨c _,by rw[gm];rfl⟩
 ·exact⟨c _,yL λ_ h=>nomatch h⟩
 ·exact⟨oK (λ_ _ _ h=>by cases h),yK λ_ _ h=>by cases h⟩
 ·exact⟨oK (λ_ _ _ h=>by cases h),rfl⟩
 ·refine⟨λm f rows e=>?_,kW aai rfl⟩;cases e;refine⟨rfl,λd j=>?_,λrs e=>?_⟩
  ·obtain⟨x,a,rfl⟩:=List.mem_map.mp j;have:=hl x a;exact(o _ _).mpr (by simp;left)
  ·cases rs with
   |nil=>cases e
   |cons x p =>
    have:=(aas e).1;have:=(aas (aas (D.tup.inj this)).2).1;cases this
 ·exact⟨oK (λ_ _ _ h=>by cases h),rfl⟩
 ·exact⟨oK (λ_ _ _ h=>by cases h),rfl⟩
 ·exact⟨oK (λ_ _ _ h=>by cases h),rfl⟩
 ·exact⟨sT (by decide) (by decide) (by simp),pI (by decide +kernel)⟩
 ·refine⟨sT (by decide) (by decide) (by simp),kW aai ?_⟩;show(bP (.tup [.int n]) n&&_)=false;have:bP (.tup [.int n]) n=false:=by
   show(((decide (0<=(n:Int))&&decide ((n:Int)<n))&&true)&&_)=false;rw[zau (Int.lt_irrefl _)];simp
  rw[this];rfl
 ·refine⟨sT (by decide) (by decide) (by simp),kW aai ?_⟩;show(bP (.tup []) n&&(bS (.tup [.int 2,.int 2])&&DV (.tup [.int 2,.int 2])))=false;rw[show bS (.tup [.int 2,.int 2])=false by decide +kernel];simp
noncomputable def FQ:CE:=.bin .add (.cI 1026 [(.v 3),(.neg (.int 1))]) (.v 3)
noncomputable def yE:CE:=.comp 2 (.tp [0,1]) [] .seq [(.v 3)] [] (.tup [(.v 0),(.bf .list1 [(.v 1)])])
def FJ:aA:=[(.tup [(.v 2),(.lst [])]),(.tup [(.v 2),FQ]),(.tup [(.int 0),(.v 3)]),(.tup [(.int 13),(.v 3)]),(.tup [(.bl true),(.v 3)]),(.tup [(.v 2),(.bf .tuple1 [(.v 3)])]),.bz]
def Ad:aA:=[(.tup [(.v 2),yE]),(.lst [(.v 2),(.v 3)]),(.tup [(.v 2),(.v 3),(.int 0)]),(.str "drawing")]
noncomputable def FI:aA:=[(.tup [(.v 2),(.lst [(.tup [(.tup [(.int 1),(.int 2)]),(.tup [])])])]),(.tup [(.v 2),(.lst [(.tup [(.tup [(.int 1),(.int 1)]),(.tup [(.v 2)])])])]),(.tup [(.v 2),(.lst [(.tup [(.tup [(.int 2),(.int 2)]),(.tup [])])])])]
def yG:CE:=.ix (.bin .add (.v 4) (.lst FI)) (.bin .mod (.v 1) (.int 14))
def wL:af:=[.unp [2,3] (.call 215 [(.v 0)]),.asg (.nm 4) (.lst FJ),.asg (.nm 4) (.bin .add (.v 4) (.lst Ad)),.ret yG]
def LL(m:aj):Prop:=∀n rs (z:Int),Dr 6 n rs->∃d,m [aR n rs,.int z]=ok d/\LR (aB aD d)
section
variable {Φ:aU}{n:Nat}{rs:aq}{z:Int}{ρ:a_}
def Av(A:At ρ 3 (.lst .fz (bO rs))):∃g,bp Φ (.v 3) ρ=ok (.lst g (bO rs))/\qB g=false:=by
 obtain⟨g,ds,e,q,a⟩:=(A.v (Φ:=Φ)).yg;obtain rfl:=tM q (by simp);exact⟨g,e,by cases g<;>first|rfl|cases a⟩
def Pk(a:Φ 1026=vm)(A:At ρ 3 (.lst .fz (bO rs))):dP Φ (.cI 1026 [(.v 3),(.neg (.int 1))]) ρ (.lst .fz (bO rs.reverse)):=by
 obtain⟨g,e,_⟩:=Av (Φ:=Φ) A;refine⟨.lst .ow ((bO rs).map (aB ba)).reverse,?_,?_⟩
 ·show bd (pO (bp Φ (.v 3) ρ) (ok [.int (-1)])) (Φ 1026)=_;rw[e,a];rfl
 ·rw[<- aE,iy];unfold bO;rw[<- List.map_reverse];show D.lst .fz (au aD (bO rs.reverse))=_;rw[iy];rfl
def Kb(hl:rs.length<=1000)(A:At ρ 3 (.lst .fz (bO rs))):dP Φ yE ρ (.lst .fz (rs.map λr=>.tup [qD r.1,.lst .fz (ah r.2)])):=by
 obtain⟨g,e,_⟩:=Av (Φ:=Φ) A;refine⟨.lst .ow (au fN (rs.map λr=>.tup [qD r.1,.lst .ow (ah r.2)])),?_,?_⟩
 ·unfold yE;exact bW (xs:=[.lst g (bO rs)]) (items:=bO rs) (by rw[kT,e];rfl) (by rw[dq];simp) (bD λr a=>⟨[some (qD r.1),some (.tup (ah r.2))],by simp[bx,rD],by simp,by simp⟩) (by simp;exact bE (by left))
 ·show D.lst .fz (au aD (au fN _))=_;rw[fF,aE,zam];congr 1;refine aax λr _=>?_;show D.tup [aB _ (qD r.1),.lst .fz (au _ (ah r.2))]=_;rw[Ez,dv]
abbrev L5(n:Nat)(rs:aq)(z:Int):List (Nat×D):=[(3,.lst .fz (bO rs)),(2,.int n),(1,.int z),(0,aR n rs)]
end
def Rt(Φ:aU)(O:rV (Φ 215))(P:Φ 1026=vm):LL (mk Φ 2 5 wL):=by
 intro n a z I;have R:=I.tR;have N:=O n a;have u:i0 Φ (.unp [2,3] (.call 215 [(.v 0)])) [some (aR n a),some (.int z),none,none,none]=ok (.nx,[some (aR n a),some (.int z),some (.int n),some (.lst .ow (bO a)),none]):=by
  have x:aB aD (aR n a)=aR n a:=by simp[aR]
  have w:aB ba (aR n a)=aR n a:=by simp[aR]
  have J:bp Φ (.call 215 [(.v 0)]) [some (aR n a),some (.int z),none,none,none]=ok (.tup [.int n,.lst .ow (bO a)]):=by
   rw[yJ,kT,e_v,Uq];show T8 (Φ 215 [aB aD (aB ba (aR n a))])=_;rw[w,x,N];show ok (D.tup [.int n,.lst (fN .ow) (au fN (bO a))])=_;rw[iy];rfl
  rw[QB,BB Φ (.call 215 [(.v 0)]) _ rfl,J,iz (by simp[bR])];rfl
 have A:xl 5 (L5 n a z) [some (aR n a),some (.int z),some (.int n),some (.lst .ow (bO a)),none]:=⟨rfl,⟨_,rfl,by simp[aD]⟩,⟨_,rfl,rfl⟩,⟨_,rfl,rfl⟩,⟨_,rfl,by simp[aR]⟩,trivial⟩
 have g:Go Φ [.asg (.nm 4) (.lst FJ),.asg (.nm 4) (.bin .add (.v 4) (.lst Ad))] [some (aR n a),some (.int z),some (.int n),some (.lst .ow (bO a)),none] (xl 5 ((4,.lst .fz (Gk n a++GX n a))::L5 n a z)):=by
  have Q:∀{ρ:a_},At ρ 2 (.int n)->dP Φ (.v 2) ρ (.int n):=λh=>h.v;refine .jS (Y:=.lst .fz (Gk n a)) A (aP.cons (aP.cons A.2.2.1.v (aP.cons (aP.nil (Φ:=Φ)).lst .nil)).tup (aP.cons (aP.cons A.2.2.1.v (aP.cons (show dP Φ FQ _ (.lst .fz (bO (a.reverse++a))) from by
   have:=(Pk P A.2.1).cat A.2.1.v rfl rfl (by simp;left);unfold bO at this ⊢
   rwa [<- List.map_append]at this) .nil)).tup (aP.cons (aP.cons (.k) (aP.cons A.2.1.v .nil)).tup (aP.cons (aP.cons (.k) (aP.cons A.2.1.v .nil)).tup (aP.cons (aP.cons (.k) (aP.cons A.2.1.v .nil)).tup (aP.cons (aP.cons A.2.2.1.v (aP.cons A.2.1.v.Me .nil)).tup (aP.cons (.k) .nil))))))).lst λm A=>?_
  have o:dP Φ (.bin .add (.v 4) (.lst Ad)) m (.lst .fz (Gk n a++GX n a)):=A.2.1.v.cat (aP.cons (aP.cons A.2.2.2.1.v (aP.cons (Kb (by left) A.2.2.1) .nil)).tup (aP.cons (aP.cons A.2.2.2.1.v (aP.cons A.2.2.1.v .nil)).lst (aP.cons (aP.cons A.2.2.2.1.v (aP.cons A.2.2.1.v (aP.cons (.k) .nil))).tup (aP.cons (.k) .nil)))).lst rfl rfl (by simp[Gk,GX]);obtain⟨l,H,G,F,E⟩:=Gn (i:=4) o rfl (by rw[A.1];decide);exact .cons H (.nil ⟨G.trans A.1,F,uk E A.2.2 rfl⟩)
 obtain⟨c,e,r⟩:=g;obtain⟨T,S⟩:=eH z (b:=14) (by decide);obtain⟨j,C⟩:∃j:Nat,z.fmod 14=(j:Int):=⟨(z.fmod 14).toNat,by left⟩
 have s:j<(Gk n a++GX n a++LG n).length:=by simp[Gk,GX,LG];left
 have f:=r.2.2.2.1.v (Φ:=Φ);have q:dP Φ (.lst [(.tup [(.tup [(.int 1),(.int 2)]),(.tup [])])]) c (.lst .fz [.tup [.tup [.int 1,.int 2],.tup []]]):=⟨_,rfl,rfl⟩
 have p:dP Φ (.tup [(.int 1),(.int 1)]) c (.tup [.int 1,.int 1]):=⟨_,rfl,rfl⟩
 have B:dP Φ (.lst [(.tup [(.tup [(.int 2),(.int 2)]),(.tup [])])]) c (.lst .fz [.tup [.tup [.int 2,.int 2],.tup []]]):=⟨_,rfl,rfl⟩
 have y:dP Φ (.lst FI) c (.lst .fz (LG n)):=(aP.cons (aP.cons f (aP.cons q .nil)).tup (aP.cons (aP.cons f (aP.cons (aP.cons (aP.cons p (aP.cons (aP.cons f .nil).tup .nil)).tup .nil).lst .nil)).tup (aP.cons (aP.cons f (aP.cons B .nil)).tup .nil))).lst;have L:dP Φ (.bin .add (.v 4) (.lst FI)) c (.lst .fz (Gk n a++GX n a++LG n)):=r.2.1.v.cat y rfl rfl (by simp[Gk,GX,LG]);have M:dP Φ yG c (Gk n a++GX n a++LG n)[j]:=L.K8 (b:=.bin .mod (.v 1) (.int 14)) (kP r.2.2.2.2.1.v.i rfl (by rw[wK (by decide),C])) (aao s);obtain⟨d,l,K,t⟩:=Gm M rfl;refine⟨d,?_,?_⟩
 ·rw[mk_eq (show[aR n a,D.int z].length=2 from rfl)];show kS (bN Φ wL [some (aR n a),some (.int z),none,none,none])=_;unfold wL;rw[cG,u];show kS (bN Φ ([.asg (.nm 4) (.lst FJ),.asg (.nm 4) (.bin .add (.v 4) (.lst Ad))]++[.ret yG]) _)=_;rw[ny Φ _ _ _ _ e,cG,K];rfl
 ·rw[t];obtain⟨q,p⟩:=Pj I _ (aa6 s);exact⟨by rw[<- t];exact zW d,q,p⟩
end DI
end
section
namespace DI
open PySem PySem.Spec PyProof.Rows L2
def Df(K:ao)(x:Str)(a:Stmt):Prop:=∃f b,GD K x x a f b/\PySem.W.nsIn K mainGlobals x=some (some (.ref f))
variable {B C f:Addr}{K:ao}{st Dd:Stmt}
def dmk{x:Str}{h:Value}{g m:Option Addr}{d:Array (Option Value)}{i j e b ct:Value}(a:PySem.W.nsIn K mainGlobals x=some (some (.ref f)))(l:K.lookup f=some ⟨h,g,.func (PySem.W.fnOf x x (eI st) (bQ st) (aO st) .none i j e m b ct),d⟩)(c:PySem.W.codeIn K b x=true)(k:PySem.W.keepIn K (.ref f)=true):Df K x st:=⟨f,_,Od l c k,a⟩
noncomputable def VJ(N P:av)(sc:Scope):Bool:=decide (sc.kind=.function)&&(!sc.isCoroutine&&(!sc.isGenerator&&(decide N.Nodup&&(decide (N.take P.length=P)&&(P.all (λx=>decide (sc.names.lookup x=some .local\/sc.names.lookup x=some .cell))&&sc.names.all λy=>decide (y.2≠.free))))))
variable {N:av}
def z4{P:av}{sc:Scope}(h:VJ N P sc=true):gX N P sc:=by
 obtain⟨k,h⟩:=aF h;obtain⟨j,h⟩:=aF h;obtain⟨i,h⟩:=aF h;obtain⟨g,h⟩:=aF h;obtain⟨e,h⟩:=aF h;obtain⟨d,c⟩:=aF h;exact⟨aab k,fY j,fY i,aab g,aab e,λx b=>aab (List.all_eq_true.mp d x b),λy a=>aab (List.all_eq_true.mp c y a)⟩
def Qj(st:Stmt)(N a:av)(tb:List (Nat×Str))(bl:av)(cs:List (Str×GK))(px:Px)(b:af):Bool:=VJ N a (aO st)&&ju ⟨aO st,N,λn=>List.lookup n tb,bl,cs,px⟩ b (bQ st)
def u1{b:Type}{P:List b->Prop}(h:∀a,P [a])(c:List b)(e:c.length=1):P c:=by obtain⟨a,rfl⟩:=Sg e;exact h a
def u2{c:Type}{P:List c->Prop}(h:∀a b,P [a,b])(d:List c)(e:d.length=2):P d:=by obtain⟨a,b,rfl⟩:=IM e;exact h a b
def u3{d:Type}{P:List d->Prop}(h:∀a b c,P [a,b,c])(g:List d)(e:g.length=3):P g:=by obtain⟨a,b,c,rfl⟩:=IL e;exact h a b c
def u4{g:Type}{P:List g->Prop}(h:∀a b c d,P [a,b,c,d])(i:List g)(e:i.length=4):P i:=by obtain⟨a,b,c,d,rfl⟩:=Xm e;exact h a b c d
variable {P:aM}{base:Heap}{k':Nat}{mg:Str->Option Value}{w:World}
def Ent.u{k:Nat}{y:Str}{m:aj}(h:Ent P w K mg base k y m)(a:k<=k':=by decide):Ent P w K mg base k' y m:=h.up a
def en{h:Heap}(X:K.In h)(G:h.Ns mainGlobals mg)⦃x:Str⦄⦃st:Stmt⦄⦃N c bl:av⦄⦃tb:List (Nat×Str)⦄⦃cs:List (Str×GK)⦄⦃px:Px⦄⦃b:af⦄(k:Nat)(Φ:aU)(m:aj)(d:Df K x st)(A:Qj st N c tb bl cs px b=true)
  (n:qb px Φ/\GC px Φ) (q:bH (λy=>mg y=none) bl) (t:bH (λp:Str×GK=>∃u,mg p.1=some u/\w8 K p.2 u) cs)
  (hf:bH (λp:Nat×Str=>Ent P w K mg base k p.2 (Φ p.1)) tb) (z:∀j r,m j=ok r->j.length=c.length/\sD Φ N.length b j=ok r) (D:∀(v l s:Value) (I:Option Addr) (H ct:Value) (e:az),e.length=c.length->bindArgs (PySem.W.fnOf x x (eI st) (bQ st) (aO st) .none v l s I H ct) ⟨e,[]⟩=pure (c.zip e):=by first|exact λ_ _ _ _ _ _=>u1 λ_=>rfl|exact λ_ _ _ _ _ _=>u2 λ_ _=>rfl|exact λ_ _ _ _ _ _=>u3 λ_ _ _=>rfl|exact λ_ _ _ _ _ _=>u4 λ_ _ _ _=>rfl|exact λ_ _ _ _ _ _=>u5 λ_ _ _ _ _=>rfl):Ent P w K mg base (k+1) x m:=by
 obtain⟨f,J,o,a⟩:=d;obtain⟨F,E⟩:=aF A;exact ent o (abf X G a) (o.binds D) (z4 F) E n.1 n.2 (bH.mem q) (bH.two (P:=λy i=>∃u,mg y=some u/\w8 K i u) t) (bH.tab (P:=λg y=>Ent P w K mg base k y (Φ g)) hf) z
noncomputable abbrev xm(PT F:aU)(i:Nat)(m:aj):aU:=λn=>@Bool.rec (λ_=>aj) (@Bool.rec (λ_=>aj) (F n) m (Nat.beq n i)) (PT n) (Nat.ble 1000 n)
def ifK{d:Type}{Q:Nat->Prop}(p:Nat){k:Nat}{a b c:d}(h:(if p=k then a else b)=c)(i:a=c->Q k)(g:b=c->Q p):Q p:=by
 by_cases e:p=k
 ·subst e;rw[zac rfl]at h;exact i h
 ·rw[zab e]at h;exact g h
variable {F:Addr->Prop}{Z:Cx}{cs:aA}{Φ:aU}
def BM{d:Type}{e:Expr}{p k:Nat}{a b c:d}(h:(if p=k then a else b)=c)(i:a=c->PE Z e (tD Z F Φ (.cI k cs))/\L2.PT Z e (ip Z F Φ (.cI k cs)))(g:b=c->PE Z e (tD Z F Φ (.cI p cs))/\L2.PT Z e (ip Z F Φ (.cI p cs))):PE Z e (tD Z F Φ (.cI p cs))/\L2.PT Z e (ip Z F Φ (.cI p cs)):=ifK (Q:=λp=>PE Z e (tD Z F Φ (.cI p cs))/\L2.PT Z e (ip Z F Φ (.cI p cs))) p h i g
def ifM{d:Type}{i p k:Nat}{a b c:d}(h:(if p=k then a else b)=c)(g:a=c->PS Z st (qr Z F Φ (.mut k i cs)))(e:b=c->PS Z st (qr Z F Φ (.mut p i cs))):PS Z st (qr Z F Φ (.mut p i cs)):=ifK (Q:=λp=>PS Z st (qr Z F Φ (.mut p i cs))) p h g e
def qY{A:Prop}(h:∃_:aa,False):A:=h.elim λ_ z=>z.elim
def cN:True:=trivial
theorem bH.nn{K:ao}{h:Heap}{mg:aZ}(X:K.In h)(G:h.Ns mainGlobals mg):∀{l:av},bH (λy=>PySem.W.nsIn K mainGlobals y=some none) l->bH (λy=>mg y=none) l
 |[],_=>trivial
 |_::_,z=>⟨PySem.W.mg_none_of X G z.1,bH.nn X G z.2⟩
def en7{P:aM}{w:World}{K:ao}{h base:Heap}{mg:aZ}{bl:av}{cs:List (Str×GK)}{px:Px}{PT:aU}(X:K.In h)(G:h.Ns mainGlobals mg)(D:∀F i m,qb px (xm PT F i m)/\GC px (xm PT F i m))(v:bH (λy=>mg y=none) bl)(z:bH (λp:Str×GK=>∃u,mg p.1=some u/\w8 K p.2 u) cs)
  ⦃x:Str⦄ ⦃st:Stmt⦄ (k:Nat) (Φ:aU) (d:Df K x st) (N:av) (a:Nat) (tb:List (Nat×Str)) (b:af)
  (hf:bH (λp:Nat×Str=>Ent P w K mg base k p.2 (Φ p.1)) tb) (E:Qj st N (N.take a) tb bl cs px b=true:=by decide +kernel) (e:∃F i m,Φ=xm PT F i m:=by exact⟨_,_,_,rfl⟩) (s:(N.take a).length=a:=by rfl) (H:∀(l c j:Value) (o:Option Addr) (n ct:Value) (g:az),g.length=a->bindArgs (PySem.W.fnOf x x (eI st) (bQ st) (aO st) .none l c j o n ct) ⟨g,[]⟩=pure ((N.take a).zip g):=by first|exact λ_ _ _ _ _ _=>u1 λ_=>rfl|exact λ_ _ _ _ _ _=>u2 λ_ _=>rfl|exact λ_ _ _ _ _ _=>u3 λ_ _ _=>rfl|exact λ_ _ _ _ _ _=>u4 λ_ _ _ _=>rfl|exact λ_ _ _ _ _ _=>u5 λ_ _ _ _ _=>rfl):Ent P w K mg base (k+1) x (mk Φ a N.length b):=by
 obtain⟨F,i,m,e⟩:=e;exact en X G k Φ _ d E (e▸D F i m) v z hf (λt r q=>⟨(yc t r q).1.trans s.symm,(yc t r q).2⟩) (λl c j o n ct g A=>H l c j o n ct g (A.trans s))
def enL{x:Str}{a bl:av}{tb:List (Nat×Str)}{cs:List (Str×GK)}{px:Px}{b:af}{e:FuncData}(k:Nat)(Φ:aU)(m:aj)(t:GD K x x st f e)(o:Qj st N a tb bl cs px b=true)
  (d:qb px Φ/\GC px Φ) (j:bH (λy=>mg y=none) bl) (l:bH (λp:Str×GK=>∃u,mg p.1=some u/\w8 K p.2 u) cs)
  (hf:bH (λp:Nat×Str=>Ent P w K mg base k p.2 (Φ p.1)) tb) (n:∀c r,m c=ok r->c.length=a.length/\sD Φ N.length b c=ok r):iM P w K mg base Cg (k+1) f e a (Hv K a.length m):=by
 obtain⟨s,q⟩:=aF o;exact v_ t (z4 s) q d.1 d.2 (bH.mem j) (bH.two (P:=λy i=>∃u,mg y=some u/\w8 K i u) l) (λg y h=>(bH.tab (P:=λg y=>Ent P w K mg base k y (Φ g)) hf g y h).ex) n
def jx.up{k:Nat}{y:Str}{a:aa->Prop}(h:jx P w K mg base k C y a)(c:k<=k'):jx P w K mg base k' C y a:=by
 obtain⟨f,g,b,e,d⟩:=h.ex;exact⟨f,g,b,e.mono c,d⟩
def jx.u{k:Nat}{y:Str}{a:aa->Prop}(h:jx P w K mg base k C y a)(b:k<=k':=by decide):jx P w K mg base k' C y a:=h.up b
def iu{h:Heap}(X:K.In h)(q:PySem.W.excIn K C L3 "ValueError.__new__" = true)(m:PySem.W.mroIn K C (.ref B)=some true)(ne:C≠B):qc C B h:=by
 obtain⟨r,i,bs,c,g,e,p,d,sub,s,b,o,n,l,k,j,a,_,_,_⟩:=Aa q;refine⟨_,_,_,_,_,_,_,_,_,_,_,_,_,_,_,_,_,X _ _ a,?_⟩;unfold PySem.W.mroIn PySem.W.clsIn at m;rw[a]at m;have m:some ((Value.ref C::c).contains (.ref B))=some true:=m;have m:=aat m;rw[zbm,zaU]at m;rcases m with m|m
 ·have:=beq_iff_eq.mp m;cases this;exact absurd rfl ne
 ·exact m
section
variable {P:aM}{w:World}{K:ao}{h base:Heap}{mg:aZ}(X:K.In h)(G:h.Ns mainGlobals mg){C:Addr}⦃x:Str⦄⦃st:Stmt⦄⦃N ps bl:av⦄⦃tb:List (Nat×Str)⦄⦃cs:List (Str×GK)⦄⦃px:Px⦄
include X G
def enX{y:Str}(O:qJ y C mg base)⦃b:af⦄(n k:Nat)(Φ:aU)(Ψ:Nat->aa->Prop)(m:aa->Prop)(d:Df K x st)(A:Qj st N ps tb bl cs px b=true)(M:CA (iY (aO st) y&&!(y==("__debug__" : Str))) n y b (bQ st)=true)
  (o:qb px Φ/\GC px Φ) (s:bH (λy=>mg y=none) bl) (v:bH (λp:Str×GK=>∃u,mg p.1=some u/\w8 K p.2 u) cs)
  (hf:bH (λp:Nat×Str=>Ent P w K mg base k p.2 (Φ p.1)) tb) (Q:bH (λp:Nat×Str=>(∃c,Ψ p.1 c)->jx P w K mg base k C p.2 (Ψ p.1)) tb)
  (r:∀c,m c->c.length=ps.length/\Er Φ Ψ n b (c.map some++List.replicate (N.length - c.length) none)) (D:∀(z j t:Value) (L:Option Addr) (I ct:Value) (e:az),e.length=ps.length->bindArgs (PySem.W.fnOf x x (eI st) (bQ st) (aO st) .none z j t L I ct) ⟨e,[]⟩=pure (ps.zip e):=by first|exact λ_ _ _ _ _ _=>u1 λ_=>rfl|exact λ_ _ _ _ _ _=>u2 λ_ _=>rfl|exact λ_ _ _ _ _ _=>u3 λ_ _ _=>rfl|exact λ_ _ _ _ _ _=>u4 λ_ _ _ _=>rfl|exact λ_ _ _ _ _ _=>u5 λ_ _ _ _ _=>rfl):jx P w K mg base (k+1) C x m:=by
 obtain⟨f,J,l,a⟩:=d;obtain⟨H,E⟩:=aF A;exact⟨f,J,ps,OK l (z4 H) E M o.1 o.2 (bH.mem s) (bH.two (P:=λy i=>∃u,mg y=some u/\w8 K i u) v) (bH.tab (P:=λg y=>Ent P w K mg base k y (Φ g)) hf) (bH.tab (P:=λg y=>(∃c,Ψ g c)->jx P w K mg base k C y (Ψ g)) Q) O r,abf X G a,l.kp,l.binds D,λc q=>(r c q).1⟩
end
def O9{x:Str}(h:wx x=true):(x==("__debug__" : Str))=false/\(x==("__classdict__" : Str))=false:=by
 unfold wx at h;simpa only[Bool.and_eq_true,Bool.not_eq_true']using h
noncomputable def GV(l:List (Str×Bool)):Str->Option Bool:=λx=>if x = "ValueError" then some true else l.lookup x
theorem bH.look{P:Str->Bool->Prop}:∀{l:List (Str×Bool)},bH (λp=>P p.1 p.2) l->∀x b,l.lookup x=some b->P x b/\(x,b)∈l
 |[],_,x,b,h=>nomatch h
 | (y,c)::l,a,x,b,h=>by
  rw[zal]at h;by_cases e:x=y
  ·subst e;rw[zaR]at h;cases h;exact⟨a.1,aai⟩
  ·rw[beq_eq_false_iff_ne.mpr e]at h;obtain⟨g,d⟩:=bH.look a.2 x b h;exact⟨g,aah _ d⟩
def gB(sc:Scope)(x:Str):Bool:=iY sc x&&!(x==("__debug__" : Str))
noncomputable def U_(share ex kept told a w1:Str)(Dd:Stmt)(i h g:ak)(d v r:Expr)(m l k j:Nat)(q1 q2 e np p1 p2 p3 hpos pos c1 G c3 c4 E c6 d1 D A z y x u t s q p o n u1 u2 u3 u4 c b:Pos):aW :=
 [.Assign [.Name kept q1] (.Constant .none m q2) e,.Try [Dd] [.ExceptHandler (some (.Name share np)) (some ex) [.Assign [.Name kept p1] (.Name ex p2) p3] hpos] [] [] pos,.If (.Compare (.Name kept c1) [.Is] [.Constant .none l G] c3) [.Return (some (.Constant (.str a) k c4)) E] [] c6,
  .Assign [.Name told d1] (.List i D) A,.Assign [.Name told z] (.BinOp (.Name told y) .Add (.List h x) u) t,.Assign [.Name told s] (.BinOp (.Name told q) .Add (.List g p) o) n,
  .If (.BoolOp .Or [d,.UnaryOp .Not v u1] u2) [.Return (some (.Constant (.str w1) j u3)) u4] [] c,.Return (some r) b]
noncomputable def sE(n l:Nat)(bs:List Bool):a_:=(List.replicate n none).set l (some (.lst .fz (bs.map DI.D.bl)))
variable {b1 b2 b3:List Bool}{cR cT:CE}{l1 l2 l3:ak}{share told w0 w1:Str}{tc:Expr}
section
variable {X:Cx}{S:Sx}{k:Nat}{Φ:aU}{C B:Addr}{E1:XK}
def uV{ex kept w:Str}{cl:Str->Option Bool}{i j l:Nat}{v r:Expr}{tb:TS}{good:St->Hp->Prop}{nrm:Prop}(L:Lk X S k Φ)(hk:X.stack=X.env::X.outer)(hf:X.env.frame=some X.env.locals)(O:qJ share B X.mg X.base)(OS:qc C B X.base)(gs:Gl X share)(ds:(share==("__debug__" : Str))=false)
  (e:X.N[i]?=some ex) (I:X.N[j]?=some kept) (hl:X.N[l]?=some told) (qh:kept≠ex) (vS:j≠l) (lx:X.env.scope.names.lookup ex=some .local) (G:X.env.scope.names.lookup kept=some .local) (lt:X.env.scope.names.lookup told=some .local) (U:wx ex=true) (Y:wx kept=true) (W:wx told=true)
  (hb:∀pn G9,Passes (uB X.prog X.w C) (Cx.mW X pn G9) E1->jd (Cx.mW X pn G9) [Dd] tb) (hE:∀a,E1 (.ref C) none a->aL X.H₀ a) (htb:∀D t H,good t H->(∀g a,g[j]?=some (some .bz)->aL X.H₀ a->nrm->D.nx g a)->tb D t H) (Z:Qv X C cl) (i1:fZ kept cl l1=some b1) (i2:fZ kept cl l2=some b2) (i3:fZ kept cl l3=some b3) (hv:BF kept cl v=some true)
  (hc:b6 S cT tc=true) (hr:b6 S cR r=true) (hlen:b1.length+b2.length+b3.length<=sizeLine) (eT:lr Φ cT (sE X.N.length l (b1++b2++b3))=ok false) (eR:bp Φ cR (sE X.N.length l (b1++b2++b3))=ok (.str w)) :
  ∀{j1 j2 j3 j4:Nat} {q1 q2 q3 np p1 p2 p3 hpos pos c1 c2 c3 c4 c5 c6 d1 d2 d3 T R Q e4 e5 f1 M J f4 f5 u1 u2 u3 u4 u5 u6:Pos},jd X (U_ share ex kept told w0 w1 Dd l1 l2 l3 tc v r j1 j2 j3 j4 q1 q2 q3 np p1 p2 p3 hpos pos c1 c2 c3 c4 c5 c6 d1 d2 d3 T R Q e4 e5 f1 M J f4 f5 u1 u2 u3 u4 u5 u6)
   (λD t H=>good (t.set j (some .bz)) H/\(nrm->∀a,aL X.H₀ a->D.rt (.str w0) a)/\∀a,E1 (.ref C) none a->∀ko,aL a ko->D.rt (.str w) ko):=by
 intro j1 j2 j3 j4 q1 q2 q3 np p1 p2 p3 hpos pos c1 c2 c3 c4 c5 c6 d1 d2 d3 T R Q e4 e5 f1 M J f4 f5 u1 u2 u3 u4 u5 u6;have U:=O9 U;have Y:=O9 Y;have W:=O9 W;unfold U_;have E:∀p,PE X (.Name kept p) (mY j):=λp=>mf (pos:=p) I (.inl G) Y.1 Y.2;have ht:∀p,PE X (.Name told p) (mY l):=λp=>mf (pos:=p) hl (.inl lt) W.1 W.2;have S1:=oG (X:=X) (pos:=q3) (pos':=q1) (i:=j) L.nd I (.inl G) (D4 (j:=j1) (pos:=q2)) (hf:=.inr G);have S2:=H_ (X:=X) (C:=C) (B:=B) (body:=[Dd]) (tb:=tb) (i:=i) (j:=j) (E1:=E1) (np:=np) (p1:=p1) (p2:=p2) (p3:=p3) (hpos:=hpos) (pos:=pos) hk hf O OS gs ds L.nd e I qh lx G U.1 U.2 rfl hb;have S3:=vx (X:=X) (pos:=c6) (MS (pos:=c3) (M1 (j:=j2) (pos':=c2) (E c1))) (iT (oH (X:=X) (pos:=c5) (sO (x:=w0) (j:=j3) (pos:=c4)))) sH;have S4:=oG (X:=X) (pos:=d3) (pos':=d1) (i:=l) L.nd hl (.inl lt) (xW (pos:=d2) (xY Z E i1)) (hf:=.inr lt);obtain⟨pv1,_,pv3⟩:=D5 Z E hv;have S7:=vx (X:=X) (pos:=u5) (KO (pos:=u2) (rest:=[]) (gw (F:=λ_=>False) L cT tc hc).2 (DN (pos:=u2) (DQ (pos:=u1) (DP pv1 pv3)))).pt (iT (oH (X:=X) (pos:=u4) (sO (x:=w1) (j:=j4) (pos:=u3)))) sH;have S8:=oH (X:=X) (pos:=u6) (gw (F:=λ_=>False) L cR r hr).1;refine jd.imp (dT S1 (dT S2 (dT S3 (dT S4 (dT (UE (bs':=b1) Z E ht L.nd hl lt vS i2 (by left)) (dT (UE (bs':=b1++b2) Z E ht L.nd hl lt vS i3 (by simp;left)) (dT S7 (iT S8)))))))) λD t H hq=>?_;obtain⟨A,q1,q2⟩:=hq;refine⟨htb _ _ _ A λg a T sm nr=>⟨.bz,T,true,rfl,Nv (q1 nr a sm)⟩,λc a hx hn=>?_⟩;have hjN:j<X.N.length:=(List.getElem?_eq_some_iff.mp I).1;have z:l<X.N.length:=(List.getElem?_eq_some_iff.mp hl).1;have A:(only X.N.length j (.ref c))[j]?=some (some (.ref c)):=by
  unfold only;rw[List.getElem?_set_self (by rw[zar];exact hjN)]
 have P2:(only X.N.length j (.ref c)).length=X.N.length:=by unfold only;simp
 refine⟨.ref c,A,false,rfl,EK ?_⟩;refine⟨c,A,bc,by simp;left,λy n1=>?_⟩;have s0:aL a (upd a c (.ext (yY c C))):=aL.upd hn;have s1:=s0.trans (aL.upd (o:=.lst (b1.map V.bl)) n1);have XZ:upd (upd a c (.ext (yY c C))) y (.lst (b1.map V.bl)) c=some (.ext (yY c C)):=(aL.upd n1) _ _ bc;refine⟨c,y,by rw[List.getElem?_set_ne (Ne.symm vS)];exact A,XZ,by rw[List.getElem?_set_self (by rw[P2];exact z)],bc,λσ2 H2 l2' s2 n2 R M g2 IM=>?_⟩;have Vw:=s2 _ _ XZ;refine⟨c,l2',R,Vw,M,g2,λs H3 Xn s3 n3 Q J g3 IL=>?_⟩;have hx3:=s3 _ _ Vw;have u:=(s1.trans s2).trans s3;have hl3:s.length=X.N.length:=by rw[IL,IM,zbk,P2]
 have nf:X.H₀ Xn=none:=aL.free ((hE a hx).trans (s1.trans s2)) n3;have Si:∀q,aL H3 q->SI X (λ_=>False) (λp=>p=Xn) (λ_=>none) (sE X.N.length l (b1++b2++b3)) s q:=λq m=>by
  refine⟨?_,λi d e=>?_,λ_ _=>rfl,λp hp=>?_,λp hp=>?_,λ_ _ h=>by simp at h,λ_ _ h=>by simp at h,((hE a hx).trans u).trans m⟩
  ·unfold sE;rw[zbk,zar,hl3]
  ·unfold sE at e;by_cases Ji:l=i
   ·subst Ji;rw[List.getElem?_set_self (by rw[zar];exact z)]at e;cases e;refine⟨_,J,.lst ⟨m _ _ g3,rfl⟩ ?_⟩;have:∀(bs:List Bool) (n:Nat),aI (bg X.K q) (DI.nd X.K (λp=>p=Xn) (λ_=>False) (λ_=>none) q) [l] n (bs.map V.bl) (bs.map DI.D.bl):=by
     intro bs;induction bs with
     |nil=>intro n;exact .nil
     |cons b bs ih=>intro n;exact .cons (.bl b) (ih _)
    exact this _ _
   ·rw[List.getElem?_set_ne Ji]at e;rw[List.getElem?_replicate]at e;split at e<;>cases e
  ·subst hp;rw[m _ _ g3];simp
  ·subst hp;exact .inr nf
 refine⟨_,_,_,false,Si H3 (aL.refl _),eT,λq m=>?_⟩;refine EK ⟨c,by rw[<- Q],m _ _ hx3,true,rfl,EK ?_⟩;refine⟨_,_,_,_,Si q m,eR,λv H5 s5 rv=>?_⟩;obtain⟨τt,_,rp⟩:=rv;cases rp;exact q2 a hx _ ((u.trans m).trans s5)
end
structure TW(K:ao)(mg:aZ)(base:Heap)(B:Addr)(sc:Scope)(kept:Str)(l1 l2 l3:ak)(v:Expr)(Φ:aU)(cT cR:CE)(n l:Nat)(C:Addr)(w:Str):Prop where
 os:qc C B base
 xc:XC K C
 ex:∃(cl:Str->Option Bool) (b1 b2 b3:List Bool),(∀x b,cl x=some b->LQ K mg sc C x b)/\fZ kept cl l1=some b1/\fZ kept cl l2=some b2/\fZ kept cl l3=some b3/\BF kept cl v=some true/\b1.length+b2.length+b3.length<=sizeLine/\lr Φ cT (sE n l (b1++b2++b3))=ok false/\bp Φ cR (sE n l (b1++b2++b3))=ok (.str w)
def ntB(sc:Scope)(N:av)(share ex kept told:Str)(i j l:Nat):Bool:=gB sc share&&(iY sc "isinstance" && (decide (N[i]?=some ex)&&(decide (N[j]?=some kept)&&(decide (N[l]?=some told)&&(decide (kept≠ex/\j≠l)&&(decide (sc.names.lookup ex=some .local)&&(decide (sc.names.lookup kept=some .local)&&(decide (sc.names.lookup told=some .local)&&(wx ex&&(wx kept&&wx told))))))))))
noncomputable def DF(N:av)(j:Nat)(ds:aa):a_:=(ds.map some++List.replicate (N.length - ds.length) none).set j (some .bz)
section
variable {P:aM}{w:World}{K:ao}{h base:Heap}{mg:aZ}(X:K.In h)(G:h.Ns mainGlobals mg)⦃x:Str⦄⦃st:Stmt⦄⦃N ps bl:av⦄⦃tb:List (Nat×Str)⦄⦃cs:List (Str×GK)⦄⦃px:Px⦄
include X G
def Zg{C0:Addr}{ex kept w00:Str}{v r0:Expr}{c:CS}(i j l k:Nat)(Φ:aU)(m:aj)(hO:qJ share B mg base)(ni:mg "isinstance" = none){j1 j2 j3 j4:Nat}{q1 q2 q3 np p1 p2 p3 hpos pos c1 c2 c3 c4 c5 c6 d1 d2 d3 e1 e2 e3 e4 e5 f1 f2 f3 f4 f5 u1 u2 u3 u4 u5 u6:Pos}(d:Df K x st)(hsc:VJ N ps (aO st)=true)
  (SG:bQ st=U_ share ex kept told w0 w1 Dd l1 l2 l3 tc v r0 j1 j2 j3 j4 q1 q2 q3 np p1 p2 p3 hpos pos c1 c2 c3 c4 c5 c6 d1 d2 d3 e1 e2 e3 e4 e5 f1 f2 f3 f4 f5 u1 u2 u3 u4 u5 u6/\(ntB (aO st) N share ex kept told i j l&&(b6 ⟨aO st,N,λn=>List.lookup n tb,bl,cs,px⟩ cT tc&&(b6 ⟨aO st,N,λn=>List.lookup n tb,bl,cs,px⟩ cR r0&&(pT ⟨aO st,N,λn=>List.lookup n tb,bl,cs,px⟩ c Dd&&Mf c))))=true)
  (hp:qb px Φ/\GC px Φ) (rl:bH (λy=>mg y=none) bl) (mM:bH (λp:Str×GK=>∃u,mg p.1=some u/\w8 K p.2 u) cs) (hf:bH (λp:Nat×Str=>Ent P w K mg base k p.2 (Φ p.1)) tb) (T0:TW K mg base B (aO st) kept l1 l2 l3 v Φ cT cR N.length l C0 w00)
  (hm:∀I r,m I=ok r->I.length=ps.length/\((r=.str w0/\∃ρ',i0 Φ c (DF N j I)=ok (.nx,ρ')/\ρ'[j]?=some (some .bz)) \/
   ∃ww C n' Ψ,r=.str ww/\TW K mg base B (aO st) kept l1 l2 l3 v Φ cT cR N.length l C ww/\bH (λp:Nat×Str=>(∃I,Ψ p.1 I)->jx P w K mg base k C p.2 (Ψ p.1)) tb/\qm Φ Ψ n' c (DF N j I)))
  (hb:∀(kV doc pm:Value) (an:Option Addr) (gf ct:Value) (us:az),us.length=ps.length->bindArgs (PySem.W.fnOf x x (eI st) (bQ st) (aO st) .none kV doc pm an gf ct) ⟨us,[]⟩=pure (ps.zip us):=by first|exact λ_ _ _ _ _ _=>u1 λ_=>rfl):Ent P w K mg base (k+1) x m:=by
 obtain⟨f,fd,Fu,a⟩:=d;obtain⟨SG,e⟩:=SG;obtain⟨e,hs⟩:=aF e;obtain⟨s1,hs⟩:=aF hs;obtain⟨s2,hs⟩:=aF hs;obtain⟨s4,s5⟩:=aF hs;obtain⟨n1,e⟩:=aF e;obtain⟨n9,e⟩:=aF e;obtain⟨n2,e⟩:=aF e;obtain⟨n3,e⟩:=aF e;obtain⟨n4,e⟩:=aF e;obtain⟨n5,e⟩:=aF e;obtain⟨n6,e⟩:=aF e;obtain⟨n7,e⟩:=aF e;obtain⟨n8,e⟩:=aF e;obtain⟨n10,e⟩:=aF e;obtain⟨n11,n12⟩:=aF e;obtain⟨n1,Xg⟩:=aF n1;have hj:=aab n3;obtain⟨qh,vS⟩:=aab n5;have Sc:=z4 hsc;refine⟨f,fd,ps,Fu.ok (N:=N) Sc (λvs H Q E ⟨_,_,_,h,_⟩=>h) λgf A outer s H vs Q E hr xd=>?_,abf X G a,Fu.kp,Fu.binds hb,λI r q=>(hm I r q).1⟩;obtain⟨F,I,r,hlq,rs,er,hq⟩:=xd;obtain⟨P8,Tn⟩:=hm I r er;have zP:=hp.1;have NN:=hp.2;have rl:=bH.mem rl;have mM:=bH.two (P:=λy i=>∃u,mg y=some u/\w8 K i u) mM;have xg:=bH.tab (P:=λg y=>Ent P w K mg base k y (Φ g)) hf
 let M:=(jO Cg P w K mg base N x (aO st) f gf A outer s H E).zC
 have L:Lk M ⟨aO st,N,λn=>List.lookup n tb,bl,cs,px⟩ k Φ:=⟨rfl,rfl,Sc.nd,rfl,hr,rl,λg y h=>⟨(xg g y h).ex⟩,mM,zP⟩
 have Z:∀{C:Addr} {cl:Str->Option Bool},XC K C->(∀x b,cl x=some b->LQ K mg (aO st) C x b)->Qv M C cl:=λxc Tj=>⟨xc,L.gl n9,ni,λx b h p=>by
  obtain⟨⟨h1,h2⟩,h3⟩:=Tj x b h;rcases h3 with ⟨Ci,h3,h4⟩|⟨T,h3,h4,h5,h6⟩
  ·exact⟨.ref Ci,.ref Ci,sP (L.gl h1) h3 rfl h2,λu z=>z,h4⟩
  ·exact⟨.ty T,.type T,zy (L.gl h1) h3 h4 rfl h5 h2,λu z=>z,h6⟩⟩
 have hpl:ps.length<=N.length:=by have:=aaU List.length Sc.pre;rw[zaL]at this;left
 have Si:=u_ (X:=M) (F:=F) (N:=N) (vs:=vs) (ds:=I) (H:=H) rfl (by left) rs;have aeA:j<N.length:=(List.getElem?_eq_some_iff.mp hj).1;obtain⟨τ1,xj⟩:=Si.set (i:=j) (v:=.bz) (d:=.bz) ⟨λ_=>none,λ_ _ h=>by simp at h,.bz⟩ (by simp;left);rw[SG];rcases Tn with ⟨rfl,ρ',e1,e2⟩|⟨ww,C,n',Ψ,rfl,T,Jl,e1⟩
 ·obtain⟨cl,b1,b2,b3,t1,t2,t3,t4,t5,t6,t7,t8⟩:=T0.ex;refine⟨_,uV (X:=M) (nrm:=True) (E1:=λ_ _ _=>False) (good:=λY H=>∃R U t o,SI M F R U t Y H/\i0 Φ c t=ok (.nx,o)/\o[j]?=some (some .bz))
   (tb:=λD Y H=>∃R U t o,SI M F R U t Y H/\i0 Φ c t=ok (.nx,o)/\∀J O R' V,SI M F R' V o J O->D.nx J O) L rfl rfl hO T0.os (L.gl n1) (fY Xg) (aab n2) hj (aab n4) qh vS (aab n6) (aab n7) (aab n8) n10 n11 n12 (λpn G9 _=>?_) (λ_ z=>z.elim) (λD Y O hg hd=>?_) (Z T0.xc t1) t2 t3 t4 t5 s1 s2 t6 t7 t8,⟨_,_,_,_,xj,e1,e2⟩,λ_ O sm=>?_,λ_ z=>z.elim⟩
  ·have Lt:nu (Cx.mW M pn G9).zC ⟨aO st,N,λn=>List.lookup n tb,bl,cs,px⟩ k Φ:=⟨⟨L.sc,L.N,L.nd,L.calm,L.room,L.bl,λf x h=>⟨(L.fn f x h).ex⟩,L.cs,L.pr⟩,λ_=>rfl,PassesOwn.never,Sc.kind,NN⟩
   refine jd.imp (iT (PS.zC (xJ (F:=F) Lt c Dd s4))) λD Y H ⟨R,U,t,o,Si,ev,hq⟩=>⟨R,U,t,_,Si.mW.zC,ev,λJ O R' V gK _=>hq J O R' V (by have S:=gK.QP;exact⟨S.len,S.rep,S.rt,S.rh,S.rf,S.th,S.t0,S.same⟩)⟩
  ·obtain⟨R,U,t,o,Si,ev,f2⟩:=hg;refine⟨R,U,t,o,Si,ev,λJ O R' V gK=>?_⟩;obtain⟨v1,g1,r1⟩:=gK.rep j _ f2;cases r1;exact hd J O g1 gK.same trivial
  ·exact hq (.str w0) O sm ⟨λ_=>none,λ_ _ h=>by simp at h,.str w0⟩
 ·obtain⟨cl,b1,b2,b3,t1,t2,t3,t4,t5,t6,t7,t8⟩:=T.ex;have Jl:=bH.tab (P:=λg y=>(∃I,Ψ g I)->jx P w K mg base k C y (Ψ g)) Jl;refine⟨_,uV (X:=M) (nrm:=False) (E1:=λc _ O=>c=.ref C/\aL M.H₀ O) (good:=λY H=>∃R U t,SI M F R U t Y H/\qm Φ Ψ n' c t)
   (tb:=ov M F (qm Φ Ψ n' c)) L rfl rfl hO T.os (L.gl n1) (fY Xg) (aab n2) hj (aab n4) qh vS (aab n6) (aab n7) (aab n8) n10 n11 n12 (λpn G9 hx=>?_) (λ_ z=>z.2) (λD Y O hg hd=>hg) (Z T.xc t1) t2 t3 t4 t5 s1 s2 t6 t7 t8,⟨_,_,_,xj,e1⟩,λz=>z.elim,λO hE ko sm=>?_⟩
  ·exact jd.imp (iT (Ui (X:=Cx.mW M pn G9) (F:=F) (n:=n') ⟨L.sc,L.N,L.nd,L.calm,L.room,L.bl,λf x h=>⟨(L.fn f x h).ex⟩,L.cs,L.pr⟩ hx Jl s5 s4)) λD Y H ⟨R,U,t,Si,hb⟩=>⟨R,U,t,Si.mW,hb⟩
  ·exact hq (.str ww) ko (hE.2.trans sm) ⟨λ_=>none,λ_ _ h=>by simp at h,.str ww⟩
end
def uP{h:Heap}(X:K.In h)(G:h.Ns mainGlobals mg){sc:Scope}{kept w:Str}{v:Expr}{n l:Nat}{ls:List (Str×Bool)}(j:qc C B base)(xc:XC K C)
  (hl:bH (λp:Str×Bool=>∃g,PySem.W.nsIn K mainGlobals p.1=some (some (.ref g))/\PySem.W.kitOne K (.ref C) (.ref g)=some p.2) ls) (vv:PySem.W.kitOne K (.ref C) (.type "ValueError")=some true) (k:mg "ValueError" = none)
  (a:(gB sc "ValueError" && (ls.all (λp=>gB sc p.1)&&(decide (fZ kept (GV ls) l1=some b1)&&(decide (fZ kept (GV ls) l2=some b2)&&(decide (fZ kept (GV ls) l3=some b3)&&(decide (BF kept (GV ls) v=some true)&&decide (b1.length+b2.length+b3.length<=100)))))))=true)
  (D:lr Φ cT (sE n l (b1++b2++b3))=ok false) (E:bp Φ cR (sE n l (b1++b2++b3))=ok (.str w)):TW K mg base B sc kept l1 l2 l3 v Φ cT cR n l C w:=by
 obtain⟨d,a⟩:=aF a;obtain⟨c8,a⟩:=aF a;obtain⟨s,a⟩:=aF a;obtain⟨r,a⟩:=aF a;obtain⟨q,a⟩:=aF a;obtain⟨o,m⟩:=aF a;obtain⟨d,i⟩:=aF d;refine⟨j,xc,GV ls,b1,b2,b3,λy b c=>?_,aab s,aab r,aab q,aab o,by rw[sizeLine_eq];exact aaS (aab m) (by decide),D,E⟩;unfold GV at c;by_cases e:y = "ValueError"
 ·subst e;rw[zac rfl]at c;cases c;exact⟨⟨d,fY i⟩,.inr ⟨"ValueError",k,by decide +kernel,by decide +kernel,vv⟩⟩
 ·rw[zab e]at c;obtain⟨⟨g,A,z⟩,x⟩:=bH.look (P:=λy b=>∃g,PySem.W.nsIn K mainGlobals y=some (some (.ref g))/\PySem.W.kitOne K (.ref C) (.ref g)=some b) hl y b c;obtain⟨u,t⟩:=aF (List.all_eq_true.mp c8 _ x);exact⟨⟨u,fY t⟩,.inl ⟨g,abf X G A,z⟩⟩
end DI
end
section
namespace DI
open PySem (Str)
structure K21(Φ:aU):Prop where
 YL:ja (Φ 51)
 YK:k7 (Φ 52)
 N6:lZ (Φ 53)
 h54:AB (Φ 54)
 YJ:mB (Φ 65)
 h66:p9 (Φ 66)
 h92:AF (Φ 92)
 h93:rR (Φ 93)
 h95:wY (Φ 95)
 Xz:uH 51 (Φ 51)
 Xy:uH 52 (Φ 52)
 K6:uG (Φ 53)
 Xx:uH 54 (Φ 54)
 Xw:uH 65 (Φ 65)
 Xv:uH 66 (Φ 66)
 GN:∀e ds,uv e ds->Φ 91 ds=some (.error e)
 Xu:∀e a b c,AJ a b c .bz->uv e [a,b,c]->Φ 92 [a,b,c]=some (.error e)
 Xt:∀e a b c,AJ a b c .bz->uv e [a,b,c]->Φ 93 [a,b,c]=some (.error e)
 Xs:uH 95 (Φ 95)
def r92(Φ:aU)(GN:∀e d,uv e d->Φ 91 d=some (.error e)):∀e a b c,AJ a b c .bz->uv e [a,b,c]->mk Φ 3 4 lV [a,b,c]=some (.error e):=λe a b c F h=>f9 ⟨rfl,xq (GN e) F.a F.b F.c h⟩
def r93(Φ:aU)(GN:∀e d,uv e d->Φ 91 d=some (.error e)):∀e a b c,AJ a b c .bz->uv e [a,b,c]->mk Φ 3 4 iG [a,b,c]=some (.error e):=λe a b c F h=>f9 ⟨rfl,xq (GN e) F.a F.b F.c h⟩
def iZ:Fz .bz:=⟨rfl,rfl,rfl⟩
def ZK(w:Nat)(a b c g:D):Prop:=∃(n:Nat) (rs:aq) (ws xs:aC),Dr 6 n rs/\GF rs/\n<=5/\Gs 3 n ws xs/\(w≠8->a=aR n rs)/\(w<=3->b=.lst .fz (aQ ws))/\(w<=2\/5<=w->c=.lst .fz (aQ xs))/\(w=5\/w=6->g=.tup [.lst .fz (aQ ws),.lst .fz (aQ xs)])/\(w=7->∀q∈eM n rs,0<q)
def AH(m:aj):Prop:=(∀e d,wW (Kk e) d->m d=some (.error e))/\∀w a b c g,w<9->AJ a b c g->ZK w a b c g->m [.int w,.tup [a,b,c,g]]=ok .bz
def HM(Φ:aU)(K:K21 Φ):AH (mk Φ 2 6 ki):=by
 have t:∀(w:Nat) (a b c g:D),w<9->AJ a b c g->∀e,Kk e (gI w) (bM w a b c g)->Φ (gI w) (bM w a b c g)=some (.error e):=λw a b c g hw F e h=>by
  match w,hw with
  |0,_=>exact K.Xz e _ h
  |1,_=>exact K.Xw e _ h
  |2,_=>exact K.Xv e _ h
  |3,_=>exact K.Xx e _ h
  |4,_=>obtain⟨x,y⟩:=(show e=1/\XD 0 (bM 4 a b c g) from h);rw[x];exact K.K6 _ y
  |5,_=>exact K.Xu e _ _ _ ⟨F.a,F.g,F.c,iZ⟩ h
  |6,_=>exact K.Xt e _ _ _ ⟨F.a,F.g,F.c,iZ⟩ h
  |7,_=>exact K.Xs e _ h
  |8,_=>exact K.Xy e _ h
 refine⟨λe A h=>f9 ?_,λw a b c g hw F u=>?_⟩
 ·obtain⟨w,a,b,c,g,hw,F,o,rfl⟩:=h;exact⟨rfl,.tl (pZ F w) (p7 F hw (t w a b c g hw F e o) (List.range 9) (List.mem_range.mpr hw))⟩
 ·have m:∃r,Φ (gI w) (bM w a b c g)=ok r:=by
   obtain⟨n,f,k,d,I,z,p,G,i,l,j,q,o⟩:=u;have v:=xK I z;have nn:n*n<=5*5:=aco p p;have s:=I.n1
   match w,hw with
   |0,_=>rw[i (by decide),l (by decide),j (by decide)];exact⟨_,K.YL 6 n f .fz .fz k d 3 I G⟩
   |1,_=>rw[i (by decide),l (by decide),j (by decide)];exact⟨_,K.YJ 6 n f .fz .fz k d 3 I G (by decide)⟩
   |2,_=>rw[i (by decide),l (by decide),j (by decide)];exact⟨_,K.h66 6 n f .fz .fz k d 3 6 I G v (by left)⟩
   |3,_=>rw[i (by decide),l (by decide)];exact⟨_,K.h54 6 n f .fz k 3 I G.l1 G.s1 (by decide)⟩
   |4,_=>rw[i (by decide)];exact⟨_,K.N6 6 n f I⟩
   |5,_=>rw[i (by decide),j (by decide),q (by decide)];exact⟨_,K.h92 n f k d .fz d I (Gs.up ⟨G.l2,G.l2,G.s2,G.s2,G.jj⟩ (by decide) (by decide)) (G.up (by decide) (by decide))⟩
   |6,_=>rw[i (by decide),j (by decide),q (by decide)];exact⟨_,K.h93 6 n f k d .fz d I (Gs.up ⟨G.l2,G.l2,G.s2,G.s2,G.jj⟩ (by decide) (by decide)) (G.up (by decide) (by decide))⟩
   |7,_=>rw[i (by decide),j (by decide)];exact⟨_,K.h95 6 n f .fz d I (o rfl) G.l2⟩
   |8,_=>rw[j (by decide)];exact⟨_,K.YK .fz d 3 (by rw[G.l2];exact s) (by rw[G.l2];left) ⟨G.s2,by rw[G.l2];left,by rw[G.l2];left⟩⟩
  obtain⟨r,m⟩:=m;rw[mk_eq (show[D.int w,D.tup [a,b,c,g]].length=2 from rfl)];show kS (bN Φ ki [some (.int w),some (.tup [a,b,c,g]),none,none,none,none])=_;unfold ki;rw[cG,pZ F w];show kS (bN Φ ((List.range 9).map La) (jl w a b c g))=_;rw[wN F hw m];rfl
noncomputable def Kq:Nat->Option Str
 |1=>some "drawing"
 |3=>some "weights"
 |4=>some "worths"
 |6=>some "pair"
 |8=>some "guess"
 |_=>none
noncomputable def VW:CS:=.ex (.call 227 [(.v 0),(.v 1)])
open Classical in
noncomputable def xS(Φ:aU)(ds:aa):O D:=if ds.length=2/\au aD ds=ds/\au ba ds=ds then(match Φ 227 ds with
 |some (.ok _)=>ok (.str "")
 |some (.error e)=>match Kq e with
  |some s=>if wW (Kk e) ds then ok (.str s)else none
  |none=>none
 |none=>none)else none
def uA(e:Nat):Nat->aa->Prop
 |17=>λd=>e=1/\XD 0 d
 |20=>λd=>e=1/\XD 0 d
 |21=>λd=>e=1/\XD 0 d
 |46=>λd=>e=3/\yX bG d
 |47=>λd=>e=4/\yX bG d
 |90=>λd=>e=8/\Qo d
 |91=>uv e
 |92=>λd=>uv e d/\∃a b c,d=[a,b,c]/\AJ a b c .bz
 |93=>λd=>uv e d/\∃a b c,d=[a,b,c]/\AJ a b c .bz
 |94=>λd=>(e=1/\XD 0 d)\/(e=6/\Qn d)
 |227=>wW (Kk e)
 |g=>Kk e g
variable {Φ:aU}
set_option tactic.hygienic true in
def hmB{a b c d e:Str}(ds:aa)(r:D)(h:xS Φ ds=ok r):ds.length=[a,b].length/\((r=.str "" /\ ∃f,i0 Φ VW (DF [a,b,c,d,e] 2 ds)=ok (.nx,f)/\f[2]?=some (some .bz))\/∃n s,Kq n=some s/\r=.str s/\qm Φ (uA n) n VW (DF [a,b,c,d,e] 2 ds)):=by
 unfold xS at h;by_cases g:ds.length=2/\au aD ds=ds/\au ba ds=ds
 case neg=>rw[zab g]at h;cases h
 rw[zac g]at h;obtain⟨t,j,i⟩:=g;obtain⟨x,y,rfl⟩:∃x y,ds=[x,y]:=by
  match ds,t with
  |[x,y],_=>exact⟨x,y,rfl⟩
 have o:DF [a,b,c,d,e] 2 [x,y]=[some x,some y,some .bz,none,none]:=rfl;have k:bL Φ [(.v 0),(.v 1)] [some x,some y,some .bz,none,none]=ok [x,y]:=by
  show pO (ok (aB ba x)) (pO (ok (aB ba y)) (ok []))=_;have q:aB ba x=x:=(aas i).1;have p:aB ba y=y:=(aas (aas i).2).1;rw[q,p];rfl
 rw[o];refine⟨rfl,?_⟩;split at h
 ·rename_i w l;cases h;exact .inl ⟨rfl,_,wb k (by rw[j];exact l),rfl⟩
 ·rename_i n l;split at h
  ·rename_i s u;split at h
   ·rename_i m;cases h;exact .inr ⟨n,s,u,rfl,.ex k (by rw[j];exact m)⟩
   ·cases h
  ·cases h
 ·cases h
def lY(m:aj):Prop:=∀w a b c g,w<9->AJ a b c g->(∀e s,Kq e=some s->Kk e (gI w) (bM w a b c g)->m [.int w,.tup [a,b,c,g]]=ok (.str s))/\(ZK w a b c g->m [.int w,.tup [a,b,c,g]]=ok (.str ""))
open Classical in
def Du(Φ:aU)(h:AH (Φ 227)):lY (xS Φ):=by
 intro w a b c g hw F;have d:[D.int w,.tup [a,b,c,g]].length=2/\au aD [D.int w,.tup [a,b,c,g]]=[D.int w,.tup [a,b,c,g]]/\au ba [D.int w,.tup [a,b,c,g]]=[D.int w,.tup [a,b,c,g]]:=⟨rfl,by simp[F.a.fz,F.b.fz,F.c.fz,F.g.fz],by simp[F.a.al,F.b.al,F.c.al,F.g.al]⟩
 refine⟨λe s f i=>?_,λj=>?_⟩
 ·have x:wW (Kk e) [.int w,.tup [a,b,c,g]]:=⟨w,a,b,c,g,hw,F,i,rfl⟩
  unfold xS;rw[zac d,h.1 e _ x];show(match Kq e with|some s=>if wW (Kk e) [.int w,.tup [a,b,c,g]]then ok (D.str s)else none|none=>none)=_;rw[f];exact aa5 x
 ·unfold xS;rw[zac d,h.2 w a b c g hw F j];rfl
def nJ(s:Str):gd .ne (.str s) (.str s)=ok (.bl false):=by
 rw[Pd rfl rfl];show ok (D.bl (!(s==s)))=_;rw[zaR];rfl
def Af(s:Str):gd .eq (.str s) (.str s)=ok (.bl true):=by
 rw[yU rfl rfl];show ok (D.bl (s==s))=_;rw[zaR]
variable {ρ:a_}
def Az{p q:CE}{a b:Bool}(d:bp Φ p ρ=ok (.bl a))(c:bp Φ q ρ=ok (.bl b)):bp Φ (.and [p,q]) ρ=ok (.bl (a&&b)):=by
 cases a<;>simp[d,c]
structure Gw(n:Nat)(rs:aq)(ws xs:aC)(b o l g:D)(pr:Bool):Prop where
 dr:Dr 6 n rs
 fi:GF rs
 n5:n<=5
 gs:Gs 3 n ws xs
 bd:LR b
 fo:Fz o
 co:du o
 no:bG o n=false
 fl:Fz l
 cl:du l
 nl:bG l n=false
 fg:Fz g
 cg:J6 g
 ng:IB g n=false
 pt:pr=true->∀q∈eM n rs,0<q
 pf:pr=false->∃q∈eM n rs,q=0
noncomputable def pS(pr:Bool):Str:=bif pr then "" else "pair"
noncomputable def Qg(pr:Bool):Nat->Str
 |0=>"weights" |1=>"weights" |2=>"weights" |3=>"weights" |4=>"" |5=>"guess" |6=>"guess" |_=>bif pr then "worths" else "pair"
noncomputable def du2(pr:Bool):Nat->Str
 |0=>"worths" |1=>"worths" |2=>"worths" |3=>"" |4=>"" |5=>"worths" |6=>"worths" |_=>bif pr then "worths" else "pair"
noncomputable def VU(pr:Bool):Nat->Str
 |7=>pS pr
 |_=>""
section
variable {m:aj}(h:lY m){n:Nat}{rs:aq}{ws xs:aC}{b o l g:D}{pr:Bool}(Z:Gw n rs ws xs b o l g pr){w:Nat}(hw:w<8)
include h Z hw
def QG:m [.int w,.tup [b,l,o,g]]=ok (.str "drawing"):=by
 refine(h w b l o g (by left) ⟨Z.bd.fz,Z.fl,Z.fo,Z.fg⟩).1 1 _ rfl ?_
 match w,hw with
 |0,_=>exact .inl ⟨rfl,b,[l,o],Z.bd,rfl,rfl⟩
 |1,_=>exact .inl ⟨rfl,b,[l,o],Z.bd,rfl,rfl⟩
 |2,_=>exact .inl ⟨rfl,b,[l,o],Z.bd,rfl,rfl⟩
 |3,_=>exact .inl ⟨rfl,b,[l],Z.bd,rfl,rfl⟩
 |4,_=>exact⟨rfl,b,[],Z.bd,rfl,rfl⟩
 |5,_=>exact .inl ⟨rfl,b,[g,o],Z.bd,rfl,rfl⟩
 |6,_=>exact .inl ⟨rfl,b,[g,o],Z.bd,rfl,rfl⟩
 |7,_=>exact .inl ⟨rfl,b,[o],Z.bd,rfl,rfl⟩
omit h hw in
def Eh{d c a g':D}(p:w≠8->d=aR n rs)(k:w<=3->c=.lst .fz (aQ ws))(j:w<=2\/5<=w->a=.lst .fz (aQ xs))(i:w=5\/w=6->g'=.tup [.lst .fz (aQ ws),.lst .fz (aQ xs)])(f:w=7->pr=true):ZK w d c a g' :=
 ⟨n,rs,ws,xs,Z.dr,Z.fi,Z.n5,Z.gs,p,k,j,i,λe=>Z.pt (f e)⟩
def QF:m [.int w,.tup [aR n rs,l,o,g]]=ok (.str (Qg pr w)):=by
 have H:=h w (aR n rs) l o g (by left) ⟨kM n rs,Z.fl,Z.fo,Z.fg⟩
 match w,hw with
 |0,_=>exact H.1 3 _ rfl (.inr (.inl ⟨rfl,6,n,rs,l,[o],Z.dr,Z.fl,Z.cl,Z.nl,rfl,rfl⟩))
 |1,_=>exact H.1 3 _ rfl (.inr (.inl ⟨rfl,6,n,rs,l,[o],Z.dr,Z.fl,Z.cl,Z.nl,rfl,rfl⟩))
 |2,_=>exact H.1 3 _ rfl (.inr (.inl ⟨rfl,6,n,rs,l,[o],Z.dr,Z.fl,Z.cl,Z.nl,rfl,rfl⟩))
 |3,_=>exact H.1 3 _ rfl (.inr ⟨rfl,6,n,rs,l,[],Z.dr,Z.fl,Z.cl,Z.nl,rfl,rfl⟩)
 |4,_=>exact H.2 (Eh Z (λ_=>rfl) (λe=>absurd e (by decide)) (λe=>absurd e (by decide)) (λe=>absurd e (by decide)) λe=>absurd e (by decide))
 |5,_=>exact H.1 8 _ rfl (.inr (.inl ⟨rfl,6,n,rs,g,o,Z.dr,Z.fg,Z.fo,Z.cg,Z.ng,rfl⟩))
 |6,_=>exact H.1 8 _ rfl (.inr (.inl ⟨rfl,6,n,rs,g,o,Z.dr,Z.fg,Z.fo,Z.cg,Z.ng,rfl⟩))
 |7,_ =>
  cases a:pr with
  |true=>exact H.1 4 _ rfl (.inr (.inr ⟨rfl,6,n,rs,o,Z.dr,Z.pt a,Z.fo,Z.co,Z.no,rfl⟩))
  |false=>exact H.1 6 _ rfl (.inr (.inl ⟨rfl,6,n,rs,o,Z.dr,Z.pf a,rfl⟩))
def QE:m [.int w,.tup [aR n rs,.lst .fz (aQ ws),o,.tup [.lst .fz (aQ ws),.lst .fz (aQ xs)]]]=ok (.str (du2 pr w)):=by
 have H:=h w (aR n rs) (.lst .fz (aQ ws)) o (.tup [.lst .fz (aQ ws),.lst .fz (aQ xs)]) (by left) ⟨kM n rs,ro ws,Z.fo,zY ws xs⟩
 match w,hw with
 |0,_=>exact H.1 4 _ rfl (.inr (.inr ⟨rfl,6,n,rs,ws,o,Z.dr,Z.gs.l1,Z.fo,Z.co,Z.no,rfl⟩))
 |1,_=>exact H.1 4 _ rfl (.inr (.inr ⟨rfl,6,n,rs,ws,o,Z.dr,Z.gs.l1,Z.fo,Z.co,Z.no,rfl⟩))
 |2,_=>exact H.1 4 _ rfl (.inr (.inr ⟨rfl,6,n,rs,ws,o,Z.dr,Z.gs.l1,Z.fo,Z.co,Z.no,rfl⟩))
 |3,_=>exact H.2 (Eh Z (λ_=>rfl) (λ_=>rfl) (λe=>absurd e (by decide)) (λe=>absurd e (by decide)) λe=>absurd e (by decide))
 |4,_=>exact H.2 (Eh Z (λ_=>rfl) (λe=>absurd e (by decide)) (λe=>absurd e (by decide)) (λe=>absurd e (by decide)) λe=>absurd e (by decide))
 |5,_=>exact H.1 4 _ rfl (.inr (.inr ⟨rfl,6,n,rs,ws,xs,o,Z.dr,Z.gs.l1,Z.gs.l2,Z.fo,Z.co,Z.no,rfl⟩))
 |6,_=>exact H.1 4 _ rfl (.inr (.inr ⟨rfl,6,n,rs,ws,xs,o,Z.dr,Z.gs.l1,Z.gs.l2,Z.fo,Z.co,Z.no,rfl⟩))
 |7,_ =>
  cases a:pr with
  |true=>exact H.1 4 _ rfl (.inr (.inr ⟨rfl,6,n,rs,o,Z.dr,Z.pt a,Z.fo,Z.co,Z.no,rfl⟩))
  |false=>exact H.1 6 _ rfl (.inr (.inl ⟨rfl,6,n,rs,o,Z.dr,Z.pf a,rfl⟩))
def QD:m [.int w,.tup [aR n rs,.lst .fz (aQ ws),.lst .fz (aQ xs),.tup [.lst .fz (aQ ws),.lst .fz (aQ xs)]]]=ok (.str (VU pr w)):=by
 have H:=h w (aR n rs) (.lst .fz (aQ ws)) (.lst .fz (aQ xs)) (.tup [.lst .fz (aQ ws),.lst .fz (aQ xs)]) (by left) ⟨kM n rs,ro ws,ro xs,zY ws xs⟩;by_cases a:w=7
 ·subst a;cases c:pr with
  |true=>exact H.2 (Eh Z (λ_=>rfl) (λ_=>rfl) (λ_=>rfl) (λ_=>rfl) λ_=>c)
  |false=>exact H.1 6 _ rfl (.inr (.inl ⟨rfl,6,n,rs,_,Z.dr,Z.pf c,rfl⟩))
 ·have e:VU pr w = "":=by
   unfold VU;split
   ·exact absurd rfl a
   ·rfl
  rw[e];exact H.2 (Eh Z (λ_=>rfl) (λ_=>rfl) (λ_=>rfl) (λ_=>rfl) λe=>absurd e a)
end
noncomputable def mQ(a b c:Nat)(g e:CE):CE:=.cmp .ne (.call 235 [(.v 11),(.tup [(.v a),(.v b),(.v c),g])]) e
noncomputable def Ut:CE:=.ix (.lst [(.str "weights"),(.str "weights"),(.str "weights"),(.str "weights"),(.str ""),(.str "guess"),(.str "guess"),(.v 10)]) (.v 11)
noncomputable def O1:CE:=.ix (.lst [(.str "worths"),(.str "worths"),(.str "worths"),(.str ""),(.str ""),(.str "worths"),(.str "worths"),(.v 12)]) (.v 11)
noncomputable def O0:CE:=.ix (.lst [(.str ""),(.str ""),(.str ""),(.str ""),(.str ""),(.str ""),(.str ""),(.v 10)]) (.v 11)
noncomputable def LB:CE:=.and [(.cmp .eq (.v 11) (.int 7)),(.cmp .eq (.v 10) (.str ""))]
def PB:af:=[.ifs (mQ 6 8 7 (.v 9) (.str "drawing")) [.ret (.bl false)] [],.asg (.nm 12) Ut,.ifs LB [.asg (.nm 12) (.str "worths")] [],.ifs (mQ 1 8 7 (.v 9) (.v 12)) [.ret (.bl false)] [],.asg (.nm 12) O1,.ifs (mQ 1 3 7 (.tup [(.v 3),(.v 4)]) (.v 12)) [.ret (.bl false)] [],.asg (.nm 12) O0,.ifs (mQ 1 3 4 (.tup [(.v 3),(.v 4)]) (.v 12)) [.ret (.bl false)] []]
abbrev Qr(ns:ae)(z:Int)(n:Nat)(rs:aq)(ws xs:aC)(b o l g:D)(pr:Bool):List (Nat×D):=[(10,.str (pS pr)),(9,g),(8,l),(7,o),(6,b),(5,.int z),(4,.lst .fz (aQ xs)),(3,.lst .fz (aQ ws)),(2,.int n),(1,aR n rs),(0,.lst .sc (ah ns))]
def RT(Φ:aU)(s:CS)(ρ:a_):bN Φ [s] ρ=i0 Φ s ρ:=by
 rw[cG];unfold mG;cases h:i0 Φ s ρ with
 |none=>rfl
 |some r=>cases r with
  |error _=>rfl
  |ok p=>obtain⟨f,a⟩:=p;cases f<;>rfl
def Go.ifA{c:CE}{s:CS}{a:af}{Q:a_->Prop}{b:Bool}(f:bp Φ c ρ=ok (.bl b))(g:b=true->Go Φ (s::a) ρ Q)(h:b=false->Go Φ a ρ Q):Go Φ (.ifs c [s] []::a) ρ Q:=by
 cases b with
 |true =>
  obtain⟨d,e,q⟩:=g rfl;refine⟨d,?_,q⟩;rw[cG,xp,f];show mG Φ a (bN Φ [s] ρ)=_;rw[RT];exact e
 |false=>exact .Sv f (h rfl)
section
variable {Φ:aU}(tL:lY (Φ 235)){ns:ae}{z:Int}{n:Nat}{rs:aq}{ws xs:aC}{b o l g:D}{pr:Bool}(Z:Gw n rs ws xs b o l g pr)
include tL Z
def Md{w:Nat}(hw:w<8)(A:xl 14 ((11,.int w)::Qr ns z n rs ws xs b o l g pr) ρ):Go Φ PB ρ (xl 14 (Qr ns z n rs ws xs b o l g pr)):=by
 have r:∀{ρ:a_},xl 14 ((11,.int w)::Qr ns z n rs ws xs b o l g pr) ρ->bp Φ (mQ 6 8 7 (.v 9) (.str "drawing")) ρ=ok (.bl false):=λA =>
  jK ((aP.cons A.2.1.v (aP.cons (aP.cons A.2.2.2.2.2.2.1.v (aP.cons A.2.2.2.2.1.v (aP.cons A.2.2.2.2.2.1.v (aP.cons A.2.2.2.1.v .nil)))).tup .nil)).call (QG tL Z hw)).s rfl (nJ _)
 refine .Sv (r A) ?_;have B:dP Φ Ut ρ (.str (bif w==7 then pS pr else Qg pr w)):=by
  refine(aP.cons .k (aP.cons .k (aP.cons .k (aP.cons .k (aP.cons .k (aP.cons .k (aP.cons .k (aP.cons A.2.2.1.v .nil)))))))).lst.K8 (j:=w) A.2.1.v.i ?_
  match w,hw with
  |0,_|1,_|2,_|3,_|4,_|5,_|6,_|7,_=>rfl
 refine .jS A B λm h=>?_;have u:bp Φ LB m=ok (.bl ((w==7)&&pr)):=by
  refine Az (jK h.2.2.1.v.i rfl ?_) (jK h.2.2.2.1.v.s rfl ?_)
  ·rw[MQ];congr 2;by_cases p:w=7
   ·subst p;rfl
   ·rw[beq_eq_false_iff_ne.mpr p];exact abl (by left)
  ·rw[yU rfl rfl];cases pr
   ·exact aaU (λb=>ok (D.bl b)) (show(pS false == "")=false by decide +kernel)
   ·exact aaU (λb=>ok (D.bl b)) (show(pS true == "")=true by decide +kernel)
 have go:∀a,xl 14 ((12,.str (Qg pr w))::(11,.int w)::Qr ns z n rs ws xs b o l g pr) a->Go Φ [.ifs (mQ 1 8 7 (.v 9) (.v 12)) [.ret (.bl false)] [],.asg (.nm 12) O1,.ifs (mQ 1 3 7 (.tup [(.v 3),(.v 4)]) (.v 12)) [.ret (.bl false)] [],.asg (.nm 12) O0,.ifs (mQ 1 3 4 (.tup [(.v 3),(.v 4)]) (.v 12)) [.ret (.bl false)] []] a (xl 14 (Qr ns z n rs ws xs b o l g pr)):=λa c=>by
  refine .Sv (jK ((aP.cons c.2.2.1.v (aP.cons (aP.cons c.2.2.2.2.2.2.2.2.2.2.2.2.1.v (aP.cons c.2.2.2.2.2.1.v (aP.cons c.2.2.2.2.2.2.1.v (aP.cons c.2.2.2.2.1.v .nil)))).tup .nil)).call (QF tL Z hw)).s c.2.1.v.s (nJ _)) ?_;have y:dP Φ O1 a (.str (du2 pr w)):=by
   refine(aP.cons .k (aP.cons .k (aP.cons .k (aP.cons .k (aP.cons .k (aP.cons .k (aP.cons .k (aP.cons c.2.1.v .nil)))))))).lst.K8 (j:=w) c.2.2.1.v.i ?_
   match w,hw with
   |0,_|1,_|2,_|3,_|4,_|5,_|6,_|7,_=>rfl
  refine .jS ⟨c.1,c.2.2⟩ y λq d=>?_;refine .Sv (jK ((aP.cons d.2.2.1.v (aP.cons (aP.cons d.2.2.2.2.2.2.2.2.2.2.2.2.1.v (aP.cons d.2.2.2.2.2.2.2.2.2.2.1.v (aP.cons d.2.2.2.2.2.2.1.v (aP.cons (aP.cons d.2.2.2.2.2.2.2.2.2.2.1.v (aP.cons d.2.2.2.2.2.2.2.2.2.1.v .nil)).tup .nil)))).tup .nil)).call (QE tL Z hw)).s d.2.1.v.s (nJ _)) ?_;have x:dP Φ O0 q (.str (VU pr w)):=by
   refine(aP.cons .k (aP.cons .k (aP.cons .k (aP.cons .k (aP.cons .k (aP.cons .k (aP.cons .k (aP.cons d.2.2.2.1.v .nil)))))))).lst.K8 (j:=w) d.2.2.1.v.i ?_
   match w,hw with
   |0,_|1,_|2,_|3,_|4,_|5,_|6,_|7,_=>rfl
  refine .jS ⟨d.1,d.2.2⟩ x λt f=>?_;exact .Sv (jK ((aP.cons f.2.2.1.v (aP.cons (aP.cons f.2.2.2.2.2.2.2.2.2.2.2.2.1.v (aP.cons f.2.2.2.2.2.2.2.2.2.2.1.v (aP.cons f.2.2.2.2.2.2.2.2.2.1.v (aP.cons (aP.cons f.2.2.2.2.2.2.2.2.2.2.1.v (aP.cons f.2.2.2.2.2.2.2.2.2.1.v .nil)).tup .nil)))).tup .nil)).call (QD tL Z hw)).s f.2.1.v.s (nJ _)) (.nil ⟨f.1,f.2.2.2⟩)
 refine .ifA u (λe=>.jS ⟨h.1,h.2.2⟩ (Y:=.str (Qg pr w)) ?_ λa c=>go a c) λe=>go m ?_
 ·obtain⟨p,rfl⟩:=Bool.and_eq_true_iff.mp e;rw[zbr]at p;subst p;exact .k
 ·refine⟨h.1,?_,h.2.2⟩;have:=h.2.1
  rwa [show(bif w==7 then pS pr else Qg pr w)=Qg pr w by
   match w,hw with
   |0,_|1,_|2,_|3,_|4,_|5,_|6,_=>rfl
   |7,_ =>
    have:pr=false:=by simpa using e
    rw[this];rfl]at this
end
noncomputable def yH:CE:=.cI 1085 [(.v 4),(.neg (.int 1))]
def Uj:aA:=[(.lst []),.bz,(.bin .mul (.lst [(.tup [(.int 1),(.int 1)])]) (.int 13)),(.bf .tuple1 [(.v 4)]),(.bin .add yH (.lst [(.tup [(.int 2),(.int 4)])])),(.bin .add yH (.lst [(.int 1)]))]
def yF:CE:=.ix (.lst Uj) (.bin .mod (.bin .fdiv (.v 5) (.int 11000)) (.int 6))
def Sf(xs ini:aC):aa:=[.lst .fz [],.bz,.lst .fz (List.replicate 13 (.tup [.int 1,.int 1])),.tup (aQ xs),.lst .fz (aQ ini++[.tup [.int 2,.int 4]]),.lst .fz (aQ ini++[.int 1])]
variable {xs:aC}
def Np{ini:aC}(d:xs.length<=12)(c:ini.length<=12):∀x∈Sf xs ini,du x/\Bz x=false:=by
 have one:∀y:D,bS y=false->du (.lst .fz (aQ ini++[y]))/\Bz (.lst .fz (aQ ini++[y]))=false:=λy b=>by
  refine⟨by show(aQ ini++[y]).length<=1000000;simp;left,?_⟩;have:(aQ ini++[y]).all bS=false:=by rw[zbq];exact⟨y,by simp,by rw[b];decide⟩
  show(_&&(_&&(aQ ini++[y]).all bS))=false;rw[this,zao,zao]
 intro x a;simp only[Sf,zak,zai,or_false]at a;rcases a with rfl|rfl|rfl|rfl|rfl|rfl
 ·exact⟨by show([]:aa).length<=1000000;decide,rfl⟩
 ·exact⟨trivial,rfl⟩
 ·refine⟨by show(List.replicate 13 _).length<=1000000;rw[zar];decide,?_⟩;decide +kernel
 ·exact⟨by show(aQ xs).length<64;simp;left,rfl⟩
 ·exact one _ (by decide +kernel)
 ·exact one _ rfl
section
variable {Φ:aU}{ρ:a_}{xs:aC}
def Kd(a:Φ 1085=pN)(A:At ρ 4 (.lst .fz (aQ xs)))(hl:1<=xs.length):dP Φ yH ρ (.lst .fz (aQ (xs.take (xs.length - 1)))):=by
 obtain⟨g,c,b,q,_⟩:=(A.v (Φ:=Φ)).yg;obtain rfl:=tM q (by simp);refine⟨.lst .ow (aQ (xs.take (xs.length - 1))),?_,by simp[aD]⟩;show bd (bL Φ [.v 4,.neg (.int 1)] ρ) (Φ 1085)=_;rw[kT,b,a];show(if _ then _ else _)=_;rw[zac (by simp;left)];congr 2;rw[show(aQ xs).length=xs.length by simp];unfold aQ;rw[<- zbC];exact oT ba _
def IH(f:Φ 1085=pN){z:Int}(e:At ρ 4 (.lst .fz (aQ xs)))(p:At ρ 5 (.int z))(n:1<=xs.length)(m:xs.length<=12):∃y,dP Φ yF ρ y/\du y/\Bz y=false:=by
 obtain⟨r,q⟩:=eH (z.fdiv 11000) (b:=6) (by decide);obtain⟨j,l⟩:∃j:Nat,(z.fdiv 11000).fmod 6=(j:Int):=⟨((z.fdiv 11000).fmod 6).toNat,by left⟩
 have c:j<(Sf xs (xs.take (xs.length - 1))).length:=by simp[Sf];left
 have a:dP Φ (.bin .mul (.lst [(.tup [(.int 1),(.int 1)])]) (.int 13)) ρ (.lst .fz (List.replicate 13 (.tup [.int 1,.int 1]))):=⟨_,rfl,rfl⟩
 have d:=Kd f e n;have hl:(aQ (xs.take (xs.length - 1))).length<=12:=by simp;left
 have o:dP Φ yF ρ (Sf xs (xs.take (xs.length - 1)))[j]:=(aP.cons (aP.nil (Φ:=Φ) (ρ:=ρ)).lst (aP.cons .k (aP.cons a (aP.cons e.v.Me (aP.cons (d.cat (aP.cons (dP.k (Φ:=Φ) (ρ:=ρ)) .nil).lst rfl rfl (by simp;left)) (aP.cons (d.cat (aP.cons (dP.k (Φ:=Φ) (ρ:=ρ)) .nil).lst rfl rfl (by simp;left)) .nil)))))).lst.K8 (j:=j) (kP (kP p.v.i rfl (pV (by decide) (by decide))) rfl (by rw[wK (by decide),l])) (aao c);obtain⟨h,g⟩:=Np m (ini:=xs.take (xs.length - 1)) (by simp;left) _ (aa6 c);exact⟨_,o,h,g⟩
end
noncomputable def OJ:aA:=[(.tup [(.v 8),(.v 4)]),(.tup [(.v 3),(.v 8)]),(.tup [(.v 3)]),(.lst [(.v 3),(.v 4)]),.bz]
def Lr:CE:=.ix (.lst OJ) (.bin .mod (.bin .fdiv (.v 5) (.int 2000)) (.int 5))
def gA(ws xs:aC)(l:D):aa:=[.tup [l,.lst .fz (aQ xs)],.tup [.lst .fz (aQ ws),l],.tup [.lst .fz (aQ ws)],.lst .fz [.lst .fz (aQ ws),.lst .fz (aQ xs)],.bz]
def Oc{n:Nat}{ws:aC}{l:D}(f:n<=12)(e:ws.length=n)(d:xs.length=n)(cl:du l)(a:bG l n=false):∀x∈gA ws xs l,J6 x/\IB x n=false:=by
 have c:∀{qs:aC},qs.length=n->du (.lst .fz (aQ qs)):=λ{qs} h=>by show(aQ qs).length<=1000000;simp;left
 intro x b;simp only[gA,zak,zai,or_false]at b;rcases b with rfl|rfl|rfl|rfl|rfl
 ·exact⟨⟨cl,c d⟩,by show(bG l n&&_)=false;rw[a];rfl⟩
 ·exact⟨⟨c e,cl⟩,by show(_&&bG l n)=false;rw[a,zao]⟩
 ·exact⟨by show(1:Nat)<64;decide,rfl⟩
 ·exact⟨by show(2:Nat)<=1000000;decide,rfl⟩
 ·exact⟨trivial,rfl⟩
noncomputable def Lp:CE:=.ix (.lst [(.str "pair"),(.str "")]) (.bf .tE [(.call 234 [(.v 1)])])
def W7:af:=[.asg (.nm 1) (.call 212 [(.v 0),(.int 0),(.int 5)]),.asg (.nm 2) (.ix (.v 1) (.int 0)),.asg (.nm 3) (.call 230 [(.call 200 [(.v 0),(.int 8)]),(.v 2)]),.asg (.nm 4) (.call 230 [(.call 200 [(.v 0),(.int 9)]),(.v 2)]),.asg (.nm 5) (.call 200 [(.v 0),(.int 10)]),.asg (.nm 6) (.call 229 [(.v 1),(.v 5)]),.asg (.nm 7) (.call 236 [(.v 4),(.bin .fdiv (.v 5) (.int 14))]),.asg (.nm 8) (.call 236 [(.v 3),(.bin .fdiv (.v 5) (.int 154))]),.asg (.nm 9) Lr,.asg (.nm 10) Lp,.fr (.nm 11) (.ku (.int 8)) PB,.asg (.nm 13) yF]
noncomputable def nQ:CE:=.and [(.cmp .eq (.call 235 [(.int 8),(.tup [.bz,.bz,(.v 13),.bz])]) (.str "worths")),(.cmp .eq (.call 235 [(.int 8),(.tup [.bz,.bz,(.v 4),.bz])]) (.str ""))]
def uh:af:=W7++[.ret nQ]
section
variable (Φ:aU)(ns:ae)(qE:ux (Φ 200))
include qE
def wG(k:Nat)(a:At ρ 0 (.lst .sc (ah ns))):dP Φ (.call 200 [(.v 0),(.int k)]) ρ (.int (bX ns k)) :=
 (aP.cons a.v (aP.cons (.of (e:=.int (k:Int)) rfl) .nil)).call (qE ns k (by left))
def Sh(Y1:rW (Φ 212))(YY:LL (Φ 229))(U:AG (Φ 230))(YW:UW (Φ 234))(t:lY (Φ 235))(V:LK (Φ 236))(pk:Φ 1085=pN):mk Φ 1 14 uh [.lst .sc (ah ns)]=ok (.bl true):=by
 have A:xl 14 [(0,.lst .sc (ah ns))] ([D.lst .sc (ah ns)].map some++List.replicate (14 - [D.lst .sc (ah ns)].length) none):=⟨rfl,⟨.lst .sc (ah ns),rfl,by simp[aD]⟩,trivial⟩
 obtain⟨n,c,O,I,W,e1⟩:=Y1 ns 0 5 (by decide) (by decide) (by decide);have n1:=I.n1;obtain⟨f,w1,w2,w3⟩:=U (bX ns 8) n I.n2;obtain⟨xs,x1,x2,x3⟩:=U (bX ns 9) n I.n2;have F:∀qs:aC,aB aD (.lst .ow (aQ qs))=.lst .fz (aQ qs):=λqs=>by simp[aD]
 have R:∀{ρ:a_} {k:Nat} {qs:aC},At ρ 0 (.lst .sc (ah ns))->At ρ 2 (.int n)->Φ 230 [.int (bX ns k),.int n]=ok (.lst .ow (aQ qs))->dP Φ (.call 230 [(.call 200 [(.v 0),(.int k)]),(.v 2)]) ρ (.lst .fz (aQ qs)):=λS E e=>F _▸(aP.cons (wG Φ ns qE _ S) (aP.cons E.v .nil)).call e;have M:∀{ρ:a_} {i:Nat} {q z:Int} {qs:aC} {d:D},q≠0->q.natAbs<2 ^ 64->At ρ i (.lst .fz (aQ qs))->At ρ 5 (.int z)->Φ 236 [.lst .fz (aQ qs),.int (z.fdiv q)]=ok d->dP Φ (.call 236 [(.v i),(.bin .fdiv (.v 5) (.int q))]) ρ (aB aD d):=λq0 q1 h1 E e=>(aP.cons h1.v (aP.cons (.of (kP E.v.i rfl (pV q0 q1))) .nil)).call e;have go:∃a,bN Φ W7 ([D.lst .sc (ah ns)].map some++List.replicate (14 - [D.lst .sc (ah ns)].length) none)=ok (.nx,a)/\∃y,At a 13 y/\du y/\Bz y=false/\At a 4 (.lst .fz (aQ xs)):=by
  refine Go.jS (Y:=aR n c) (Q:=λa=>∃y,At a 13 y/\du y/\Bz y=false/\At a 4 (.lst .fz (aQ xs))) A (show dP _ _ _ _ from by
   have:=(aP.cons A.2.1.v (aP.cons (.of (e:=.int 0) rfl) (aP.cons (.of (e:=.int 5) rfl) .nil))).call e1
   rwa [show aB aD (.tup [.int n,.lst .ow (bO c)])=aR n c by simp[aR,aD]]at this) λρ1 A=>?_
  refine .jS A (dP.ixT A.2.1.v (b:=.int 0) (j:=0) rfl rfl) λρ2 A=>?_;refine .jS A (R (k:=8) A.2.2.2.1 A.2.1 w1) λρ3 A=>?_;refine .jS A (R (k:=9) A.2.2.2.2.1 A.2.2.1 x1) λρ4 A=>?_;refine .jS A (wG Φ ns qE 10 A.2.2.2.2.2.1) λρ5 A=>?_;generalize bX ns 10=z at *;obtain⟨b,e6,B⟩:=YY n c z I;refine .jS A ((aP.cons A.2.2.2.2.2.1.v (aP.cons A.2.1.v .nil)).call e6) λρ6 A=>?_;obtain⟨o,e7,co,no⟩:=V xs (z.fdiv 14) (by left) (by left);refine .jS A (M (by decide) (by decide) A.2.2.2.1 A.2.2.1 e7) λρ7 A=>?_;obtain⟨l,e8,T,N⟩:=V f (z.fdiv 154) (by left) (by left);refine .jS A (M (by decide) (by decide) A.2.2.2.2.2.1 A.2.2.2.1 e8) λr A=>?_;obtain⟨g3,g4⟩:=eH (z.fdiv 2000) (b:=5) (by decide);obtain⟨j,hj⟩:∃j:Nat,(z.fdiv 2000).fmod 5=(j:Int):=⟨((z.fdiv 2000).fmod 5).toNat,by left⟩
  have L:j<(gA f xs (aB aD l)).length:=by simp[gA];left
  have e9:dP Φ Lr r (gA f xs (aB aD l))[j]:=(aP.cons (aP.cons A.2.1.v (aP.cons A.2.2.2.2.2.1.v .nil)).tup (aP.cons (aP.cons A.2.2.2.2.2.2.1.v (aP.cons A.2.1.v .nil)).tup (aP.cons (aP.cons A.2.2.2.2.2.2.1.v .nil).tup (aP.cons (aP.cons A.2.2.2.2.2.2.1.v (aP.cons A.2.2.2.2.2.1.v .nil)).lst (aP.cons .k .nil))))).lst.K8 (j:=j) (kP (kP A.2.2.2.2.1.v.i rfl (pV (by decide) (by decide))) rfl (by rw[wK (by decide),hj])) (aao L);obtain⟨cg,ng⟩:=Oc (n:=n) I.n2 w2 x2 T (by rw[<- w2];exact N) _ (aa6 L);generalize (gA f xs (aB aD l))[j]=g at *;refine .jS A e9 λp A=>?_;have G:=YW n c I;generalize K:decide ((eM n c).filter (λq=>decide (q=0))=[])=pr at *;have ep:dP Φ Lp p (.str (pS pr)):=(aP.cons .k (aP.cons .k .nil)).lst.K8 (j:=bif pr then 1 else 0) ((dP.tE ((aP.cons A.2.2.2.2.2.2.2.2.2.1.v .nil).call G)).trans (by cases pr<;>rfl)) (by cases pr<;>rfl);refine .jS A ep λρA A=>?_;have Z:Gw n c f xs (aB aD b) (aB aD o) (aB aD l) g pr:=⟨I,W,O,⟨w2,x2,w3,x3,by decide⟩,B,zW o,co,by rw[<- x2];exact no,zW l,T,by rw[<- w2];exact N,A.2.2.1.fz,cg,ng,λe q m=>by
   subst e;have hz:=List.filter_eq_nil_iff.mp (aab K) q m;obtain⟨k,hk,rfl⟩:=List.mem_map.mp m;have S:=(oI I k k).1;have:bj c k k≠0:=λz=>hz (aaT z);show 0<bj c k k;grind,λe=>by
   subst e;refine Classical.byContradiction λhn=>of_decide_eq_false K (List.filter_eq_nil_iff.mpr λq m z=>hn ⟨q,m,aab z⟩)⟩
  refine .ku (n:=8) (by decide) (P:=xl 14 (Qr ns z n c f xs (aB aD b) (aB aD o) (aB aD l) g pr)) A (λw hw ρ A=>⟨_,(A.set (d:=.int w) rfl).1,Md t Z hw (A.set rfl).2⟩) λρB A=>?_;obtain⟨y,ey,H,u⟩:=IH pk A.2.2.2.2.2.2.2.1 A.2.2.2.2.2.2.1 (by left) (by left);exact .jS A ey λX A=>.nil ⟨y,A.2.1,H,u,A.2.2.2.2.2.2.2.2.1⟩
 obtain⟨a,e,y,J,H,u,A4⟩:=go;rw[mk_eq (show[D.lst .sc (ah ns)].length=1 from rfl)];show kS (bN Φ (W7++[.ret nQ]) _)=_;rw[ny Φ _ _ _ _ e];have C:=(t 8 .bz .bz y .bz (by decide) ⟨iZ,iZ,J.fz,iZ⟩).1 4 _ rfl ⟨rfl,y,rfl,J.fz,H,u⟩;have x:=(t 8 .bz .bz (.lst .fz (aQ xs)) .bz (by decide) ⟨iZ,iZ,ro xs,iZ⟩).2 ⟨n,c,f,xs,I,W,O,⟨w2,x2,w3,x3,by decide⟩,λh=>absurd rfl h,λh=>absurd h (by decide),λ_=>rfl,λh=>absurd h (by decide),λh=>absurd h (by decide)⟩;have ev:bp Φ nQ a=ok (.bl true):=Az (jK ((aP.cons .k (aP.cons (aP.cons .k (aP.cons .k (aP.cons J.v (aP.cons .k .nil)))).tup .nil)).call C).s rfl (Af _)) (jK ((aP.cons .k (aP.cons (aP.cons .k (aP.cons .k (aP.cons A4.v (aP.cons .k .nil)))).tup .nil)).call x).s rfl (Af _));rw[cG,Kn,BB Φ nQ _ rfl,ev,iz rfl];rfl
end
end DI
end
section
namespace DI
open PySem PySem.Spec PyProof.Rows L2
def Gd(_:Scope)(_:av)(e:Expr):Option (ak):=rF "count" e
def F8(_:Scope)(_:av)(e:Expr):Option (ak):=rF "index" e
variable {F:Addr->Prop}{X:Cx}{args:ak}{cs:aA}{Φ:aU}
def Zu{n:Nat}(a:Φ n=Am){sc:Scope}{bl:av}{k:Nat}(L:PX X sc bl k){e:Expr}(he:Gd sc bl e=some args)(hs:ql X F Φ cs args):PE X e (tD X F Φ (.cI n cs))/\PT X e (ip X F Φ (.cI n cs)):=JZ a he hs
def XQ{n:Nat}(a:Φ n=zO){sc:Scope}{bl:av}{k:Nat}(L:PX X sc bl k){e:Expr}(he:F8 sc bl e=some args)(hs:ql X F Φ cs args):PE X e (tD X F Φ (.cI n cs))/\PT X e (ip X F Φ (.cI n cs)):=Jc a he hs
noncomputable def UG:CE:=.cmp .ne (.cI 1094 [(.v 4),(.bl true)]) (.int 1)
noncomputable def UH:CE:=.ix (.lst [(.str "drawing"),(.str "weights"),(.str "worths"),(.str "pair"),(.str "size"),(.str "lot"),(.str "guess"),(.str "shares"),(.str "many")]) (.cI 1095 [(.v 4),(.bl true)])
def qL{n:Nat}{s:Str}(h:Kq n=some s):(n=1/\s = "drawing")\/(n=3/\s = "weights")\/(n=4/\s = "worths")\/(n=6/\s = "pair")\/(n=8/\s = "guess"):=by
 unfold Kq at h;split at h
 ·cases h;exact .inl ⟨rfl,rfl⟩
 ·cases h;exact .inr (.inl ⟨rfl,rfl⟩)
 ·cases h;exact .inr (.inr (.inl ⟨rfl,rfl⟩))
 ·cases h;exact .inr (.inr (.inr (.inl ⟨rfl,rfl⟩)))
 ·cases h;exact .inr (.inr (.inr (.inr ⟨rfl,rfl⟩)))
 ·cases h
def en8{P:aM}{w:World}{K:ao}{h base:Heap}{mg:aZ}{bl:av}{cs:List (Str×GK)}{px:Px}{PT:aU}(X:K.In h)(G:h.Ns mainGlobals mg)(C:∀F i m,qb px (xm PT F i m)/\GC px (xm PT F i m))(A:bH (λy=>mg y=none) bl)(B:bH (λp:Str×GK=>∃u,mg p.1=some u/\w8 K p.2 u) cs){cl:aJ}{o:Nat->Str}{ca:Nat->Addr}(O:∀n∈cl,qJ (o n) (ca n) mg base)(Ψ:Nat->Nat->aa->Prop)
  ⦃x:Str⦄ ⦃f:Stmt⦄ (k:Nat) (Φ:aU) (d:Df K x f) (N:av) (a:Nat) (tb:List (Nat×Str)) (b:af) (g:Nat)
  (hf:bH (λp:Nat×Str=>Ent P w K mg base k p.2 (Φ p.1)) tb) (L:∀n,n∈cl->bH (λp:Nat×Str=>(∃c,Ψ n p.1 c)->jx P w K mg base k (ca n) p.2 (Ψ n p.1)) tb) (J:∀n c,Ψ n g c->c.length=a/\Er Φ (Ψ n) n b (c.map some++List.replicate (N.length - c.length) none)) (D:Qj f N (N.take a) tb bl cs px b=true:=by decide +kernel) (H:(cl.all λn=>CA (iY (aO f) (o n)&&!(o n==("__debug__" : Str))) n (o n) b (bQ f))=true:=by decide +kernel) (e:∃F i m,Φ=xm PT F i m:=by exact⟨_,_,_,rfl⟩) (t:(N.take a).length=a:=by rfl) (E:∀(r j q:Value) (z:Option Addr) (v ct:Value) (l:az),l.length=a->bindArgs (PySem.W.fnOf x x (eI f) (bQ f) (aO f) .none r j q z v ct) ⟨l,[]⟩=pure ((N.take a).zip l):=by first|exact λ_ _ _ _ _ _=>u1 λ_=>rfl|exact λ_ _ _ _ _ _=>u2 λ_ _=>rfl|exact λ_ _ _ _ _ _=>u3 λ_ _ _=>rfl|exact λ_ _ _ _ _ _=>u4 λ_ _ _ _=>rfl):Ent P w K mg base (k+1) x (mk Φ a N.length b)/\∀n,n∈cl->jx P w K mg base (k+1) (ca n) x (Ψ n g):=by
 refine⟨en7 X G C A B k Φ d N a tb b hf D e t E,λn s=>?_⟩;obtain⟨F,i,m,e⟩:=e;exact enX X G (O n s) n k Φ (Ψ n) (Ψ n g) d D (List.all_eq_true.mp H n s) (e▸C F i m) A B hf (L n s) (λc h=>by rw[t];exact J n c h) (λr j q z v ct l I=>E r j q z v ct l (I.trans t))
structure AK(K:ao)(B C:Addr)(ls:List ((Str×Addr)×Bool)):Prop where
 v:bH (λp:(Str×Addr)×Bool=>PySem.W.kitOne K (.ref C) (.ref p.1.2)=some p.2) ls
 vv:PySem.W.kitOne K (.ref C) (.type "ValueError")=some true
 xx:PySem.W.excIn K C L3 "ValueError.__new__" = true
 mb:PySem.W.mroIn K C (.ref B)=some true
 nb:C≠B
 w1:PySem.W.findIn K (.ref C) "__getattribute__" = some (some (.builtin "BaseException.__getattribute__"))
 w2:PySem.W.findIn K (.ref C) "__getattr__" = some none
 w3:PySem.W.findIn K (.ref C) "__class__" = some (some (.builtin "object.__class__"))
 w4:PySem.W.mroIn K C (.type "BaseException")=some true
 w5:PySem.W.mroIn K C (.type "object")=some true
theorem AK.hl{K:ao}{C:Addr}:∀{ns:List (Str×Addr)} {bs:List Bool},bH (λp:Str×Addr=>PySem.W.nsIn K mainGlobals p.1=some (some (.ref p.2))) ns->bH (λp:(Str×Addr)×Bool=>PySem.W.kitOne K (.ref C) (.ref p.1.2)=some p.2) (ns.zip bs)->bH (λp:Str×Bool=>∃g,PySem.W.nsIn K mainGlobals p.1=some (some (.ref g))/\PySem.W.kitOne K (.ref C) (.ref g)=some p.2) ((ns.zip bs).map λp=>(p.1.1,p.2))
 |[],_,_,_=>trivial
 |_::_,[],_,_=>trivial
 |_::_,_::_,e,h=>⟨⟨_,e.1,h.1⟩,AK.hl e.2 h.2⟩
def AK.xc{K:ao}{B C:Addr}{ls:List ((Str×Addr)×Bool)}(c:AK K B C ls):XC K C:=⟨c.w1,c.w2,c.w3,c.w4,c.w5,by
 have w5:=c.w5;unfold PySem.W.mroIn at w5;cases q:PySem.W.clsIn K C with
 |none=>rw[q]at w5;cases w5
 |some _=>rfl⟩
noncomputable def Uz:Nat->Str
 |1=>"NoDrawing"
 |3=>"NoWeights"
 |4=>"NoWorths"
 |6=>"NoPair"
 |_=>"NoGuess"
noncomputable def J2:aJ:=[1,3,4,6,8]
def LZ{n:Nat}{s:Str}(h:Kq n=some s):n∈J2:=by
 rcases qL h with ⟨rfl,_⟩|⟨rfl,_⟩|⟨rfl,_⟩|⟨rfl,_⟩|⟨rfl,_⟩<;>decide
section
variable (Φ:aU)(n:Nat)(ds:aa)
def m17(a:∀d,LR d->Φ 16 [d]=ok (.bl false))(h:uA n 17 ds):ds.length=1/\Er Φ (uA n) n cz (ds.map some++List.replicate (1 - ds.length) none):=by
 obtain⟨rfl,h⟩:=h;exact Lo a h
def mXd{g m:Nat}{b:af}(a:∀ds,XD 0 ds->uA 1 g ds)(h:n=1/\XD 0 ds):ds.length=1/\Er Φ (uA n) n (.ex (.call g [(.v 0)])::b) (ds.map some++List.replicate (m - ds.length) none):=by
 obtain⟨rfl,h⟩:=h;exact uJ a h
def m53(h:uA n 53 ds):ds.length=1/\Er Φ (uA n) n i8 (ds.map some++List.replicate (1 - ds.length) none):=by
 obtain⟨a,b⟩:=(show n=1/\XD 0 ds from h)
 exact Ul (λ_ h=>⟨a,h⟩) b
def mCk{c:Nat}(a:cB (Φ 40))(h:n=c/\yX bG ds):ds.length=2/\Er Φ (uA n) n (gh 40 c) (ds.map some++List.replicate (2 - ds.length) none):=by
 obtain⟨rfl,h⟩:=h;exact Uk mA (λ_ _ h=>eu h) a h
def m90(a:cB (Φ 40))(h:uA n 90 ds):ds.length=2/\Er Φ (uA n) n cL (ds.map some++List.replicate (2 - ds.length) none):=by
 obtain⟨rfl,h⟩:=h;exact CJ a h
def m92{b:af}(h:uA n 92 ds):ds.length=3/\Er Φ (uA n) n (.asg (.nm 3) (.call 91 [(.v 0),(.v 1),(.v 2)])::b) (ds.map some++List.replicate (4 - ds.length) none):=by
 obtain⟨h,a,d,c,rfl,F⟩:=h;exact⟨rfl,xq (e:=n) (Ψ:=uA n) (λ_ h=>h) F.a F.b F.c h⟩
def m52(h:uA n 52 ds):ds.length=1/\Er Φ (uA n) n d8 (ds.map some++List.replicate (1 - ds.length) none):=by
 obtain⟨a,b⟩:=(show n=4/\ZH ds from h)
 subst a;exact CM (λ_ h=>⟨rfl,h⟩) b
def Xh(h:uA n 227 ds):ds.length=2/\Er Φ (uA n) n ki (ds.map some++List.replicate (6 - ds.length) none):=by
 obtain⟨w,a,b,c,g,hw,F,d,rfl⟩:=h;have e:uA n (gI w) (bM w a b c g):=by
  match w,hw with
  |0,_|1,_|2,_|3,_|4,_|7,_|8,_=>exact d
  |5,_|6,_=>exact⟨d,a,g,c,rfl,⟨F.a,F.g,F.c,iZ⟩⟩
 exact⟨rfl,.tl (pZ F w) (p7 F hw e (List.range 9) (List.mem_range.mpr hw))⟩
end
end DI
end
namespace PySem.W.Fast
def tw13576779281184179574:=0
def tw15897628637012205573:=0
def tw373012449215478806:=0
def tw17375083153219127100:=0
def tw12693692780835953732:=0
def tw6674572973438822487:=0
def tw12124108874141017686:=0
def tw12636116179227773694:=0
def tw8483238692531608051:=0
def tw15614988046531007228:=0
def tw522906282574410759:=0
def tw15480591400136123084:=0
def tw9973488176290452179:=0
def tw9456515241886727319:=0
def tw12035943142866556503:=0
def tw5306932978699699116:=0
def tw1122605400917333118:=0
def tw590235652435343159:=0
def tw16442180066530741365:=0
def tw12139384497534951696:=0
def tw17760182024794137445:=0
def tw18052752623637285325:=0
def tw4359610855814304992:=0
def tw3665494416861946053:=0
def tw2015330108031928581:=0
def tw16205456061527236732:=0
def tw16134617604334492198:=0
def tw1350202111997581877:=0
def tw12294542969460818041:=0
def tw5792048115670457933:=0
def tw8196200679164198664:=0
def tw3759683116343114355:=0
def tw8964817051564153640:=0
def tw5138909605448620733:=0
def tw2075627846427354998:=0
def tw14346991596360756478:=0
def tw10022215807505181869:=0
def tw10464666245070692826:=0
def tw9721876972921581711:=0
def tw4917304785670395524:=0
def tw11650652755297613735:=0
def tw10799850128028749808:=0
def tw3885949222077587476:=0
def tw18180805663581482610:=0
def tw10641518406929721841:=0
def tw14050375613015772495:=0
def tw7836887968862402853:=0
def tw10423810729170450387:=0
def tw13842954237898723038:=0
def tw13437643061325615441:=0
def tw11602205727458036080:=0
def tw8131914331745483033:=0
def tw4360076468204284897:=0
def tw8915418652887515994:=0
def tw4352097577140474211:=0
def tw13315631409903503786:=0
def tw11842267673333530733:=0
def tw11663395569741497619:=0
def tw9910983363205680432:=0
def tw7165985907202532463:=0
def tw3900296065876665141:=0
def tw3118024789507454274:=0
def tw18329847202846614627:=0
def tw18073463852370996701:=0
def tw14938292060868875811:=0
def tw1294948431536585148:=0
def tw11287555075212962428:=0
def tw645031326026392149:=0
def tw7947468020058222196:=0
def tw9952403300075025656:=0
def tw7187275686503131671:=0
def tw8454140698767465906:=0
def tw18137743306704675022:=0
def tw16659997174155563214:=0
def tw12359224465223916826:=0
def tw11024922216142329120:=0
def tw17943354913855668483:=0
def tw14011030848828343593:=0
def tw3617786035296796697:=0
def tw15228965230321583680:=0
def tw2485286426163636915:=0
def tw520727974434862644:=0
def tw16584544514053633162:=0
def tw842809394635612753:=0
def tw2693713598233369797:=0
def tw2356238972981000413:=0
def tw13392453179157454513:=0
def tw7110662494108071906:=0
def tw12167143035619981887:=0
def tw13971865739490608267:=0
def tw6775779290607752330:=0
def tw16166390256830329786:=0
def tw11513168483932233823:=0
def tw14189825101014269196:=0
def tw873103097083850036:=0
def tw4441813367912279579:=0
def tw14058832544655508008:=0
def tw18156807245327876330:=0
def tw4443034986929541222:=0
def tw3257494919329274654:=0
def tw18160157917564239040:=0
def tw4509003851540162414:=0
def tw4743081445034996683:=0
def tw3970644818594714769:=0
def tw2755826616435657900:=0
def tw12370611914777034632:=0
def tw10983785570185800514:=0
def tw9113029363845466259:=0
def tw14650431542974754119:=0
def tw4995052462122242232:=0
def tw8319486394416684087:=0
def tw7766049157471385769:=0
def tw7439801962304828891:=0
def tw11413974210283889603:=0
def tw4193384318774531666:=0
def tw2574629389035493704:=0
def tw14319045242582765673:=0
def tw10549791898993575184:=0
def tw183248170061861530:=0
def tw15373111762749866771:=0
def tw3504586600880100635:=0
def tw16156350274891677048:=0
def tw10023164329471799191:=0
def tw8291751943176522855:=0
def tw7978249654606784315:=0
def tw2403703008893866665:=0
def tw14799776356535432722:=0
def tw17221642687415443561:=0
def tw3953254465887841852:=0
def tw4125947582646463924:=0
def tw10385406121303819636:=0
def tw11843505713296864020:=0
def tw3796973448178022557:=0
def tw15532274710702219753:=0
def tw2842607007267510444:=0
def tw9291635052838861554:=0
def tw15716034720343371291:=0
def tw6228708783848667904:=0
def tw10279414101842202345:=0
def tw16290431664491555191:=0
def tw7848952282032578988:=0
def tw2461916960583737297:=0
def tw7934373355617962985:=0
def tw4072776129189444910:=0
def tw12683275601923326286:=0
def tw16849229066545648082:=0
def tw11028989047998459336:=0
def tw8681163042191291250:=0
def tw12725543441544811019:=0
def tw9353653103099244572:=0
def tw4318870328596372664:=0
def tw16742558033103909375:=0
def tw18326859299244659548:=0
def tw8757141099360739021:=0
def tw12455964962813585861:=0
def tw12824137287279115597:=0
def tw2170694024748006302:=0
def tw357953127591933613:=0
def tw12130592020951730679:=0
def tw13672039060612462982:=0
def tw15168156168657079756:=0
def tw6670833077629207683:=0
def tw12506858255350194612:=0
def tw12371475693302417509:=0
def tw9800662556829126144:=0
def tw11464752234158737324:=0
def tw9169400617637852669:=0
def tw16308650285609328879:=0
def tw5087734905887855579:=0
def tw11645564542741444196:=0
def tw18365499707252997908:=0
def tw15213693725433902966:=0
def tw6699940394995267975:=0
def tw25666645067299898:=0
def tw8840970522871570275:=0
def tw5223207210805577173:=0
def tw18278109188108411948:=0
def tw18189624957202953866:=0
def tw13817770271224052422:=0
def tw4122249478645500626:=0
def tw3988941667660061411:=0
def tw950241424719018527:=0
def tw15394535553396362020:=0
def tw11121678556240183190:=0
def tw36264642005525813:=0
def tw5294879986903515021:=0
def tw4186708026472168578:=0
def tw17879190016936589006:=0
def tw7316064399609816640:=0
def tw15287037918221228090:=0
def tw8047436842163101028:=0
def tw10126751904483661668:=0
def tw3365639006219686059:=0
def tw9129940298819283557:=0
def tw12007183658917308479:=0
def tw3032710988799691330:=0
def tw16710557989533654227:=0
def tw17553882574894943072:=0
def tw10978494230605162912:=0
def tw11092554697882299577:=0
def tw1943630486754305140:=0
def tw2570441211890630453:=0
def tw8803980091316564857:=0
def tw8590379294203110894:=0
def tw15860168798171247587:=0
def tw3783532914108662795:=0
def tw38514368159418516:=0
def tw13959470844613099120:=0
def tw2466439937951016348:=0
def tw229262236297817896:=0
def tw17783994069003894415:=0
def tw1943744368960956323:=0
def tw5568224551167430311:=0
def tw1282100364843326135:=0
def tw2903147693186686035:=0
def tw15033249903440240767:=0
def tw7891066702308106650:=0
def tw1853348539042958957:=0
def tw5083156098036375645:=0
def tw15256581286588095114:=0
def tw7319284441045623231:=0
def tw10364538981239354896:=0
end PySem.W.Fast
namespace Asm
open PySem PySem.Spec PyProof.Rows L2 DI
noncomputable def top(i:Nat):Stmt:=PySem.Challenge.pw_sharesample_k21_refused_guesses.main.body.getD i (.Pass ⟨0,0,0,0⟩)
def px:Px:=⟨λn a bl e=>if n=1020 then pU true a bl e else if n=1022 then F_ a bl e else if n=1026 then F1 a bl e else if n=1030 then tY a bl e else if n=1031 then tZ a bl e else if n=1032 then yQ a bl e else if n=1035 then i7 "sorted" a bl e else if n=1036 then tW a bl e else if n=1040 then F6 a bl e else if n=1041 then Ao a bl e else if n=1085 then pU false a bl e else if n=1094 then Gd a bl e else if n=1095 then F8 a bl e else none,λn a bl e=>if n=1000 then pR a bl e else if n=1003 then i7 "enumerate" a bl e else if n=1100 then Gb a bl e else none,λn a bl e=>if n=1013 then Ga a bl e else if n=1033 then tX a bl e else none⟩
def PT:aU
 |1000=>rX
 |1003=>tS
 |1013=>FG
 |1020=>(cutD true)
 |1022=>Qd
 |1026=>vm
 |1030=>FT
 |1031=>wt
 |1032=>FX
 |1033=>wq
 |1035=>pH
 |1036=>x_
 |1040=>Sa
 |1041=>Sd
 |1085=>pN
 |1094=>Am
 |1095=>zO
 |1100=>pK
 |_=>λ_=>none
def pr(F:aU)(i:Nat)(m:aj):qb px (xm PT F i m)/\GC px (xm PT F i m):=⟨⟨(λX q bl k L p e args a F v b=>BM a (λa=>O_ rfl L a b) λa=>BM a (λa=>T6 rfl L a b) λa=>BM a (λa=>HS rfl L a b) λa=>BM a (λa=>JR rfl L a b) λa=>BM a (λa=>JU rfl L a b) λa=>BM a (λa=>O6 rfl L a b) λa=>BM a (λa=>FR rfl L a b) λa=>BM a (λa=>Nc rfl L a b) λa=>BM a (λa=>R_ rfl L a b) λa=>BM a (λa=>Sb rfl L a b) λa=>BM a (λa=>JW rfl L a b) λa=>BM a (λa=>Zu rfl L a b) λa=>BM a (λa=>XQ rfl L a b) λa=>nomatch a),(λX q bl k L p e args a F v C f b pins s z H R y A B d items I l j h g n hR=>by
  dsimp only[px]at a;by_cases c:p=1000
  ·subst c;rw[zac rfl]at a;exact LU rfl L a f b I l j h g n hR
  rw[zab c]at a;clear c;by_cases c:p=1003
  ·subst c;rw[zac rfl]at a;exact FP rfl L a f b I l j h g n hR
  rw[zab c]at a;clear c;by_cases c:p=1100
  ·subst c;rw[zac rfl]at a;exact FU rfl L a f b I l j h g n hR
  rw[zab c]at a;clear c;cases a)⟩,⟨(λX q bl k L u o p D x w args a i t hl r F v b=>ifM a (λa=>OI rfl L u o a t hl r b) λa=>ifM a (λa=>JQ rfl L u o a t hl r b) λa=>nomatch a)⟩⟩
noncomputable abbrev xt(F:aU)(i a b:Nat)(c:af):aU:=xm PT F i (mk F a b c)
noncomputable def BL:av:=["ValueError","abs","all","bool","enumerate","int","isinstance","len","list","range","set","sorted","sum","tuple","zip"]
noncomputable def CC:List (Str×GK):=[("MOST_HOUSES",GK.i 12),("ONE",GK.t [1,1]),("ZERO",GK.t [0,1])]
noncomputable def lb:aU:=xm PT PT 0 λ_=>none
noncomputable def mE:aU:=xt lb 201 2 4 (lX)
noncomputable def jY:aU:=xt mE 202 2 2 (rO 201)
noncomputable def fS:aU:=xt jY 213 1 8 (lW)
noncomputable def fT:aU:=xt fS 233 1 2 (kf)
noncomputable def jf:aU:=xt fT 234 1 1 (Ka)
noncomputable def mD:aU:=xt jf 215 1 1 (kg)
noncomputable def lg:aU:=xt mD 229 2 5 (wL)
noncomputable def ic:aU:=xt lg 200 2 4 (fO)
noncomputable def k_:aU:=xt ic 212 3 10 (kh)
noncomputable def gN:aU:=xt k_ 230 2 4 (nX)
noncomputable def lh:aU:=xt gN 236 2 3 (Au)
noncomputable def jk:aU:=xt lh 0 1 1 (i_)
noncomputable def fh:aU:=xt jk 43 2 2 (dN)
noncomputable def ig:aU:=xt fh 1 2 3 (dM)
noncomputable def qe:aU:=xt ig 3 1 1 (cf)
noncomputable def jW:aU:=xt qe 12 2 2 (fJ)
noncomputable def fU:aU:=xt jW 44 1 3 (fI)
noncomputable def jV:aU:=xt fU 9 1 3 (dg)
noncomputable def gM:aU:=xt jV 10 2 2 (gV)
noncomputable def ia:aU:=xt gM 14 1 4 (ka)
noncomputable def lj:aU:=xt ia 15 1 2 (fm)
noncomputable def qf:aU:=xt lj 45 1 4 (cp)
noncomputable def gi:aU:=xt qf 11 2 2 (iH)
noncomputable def cD:aU:=xt gi 16 1 1 (dK)
noncomputable def d4:aU:=xt cD 17 1 1 (cz)
noncomputable def dZ:aU:=xt d4 40 2 2 (cA)
noncomputable def dF:aU:=xt dZ 46 2 2 (gh 40 3)
noncomputable def fC:aU:=xt dF 47 2 2 (gh 40 4)
noncomputable def jh:aU:=xt fC 2 2 3 (di)
noncomputable def k9:aU:=xt jh 6 2 2 (nV 2)
noncomputable def ib:aU:=xt k9 41 1 2 (i9)
noncomputable def mC:aU:=xt ib 48 3 5 (fq)
noncomputable def eL:aU:=xt mC 49 2 4 (kc)
noncomputable def gY:aU:=xt eL 51 3 3 (eJ)
noncomputable def dE:aU:=xt gY 50 2 6 (gW)
noncomputable def dm:aU:=xt dE 65 3 3 (iI)
noncomputable def gZ:aU:=xt dm 90 2 2 (cL)
noncomputable def dY:aU:=xt gZ 5 2 2 (ug 2)
noncomputable def ji:aU:=xt dY 91 3 3 (iJ)
noncomputable def jg:aU:=xt ji 4 2 2 (rO 2)
noncomputable def gL:aU:=xt jg 42 1 2 (gg)
noncomputable def dO:aU:=xt gL 52 1 1 (d8)
noncomputable def cY:aU:=xt dO 92 3 4 (lV)
noncomputable def kr:aU:=xt cY 93 3 4 (iG)
noncomputable def ie:aU:=xt kr 7 2 2 (Gj 2)
noncomputable def eK:aU:=xt ie 19 3 4 (nY)
noncomputable def cC:aU:=xt eK 20 1 2 (jQ)
noncomputable def cZ:aU:=xt cC 53 1 1 (i8)
noncomputable def cX:aU:=xt cZ 94 1 2 (my)
noncomputable def g_:aU:=xt cX 95 2 3 (jR)
noncomputable def il:aU:=xt g_ 60 1 3 (uj)
noncomputable def je:aU:=xt il 61 2 2 (ui)
noncomputable def jX:aU:=xt je 62 2 2 (lU)
noncomputable def dX:aU:=xt jX 63 4 6 (nW)
noncomputable def cW:aU:=xt dX 21 1 4 (iE)
noncomputable def cV:aU:=xt cW 66 3 5 (eY)
noncomputable def fK:aU:=xt cV 54 2 5 (j_)
noncomputable def d9:aU:=xt fK 227 2 6 (ki)
noncomputable def GG:aU:=xm PT d9 235 (xS d9)
def Ml:=HK lb
def WH:=KC mE (f:=201) Ml
def WE:=Dy jY WH
def Wz:=Be fS WE
def Wy:=WQ fT Wz
def WD:=Bg jf
def WB:=Rt mD WD rfl
def Q_:=MJ lg
def WG:=Bi ic ⟨rfl,rfl,rfl,rfl,rfl,rfl⟩ Q_ Ml
def WA:=HJ k_ Ml
def Ww:=Rq gN rfl
def t0:=xR lh
def t43:=sC jk t0
def t1:=me fh
def t3:=qx ig t0 t1
def t12:=MG qe t3 t43
def t44:=HF jW rfl rfl rfl
def t9:=m7 fU t1
def t10:=vg jV
def Ra:=A_ gM t9 t10 rfl
def t15:=MF ia Ra
def t45:=DA lj t0 t12 t15 t44
def t11:=Dz qf t43
def t16:=sv gi t11 (O3 t45)
def ZT:∀d,LR d->(cD 16) [d]=ok (.bl false):=z16 gi t45
def C_:=m8 cD t16
def yk:uG (d4 17):=r17 cD ZT
def Mk:=m9 d4 t3
def C9:bF 3 bG (dF 46):=zl dZ (f:=40) mA Mk
def Cj:bF 4 bG (fC 47):=zl dF (f:=40) mA Mk
def t2:=qy fC t1
def t6:=HE jh (f:=2) t2.1
def t41:=xQ k9 t9 t10
def Z_:=qw ib t6 t41 rfl
def t49:=@Bc mC t2 Ra rfl
def Z9:=sx eL C_ C9 Cj Z_ t49
def Xz:uH 51 (gY 51):=r51 eL C_ C9 Cj yk
def t50:=@vh gY t2 Ra rfl
def Z7:=Bh dE C_ C9 Cj Z_ t50
def Xw:uH 65 (dm 65):=r65 dE C_ C9 Cj yk
def Wv:=qz dm Mk
def Sn:∀a,Qo a->(gZ 90) a=some (.error 8):=r90 dm Mk
def t5:=MH gZ (f:=2) t2.1
def Z6:=DB dY t5 C_ Cj Wv rfl
def GN:∀e a,uv e a->(ji 91) a=some (.error e):=r91 dY C_ Wv Cj yk Sn
def t4:=KC ji (f:=2) t2.1
def t42:=sA jg t2 t41
def Z8:=xO gL t42 Cj
def Xy:uH 52 (dO 52):=r52 gL Cj
def t92:=HI dO t4 Z9 Z8 Z6
def Xu:∀e a b c,AJ a b c .bz->uv e [a,b,c]->(cY 92) [a,b,c]=some (.error e):=r92 dO GN
def t93:=Bb cY Z7 Z6
def Xt:∀e a b c,AJ a b c .bz->uv e [a,b,c]->(kr 93) [a,b,c]=some (.error e):=r93 cY GN
def t7:=s_by kr (f:=2) t2
def t19:=HL ie t2
def U8:=Dv eK Ra C_ t19
def K7:uG (cC 20):=r20 eK yk
def U7:=HG cC t7 U8
def K6:uG (cZ 53):=r53 cC K7
def Wu:=MI cZ U7 rfl
def PR:∀e a,((e=1/\XD 0 a)\/(e=6/\Qn a))->(cX 94) a=some (.error e):=r94 cZ U7 rfl K6
def t95:=Dx cX Cj Wu
def Xs:uH 95 (g_ 95):=r95 cX Wu Cj PR
def t60:=ML g_ rfl
def t61:=MK il t6
def t62:=Dw je
def t63:=HH jX t5 t6 t61 t62
def PB:=Ba dX Ra C_ t19
def So:uG (cW 21):=r21 dX yk
def t66:=xP cW PB t42 C9 Cj t60 t63 rfl
def Xv:uH 66 (cV 66):=r66 cW PB C9 Cj So
def t54:=HD cV t6 U8 C9 rfl
def Xx:uH 54 (fK 54):=r54 cV U8 C9 K7
def WC:=HM fK ⟨Z9,Z8,U7,t54,Z7,t66,t92,t93,t95,Xz,Xy,K6,Xx,Xw,Xv,GN,Xu,Xt,Xs⟩
def Wx:=Du d9 WC
def BA:∀a:ae,(mk GG 1 14 (uh)) [.lst .sc (ah a)]=ok (.bl true):=λa=>Sh GG a Q_ WG WB WA Wy Wx Ww rfl
def v5:VJ ["_law_which","_law_things","_law_kept","e","_law_told"] ["_law_which","_law_things"] (aO (top 77))=true:=by decide +kernel
def twB(sc:Scope)(kept:Str)(c b a:ak)(v:Expr)(ls:List (Str×Bool))(b1 b2 b3:List Bool):Bool:=gB sc "ValueError" && (ls.all (λp=>gB sc p.1)&&(decide (fZ kept (GV ls) c=some b1)&&(decide (fZ kept (GV ls) b=some b2)&&(decide (fZ kept (GV ls) a=some b3)&&(decide (BF kept (GV ls) v=some true)&&decide (b1.length+b2.length+b3.length<=100))))))
noncomputable def Ce(n:Nat):List (Str×Bool):=[("NoDrawing",n==1),("NoWeights",n==3),("NoWorths",n==4),("NoPair",n==6),("NoSize",false),("NoLot",false),("NoGuess",n==8),("NoShares",false),("TooMany",false)]
def wD:∃h g f d c v r0 t s r q q1 q2 k p o m l a b c1 J c3 c4 I c6 H G F E D C B A z y x w u u1 u2 u3 u4 j i,(bQ (top 77)=U_ "ShareError" "e" "_law_kept" "_law_told" "" "more" h g f d c v r0 t s r q q1 q2 k p o m l a b c1 J c3 c4 I c6 H G F E D C B A z y x w u u1 u2 u3 u4 j i/\(ntB (aO (top 77)) ["_law_which","_law_things","_law_kept","e","_law_told"] "ShareError" "e" "_law_kept" "_law_told" 3 2 4&&(b6 ⟨aO (top 77),["_law_which","_law_things","_law_kept","e","_law_told"],λn=>List.lookup n [(227,"_law_asked")],BL,CC,px⟩ UG c&&(b6 ⟨aO (top 77),["_law_which","_law_things","_law_kept","e","_law_told"],λn=>List.lookup n [(227,"_law_asked")],BL,CC,px⟩ UH r0&&(pT ⟨aO (top 77),["_law_which","_law_things","_law_kept","e","_law_told"],λn=>List.lookup n [(227,"_law_asked")],BL,CC,px⟩ VW h&&Mf VW))))=true)/\(J2.all λn=>twB (aO (top 77)) "_law_kept" g f d v (Ce n) [n==1,n==3,n==4] [n==6,false,false] [n==8,false,false])=true:=⟨_,_,_,_,_,_,_,_,_,_,_,_,_,_,_,_,_,_,_,_,_,_,_,_,_,_,_,_,_,_,_,_,_,_,_,_,_,_,_,_,_,_,_,_,_,⟨rfl,by decide +kernel⟩,by decide +kernel⟩
noncomputable def ca(e d c b a:Addr):Nat->Addr
 |1=>e
 |3=>d
 |4=>c
 |6=>b
 |_=>a
noncomputable abbrev NS(i h g f e d c b a:Addr):List (Str×Addr):=[("NoDrawing",i),("NoWeights",h),("NoWorths",g),("NoPair",f),("NoSize",e),("NoLot",d),("NoGuess",c),("NoShares",b),("TooMany",a)]
def Pc:Qj (top 80) ["_law_script","_law_drawing_here","_law_many","_law_weights","_law_worths","_law_number","_law_bad_here","_law_odd","_law_light","_law_guess","_law_pair","_law_which","_law_due","_law_lone"] ["_law_script"] [(200,"_law_cell"),(212,"_law_drawing"),(229,"_law_bad"),(230,"_law_list"),(234,"_law_all_asked"),(235,"_law_word"),(236,"_law_odd_list")] BL CC px (uh)=true:=by decide +kernel
def all_mk{l:PySem.W.OpenLaw}{w:World}{K:ao}{h:Heap}{mg:aZ}{fa t1 t2 x o m k j E D g C B:Addr}{to1:Option Addr}{tn1:Nat}{ts1:Array (Option Value)}{QX QW:Tok}{to2:Option Addr}{tn2:Nat}{ts2:Array (Option Value)}{QV QU:Tok}{ZZ:Value}(X:K.In h)(G:h.Ns mainGlobals mg)(hfa:mg "law" = some (.ref fa))
  (b0:bH (λp:Str×Nat=>Df K p.1 (top p.2)) [("_law_frac",68),("_law_add",69),("_law_pairs",72),("_law_shares_of",73),("_law_all_asked",74),("_law_copied",75),("_law_bad",79),("_law_cell",67),("_law_drawing",70),("_law_list",71),("_law_odd_list",78),("is_whole",13),("are_houses",28),("common_divisor",14),("is_fraction",16)])
  (b1:bH (λp:Str×Nat=>Df K p.1 (top p.2)) [("is_row",30),("rows_rise",31),("common_bottom",22),("tops_over",23),("weighed_lots",32),("sums_to_one",33),("is_drawn",34),("is_lot",29),("is_drawing",35),("check_drawing",36),("are_fractions",17),("check_weights",43),("check_worths",44),("fraction_of",15),("frac_times",20)])
  (b2:bH (λp:Str×Nat=>Df K p.1 (top p.2)) [("over_one",24),("lot_guesses",45),("mean_of",46),("guess_mean",48),("spread_of",47),("guess_spread",57),("check_moved",60),("frac_less",19),("beyond_base",61),("frac_sum",18),("frac_total",25),("whole_of",49),("moved_mean",62),("moved_spread",63),("frac_by",21)])
  (b3:bH (λp:Str×Nat=>Df K p.1 (top p.2)) [("joint_share",37),("lot_shares",38),("right_weights",50),("full_weights",64),("nought_guess",65),("all_pairs",53),("both_shares",54),("pair_share",55),("pair_part",56),("pair_shares",39),("pairs_spread",58),("wrong_worths",51),("_law_asked",76),("_law_word",77),("law",80)])
  (z:bH (λy=>PySem.W.nsIn K mainGlobals y=some none) BL)
  (q0:PySem.W.nsIn K mainGlobals "MOST_HOUSES" = some (some ZZ)) (r0:RelV (.int 12) ZZ)
  (q1:PySem.W.nsIn K mainGlobals "ONE" = some (some (.ref t1))) (r1:K.lookup t1=some ⟨.type "tuple",to1,.seq #[.int 1 QX,.int 1 QW] tn1,ts1⟩)
  (q2:PySem.W.nsIn K mainGlobals "ZERO" = some (some (.ref t2))) (r2:K.lookup t2=some ⟨.type "tuple",to2,.seq #[.int 0 QV,.int 1 QU] tn2,ts2⟩)
  (e0:PySem.W.nsIn K mainGlobals "ShareError" = some (some (.ref x))) (xxB:PySem.W.excIn K x L3 "ValueError.__new__" = true) (e:bH (λp:Str×Addr=>PySem.W.nsIn K mainGlobals p.1=some (some (.ref p.2))) (NS o m k j E D g C B))
  (c1:AK K x o ((NS o m k j E D g C B).zip [true,false,false,false,false,false,false,false,false])) (c3:AK K x m ((NS o m k j E D g C B).zip [false,true,false,false,false,false,false,false,false])) (c4:AK K x k ((NS o m k j E D g C B).zip [false,false,true,false,false,false,false,false,false])) (c6:AK K x j ((NS o m k j E D g C B).zip [false,false,false,true,false,false,false,false,false])) (c8:AK K x g ((NS o m k j E D g C B).zip [false,false,false,false,false,false,true,false,false])) :
  ∃fd:FuncData,(∀(s:Shared) (v:Value),BindsTo s fd ⟨[v],[]⟩ [("_law_script",v)])/\∀base:Heap,K.In base->base.Ns mainGlobals mg->iM l.prog w K mg base Cg 61 fa fd ["_law_script"] (Hv K 1 s_):=by
 obtain⟨a0,a1,a2,a3,a4,a5,a6,a7,a8,a9,a10,a11,a12,a13,a14,_⟩:=b0;obtain⟨a15,a16,a17,a18,a19,a20,a21,a22,a23,a24,a25,a26,a27,a28,a29,_⟩:=b1;obtain⟨a30,a31,a32,a33,a34,a35,a36,a37,a38,a39,a40,a41,a42,a43,a44,_⟩:=b2;obtain⟨a45,a46,a47,a48,a49,a50,a51,a52,a53,a54,a55,a56,a57,a58,a59,_⟩:=b3;obtain⟨f,fd,Fu,a⟩:=a59;have e:=hfa.symm.trans (abf X G a);cases e;obtain⟨oc,od,kV,dc,pm,an,cd,ct,sl,rfl,_,_⟩:=id Fu.ex;have Y:=bH.nn X G z;have x0:∃u,mg "MOST_HOUSES" = some u/\w8 K (GK.i 12) u:=⟨_,abf X G q0,r0⟩
 have x1:∃u,mg "ONE" = some u/\w8 K (GK.t [1,1]) u:=⟨_,abf X G q1,t1,_,_,_,rfl,r1,rfl,rfl,by rw[sizeLine_eq];simp,(.cons ⟨_,rfl⟩ (.cons ⟨_,rfl⟩ .nil))⟩
 have x2:∃u,mg "ZERO" = some u/\w8 K (GK.t [0,1]) u:=⟨_,abf X G q2,t2,_,_,_,rfl,r2,rfl,rfl,by rw[sizeLine_eq];simp,(.cons ⟨_,rfl⟩ (.cons ⟨_,rfl⟩ .nil))⟩
 refine⟨PySem.W.fnOf "law" "law" (eI (top 80)) (bQ (top 80)) (aO (top 80)) .none kV dc pm an cd ct,λs v=>.of_eq rfl,λbase d I=>?_⟩;have N:=@en7 l.prog w K h base mg BL CC px PT X G pr Y ⟨x0,x1,x2,cN⟩;have O:=bH.mem (P:=λn=>qJ (Uz n) (ca o m k j g n) mg base) (l:=J2) ⟨j8 d I e.1 c1.xx,j8 d I e.2.1 c3.xx,j8 d I e.2.2.1 c4.xx,j8 d I e.2.2.2.1 c6.xx,j8 d I e.2.2.2.2.2.2.1 c8.xx,cN⟩;have c:=@en8 l.prog w K h base mg BL CC px PT X G pr Y ⟨x0,x1,x2,cN⟩ J2 Uz _ O uA;have E0:=N 1 lb a0 ["_law_top","_law_bottom","_law_one","_law_other"] 2 [] (lX) cN;have E1:=N 2 mE a1 ["_law_one","_law_other"] 2 [(201,"_law_frac")] (rO 201) ⟨E0.u,cN⟩;have E2:=N 3 jY a2 ["_law_drawing_here","_law_found","_law_house","_law_row","_law_other","_law_share","_law_chance","_law_lot"] 1 [(202,"_law_add")] (lW) ⟨E1.u,cN⟩;have E3:=N 4 fS a3 ["_law_drawing_here","_law_pairs_here"] 1 [(213,"_law_pairs")] (kf) ⟨E2.u,cN⟩;have E4:=N 5 fT a4 ["_law_drawing_here"] 1 [(233,"_law_shares_of")] (Ka) ⟨E3.u,cN⟩;have E5:=N 6 jf a5 ["_law_drawing_here"] 1 [] (kg) cN;have E6:=N 7 mD a6 ["_law_drawing_here","_law_number","_law_many","_law_rows","_law_odd"] 2 [(215,"_law_copied")] (wL) ⟨E5.u,cN⟩;have E7:=N 8 lg a7 ["_law_script","_law_k","_law_cell_here","_law_number"] 2 [] (fO) cN;have E8:=N 9 ic a8 ["_law_script","_law_at","_law_most","_law_number","_law_many","_law_lots","_law_k","_law_other","_law_lot","_law_whole"] 3 [(200,"_law_cell"),(201,"_law_frac")] (kh) ⟨E7.u,E0.u,cN⟩;have E9:=N 10 k_ a9 ["_law_number","_law_many","_law_found","_law_k"] 2 [(201,"_law_frac")] (nX) ⟨E0.u,cN⟩;have E10:=N 11 gN a10 ["_law_some","_law_number","_law_odd"] 2 [] (Au) cN;have ZR:=N 12 lh a11 ["thing"] 1 [] (i_) cN;have E12:=N 13 jk a12 ["thing","many"] 2 [(0,"is_whole")] (dN) ⟨ZR.u,cN⟩;have ZQ:=N 14 fh a13 ["one","other","rest"] 2 [] (dM) cN;have E14:=N 15 ig a14 ["thing"] 1 [(0,"is_whole"),(1,"common_divisor")] (cf) ⟨ZR.u,ZQ.u,cN⟩;have E15:=N 16 qe a15 ["thing","many"] 2 [(3,"is_fraction"),(43,"are_houses")] (fJ) ⟨E14.u,E12.u,cN⟩;have E16:=N 17 jW a16 ["rows","ahead","behind"] 1 [] (fI) cN;have E17:=N 18 fU a17 ["some","bottom","part"] 1 [(1,"common_divisor")] (dg) ⟨ZQ.u,cN⟩;have E18:=N 19 jV a18 ["some","bottom"] 2 [] (gV) cN;have V:=N 20 gM a19 ["rows","chances","lots","bottom"] 1 [(9,"common_bottom"),(10,"tops_over")] (ka) ⟨E17.u,E18.u,cN⟩;have E20:=N 21 ia a20 ["rows","weighed"] 1 [(14,"weighed_lots")] (fm) ⟨V.u,cN⟩;have E21:=N 22 lj a21 ["thing","many","rows","row"] 1 [(0,"is_whole"),(12,"is_row"),(15,"sums_to_one"),(44,"rows_rise")] (cp) ⟨ZR.u,E15.u,E20.u,E16.u,cN⟩;have E22:=N 23 qf a22 ["thing","many"] 2 [(43,"are_houses")] (iH) ⟨E12.u,cN⟩;have E23:=N 24 gi a23 ["thing"] 1 [(11,"is_lot"),(45,"is_drawn")] (dK) ⟨E22.u,E21.u,cN⟩;obtain⟨Z,US⟩:=c 25 cD a24 ["thing"] 1 [(16,"is_drawing")] (cz) 17 ⟨E23.u,cN⟩ (λn h=>⟨qY,cN⟩) (λn b h=>m17 cD n b ZT h);have ZP:=N 26 d4 a25 ["thing","many"] 2 [(3,"is_fraction")] (cA) ⟨E14.u,cN⟩;obtain⟨V8,V5⟩:=c 27 dZ a26 ["thing","many"] 2 [(40,"are_fractions")] (gh 40 3) 46 ⟨ZP.u,cN⟩ (λn h=>⟨qY,cN⟩) (λn b h=>mCk dZ n b Mk h);obtain⟨F,H⟩:=c 28 dF a27 ["thing","many"] 2 [(40,"are_fractions")] (gh 40 4) 47 ⟨ZP.u,cN⟩ (λn h=>⟨qY,cN⟩) (λn b h=>mCk dF n b Mk h);have A:=N 29 fC a28 ["top","bottom","divisor"] 2 [(1,"common_divisor")] (di) ⟨ZQ.u,cN⟩;have V7:=N 30 jh a29 ["one","other"] 2 [(2,"fraction_of")] (nV 2) ⟨A.u,cN⟩;have E30:=N 31 k9 a30 ["some","bottom"] 1 [(9,"common_bottom"),(10,"tops_over")] (i9) ⟨E17.u,E18.u,cN⟩;have E31:=N 32 ib a31 ["drawing","weights","worths","parts","tops"] 3 [(6,"frac_times"),(41,"over_one")] (fq) ⟨V7.u,E30.u,cN⟩;have E32:=N 33 mC a32 ["rows","guesses","weighed","total"] 2 [(2,"fraction_of"),(14,"weighed_lots")] (kc) ⟨A.u,V.u,cN⟩;obtain⟨E33,U⟩:=c 34 eL a33 ["drawing","weights","worths"] 3 [(17,"check_drawing"),(46,"check_weights"),(47,"check_worths"),(48,"lot_guesses"),(49,"mean_of")] (eJ) 51 ⟨Z.u,V8.u,F.u,E31.u,E32.u,cN⟩ (λn h=>⟨λ_=>(US n h).u,λ_=>(V5 n h).u,λ_=>(H n h).u,qY,qY,cN⟩) (λn b h=>y6 (Φ:=eL) C_ C9 (λq _ h=>⟨q,h⟩) (λq _ h=>⟨q,h⟩) (λq _ h=>⟨q,h⟩) h);have E34:=N 35 gY a34 ["rows","guesses","weighed","total","squares","bottom"] 2 [(2,"fraction_of"),(14,"weighed_lots")] (gW) ⟨A.u,V.u,cN⟩;obtain⟨E35,S⟩:=c 36 dE a35 ["drawing","weights","worths"] 3 [(17,"check_drawing"),(46,"check_weights"),(47,"check_worths"),(48,"lot_guesses"),(50,"spread_of")] (iI) 65 ⟨Z.u,V8.u,F.u,E31.u,E34.u,cN⟩ (λn h=>⟨λ_=>(US n h).u,λ_=>(V5 n h).u,λ_=>(H n h).u,qY,qY,cN⟩) (λn b h=>y6 (Φ:=dE) C_ C9 (λq _ h=>⟨q,h⟩) (λq _ h=>⟨q,h⟩) (λq _ h=>⟨q,h⟩) h);obtain⟨E36,X36⟩:=c 37 dm a36 ["thing","many"] 2 [(40,"are_fractions")] (cL) 90 ⟨ZP.u,cN⟩ (λn h=>⟨qY,cN⟩) (λn b h=>m90 dm n b Mk h);have E37:=N 38 gZ a37 ["one","other"] 2 [(2,"fraction_of")] (ug 2) ⟨A.u,cN⟩;obtain⟨E38,R⟩:=c 39 dY a38 ["drawing","guess","worths"] 3 [(5,"frac_less"),(17,"check_drawing"),(47,"check_worths"),(90,"check_moved")] (iJ) 91 ⟨E37.u,Z.u,F.u,E36.u,cN⟩ (λn h=>⟨qY,λ_=>(US n h).u,λ_=>(H n h).u,λ_=>(X36 n h).u,cN⟩) (λn b h=>CH (Φ:=dY) C_ Wv (λq _ h=>⟨q,h⟩) (λq _ h=>⟨q,h⟩) (λq _ h=>⟨q,h⟩) h);have E39:=N 40 ji a39 ["one","other"] 2 [(2,"fraction_of")] (rO 2) ⟨A.u,cN⟩;have E40:=N 41 jg a40 ["some","tops"] 1 [(2,"fraction_of"),(41,"over_one")] (gg) ⟨A.u,E30.u,cN⟩;obtain⟨E41,Q⟩:=c 42 gL a41 ["worths"] 1 [(42,"frac_total"),(47,"check_worths")] (d8) 52 ⟨E40.u,F.u,cN⟩ (λn h=>⟨qY,λ_=>(H n h).u,cN⟩) (λn b h=>m52 gL n b h);obtain⟨E42,X42⟩:=c 43 dO a42 ["drawing","guess","worths","beyond"] 3 [(4,"frac_sum"),(51,"guess_mean"),(52,"whole_of"),(91,"beyond_base")] (lV) 92 ⟨E39.u,E33.u,E41.u,E38.u,cN⟩ (λn h=>⟨qY,λ_=>(U n h).u,λ_=>(Q n h).u,λ_=>(R n h).u,cN⟩) (λn b h=>m92 dO n b h);obtain⟨E43,X43⟩:=c 44 cY a43 ["drawing","guess","worths","beyond"] 3 [(65,"guess_spread"),(91,"beyond_base")] (iG) 93 ⟨E35.u,E38.u,cN⟩ (λn h=>⟨λ_=>(S n h).u,λ_=>(R n h).u,cN⟩) (λn b h=>m92 cY n b h);have E44:=N 45 kr a44 ["one","other"] 2 [(2,"fraction_of")] (Gj 2) ⟨A.u,cN⟩;have E45:=N 46 ie a45 ["weighed","one","other","having"] 3 [(2,"fraction_of")] (nY) ⟨A.u,cN⟩;obtain⟨E46,M⟩:=c 47 eK a46 ["drawing","weighed"] 1 [(14,"weighed_lots"),(17,"check_drawing"),(19,"joint_share")] (jQ) 20 ⟨V.u,Z.u,E45.u,cN⟩ (λn h=>⟨qY,λ_=>(US n h).u,qY,cN⟩) (λn b h=>mXd eK n b (λ_ h=>⟨rfl,h⟩) h);obtain⟨E47,L⟩:=c 48 cC a47 ["drawing"] 1 [(7,"frac_by"),(20,"lot_shares")] (i8) 53 ⟨E44.u,E46.u,cN⟩ (λn h=>⟨qY,λ_=>(M n h).u,cN⟩) (λn b h=>m53 cC n b h);obtain⟨E48,X48⟩:=c 49 cZ a48 ["drawing","weights"] 1 [(53,"right_weights")] (my) 94 ⟨E47.u,cN⟩ (λn h=>⟨λ_=>(L n h).u,cN⟩) (λn b h=>CG (Φ:=cZ) U7 rfl (λq _ h=>⟨q,h⟩) h);obtain⟨E49,X49⟩:=c 50 cX a49 ["drawing","worths","weights"] 2 [(47,"check_worths"),(94,"full_weights")] (jR) 95 ⟨F.u,E48.u,cN⟩ (λn h=>⟨λ_=>(H n h).u,λ_=>(X48 n h).u,cN⟩) (λn b h=>CF (Φ:=cX) Wu (λ_ h=>h) (λq _ h=>⟨q,h⟩) h);have E50:=N 51 g_ a50 ["houses","pairs","one"] 1 [] (uj) cN;have E51:=N 52 il a51 ["pairs","two"] 2 [(6,"frac_times")] (ui) ⟨V7.u,cN⟩;have E52:=N 53 je a52 ["pairs","two"] 2 [] (lU) cN;have E53:=N 54 jX a53 ["pairs","two","weights","worths","one","other"] 4 [(5,"frac_less"),(6,"frac_times"),(61,"both_shares"),(62,"pair_share")] (nW) ⟨E37.u,V7.u,E51.u,E52.u,cN⟩;obtain⟨E54,V4⟩:=c 55 dX a54 ["drawing","weighed","pairs","one"] 1 [(14,"weighed_lots"),(17,"check_drawing"),(19,"joint_share")] (iE) 21 ⟨V.u,Z.u,E45.u,cN⟩ (λn h=>⟨qY,λ_=>(US n h).u,qY,cN⟩) (λn b h=>mXd dX n b (λ_ h=>⟨rfl,h⟩) h);obtain⟨E55,X55⟩:=c 56 cW a55 ["drawing","weights","worths","pairs","houses"] 3 [(21,"pair_shares"),(42,"frac_total"),(46,"check_weights"),(47,"check_worths"),(60,"all_pairs"),(63,"pair_part")] (eY) 66 ⟨E54.u,E40.u,V8.u,F.u,E50.u,E53.u,cN⟩ (λn h=>⟨λ_=>(V4 n h).u,qY,λ_=>(V5 n h).u,λ_=>(H n h).u,qY,qY,cN⟩) (λn b h=>CK (Φ:=cW) PB C9 (λq _ h=>⟨q,h⟩) (λq _ h=>⟨q,h⟩) (λq _ h=>⟨q,h⟩) h);obtain⟨E56,X56⟩:=c 57 cV a56 ["drawing","weights","shares","house","share"] 2 [(6,"frac_times"),(20,"lot_shares"),(46,"check_weights")] (j_) 54 ⟨V7.u,E46.u,V8.u,cN⟩ (λn h=>⟨qY,λ_=>(M n h).u,λ_=>(V5 n h).u,cN⟩) (λn b h=>CL (Φ:=cV) U8 (λq _ h=>⟨q,h⟩) (λq _ h=>⟨q,h⟩) h);obtain⟨E57,X57⟩:=c 58 fK a57 ["_law_which","_law_things","_law_drawing_here","_law_weights","_law_worths","_law_guess"] 2 [(51,"guess_mean"),(52,"whole_of"),(53,"right_weights"),(54,"wrong_worths"),(65,"guess_spread"),(66,"pairs_spread"),(92,"moved_mean"),(93,"moved_spread"),(95,"nought_guess")] (ki) 227 ⟨E33.u,E41.u,E47.u,E56.u,E35.u,E55.u,E42.u,E43.u,E49.u,cN⟩ (λn h=>⟨λ_=>(U n h).u,λ_=>(Q n h).u,λ_=>(L n h).u,λ_=>(X56 n h).u,λ_=>(S n h).u,λ_=>(X55 n h).u,λ_=>(X42 n h).u,λ_=>(X43 n h).u,λ_=>(X49 n h).u,cN⟩) (λn b h=>Xh fK n b h);obtain⟨_,_,_,_,_,_,_,_,_,_,_,_,_,_,_,_,_,_,_,_,_,_,_,_,_,_,_,_,_,_,_,_,_,_,_,_,_,_,_,_,_,_,_,_,_,hT,J⟩:=wD;have T:=λn s (hs:Kq n=some s)=>(show TW K mg base x (aO (top 77)) "_law_kept" _ _ _ _ d9 UG UH 5 4 (ca o m k j g n) s from by
  rcases qL hs with ⟨rfl,rfl⟩|⟨rfl,rfl⟩|⟨rfl,rfl⟩|⟨rfl,rfl⟩|⟨rfl,rfl⟩
  ·exact uP X G (iu d c1.xx c1.mb c1.nb) c1.xc (ls:=Ce 1) (AK.hl e c1.v) c1.vv (Y.mem _ (by decide)) (List.all_eq_true.mp J 1 (by decide)) rfl rfl
  ·exact uP X G (iu d c3.xx c3.mb c3.nb) c3.xc (ls:=Ce 3) (AK.hl e c3.v) c3.vv (Y.mem _ (by decide)) (List.all_eq_true.mp J 3 (by decide)) rfl rfl
  ·exact uP X G (iu d c4.xx c4.mb c4.nb) c4.xc (ls:=Ce 4) (AK.hl e c4.v) c4.vv (Y.mem _ (by decide)) (List.all_eq_true.mp J 4 (by decide)) rfl rfl
  ·exact uP X G (iu d c6.xx c6.mb c6.nb) c6.xc (ls:=Ce 6) (AK.hl e c6.v) c6.vv (Y.mem _ (by decide)) (List.all_eq_true.mp J 6 (by decide)) rfl rfl
  ·exact uP X G (iu d c8.xx c8.mb c8.nb) c8.xc (ls:=Ce 8) (AK.hl e c8.v) c8.vv (Y.mem _ (by decide)) (List.all_eq_true.mp J 8 (by decide)) rfl rfl)
 have E58:=Zg (P:=l.prog) (w:=w) (base:=base) X G 3 2 4 59 d9 (xS d9) (j8 d I e0 xxB) (Y.mem _ (by decide)) a58 v5 hT (pr _ _ _) Y ⟨x0,x1,x2,cN⟩ ⟨E57.u,cN⟩ (T 1 _ rfl) (λb r q=>(hmB (Φ:=d9) b r q).imp_right λh=>h.imp_right λ⟨n,s,hs,hr,he⟩=>⟨_,_,_,_,hr,T n s hs,⟨λ_=>(X57 n (LZ hs)).u,cN⟩,he⟩) (λ_ _ _ _ _ _=>u2 λ_ _=>rfl);exact enL 60 GG s_ Fu Pc (pr _ _ _) Y ⟨x0,x1,x2,cN⟩ ⟨E7.u,E8.u,E6.u,E9.u,E4.u,E58.u,E10.u,cN⟩ (EB λns _=>(yc _ _ (BA ns)).2)
def walk{l:PySem.W.OpenLaw}{q:aM}{loose:av}{p:(aZ)->Heap->Prop}{c:World->Heap->Prop}{d:DefRec}{K:Params->ao}(i:l.most=some 63)(r:d.params.defaults=[])
  (j:∀(w:World) (h:Heap),c w h->(K w.params).In h)
  (F:∀(w:World) (mg:aZ) (fa:Addr) (h:Heap),(K w.params).In h->h.Ns mainGlobals mg->mg d.name=some (.ref fa) ->
   ∃b:FuncData,(∀(s:Shared) (u:Value),BindsTo s b ⟨[u],[]⟩ [("_law_script",u)])/\∀base:Heap,(K w.params).In base->base.Ns mainGlobals mg->iM l.prog w (K w.params) mg base Cg 61 fa b ["_law_script"] (Hv (K w.params) 1 s_)) :
  PySem.W.WalkO q loose p c l.row.toRowW d [] (λf e=>PySem.call f e) :=
 L2.G_ (n:=63) (k:=61) (x:="_law_script") (CX:=λ_=>Cg) (sp:=λw=>Hv (K w.params) 1 s_) i (by decide) r ⟨rfl,by decide,by decide⟩ j F (λw H a g hl o m=>Nq (K w.params) H a g s_ (IG hl) o m) λ_ _ _ _ _ z=>z
end Asm
end
open PySem PySem.W PyProof.Rows
set_option maxRecDepth 100000 in
set_option maxHeartbeats 0 in
theorem PySem.Challenge.cw_sharesample_k21_refused_guesses_holds : PySem.Challenge.rw_sharesample_k21_refused_guesses.Holds := by
 w_on;o_law;k_head;(case hw=>w_witness2)
 k_fill
 refine Asm.walk (l:=PySem.Challenge.rw_sharesample_k21_refused_guesses) rfl rfl (fun w h Y=>PySem.W.kIn_of Y) ?F
 case F =>
  intro w mg fa h KX G hmg
  refine' Asm.all_mk KX G hmg ?b0 ?b1 ?b2 ?b3 ?zz ?q0 ?r0 ?q1 ?r1 ?q2 ?r2 ?e0 ?xxB ?e ?c1 ?c3 ?c4 ?c6 ?c8
  (case b0 =>
   refine' ⟨?_,?_,?_,?_,?_,?_,?_,?_,?_,?_,?_,?_,?_,?_,?_,trivial⟩ <;> (try dsimp only) <;> (refine' DI.dmk ?x ?y ?z ?w;case x | y | z | w=>k_is))
  (case b1 =>
   refine' ⟨?_,?_,?_,?_,?_,?_,?_,?_,?_,?_,?_,?_,?_,?_,?_,trivial⟩ <;> (try dsimp only) <;> (refine' DI.dmk ?x ?y ?z ?w;case x | y | z | w=>k_is))
  (case b2 =>
   refine' ⟨?_,?_,?_,?_,?_,?_,?_,?_,?_,?_,?_,?_,?_,?_,?_,trivial⟩ <;> (try dsimp only) <;> (refine' DI.dmk ?x ?y ?z ?w;case x | y | z | w=>k_is))
  (case b3 =>
   refine' ⟨?_,?_,?_,?_,?_,?_,?_,?_,?_,?_,?_,?_,?_,?_,?_,trivial⟩ <;> (try dsimp only) <;> (refine' DI.dmk ?x ?y ?z ?w;case x | y | z | w=>k_is))
  (case zz=>refine' ⟨?_,?_,?_,?_,?_,?_,?_,?_,?_,?_,?_,?_,?_,?_,?_,trivial⟩ <;> show PySem.W.nsIn _ _ _ = some none <;> k_is)
  (case q0=>k_is);(case r0=>exact ⟨_,rfl⟩)
  (case q1=>k_is);(case r1=>k_is)
  (case q2=>k_is);(case r2=>k_is)
  (case e0=>k_is)
  (case xxB=>k_exc)
  (case e=>refine' ⟨?_,?_,?_,?_,?_,?_,?_,?_,?_,trivial⟩ <;> show PySem.W.nsIn _ _ _ = some (some _) <;> k_is)
  case c1 | c3 | c4 | c6 | c8 =>
   refine' ⟨⟨?x1,?x2,?x3,?x4,?x5,?x6,?x7,?x8,?x9,trivial⟩,?vv,?xx,?mb,?nb,?w1,?w2,?w3,?w4,?w5⟩
   case x1 | x2 | x3 | x4 | x5 | x6 | x7 | x8 | x9=>first | kit_is | (dsimp only;kit_is)
   case vv=>kit_is
   case xx=>k_exc
   case nb=>decide
   case mb | w1 | w2 | w3 | w4 | w5=>k_is

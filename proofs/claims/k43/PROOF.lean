import PyProof.Rows.All
import Wide.All
import OpenK.AllK
import Wide.FinOn
import Lean
import PyProof.EqAt
import PyProof.EqKinds
import PyProof.TupleCall
import PyProof.NeKinds
import PyProof.ZipIter
import PyProof.Draws
import PyProof.FactsAll.zip
import KE.KSortTup
import KE.KDictSum
import PyProof.TupleOfSeq
import PyProof.StrWalks
import PyProof.Rows.SetFrom
import KE.KRevIter
import PyProof.Rows.Range3
import KE.KTryMore
import KE.KIsNot
import PyProof.ExcArgsOwn
import PyProof.ExcAttrAll.ValueError
import PyProof.ExcBaseAll.ValueError
import PyProof.NsDelKeeps
import PyProof.Rows.CallKwBuiltin
import PyProof.WalkInts
import PyProof.Rows.Catch
import KE.KLam
import KE.KNestM
import PyProof.FactsAll.list_3
import KE.KDictList
import PyProof.Rows.CountFlat
import KE.KDictOf
import PyProof.AttrMissHeap
import PyProof.DictFindH
import PySem.Challenge.RW_twoglass_k43_unnests_put
set_option Elab.async false
set_option linter.all false
set_option maxRecDepth 100000
open List renaming filterMap_cons→Mt, mem_cons_self→Mu, mem_cons_of_mem→Mv, mem_append_left→Mw, getElem?_set_self→Mx, getElem?_set_ne→My, mem_append_right→MB, size_toArray→ME, length_cons→MG, map_cons→MH, length_map→MI, append_nil→ML, of_mem_zip→MN, length_take→MO, getElem?_append_right→MP, getElem?_replicate→MQ, getElem?_append_left→MR, getElem?_map→MS, take_sublist→MT, mem_of_getElem?→MU, length_append→MV, length_drop→MY, length_singleton→M1, map_nil→M3, find?_cons→M4, any_cons→M5, length_nil→M6, nodup_nil→M9, lookup_cons→Nb, forIn_cons→Nc, cons_append→Nh, take_zero→Ni, take_nil→Nj, take_succ_cons→Nk, drop_zero→Nm, drop_succ_cons→Np, all_cons→Nq, getElem?_eq_getElem→Nr, getElem_of_mem→Nw, nil_append→Nx, map_congr_left→Ny, map_append→Nz, length_range→NA, take_length→NB, getElem?_range→ND, drop_eq_getElem_cons→NE, append_assoc→NI, drop_length→NK, mem_cons→NM, not_mem_nil→NN, getElem?_cons_zero→NP, getElem?_cons_succ→NQ, contains_cons→NW, zip_cons_cons→NY, nodup_append→NZ, replicate_zero→N3, zip_nil_right→N4, foldl_cons→N5, not_lt_nil→N6, nil_lt_cons→N7, cons_lt_cons_iff→N8, pairwise_singleton→Oa, filter_cons_of_pos→Oc, filter_cons_of_neg→Od, getElem_mem→Oe, pairwise_map→Of, getD_eq_getElem?_getD→Og, map_map→Oh, any_map→Oi, toList_toArray→Oj, getElem?_eq_none→Om, take_of_length_le→Oo, mem_singleton→Oq, find?_cons_of_pos→Ow, find?_cons_of_neg→Ox, drop_eq_nil_of_le→Oy, take_left→Oz, set_cons_zero→OA, set_cons_succ→OB, take_take→OI, getLast?_append→OJ, getLast?_eq_getLast→OL, getLast_mem→OM, dropLast_concat_getLast→OO, filter_append→OQ, flatMap_cons→OS, flatMap_append→OT, flatMap_singleton→OU, map_singleton→OV, take_append_drop→OW, any_eq_true→OX, mem_nil_iff→OY, map_id→OZ, take_succ_eq_append_getElem→O0, length_filter_le→O2, mem_of_mem_take→O3, filter_append_perm→O5, mem_of_mem_drop→O6, length_take_le→O7
open Int renaming natCast_nonneg→MC, fdiv_eq_ediv_of_nonneg→MD, toNat_natCast→MX, emod_nonneg→OG, emod_lt_of_pos→OH, toNat_of_nonneg→O1
open Nat renaming lt_of_lt_of_le→Mo, lt_irrefl→Mp, ne_of_lt→Mq, le_trans→Mr, le_of_lt→Ms, ne_of_gt→Mz, le_refl→MA, le_of_eq→MJ, zero_le→MK, le_succ→MM, lt_trans→M8, lt_succ_of_lt→Ng, min_self→Nt, sub_zero→NC, lt_of_le_of_lt→NF, le_add_right→NR, add_lt_add_left→NS, lt_add_of_pos_right→NU, zero_add→NV, sub_self→N0, lt_trichotomy→N9, lt_or_ge→Ol, le_total→Ot, min_eq_left→Ou, min_eq_right→Ov
open Bool renaming false_ne_true→MF, and_eq_true→MZ, and_false→M2, false_eq_true→Nf, and_true→Nu, or_eq_true→Nv, or_eq_false_iff→NX, not_true→OC, not_false→OD
open Option renaming getD_none→M0, isSome_map→M7
open PySem renaming Value→Qp, World→Qq, Program→Qr, Addr→Qs, Paired→Qt, Heap→Qu, sizeLine→Qv, mainGlobals→Qx, builtinsNs→Qy, bootBuiltins→Qz, Around→QA, Shared→QB, Scope→QC, wpAny→QD, Expr→QE, starEach→QF, Stmt→QG, wpAny_mono→QH, wpAny_Name→QI, wpAny_truthy_bool→QJ, wpAny_execs_nil→QK, wpAny_pure→QL, wpAny_bind→QM, wpAny_pyIter_list→QN, PassesOwn→QO, foldedSetIterable→QP, wpAny_passesOwn→QQ, binaryOp→QR, compareOp→QS, behindInMarks→QT, sizeLine_eq→QU, codeAny→QV, callWith→QW, keywordEach→QX, recursionLimit→QY, cLine→QZ, FuncData→Q0, BindsTo→Q1, codeAny_mono→Q2, wpAny_Call_Name_kw→Q3, NameKind→Q4, Arguments→Q5, concat_meets→Q6, noFill_tuple_add→Q7, seq_tuple_add→Q8, IsPart→Q9, wpAny_field→Ra, wpAny_holding→Rb, wpAny_callSpecial?_slot→Rc, wpAny_call_entry→Rf, wpAny_typeOf→Rg, wpAny_newObj_type→Rh, evalPart_none→Ri, attributeBase→Rl, Keyword→Rm, tupleKind_room_in1→Rn, wpAny_standAt→Ro, wpAny_comprehension_free→Rp, wpAny_rule→Rq, wpAny_getItem_str_slice→Rt, post_val_or_str→Ru, wpAny_seqItems→Rv, wpAny_setField→Rw, wpAny_handled→Rx, IsZip→Ry, IsPair→Rz, wpAny_setField_rec→RA, wpAny_onRaise→RB, wpAny_updateSeq_pair→RC, wpAny_letGo→RD, wpAny_newTuple→RE, wpAny_attempt→RF, wpAny_isInstance→RG, isSubtype_stop→RH, wpAny_newList→RO, wpAny_collect_seq→RP, wpAny_notOrdered_dict→RT, wpAny_dictEntries→RU, DictEntry→RV, wpAny_dictEpoch→RW, IsItemIter→RX, IsItemIterOut→RY, wpAny_typeNameOfWhole_itemiter→RZ, wpAny_typeNameOf_itemiter→R0, wpAny_fieldsOf→R1, wpAny_isOneOf_itemiter→R3, wpAny_typeNameOfWhole_keyiter→R4, wpAny_typeNameOf_keyiter→R5
open PySem.W renaming instObj→O8, methodObj→O9, Frag→Pa, lookIn→Pb, plainGet→Ph, findIn→Pj, isFn→Pk, plainGet_of→Pl, plainOver→Pm, takerIn→Pn, hasDictIn→Pp, makesIn→Pq, emptyDict→Pr, keepIn→Pt, callWith_K→Pu, cellsFrom_some→Pw, fnOf→Px, codeIn→Py, nsIn→Pz, kitOne→PB, kia_one→PC, BoolBack→PD, tabObj→PF, kla_fn→PH, OpenLaw→PJ, kdl_call→PK, codeHdIn→PL, mg_of→PN, mg_none_of→PP, kas_ask→RK, kla_obj→RQ
open PySem.Heap renaming lt_size→PQ, get?_none_of_le→PR, SameBut→PV, get?_push_of_some→PX, get?_push_size→PY, size_push→PZ, get?_update_self→P0, ExtBut→P4, get?_push_ne→P5, size_update→P6, get?_update_ne→P7
open PyProof.Rows renaming callWith_type1→P8, slot_tuple_getitem→P9, envOfC→Qa, IsTup→Qb, Call_→Qc, boot_str→Qd, boot_bool→Qe, boot_int→Qf, boot_tuple→Qg, boot_dict→Qh, boot_list→Qi, boot_max→Qj, IsTup→Qw, Subscript_→Rj, SortKind→RJ, listUpdate_at→RL, get?_update_seq→RM, seqEpoch_at→RN
open PySem.F renaming slot_tuple_add→Qk, entry_tuple_add→Ql, args_tuple_add_2→Qm, slot_list_append→Qn, type_list_append→Qo
set_option maxHeartbeats 1000000
local macro_rules | `(‹1›)=>`(by first | exact Or.inl rfl | exact Or.inr rfl)
local macro_rules | `(‹2›)=>`(⟨rfl, rfl, rfl, by decide +kernel, rfl, by decide +kernel, by decide +kernel⟩)
local macro_rules | `(‹0›)=>`(by omega)
namespace L2
open PySem PySem.Spec PyProof.Rows

abbrev Key:=Sum Int Str
def qa:Key->Qp->Bool
 | .inl k,v=>Value.isInt k v
 | .inr x,v=>Value.isStrOf x v
def KW (w:Qq):Key->Int
 | .inl k=>hashInt k
 | .inr x=>hashStr w x
theorem cQ:∀ {k:Key} {v:Qp},qa k v=true->(∃ i t,k=Sum.inl i/\v=Value.int i t)\/(∃ x t,k=Sum.inr x/\v=Value.str x t)
 | .inl i,v,h=>by
  obtain⟨t,e⟩:=Value.isInt_shape (k:=i) (v:=v) h
  exact .inl ⟨i,t,rfl,e⟩
 | .inr x,v,h=>by
  obtain⟨t,e⟩:=Value.isStrOf_shape (x:=x) (v:=v) h
  exact .inr ⟨x,t,rfl,e⟩
theorem AZ (i:Int) (t:Tok):qa (.inl i) (.int i t)=true:=by simp [qa,Value.isInt]
theorem Ad (x:Str) (t:Tok):qa (.inr x) (.str x t)=true:=by simp [qa,Value.isStrOf]
theorem Fy (a b:Int):decide ((Sum.inl a:Key)=Sum.inl b)=(a==b):=by
 by_cases e:a=b
 ·subst e; simp
 ·have h:¬ (Sum.inl a:Key)=Sum.inl b:=fun q=>e (Sum.inl.inj q)
  rw [decide_eq_false h]
  exact(beq_eq_false_iff_ne.mpr e).symm
theorem GI (a b:Str):decide ((Sum.inr a:Key)=Sum.inr b)=decide (a=b):=by
 by_cases e:a=b
 ·subst e; simp
 ·have h:¬ (Sum.inr a:Key)=Sum.inr b:=fun q=>e (Sum.inr.inj q)
  rw [decide_eq_false h,decide_eq_false e]
theorem G2 (a:Int) (b:Str):decide ((Sum.inl a:Key)=Sum.inr b)=false:=decide_eq_false (fun q=>nomatch q)
theorem Gf (a:Str) (b:Int):decide ((Sum.inr a:Key)=Sum.inl b)=false:=decide_eq_false (fun q=>nomatch q)

def bV (prog:Qr) (w:Qq):PySem.KeyKind prog w Key where
 is:=qa
 hash:=KW w
 inj:=fun v a b ha hb=>by
  rcases cQ ha with ⟨i,t,rfl,rfl⟩ | ⟨x,t,rfl,rfl⟩
  ·rcases cQ hb with ⟨j,u,rfl,e⟩ | ⟨y,u,rfl,e⟩
   ·injection e with e1 _; rw [e1]
   ·exact nomatch e
  ·rcases cQ hb with ⟨j,u,rfl,e⟩ | ⟨y,u,rfl,e⟩
   ·exact nomatch e
   ·injection e with e1 _; rw [e1]
 byValue:=fun k v h=>by
  rcases cQ h with ⟨i,t,rfl,rfl⟩ | ⟨x,t,rfl,rfl⟩ <;> rfl
 pyHash:=fun hv h=>by
  rcases cQ hv with ⟨i,t,rfl,rfl⟩ | ⟨x,t,rfl,rfl⟩
  ·exact wpAny_pyHash_int h
  ·exact wpAny_pyHash_str h
 eqBool:=fun hu hv h=>by
  rcases cQ hu with ⟨i,t,rfl,rfl⟩ | ⟨x,t,rfl,rfl⟩
  ·rcases cQ hv with ⟨j,u,rfl,rfl⟩ | ⟨y,u,rfl,rfl⟩
   ·rw [Fy] at h; exact wpAny_eqBool_int h
   ·rw [G2] at h; exact SeqAt.EqAt.int_str i t y u _ _ _ _ h
  ·rcases cQ hv with ⟨j,u,rfl,rfl⟩ | ⟨y,u,rfl,rfl⟩
   ·rw [Gf] at h; exact SeqAt.EqAt.str_int x t j u _ _ _ _ h
   ·rw [GI] at h; exact wpAny_eqBool_str h
 «strs»:=fun k x t v h=>by
  rcases cQ h with ⟨i,u,rfl,e⟩ | ⟨y,u,rfl,e⟩
  ·exact nomatch e
  ·injection e with e1 _
   subst e1
   cases v <;> rfl

theorem yq (prog:Qr) (w:Qq) (k:Key) (v:Qp):(bV prog w).is k v=qa k v:=rfl
theorem wR (prog:Qr) (w:Qq) (i:Int) (t:Tok):(bV prog w).is (.inl i) (.int i t)=true:=AZ i t
theorem wL (prog:Qr) (w:Qq) (x:Str) (t:Tok):(bV prog w).is (.inr x) (.str x t)=true:=Ad x t
end L2

namespace L2
open PySem PySem.Spec PyProof.Rows

inductive V where
 | non | bl (b:Bool) | int (i:Int) | str (x:Str) | byt (b:Array UInt8) | flt (b:UInt64) | ref (a:Qs) | ty (n:String)
 deriving DecidableEq

def RelV:V->Qp->Prop
 | .non,u=>u=Value.none
 | .bl b,u=>u=Value.bool b
 | .int i,u=>∃ t,u=Value.int i t
 | .str x,u=>∃ t,u=Value.str x t
 | .byt b,u=>∃ t,u=Value.bytes b t
 | .flt b,u=>∃ t,u=Value.float b t
 | .ref a,u=>u=Value.ref a
 | .ty n,u=>u=Value.type n

abbrev Vals:List V->List Qp->Prop:=Qt RelV
theorem Vals.length {xs:List V} {us:List Qp} (r:Vals xs us):xs.length=us.length:=Paired.length r
theorem Vals.get:∀ {xs:List V} {us:List Qp} {i:Nat} {x:V},Vals xs us->xs[i]?=some x->∃ u,us[i]?=some u/\RelV x u
 | _,_,_,_,.nil,e=>by simp at e
 | _,_,0,_,.cons r _,e=>by simp at e; subst e; exact⟨_,rfl,r⟩
 | _,_,i+1,x,.cons _ t,e=>by
  obtain⟨u,h1,h2⟩:=Vals.get (i:=i) (x:=x) t (by simpa using e)
  exact⟨u,by simpa using h1,h2⟩
theorem Vals.append:∀ {xs ys:List V} {us ws:List Qp},Vals xs us->Vals ys ws->Vals (xs++ys) (us++ws)
 | _,_,_,_,.nil,s=>s
 | _,_,_,_,.cons r t,s=>.cons r (Vals.append t s)
theorem Vals.take:∀ {xs:List V} {us:List Qp} (n:Nat),Vals xs us->Vals (xs.take n) (us.take n)
 | _,_,0,_=>.nil
 | _,_,_+1,.nil=>.nil
 | _,_,n+1,.cons r t=>.cons r (Vals.take n t)
theorem Vals.drop:∀ {xs:List V} {us:List Qp} (n:Nat),Vals xs us->Vals (xs.drop n) (us.drop n)
 | _,_,0,r=>r
 | _,_,_+1,.nil=>.nil
 | _,_,n+1,.cons _ t=>Vals.drop n t
def rB:Option V->Option Qp->Prop
 | some v,some u=>RelV v u
 | none,none=>True
 | _,_=>False
def KV {κ:Type}:List (κ×V)->List (κ×Qp)->Prop:=Qt fun (p:κ×V) (q:κ×Qp)=>p.1=q.1/\RelV p.2 q.2

def kV:Key->V
 | .inl i=>.int i
 | .inr x=>.str x

inductive HO where
  | lst (xs:List V)
  | tup (xs:List V)
  | dK (kvs:List (Key×V)) | dT (kvs:List (List Key×V))
  | set (S:Int->Bool) (n:Nat)
  | ins (C dx:Qs) (fs:List (Str×V))
  | own (x:Qs)
  | xd (fs:List (Str×V))
  | met (f x:Qs)
  | rng (lo hi:Int)
  | frz (o:Obj) (u:HO)
  | tbl (ps:Array Qp)
  | ext (φ:(Qs->Prop)->Qu->Prop)

abbrev Hp:=Qs->Option HO
def upd (H:Hp) (a:Qs) (o:HO):Hp:=fun b=>if b=a then some o else H b
theorem aM {H:Hp} {a:Qs} {o:HO}:upd H a o a=some o:=by unfold upd; rw [if_pos rfl]
theorem aD {H:Hp} {a b:Qs} {o:HO} (h:b≠a):upd H a o b=H b:=by unfold upd; rw [if_neg h]
theorem B7 {H:Hp} {a b:Qs} {o u:HO} (h:H a=some o) (h':H b=some u) (d:o≠u):a≠b:=by
 intro e; subst e; rw [h] at h'; exact d (Option.some.inj h')
theorem aU {H:Hp} {a b:Qs} {o:HO} (h:H a=some o) (h':H b=none):a≠b:=by
 intro e; subst e; rw [h] at h'; cases h'

section
variable (P:Qr) (w:Qq)
def cx (H:Hp) (h:Qu) (a:Qs):HO->Prop
 | .lst xs=>xs.length<=Qv/\∃ (its:List Qp) (n:Nat),Vals xs its/\h.get? a=some { cls:=.type "list",data:=.seq its.toArray n }
 | .tup xs=>xs.length<=Qv/\∃ its:List Qp,Vals xs its/\Qw h a its.toArray
 | .dK kvs=>kvs.length<=Qv/\(a==sysModules)=false/\∃ vs,KV kvs vs/\h.DictOf (bV P w) a vs
 | .dT kvs=>kvs.length<=Qv/\(a==sysModules)=false/\∃ xs:List (List Key×Qs×Qp),
   Qt (fun (p:List Key×V) (q:List Key×Qs×Qp)=>p.1=q.1/\H q.2.1=some (.tup (p.1.map kV))/\RelV p.2 q.2.2) kvs xs /\
   ∃ o es ep,h.get? a=some o/\o.ExactDict/\o.data=.dict es ep/\es.toList=xs.map (entryOfKey (tupleKind (bV P w)))/\(xs.map (·.1)).Nodup
 | .set S n=>h.SetOf (intKind P w) a S n
 | .ins C dx fs=>H dx=some (.own a)/\fs.length<=1000/\dx≠a/\h.get? a=some (O8 C dx) /\
   ∃ mA,h.Ns1 dx mA/\(∀ f,rB (fs.lookup f) (mA f))/\PySem.Within mA (fs.map (·.1))
 | .own _=>∃ o,h.get? a=some o
 | .xd fs=>∃ mA,h.Ns1 a mA/\∀ f,rB (fs.lookup f) (mA f)
 | .rng lo hi=>∃ t u v,h.get? a=some { cls:=.type "range",data:=.fields #[.int lo t,.int hi u,.int 1 v] }
 | .frz o u=>h.get? a=some o/\cx H h a u
 | .tbl ps=>h.get? a=some { cls:=.none,data:=.fields ps }
 | .met f x=>h.get? a=some (O9 (.ref f) (.ref x))
 | .ext φ=>φ (fun b=>H b=some (.own a)) h/\(∃ o,h.get? a=some o)/\∀ (S1 S2:Qs->Prop) (h1 h2:Qu),φ S1 h1->(∀ b,S1 b->S2 b)->(∀ b o,(b=a\/S1 b)->h1.get? b=some o->h2.get? b=some o)->φ S2 h2
def ox (H:Hp) (h:Qu):Prop:=∀ a o,H a=some o->cx P w H h a o
end

section
variable {P:Qr} {w:Qq} {H H':Hp} {h h':Qu} {a:Qs} {o:HO}
theorem cx.lt (x:cx P w H h a o):a < h.objs.size:=by
 cases o with
 | lst xs=>obtain⟨_,_,_,_,e⟩:=x; exact PQ e
 | tup xs=>obtain⟨_,_,_,p⟩:=x; exact p.lt
 | dK kvs=>obtain⟨_,_,_,_,o,_,_,e,_⟩:=x; exact PQ e
 | dT kvs=>obtain⟨_,_,_,_,o,_,_,e,_⟩:=x; exact PQ e
 | set S n=>obtain⟨o,_,_,_,e,_⟩:=x; exact PQ e
 | ins C dx fs=>obtain⟨_,_,_,e,_⟩:=x; exact PQ e
 | own y=>obtain⟨_,e⟩:=x; exact PQ e
 | xd fs=>obtain⟨_,⟨_,_,_,e,_⟩,_⟩:=x; exact PQ e
 | rng lo hi=>obtain⟨_,_,_,e⟩:=x; exact PQ e
 | frz ob u=>obtain⟨e,_⟩:=x; exact PQ e
 | tbl ps=>exact PQ (show h.get? a=some _ from x)
 | met f y=>exact PQ (show h.get? a=some _ from x)
 | ext φ=>obtain⟨_,⟨_,e⟩,_⟩:=x; exact PQ e
theorem Paired.mapP {α β:Type} {F G:α->β->Prop}:∀ {l₁:List α} {l₂:List β},Qt F l₁ l₂->(∀ a b,F a b->G a b)->Qt G l₁ l₂
 | _,_,.nil,_=>.nil
 | _,_,.cons r t,f=>.cons (f _ _ r) (Paired.mapP t f)
theorem cx.stay (x:cx P w H h a o) (k:∀ b u,(b=a\/H b=some (.own a))->h.get? b=some u->h'.get? b=some u)
  (ho:∀ b,H b=some (.own a)->H' b=some (.own a)) (ht:∀ b xs,H b=some (.tup xs)->H' b=some (.tup xs)):cx P w H' h' a o:=by
 induction o with
 | lst xs=>obtain⟨z,its,n,r,e⟩:=x; exact⟨z,its,n,r,k _ _ (.inl rfl) e⟩
 | tup xs=>obtain⟨z,its,r,ob,e,c⟩:=x; exact⟨z,its,r,ob,k _ _ (.inl rfl) e,c⟩
 | dK kvs=>obtain⟨z,y,vs,r,ob,es,ep,e,c⟩:=x; exact⟨z,y,vs,r,ob,es,ep,k _ _ (.inl rfl) e,c⟩
 | dT kvs =>
  obtain⟨z,y,xs,r,ob,es,ep,e,c⟩:=x
  exact⟨z,y,xs,Paired.mapP r fun p q z=>⟨z.1,ht _ _ z.2.1,z.2.2⟩,ob,es,ep,k _ _ (.inl rfl) e,c⟩
 | set S n=>obtain⟨ob,es,ep,t,e,c⟩:=x; exact⟨ob,es,ep,t,k _ _ (.inl rfl) e,c⟩
 | ins C dx fs =>
  obtain⟨d,z,ne,e,mA,⟨od,es,ep,e2,c⟩,r⟩:=x
  exact⟨ho _ d,z,ne,k _ _ (.inl rfl) e,mA,⟨od,es,ep,k _ _ (.inr d) e2,c⟩,r⟩
 | own y=>obtain⟨ob,e⟩:=x; exact⟨ob,k _ _ (.inl rfl) e⟩
 | xd fs=>obtain⟨mA,⟨od,es,ep,e,c⟩,r⟩:=x; exact⟨mA,⟨od,es,ep,k _ _ (.inl rfl) e,c⟩,r⟩
 | rng lo hi=>obtain⟨t,u,v,e⟩:=x; exact⟨t,u,v,k _ _ (.inl rfl) e⟩
 | frz ob u ih=>obtain⟨e,q⟩:=x; exact⟨k _ _ (.inl rfl) e,ih q⟩
 | tbl ps =>
  have e:h.get? a=some { cls:=.none,data:=.fields ps }:=x
  show h'.get? a=some { cls:=.none,data:=.fields ps }
  exact k a _ (.inl rfl) e
 | met f y =>
  have e:h.get? a=some (O9 (.ref f) (.ref y)):=x
  show h'.get? a=some (O9 (.ref f) (.ref y))
  exact k a _ (.inl rfl) e
 | ext φ=>obtain⟨p,⟨o,e⟩,st⟩:=x; exact⟨st _ _ _ _ p ho k,⟨o,k _ _ (.inl rfl) e⟩,st⟩
theorem ox.lt (x:ox P w H h) (e:H a=some o):a < h.objs.size:=(x a o e).lt
theorem ox.fresh (x:ox P w H h) (e:h.objs.size<=a):H a=none:=by
 cases q:H a with
 | none=>rfl
 | some u=>exact absurd (Mo (x.lt q) e) (Mp _)
theorem ox.kept (x:ox P w H h) (k:∀ b u,h.get? b=some u->h'.get? b=some u):ox P w H h':=fun a o e =>
 (x a o e).stay (fun b u _ q=>k b u q) (fun _ q=>q) fun _ _ q=>q
theorem ox.laid (x:ox P w H h) (k:∀ b u,h.get? b=some u->h'.get? b=some u) (hp:h.objs.size<=a) (new:cx P w (upd H a o) h' a o):ox P w (upd H a o) h':=fun b u e=>by
 have hn:=x.fresh hp
 by_cases hb:b=a
 ·subst hb; rw [aM] at e; cases e; exact new
 ·rw [aD hb] at e
  exact(x b u e).stay (fun c v _ q=>k c v q) (fun c q=>by rw [aD (aU q hn)]; exact q) fun c xs q=>by rw [aD (aU q hn)]; exact q
end

def Rd (H:Hp) (a:Qs) (u:HO):Prop:=H a=some u\/∃ o,H a=some (.frz o u)
theorem Rd.ok {P:Qr} {w:Qq} {H:Hp} {h:Qu} {a:Qs} {u:HO} (r:Rd H a u) (x:ox P w H h):cx P w H h a u:=by
 rcases r with r | ⟨o,r⟩
 ·exact x a u r
 ·obtain⟨_,q⟩:=x a _ r
  exact q
def IE:Option HO->Prop
 | some (.lst _)=>True
 | some (.dK _)=>True
 | some (.dT _)=>True
 | some (.set _ _)=>True
 | some (.ins _ _ _)=>True
 | some (.ext _)=>True
 | _=>False
section
variable {P:Qr} {w:Qq} {H:Hp} {h h':Qu} {x e:Qs} {o':HO}
theorem ox.write (ok:ox P w H h) (mu:IE (H x)) (he:e=x\/H e=some (.own x)) (k:∀ b u,b≠e->h.get? b=some u->h'.get? b=some u) (heo:∃ u,h'.get? e=some u)
  (new:cx P w (upd H x o') h' x o'):ox P w (upd H x o') h':=fun b u q=>by
 have nown:∀ c y,H c=some (.own y)->c≠x:=fun c y r z=>by subst z; rw [r] at mu; exact mu
 have ntup:∀ c xs,H c=some (.tup xs)->c≠x:=fun c xs r z=>by subst z; rw [r] at mu; exact mu
 by_cases hb:b=x
 ·subst hb; rw [aM] at q; cases q; exact new
 ·rw [aD hb] at q
  by_cases hbe:b=e
  ·have q':H b=some (.own x):=by
    rcases he with z | z
    ·exact absurd (hbe.trans z) hb
    ·rw [hbe]; exact z
   rw [q] at q'; cases q'
   obtain⟨v,hv⟩:=heo
   exact⟨v,by rw [hbe]; exact hv⟩
  ·refine(ok b u q).stay (fun c v hc r=>k c v ?_ r) (fun c r=>by rw [aD (nown c b r)]; exact r) fun c xs r=>by rw [aD (ntup c xs r)]; exact r
   rcases hc with rfl | hc
   ·exact hbe
   ·rintro rfl
    rcases he with z | z
    ·exact nown c b hc z
    ·rw [hc] at z; cases z; exact hb rfl
end

structure Un (fs ex:List Qs) (H H':Hp) (h h':Qu):Prop where
 keep:∀ b o,h.get? b=some o->H b=none->b∉fs->b∉ex->h'.get? b=some o
 slot:∀ b o,h.get? b=some o->H b=none->b∈fs->b∉ex->∃ sl,h'.get? b=some { o with slots:=sl }
 free:∀ b o,h.get? b=some o->H b=none->b∉ex->H' b=none
 there:∀ b o,h.get? b=some o->b∉ex->∃ o',h'.get? b=some o'
 tups:∀ b xs,H b=some (.tup xs)->H' b=some (.tup xs)
 frzs:∀ b o u,H b=some (.frz o u)->H' b=some (.frz o u)
 tbls:∀ b ps,H b=some (.tbl ps)->∃ more,H' b=some (.tbl (ps++more))
section
variable {fs fs' ex ex':List Qs} {H H1 H2:Hp} {h h1 h2 h':Qu} {a x e:Qs} {o:HO}
theorem Un.any (u:Un fs ex H H1 h h1) {b:Qs} {ob:Obj} (q:h.get? b=some ob) (n:H b=none) (hx:b∉ex):∃ sl,h1.get? b=some { ob with slots:=sl }:=by
 by_cases hb:b∈fs
 ·exact u.slot b ob q n hb hx
 ·exact⟨ob.slots,u.keep b ob q n hb hx⟩
theorem Un.kept (k:∀ b u,h.get? b=some u->h'.get? b=some u):Un fs ex H H h h' :=
 ⟨fun b ob q _ _ _=>k b ob q,fun b ob q _ _ _=>⟨ob.slots,k b ob q⟩,fun _ _ _ n _=>n,fun b ob q _=>⟨ob,k b ob q⟩,fun _ _ q=>q,fun _ _ _ q=>q,fun _ ps q=>⟨#[],by rw [q]; simp⟩⟩
theorem Un.refl:Un fs ex H H h h:=Un.kept fun _ _ q=>q
theorem Un.laid (k:∀ b u,h.get? b=some u->h'.get? b=some u) (hp:h.objs.size<=a) (hn:H a=none):Un fs ex H (upd H a o) h h' where
 keep:=fun b u q _ _ _=>k b u q
 slot:=fun b u q _ _ _=>⟨u.slots,k b u q⟩
 free:=fun b u q n _=>by rw [aD (Mq (Mo (PQ q) hp))]; exact n
 there:=fun b u q _=>⟨u,k b u q⟩
 tups:=fun b xs q=>by rw [aD (aU q hn)]; exact q
 frzs:=fun b u xs q=>by rw [aD (aU q hn)]; exact q
 tbls:=fun b ps q=>⟨#[],by rw [aD (aU q hn),q]; simp⟩
theorem Un.write (mu:IE (H x)) (he:e=x\/H e=some (.own x)) (k:∀ b u,b≠e->h.get? b=some u->h'.get? b=some u) (heo:∃ u,h'.get? e=some u):Un fs ex H (upd H x o) h h':=by
 have hx:∀ b,H b=none->b≠x:=fun b n z=>by subst z; rw [n] at mu; exact mu
 have hb:∀ b,H b=none->b≠e:=fun b n z=>by
  subst z
  rcases he with r | r
  ·exact hx b n r
  ·rw [n] at r; cases r
 have hm:∀ b u,H b=some u->¬ IE (some u)->b≠x:=fun b u q nm z=>by subst z; rw [q] at mu; exact nm mu
 refine⟨fun b u q n _ _=>k b u (hb b n) q,fun b u q n _ _=>⟨u.slots,k b u (hb b n) q⟩,fun b u q n _=>by rw [aD (hx b n)]; exact n,fun b u q _=>?_,
  fun b xs q=>by rw [aD (hm b _ q fun z=>z)]; exact q,fun b u xs q=>by rw [aD (hm b _ q fun z=>z)]; exact q,fun b ps q=>⟨#[],by rw [aD (hm b _ q fun z=>z),q]; simp⟩⟩
 by_cases hbe:b=e
 ·subst hbe; exact heo
 ·exact⟨u,k b u hbe q⟩
end

def Jw (h:Qu) (H:Hp):List Qs:=(List.range h.objs.size).filter fun a=>(H a).isSome
def vy (h:Qu) (H:Hp):Qu:=PySem.W.hideAll h (Jw h H)
theorem zN (h:Qu) (H:Hp):(vy h H).objs.size=h.objs.size:=PySem.W.hideAll_size _ _
theorem qS {h:Qu} {H:Hp} {b:Qs} {o:Obj} (e:h.get? b=some o) (n:H b=none):(vy h H).get? b=some o :=
 PySem.W.hideAll_get _ e fun hm=>by
  have q:(H b).isSome=true:=(List.mem_filter.mp hm).2
  rw [n] at q; simp at q
theorem El {h:Qu} {H:Hp} {b:Qs} {o:Obj} (e:(vy h H).get? b=some o):h.get? b=some o/\H b=none:=by
 have e':h.get? b=some o:=PySem.W.of_hideAll (Jw h H) e
 refine⟨e',?_⟩
 cases q:H b with
 | none=>rfl
 | some x =>
  have hm:b∈Jw h H:=List.mem_filter.mpr ⟨List.mem_range.mpr (PQ e'),by simp [q]⟩
  have z:(vy h H).get? b=none:=PySem.W.hideAll_none (Jw h H) hm
  rw [z] at e; cases e

def EI (g h:Qu) (L:Qs):List (Qs×Obj):=(List.range h.objs.size).filterMap fun a=>if a=L\/(g.get? a).isSome=true then none else (h.get? a).map fun o=>(a,o)
def rest (g h:Qu) (L d:Qs):List (Qs×Obj):=(EI g h L).filter fun p=>decide (p.1≠d)
end L2

namespace L2
open PySem PySem.Spec PyProof.Rows

structure Mod (K:Pa) (mg:Str->Option Qp) (base:Qu):Prop where
 kin:K.In base
 glob:base.Ns Qx mg
 blt:∃ mb,base.Ns Qy mb/\∀ x:Str,x ≠ "__name__"->mb x=Qz x
 nolimit:base.NoLimit

structure Cx where
 prog:Qr
 w:Qq
 K:Pa
 mg:Str->Option Qp
 base:Qu
 A:QA
 N:List Str
 s₀:QB
 H₀:Hp
 env:Env
 outer:List Env
 stack:List Env
 ex:List Qs
 fn:Str->Bool
 calm:Bool
 pn:List (Qs×Obj)
 xe:Qp->QB->Prop
def frs (l:List Env):List Qs:=l.filterMap (·.frame)
abbrev Cx.fs (X:Cx):List Qs:=frs X.outer

def Gn (sc:QC) (x:Str):Prop:=sc.names.lookup x=some .local\/sc.names.lookup x=some .cell\/sc.names.lookup x=some .free
def Loc (sc:QC) (x:Str):Prop:=sc.names.lookup x=some .local\/sc.names.lookup x=some .cell
def Look (env:Env) (h:Qu) (m:Str->Option Qp) (x:Str) (u:Qp):Prop :=
 (env.kindOf x=some .local/\m x=some u)\/((env.kindOf x=some .cell\/env.kindOf x=some .free)/\∃ c,env.cells.lookup x=some c/\h.IsCell c (some u))

structure Cx.Ok (X:Cx):Prop where
 mod:Mod X.K X.mg X.base
 kind:X.env.scope.kind=.function
 glob:X.env.globals=Qx
 blt:X.env.builtins=Qy
 above:X.s₀.heap.objs.size<=X.env.locals
 inj:∀ x y c,X.env.cells.lookup x=some c->X.env.cells.lookup y=some c->x=y
 has:∀ x,(X.env.kindOf x=some .cell\/X.env.kindOf x=some .free)->∃ c,X.env.cells.lookup x=some c
 cab:∀ x c,X.fn x=true->X.env.cells.lookup x=some c->X.s₀.heap.objs.size<=c
 hd:X.calm=true->X.A.handled=none
 frames:X.A.frames=some X.stack
 stk:X.stack=X.outer\/(X.stack=X.env::X.outer/\X.env.frame=some X.env.locals)
 exf:∀ b∈X.ex,b≠X.env.locals/\∀ x c,X.env.cells.lookup x=some c->c≠b
 bs:∀ b o,X.base.get? b=some o->X.s₀.heap.get? b=some o/\X.H₀ b=none
 bsz:X.base.objs.size<=X.s₀.heap.objs.size
 noex:∀ b o,X.base.get? b=some o->b∉X.ex
 exfs:∀ b∈X.ex,b∉X.fs
 funs:X.s₀.heap.FunFrames X.base X.outer
 frf:∀ b∈X.fs,X.H₀ b=none

structure Inv (X:Cx) (pins:List (Qs×Obj)) (σ:List (Option V)) (H:Hp) (s:QB):Prop where
 ok:X.Ok
 os:s.os=X.s₀.os
 bare:AllBare s.gens
 base:Un X.fs X.ex X.H₀ H X.s₀.heap s.heap
 loc:∃ m,s.heap.Ns X.env.locals m/\∀ (i:Nat) (x:Str) (v:V),X.N[i]?=some x->σ[i]?=some (some v)->Gn X.env.scope x->∃ u,RelV v u/\Look X.env s.heap m x u
 cell:∀ x c,X.env.cells.lookup x=some c->∃ v,s.heap.IsCell c v
 free:H X.env.locals=none
 freeC:∀ x c,X.env.cells.lookup x=some c->H c=none
 pin:∀ p∈X.pn++pins,s.heap.get? p.1=some p.2/\H p.1=none/\p.1≠X.env.locals/\p.1∉X.fs/\∀ v,p.2.data≠.cell v
 hok:ox X.prog X.w H s.heap
 len:σ.length=X.N.length

section
variable {X:Cx} {pins:List (Qs×Obj)} {σ:List (Option V)} {H H':Hp} {s:QB} {h':Qu}

theorem Cx.Ok.nofr (ok:X.Ok) {b:Qs} {o:Obj} (e:X.base.get? b=some o):b∉X.fs:=fun hb=>by
 have:=(ok.funs.mem hb).1
 rw [e] at this; cases this
theorem Inv.bs (I:Inv X pins σ H s):∀ b o,X.base.get? b=some o->s.heap.get? b=some o/\H b=none:=fun b o e =>
 ⟨I.base.keep b o (I.ok.bs b o e).1 (I.ok.bs b o e).2 (I.ok.nofr e) (I.ok.noex b o e),I.base.free b o (I.ok.bs b o e).1 (I.ok.bs b o e).2 (I.ok.noex b o e)⟩
theorem Inv.bk (I:Inv X pins σ H s):∀ b o,X.base.get? b=some o->s.heap.get? b=some o:=fun b o e=>(I.bs b o e).1
theorem Inv.mod (I:Inv X pins σ H s):Mod X.K X.mg X.base:=I.ok.mod
theorem Inv.kIn (I:Inv X pins σ H s):X.K.In s.heap:=I.ok.mod.kin.keeps I.bk
theorem Inv.nolimit (I:Inv X pins σ H s):s.heap.NoLimit:=I.ok.mod.nolimit.keeps I.bk
theorem Inv.lt (I:Inv X pins σ H s):X.env.locals < s.heap.objs.size:=let ⟨_,hn,_⟩:=I.loc; hn.lt
theorem Inv.sz (I:Inv X pins σ H s):X.s₀.heap.objs.size<=s.heap.objs.size:=Mr I.ok.above (Ms I.lt)
theorem Inv.nofs (I:Inv X pins σ H s) {a:Qs} (h:s.heap.objs.size<=a):a∉X.fs:=fun hb=>by
 obtain⟨_,o,ho,_⟩:=I.ok.funs.mem hb
 exact absurd (Mo (PQ ho) (Mr I.sz h)) (Mp _)
theorem Inv.cne (I:Inv X pins σ H s):∀ x c,X.env.cells.lookup x=some c->c≠X.env.locals:=fun x c e z=>by
 obtain⟨v,o,ho,hd⟩:=I.cell x c e
 obtain⟨m,⟨o',es,ep,ho',hd',_⟩,_⟩:=I.loc
 rw [z,ho'] at ho; cases ho; rw [hd'] at hd; cases hd
theorem Inv.funs (I:Inv X pins σ H s):s.heap.FunFrames X.base X.outer:=by
 have all:∀ (l:List Env),(∀ b∈frs l,b∈X.fs)->X.s₀.heap.FunFrames X.base l->s.heap.FunFrames X.base l:=by
  intro l
  induction l with
  | nil=>intro _ _; trivial
  | cons env r ih =>
   intro hs hl
   obtain⟨hk,⟨L,o,hf,hn,ho,hd⟩,hr⟩:=hl
   have hL:L∈X.fs:=hs L (by unfold frs; rw [Mt,hf]; exact Mu)
   obtain⟨sl,e⟩:=I.base.slot L o ho (I.ok.frf L hL) hL fun z=>I.ok.exfs L z hL
   exact⟨hk,⟨L,_,hf,hn,e,hd⟩,ih (fun b hb=>hs b (by unfold frs; rw [Mt,hf]; exact Mv _ hb)) hr⟩
 exact all X.outer (fun _ hb=>hb) I.ok.funs

theorem Inv.stack (I:Inv X pins σ H s):s.heap.FunFrames X.base X.stack:=by
 rcases I.ok.stk with e | ⟨e,hf⟩
 ·rw [e]; exact I.funs
 ·rw [e]
  obtain⟨m,hn,_⟩:=I.loc
  refine .cons (by rw [I.ok.kind]; decide) hf hn ?_ I.funs
  exact PR (Mr I.ok.bsz I.ok.above)
theorem Inv.stkSub (I:Inv X pins σ H s):∀ b∈frs X.stack,b∈X.env.locals::X.fs:=fun b hb=>by
 rcases I.ok.stk with e | ⟨e,hf⟩
 ·rw [e] at hb; exact Mv _ hb
 ·rw [e] at hb
  unfold frs at hb
  rw [Mt,hf] at hb
  exact hb
theorem Inv.stkFree (I:Inv X pins σ H s):∀ b∈frs X.stack,H b=none:=fun b hb=>by
 rcases List.mem_cons.mp (I.stkSub b hb) with e | hb
 ·rw [e]; exact I.free
 ·obtain⟨_,o,ho,_⟩:=I.ok.funs.mem hb
  exact I.base.free b o ho (I.ok.frf b hb) fun z=>I.ok.exfs b z hb

theorem Inv.step {g':Array GenState} {t':Nat} {d':Drawn} {ch:List Qs} (I:Inv X pins σ H s)
  (hch:∀ b∈ch,(b∈X.ex\/X.s₀.heap.objs.size<=b)/\b≠X.env.locals/\(∀ x c,X.env.cells.lookup x=some c->c≠b)/\∀ p∈X.pn++pins,p.1≠b)
  (keep:∀ b o,b≠X.env.locals->b∉X.fs->b∉ch->s.heap.get? b=some o->H b=none->h'.get? b=some o)
  (slot:∀ b o,b≠X.env.locals->b∈X.fs->b∉ch->s.heap.get? b=some o->H b=none->∃ sl,h'.get? b=some { o with slots:=sl }) (free:∀ b o,b∉ch->s.heap.get? b=some o->H b=none->H' b=none)
  (there:∀ b o,b∉ch->s.heap.get? b=some o->∃ o',h'.get? b=some o')
  (tups:∀ b xs,H b=some (.tup xs)->H' b=some (.tup xs)) (frzs:∀ b o u,H b=some (.frz o u)->H' b=some (.frz o u)) (tbls:∀ b ps,H b=some (.tbl ps)->∃ more,H' b=some (.tbl (ps++more)))
  (ns:∀ m,s.heap.Ns X.env.locals m->h'.Ns X.env.locals m) (hok:ox X.prog X.w H' h') (hg:AllBare g') :
  Inv X pins σ H' { s with heap:=h',gens:=g',drawn:=d',toks:=t' }:=by
 have neL:∀ b o,X.s₀.heap.get? b=some o->b≠X.env.locals:=fun b o e=>Mq (Mo (PQ e) I.ok.above)
 have neC:∀ b o,X.s₀.heap.get? b=some o->b∉X.ex->b∉ch:=fun b o e hx hb=>by
  rcases(hch b hb).1 with z | z
  ·exact hx z
  ·exact absurd (Mo (PQ e) z) (Mp _)
 have cellK:∀ x c,X.env.cells.lookup x=some c->∀ v,s.heap.IsCell c v->h'.IsCell c v:=fun x c e v ⟨o,ho,hd⟩=>by
  have nch:c∉ch:=fun z=>(hch c z).2.2.1 x c e rfl
  by_cases hc:c∈X.fs
  ·obtain⟨sl,q⟩:=slot c o (I.cne x c e) hc nch ho (I.freeC x c e)
   exact⟨_,q,hd⟩
  ·exact⟨o,keep c o (I.cne x c e) hc nch ho (I.freeC x c e),hd⟩
 refine⟨I.ok,I.os,hg,⟨fun b o e n hb hx=>?_,fun b o e n hb hx=>?_,fun b o e n hx=>?_,fun b o e hx=>?_,fun b xs e=>tups b xs (I.base.tups b xs e),fun b o xs e=>frzs b o xs (I.base.frzs b o xs e),fun b ps e=>?_⟩,?_,fun x c e=>?_,?_,fun x c e=>?_,fun p hp=>?_,hok,I.len⟩
 ·exact keep b o (neL b o e) hb (neC b o e hx) (I.base.keep b o e n hb hx) (I.base.free b o e n hx)
 ·obtain⟨sl,e1⟩:=I.base.slot b o e n hb hx
  obtain⟨sl',e2⟩:=slot b _ (neL b o e) hb (neC b o e hx) e1 (I.base.free b o e n hx)
  exact⟨sl',e2⟩
 ·obtain⟨o',e1⟩:=I.base.there b o e hx
  exact free b o' (neC b o e hx) e1 (I.base.free b o e n hx)
 ·obtain⟨o',e1⟩:=I.base.there b o e hx
  exact there b o' (neC b o e hx) e1
 ·obtain⟨m1,e1⟩:=I.base.tbls b ps e
  obtain⟨m2,e2⟩:=tbls b _ e1
  exact⟨m1++m2,by rw [e2,Array.append_assoc]⟩
 ·obtain⟨m,hn,hl⟩:=I.loc
  refine⟨m,ns m hn,fun i x v e1 e2 e3=>?_⟩
  obtain⟨u,r,l⟩:=hl i x v e1 e2 e3
  refine⟨u,r,?_⟩
  rcases l with l | ⟨k,c,e,z⟩
  ·exact .inl l
  ·exact .inr ⟨k,c,e,cellK x c e _ z⟩
 ·obtain⟨v,z⟩:=I.cell x c e
  exact⟨v,cellK x c e v z⟩
 ·obtain⟨m,⟨o,_,_,ho,_⟩,_⟩:=I.loc
  exact free _ o (fun z=>(hch _ z).2.1 rfl) ho I.free
 ·obtain⟨v,o,ho,hd⟩:=I.cell x c e
  exact free c o (fun z=>(hch c z).2.2.1 x c e rfl) ho (I.freeC x c e)
 ·obtain⟨e,n,ne,nf,d⟩:=I.pin p hp
  have nch:p.1∉ch:=fun z=>(hch p.1 z).2.2.2 p hp rfl
  exact⟨keep p.1 p.2 ne nf nch e n,free p.1 p.2 nch e n,ne,nf,d⟩
theorem Inv.un {t':Nat} (I:Inv X pins σ H s) (u:Un X.fs [] H H' s.heap h') (hok:ox X.prog X.w H' h'):Inv X pins σ H' { s with heap:=h',toks:=t' }:=by
 obtain⟨m,⟨o,es,ep,ho,r⟩,_⟩:=id I.loc
 obtain⟨sl,hL⟩:=u.any ho I.free (by simp)
 exact I.step (g':=s.gens) (d':=s.drawn) (ch:=[]) (fun _ z=>nomatch z) (fun b o _ hb _ e n=>u.keep b o e n hb (by simp)) (fun b o _ hb _ e n=>u.slot b o e n hb (by simp)) (fun b o _ e n=>u.free b o e n (by simp)) (fun b o _ e=>u.there b o e (by simp)) u.tups u.frzs u.tbls (fun m' hm=>by
  obtain⟨o',es',ep',ho',r'⟩:=hm
  rw [ho] at ho'; cases ho'
  exact⟨_,es',ep',hL,r'⟩) hok I.bare
theorem Inv.call {g':Array GenState} {t':Nat} {d':Drawn} {ch:List Qs} (I:Inv X pins σ H s) (u:Un (frs X.stack) ch H H' s.heap h') (hok:ox X.prog X.w H' h') (hg:AllBare g')
  (hch:∀ b∈ch,(b∈X.ex\/X.s₀.heap.objs.size<=b)/\b≠X.env.locals/\(∀ x c,X.env.cells.lookup x=some c->c≠b)/\∀ p∈X.pn++pins,p.1≠b) :
  Inv X pins σ H' { s with heap:=h',gens:=g',drawn:=d',toks:=t' }:=by
 obtain⟨m,⟨o,es,ep,ho,r⟩,_⟩:=id I.loc
 obtain⟨sl,hL⟩:=u.any ho I.free fun z=>(hch _ z).2.1 rfl
 exact I.step (ch:=ch) hch (fun b o hL hb hc e n=>u.keep b o e n (fun z=>(List.mem_cons.mp (I.stkSub b z)).elim hL hb) hc) (fun b o _ _ hc e n=>u.any e n hc) (fun b o hc e n=>u.free b o e n hc) (fun b o hc e=>u.there b o e hc) u.tups u.frzs u.tbls (fun m' hm=>by
  obtain⟨o',es',ep',ho',r'⟩:=hm
  rw [ho] at ho'; cases ho'
  exact⟨_,es',ep',hL,r'⟩) hok hg
theorem Inv.turned {t':Nat} {it:Qs} (I:Inv X pins σ H s) (k:∀ b o,b≠it->s.heap.get? b=some o->h'.get? b=some o) (hn:H it=none) (hL:it≠X.env.locals)
  (h1:it∈X.ex\/X.s₀.heap.objs.size<=it) (h2:∀ x c,X.env.cells.lookup x=some c->c≠it) (h3:∀ p∈X.pn++pins,p.1≠it):Inv X pins σ H { s with heap:=h',toks:=t' }:=by
 have nit:∀ b u,H b=some u->b≠it:=fun b u e z=>by rw [z,hn] at e; cases e
 refine I.step (g':=s.gens) (d':=s.drawn) (ch:=[it]) (fun b hb=>?_) (fun b o _ _ hc e _=>k b o (fun z=>hc (by simp [z])) e) (fun b o _ _ hc e _=>⟨o.slots,k b o (fun z=>hc (by simp [z])) e⟩) (fun _ _ _ _ n=>n)
  (fun b o hc e=>⟨o,k b o (fun z=>hc (by simp [z])) e⟩) (fun _ _ e=>e) (fun _ _ _ e=>e) (fun b ps e=>⟨#[],by rw [e]; simp⟩) (fun m hm=>?_) (fun b u e=>?_) I.bare
 ·have e:b=it:=by simpa using hb
  subst e
  exact⟨h1,hL,h2,h3⟩
 ·obtain⟨o,es,ep,ho,r⟩:=hm
  exact⟨o,es,ep,k _ o (Ne.symm hL) ho,r⟩
 ·refine(I.hok b u e).stay (fun c v hc q=>k c v ?_ q) (fun _ q=>q) fun _ _ q=>q
  rcases hc with z | z
  ·rw [z]; exact nit b u e
  ·exact nit c _ z
theorem Inv.tok (I:Inv X pins σ H s) (t:Nat):Inv X pins σ H { s with toks:=t }:=I.un (h':=s.heap) (t':=t) Un.refl I.hok
theorem Inv.kept {t':Nat} (I:Inv X pins σ H s) (k:∀ b u,s.heap.get? b=some u->h'.get? b=some u):Inv X pins σ H { s with heap:=h',toks:=t' }:=I.un (Un.kept k) (I.hok.kept k)
theorem Inv.laid {a:Qs} {o:HO} {t':Nat} (I:Inv X pins σ H s) (k:∀ b u,s.heap.get? b=some u->h'.get? b=some u) (hp:s.heap.objs.size<=a) (new:cx X.prog X.w (upd H a o) h' a o) :
  Inv X pins σ (upd H a o) { s with heap:=h',toks:=t' }:=I.un (Un.laid k hp (I.hok.fresh hp)) (I.hok.laid k hp new)
theorem Inv.write {x e:Qs} {o:HO} {t':Nat} (I:Inv X pins σ H s) (mu:IE (H x)) (he:e=x\/H e=some (.own x)) (k:∀ b u,b≠e->s.heap.get? b=some u->h'.get? b=some u) (heo:∃ u,h'.get? e=some u)
  (new:cx X.prog X.w (upd H x o) h' x o):Inv X pins σ (upd H x o) { s with heap:=h',toks:=t' }:=I.un (Un.write mu he k heo) (I.hok.write mu he k heo new)
theorem Inv.pins_of {pins':List (Qs×Obj)} (I:Inv X pins σ H s) (h:∀ p∈pins',s.heap.get? p.1=some p.2/\H p.1=none/\p.1≠X.env.locals/\p.1∉X.fs/\∀ v,p.2.data≠.cell v):Inv X pins' σ H s :=
 ⟨I.ok,I.os,I.bare,I.base,I.loc,I.cell,I.free,I.freeC,fun p hp=>(List.mem_append.mp hp).elim (fun z=>I.pin p (Mw _ z)) (h p),I.hok,I.len⟩

theorem we {N:List Str} (hN:N.Nodup) {i j:Nat} {x:Str} (a:N[i]?=some x) (b:N[j]?=some x):i=j:=by
 obtain⟨h1,e1⟩:=List.getElem?_eq_some_iff.mp a
 obtain⟨h2,e2⟩:=List.getElem?_eq_some_iff.mp b
 exact(List.getElem_inj hN).mp (e1.trans e2.symm)

theorem uC {M:Model} {A:QA} {E:Qp->QB->Prop} {i:Nat} {x:Str} {v:V} {u:Qp} {Q:Unit->QB->Prop} (I:Inv X pins σ H s) (hN:X.N.Nodup) (hi:X.N[i]?=some x) (hx:Loc X.env.scope x) (r:RelV v u)
  (h:∀ s',Inv X pins (σ.set i (some v)) H s'->(∃ a,PV a s.heap s'.heap/\(a=X.env.locals\/X.env.cells.lookup x=some a))->Q () s') (hf:X.fn x=true\/X.env.scope.names.lookup x=some .local:=by first | exact .inl rfl | exact .inr rfl | assumption):QD M A (storeName X.env x u) Q E s:=by
 obtain⟨m,hn,hl⟩:=id I.loc
 have hcls:(X.env.scope.kind==.class || (X.env.scope.kind==.module && X.env.locals != X.env.globals))=false:=by rw [I.ok.kind]; rfl
 have hiσ:i < σ.length:=by rw [I.len]; exact(List.getElem?_eq_some_iff.mp hi).1
 have cne:=I.cne
 have tracked:∀ {a:Qs} {h':Qu},(∃ o,s.heap.get? a=some o/\H a=none)->PV a s.heap h'->ox X.prog X.w H h':=fun {a h'} ha hs b ob e=>by
  obtain⟨_,_,hfree⟩:=ha
  refine(I.hok b ob e).stay (fun c w' hc q=>(hs.2 c ?_).trans q) (fun _ q=>q) fun _ _ q=>q
  rintro rfl
  rcases hc with rfl | hc
  ·rw [hfree] at e; cases e
  ·rw [hfree] at hc; cases hc
 rcases hx with hk | hk
 ·refine wpAny_storeName_local hk hn (fun h' hn' hs=>?_) hcls
  obtain⟨oL,_,_,hoL,_⟩:=id hn
  refine h _ ⟨I.ok,I.os,I.bare,⟨fun b o e n hb hx=>?_,fun b o e n hb hx=>?_,I.base.free,fun b o e hx=>?_,I.base.tups,I.base.frzs,I.base.tbls⟩,⟨_,hn',fun j y v' e1 e2 e3=>?_⟩,fun y c e=>?_,I.free,I.freeC,fun p hp=>?_,tracked ⟨oL,hoL,I.free⟩ hs,by simpa using I.len⟩ ⟨_,hs,.inl rfl⟩
  ·exact(hs.2 b (Mq (Mo (PQ e) I.ok.above))).trans (I.base.keep b o e n hb hx)
  ·obtain⟨sl,e1⟩:=I.base.slot b o e n hb hx
   exact⟨sl,(hs.2 b (Mq (Mo (PQ e) I.ok.above))).trans e1⟩
  ·obtain⟨o',e1⟩:=I.base.there b o e hx
   exact⟨o',(hs.2 b (Mq (Mo (PQ e) I.ok.above))).trans e1⟩
  ·by_cases hj:j=i
   ·subst hj
    rw [hi] at e1; cases e1
    rw [Mx hiσ] at e2
    cases e2
    exact⟨u,r,.inl ⟨hk,by simp⟩⟩
   ·rw [My (Ne.symm hj)] at e2
    obtain⟨u',r',q⟩:=hl j y v' e1 e2 e3
    refine⟨u',r',?_⟩
    rcases q with ⟨k,e⟩ | ⟨k,c,e,z⟩
    ·refine .inl ⟨k,?_⟩
     have:y≠x:=fun e=>hj (we hN e1 (e ▸ hi))
     simp [this,e]
    ·exact .inr ⟨k,c,e,z.sameBut hs (cne y c e)⟩
  ·obtain⟨w',z⟩:=I.cell y c e
   exact⟨w',z.sameBut hs (cne y c e)⟩
  ·obtain⟨e,n,ne,nf,d⟩:=I.pin p hp
   exact⟨(hs.2 p.1 ne).trans e,n,ne,nf,d⟩
 ·have hfn:X.fn x=true:=by
   rcases hf with z | z
   ·exact z
   ·rw [z] at hk; cases hk
  obtain⟨c,hc⟩:=I.ok.has x (.inl hk)
  obtain⟨w',z⟩:=I.cell x c hc
  refine wpAny_storeName_cell I.ok.kind hk hc z (fun h' hc' hs=>?_)
  obtain⟨oc,hoc,hocd⟩:=id z
  refine h { s with heap:=h' } ⟨I.ok,I.os,I.bare,⟨fun b o e n hb hx=>?_,fun b o e n hb hx=>?_,I.base.free,fun b o e hx=>?_,I.base.tups,I.base.frzs,I.base.tbls⟩,⟨m,hn.sameBut hs (Ne.symm (cne x c hc)),fun j y v' e1 e2 e3=>?_⟩,fun y c' e=>?_,I.free,I.freeC,fun p hp=>?_,tracked ⟨oc,hoc,I.freeC x c hc⟩ hs,by simpa using I.len⟩ ⟨c,hs,.inr hc⟩
  ·exact(hs.2 b (Mq (Mo (PQ e) (I.ok.cab x c hfn hc)))).trans (I.base.keep b o e n hb hx)
  ·obtain⟨sl,e1⟩:=I.base.slot b o e n hb hx
   exact⟨sl,(hs.2 b (Mq (Mo (PQ e) (I.ok.cab x c hfn hc)))).trans e1⟩
  ·obtain⟨o',e1⟩:=I.base.there b o e hx
   exact⟨o',(hs.2 b (Mq (Mo (PQ e) (I.ok.cab x c hfn hc)))).trans e1⟩
  ·by_cases hj:j=i
   ·subst hj
    rw [hi] at e1; cases e1
    rw [Mx hiσ] at e2
    cases e2
    exact⟨u,r,.inr ⟨.inl hk,c,hc,hc'⟩⟩
   ·rw [My (Ne.symm hj)] at e2
    obtain⟨u',r',q⟩:=hl j y v' e1 e2 e3
    refine⟨u',r',?_⟩
    rcases q with q | ⟨k,c',e,z'⟩
    ·exact .inl q
    ·refine .inr ⟨k,c',e,z'.sameBut hs ?_⟩
     rintro rfl
     exact hj (we hN e1 (I.ok.inj _ _ _ e hc ▸ hi))
  ·by_cases hcc:c'=c
   ·subst hcc; exact⟨_,hc'⟩
   ·obtain⟨w2,z2⟩:=I.cell y c' e
    exact⟨w2,z2.sameBut hs hcc⟩
  ·obtain⟨e,n,ne,nf,d⟩:=I.pin p hp
   refine⟨(hs.2 p.1 ?_).trans e,n,ne,nf,d⟩
   intro q
   rw [q,hoc] at e
   have q':oc=p.2:=Option.some.inj e
   exact d w' (by rw [<- q']; exact hocd)
theorem wY {M:Model} {A:QA} {E:Qp->QB->Prop} {i:Nat} {x:Str} {v:V} {u:Qp} {Q:Unit->QB->Prop} (I:Inv X pins σ H s) (hN:X.N.Nodup) (hi:X.N[i]?=some x) (hx:Loc X.env.scope x) (r:RelV v u)
  (h:∀ s',Inv X pins (σ.set i (some v)) H s'->Q () s') (hf:X.fn x=true\/X.env.scope.names.lookup x=some .local:=by first | exact .inl rfl | exact .inr rfl | assumption):QD M A (storeName X.env x u) Q E s :=
 uC I hN hi hx r (fun s' I' _=>h s' I') hf
theorem Inv.call' {s':QB} {ch:List Qs} (I:Inv X pins σ H s) (ho:s'.os=s.os) (u:Un (frs X.stack) ch H H' s.heap s'.heap) (hok:ox X.prog X.w H' s'.heap) (hg:AllBare s'.gens)
  (hch:∀ b∈ch,(b∈X.ex\/X.s₀.heap.objs.size<=b)/\b≠X.env.locals/\(∀ x c,X.env.cells.lookup x=some c->c≠b)/\∀ p∈X.pn++pins,p.1≠b):Inv X pins σ H' s':=by
 obtain⟨h',g',d',t',o'⟩:=s'
 have e:o'=s.os:=ho
 subst e
 exact I.call (g':=g') (t':=t') (d':=d') u hok hg hch
end

abbrev XK:=Qp->Option Qs->Hp->Prop
abbrev St:=List (Option V)
abbrev VK:=V->Hp->Prop
abbrev TE:=St->Hp->VK->Prop
abbrev TT:=St->Hp->(Bool->Hp->Prop)->Prop
abbrev TA:=St->Hp->(List V->Hp->Prop)->Prop
structure Ends where
 nx:St->Hp->Prop
 rt:VK
 bk:St->Hp->Prop:=fun _ _=>False
 ct:St->Hp->Prop:=fun _ _=>False
abbrev TS:=Ends->St->Hp->Prop

def EP (X:Cx) (pins:List (Qs×Obj)) (σ:St) (Q:VK) (u:Qp) (s':QB):Prop:=∃ v H',Inv X pins σ H' s'/\RelV v u/\Q v H'
def TP (X:Cx) (pins:List (Qs×Obj)) (σ:St) (Q:Bool->Hp->Prop) (b:Bool) (s':QB):Prop:=∃ H',Inv X pins σ H' s'/\Q b H'
def AP (X:Cx) (pins:List (Qs×Obj)) (σ:St) (Q:List V->Hp->Prop) (us:List Qp) (s':QB):Prop:=∃ vs H',Inv X pins σ H' s'/\Vals vs us/\Q vs H'
def SP (X:Cx) (pins:List (Qs×Obj)) (D:Ends) (f:Flow) (s':QB):Prop :=
 match f with
 | .next=>∃ σ' H',Inv X pins σ' H' s'/\D.nx σ' H'
 | .brk=>∃ σ' H',Inv X pins σ' H' s'/\D.bk σ' H'
 | .cont=>∃ σ' H',Inv X pins σ' H' s'/\D.ct σ' H'
 | .ret u=>∃ v σ' H',Inv X pins σ' H' s'/\RelV v u/\D.rt v H'

def PE (X:Cx) (e:QE) (t:TE):Prop :=
 ∀ (pins:List (Qs×Obj)) (s:QB) (σ:St) (H:Hp) (Q:VK),Inv X pins σ H s->t σ H Q->QD (model X.prog X.w) X.A (eval e X.env) (EP X pins σ Q) X.xe s
def PT (X:Cx) (e:QE) (t:TT):Prop :=
 ∀ (pins:List (Qs×Obj)) (s:QB) (σ:St) (H:Hp) (Q:Bool->Hp->Prop),Inv X pins σ H s->t σ H Q->QD (model X.prog X.w) X.A (isTrue e X.env (eval e X.env)) (TP X pins σ Q) X.xe s
def PW (X:Cx) (e:QE) (t:TT):Prop :=
 ∀ (whole:Sem Qp) (pins:List (Qs×Obj)) (s:QB) (σ:St) (H:Hp) (Q:Bool->Hp->Prop),Inv X pins σ H s->t σ H Q->QD (model X.prog X.w) X.A (isTrue e X.env whole) (TP X pins σ Q) X.xe s
theorem PW.pt {X:Cx} {e:QE} {t:TT} (h:PW X e t):PT X e t:=h _
def PA (X:Cx) (es:List QE) (t:TA):Prop :=
 ∀ (pos:Pos) (pins:List (Qs×Obj)) (s:QB) (σ:St) (H:Hp) (Q:List V->Hp->Prop),Inv X pins σ H s->t σ H Q->QD (model X.prog X.w) X.A (spliced (backTo pos (QF es X.env))) (AP X pins σ Q) X.xe s
def PS (X:Cx) (st:QG) (t:TS):Prop :=
 ∀ (pins:List (Qs×Obj)) (s:QB) (σ:St) (H:Hp) (D:Ends),Inv X pins σ H s->t D σ H->QD (model X.prog X.w) X.A (exec st X.env) (SP X pins D) X.xe s
def xx (X:Cx) (st:List QG) (t:TS):Prop :=
 ∀ (pins:List (Qs×Obj)) (s:QB) (σ:St) (H:Hp) (D:Ends),Inv X pins σ H s->t D σ H->QD (model X.prog X.w) X.A (execs st X.env) (SP X pins D) X.xe s
theorem eK {α:Type} {t:Sem α} {Q Q':α->QB->Prop} {M:Model} {A:QA} {E:Qp->QB->Prop} {s:QB} (h:QD M A t Q E s) (hQ:∀ a s,Q a s->Q' a s):QD M A t Q' E s:=QH h hQ fun _ _ x=>x
end L2

namespace L2
open PySem PySem.Spec PyProof.Rows
section
variable {X:Cx}

def rL (i:Nat):TE:=fun σ H Q=>∃ v,σ[i]?=some (some v)/\Q v H
def tC (v:V):TE:=fun _ H Q=>Q v H
theorem Ga {i:Nat} {x:Str} {pos:Pos} (hN:X.N[i]?=some x) (hv:Gn X.env.scope x) (hd:(x==("__debug__":Str))=false:=by decide) (hcd:(x==("__classdict__":Str))=false:=by decide):PE X (.Name x pos) (rL i):=by
 intro pins s σ H Q I h
 obtain⟨v,e,h⟩:=h
 obtain⟨m,hn,hl⟩:=I.loc
 obtain⟨u,r,l⟩:=hl i x v hN e hv
 have fin:EP X pins σ Q u s:=⟨v,H,I,r,h⟩
 rcases l with ⟨hk,hm⟩ | ⟨hk,c,hc,hcell⟩
 ·exact QI (wpAny_loadName_local I.ok.kind hk hn hm fin) hd
 ·rcases hk with hk | hk
  ·exact QI (wpAny_loadName_cell I.ok.kind hk hc hcell fin) hd
  ·exact QI (wpAny_loadName_free I.ok.kind hk hc hcell fin hcd) hd
theorem Gp {i j pos}:PE X (.Constant (.int i) j pos) (tC (.int i)):=fun _ _ _ H _ I h=>wpAny_Constant_int ⟨.int i,H,I.tok _,⟨_,rfl⟩,h⟩
theorem HQ {b j pos}:PE X (.Constant (.bool b) j pos) (tC (.bl b)):=fun _ _ _ H _ I h=>Constant_bool ⟨.bl b,H,I,rfl,h⟩
theorem Gr {x j pos}:PE X (.Constant (.str x) j pos) (tC (.str x)):=fun _ _ _ H _ I h=>Calls.Constant_str ⟨.str x,H,I.tok _,⟨_,rfl⟩,h⟩

def Gl (X:Cx) (x:Str):Prop:=X.env.kindOf x=some .globalImplicit
theorem zi {E:Qp->QB->Prop} {pins:List (Qs×Obj)} {s:QB} {σ:St} {H:Hp} {x:Str} {u:Qp} {pos:Pos} {Q:Qp->QB->Prop} (I:Inv X pins σ H s) (hg:Gl X x) (hm:X.mg x=some u) (h:Q u s)
  (hd:(x==("__debug__":Str))=false:=by decide):QD (model X.prog X.w) X.A (eval (.Name x pos) X.env) Q E s :=
 Calls.Name_function_global I.ok.kind hg (Calls.loadGlobal_global (by rw [I.ok.glob]; exact I.mod.glob.keeps I.bk) hm h) hd
theorem lM {E:Qp->QB->Prop} {pins:List (Qs×Obj)} {s:QB} {σ:St} {H:Hp} {x:Str} {u:Qp} {pos:Pos} {Q:Qp->QB->Prop} (I:Inv X pins σ H s) (hg:Gl X x) (hm:X.mg x=none) (hv:Qz x=some u) (h:Q u s)
  (hn:x ≠ "__name__":=by decide) (hd:(x==("__debug__":Str))=false:=by decide):QD (model X.prog X.w) X.A (eval (.Name x pos) X.env) Q E s:=by
 obtain⟨mb,h1,h2⟩:=I.mod.blt
 exact Calls.Name_function_global I.ok.kind hg (Calls.loadGlobal_builtin (by rw [I.ok.glob]; exact I.mod.glob.keeps I.bk) hm (by rw [I.ok.blt]; exact h1.keeps I.bk) ((h2 x hn).trans hv) h) hd
theorem Eu {x:Str} {v:V} {u:Qp} {pos:Pos} (hg:Gl X x) (hm:X.mg x=none) (hv:Qz x=some u) (r:RelV v u) (hn:x ≠ "__name__":=by decide) (hd:(x==("__debug__":Str))=false:=by decide):PE X (.Name x pos) (tC v) :=
 fun _ _ _ H _ I h=>lM I hg hm hv ⟨v,H,I,r,h⟩ hn hd

variable {a b:QE} {ta tb:TE} {pos:Pos}
variable {tA tB':TT} {rest:List QE}
def Lv (t u:TT):TT:=fun σ H Q=>t σ H fun c H1=>if c=true then u σ H1 Q else Q false H1
def LZ (t u:TT):TT:=fun σ H Q=>t σ H fun c H1=>if c=true then Q true H1 else u σ H1 Q
def K2 (t:TT):TT:=fun σ H Q=>t σ H fun c H1=>Q (!c) H1
theorem Dq (ha:PT X a tA):PW X (.BoolOp .And [a] pos) tA:=by
 intro wh pins s σ H Q I h
 refine isTrue_and (eK (ha pins s σ H Q I h) fun c s1 e=>?_)
 cases c with
 | true=>exact isTrue_and_nil e
 | false=>exact e
theorem G7 (ha:PT X a tA):PW X (.BoolOp .Or [a] pos) tA:=by
 intro wh pins s σ H Q I h
 refine isTrue_or (eK (ha pins s σ H Q I h) fun c s1 e=>?_)
 cases c with
 | false=>exact isTrue_or_nil e
 | true=>exact e
theorem Fx (ha:PT X a tA) (hb:PW X (.BoolOp .And (b::rest) pos) tB'):PW X (.BoolOp .And (a::b::rest) pos) (Lv tA tB'):=by
 intro wh pins s σ H Q I h
 refine isTrue_and (eK (ha pins s σ H _ I h) fun c s1 ⟨H1,I1,q1⟩=>?_)
 cases c with
 | true=>exact hb wh pins s1 σ H1 Q I1 q1
 | false=>exact⟨H1,I1,q1⟩
theorem Iu (ha:PT X a tA) (hb:PW X (.BoolOp .Or (b::rest) pos) tB'):PW X (.BoolOp .Or (a::b::rest) pos) (LZ tA tB'):=by
 intro wh pins s σ H Q I h
 refine isTrue_or (eK (ha pins s σ H _ I h) fun c s1 ⟨H1,I1,q1⟩=>?_)
 cases c with
 | true=>exact⟨H1,I1,q1⟩
 | false=>exact hb wh pins s1 σ H1 Q I1 q1
theorem Gm (ha:PT X a tA):PT X (.UnaryOp .Not a pos) (K2 tA):=by
 intro pins s σ H Q I h
 exact isTrue_not (ha pins s σ H (fun c H1=>Q (!c) H1) I h)
def HD (ta tb:TE):TE:=fun σ H Q=>ta σ H fun x H1=>∃ c,x=.bl c/\if c=true then tb σ H1 Q else Q (.bl false) H1
theorem Hl {op} {t:TE} (h:PE X a t):PE X (.BoolOp op [a] pos) t:=fun pins s σ H Q I hw=>BoolOp_one (h pins s σ H Q I hw)
theorem Gk (ha:PE X a ta) (hb:PE X (.BoolOp .And (b::rest) pos) tb):PE X (.BoolOp .And (a::b::rest) pos) (HD ta tb):=by
 intro pins s σ H Q I h
 refine BoolOp_and (eK (ha pins s σ H _ I h) fun v s1 ⟨x,H1,I1,r1,q1⟩=>?_)
 obtain⟨c,rfl,q1⟩:=q1
 cases r1
 refine QJ ?_
 cases c with
 | true=>exact hb pins s1 σ H1 Q I1 q1
 | false=>exact⟨.bl false,H1,I1,rfl,q1⟩
end
end L2

namespace L2
open PySem PySem.Spec PyProof.Rows

def nV (K:Pa) (H:Hp) (a:Qs) (xs:List V):Prop :=
 Rd H a (.lst xs) \/
  ∃ (o:Obj) (its:Array Qp) (n:Nat),K.lookup a=some o/\o.cls=.type "list"/\o.dict=none/\o.data=.seq its n/\its.size<=Qv/\Vals xs its.toList
def oM (K:Pa) (H:Hp) (a:Qs) (xs:List V):Prop :=
 Rd H a (.tup xs) \/
  ∃ (o:Obj) (its:Array Qp) (n:Nat),K.lookup a=some o/\o.cls=.type "tuple"/\o.data=.seq its n/\its.size<=Qv/\Vals xs its.toList
def Lj:Qp->Option V
 | .none=>some .non
 | .bool b=>some (.bl b)
 | .int i _=>some (.int i)
 | .str x _=>some (.str x)
 | .bytes b _=>some (.byt b)
 | .float b _=>some (.flt b)
 | .ref a=>some (.ref a)
 | .type n=>some (.ty n)
 | _=>none
theorem RelV.abs {x:V} {u:Qp} (r:RelV x u):Lj u=some x:=by
 cases x with
 | non=>cases r; rfl
 | bl _=>cases r; rfl
 | int _=>obtain⟨t,rfl⟩:=r; rfl
 | str _=>obtain⟨t,rfl⟩:=r; rfl
 | byt _=>obtain⟨t,rfl⟩:=r; rfl
 | flt _=>obtain⟨t,rfl⟩:=r; rfl
 | ref _=>cases r; rfl
 | ty _=>cases r; rfl
theorem RelV.inj {x y:V} {u:Qp} (r:RelV x u) (q:RelV y u):x=y:=Option.some.inj (r.abs.symm.trans q.abs)
theorem Vals.inj:∀ {xs ys:List V} {us:List Qp},Vals xs us->Vals ys us->xs=ys
 | _,_,_,.nil,.nil=>rfl
 | _,_,_,.cons r t,.cons r' t'=>by rw [r.inj r',Vals.inj t t']
section
variable {X:Cx} {pins:List (Qs×Obj)} {σ:St} {H:Hp} {s:QB} {a:Qs} {xs ys:List V}
theorem nV.of {K:Pa} (h:H a=some (.lst xs)):nV K H a xs:=.inl (.inl h)
theorem oM.of {K:Pa} (h:H a=some (.tup xs)):oM K H a xs:=.inl (.inl h)
theorem Inv.list (I:Inv X pins σ H s) (h:nV X.K H a xs):∃ its:List Qp,Vals xs its/\PlainL s.heap a its.toArray/\xs.length<=Qv:=by
 rcases h with h | ⟨o,its,n,hk,hc,hd,hs,hz,r⟩
 ·obtain⟨z,its,n,r,e⟩:=h.ok I.hok
  exact⟨its,r,⟨_,n,e,rfl,rfl,rfl⟩,z⟩
 ·refine⟨its.toList,r,⟨o,n,I.kIn a o hk,hc,hd,by simpa using hs⟩,?_⟩
  have e:=r.length
  simp only [Array.length_toList] at e
  omega
theorem Inv.tuple (I:Inv X pins σ H s) (h:oM X.K H a xs):∃ its:List Qp,Vals xs its/\Qw s.heap a its.toArray/\xs.length<=Qv:=by
 rcases h with h | ⟨o,its,n,hk,hc,hs,hz,r⟩
 ·obtain⟨z,its,r,p⟩:=h.ok I.hok
  exact⟨its,r,p,z⟩
 ·refine⟨its.toList,r,⟨o,I.kIn a o hk,hc,n,by simpa using hs⟩,?_⟩
  have e:=r.length
  simp only [Array.length_toList] at e
  omega
theorem Inv.list_inj (I:Inv X pins σ H s) (h:nV X.K H a xs) (h':nV X.K H a ys):xs=ys:=by
 obtain⟨its,r,⟨o,n,e,_,_,d⟩,_⟩:=I.list h
 obtain⟨its',r',⟨o',n',e',_,_,d'⟩,_⟩:=I.list h'
 rw [e] at e'; cases e'
 rw [d] at d'
 injection d' with d1 _
 have:its=its':=by simpa using congrArg Array.toList d1
 subst this
 exact r.inj r'
theorem Inv.tuple_inj (I:Inv X pins σ H s) (h:oM X.K H a xs) (h':oM X.K H a ys):xs=ys:=by
 obtain⟨its,r,⟨o,e,_,n,d⟩,_⟩:=I.tuple h
 obtain⟨its',r',⟨o',e',_,n',d'⟩,_⟩:=I.tuple h'
 rw [e] at e'; cases e'
 rw [d] at d'
 injection d' with d1 _
 have:its=its':=by simpa using congrArg Array.toList d1
 subst this
 exact r.inj r'
end

abbrev Cx.wish (X:Cx) (E:Qp->QB->Prop):Cx:={ X with xe:=E }
abbrev Cx.nox (X:Cx):Cx:=X.wish fun _ _=>False
theorem Cx.Ok.wish {X:Cx} (ok:X.Ok) (E:Qp->QB->Prop):(X.wish E).Ok :=
 ⟨ok.mod,ok.kind,ok.glob,ok.blt,ok.above,ok.inj,ok.has,ok.cab,ok.hd,ok.frames,ok.stk,ok.exf,ok.bs,ok.bsz,ok.noex,ok.exfs,ok.funs,ok.frf⟩
theorem Cx.Ok.unwish {X:Cx} {E:Qp->QB->Prop} (ok:(X.wish E).Ok):X.Ok :=
 ⟨ok.mod,ok.kind,ok.glob,ok.blt,ok.above,ok.inj,ok.has,ok.cab,ok.hd,ok.frames,ok.stk,ok.exf,ok.bs,ok.bsz,ok.noex,ok.exfs,ok.funs,ok.frf⟩
section
variable {X:Cx} {pins:List (Qs×Obj)} {σ:St} {H:Hp} {s:QB} {E:Qp->QB->Prop}
theorem Inv.wish (I:Inv X pins σ H s) (E:Qp->QB->Prop):Inv (X.wish E) pins σ H s:=⟨I.ok.wish E,I.os,I.bare,I.base,I.loc,I.cell,I.free,I.freeC,I.pin,I.hok,I.len⟩
theorem Inv.unwish (I:Inv (X.wish E) pins σ H s):Inv X pins σ H s:=⟨I.ok.unwish,I.os,I.bare,I.base,I.loc,I.cell,I.free,I.freeC,I.pin,I.hok,I.len⟩
theorem SP.unwish {D:Ends} {f:Flow} {s':QB} (h:SP (X.wish E) pins D f s'):SP X pins D f s':=by
 cases f with
 | next=>obtain⟨σ',H',I,q⟩:=h; exact⟨σ',H',I.unwish,q⟩
 | brk=>obtain⟨σ',H',I,q⟩:=h; exact⟨σ',H',I.unwish,q⟩
 | cont=>obtain⟨σ',H',I,q⟩:=h; exact⟨σ',H',I.unwish,q⟩
 | ret u=>obtain⟨v,σ',H',I,r,q⟩:=h; exact⟨v,σ',H',I.unwish,r,q⟩
theorem xx.nox {st:List QG} {t:TS} (h:xx X.nox st t):xx X st t:=fun pins s σ H D I hw =>
 QH (h pins s σ H D (I.wish _) hw) (fun _ _ q=>q.unwish) fun _ _ z=>False.elim z
end

section
variable {X:Cx} {st:QG} {rest:List QG} {t u:TS} {e:QE} {te:TE} {pos:Pos}
def Je:TS:=fun D σ H=>D.nx σ H
def Km (t u:TS):TS:=fun D σ H=>t { D with nx:=u D } σ H
theorem D9:xx X [] Je:=fun _ _ σ H _ I h=>QK ⟨σ,H,I,h⟩
theorem C6 (h1:PS X st t) (h2:xx X rest u):xx X (st::rest) (Km t u):=by
 intro pins s σ H D I h
 refine wpAny_execs_cons (eK (h1 pins s σ H { D with nx:=u D } I h) fun f s1 q=>?_)
 cases f with
 | next =>
  obtain⟨σ',H',I',q⟩:=q
  exact h2 pins s1 σ' H' D I' q
 | ret v=>exact q
 | brk=>exact q
 | cont=>exact q
theorem zh (h1:PS X st t):xx X [st] t:=by
 intro pins s σ H D I h
 refine wpAny_execs_cons (eK (h1 pins s σ H D I h) fun f s1 q=>?_)
 cases f with
 | next=>exact QK q
 | ret v=>exact q
 | brk=>exact q
 | cont=>exact q
theorem Inv.quiet {pins:List (Qs×Obj)} {σ:St} {H:Hp} {s:QB} (I:Inv X pins σ H s):interactive X.env=false:=by simp [interactive,I.ok.kind]
def IC (te:TE):TS:=fun D σ H=>te σ H fun _ H1=>D.nx σ H1
theorem vI (he:PE X e te) (hs:swapsWith e none pos.line X.env=pure false:=by rfl):PS X (.Expr e pos) (IC te):=by
 intro pins s σ H D I h
 exact wpAny_Expr_any (eK (he pins s σ H _ I h) fun v s1 ⟨x,H1,I1,r1,q1⟩=>⟨σ,H1,I1,q1⟩) I.quiet hs
def Kh (te:TE):TS:=fun D σ H=>te σ H D.rt
theorem Gh (he:PE X e te):PS X (.Return (some e) pos) (Kh te):=by
 intro pins s σ H D I h
 exact wpAny_Return_some (eK (he pins s σ H _ I h) fun v s1 ⟨x,H1,I1,r1,q1⟩=>⟨x,σ,H1,I1,r1,q1⟩)
def KP (c:TT) (t u:TS):TS:=fun D σ H=>c σ H fun b H1=>if b=true then t D σ H1 else u D σ H1
theorem IG {c:QE} {a b:List QG} {tc:TT} (hc:PT X c tc) (ha:xx X a t) (hb:xx X b u):PS X (.If c a b pos) (KP tc t u):=by
 intro pins s σ H D I h
 refine wpAny_If (eK (hc pins s σ H _ I h) fun d s1 ⟨H1,I1,q1⟩=>?_)
 cases d with
 | true=>exact ha pins s1 σ H1 D I1 q1
 | false=>exact hb pins s1 σ H1 D I1 q1
end

abbrev TG:=V->St->Hp->(St->Hp->Prop)->Prop
abbrev Fh:=List V->St->Hp->(St->Hp->Prop)->Prop
def PG (X:Cx) (target:QE) (t:TG):Prop :=
 ∀ (pins:List (Qs×Obj)) (s:QB) (σ:St) (H:Hp) (v:V) (u:Qp) (Q:St->Hp->Prop),Inv X pins σ H s->RelV v u->t v σ H Q ->
  QD (model X.prog X.w) X.A (assign target X.env u) (fun _ s'=>∃ σ' H',Inv X pins σ' H' s'/\Q σ' H') X.xe s
def Iq (X:Cx) (ts:List QE) (t:Fh):Prop :=
 ∀ (pins:List (Qs×Obj)) (s:QB) (σ:St) (H:Hp) (vs:List V) (us:List Qp) (Q:St->Hp->Prop),Inv X pins σ H s->Vals vs us->t vs σ H Q ->
  QD (model X.prog X.w) X.A (assignInOrder ((assignEach ts X.env).map (·.2)) us) (fun _ s'=>∃ σ' H',Inv X pins σ' H' s'/\Q σ' H') X.xe s
section
variable {X:Cx} {pos:Pos}
def uk (i:Nat):TG:=fun v σ H Q=>Q (σ.set i (some v)) H
theorem DN {i:Nat} {x:Str} (hN:X.N.Nodup) (hi:X.N[i]?=some x) (hx:Loc X.env.scope x) (hf:X.fn x=true\/X.env.scope.names.lookup x=some .local:=by first | exact .inl rfl | exact .inr rfl | assumption):PG X (.Name x pos) (uk i):=by
 intro pins s σ H v u Q I r h
 exact wpAny_assign_Name (wY I hN hi hx r (fun s' I'=>⟨_,H,I',h⟩) hf)
def KI:Fh:=fun vs σ H Q=>vs=[]/\Q σ H
def II (t:TG) (u:Fh):Fh:=fun vs σ H Q=>∃ v r,vs=v::r/\t v σ H fun σ' H'=>u r σ' H' Q
theorem Ds:Iq X [] KI:=by
 intro pins s σ H vs us Q I r h
 obtain⟨e,h⟩:=h
 subst e
 cases r
 exact assignInOrder_nil ⟨σ,H,I,h⟩
theorem BZ {e:QE} {es:List QE} {t:TG} {u:Fh} (h1:PG X e t) (h2:Iq X es u)
  (hs:(assignEach (e::es) X.env).map (·.2)=assign e X.env::(assignEach es X.env).map (·.2):=by rfl):Iq X (e::es) (II t u):=by
 intro pins s σ H vs us Q I r h
 obtain⟨v,vr,e1,h⟩:=h
 subst e1
 cases r with
 | cons r rr =>
  rw [hs]
  refine assignInOrder_cons (eK (h1 pins s σ H _ _ _ I r h) fun _ s1 ⟨σ1,H1,I1,q1⟩=>?_)
  exact h2 pins s1 σ1 H1 _ _ Q I1 rr q1
def K6 (K:Pa) (n:Nat) (t:Fh):TG:=fun v σ H Q=>∃ a xs,v=.ref a/\oM K H a xs/\xs.length=n/\t xs σ H Q
theorem Fz {es:List QE} {k:Nat} {t:Fh} {n:Nat} (hc:X.calm=true) (h:Iq X es t)
  (hn:(assignEach es X.env).length=n:=by rfl) (hst:(assignEach es X.env).findIdx? (·.1)=none:=by rfl):PG X (.Tuple es k pos) (K6 X.K n t):=by
 intro pins s σ H v u Q I r hw
 obtain⟨a,xs,e1,hq,hl,hw⟩:=hw
 subst e1
 cases r
 obtain⟨its,rv,ht,hz⟩:=I.tuple hq
 refine assign_Tuple_tuple (I.ok.hd hc) ht (by simp [hn,<- hl,rv.length]) hst fun h' hx=>?_
 have I1:Inv X pins σ H { s with heap:=h' }:=I.kept (t':=s.toks) fun b o e=>hx b o (Mq (PQ e)) e
 exact h pins _ σ H xs _ Q I1 (by simpa using rv) hw
def EL (te:TE) (g:TG):TS:=fun D σ H=>te σ H fun x H1=>g x σ H1 D.nx
theorem xV {i:Nat} {x:Str} {e:QE} {te:TE} {pos':Pos} (hN:X.N.Nodup) (hi:X.N[i]?=some x) (hx:Loc X.env.scope x) (he:PE X e te) (hs:swapsWith e (some (.Name x pos')) pos.line X.env=pure false:=by rfl) (hf:X.fn x=true\/X.env.scope.names.lookup x=some .local:=by first | exact .inl rfl | exact .inr rfl | assumption) :
  PS X (.Assign [.Name x pos'] e pos) (EL te (uk i)):=by
 intro pins s σ H D I h
 refine wpAny_Assign_Name (eK (he pins s σ H _ I h) fun v s1 ⟨y,H1,I1,r1,q1⟩=>?_) hs
 exact wY I1 hN hi hx r1 (fun s2 I2=>⟨_,H1,I2,q1⟩) hf
end


structure It where
 go:Nat->Hp->Prop
 yld:Nat->Hp->V->Hp->Prop
 stop:Nat->Hp->Prop
def tI (X:Cx) (pins:List (Qs×Obj)) (H:Hp) (b:Qs):Prop :=
 H b=none/\b≠X.env.locals/\b∉X.fs/\(b∈X.ex\/X.s₀.heap.objs.size<=b)/\(∀ x c,X.env.cells.lookup x=some c->c≠b)/\∀ p∈X.pn++pins,p.1≠b
theorem Inv.fpOk {X:Cx} {pins:List (Qs×Obj)} {σ:St} {H H':Hp} {s:QB} {b:Qs} (I:Inv X pins σ H s) (hb:s.heap.objs.size<=b) (hn:H' b=none):tI X pins H' b:=by
 refine⟨hn,Mz (Mo I.lt hb),I.nofs hb,.inr (Mr I.sz hb),fun x c e z=>?_,fun p hp z=>?_⟩
 ·obtain⟨v,q⟩:=I.cell x c e
  exact absurd (Mo q.lt (by rw [z]; exact hb)) (Mp _)
 ·exact absurd (Mo (PQ (I.pin p hp).1) (by rw [z]; exact hb)) (Mp _)
structure Turn (P:Qr) (w:Qq) (K:Pa) (tg:QE) (J:It) (fp:List Qs) (it:Qs) (tn:Nat->Qu->Prop):Prop where
 mem:it∈fp
 obj:∀ i h,tn i h->∀ b∈fp,∃ o,h.get? b=some o/\∀ v,o.data≠.cell v
 keep:∀ i h h',tn i h->(∀ b∈fp,∀ o,h.get? b=some o->h'.get? b=some o)->tn i h'
 item:∀ (X:Cx),X.prog=P->X.w=w->X.K=K->X.calm=true->∀ (i:Nat) (pins:List (Qs×Obj)) (s:QB) (σ:St) (H:Hp) (E:Qp->QB->Prop),Inv X pins σ H s->(∀ b∈fp,tI X pins H b)->tn i s.heap->J.go i H ->
  QD (model P w) X.A (pyNext (.ref it)) (fun r s1=>∃ u,r=some u /\
   QD (model P w) X.A (letOwnedTupleGo tg (.ref it) u) (fun _ s2=>∃ x H',Inv X pins σ H' s2/\RelV x u/\J.yld i H x H'/\tn (i+1) s2.heap/\∀ b∈fp,H' b=none) E s1) E s
 done:∀ (X:Cx),X.prog=P->X.w=w->X.K=K->X.calm=true->∀ (i:Nat) (pins:List (Qs×Obj)) (s:QB) (σ:St) (H:Hp) (E:Qp->QB->Prop),Inv X pins σ H s->(∀ b∈fp,tI X pins H b)->tn i s.heap->J.stop i H ->
  QD (model P w) X.A (pyNext (.ref it)) (fun r s1=>r=none/\Inv X pins σ H s1) E s
 self:∀ (A:QA) (i:Nat) (s:QB) (Q:Qp->QB->Prop) (E:Qp->QB->Prop),tn i s.heap->Q (.ref it) s->QD (model P w) A (pyIter (.ref it)) Q E s
abbrev TI:=St->Hp->(It->Hp->Prop)->Prop
def PIE (X:Cx) (pins:List (Qs×Obj)) (σ:St) (tg:QE) (R:It->Hp->Prop) (itv:Qp) (s2:QB):Prop :=
 ∃ (it:Qs) (fp:List Qs) (tn:Nat->Qu->Prop) (J:It) (H':Hp),itv=.ref it/\Inv X pins σ H' s2/\Turn X.prog X.w X.K tg J fp it tn/\tn 0 s2.heap/\(∀ b∈fp,tI X pins H' b)/\R J H'
def PI (X:Cx) (tg iter:QE) (wi:TI):Prop :=
 ∀ (pins:List (Qs×Obj)) (s:QB) (σ:St) (H:Hp) (R:It->Hp->Prop),Inv X pins σ H s->wi σ H R ->
  QD (model X.prog X.w) X.A (eval iter X.env) (fun v s1=>QD (model X.prog X.w) X.A (pyIter v) (PIE X pins σ tg R) X.xe s1) X.xe s

theorem BV {M:Model} {A:QA} {E:Qp->QB->Prop} {s:QB} {tg:QE} {it:Qs} {u:Qp} {o:Obj} {n:String} {vs:Array Qp} {Q:Unit->QB->Prop} (ho:s.heap.get? it=some o) (hc:o.cls=.type n) (hd:o.data=.fields vs)
    (hn:["enumerate","zip","dict_itemiterator","dict_reverseitemiterator","odict_iterator","itertools.zip_longest","itertools.pairwise"].contains n=false) (hQ:Q () s):QD M A (letOwnedTupleGo tg (.ref it) u) Q E s:=by
  unfold letOwnedTupleGo
  cases tg <;> first
    | exact QL hQ
    | (cases u <;> first
        | exact QL hQ
        | (refine QM (wpAny_load ho ?_)
           rw [hc,hd]
           show QD M A (if (["enumerate","zip","dict_itemiterator","dict_reverseitemiterator","odict_iterator","itertools.zip_longest","itertools.pairwise"].contains n && vs[0]?==some (rawInt _))=true then _ else _) Q E s
           rw [if_neg (by intro h; rw [hn,Bool.false_and] at h; cases h)]
           exact QL hQ))

def Lw (K:Pa) (a:Qs):It :=
 ⟨fun i H=>∃ xs x,nV K H a xs/\xs[i]?=some x,fun i H x H'=>H'=H/\∀ xs,nV K H a xs->xs[i]?=some x,fun i H=>∃ xs,nV K H a xs/\xs.length<=i⟩
def Kq (K:Pa) (a:Qs):It :=
 ⟨fun i H=>∃ xs x,oM K H a xs/\xs[i]?=some x,fun i H x H'=>H'=H/\∀ xs,oM K H a xs->xs[i]?=some x,fun i H=>∃ xs,oM K H a xs/\xs.length<=i⟩
def IB (lo:Int) (n:Nat):It:=⟨fun i _=>i < n,fun i H x H'=>H'=H/\x=.int (lo+i),fun i _=>n<=i⟩
theorem Ae {P:Qr} {w:Qq} {K:Pa} {tg:QE} (a it:Qs):Turn P w K tg (Lw K a) [it] it (fun i h=>h.IsListIter it a i) where
 mem:=by simp
 obj:=fun i h st b hb=>by
  have e:b=it:=by simpa using hb
  subst e
  obtain⟨o,e,c,d⟩:=st
  exact⟨o,e,fun v z=>by rw [d] at z; cases z⟩
 keep:=fun i h h' st k=>st.at fun o e=>k it (by simp) o e
 item:=by
  intro X hP hw hK hc i pins s σ H E I hf st hg
  subst hP hw hK
  obtain⟨xs,x,hq,hx⟩:=hg
  obtain⟨its,rv,p,hz⟩:=I.list hq
  obtain⟨u,hu,ru⟩:=rv.get hx
  obtain⟨f0,f1,f2,f3,f4,f5⟩:=hf it (by simp)
  refine wpAny_pyNext_list_item st p.isList (x:=u) (by simpa using hu) fun h' st' sb=>?_
  have I1:Inv X pins σ H { s with heap:=h' }:=I.turned (t':=s.toks) (fun b o hb e=>(sb.2 b hb).trans e) f0 f1 f3 f4 f5
  obtain⟨o,e,c,d⟩:=id st'
  exact⟨u,rfl,BV (s:={ s with heap:=h' }) e c d (by decide) ⟨x,H,I1,ru,⟨rfl,fun ys hy=>by rw [I.list_inj hy hq]; exact hx⟩,st',fun b hb=>(hf b hb).1⟩⟩
 done:=by
  intro X hP hw hK hc i pins s σ H E I hf st hg
  subst hP hw hK
  obtain⟨xs,hq,hx⟩:=hg
  obtain⟨its,rv,p,hz⟩:=I.list hq
  obtain⟨f0,f1,f2,f3,f4,f5⟩:=hf it (by simp)
  have hl:=rv.length
  exact wpAny_pyNext_list_end (I.ok.hd hc) st p.isList (by simp; omega) fun h' eb=>⟨rfl,I.turned (t':=s.toks) (fun b o hb e=>eb b o hb e) f0 f1 f3 f4 f5⟩
 self:=fun _ _ _ _ _ st h=>wpAny_pyIter_listiter st h
theorem ye {P:Qr} {w:Qq} {K:Pa} {tg:QE} (a it:Qs):Turn P w K tg (Kq K a) [it] it (fun i h=>h.IsTupleIter it a i) where
 mem:=by simp
 obj:=fun i h st b hb=>by
  have e:b=it:=by simpa using hb
  subst e
  obtain⟨o,e,c,d⟩:=st
  exact⟨o,e,fun v z=>by rw [d] at z; cases z⟩
 keep:=fun i h h' st k=>st.at fun o e=>k it (by simp) o e
 item:=by
  intro X hP hw hK hc i pins s σ H E I hf st hg
  subst hP hw hK
  obtain⟨xs,x,hq,hx⟩:=hg
  obtain⟨its,rv,p,hz⟩:=I.tuple hq
  obtain⟨u,hu,ru⟩:=rv.get hx
  obtain⟨f0,f1,f2,f3,f4,f5⟩:=hf it (by simp)
  refine wpAny_pyNext_tuple_item st (show s.heap.IsTuple a its.toArray from p) (x:=u) (by simpa using hu) fun h' st' sb=>?_
  have I1:Inv X pins σ H { s with heap:=h' }:=I.turned (t':=s.toks) (fun b o hb e=>(sb.2 b hb).trans e) f0 f1 f3 f4 f5
  obtain⟨o,e,c,d⟩:=id st'
  exact⟨u,rfl,BV (s:={ s with heap:=h' }) e c d (by decide) ⟨x,H,I1,ru,⟨rfl,fun ys hy=>by rw [I.tuple_inj hy hq]; exact hx⟩,st',fun b hb=>(hf b hb).1⟩⟩
 done:=by
  intro X hP hw hK hc i pins s σ H E I hf st hg
  subst hP hw hK
  obtain⟨xs,hq,hx⟩:=hg
  obtain⟨its,rv,p,hz⟩:=I.tuple hq
  obtain⟨f0,f1,f2,f3,f4,f5⟩:=hf it (by simp)
  have hl:=rv.length
  exact wpAny_pyNext_tuple_end (I.ok.hd hc) st (show s.heap.IsTuple a its.toArray from p) (by simp; omega) fun h' eb=>⟨rfl,I.turned (t':=s.toks) (fun b o hb e=>eb b o hb e) f0 f1 f3 f4 f5⟩
 self:=fun _ _ _ _ _ st h=>wpAny_pyIter_tupleiter st h
theorem yS {P:Qr} {w:Qq} {K:Pa} {tg:QE} (it:Qs) (lo:Int) (n:Nat):Turn P w K tg (IB lo n) [it] it (fun i h=>IsRangeIter h it (lo+(i:Nat)*1) ((n:Int) - (i:Nat)) 1) where
 mem:=by simp
 obj:=fun i h st b hb=>by
  have e:b=it:=by simpa using hb
  subst e
  exact⟨_,st,fun v z=>by
   have z':Data.fields _=Data.cell v:=z
   cases z'⟩
 keep:=fun i h h' st k=>k it (by simp) _ st
 item:=by
  intro X hP hw hK hc i pins s σ H E I hf st hg
  subst hP hw hK
  obtain⟨f0,f1,f2,f3,f4,f5⟩:=hf it (by simp)
  have W:=Walks.range (prog:=X.prog) (w:=X.w) (I.ok.hd hc) it lo 1 n
  refine W.item i s _ _ hg st fun v h' tk hv st' kk=>?_
  obtain⟨t,rfl⟩:=hv
  have I1:Inv X pins σ H { s with heap:=h',toks:=tk }:=I.turned (fun b o hb e=>kk b o (by simpa using hb) e) f0 f1 f3 f4 f5
  refine⟨_,rfl,BV (s:={ s with heap:=h',toks:=tk }) (n := "range_iterator") st' rfl rfl (by decide) ⟨.int (lo+i),H,I1,⟨t,?_⟩,⟨rfl,rfl⟩,st',fun b hb=>(hf b hb).1⟩⟩
  rw [Int.mul_one]
 done:=by
  intro X hP hw hK hc i pins s σ H E I hf st hg
  subst hP hw hK
  obtain⟨f0,f1,f2,f3,f4,f5⟩:=hf it (by simp)
  exact wpAny_pyNext_range_end (I.ok.hd hc) st (by have:n<=i:=hg; omega) fun h' eb=>⟨rfl,I.turned (t':=s.toks) (fun b o hb e=>eb b o hb e) f0 f1 f3 f4 f5⟩
 self:=fun _ _ _ _ _ st h=>wpAny_pyIter_rangeiter st h
end L2

namespace L2
open PySem PySem.Spec PyProof.Rows
section
variable {X:Cx} {tg:QE}
def HB (K:Pa) (tl:TE):TI:=fun σ H R=>tl σ H fun x H1=>∃ a,x=.ref a/\(∃ xs,nV K H1 a xs)/\R (Lw K a) H1
def Lr (K:Pa) (tl:TE):TI:=fun σ H R=>tl σ H fun x H1=>∃ a,x=.ref a/\(∃ xs,oM K H1 a xs)/\R (Kq K a) H1
theorem zj {l:QE} {tl:TE} (hl:PE X l tl):PI X tg l (HB X.K tl):=by
 intro pins s σ H R I h
 refine eK (hl pins s σ H _ I h) fun v s1 ⟨x,H1,I1,r1,q1⟩=>?_
 obtain⟨a,e,⟨xs,hq⟩,q⟩:=q1
 subst e
 cases r1
 obtain⟨its,rv,p,hz⟩:=I1.list hq
 refine QN p.isList ?_
 refine⟨s1.heap.objs.size,[s1.heap.objs.size],_,_,H1,rfl,I1.kept (t':=s1.toks) fun b o e=>PX _ e,Ae a _,⟨_,PY _ rfl,rfl,rfl⟩,fun b hb=>?_,q⟩
 have e:b=s1.heap.objs.size:=by simpa using hb
 subst e
 exact I1.fpOk (MA _) (I1.hok.fresh (MA _))
theorem G6 {l:QE} {tl:TE} (hl:PE X l tl):PI X tg l (Lr X.K tl):=by
 intro pins s σ H R I h
 refine eK (hl pins s σ H _ I h) fun v s1 ⟨x,H1,I1,r1,q1⟩=>?_
 obtain⟨a,e,⟨xs,hq⟩,q⟩:=q1
 subst e
 cases r1
 obtain⟨its,rv,p,hz⟩:=I1.tuple hq
 refine wpAny_pyIter_tuple (show s1.heap.IsTuple a its.toArray from p) ?_
 refine⟨s1.heap.objs.size,[s1.heap.objs.size],_,_,H1,rfl,I1.kept (t':=s1.toks) fun b o e=>PX _ e,ye a _,⟨_,PY _ rfl,rfl,rfl⟩,fun b hb=>?_,q⟩
 have e:b=s1.heap.objs.size:=by simpa using hb
 subst e
 exact I1.fpOk (MA _) (I1.hok.fresh (MA _))
theorem xi {pins:List (Qs×Obj)} {σ:St} {H:Hp} {s:QB} {R:It->Hp->Prop} {E:Qp->QB->Prop} {lo hi:Int} {t u v:Tok} {tk:Nat} (I:Inv X pins σ H s) (h1:-(2 ^ 62)<=lo) (h2:lo < 2 ^ 62) (h3:-(2 ^ 62)<=hi) (h4:hi < 2 ^ 62)
  (q:R (IB lo (hi - lo).toNat) H):QD (model X.prog X.w) X.A (pyIter (.ref s.heap.objs.size)) (PIE X pins σ tg R) E { s with heap:=s.heap.push { cls:=.type "range",data:=.fields #[.int lo t,.int hi u,.int 1 v] },toks:=tk }:=by
 refine wpAny_pyIter_range (IsRange.new ..) (small_one h1 h2 h3 h4) ?_
 have I1:Inv X pins σ H { s with heap:=s.heap.push { cls:=.type "range",data:=.fields #[.int lo t,.int hi u,.int 1 v] },toks:=tk }:=I.kept fun b o e=>PX _ e
 refine⟨(s.heap.push { cls:=.type "range",data:=.fields #[.int lo t,.int hi u,.int 1 v] }).objs.size,[(s.heap.push { cls:=.type "range",data:=.fields #[.int lo t,.int hi u,.int 1 v] }).objs.size],_,_,H,rfl,
  I1.kept (t':=tk) fun b o e=>PX _ e,yS _ lo (hi - lo).toNat,?_,fun b hb=>?_,q⟩
 ·have e1:lo+((0:Nat):Int)*1=lo:=by simp
  have e2:(((hi - lo).toNat:Nat):Int) - ((0:Nat):Int)=Builtin.Range.rangeSize lo hi 1:=by rw [rangeSize_one]; split <;> omega
  show IsRangeIter _ _ (lo+((0:Nat):Int)*1) ((((hi - lo).toNat:Nat):Int) - ((0:Nat):Int)) 1
  rw [e1,e2]
  exact PY _ rfl
 ·have e:b=(s.heap.push { cls:=.type "range",data:=.fields #[.int lo t,.int hi u,.int 1 v] }).objs.size:=by simpa using hb
  subst e
  exact I1.fpOk (MA _) (I1.hok.fresh (MA _))
def IU (ta:TA):TI:=fun σ H R=>ta σ H fun vs H1=>∃ j:Int,vs=[.int j]/\-(2 ^ 62)<=j/\j < 2 ^ 62/\R (IB 0 j.toNat) H1
def IZ (ta:TA):TI:=fun σ H R=>ta σ H fun vs H1=>∃ i j:Int,vs=[.int i,.int j]/\(-(2 ^ 62)<=i/\i < 2 ^ 62/\-(2 ^ 62)<=j/\j < 2 ^ 62)/\R (IB i (j - i).toNat) H1
theorem A9 {a:QE} {ta:TA} {p pos:Pos} (hg:Gl X "range") (hm:X.mg "range"=none) (ha:PA X [a] ta) (hs:QF [a] X.env=[(false,eval a X.env)]:=by rfl):PI X tg (.Call (.Name "range" p) [a] [] pos) (IU ta):=by
 intro pins s σ H R I h
 refine Call_ (lM I hg hm boot_range (P8 (eK (ha pos pins s σ H _ I h) fun us s1 ⟨vs,H1,I1,r1,q1⟩=>?_) hs rfl))
 obtain⟨j,e,q1,q2,q⟩:=q1
 subst e
 cases r1 with
 | cons r rr =>
  cases rr
  obtain⟨t,rfl⟩:=r
  exact call_range_1 (xi I1 ‹0› ‹0› q1 q2 (by simpa using q))
theorem Az {a b:QE} {ta:TA} {p pos:Pos} (hg:Gl X "range") (hm:X.mg "range"=none) (ha:PA X [a,b] ta) (hs:QF [a,b] X.env=[(false,eval a X.env),(false,eval b X.env)]:=by rfl) (hs2:QF [b] X.env=[(false,eval b X.env)]:=by rfl) :
  PI X tg (.Call (.Name "range" p) [a,b] [] pos) (IZ ta):=by
 intro pins s σ H R I h
 refine Call_ (lM I hg hm boot_range (P8 (eK (ha pos pins s σ H _ I h) fun us s1 ⟨vs,H1,I1,r1,q1⟩=>?_) (by rw [hs,hs2]) (by rw [hs2]; rfl)))
 obtain⟨i,j,e,⟨q1,q2,q3,q4⟩,q⟩:=q1
 subst e
 cases r1 with
 | cons r rr =>
  cases rr with
  | cons r' rr =>
   cases rr
   obtain⟨t,rfl⟩:=r
   obtain⟨t',rfl⟩:=r'
   exact call_range_2 (xi I1 q1 q2 q3 q4 q)

def Kv (wi:TI) (g:TG) (tb:TS):TS:=fun D σ H=>wi σ H fun J H1=>∃ W:Nat->Nat->St->Hp->Prop,(∃ m,W 0 m σ H1)/\∀ i m σ H,W i m σ H ->
 (J.stop i H/\D.nx σ H)\/(J.go i H/\∃ N:St->Hp->Prop,(∀ σ' H',N σ' H'->∃ m',m' < m/\W (i+1) m' σ' H')/\∀ x H',J.yld i H x H'->g x σ H' fun σ2 H2=>tb { D with nx:=N,ct:=N,bk:=D.nx } σ2 H2)
def sK (fp:List Qs) (h:Qu):List (Qs×Obj):=fp.filterMap fun b=>(h.get? b).map fun o=>(b,o)
theorem j4 {fp:List Qs} {h:Qu} {b:Qs} {o:Obj} (hb:b∈fp) (e:h.get? b=some o):(b,o)∈sK fp h:=List.mem_filterMap.mpr ⟨b,hb,by rw [e]; rfl⟩
theorem zO {fp:List Qs} {h:Qu} {p:Qs×Obj} (hp:p∈sK fp h):p.1∈fp/\h.get? p.1=some p.2:=by
 obtain⟨b,hb,e⟩:=List.mem_filterMap.mp hp
 cases q:h.get? b with
 | none=>rw [q] at e; cases e
 | some o =>
  rw [q] at e
  have e':(b,o)=p:=Option.some.inj e
  subst e'
  exact⟨hb,q⟩
theorem Inv.pinned {pins:List (Qs×Obj)} {σ:St} {H:Hp} {s:QB} {fp:List Qs} (I:Inv X pins σ H s) (hf:∀ b∈fp,tI X pins H b) (ho:∀ b∈fp,∃ o,s.heap.get? b=some o/\∀ v,o.data≠.cell v):Inv X (pins++sK fp s.heap) σ H s :=
 I.pins_of fun p hp=>(List.mem_append.mp hp).elim (fun z=>I.pin p (MB _ z)) fun z=>by
  obtain⟨hb,e⟩:=zO z
  obtain⟨f0,f1,f2,_⟩:=hf p.1 hb
  obtain⟨o,e',d⟩:=ho p.1 hb
  rw [e] at e'; cases e'
  exact⟨e,f0,f1,f2,d⟩
theorem Inv.unpinned {pins pl:List (Qs×Obj)} {σ:St} {H:Hp} {s:QB} (I:Inv X (pins++pl) σ H s):Inv X pins σ H s:=I.pins_of fun p hp=>I.pin p (MB _ (Mw _ hp))
theorem FZ {iter:QE} {body:List QG} {wi:TI} {g:TG} {tb:TS} {pos:Pos} (hp:QO (model X.prog X.w) X.A X.env X.xe) (hc:X.calm=true) (hi:PI X tg iter wi) (hg:PG X tg g) (hb:xx X body tb)
  (hs:∀ x,QP iter X.env x=pure x:=by intro _; rfl):PS X (.For tg iter body [] pos) (Kv wi g tb):=by
 intro pins s σ H D I h
 refine wpAny_For (eK (hi pins s σ H _ I h) fun v s1 h1=>eK h1 fun itv s2 h2=>?_) hs
 obtain⟨it,fp,tn,J,H2,e,I2,T,st2,f2,W,⟨m0,w0⟩,turn⟩:=h2
 subst e
 have stat:∀ {H':Hp},(∀ b∈fp,H' b=none)->∀ b∈fp,tI X pins H' b:=fun hn b hb=>⟨hn b hb,(f2 b hb).2⟩
 refine codeAny_forLoop_any (fun n s'=>∃ i σ' H',Inv X pins σ' H' s'/\tn i s'.heap/\(∀ b∈fp,H' b=none)/\W i n σ' H') ?_ m0 ⟨0,σ,H2,I2,st2,fun b hb=>(f2 b hb).1,w0⟩
 rintro n s3 ⟨i,σ3,H3,I3,st3,fr3,w3⟩
 rcases turn i n σ3 H3 w3 with ⟨stop,qn⟩ | ⟨go,N,hN,step⟩
 ·refine QQ hp (eK (T.done X rfl rfl rfl hc i pins s3 σ3 H3 X.xe I3 (stat fr3) st3 stop) fun r s4 ⟨hr,I4⟩=>?_)
  subst hr
  exact QK ⟨σ3,H3,I4,qn⟩
 ·refine QQ hp (eK (T.item X rfl rfl rfl hc i pins s3 σ3 H3 X.xe I3 (stat fr3) st3 go) fun r s4 ⟨u,hr,h4⟩=>?_)
  subst hr
  refine QQ hp (eK h4 fun _ s5 ⟨x,H5,I5,r5,y5,st5,fr5⟩=>?_)
  have I5':=I5.pinned (stat fr5) (T.obj _ _ st5)
  refine QQ hp (eK (hg _ s5 σ3 H5 x u _ I5' r5 (step x H5 y5)) fun _ s6 ⟨σ6,H6,I6,q6⟩=>?_)
  refine QQ hp (eK (hb _ s6 σ6 H6 _ I6 q6) fun f s7 q7=>?_)
  have again:∀ {σ7:St} {H7:Hp},Inv X (pins++sK fp s5.heap) σ7 H7 s7->N σ7 H7->∃ m,m < n/\∃ i σ' H',Inv X pins σ' H' s7/\tn i s7.heap/\(∀ b∈fp,H' b=none)/\W i m σ' H':=fun {σ7 H7} I7 n7=>by
   obtain⟨m',hm,w7⟩:=hN σ7 H7 n7
   refine⟨m',hm,i+1,σ7,H7,I7.unpinned,T.keep _ _ _ st5 fun b hb o e=>(I7.pin (b,o) (MB _ (MB _ (j4 hb e)))).1,fun b hb=>?_,w7⟩
   obtain⟨o,e,d⟩:=T.obj _ _ st5 b hb
   exact(I7.pin (b,o) (MB _ (MB _ (j4 hb e)))).2.1
  cases f with
  | next=>obtain⟨σ7,H7,I7,n7⟩:=q7; exact again I7 n7
  | cont=>obtain⟨σ7,H7,I7,n7⟩:=q7; exact again I7 n7
  | brk=>obtain⟨σ7,H7,I7,q7⟩:=q7; exact⟨σ7,H7,I7.unpinned,q7⟩
  | ret v=>obtain⟨x7,σ7,H7,I7,r7,q7⟩:=q7; exact⟨x7,σ7,H7,I7.unpinned,r7,q7⟩
end

end L2

namespace L2
open PySem PySem.Spec PyProof.Rows

abbrev R2:=V->V->Hp->VK->Prop
def lX (X:Cx) (f:Qp->Qp->Sem Qp) (r:R2):Prop :=
 ∀ (pins:List (Qs×Obj)) (s:QB) (σ:St) (H:Hp) (x y:V) (v u:Qp) (Q:VK),Inv X pins σ H s->RelV x v->RelV y u->r x y H Q ->
  QD (model X.prog X.w) X.A (f v u) (EP X pins σ Q) X.xe s
def JX (X:Cx) (f:Qp->Sem Qp) (r:V->Hp->VK->Prop):Prop :=
 ∀ (pins:List (Qs×Obj)) (s:QB) (σ:St) (H:Hp) (x:V) (v:Qp) (Q:VK),Inv X pins σ H s->RelV x v->r x H Q ->
  QD (model X.prog X.w) X.A (f v) (EP X pins σ Q) X.xe s
def dR (X:Cx) (f:Qp) (r:List V->Hp->VK->Prop):Prop :=
 ∀ (pins:List (Qs×Obj)) (s:QB) (σ:St) (H:Hp) (xs:List V) (us:List Qp) (Q:VK),Inv X pins σ H s->Vals xs us->r xs H Q ->
  QD (model X.prog X.w) X.A (call f us) (EP X pins σ Q) X.xe s
def Kl (X:Cx) (r:V->Hp->(Bool->Hp->Prop)->Prop):Prop :=
 ∀ (pins:List (Qs×Obj)) (s:QB) (σ:St) (H:Hp) (x:V) (v:Qp) (Q:Bool->Hp->Prop),Inv X pins σ H s->RelV x v->r x H Q ->
  QD (model X.prog X.w) X.A (truthy v) (TP X pins σ Q) X.xe s

def Ij (r:R2) (ta tb:TE):TE:=fun σ H Q=>ta σ H fun x H1=>tb σ H1 fun y H2=>r x y H2 Q
def LQ (r:V->Hp->VK->Prop) (ta:TE):TE:=fun σ H Q=>ta σ H fun x H1=>r x H1 Q
def rI (C:Int->Int->Prop) (g:Int->Int->V):R2:=fun x y H Q=>∃ i j,x=.int i/\y=.int j/\C i j/\Q (g i j) H
def DX (g:Int->Int->V):R2:=fun x y H Q=>∃ i j,x=.int i/\y=.int j/\Q (g i j) H
def rU (g:Int->V):V->Hp->VK->Prop:=fun x H Q=>∃ i,x=.int i/\Q (g i) H

section
variable {X:Cx} {a b c:QE} {ta tb tc:TE} {pos:Pos}

theorem FP (ha:PE X a ta) (hb:PE X b tb) {pins:List (Qs×Obj)} {s:QB} {σ:St} {H:Hp} {R:V->V->Hp->Prop} (I:Inv X pins σ H s)
  (h:ta σ H fun x H1=>tb σ H1 fun y H2=>R x y H2) {Q:Qp->QB->Prop} {f:Qp->Qp->Sem Qp}
  (hf:∀ v u s2 x y H2,Inv X pins σ H2 s2->RelV x v->RelV y u->R x y H2->QD (model X.prog X.w) X.A (f v u) Q X.xe s2) :
  QD (model X.prog X.w) X.A (eval a X.env) (fun v s₁=>QD (model X.prog X.w) X.A (eval b X.env) (fun u s₂=>QD (model X.prog X.w) X.A (f v u) Q X.xe s₂) X.xe s₁) X.xe s:=by
 refine eK (ha pins s σ H _ I h) fun v s1 ⟨x,H1,I1,r1,q1⟩=>?_
 refine eK (hb pins s1 σ H1 _ I1 q1) fun u s2 ⟨y,H2,I2,r2,q2⟩=>?_
 exact hf v u s2 x y H2 I2 r1 r2 q2

theorem Im {op:Operator} {r:R2} (ho:lX X (QR op) r) (ha:PE X a ta) (hb:PE X b tb):PE X (.BinOp a op b pos) (Ij r ta tb):=by
 intro pins s σ H Q I h
 exact wpAny_BinOp (FP ha hb I h fun v u s2 x y H2 I2 rx ry q=>ho pins s2 σ H2 x y v u Q I2 rx ry q)
theorem IK {op:UnaryOp} {r:V->Hp->VK->Prop} (ho:JX X (unaryOp op) r) (ha:PE X a ta):PE X (.UnaryOp op a pos) (LQ r ta):=by
 intro pins s σ H Q I h
 exact UnaryOp_ (eK (ha pins s σ H _ I h) fun v s1 ⟨x,H1,I1,r1,q1⟩=>ho pins s1 σ H1 x v Q I1 r1 q1)
theorem Iy {f:Qp->Qp->Sem Qp} {C:Int->Int->Prop} {g:Int->Int->Int}
  (rule:∀ (i j:Int) (t u:Tok) (s:QB) (Q:Qp->QB->Prop) (E:Qp->QB->Prop),C i j->Q (.int (g i j) s.toks) { s with toks:=s.toks+1 }->QD (model X.prog X.w) X.A (f (.int i t) (.int j u)) Q E s) :
  lX X f (rI C fun i j=>.int (g i j)):=by
 intro pins s σ H x y v u Q I rx ry h
 obtain⟨i,j,rfl,rfl,hc,q⟩:=h
 obtain⟨t,rfl⟩:=rx
 obtain⟨t',rfl⟩:=ry
 exact rule i j t t' s _ _ hc ⟨.int (g i j),H,I.tok _,⟨_,rfl⟩,q⟩
theorem FY {f:Qp->Qp->Sem Qp} {g:Int->Int->Int}
  (rule:∀ (i j:Int) (t u:Tok) (s:QB) (Q:Qp->QB->Prop) (E:Qp->QB->Prop),Q (.int (g i j) s.toks) { s with toks:=s.toks+1 }->QD (model X.prog X.w) X.A (f (.int i t) (.int j u)) Q E s) :
  lX X f (DX fun i j=>.int (g i j)):=by
 intro pins s σ H x y v u Q I rx ry h
 obtain⟨i,j,rfl,rfl,q⟩:=h
 obtain⟨t,rfl⟩:=rx
 obtain⟨t',rfl⟩:=ry
 exact rule i j t t' s _ _ ⟨.int (g i j),H,I.tok _,⟨_,rfl⟩,q⟩
theorem K7 {f:Qp->Qp->Sem Qp} {g:Int->Int->Bool}
  (rule:∀ (i j:Int) (t u:Tok) (s:QB) (Q:Qp->QB->Prop) (E:Qp->QB->Prop),Q (.bool (g i j)) s->QD (model X.prog X.w) X.A (f (.int i t) (.int j u)) Q E s) :
  lX X f (DX fun i j=>.bl (g i j)):=by
 intro pins s σ H x y v u Q I rx ry h
 obtain⟨i,j,rfl,rfl,q⟩:=h
 obtain⟨t,rfl⟩:=rx
 obtain⟨t',rfl⟩:=ry
 exact rule i j t t' s _ _ ⟨.bl (g i j),H,I,rfl,q⟩

def Iz (i j:Int):Prop:=0<=j/\j<=1000000/\i.natAbs < 2 ^ 64
def Gi (i j:Int):Prop:=(-(2 ^ 64) < i/\i < 2 ^ 64)\/(-(2 ^ 64) < j/\j < 2 ^ 64)
theorem Gi.ok {i j:Int} (h:Gi i j):IntMulOk i j:=by
 rcases h with ⟨h1,h2⟩ | ⟨h1,h2⟩
 ·exact .of_left (intBits_le_64 h1 h2)
 ·exact .of_right (intBits_le_64 h1 h2)
theorem xX (k:Nat):(0:Int)<=2 ^ k:=by
 rw [two_pow_cast]
 exact MC _

theorem FU:lX X (QR .Add) (DX fun i j=>.int (i+j)):=FY fun _ _ _ _ _ _ _ q=>add_int q
theorem rF:lX X (QR .Sub) (DX fun i j=>.int (i - j)):=FY fun _ _ _ _ _ _ _ q=>sub_int q
theorem iM:lX X (QR .Mult) (rI Gi fun i j=>.int (i*j)):=Iy fun _ _ _ _ _ _ _ hc q=>mul_int q hc.ok
theorem bB:lX X (QR .Mod) (rI (fun _ j=>0 < j) fun i j=>.int (i%j)):=Iy fun i j _ _ _ _ _ hc q=>by
 have h1:(0:Int) < j:=hc
 exact mod_int' ‹0› (by rw [Int.fmod_eq_emod_of_nonneg i ‹0›]; exact q)
theorem oK:lX X (QR .Pow) (rI Iz fun i j=>.int (i ^ j.toNat)):=Iy fun _ _ _ _ _ _ _ hc q=>pow_int_small hc.1 hc.2.1 hc.2.2 q
theorem yP:lX X (QR .RShift) (rI (fun _ j=>0<=j) fun i j=>.int (i / 2 ^ j.toNat)):=Iy fun i j _ _ _ _ _ hc q =>
 rshift_int hc (by rw [MD i (xX _)]; exact q)
theorem yk:lX X (QR .BitAnd) (DX fun i j=>.int (Builtin.bitAnd i j)):=FY fun _ _ _ _ _ _ _ q=>and_int q
theorem L9 {f:Qp->Sem Qp} {g:Int->Int}
  (rule:∀ (i:Int) (t:Tok) (s:QB) (Q:Qp->QB->Prop) (E:Qp->QB->Prop),Q (.int (g i) s.toks) { s with toks:=s.toks+1 }->QD (model X.prog X.w) X.A (f (.int i t)) Q E s) :
  JX X f (rU fun i=>.int (g i)):=by
 intro pins s σ H x v Q I rx h
 obtain⟨i,rfl,q⟩:=h
 obtain⟨t,rfl⟩:=rx
 exact rule i t s _ _ ⟨.int (g i),H,I.tok _,⟨_,rfl⟩,q⟩
theorem Hk:JX X (unaryOp .USub) (rU fun i=>.int (-i)):=L9 fun _ _ _ _ _ q=>neg_int q
end

section
variable {X:Cx} {a b c:QE} {ta tb tc:TE} {pos:Pos}
theorem Cz {pins:List (Qs×Obj)} {σ:St} {H:Hp} {s:QB} {Q:VK} {k k':Bool} (I:Inv X pins σ H s) (q:Q (.bl k) H) (e:k=k'):EP X pins σ Q (.bool k') s:=by
 subst e
 exact⟨.bl k,H,I,rfl,q⟩
theorem IL:lX X (QS .Lt) (DX fun i j=>.bl (decide (i < j))):=K7 fun _ _ _ _ _ _ _ q=>lt_int q
theorem zR:lX X (QS .Lt) (fun x y H Q=>∃ i j,x=.str i/\y=.str j/\Q (.bl (decide (i.cps.toList < j.cps.toList))) H):=by
 intro pins s σ H x y v u Q I rx ry h
 obtain⟨i,j,rfl,rfl,q⟩:=h
 obtain⟨t,rfl⟩:=rx
 obtain⟨t',rfl⟩:=ry
 exact lt_str (Cz I q rfl)
theorem cz (b:QE) {op:CmpOp} (h:op≠.In:=by decide) (h2:op≠.NotIn:=by decide):QT op b=false:=by
 have e1:(op==CmpOp.In)=false:=by cases op <;> first | rfl | exact absurd rfl h
 have e2:(op==CmpOp.NotIn)=false:=by cases op <;> first | rfl | exact absurd rfl h2
 cases b <;> simp [QT,e1,e2]
theorem EE {op:CmpOp} {r:R2} (ho:lX X (QS op) r) (ha:PE X a ta) (hb:PE X b tb) (hm:QT op b=false):PE X (.Compare a [op] [b] pos) (Ij r ta tb):=by
 intro pins s σ H Q I h
 exact wpAny_Compare1 (FP ha hb I h fun v u s2 x y H2 I2 rx ry q=>ho pins s2 σ H2 x y v u Q I2 rx ry q) hm
def E7 (t:TE):TT:=fun σ H Q=>t σ H fun x H'=>∃ k,x=.bl k/\Q k H'
theorem DY {op:CmpOp} {r:R2} (ho:lX X (QS op) r) (ha:PE X a ta) (hb:PE X b tb) (hm:QT op b=false):PT X (.Compare a [op] [b] pos) (E7 (Ij r ta tb)):=by
 intro pins s σ H Q I h
 refine wpAny_isTrue_Compare1 (eK (ha pins s σ H _ I h) fun v s1 ⟨x,H1,I1,r1,q1⟩=>eK (hb pins s1 σ H1 _ I1 q1) fun u s2 ⟨y,H2,I2,r2,q2⟩ =>
  eK (ho pins s2 σ H2 x y v u _ I2 r1 r2 q2) fun c s3 ⟨z,H3,I3,r3,k,e,q3⟩=>?_) hm
 subst e
 cases r3
 exact QJ ⟨H3,I3,q3⟩
def Jd (K:Pa) (x:V) (H:Hp) (k:Bool):Prop :=
 match x with
 | .non=>k=false
 | .bl b=>k=b
 | .int i=>k=(i != 0)
 | .str y=>y.length<=Qv/\k=((y.length:Int) != 0)
 | .byt y=>y.size<=Qv/\k=((y.size:Int) != 0)
 | .ref p=>(∃ xs,nV K H p xs/\k=!xs.isEmpty)\/(∃ xs,oM K H p xs/\k=!xs.isEmpty)\/∃ kvs,H p=some (.dK kvs)/\k=!kvs.isEmpty
 | _=>False
theorem yv {κ:Type} {kvs:List (κ×V)} {vs:List (κ×Qp)} (r:KV kvs vs):(!vs.isEmpty)=!kvs.isEmpty:=by
 cases r <;> rfl
theorem rE {xs:List V} {its:List Qp} (r:Vals xs its):(!its.toArray.isEmpty)=!xs.isEmpty:=by
 cases r <;> simp
theorem pC:(Qv:Nat) < 2 ^ 63:=by rw [QU]; decide
theorem Gu:Kl X (fun x H Q=>∃ k,Jd X.K x H k/\Q k H):=by
 intro pins s σ H x v Q I rx h
 obtain⟨k,e,q⟩:=h
 have hl:=pC
 have hs:Qv=16777216:=QU
 cases x with
 | non =>
  cases rx
  have e':k=false:=e
  subst e'
  exact truthy_none ⟨H,I,q⟩
 | bl b =>
  cases rx
  have e':k=b:=e
  subst e'
  exact QJ ⟨H,I,q⟩
 | int i =>
  obtain⟨t,rfl⟩:=rx
  have e':k=(i != 0):=e
  subst e'
  exact PySem.P.truthy_int ⟨H,I,q⟩
 | str y =>
  obtain⟨t,rfl⟩:=rx
  obtain⟨hy,e'⟩:y.length<=Qv/\k=((y.length:Int) != 0):=e
  subst e'
  exact PySem.P.truthy_str ‹0› ⟨H,I.tok _,q⟩
 | byt y =>
  obtain⟨t,rfl⟩:=rx
  obtain⟨hy,e'⟩:y.size<=Qv/\k=((y.size:Int) != 0):=e
  subst e'
  exact PySem.W.truthy_bytes ‹0› ⟨H,I.tok _,q⟩
 | ref p =>
  cases rx
  have e':(∃ xs,nV X.K H p xs/\k=!xs.isEmpty)\/(∃ xs,oM X.K H p xs/\k=!xs.isEmpty)\/∃ kvs,H p=some (.dK kvs)/\k=!kvs.isEmpty:=e
  rcases e' with ⟨xs,hx,e'⟩ | ⟨xs,hx,e'⟩ | ⟨kvs,hx,e'⟩
  ·subst e'
   obtain⟨its,r,pl,hz⟩:=I.list hx
   have hlen:=r.length
   exact wpAny_truthy_list pl.isList (by simp only [ME]; omega) ⟨H,I.tok _,by rw [rE r]; exact q⟩
  ·subst e'
   obtain⟨its,r,pl,hz⟩:=I.tuple hx
   have hlen:=r.length
   exact truthy_tuple pl (by simp only [ME]; omega) ⟨H,I.tok _,by rw [rE r]; exact q⟩
  ·subst e'
   obtain⟨hz,hS,vs,r,m⟩:kvs.length<=Qv/\(p==sysModules)=false/\∃ vs,KV kvs vs/\s.heap.DictOf (bV X.prog X.w) p vs:=I.hok p _ hx
   have hlen:kvs.length=vs.length:=Paired.length r
   exact wpAny_truthy_dict hS m ‹0› ⟨H,I.tok _,by rw [yv r]; exact q⟩
 | _=>exact(show False from e).elim
theorem CI (ha:PE X a ta) (he:∀ whole,isTrue a X.env whole=(do let v <- whole; standAt a.pos; holding [v] (truthy v))) :
  PT X a (fun σ H Q=>ta σ H fun x H'=>∃ k,Jd X.K x H' k/\Q k H'):=by
 intro pins s σ H Q I h
 exact isTrue_plain (eK (ha pins s σ H _ I h) fun v s1 ⟨x,H1,I1,r1,q1⟩=>Gu pins s1 σ H1 x v Q I1 r1 q1) (he _)

theorem x8:lX X (QR .Add) (fun x y H Q=>∃ i j,x=.str i/\y=.str j/\i.length+j.length<=Qv/\Q (.str (i++j)) H):=by
 intro pins s σ H x y v u Q I rx ry h
 obtain⟨i,j,rfl,rfl,hz,q⟩:=h
 obtain⟨t,rfl⟩:=rx
 obtain⟨t',rfl⟩:=ry
 exact add_str (fun t' tk=>⟨.str (i++j),H,I.tok _,⟨_,rfl⟩,q⟩) hz
theorem vals1 {x:V} {us:List Qp} (r:Vals [x] us):∃ u,us=[u]/\RelV x u:=by
 cases r with
 | cons r1 r2=>cases r2; exact⟨_,rfl,r1⟩
theorem vals2 {x y:V} {us:List Qp} (r:Vals [x,y] us):∃ u w',us=[u,w']/\RelV x u/\RelV y w':=by
 cases r with
 | cons r1 r2 =>
  cases r2 with
  | cons r3 r4=>cases r4; exact⟨_,_,rfl,r1,r3⟩
theorem A6 (hc:X.calm=true):dR X (.builtin "max") (fun xs H Q=>∃ i j,xs=[.int i,.int j]/\Q (.int (if j > i then j else i)) H):=by
 intro pins s σ H xs us Q I r h
 obtain⟨i,j,rfl,q⟩:=h
 obtain⟨u,w',rfl,⟨t,rfl⟩,⟨t',rfl⟩⟩:=vals2 r
 refine max_two_ints (I.ok.hd hc) fun h' tk k=>⟨_,H,I.kept k,?_,q⟩
 by_cases hj:j > i
 ·rw [if_pos hj,if_pos hj]; exact⟨_,rfl⟩
 ·rw [if_neg hj,if_neg hj]; exact⟨_,rfl⟩
theorem AV (hc:X.calm=true):dR X (.builtin "min") (fun xs H Q=>∃ i j,xs=[.int i,.int j]/\Q (.int (if j < i then j else i)) H):=by
 intro pins s σ H xs us Q I r h
 obtain⟨i,j,rfl,q⟩:=h
 obtain⟨u,w',rfl,⟨t,rfl⟩,⟨t',rfl⟩⟩:=vals2 r
 refine min_two_ints (I.ok.hd hc) fun h' tk k=>⟨_,H,I.kept k,?_,q⟩
 by_cases hj:j < i
 ·rw [if_pos hj,if_pos hj]; exact⟨_,rfl⟩
 ·rw [if_neg hj,if_neg hj]; exact⟨_,rfl⟩
theorem uh:dR X (.type "int") (fun xs H Q=>(∃ i,xs=[.int i]/\Q (.int i) H)\/∃ k,xs=[.bl k]/\Q (.int (if k then 1 else 0)) H):=by
 intro pins s σ H xs us Q I r h
 rcases h with ⟨i,rfl,q⟩ | ⟨k,rfl,q⟩
 ·obtain⟨u,rfl,t,rfl⟩:=vals1 r
  exact call_int_int ⟨.int i,H,I,⟨_,rfl⟩,q⟩
 ·obtain⟨u,rfl,r1⟩:=vals1 r
  cases r1
  exact call_int_bool ⟨.int (if k then 1 else 0),H,I.tok _,⟨_,rfl⟩,q⟩
end
end L2

namespace L2
open PySem PySem.Spec PyProof.Rows

structure BF (h:Qu) (x dx C:Qs) (mA:Str->Option Qp):Prop where
 obj:h.get? x=some (O8 C dx)
 ns:h.Ns1 dx mA
 ne:dx≠x

theorem A3 {h:Qu} {dx:Qs} {mA:Str->Option Qp} (n:h.Ns1 dx mA):∃ od,h.get? dx=some od/\∀ name,Pb name od=some (mA name):=by
 obtain⟨o,es,ep,ho,hd,hk,_,hm⟩:=n
 refine⟨o,ho,fun name=>?_⟩
 have e:=hm name
 unfold nsFind findBy at e
 rw [<- Array.find?_toList] at e
 unfold Pb
 rw [hd]
 dsimp only
 split
 ·rename_i y q
  rw [q] at e
  exact congrArg some e
 ·rename_i q
  rw [q] at e
  have a:es.toList.any (·.refKey)=false:=by
   rw [List.any_eq_false]
   intro y hy
   obtain⟨z,t,hkey⟩:=hk y (Array.mem_toList_iff.mp hy)
   simp [DictEntry.refKey,hkey]
  have a':¬ es.toList.any (·.refKey)=true:=by rw [a]; exact MF
  rw [if_neg a']
  exact congrArg some e

theorem BF.look {h:Qu} {x dx C:Qs} {mA:Str->Option Qp} (I:BF h x dx C mA):∃ od,PySem.W.InstAt h x (O8 C dx) C (some od)/\∀ name,Pb name od=some (mA name) :=
 let ⟨od,ho,hl⟩:=A3 I.ns
 ⟨od,⟨I.obj,rfl,rfl,ho⟩,hl⟩

section
variable {prog:Qr} {w:Qq} {A:QA} {E:Qp->QB->Prop} {s:QB} {K:Pa} {x dx C f:Qs} {mA:Str->Option Qp} {name:Str} {v:Qp}

theorem BD {pl:Sem Bool} {Q:Qp×List Qp->QB->Prop} (X:K.In s.heap) (I:BF s.heap x dx C mA) (hg:Ph K C name=true)
  (hf:Pj K (.ref C) name=some (some (.ref f))) (ht:Pk K (.ref f)=true) (hv:mA name=none) (h:Q (.ref f,[.ref x]) s) :
  QD (model prog w) A (getMethod (.ref x) name pl) Q E s:=by
 obtain⟨od,J,hl⟩:=I.look
 exact PySem.W.method_fn X J (Pl hg).1 (Pl hg).2 hf (beq_iff_eq.mp ht) (by show (Pb name od).map (·.isSome)=some false; rw [hl,hv]; rfl) h

theorem DW {ns:List Str} {Q:Unit->QB->Prop} (X:K.In s.heap) (I:BF s.heap x dx C mA)
  (hs:Pj K (.ref C) "__setattr__"=some (some (.builtin "object.__setattr__"))) (hp:Pm K C=true) (ht:Pn K C name=some none) (hh:Pp K C=true)
  (hw:PySem.Within mA ns) (hsz:ns.length<=Qv)
  (h:∀ h',BF h' x dx C (fun y=>if y=name then some v else mA y)->PV dx s.heap h'->Q () { s with heap:=h',toks:=s.toks+2 }) :
  QD (model prog w) A (setAttr (.ref x) name v) Q E s:=by
 obtain⟨od,J,hl⟩:=I.look
 refine PySem.W.set_plain X J hs (PySem.W.osa_open (s:={ s with toks:=s.toks+1 }) (r:=none) X J hp ht fun b=>?_)
 obtain⟨cd,hc,hd'⟩:=PySem.W.any_some hh
 have hx:s.heap.get? x=some ⟨.ref C,some dx,.plain,#[]⟩:=I.obj
 refine QM (QL (QM (QM (wpAny_loadPart hx (QM (PySem.W.Looks.here (s:={ s with toks:=s.toks+1 }) (PySem.W.looks_clsIn X hc) ?_))))))
 rw [hd']
 refine QL (a:=some dx) (QM (QL (QM ?_)))
 refine wpAny_nsSet1 (s:={ s with toks:=s.toks+1 }) I.ns fun h' hn2 hs2=>?_
 obtain⟨oD,esD,epD,hoD,hdD,hcD⟩:=hn2.count (PySem.Within.cons name v hw)
 refine QM (wpAny_lookBehind hoD (by rw [hdD]; exact pastItsLine_dict (Mr hcD (by rw [MG]; omega))) ?_)
 exact QL (h _ ⟨(hs2.2 _ (Ne.symm I.ne)).trans I.obj,hn2,I.ne⟩ hs2)

theorem C1 {R:Result->QB->Prop} {vs:List Qp} {kw:List (Str×Qp)} (X:K.In s.heap) (hm:Pq K C=true)
  (hi:Pj K (.ref C) "__init__"=some (some (.ref f))) (hf:PySem.W.typeIn K (.ref f)=some (.type "function"))
  (h:QV (model prog w) (A.under (.builtin "type.__call__" ⟨.ref C::vs,kw⟩)) (.call (.ref f) ⟨.ref (s.heap.objs.size+1)::vs,kw⟩) (PySem.W.InitBack (s.heap.objs.size+1) R)
   { s with heap:=(s.heap.push Pr).push (O8 C s.heap.objs.size) }) :
  QV (model prog w) A (.call (.ref C) ⟨vs,kw⟩) R s:=by
 obtain⟨hh,g,d,t,os⟩:=s
 exact PySem.W.make_core (PySem.W.makes_of X hm) (PySem.W.looks_findIn X hi) (fun self=>PySem.W.bind_fn X self hf) (.inl rfl) h
end

def kO (f:Str) (v:V):List (Str×V)->List (Str×V)
 | []=>[(f,v)]
 | (g,x)::r=>if g=f then (g,v)::r else (g,x)::kO f v r
theorem p5 (f g:Str) (v:V):∀ fs:List (Str×V),(kO f v fs).lookup g=if g=f then some v else fs.lookup g
 | []=>by
  show List.lookup g [(f,v)]=_
  by_cases h:g=f
  ·have hb:(g==f)=true:=beq_iff_eq.mpr h
   simp only [List.lookup,hb,if_pos h]
  ·have hb:(g==f)=false:=beq_eq_false_iff_ne.mpr h
   simp only [List.lookup,hb,if_neg h]
 | (k,x)::r=>by
  have ih:=p5 f g v r
  rw [show kO f v ((k,x)::r)=(if k=f then (k,v)::r else (k,x)::kO f v r) from rfl]
  by_cases hk:k=f
  ·rw [if_pos hk]
   by_cases h:g=k
   ·have hb:(g==k)=true:=beq_iff_eq.mpr h
    simp only [List.lookup,hb,if_pos (h.trans hk)]
   ·have hb:(g==k)=false:=beq_eq_false_iff_ne.mpr h
    simp only [List.lookup,hb,if_neg (fun e:g=f=>h (e.trans hk.symm))]
  ·rw [if_neg hk]
   by_cases h:g=k
   ·have hb:(g==k)=true:=beq_iff_eq.mpr h
    simp only [List.lookup,hb,if_neg (fun e:g=f=>hk (h.symm.trans e))]
   ·have hb:(g==k)=false:=beq_eq_false_iff_ne.mpr h
    simp only [List.lookup,hb]
    exact ih
theorem oY (f:Str) (v:V):∀ fs:List (Str×V),f∈(kO f v fs).map (·.1)/\∀ g,g∈fs.map (·.1)->g∈(kO f v fs).map (·.1)
 | []=>⟨by simp [kO],fun g h=>by simp at h⟩
 | (k,x)::r=>by
  obtain⟨i1,i2⟩:=oY f v r
  rw [show kO f v ((k,x)::r)=(if k=f then (k,v)::r else (k,x)::kO f v r) from rfl]
  by_cases hk:k=f
  ·rw [if_pos hk]
   subst hk
   exact⟨by simp,fun g h=>by simpa using h⟩
  ·rw [if_neg hk]
   refine⟨?_,fun g h=>?_⟩
   ·rw [MH]
    exact Mv _ i1
   ·rw [MH] at h ⊢
    rcases List.mem_cons.mp h with e | e
    ·exact List.mem_cons.mpr (.inl e)
    ·exact Mv _ (i2 g e)
theorem qc (f:Str) (v:V):∀ fs:List (Str×V),(kO f v fs).length<=fs.length+1
 | []=>by simp [kO]
 | (k,x)::r=>by
  have ih:=qc f v r
  rw [show kO f v ((k,x)::r)=(if k=f then (k,v)::r else (k,x)::kO f v r) from rfl]
  by_cases hk:k=f
  ·rw [if_pos hk,MG,MG]; omega
  ·rw [if_neg hk,MG,MG]; omega

theorem rB.some_of {v:V} {o:Option Qp} (r:rB (some v) o):∃ u,o=some u/\RelV v u:=by
 cases o with
 | none=>exact(show False from r).elim
 | some u=>exact⟨u,rfl,r⟩
theorem rB.none_of {o:Option Qp} (r:rB none o):o=none:=by
 cases o with
 | none=>rfl
 | some u=>exact(show False from r).elim
section
variable {P:Qr} {w:Qq} {H H':Hp} {h h':Qu} {a C dx:Qs} {fs fs':List (Str×V)}
theorem y9 (hok:ox P w H h) (e:H a=some (.ins C dx fs)):∃ mA,BF h a dx C mA/\(∀ f,rB (fs.lookup f) (mA f))/\PySem.Within mA (fs.map (·.1))/\fs.length<=1000/\H dx=some (.own a):=by
 obtain⟨d,z,ne,ob,mA,n,r,q⟩:=(show cx P w H h a (.ins C dx fs) from hok a _ e)
 exact⟨mA,⟨ob,n,ne⟩,r,q,z,d⟩
end

structure Bn (K:Pa) (C:Qs):Prop where
 pg:Ph K C Str.empty=true
 hd:Pp K C=true
 po:Pm K C=true
 sa:Pj K (.ref C) "__setattr__"=some (some (.builtin "object.__setattr__"))
theorem Bn.get {K:Pa} {C:Qs} (c:Bn K C) (f:Str):Ph K C f=true:=c.pg
def oR (K:Pa) (C:Qs) (f:Str):Prop:=Pj K (.ref C) f=some none
theorem oR.taker {K:Pa} {C:Qs} {f:Str} (n:oR K C f):Pn K C f=some none:=by
 unfold Pn
 rw [show Pj K (.ref C) f=some none from n]
 rfl
structure Meth (K:Pa) (C:Qs) (m:Str) (f:Qs):Prop where
 at_:Pj K (.ref C) m=some (some (.ref f))
 fn:Pk K (.ref f)=true
 kp:Pt K (.ref f)=true

section
variable {X:Cx} {pins:List (Qs×Obj)} {σ:St} {H:Hp} {s:QB} {a C dx:Qs} {fs:List (Str×V)} {f:Str} {v:V} {A:QA} {E:Qp->QB->Prop}

theorem xS {m:Str} {g:Qs} {pl:Sem Bool} {Q:Qp×List Qp->QB->Prop} (I:Inv X pins σ H s) (e:H a=some (.ins C dx fs)) (c:Bn X.K C) (k:Meth X.K C m g) (l:fs.lookup m=none)
  (h:Q (.ref g,[.ref a]) s):QD (model X.prog X.w) A (getMethod (.ref a) m pl) Q E s:=by
 obtain⟨mA,O,r,_,_,_⟩:=y9 I.hok e
 have hn:mA m=none:=rB.none_of (by rw [<- l]; exact r m)
 exact BD I.kIn O (c.get m) k.at_ k.fn hn h

theorem yf {y:V} {u:Qp} {Q:Unit->QB->Prop} (I:Inv X pins σ H s) (e:H a=some (.ins C dx fs)) (c:Bn X.K C) (n:oR X.K C f) (hl:fs.length < 1000) (ry:RelV y u)
  (h:∀ s',Inv X pins σ (upd H a (.ins C dx (kO f y fs))) s'->Q () s'):QD (model X.prog X.w) A (setAttr (.ref a) f u) Q E s:=by
 obtain⟨mA,O,r,wi,_,ho⟩:=y9 I.hok e
 have hz:(fs.map (·.1)).length<=Qv:=by rw [MI,QU]; omega
 refine DW I.kIn O c.sa c.po n.taker c.hd wi hz fun h' O' sb=>h _ ?_
 have hd:∃ o,h'.get? dx=some o:=let ⟨o,_,_,e',_⟩:=O'.ns; ⟨o,e'⟩
 refine I.write (x:=a) (e:=dx) (by rw [e]; exact True.intro) (.inr ho) (fun b q hb z=>(sb.2 b hb).trans z) hd ?_
 refine⟨by rw [aD O.ne]; exact ho,?_,O.ne,O'.obj,_,O'.ns,fun g=>?_,fun g hg=>?_⟩
 ·have:=qc f y fs; omega
 ·show rB ((kO f y fs).lookup g) (if g=f then some u else mA g)
  rw [p5]
  by_cases q:g=f
  ·rw [if_pos q,if_pos q]; exact ry
  ·rw [if_neg q,if_neg q]; exact r g
 ·by_cases q:g=f
  ·rw [q]; exact(oY f y fs).1
  ·refine(oY f y fs).2 g (wi g fun z=>hg ?_)
   show (if g=f then some u else mA g)=none
   rw [if_neg q]; exact z

theorem Inv.made (I:Inv X pins σ H s):Inv X pins σ (upd (upd H s.heap.objs.size (.own (s.heap.objs.size+1))) (s.heap.objs.size+1) (.ins C s.heap.objs.size []))
  { s with heap:=(s.heap.push Pr).push (O8 C s.heap.objs.size) }:=by
 have e1:(s.heap.push Pr).get? s.heap.objs.size=some Pr:=PY s.heap rfl
 have e2:((s.heap.push Pr).push (O8 C s.heap.objs.size)).get? (s.heap.objs.size+1)=some (O8 C s.heap.objs.size):=by
  have:=PY (s.heap.push Pr) (o:=O8 C s.heap.objs.size) rfl
  rwa [PZ] at this
 have e3:(s.heap.push Pr).Ns s.heap.objs.size (fun _=>none):=⟨Pr,#[],_,e1,rfl,(fun e he=>absurd he (by simp)),fun _=>rfl⟩
 have I1:=I.laid (a:=s.heap.objs.size) (o:=.own (s.heap.objs.size+1)) (h':=s.heap.push Pr) (t':=s.toks) (fun b u q=>PX _ q) (MA _) ⟨_,e1⟩
 refine I1.laid (a:=s.heap.objs.size+1) (o:=.ins C s.heap.objs.size []) (t':=s.toks) (fun b u q=>PX _ q) (MJ (PZ _ _)) ?_
 have ne:s.heap.objs.size≠s.heap.objs.size+1:=Mq (Nat.lt_succ_self _)
 refine⟨by rw [aD ne,aM],MK _,ne,e2,fun _=>none,(Heap.Ns1.of_empty e3).at fun o q=>PX _ q,fun _=>True.intro,fun y hy=>absurd rfl hy⟩

end

def KJ (K:Pa) (ta tv:TE) (f:Str):TS:=fun D σ H=>tv σ H fun y H1=>ta σ H1 fun x H2=>∃ a C dx fs,x=.ref a/\H2 a=some (.ins C dx fs)/\Bn K C/\oR K C f/\fs.length < 1000 /\
 D.nx σ (upd H2 a (.ins C dx (kO f y fs)))
section
variable {X:Cx} {o e value:QE} {f:Str} {pos pos' tpos:Pos} {ta tv:TE}
theorem Hf (ha:PE X o ta) (hv:PE X value tv) (hs:swapsWith value (some (.Attribute o f pos')) pos.line X.env=pure false):PS X (.Assign [.Attribute o f pos'] value pos) (KJ X.K ta tv f):=by
 intro pins s σ H D I h
 refine plainObj_wpAny_Assign_Attribute (eK (hv pins s σ H _ I h) fun u s1 ⟨y,H1,I1,ry,q⟩=>eK (ha pins s1 σ H1 _ I1 q) fun ov s2 ⟨x,H2,I2,rx,a,C,dx,fs,ex,ea,c,n,l,q2⟩=>?_) hs
 subst ex
 obtain rfl:ov=Value.ref a:=rx
 exact yf I2 ea c n l ry fun s3 I3=>⟨σ,_,I3,q2⟩
theorem v4 {pl:Sem Bool} {m:Str} {apos:Pos} {args:List QE} {pins:List (Qs×Obj)} {s:QB} {σ:St} {H:Hp} {Q:Qp->QB->Prop} {te:TE} (he:PE X e te) (I:Inv X pins σ H s)
  (h:te σ H fun x H1=>∃ a C dx fs g,x=.ref a/\H1 a=some (.ins C dx fs)/\Bn X.K C/\Meth X.K C m g/\fs.lookup m=none /\
   ∀ s1,Inv X pins σ H1 s1->QD (model X.prog X.w) X.A (QW pos (.ref g) [.ref a] (backTo pos (QF args X.env)) (backToKw pos (QX [] X.env))) Q X.xe s1)
  (ht:eval (.Call (.Attribute e m apos) args [] pos) X.env=(do
   let ov <- eval e X.env
   standAt apos.atName
   let (f,first) <- holding [ov] (getMethod ov m pl)
   QW pos f first (backTo pos (QF args X.env)) (backToKw pos (QX [] X.env)))) :
  QD (model X.prog X.w) X.A (eval (.Call (.Attribute e m apos) args [] pos) X.env) Q X.xe s:=by
 refine PySem.W.methodCall_KW (pl:=pl) (eK (he pins s σ H _ I h) fun u s1 ⟨x,H1,I1,rx,a,C,dx,fs,g,ex,ea,c,k,l,q⟩=>?_) ht
 subst ex
 obtain rfl:u=Value.ref a:=rx
 exact xS I1 ea c k l (q s1 I1)
end

end L2

namespace L2
open PySem PySem.Spec PyProof.Rows

structure fE (k:Nat) (A:QA):Prop where
 hd:A.handled=none
 dp:A.depth+3*k+5 < QY
 un:A.units+16*k+200 < QZ
theorem fE.mono {j k:Nat} {A:QA} (r:fE k A) (h:j<=k):fE j A:=⟨r.hd,by have:=r.dp; omega,by have:=r.un; omega⟩
theorem fE.deeper {k:Nat} {A:QA} (r:fE (k+1) A) (env:Env):fE k (A.deeper env) :=
 ⟨r.hd,by have:=r.dp; show A.depth+1+3*k+5 < _; omega,by have:=r.un; show A.units+3+16*k+200 < _; omega⟩
theorem xZ {A:QA} {C:Qs} {us:List Qp} {kw:List (Str×Qp)}:(A.under (.builtin "type.__call__" ⟨.ref C::us,kw⟩)).depth=A.depth+1:=by
 first | rfl | simp [Around.under,Code.weight,Code.isCreation,Code.isGuard,Code.isCaller,Code.frames,Code.isFrame,guardIds]
theorem yu {A:QA} {C:Qs} {us:List Qp} {kw:List (Str×Qp)}:(A.under (.builtin "type.__call__" ⟨.ref C::us,kw⟩)).units=A.units+1:=by
 first | rfl | simp [Around.under,Code.cUnits,Code.frames,Code.isFrame]
theorem fE.make {k:Nat} {A:QA} (r:fE (k+1) A) (C:Qs) (us:List Qp) (kw:List (Str×Qp)):fE k (A.under (.builtin "type.__call__" ⟨.ref C::us,kw⟩)) :=
 ⟨r.hd,by have:=r.dp; rw [xZ]; omega,by have:=r.un; rw [yu]; omega⟩
theorem fE.depth {k:Nat} {A:QA} (r:fE k A):A.depth < QY:=by have:=r.dp; omega
theorem fE.units {k:Nat} {A:QA} (r:fE k A):A.units+64 < QZ:=by have:=r.un; omega
def J0:TA:=fun _ H Q=>Q [] H
def Id (ta:TE) (tr:TA):TA:=fun σ H Q=>ta σ H fun x H1=>tr σ H1 fun xs H2=>Q (x::xs) H2
section
variable {X:Cx} {e:QE} {es:List QE} {te:TE} {t:TA} {pos:Pos}
theorem o5:PA X [] J0:=fun _ _ _ _ H Q I h=>Calls.spliced_nil ⟨[],H,I,.nil,h⟩
theorem kJ (ha:PE X e te) (hr:PA X es t) (hs:QF (e::es) X.env=(false,eval e X.env)::QF es X.env:=by rfl):PA X (e::es) (Id te t):=by
 intro pos pins s σ H Q I h
 rw [hs]
 show QD _ _ (spliced ((false,eval e X.env)::backTo pos (QF es X.env))) _ _ s
 refine Calls.spliced_cons (eK (ha pins s σ H _ I h) fun u s1 ⟨x,H1,I1,r1,q1⟩=>?_)
 exact eK (hr pos pins s1 σ H1 _ I1 q1) fun us s2 ⟨xs,H2,I2,r2,q2⟩=>⟨x::xs,H2,I2,.cons r1 r2,q2⟩

def KR (t:TA):TE:=fun σ H Q=>t σ H fun xs H1=>xs.length<=Qv/\∀ p,H1 p=none->Q (.ref p) (upd H1 p (.tup xs))
def Lb (t:TA):TE:=fun σ H Q=>t σ H fun xs H1=>xs.length<=Qv/\∀ p,H1 p=none->Q (.ref p) (upd H1 p (.lst xs))
theorem Fw {x1} (h:PA X es t):PE X (.Tuple es x1 pos) (KR t):=by
 intro pins s σ H Q I hq
 refine wpAny_Tuple_spliced (eK (h pos pins s σ H _ I hq) fun us s1 ⟨xs,H1,I1,r,z,q⟩=>⟨by rw [<- r.length]; exact z,?_⟩)
 have hf:H1 s1.heap.objs.size=none:=I1.hok.fresh (MA _)
 refine⟨.ref s1.heap.objs.size,upd H1 s1.heap.objs.size (.tup xs),I1.laid (t':=s1.toks) (fun b u e=>PX _ e) (MA _) ?_,rfl,q _ hf⟩
 exact⟨z,us,r,⟨_,PY _ rfl,rfl,_,rfl⟩⟩
theorem yj (h:PA X es t):PE X (.List es pos) (Lb t):=by
 intro pins s σ H Q I hq
 refine wpAny_List_spliced (eK (h pos pins s σ H _ I hq) fun us s1 ⟨xs,H1,I1,r,z,q⟩=>⟨by rw [<- r.length]; exact z,?_⟩)
 have hf:H1 s1.heap.objs.size=none:=I1.hok.fresh (MA _)
 refine⟨.ref s1.heap.objs.size,upd H1 s1.heap.objs.size (.lst xs),I1.laid (t':=s1.toks) (fun b u e=>PX _ e) (MA _) ?_,rfl,q _ hf⟩
 exact⟨z,us,0,r,PY _ rfl⟩
end

abbrev Sp:=List V->Hp->VK->XK->Prop
abbrev yh:=List Env->Hp->QB->XK->Qp->QB->Prop

structure AQ (P:Qr) (w:Qq) (K:Pa) (mg:Str->Option Qp) (base:Qu) (A:QA) (outer:List Env) (s:QB) (H:Hp):Prop where
 frames:A.frames=some outer
 mod:Mod K mg base
 bs:∀ b o,base.get? b=some o->s.heap.get? b=some o/\H b=none
 bsz:base.objs.size<=s.heap.objs.size
 funs:s.heap.FunFrames base outer
 frf:∀ b∈frs outer,H b=none
 hok:ox P w H s.heap
 bare:AllBare s.gens
def CE (outer:List Env) (P:Qr) (w:Qq) (H:Hp) (s:QB) (Q:VK) (u:Qp) (s':QB):Prop :=
 ∃ v H',s'.os=s.os/\AllBare s'.gens/\Un (frs outer) [] H H' s.heap s'.heap/\ox P w H' s'.heap/\RelV v u/\Q v H'
def CR (CX:yh) (outer:List Env) (P:Qr) (w:Qq) (H:Hp) (s:QB) (Q:VK) (E:XK) (r:Result) (s':QB):Prop :=
 match r with
 | .ok (.ret u)=>CE outer P w H s Q u s'
 | .ok _=>False
 | .error e=>CX outer H s E e s'
structure iV (P:Qr) (w:Qq) (K:Pa) (mg:Str->Option Qp) (base:Qu) (CX:yh) (k:Nat) (f:Qs) (fd:Q0) (ps:List Str) (sp:Sp):Prop where
 len:∀ vs H Q E,sp vs H Q E->vs.length=ps.length
 run:∀ (A:QA) (outer:List Env) (s:QB) (H:Hp) (args:Args) (us:List Qp) (vs:List V) (Q:VK) (E:XK),fE k A->AQ P w K mg base A outer s H->Q1 s fd args (ps.zip us)->Vals vs us->sp vs H Q E ->
  QV (model P w) A (.call (.ref f) args) (CR CX outer P w H s Q E) s
theorem iV.mono {P:Qr} {w:Qq} {K:Pa} {mg:Str->Option Qp} {base:Qu} {CX:yh} {j k:Nat} {f:Qs} {fd:Q0} {ps:List Str} {sp:Sp} (F:iV P w K mg base CX j f fd ps sp) (h:j<=k) :
  iV P w K mg base CX k f fd ps sp:=⟨F.len,fun A outer s H args us vs Q E hr=>F.run A outer s H args us vs Q E (hr.mono h)⟩
theorem AQ.make {P:Qr} {w:Qq} {K:Pa} {mg:Str->Option Qp} {base:Qu} {A:QA} {outer:List Env} {s:QB} {H:Hp} (e:AQ P w K mg base A outer s H) (C:Qs) (us:List Qp) (kw:List (Str×Qp)) :
  AQ P w K mg base (A.under (.builtin "type.__call__" ⟨.ref C::us,kw⟩)) outer s H:=⟨by first | exact e.frames | (simpa [Around.under,Code.envs,Code.isFrame,pushEnvs] using e.frames),e.mod,e.bs,e.bsz,e.funs,e.frf,e.hok,e.bare⟩
section
variable {X:Cx} {pins:List (Qs×Obj)} {σ:St} {H:Hp} {s s':QB}
theorem Inv.env0 (I:Inv X pins σ H s):AQ X.prog X.w X.K X.mg X.base X.A X.stack s H :=
 ⟨I.ok.frames,I.ok.mod,I.bs,Mr I.ok.bsz I.sz,I.stack,I.stkFree,I.hok,I.bare⟩
theorem Inv.after {Q:VK} {u:Qp} (I:Inv X pins σ H s) (h:CE X.stack X.prog X.w H s Q u s'):EP X pins σ Q u s':=by
 obtain⟨v,H',os,bare,un,hok,r,q⟩:=h
 obtain⟨hh,g,d,t,os'⟩:=s'
 obtain rfl:os'=s.os:=os
 exact⟨v,H',I.call (h':=hh) (g':=g) (d':=d) (t':=t) (ch:=[]) un hok bare (fun b z=>absurd z (by simp)),r,q⟩
end

def IJ (C:Qs) (sp:Sp) (dvs:List V) (E:XK) (t:TA):TE:=fun σ H Q=>t σ H fun vs H1=>∀ x dx,H1 x=none->H1 dx=none->dx≠x ->
 sp (.ref x::(vs++dvs)) (upd (upd H1 dx (.own x)) x (.ins C dx [])) (fun v H2=>v=.non/\Q (.ref x) H2) E

def Binds (K:Pa) (fd:Q0) (ps:List Str) (ds:List Qp):Prop :=
 ∀ (s:QB) (us:List Qp),K.In s.heap->(us++ds).length=ps.length->Q1 s fd ⟨us,[]⟩ (ps.zip (us++ds))
theorem Binds.all {K:Pa} {fd:Q0} {ps:List Str} (h:∀ us:List Qp,us.length=ps.length->bindArgs fd ⟨us,[]⟩=pure (ps.zip us)):Binds K fd ps []:=fun s us _ hl=>by
 rw [ML] at hl ⊢
 exact .of_eq (h us hl)

def yQ (CX:yh) (X:Cx) (E:XK):Prop:=∀ (pins:List (Qs×Obj)) (σ:St) (H:Hp) (s:QB) (e:Qp) (s':QB),Inv X pins σ H s->CX X.stack H s E e s'->X.xe e s'

section
variable {X:Cx} {CX:yh} {k:Nat} {f C:Qs} {fd:Q0} {ps:List Str} {sp:Sp} {dvs:List V} {ds:List Qp} {E:XK} {x m:Str} {p pos apos:Pos} {e o:QE} {es:List QE} {ta:TE} {t:TA}

structure Mk (K:Pa) (C f:Qs):Prop where
 makes:Pq K C=true
 init:Pj K (.ref C) "__init__"=some (some (.ref f))
 fn:Pk K (.ref f)=true
 kp:Pt K (.ref C)=true

theorem C9 {pins:List (Qs×Obj)} {σ:St} {H:Hp} {s:QB} {Q:VK} {us:List Qp} {vs:List V} (M:Mk X.K C f) (F:iV X.prog X.w X.K X.mg X.base CX k f fd ps sp) (hr:fE (k+1) X.A) (hb:Binds X.K fd ps ds) (hd:Vals dvs ds)
  (hx:yQ CX X E) (I:Inv X pins σ H s) (r:Vals vs us)
  (h:∀ x dx,H x=none->H dx=none->dx≠x->sp (.ref x::(vs++dvs)) (upd (upd H dx (.own x)) x (.ins C dx [])) (fun v H2=>v=.non/\Q (.ref x) H2) E) :
  QD (model X.prog X.w) X.A (call (.ref C) us) (EP X pins σ Q) X.xe s:=by
 have hq:=h (s.heap.objs.size+1) s.heap.objs.size (I.hok.fresh (MM _)) (I.hok.fresh (MA _)) (Mq (Nat.lt_succ_self _))
 have I2:=Inv.made (C:=C) I
 have r2:Vals (V.ref (s.heap.objs.size+1)::(vs++dvs)) (Value.ref (s.heap.objs.size+1)::(us++ds)):=.cons rfl (r.append hd)
 have hl:(Value.ref (s.heap.objs.size+1)::us++ds).length=ps.length:=by
  have e:=r2.length
  rw [F.len _ _ _ _ hq] at e
  exact e.symm
 refine wpAny_call (C1 (f:=f) I.kIn M.makes M.init (beq_iff_eq.mp M.fn) (Q2 (F.run _ X.stack _ _ ⟨Value.ref (s.heap.objs.size+1)::us,[]⟩ (Value.ref (s.heap.objs.size+1)::(us++ds)) _ _ E (hr.make C us [])
  (I2.env0.make C us []) (hb _ (Value.ref (s.heap.objs.size+1)::us) I2.kIn hl) r2 hq) fun r s' hq'=>?_))
 cases r with
 | error e=>exact hx pins σ _ _ e s' I2 hq'
 | ok fl =>
  cases fl with
  | ret u =>
   obtain⟨v,H',I3,rv,ev,q3⟩:=I2.after hq'
   subst ev
   exact⟨rv,⟨V.ref (s.heap.objs.size+1),H',I3,rfl,q3⟩⟩
  | next=>exact False.elim hq'
  | brk=>exact False.elim hq'
  | cont=>exact False.elim hq'
theorem DG (M:Mk X.K C f) (F:iV X.prog X.w X.K X.mg X.base CX k f fd ps sp) (hr:fE (k+1) X.A) (hg:Gl X x) (hm:X.mg x=some (.ref C)) (hb:Binds X.K fd ps ds) (hd:Vals dvs ds) (hx:yQ CX X E)
  (ha:PA X (e::es) t) (hdb:(x==("__debug__":Str))=false:=by decide) (he:QF (e::es) X.env=(false,eval e X.env)::QF es X.env:=by rfl) (hpl:(backTo pos (QF es X.env)).any (·.1)=false:=by rfl) :
  PE X (.Call (.Name x p) (e::es) [] pos) (IJ C sp dvs E t):=by
 intro pins s σ H Q I h
 refine Q3 (zi I hg hm ?_ hdb)
 refine Pu (h₀:=X.base) I.ok.mod.kin M.kp (eK (ha pos pins s σ H _ I h) fun us s1 ⟨vs,H1,I1,r,q⟩=>⟨I1.kIn,?_⟩) he hpl
 exact C9 M F hr hb hd hx I1 r q
end


structure bj (N P:List Str) (sc:QC):Prop where
 kind:sc.kind=.function
 co:sc.isCoroutine=false
 gen:sc.isGenerator=false
 nd:N.Nodup
 pre:N.take P.length=P
 par:∀ x∈P,sc.names.lookup x=some .local\/sc.names.lookup x=some .cell
 nofree:∀ y∈sc.names,y.2≠.free

theorem uq {kindOf:Str->Option Q4} {x:Str}:∀ {binds:List (Str×Qp)} {m:Str->Option Qp},(∀ v,(x,v)∉binds)->bindL kindOf binds m x=m x
 | [],_,_=>rfl
 | (n,v)::r,m,h=>by
  unfold bindL
  rw [uq fun w hw=>h w (Mv _ hw)]
  split
  ·have:x≠n:=by rintro rfl; exact h v Mu
   simp [this]
  ·rfl
theorem uU {kindOf:Str->Option Q4} {x:Str}:∀ {binds:List (Str×Qp)} {m:Str->Option Qp},(∀ v,(x,v)∉binds)->bindC kindOf binds m x=m x
 | [],_,_=>rfl
 | (n,v)::r,m,h=>by
  unfold bindC
  rw [uU fun w hw=>h w (Mv _ hw)]
  split
  ·rfl
  ·have:x≠n:=by rintro rfl; exact h v Mu
   simp [this]
theorem uF {kindOf:Str->Option Q4} {x:Str} {v:Qp}:∀ {P:List Str} {vs:List Qp} {i:Nat} {m:Str->Option Qp},P.Nodup->P[i]?=some x->vs[i]?=some v->kindOf x=some .local ->
  bindL kindOf (P.zip vs) m x=some v
 | [],_,_,_,_,h,_,_=>by simp at h
 | _::_,[],_,_,_,_,h,_=>by simp at h
 | p::P,w::vs,0,m,nd,h1,h2,hk=>by
  simp at h1 h2; subst h1; subst h2
  show bindL kindOf ((p,w)::P.zip vs) m p=_
  unfold bindL
  rw [uq fun v hv=>(List.nodup_cons.mp nd).1 (MN hv).1,if_pos hk]
  simp
 | p::P,w::vs,i+1,m,nd,h1,h2,hk=>by
  show bindL kindOf ((p,w)::P.zip vs) m x=_
  unfold bindL
  exact uF (i:=i) (List.nodup_cons.mp nd).2 (by simpa using h1) (by simpa using h2) hk
theorem uO {kindOf:Str->Option Q4} {x:Str} {v:Qp}:∀ {P:List Str} {vs:List Qp} {i:Nat} {m:Str->Option Qp},P.Nodup->P[i]?=some x->vs[i]?=some v->kindOf x≠some .local ->
  bindC kindOf (P.zip vs) m x=some v
 | [],_,_,_,_,h,_,_=>by simp at h
 | _::_,[],_,_,_,_,h,_=>by simp at h
 | p::P,w::vs,0,m,nd,h1,h2,hk=>by
  simp at h1 h2; subst h1; subst h2
  show bindC kindOf ((p,w)::P.zip vs) m p=_
  unfold bindC
  rw [uU fun v hv=>(List.nodup_cons.mp nd).1 (MN hv).1,if_neg hk]
  simp
 | p::P,w::vs,i+1,m,nd,h1,h2,hk=>by
  show bindC kindOf ((p,w)::P.zip vs) m x=_
  unfold bindC
  exact uO (i:=i) (List.nodup_cons.mp nd).2 (by simpa using h1) (by simpa using h2) hk

def start (N:List Str) (vs:List V):St:=vs.map some++List.replicate (N.length - vs.length) none

def ji (CX:yh) (P:Qr) (w:Qq) (K:Pa) (mg:Str->Option Qp) (base:Qu) (N:List Str) (qual:Str) (scope:QC) (f:Qs) (cd:Qp) (A:QA) (outer:List Env) (s:QB) (H:Hp) (E:XK):Cx where
 prog:=P
 w:=w
 K:=K
 mg:=mg
 base:=base
 A:=A.deeper (envOfC qual scope s.heap.objs.size f cd)
 N:=N
 s₀:=s
 H₀:=H
 env:=envOfC qual scope s.heap.objs.size f cd
 outer:=outer
 stack:=envOfC qual scope s.heap.objs.size f cd::outer
 ex:=[]
 calm:=true
 fn:=fun _=>true
 pn:=[]
 xe:=fun e s'=>QD (model P w) (A.deeper (envOfC qual scope s.heap.objs.size f cd)) (leaving (envOfC qual scope s.heap.objs.size f cd) e) (fun _ s''=>CX outer H s E e s'') (fun e' s''=>CX outer H s E e' s'') s'

theorem wc {sc:QC} {n:Nat} {x:Str} (h:sc.names.lookup x=some .cell):∃ c,(cellsFrom n sc.names []).lookup x=some c:=by
 have q:=Pw sc.names n [] (.inl h)
 exact Option.isSome_iff_exists.mp q

theorem An {CX:yh} {P:Qr} {w:Qq} {K:Pa} {mg:Str->Option Qp} {base:Qu} {N ps:List Str} {qual:Str} {scope:QC} {f:Qs} {cd:Qp} {A:QA} {outer:List Env} {s s1:QB} {H:Hp} {E:XK} {us:List Qp} {vs:List V}
  (S:bj N ps scope) (hd:A.handled=none) (e0:AQ P w K mg base A outer s H) (hl:vs.length=ps.length) (r:Vals vs us)
  (x:InCallC s s.heap.objs.size (bindL (envOfC qual scope s.heap.objs.size f cd).kindOf (ps.zip us) fun _=>none) (cellsFrom (s.heap.objs.size+1) scope.names []) (bindC (envOfC qual scope s.heap.objs.size f cd).kindOf (ps.zip us) fun _=>none) s1) :
  Inv (ji CX P w K mg base N qual scope f cd A outer s H E) [] (start N vs) H s1:=by
 have hpl:ps.length<=N.length:=by have:=congrArg List.length S.pre; rw [MO] at this; omega
 obtain⟨h1,tk,rfl,hk⟩:=x.done
 have noA:∀ b:Qs,b∉(ji CX P w K mg base N qual scope f cd A outer s H E).ex:=fun b z=>absurd (show b∈([]:List Qs) from z) (by simp)
 refine⟨⟨e0.mod,S.kind,rfl,rfl,MA _,fun y z c h1 h2=>?_,fun y hy=>?_,fun y c _ h=>?_,fun _=>hd,Around.frames_deeper e0.frames,.inr ⟨rfl,rfl⟩,fun b z=>absurd z (noA b),e0.bs,e0.bsz,fun b _ _=>noA b,fun b z=>absurd z (noA b),e0.funs,e0.frf⟩,
  rfl,e0.bare,Un.kept hk,⟨_,x.toInCall.ns,fun i y v h1 h2 h3=>?_⟩,fun y c h=>⟨_,x.cell y c h⟩,e0.hok.fresh (MA _),fun y c h=>?_,fun p hp=>absurd (show p∈([]:List (Qs×Obj)) from hp) (by simp),e0.hok.kept hk,?_⟩
 ·exact name_of_addr x.apart (PySem.mem_of_lookup h1) (PySem.mem_of_lookup h2)
 ·have hy:scope.names.lookup y=some .cell\/scope.names.lookup y=some .free:=hy
  rcases hy with hy | hy
  ·exact wc hy
  ·exact absurd rfl (S.nofree _ (PySem.mem_of_lookup hy))
 ·exact Ms (x.above y c (PySem.mem_of_lookup h))
 ·have hi:i < vs.length:=by
   unfold start at h2
   by_cases hi:i < vs.length
   ·exact hi
   ·rw [MP (by simpa using hi)] at h2
    rw [MQ] at h2
    split at h2 <;> cases h2
  have ha:vs[i]?=some v:=by
   unfold start at h2
   rw [MR (by simpa using hi),MS] at h2
   cases e:vs[i]? with
   | none=>rw [e] at h2; cases h2
   | some a=>rw [e] at h2; cases h2; rfl
  obtain⟨u,hu,rv⟩:=r.get ha
  have hp:ps[i]?=some y:=by
   rw [<- S.pre,List.getElem?_take_of_lt ‹0›]; exact h1
  have ndP:ps.Nodup:=by rw [<- S.pre]; exact S.nd.sublist (MT _ _)
  refine⟨u,rv,?_⟩
  rcases S.par y (MU hp) with k | k
  ·exact .inl ⟨k,uF ndP hp hu k⟩
  ·obtain⟨c,e⟩:=wc (n:=s.heap.objs.size+1) k
   refine .inr ⟨.inl k,c,e,?_⟩
   have q:=x.cell y c e
   rw [uO ndP hp hu (by show scope.names.lookup y≠_; rw [k]; decide)] at q
   exact q
 ·exact e0.hok.fresh (Ms (x.above y c (PySem.mem_of_lookup h)))
 ·unfold start
  show _=N.length
  rw [MV,MI,List.length_replicate]
  omega

theorem Ct {CX:yh} {P:Qr} {w:Qq} {K:Pa} {mg:Str->Option Qp} {base:Qu} {k:Nat} {f:Qs} {name qual:Str} {params:Q5} {body:List QG} {scope:QC} {dV kV doc pm cdv ct oc:Qp} {an od:Option Qs}
  {osl:Array (Option Qp)} {N ps:List Str} {sp:Sp} (lk:K.lookup f=some ⟨oc,od,.func (Px name qual params body scope dV kV doc pm an cdv ct),osl⟩) (hcd:Py K cdv qual=true) (S:bj N ps scope)
  (len:∀ vs H Q E,sp vs H Q E->vs.length=ps.length)
  (hbody:∀ (A:QA) (outer:List Env) (s:QB) (H:Hp) (vs:List V) (Q:VK) (E:XK),fE k (A.deeper (envOfC qual scope s.heap.objs.size f cdv))->sp vs H Q E ->
   ∃ t,xx (ji CX P w K mg base N qual scope f cdv A outer s H E) body t/\t { nx:=fun _ H'=>Q .non H',rt:=Q } (start N vs) H) :
  iV P w K mg base CX (k+1) f (Px name qual params body scope dV kV doc pm an cdv ct) ps sp:=by
 refine⟨len,fun A outer s H args us vs Q E hr e0 hb r hsp=>?_⟩
 have hl:=len _ _ _ _ hsp
 have KX:K.In s.heap:=e0.mod.kin.keeps fun b o e=>(e0.bs b o e).1
 have lim:s.heap.NoLimit:=e0.mod.nolimit.keeps fun b o e=>(e0.bs b o e).1
 have hkind:∀ y∈ps.zip us,scope.names.lookup y.1=some .local\/(scope.names.lookup y.1=some .cell/\((cellsFrom (s.heap.objs.size+1) scope.names []).lookup y.1).isSome=true):=fun ⟨n,v⟩ hy=>by
  rcases S.par n (MN hy).1 with q | q
  ·exact .inl q
  ·exact .inr ⟨q,Pw _ _ _ (.inl q)⟩
 refine codeAny_call_function hr.depth (KX _ _ lk) rfl S.co S.gen rfl (PySem.W.codeRec_of KX hcd) (hb _ _ _ _ ?_)
 refine wpAny_newFunctionEnv_cells S.kind hkind fun env he s1 x=>?_
 subst he
 refine⟨lim.keeps x.toInCall.keep,codeAny_func ?_⟩
 obtain⟨t,ht,hq⟩:=hbody A outer s H vs Q E (hr.deeper _) hsp
 have I:Inv (ji CX P w K mg base N qual scope f cdv A outer s H E) [] (start N vs) H s1:=An S hr.hd e0 hl r x
 refine QH (ht [] s1 (start N vs) H _ I hq) (fun fl s' hs=>?_) fun e s' hs=>hs
 have fin:∀ {σ':St} {H':Hp} {v:V} {u:Qp},Inv (ji CX P w K mg base N qual scope f cdv A outer s H E) [] σ' H' s'->RelV v u->Q v H'->CE outer P w H s Q u s' :=
  fun {σ' H' v u} J rv q=>⟨v,H',J.os,J.bare,J.base,J.hok,rv,q⟩
 cases fl with
 | ret u =>
  obtain⟨v,σ',H',J,rv,q⟩:=hs
  exact fin J rv q
 | next =>
  obtain⟨σ',H',J,q⟩:=hs
  exact fin (v:=V.non) (u:=Value.none) J rfl q
 | brk =>
  obtain⟨_,_,_,q⟩:=hs
  exact False.elim q
 | cont =>
  obtain⟨_,_,_,q⟩:=hs
  exact False.elim q
end L2

namespace L2
open PySem PySem.Spec PyProof.Rows
section
variable {X:Cx} {x:Str} {p pos:Pos} {e:QE} {es:List QE} {t:TA} {id T:String} {r:List V->Hp->VK->Prop}

def Lc (r:List V->Hp->VK->Prop) (t:TA):TE:=fun σ H Q=>t σ H fun vs H1=>r vs H1 Q
theorem xB (hc:dR X (.builtin id) r) (hg:Gl X x) (hm:X.mg x=none) (hv:Qz x=some (.builtin id)) (ha:PA X (e::es) t) (hn:x ≠ "__name__":=by decide) (hdb:(x==("__debug__":Str))=false:=by decide)
  (he:QF (e::es) X.env=(false,eval e X.env)::QF es X.env:=by rfl) (hpl:(backTo pos (QF es X.env)).any (·.1)=false:=by rfl):PE X (.Call (.Name x p) (e::es) [] pos) (Lc r t):=by
 intro pins s σ H Q I h
 refine Q3 (lM I hg hm hv ?_ hn hdb)
 exact PyProof.Rows.callWith_builtin1 (eK (ha pos pins s σ H _ I h) fun us s1 ⟨vs,H1,I1,r1,q1⟩=>hc pins s1 σ H1 vs us Q I1 r1 q1) he hpl
theorem tV (hc:dR X (.type T) r) (hg:Gl X x) (hm:X.mg x=none) (hv:Qz x=some (.type T)) (ha:PA X (e::es) t) (hn:x ≠ "__name__":=by decide) (hdb:(x==("__debug__":Str))=false:=by decide)
  (he:QF (e::es) X.env=(false,eval e X.env)::QF es X.env:=by rfl) (hpl:(backTo pos (QF es X.env)).any (·.1)=false:=by rfl):PE X (.Call (.Name x p) (e::es) [] pos) (Lc r t):=by
 intro pins s σ H Q I h
 refine Q3 (lM I hg hm hv ?_ hn hdb)
 exact P8 (eK (ha pos pins s σ H _ I h) fun us s1 ⟨vs,H1,I1,r1,q1⟩=>hc pins s1 σ H1 vs us Q I1 r1 q1) he hpl
end
end L2

namespace HT
open PySem PyProof.Rows

theorem HM (A:QA) (s:QB) (a:Int) (t:Tok) (c:Int) (u:Tok) (prog:Qr) (w:Qq) (E:Qp->QB->Prop) (Q:Qp->QB->Prop) (h:Q (.bool (decide (a < c))) s) :
  QD (model prog w) A (richCompare .Lt (.int a t) (.int c u)) Q E s :=
 (PyProof.Rows.lt_int h:QD (model prog w) A (QS .Lt (.int a t) (.int c u)) Q E s)

section
open PySem.SeqAt
open PySem.AutoSeq1 (wpAny_loadPart')
open PySem.MeetsSeq PySem.MeetsSeq2 PySem.MeetsSeq3

end

section
variable {prog:Qr} {w:Qq} {A:QA} {E:Qp->QB->Prop} {s:QB}

theorem Jm {t b:Qs} {vs ws:List Qp} {Q:Qp->QB->Prop} (ht:Qw s.heap t vs.toArray) (hb:Qw s.heap b ws.toArray) (hv:vs≠[])
  (h1:ws=[]->Q (.ref t) s) (h2:ws≠[]->Q (.ref s.heap.objs.size) { s with heap:=s.heap.push { cls:=.type "tuple",data:=.seq (vs++ws).toArray } })
  (hsz:vs.length+ws.length<=Qv):QD (model prog w) A (QR .Add (.ref t) (.ref b)) Q E s:=by
 obtain⟨⟨cls,dd,data,sl⟩,ho,hc,n,hd⟩:=id ht
 obtain⟨⟨cls2,dd2,data2,sl2⟩,ho2,hc2,n2,hd2⟩:=id hb
 simp only at hc hd hc2 hd2
 subst hc hd hc2 hd2
 have e:vs.toArray++ws.toArray=(vs++ws).toArray:=by simp
 by_cases hw:ws=[]
 ·exact Q6 ⟨_,ho,rfl⟩ ⟨_,ho2,rfl⟩ Q7 Q8 Qk Ql (Qm _ _)
   (tuple_addW1 t b vs.toArray ws.toArray n n2 dd dd2 sl sl2 (by simpa using hv) (by simp [hw])) ⟨ho,ho2,h1 hw⟩
 ·refine Q6 ⟨_,ho,rfl⟩ ⟨_,ho2,rfl⟩ Q7 Q8 Qk Ql (Qm _ _)
   (tuple_addW2 t b vs.toArray ws.toArray n n2 dd dd2 sl sl2 (by simpa using hv) (by simpa using hw) (by rw [ME,ME]; exact hsz)) ⟨ho,ho2,?_⟩
  rw [e]
  exact h2 hw

def sIx (n d:Nat):Option Int->Nat
 | none=>d
 | some v=>if v < 0 then (v+(n:Int)).toNat else min v.toNat n
theorem Ja (n d:Nat):sIx n d none=d:=rfl
theorem JK (n d k:Nat):sIx n d (some (k:Int))=min k n:=by
 show (if (k:Int) < 0 then ((k:Int)+(n:Int)).toNat else min (k:Int).toNat n)=min k n
 rw [if_neg ‹0›,MX]
theorem GB (n d:Nat) (hd:d<=n) (o:Option Int):sIx n d o<=n:=by
 cases o with
 | none=>exact hd
 | some v =>
  show (if v < 0 then (v+(n:Int)).toNat else min v.toNat n)<=n
  by_cases hv:v < 0
  ·rw [if_pos hv]; omega
  ·rw [if_neg hv]; exact Nat.min_le_right _ _
theorem yX (v:Int) (n d:Nat):(if v < 0 then max (v+(n:Int)) 0 else min v (n:Int))=((sIx n d (some v):Nat):Int):=by
 show (if v < 0 then max (v+(n:Int)) 0 else min v (n:Int))=(((if v < 0 then (v+(n:Int)).toNat else min v.toNat n):Nat):Int)
 by_cases hv:v < 0
 ·simp only [if_pos hv]; omega
 ·simp only [if_neg hv]; omega
theorem x4 (lo hi:Option Int) (n:Nat):Builtin.Slice.sliceAdjust lo hi 1 (n:Int)=(((sIx n 0 lo:Nat):Int),((sIx n n hi:Nat):Int)):=by
 have h1:¬ ((1:Int) < 0):=by omega
 unfold Builtin.Slice.sliceAdjust
 simp only [h1,if_false]
 refine Prod.ext ?_ ?_
 ·cases lo with
  | none=>rfl
  | some v=>exact yX v n 0
 ·cases hi with
  | none=>rfl
  | some v=>exact yX v n n
theorem x9 (i j:Nat):Builtin.Slice.slicePlaces (i:Int) (j:Int) 1=j - i:=by
 unfold Builtin.Slice.slicePlaces
 have h1:(1:Int) > 0:=by omega
 simp only [h1,if_true,Int.ediv_one]
 split <;> omega
theorem rg {v:Qp} {o:Option Int} {Q:Option Int->QB->Prop} (p:Q9 v o) (h:Q o s):QD (model prog w) A (Builtin.Slice.slicePartIndex v) Q E s:=by
 cases p with
 | none=>exact slicePart_none h
 | int i t=>exact slicePart_int h
theorem oO {sl:Qs} {vl vu:Qp} {lo hi:Option Int} {n:Nat} {Q:Int×Int×Nat->QB->Prop} (hs:s.heap.IsSliceOf sl vl vu .none) (pl:Q9 vl lo) (pu:Q9 vu hi)
  (h:Q (((sIx n 0 lo:Nat):Int),1,sIx n n hi - sIx n 0 lo) s):QD (model prog w) A (Builtin.Slice.sliceApplied (.ref sl) (pure (n:Int))) Q E s:=by
 obtain⟨os,hos,hcs,hds⟩:=id hs
 unfold Builtin.Slice.sliceApplied Builtin.Slice.sliceFields
 refine QM (QM (Ra hos hds (x:=vl) rfl (QM (Ra hos hds (x:=vu) rfl (QM (Ra hos hds (x:=.none) rfl (QL ?_)))))))
 refine QM (slicePart_none ?_)
 show QD _ _ (if ((1:Int)==0)=true then _ else _) _ _ s
 rw [if_neg (by decide)]
 refine QM (rg pl (QM (rg pu (QM (QL ?_)))))
 show QD _ _ (match Builtin.Slice.sliceAdjust lo hi 1 (n:Int) with | (lo,hi)=>pure (lo,(1:Int),Builtin.Slice.slicePlaces lo hi 1)) _ _ s
 rw [x4 lo hi n]
 show QD _ _ (pure (((sIx n 0 lo:Nat):Int),(1:Int),Builtin.Slice.slicePlaces ((sIx n 0 lo:Nat):Int) ((sIx n n hi:Nat):Int) 1)) _ _ s
 rw [x9]
 exact QL h
theorem Cb (xs:Array Qp) (i k:Nat):((List.range k).filterMap fun (m:Nat)=>xs[((i:Int)+(m:Int)*1).toNat]?).toArray=((xs.toList.drop i).take k).toArray:=by
 have e:(fun (m:Nat)=>xs[((i:Int)+(m:Int)*1).toNat]?)=fun m=>xs[i+m]?:=by
  funext m
  have:((i:Int)+(m:Int)*1).toNat=i+m:=by omega
  rw [this]
 rw [e]
 have:=pick_run xs i k
 rw [List.filterMap_map] at this
 have e2:((fun x=>xs[x]?) ∘ fun x=>i+x)=fun m=>xs[i+m]?:=rfl
 rw [e2] at this
 rw [this]

theorem zr {t sl:Qs} {items:Array Qp} {vl vu:Qp} {lo hi:Option Int} {Q:Qp->QB->Prop} (ht:Qw s.heap t items) (hs:s.heap.IsSliceOf sl vl vu .none) (pl:Q9 vl lo) (pu:Q9 vu hi)
  (hw:¬ (sIx items.size 0 lo=0/\sIx items.size items.size hi=items.size))
  (h:Q (.ref s.heap.objs.size) { s with heap:=s.heap.push { cls:=.type "tuple",data:=.seq ((items.toList.drop (sIx items.size 0 lo)).take (sIx items.size items.size hi - sIx items.size 0 lo)).toArray } })
  (hsz:items.size<=Qv):QD (model prog w) A (getItem (.ref t) (.ref sl)) Q E s:=by
 have htake:sizeOk (.seq ((items.toList.drop (sIx items.size 0 lo)).take (sIx items.size items.size hi - sIx items.size 0 lo)).toArray):=by
  show ((items.toList.drop (sIx items.size 0 lo)).take (sIx items.size items.size hi - sIx items.size 0 lo)).toArray.size<=Qv
  rw [ME,MO,MY,Array.length_toList]
  omega
 have hj:sIx items.size items.size hi<=items.size:=GB _ _ (MA _) hi
 obtain⟨os,hos,hcs,hds⟩:=id hs
 have hTs:s.TypeIs (.ref sl) "slice":=⟨os,hos,hcs⟩
 unfold getItem
 try with_reducible refine Rb ?_
 first | refine QM (QL ?_) | skip
 refine QM (wpAny_sequenceKey ht.typeIs (by decide) ?_)
 refine QM (Rc (name:=Str.ofString "__getitem__") ht.typeIs P9
  (Rf P9 ht.typeIs entry_tuple_getitem ?_ (args_tuple_getitem _ _)))
 show QD _ _ (Builtin.Tuple.tupleItemsOf (.ref t) >>= _) _ _ s
 refine QM (tupleItemsOf_ ht ?_)
 refine QM (Rg hTs ?_)
 rw [if_pos (by decide)]
 refine QM (oO hs pl pu ?_)
 have hno:¬ ((((sIx items.size 0 lo:Nat):Int)==0 && (1:Int)==1 && (sIx items.size items.size hi - sIx items.size 0 lo)==items.size)=true):=by
  intro q
  rw [MZ,MZ] at q
  have q1:((sIx items.size 0 lo:Nat):Int)=0:=eq_of_beq q.1.1
  have q2:sIx items.size items.size hi - sIx items.size 0 lo=items.size:=eq_of_beq q.2
  exact hw ⟨by omega,by omega⟩
 show QD _ _ (if (((sIx items.size 0 lo:Nat):Int)==0 && (1:Int)==1 && (sIx items.size items.size hi - sIx items.size 0 lo)==items.size)=true then _ else _) _ _ s
 rw [if_neg hno,Cb]
 first
  | exact QM (m:=Builtin.Tuple.tupleExact _) (Rh (QL ⟨_,rfl,QL h⟩) htake)
  | exact QM (m:=Builtin.Tuple.tupleExact _) (Rh (QM (QL (QL ⟨_,rfl,QL h⟩))) htake)
  | exact QM (QM (m:=Builtin.Tuple.tupleExact _) (Rh (QL (QL ⟨_,rfl,QL h⟩)) htake))
  | exact QM (QM (m:=Builtin.Tuple.tupleExact _) (Rh (QL ⟨_,rfl,QL h⟩) htake))
end
end HT

namespace L2
open PySem PySem.Spec PyProof.Rows

abbrev TO:=St->Hp->(Option Int->Hp->Prop)->Prop
def PO (X:Cx) (e:Option QE) (t:TO):Prop :=
 ∀ (pins:List (Qs×Obj)) (s:QB) (σ:St) (H:Hp) (Q:Option Int->Hp->Prop),Inv X pins σ H s->t σ H Q ->
  QD (model X.prog X.w) X.A (evalPart e X.env) (fun u s'=>∃ o H',Inv X pins σ H' s'/\Q9 u o/\Q o H') X.xe s
def Dy:TO:=fun _ H Q=>Q none H
def IW (t:TE):TO:=fun σ H Q=>t σ H fun x H1=>∃ i,x=.int i/\Q (some i) H1

section
variable {X:Cx} {e:QE} {te:TE} {lo hi:Option QE} {tl th:TO} {pos p2:Pos}

theorem DQ:PO X none Dy:=by
 intro pins s σ H Q I h
 rw [Ri]
 exact QL ⟨none,H,I,.none,h⟩
theorem DA (h:PE X e te):PO X (some e) (IW te):=by
 intro pins s σ H Q I hw
 rw [evalPart_some]
 refine eK (h pins s σ H _ I hw) fun u s1 ⟨x,H1,I1,r1,q1⟩=>?_
 obtain⟨i,rfl,q⟩:=q1
 obtain⟨t,rfl⟩:=r1
 exact⟨some i,H1,I1,.int i t,q⟩

def JM (X:Cx) (r:V->Option Int->Option Int->Hp->VK->Prop):Prop :=
 ∀ (pins:List (Qs×Obj)) (s:QB) (σ:St) (H:Hp) (x:V) (v vl vu:Qp) (lo hi:Option Int) (sl:Qs) (Q:VK),Inv X pins σ H s->RelV x v->s.heap.IsSliceOf sl vl vu .none->Q9 vl lo->Q9 vu hi->r x lo hi H Q ->
  ∃ T id,typeLookup (.type T) "__getitem__"=pure (some (.builtin id))/\s.TypeIs v T/\QD (model X.prog X.w) X.A (getItem v (.ref sl)) (EP X pins σ Q) X.xe s
def Mi (r:V->Option Int->Option Int->Hp->VK->Prop) (te:TE) (tl th:TO):TE:=fun σ H Q=>te σ H fun x H1=>tl σ H1 fun l H2=>th σ H2 fun u H3=>r x l u H3 Q
theorem CZ {r:V->Option Int->Option Int->Hp->VK->Prop} (hr:JM X r) (he:PE X e te) (hl:PO X lo tl) (hu:PO X hi th):PE X (.Subscript e (.Slice lo hi none p2) pos) (Mi r te tl th):=by
 intro pins s σ H Q I h
 refine Rj (eK (he pins s σ H _ I h) fun v s1 ⟨x,H1,I1,r1,q1⟩=>?_)
 refine wpAny_Slice (eK (hl pins s1 σ H1 _ I1 q1) fun vl s2 ⟨l,H2,I2,pl,q2⟩=>eK (hu pins s2 σ H2 _ I2 q2) fun vu s3 ⟨u,H3,I3,pu,q3⟩=>?_)
 rw [Ri]
 refine QL ?_
 have I4:Inv X pins σ H3 { s3 with heap:=s3.heap.push { cls:=.type "slice",data:=.fields #[vl,vu,.none] } }:=I3.kept (t':=s3.toks) fun b ob q=>PX _ q
 obtain⟨T,id,hT,ht,hg⟩:=hr pins { s3 with heap:=s3.heap.push { cls:=.type "slice",data:=.fields #[vl,vu,.none] } } σ H3 x v vl vu l u s3.heap.objs.size Q I4 r1 (Heap.IsSliceOf.new ..) pl pu q3
 show QD (model X.prog X.w) X.A (subscriptTail e (.Slice lo hi none p2) v (.ref s3.heap.objs.size)) (EP X pins σ Q) X.xe { s3 with heap:=s3.heap.push { cls:=.type "slice",data:=.fields #[vl,vu,.none] } }
 exact tail_any (ops:=[.ref s3.heap.objs.size,v]) ht hT hg (by with_unfolding_all rfl)

def xf (xs:List V) (lo hi:Option Int):List V:=(xs.drop (HT.sIx xs.length 0 lo)).take (HT.sIx xs.length xs.length hi - HT.sIx xs.length 0 lo)
theorem qe (xs:List V) (lo hi:Option Int):(xf xs lo hi).length<=xs.length:=by
 unfold xf
 rw [MO,MY]
 omega
def Ku (K:Pa):V->Option Int->Option Int->Hp->VK->Prop:=fun x lo hi H Q=>∃ a xs,x=.ref a/\oM K H a xs /\
 ¬ (HT.sIx xs.length 0 lo=0/\HT.sIx xs.length xs.length hi=xs.length)/\∀ p,H p=none->Q (.ref p) (upd H p (.tup (xf xs lo hi)))
theorem GJ:JM X (Ku X.K):=by
 intro pins s σ H x v vl vu lo hi sl Q I rx hs pl pu h
 obtain⟨a,xs,rfl,hx,hw,q⟩:=h
 cases rx
 obtain⟨its,r,ht,hz⟩:=I.tuple hx
 have hlen:its.toArray.size=xs.length:=by rw [ME]; exact r.length.symm
 refine⟨"tuple",_,PyProof.Rows.slot_tuple_getitem.lookup,ht.typeIs,?_⟩
 refine HT.zr ht hs pl pu (by rw [hlen]; exact hw) ?_ (by rw [hlen]; exact hz)
 rw [hlen]
 refine⟨.ref s.heap.objs.size,_,I.laid (t':=s.toks) (o:=.tup (xf xs lo hi)) (fun b ob q=>PX _ q) (MA _) ?_,rfl,q _ (I.hok.fresh (MA _))⟩
 exact⟨Mr (qe xs lo hi) hz,_,(r.drop (HT.sIx xs.length 0 lo)).take (HT.sIx xs.length xs.length hi - HT.sIx xs.length 0 lo),IsTup.new _ _⟩

def Ih (K:Pa):R2:=fun x y H Q=>∃ a b xs ys,x=.ref a/\y=.ref b/\oM K H a xs/\oM K H b ys/\xs≠[]/\xs.length+ys.length<=Qv /\
 (ys=[]->Q (.ref a) H)/\(ys≠[]->∀ p,H p=none->Q (.ref p) (upd H p (.tup (xs++ys))))
theorem Vals.nil_iff {xs:List V} {us:List Qp} (r:Vals xs us):us=[]↔xs=[]:=by
 cases r with
 | nil=>simp
 | cons _ _=>simp
theorem Es:lX X (QR .Add) (Ih X.K):=by
 intro pins s σ H x y v u Q I rx ry h
 obtain⟨a,b,xs,ys,rfl,rfl,ha,hb,hx,hz,q1,q2⟩:=h
 cases rx
 cases ry
 obtain⟨its,r1,p1,_⟩:=I.tuple ha
 obtain⟨its2,r2,p2,_⟩:=I.tuple hb
 refine HT.Jm p1 p2 (fun z=>hx (r1.nil_iff.mp z)) (fun z=>⟨.ref a,H,I,rfl,q1 (r2.nil_iff.mp z)⟩) (fun z=>?_) (by rw [<- r1.length,<- r2.length]; exact hz)
 refine⟨.ref s.heap.objs.size,_,I.laid (t':=s.toks) (o:=.tup (xs++ys)) (fun b ob q=>PX _ q) (MA _) ?_,rfl,q2 (fun w=>z (r2.nil_iff.mpr w)) _ (I.hok.fresh (MA _))⟩
 exact⟨by rw [MV]; exact hz,_,r1.append r2,IsTup.new _ _⟩
end
end L2

namespace L2
open PySem PySem.Spec PyProof.Rows

def ER (n:Nat) (i:Int):Option Nat:=if 0<=i then (if i < n then some i.toNat else none) else if -(n:Int)<=i then some (i+n).toNat else none
def oa {α:Type} (xs:List α) (i:Int):Option α:=(ER xs.length i).bind fun j=>xs[j]?
theorem Dp {n:Nat} {i:Int} {j:Nat} (h:ER n i=some j):seqIndex? i n=some j/\j < n/\-(n:Int)<=i/\i < n:=by
 unfold ER at h
 by_cases h0:0<=i
 ·rw [if_pos h0] at h
  by_cases h1:i < n
  ·rw [if_pos h1] at h
   have e:i.toNat=j:=Option.some.inj h
   exact⟨by rw [seqIndex_of h0 h1,e],by omega,by omega,h1⟩
  ·rw [if_neg h1] at h; cases h
 ·rw [if_neg h0] at h
  by_cases h1:-(n:Int)<=i
  ·rw [if_pos h1] at h
   have e:(i+n).toNat=j:=Option.some.inj h
   exact⟨by rw [seqIndex_neg ‹0› h1,e],by omega,h1,by omega⟩
  ·rw [if_neg h1] at h; cases h
theorem u6 {α:Type} {xs:List α} {i:Int} {v:α} (h:oa xs i=some v):∃ j,seqIndex? i xs.length=some j/\xs[j]?=some v/\j < xs.length/\-(xs.length:Int)<=i/\i < xs.length:=by
 unfold oa at h
 cases e:ER xs.length i with
 | none=>rw [e] at h; cases h
 | some j =>
  rw [e] at h
  obtain⟨h1,h2,h3,h4⟩:=Dp e
  exact⟨j,h1,h,h2,h3,h4⟩
theorem CM {α:Type} (xs:List α) (v:α):oa (xs++[v]) (-1)=some v:=by
 have hl:(xs++[v]).length=xs.length+1:=by simp
 have e:ER (xs++[v]).length (-1)=some xs.length:=by
  unfold ER
  rw [hl,if_neg (by decide),if_pos ‹0›]
  congr 1
  omega
 unfold oa
 rw [e]
 show (xs++[v])[xs.length]?=some v
 simp

def vq (b:QE):Prop:=∀ o i,subscripted b false o i=operate [o,i] (getItem o i)
def Ip (X:Cx) (r:R2):Prop :=
 ∀ (value slice:QE) (pins:List (Qs×Obj)) (s:QB) (σ:St) (H:Hp) (x y:V) (v u:Qp) (Q:VK),Inv X pins σ H s->RelV x v->RelV y u->r x y H Q ->
  subscripted slice false v u=operate [v,u] (getItem v u)->QD (model X.prog X.w) X.A (subscriptTail value slice v u) (EP X pins σ Q) X.xe s
def Mb (X:Cx) (id:String) (r:V->List V->Hp->VK->Prop):Prop :=
 ∀ (pins:List (Qs×Obj)) (s:QB) (σ:St) (H:Hp) (x:V) (xs:List V) (v:Qp) (us:List Qp) (Q:VK),Inv X pins σ H s->RelV x v->Vals xs us->r x xs H Q ->
  QD (model X.prog X.w) X.A (call (.builtin id) (v::us)) (EP X pins σ Q) X.xe s
section
variable {X:Cx} {a b:QE} {ta tb:TE} {pos:Pos}
theorem Ie {r:R2} (hr:Ip X r) (ha:PE X a ta) (hb:PE X b tb) (hs:vq b):PE X (.Subscript a b pos) (Ij r ta tb):=by
 intro pins s σ H Q I h
 exact Rj (FP ha hb I h fun v u s2 x y H2 I2 rx ry q=>hr a b pins s2 σ H2 x y v u Q I2 rx ry q (hs _ _))

def JZ (K:Pa):R2:=fun x y H Q=>∃ p xs i v,x=.ref p/\y=.int i/\nV K H p xs/\oa xs i=some v/\Q v H
def Kx (K:Pa):R2:=fun x y H Q=>∃ p xs i v,x=.ref p/\y=.int i/\oM K H p xs/\oa xs i=some v/\Q v H
def KA:R2:=fun x y H Q=>∃ z i c,x=.str z/\y=.int i/\z.length<=Qv/\oa z.cps.toList i=some c/\Q (.str ⟨#[c]⟩) H
theorem Dx:Ip X (JZ X.K):=by
 intro value slice pins s σ H x y v u Q I rx ry h hs
 obtain⟨p,xs,i,z,rfl,rfl,hq,he,q⟩:=h
 cases rx
 obtain⟨t,rfl⟩:=ry
 obtain⟨its,r,pl,hz⟩:=I.list hq
 obtain⟨j,h1,h2,h3,h4,h5⟩:=u6 he
 obtain⟨w,ew,rw'⟩:=r.get h2
 have hl:=r.length
 have hn:=pC
 have fin:EP X pins σ Q w s:=⟨z,H,I,rw',q⟩
 by_cases h0:0<=i
 ·have hj:i.toNat=j:=by
   rw [seqIndex_of h0 h5] at h1
   exact Option.some.inj h1
  exact item_listR pl.isList h0 ‹0› (by rw [hj]; simpa using ew) fin hs
 ·have hj:(i+(its.toArray.size:Int)).toNat=j:=by
   rw [seqIndex_neg ‹0› h4] at h1
   rw [ME,<- hl]
   exact Option.some.inj h1
  exact subscriptTail_builtinR (x:=w) pl.isList.typeIs slot_list_getitem.lookup
   (wpAny_getItem_list_neg (Q:=fun r s'=>r=w/\EP X pins σ Q r s') pl.isList ‹0› (by rw [ME] <;> omega) ‹0› (by rw [hj]; simpa using ew) ⟨rfl,fin⟩) hs
theorem GD:Ip X (Kx X.K):=by
 intro value slice pins s σ H x y v u Q I rx ry h hs
 obtain⟨p,xs,i,z,rfl,rfl,hq,he,q⟩:=h
 cases rx
 obtain⟨t,rfl⟩:=ry
 obtain⟨its,r,pl,hz⟩:=I.tuple hq
 obtain⟨j,h1,h2,h3,h4,h5⟩:=u6 he
 obtain⟨w,ew,rw'⟩:=r.get h2
 have hl:=r.length
 have hn:=pC
 have fin:EP X pins σ Q w s:=⟨z,H,I,rw',q⟩
 exact subscriptTail_builtinR (x:=w) pl.typeIs slot_tuple_getitem.lookup
  (getItem_tuple (j:=j) (Q:=fun r s'=>r=w/\EP X pins σ Q r s') pl ‹0› ‹0› (by rw [ME,<- hl]; exact h1) (by simpa using ew) ⟨rfl,fin⟩) hs
theorem Gw:Ip X KA:=by
 intro value slice pins s σ H x y v u Q I rx ry h hs
 obtain⟨z,i,c,rfl,rfl,hz,he,q⟩:=h
 obtain⟨t,rfl⟩:=rx
 obtain⟨t',rfl⟩:=ry
 obtain⟨j,h1,h2,h3,h4,h5⟩:=u6 he
 have hl:z.cps.toList.length=z.length:=by simp [Str.length]
 rw [hl] at h1 h4 h5
 have hn:=pC
 exact tail_any (typeIs_str s z t) slot_str_getitem.lookup (getItem_str (c:=c) (by
  have e1:decide (i < -(2 ^ 63:Int))=false:=decide_eq_false ‹0›
  have e2:decide (i>=2 ^ 63)=false:=decide_eq_false ‹0›
  rw [e1,e2,Bool.or_false]) (by rw [h1]; simpa using h2) ⟨.str ⟨#[c]⟩,H,I.tok _,⟨_,rfl⟩,q⟩) hs
theorem vU (lo hi:Option Int) (n:Nat):(sliceBounds lo hi none n).1=((HT.sIx n 0 lo:Nat):Int)/\(sliceBounds lo hi none n).2.1=((HT.sIx n n hi:Nat):Int)/\(sliceBounds lo hi none n).2.2=1:=by
 refine⟨?_,?_,rfl⟩
 ·cases lo with
  | none=>simp [sliceBounds,HT.sIx]
  | some i =>
   simp only [sliceBounds,HT.sIx,M0,show (1:Int) > 0 by decide,if_true]
   by_cases h:i < 0
   ·simp only [h,if_true] <;> omega
   ·simp only [h,if_false] <;> omega
 ·cases hi with
  | none=>simp [sliceBounds,HT.sIx]
  | some i =>
   simp only [sliceBounds,HT.sIx,M0,show (1:Int) > 0 by decide,if_true]
   by_cases h:i < 0
   ·simp only [h,if_true] <;> omega
   ·simp only [h,if_false] <;> omega
theorem tq (its:List Qp) (lo hi:Option Int):slicePick its.toArray lo hi none=((its.drop (HT.sIx its.length 0 lo)).take (HT.sIx its.length its.length hi - HT.sIx its.length 0 lo)).toArray:=by
 obtain⟨h1,h2,h3⟩:=vU lo hi its.toArray.size
 unfold slicePick
 rw [h1,h2,h3]
 simp only [sliceRange_one,pick_run,ME] <;> rfl
def Lp (K:Pa):V->Option Int->Option Int->Hp->VK->Prop:=fun x lo hi H Q=>∃ a xs,x=.ref a/\nV K H a xs/\∀ p,H p=none->Q (.ref p) (upd H p (.lst (xf xs lo hi)))
theorem Ef:JM X (Lp X.K):=by
 intro pins s σ H x v vl vu lo hi sl Q I rx hs pl pu h
 obtain⟨a,xs,rfl,hx,q⟩:=h
 cases rx
 obtain⟨its,r,ht,hz⟩:=I.list hx
 have hlen:=r.length
 refine⟨"list",_,slot_list_getitem.lookup,ht.isList.typeIs,?_⟩
 refine wpAny_getItem_list_slice ht.isList hs pl pu .none (by simp) ?_ (by rw [ME] <;> omega)
 rw [tq,<- hlen]
 refine⟨.ref s.heap.objs.size,_,I.laid (t':=s.toks) (o:=.lst (xf xs lo hi)) (fun b ob q=>PX _ q) (MA _) ?_,rfl,q _ (I.hok.fresh (MA _))⟩
 exact⟨Mr (qe xs lo hi) hz,_,0,(r.drop (HT.sIx xs.length 0 lo)).take (HT.sIx xs.length xs.length hi - HT.sIx xs.length 0 lo),PY _ rfl⟩

def CB:V->Bool
 | .non=>true
 | .bl _=>true
 | .int _=>true
 | .str _=>true
 | _=>false
def Lq:V->V->Bool
 | .non,.non=>true
 | .bl a,.bl b=>a==b
 | .bl a,.int b=>(if a then 1 else 0)==b
 | .int a,.bl b=>a==(if b then 1 else 0)
 | .int a,.int b=>a==b
 | .str a,.str b=>a==b
 | _,_=>false
theorem Gv {A:QA} {s:QB} {y x:V} {u v:Qp} (ry:RelV y u) (rx:RelV x v) (fy:CB y=true) (fx:CB x=true):SeqAt.EqAt A s u v (Lq y x):=by
 cases y with
 | non =>
  cases ry
  cases x with
  | non=>cases rx; exact SeqAt.EqAt.same _
  | bl b=>cases rx; exact SeqAt.EqAt.none_bool b
  | int b=>obtain⟨t,rfl⟩:=rx; exact SeqAt.EqAt.none_int b t
  | str b=>obtain⟨t,rfl⟩:=rx; exact SeqAt.EqAt.none_str b t
  | _=>exact absurd (show false=true from fx) MF
 | bl a =>
  cases ry
  cases x with
  | non=>cases rx; exact SeqAt.EqAt.bool_none a
  | bl b=>cases rx; exact SeqAt.EqAt.bool_bool a b
  | int b=>obtain⟨t,rfl⟩:=rx; exact SeqAt.EqAt.bool_int a b t
  | str b=>obtain⟨t,rfl⟩:=rx; exact SeqAt.EqAt.bool_str a b t
  | _=>exact absurd (show false=true from fx) MF
 | int a =>
  obtain⟨t',rfl⟩:=ry
  cases x with
  | non=>cases rx; exact SeqAt.EqAt.int_none a t'
  | bl b=>cases rx; exact SeqAt.EqAt.int_bool a t' b
  | int b=>obtain⟨t,rfl⟩:=rx; exact SeqAt.EqAt.int_int a t' b t
  | str b=>obtain⟨t,rfl⟩:=rx; exact SeqAt.EqAt.int_str a t' b t
  | _=>exact absurd (show false=true from fx) MF
 | str a =>
  obtain⟨t',rfl⟩:=ry
  cases x with
  | non=>cases rx; exact SeqAt.EqAt.str_none a t'
  | bl b=>cases rx; exact SeqAt.EqAt.str_bool a t' b
  | int b=>obtain⟨t,rfl⟩:=rx; exact SeqAt.EqAt.str_int a t' b t
  | str b=>obtain⟨t,rfl⟩:=rx; exact SeqAt.EqAt.str_str a t' b t
  | _=>exact absurd (show false=true from fx) MF
 | _=>exact absurd (show false=true from fy) MF
theorem og:dR X (.builtin "len") (fun xs H Q=>∃ p ys,xs=[.ref p]/\(nV X.K H p ys\/oM X.K H p ys)/\Q (.int ys.length) H):=by
 intro pins s σ H xs us Q I r h
 obtain⟨p,ys,rfl,hq,q⟩:=h
 obtain⟨u,rfl,rx⟩:=vals1 r
 cases rx
 have hn:=pC
 rcases hq with hq | hq
 ·obtain⟨its,r',pl,hz⟩:=I.list hq
  have hlen:=r'.length
  exact Calls.call_len_list pl.isList (by simp only [ME] <;> omega) ⟨.int ys.length,H,I.tok _,⟨s.toks+1,by rw [ME,hlen]⟩,q⟩
 ·obtain⟨its,r',pl,hz⟩:=I.tuple hq
  have hlen:=r'.length
  exact len_tuple pl (by simp only [ME] <;> omega) ⟨.int ys.length,H,I.tok _,⟨s.toks+1,by rw [ME,hlen]⟩,q⟩
theorem vD:dR X (.builtin "len") (fun xs H Q=>∃ z,xs=[.str z]/\z.length<=Qv/\Q (.int z.length) H):=by
 intro pins s σ H xs us Q I r h
 obtain⟨z,rfl,hz,q⟩:=h
 obtain⟨u,rfl,t,rfl⟩:=vals1 r
 have hn:=pC
 exact len_str ‹0› ⟨.int z.length,H,I.tok _,⟨_,rfl⟩,q⟩
theorem kj:dR X (.type "list") (fun xs H Q=>∃ p ys,xs=[.ref p]/\(nV X.K H p ys\/oM X.K H p ys)/\∀ l,H l=none->Q (.ref l) (upd H l (.lst ys))):=by
 intro pins s σ H xs us Q I r h
 obtain⟨p,ys,rfl,hq,q⟩:=h
 obtain⟨u,rfl,rx⟩:=vals1 r
 cases rx
 have fin:∀ (its:List Qp),Vals ys its->ys.length<=Qv->∀ (h':Qu) (c':Nat),(∀ b o',s.heap.get? b=some o'->h'.get? b=some o') ->
   h'.get? s.heap.objs.size=some { cls:=.type "list",dict:=none,data:=.seq its.toArray c',slots:=#[] }->EP X pins σ Q (.ref s.heap.objs.size) { s with heap:=h' }:=fun its r' hz h' c' kp e =>
  ⟨.ref s.heap.objs.size,_,I.laid (t':=s.toks) kp (MA _) (show cx X.prog X.w _ h' _ (.lst ys) from ⟨hz,its,c',r',e⟩),rfl,q _ (I.hok.fresh (MA _))⟩
 rcases hq with hq | hq
 ·obtain⟨its,r',pl,hz⟩:=I.list hq
  have hlen:=r'.length
  obtain⟨o,ho,hc,n,hd⟩:=pl.isList
  exact call_list_seq p (.inl rfl) ho hc hd (fun h' c' kp e=>fin its r' hz h' c' kp e) (by simp only [ME] <;> omega)
 ·obtain⟨its,r',pl,hz⟩:=I.tuple hq
  have hlen:=r'.length
  obtain⟨o,ho,hc,n,hd⟩:=pl
  exact call_list_seq p (.inr rfl) ho hc hd (fun h' c' kp e=>fin its r' hz h' c' kp e) (by simp only [ME] <;> omega)
theorem nc:dR X (.type "tuple") (fun xs H Q=>∃ p ys,xs=[.ref p]/\((nV X.K H p ys/\∀ l,H l=none->Q (.ref l) (upd H l (.tup ys)))\/(oM X.K H p ys/\Q (.ref p) H))):=by
 intro pins s σ H xs us Q I r h
 obtain⟨p,ys,rfl,h⟩:=h
 obtain⟨u,rfl,rx⟩:=vals1 r
 cases rx
 rcases h with ⟨hq,q⟩ | ⟨hq,q⟩
 ·obtain⟨its,r',pl,hz⟩:=I.list hq
  have hlen:=r'.length
  refine call_tuple_list pl.isList (fun h' kp=>?_) (by simp only [ME] <;> omega)
  have I1:Inv X pins σ H { s with heap:=h' }:=I.kept (t':=s.toks) kp
  have I2:Inv X pins σ (upd H h'.objs.size (.tup ys)) { s with heap:=h'.push { cls:=.type "tuple",data:=.seq its.toArray } } :=
   I1.laid (t':=s.toks) (fun b o e=>PX _ e) (MA _) (show cx X.prog X.w _ _ _ (.tup ys) from ⟨hz,its,r',IsTup.new _ _⟩)
  exact⟨.ref h'.objs.size,_,I2,rfl,q _ (I1.hok.fresh (MA _))⟩
 ·obtain⟨its,r',pl,hz⟩:=I.tuple hq
  exact call_tuple_same pl ⟨.ref p,H,I,rfl,q⟩

def J4 (K:Pa) (T:String) (x:V) (H:Hp):Prop:=match x with
 | .str _=>T = "str"
 | .int _=>T = "int"
 | .ref p=>(T = "list"/\∃ xs,nV K H p xs)\/(T = "tuple"/\∃ o,K.lookup p=some o/\o.cls=.type "tuple"/\o.dict=none) \/
   (T = "dict"/\((∃ kvs,H p=some (.dK kvs))\/∃ kvs,H p=some (.dT kvs)))\/(T = "set"/\∃ S n,H p=some (.set S n))
 | _=>False
theorem G4 {pins:List (Qs×Obj)} {σ:St} {H:Hp} {s:QB} {T:String} {x:V} {v:Qp} (I:Inv X pins σ H s) (r:RelV x v) (ty:J4 X.K T x H) :
  s.TypeIs v T/\∀ a,v=.ref a->∃ ob,s.heap.get? a=some ob/\ob.dict=none:=by
 cases x with
 | str z =>
  obtain⟨t,rfl⟩:=r
  cases (show T = "str" from ty)
  exact⟨typeIs_str s z t,fun _ e=>nomatch e⟩
 | int i =>
  obtain⟨t,rfl⟩:=r
  cases (show T = "int" from ty)
  exact⟨typeIs_int s i t,fun _ e=>nomatch e⟩
 | ref p =>
  cases r
  rcases ty with ⟨rfl,xs,hq⟩ | ⟨rfl,o,hk,hc,hd⟩ | ⟨rfl,hk⟩ | ⟨rfl,S,n,hk⟩
  ·obtain⟨its,_,pl,_⟩:=I.list hq
   refine⟨pl.isList.typeIs,fun a e=>?_⟩
   cases e
   obtain⟨o,n,e,c,hd,_⟩:=pl
   exact⟨o,e,hd⟩
  ·refine⟨⟨o,I.kIn p o hk,hc⟩,fun a e=>?_⟩
   cases e
   exact⟨o,I.kIn _ o hk,hd⟩
  ·have z:∃ o,s.heap.get? p=some o/\o.ExactDict:=by
    rcases hk with ⟨kvs,hk⟩ | ⟨kvs,hk⟩
    ·obtain⟨_,_,_,_,o,_,_,e,ex,_⟩:=I.hok p _ hk
     exact⟨o,e,ex⟩
    ·obtain⟨_,_,_,_,o,_,_,e,ex,_⟩:=I.hok p _ hk
     exact⟨o,e,ex⟩
   obtain⟨o,e,ex⟩:=z
   refine⟨⟨o,e,ex.1⟩,fun a e2=>?_⟩
   cases e2
   exact⟨o,e,ex.2.1⟩
  ·obtain⟨o,_,_,_,e,ex,_⟩:=I.hok p _ hk
   refine⟨⟨o,e,ex.1⟩,fun a e2=>?_⟩
   cases e2
   exact⟨o,e,ex.2.1⟩
 | _=>exact False.elim ty
def L1 (K:Pa) (T:String) (r:V->List V->Hp->VK->Prop) (to:TE) (t:TA):TE:=fun σ H Q=>to σ H fun x H1=>J4 K T x H1/\t σ H1 fun xs H2=>r x xs H2 Q
variable {o e:QE} {es:List QE} {to:TE} {t:TA} {name:Str} {apos cpos:Pos} {T id:String} {r:V->List V->Hp->VK->Prop}
theorem zp (pa:PlainAttrs T) (slot:Slot T name id) (hty:typeOf (.builtin id)=pure (.type "method_descriptor")) (hm:Mb X id r) (ho:PE X o to) (ha:PA X (e::es) t)
  (hbase:Rl o name X.env (eval o X.env)=eval o X.env:=by rfl)
  (hfew:((backTo cpos (QF (e::es) X.env)).all (fun x=>!x.1) && (backToKw cpos (QX [] X.env)).all (fun x=>x.1.isSome)
   && decide ((e::es).length+([]:List Rm).length+(if ([]:List Rm).isEmpty then 0 else 1) < 30))=true:=by rfl)
  (hline:(apos.endLine==cpos.line)=true:=by rfl) (hs:QF (e::es) X.env=(false,eval e X.env)::QF es X.env:=by rfl) (hplain:(backTo cpos (QF es X.env)).any (·.1)=false:=by rfl) :
  PE X (.Call (.Attribute o name apos) (e::es) [] cpos) (L1 X.K T r to t):=by
 intro pins s σ H Q I h
 refine wpAny_Call_method_late hbase hfew hline rfl (eK (ho pins s σ H _ I h) fun v s1 ⟨x,H1,I1,r1,ty,q1⟩=>?_)
 obtain⟨h1,h2⟩:=G4 I1 r1 ty
 refine⟨T,id,pa,slot,hty,h1,h2,?_⟩
 have hA:=ha cpos pins s1 σ H1 _ I1 q1
 rw [hs] at hA ⊢
 refine Calls.callWith_builtin (by show (false || (backTo cpos (QF es X.env)).any (·.1))=false; rw [hplain] <;> rfl) (Calls.evalArgs_plain ?_)
 exact eK hA fun us s2 ⟨vs,H2,I2,r2,q2⟩=>hm pins s2 σ H2 x vs v us Q I2 r1 r2 q2
end
end L2

namespace L2
open PySem PySem.Spec PyProof.Rows

def IM (X:Cx) (id:String) (r:V->List V->Hp->VK->Prop):Prop :=
 ∀ (pins:List (Qs×Obj)) (s:QB) (σ:St) (H:Hp) (x:V) (xs:List V) (v:Qp) (us:List Qp) (Q:VK),Inv X pins σ H s->RelV x v->Vals xs us->r x xs H Q ->
  QD (model X.prog X.w) X.A (call (.builtin id) (v::us)) (EP X pins σ Q) X.xe s

theorem Vals.one:∀ {x:V} {us:List Qp},Vals [x] us->∃ u,us=[u]/\RelV x u
 | _,_,.cons r .nil=>⟨_,rfl,r⟩
theorem Vals.two:∀ {x y:V} {us:List Qp},Vals [x,y] us->∃ u v,us=[u,v]/\RelV x u/\RelV y v
 | _,_,_,.cons r (.cons q .nil)=>⟨_,_,rfl,r,q⟩
section
variable {X:Cx} {pins:List (Qs×Obj)} {σ:St} {H:Hp} {s:QB} {l b:Qs} {xs ys zs:List V}

theorem Inv.lset {its its':List Qp} {n:Nat} {f:Array Qp->Array Qp} {t':Nat} (I:Inv X pins σ H s) (hH:H l=some (.lst xs))
  (e:s.heap.get? l=some { cls:=.type "list",data:=.seq its.toArray n }) (hf:f its.toArray=its'.toArray) (hv:Vals ys its') (hz:ys.length<=Qv) :
  Inv X pins σ (upd H l (.lst ys)) { s with heap:=s.heap.update l (Obj.mapSeq f),toks:=t' }:=by
 have q:=PySem.IsL.update e f
 rw [hf] at q
 refine I.write (x:=l) (e:=l) (by rw [hH]; exact trivial) (.inl rfl) (fun b' u hb hu=>(Heap.get?_update_other s.heap (Obj.mapSeq f) (Ne.symm hb)).trans hu) ⟨_,q⟩ ?_
 exact⟨hz,its',_,hv,q⟩
theorem Inv.lnew {its:List Qp} {t':Nat} (I:Inv X pins σ H s) (hv:Vals ys its) (hz:ys.length<=Qv) :
  Inv X pins σ (upd H s.heap.objs.size (.lst ys)) { s with heap:=s.heap.push { cls:=.type "list",data:=.seq its.toArray },toks:=t' } :=
 I.laid (fun _ _ q=>PX _ q) (MA _) ⟨hz,its,0,hv,PY _ rfl⟩
theorem Inv.fresh (I:Inv X pins σ H s):H s.heap.objs.size=none:=I.hok.fresh (MA _)
theorem Inv.lstM (I:Inv X pins σ H s) (hH:H l=some (.lst xs)):xs.length<=Qv/\∃ (its:List Qp) (n:Nat),Vals xs its/\xs.length=its.length/\s.heap.get? l=some { cls:=.type "list",data:=.seq its.toArray n }:=by
 obtain⟨z,its,n,r,e⟩:=I.hok l _ hH
 exact⟨z,its,n,r,r.length,e⟩

theorem Bt {n:Nat} (h:n<=Qv):Builtin.List.listTooLong n=false:=by
 unfold Builtin.List.listTooLong
 exact decide_eq_false ‹0›
end

section
variable {X:Cx}

def vE:V->List V->Hp->VK->Prop:=fun x vs H Q=>∃ l xs y,x=.ref l/\vs=[y]/\H l=some (.lst xs)/\xs.length < Qv/\Q .non (upd H l (.lst (xs++[y])))
theorem dG:IM X "list.append" vE:=by
 intro pins s σ H x vs v us Q I rx rv h
 obtain⟨l,xs,y,rfl,rfl,hH,hz,q⟩:=h
 cases rx
 obtain⟨u,rfl,ru⟩:=rv.one
 obtain⟨z,its,n,r,hl,e⟩:=I.lstM hH
 refine call_meets F.slot_list_append ⟨_,e,rfl⟩ F.entry_list_append (F.args_list_append_2 _ _) (PySem.list_append l its.toArray n u (by rw [ME]; omega)) ⟨e,?_⟩
 refine⟨.non,_,I.lset (its':=its++[u]) hH e (by simp) (r.append (.cons ru .nil)) ?_,rfl,q⟩
 rw [MV,M1]
 omega

def Ec:V->List V->Hp->VK->Prop:=fun x vs H Q=>∃ l b xs zs,x=.ref l/\vs=[.ref b]/\H l=some (.lst xs)/\H b=some (.lst zs)/\xs.length+zs.length<=Qv/\Q .non (upd H l (.lst (xs++zs)))
theorem AR:IM X "list.extend" Ec:=by
 intro pins s σ H x vs v us Q I rx rv h
 obtain⟨l,b,xs,zs,rfl,rfl,hH,hB,hz,q⟩:=h
 cases rx
 obtain⟨u,rfl,ru⟩:=rv.one
 cases ru
 obtain⟨z,its,n,r,hl,e⟩:=I.lstM hH
 obtain⟨z2,its2,n2,r2,hl2,e2⟩:=I.lstM hB
 have hsz:its.toArray.size+its2.toArray.size<=Qv:=by rw [ME,ME]; omega
 have hlong:¬ (!its.toArray.isEmpty && Builtin.List.listTooLong (its.toArray.size+its2.toArray.size))=true:=by
  rw [Bt hsz,M2]
  exact MF
 refine call_meets F.slot_list_extend ⟨_,e,rfl⟩ F.entry_list_extend (F.args_list_extend_2 _ _)
  (AutoSeq1.list_extend_list_list_0 l its.toArray n b its2.toArray n2 hlong (by rw [ME]; omega) ‹0›) ⟨e,e2,?_⟩
 refine⟨.non,_,I.lset (its':=its++its2) hH e (by simp) (r.append r2) ?_,rfl,q⟩
 rw [MV]
 omega

end


end L2

namespace Att
open PySem PySem.W PySem.Calls PyProof.Rows

theorem qg {P:Params} {h:Qu}:∀ (ns:List Int) (vs:List Qp),WellAll P h vs (ns.map WData.int)->IntsAre vs ns:=by
 intro ns
 induction ns with
 | nil =>
  intro vs w
  rw [M3] at w
  cases w
  exact .nil
 | cons n ns ih =>
  intro vs w
  rw [MH] at w
  cases w with
  | cons a b =>
   cases a
   exact .cons _ _ (ih _ b)

theorem AW {l:OpenLaw} {n:Nat} (hn:l.most=some n) {P:Params} {h:Qu} {args:List WData} {vals:List Qp}
  (hpre:l.row.toRowW.claim.pre args=true) (hwl:WellAll P h vals args) :
  ∃ a vs ns,vals=[Value.ref a]/\args=[WData.list (ns.map WData.int)]/\h.get? a=some { cls:=.type "list",data:=.seq vs.toArray }/\IntsAre vs ns/\ns.length<=n:=by
 have hsh:WShape.hasAll [] args [.list .int]=true:=(pre_splitW hpre).1
 have hc:l.pre.holds [] { args:=args }=true:=(pre_splitW hpre).2
 obtain⟨d,r,rfl,h1,h2⟩:=hasAllW_cons hsh
 obtain rfl:=hasAllW_nil h2
 obtain⟨xs,rfl,h3⟩:=hasW_list h1
 obtain⟨ns,rfl⟩:=items_int h3
 have hlen:ns.length<=n:=by
  unfold OpenLaw.pre at hc
  have h4:(WTm.not (.lt (.lit (.int (n:Int))) (.len (.arg 0)))).holds [] { args:=[.list (ns.map .int)] }=true:=by
   have h4:=(holds_andW hc).1
   rw [hn] at h4
   exact h4
  have h5:=condW_of h4 (w_not (w_lt w_lit (w_len_list (w_arg rfl))))
  rw [MI] at h5
  refine Nat.le_of_not_lt fun q=>?_
  have q':(n:Int) < ((ns.length:Nat):Int):=by omega
  first
   | (rw [decide_eq_true q'] at h5; exact absurd h5 (by decide))
   | (simp at h5; omega)
 cases hwl with
 | cons w1 w2 =>
  cases w2
  cases w1 with
  | list ho hall=>exact⟨_,_,ns,rfl,rfl,ho,qg ns _ hall,hlen⟩

theorem Bb (l:OpenLaw) (args:List WData):l.row.toRowW.claim.post args (.bool true) args=true :=
 postW_of (r:=l.row.toRowW) (X:=(true==true))
  (show WShape.has [] (.bool true) .bool=true by first | rfl | decide | simp [WShape.has,WShape.arms,WShape.armsAll])
  (show (WTm.eq .res (.lit (.bool true))).value [] { args:=args,res:=some (.bool true),after:=args }=some (.bool (true==true)) from w_eq_bool (w_res rfl) w_lit) rfl

theorem Fu {l:OpenLaw} {n:Nat} {q:Qr} {loose:List Str} {XP:(Str->Option Qp)->Qu->Prop} {YP:Qq->Qu->Prop} {d:DefRec}
  (hn:l.most=some n) (hdf:d.params.defaults=[])
  (call:∀ (w:Qq) (s₀ s₁:QB) (mg mb:Str->Option Qp) (fa:Qs) (o:Obj) (pm cd doc:Qp) (a:Qs) (vs:List Qp) (ns:List Int),
   Ground q loose [] XP w s₀ mg mb s₁.heap->YP w s₁.heap ->
   s₁.heap.get? fa=some o->o.data=.func (docDef d.name d.params d.body d.scope pm cd doc)->s₁.heap.CodeRec cd d.name->mg d.name=some (.ref fa) ->
   s₁.heap.get? a=some { cls:=.type "list",data:=.seq vs.toArray }->IntsAre vs ns->ns.length<=n->s₁.gens=#[] ->
   QV (model l.prog w) callerA (.call (.ref fa) ⟨[.ref a],[]⟩) (fun r s'=>r=.ok (.ret (.bool true))/\OldK s₁.heap s'.heap/\s'.os=s₁.os/\AllBare s'.gens) s₁) :
  WalkO q loose XP YP l.row.toRowW d [] (fun f vs=>PySem.call f vs):=by
 intro w s₀ s₁ mg mb G Y fa o pm cd doc dV kV ho hd hcd hD hmg hg args vals as hpre hlay hrd hwl hlo
 obtain rfl:dV=.none:=Dflts.none hD hdf
 obtain rfl:kV=.none:=Dflts.noKw hD
 obtain⟨a,vs,ns,rfl,rfl,hobj,hints,hlen⟩:=AW hn hpre hwl
 refine enter_call (Q2 (call w s₀ s₁ mg mb fa o pm cd doc a vs ns G Y ho (fd_plain hd) hcd hmg hobj hints hlen hg) fun r s' hq=>?_)
 obtain⟨rfl,h2,h3,h4⟩:=hq
 exact⟨.inl ⟨.bool true,.bool true,[],rfl,fun _=>rfl,.bool true,Bb l _,fun _=>⟨List.Pairwise.nil,fun _ hm=>(nomatch hm)⟩⟩,h2,h3,h4⟩

section
variable {prog:Qr} {w:Qq} {A:QA} {E:Qp->QB->Prop} {s:QB} {K:Frag}

end
end Att

namespace L2
open PySem PySem.Spec PyProof.Rows

theorem tY:∀ {vs:List Qp} {ns:List Int},IntsAre vs ns->Vals (ns.map V.int) vs
 | _,_,.nil=>.nil
 | _,_,.cons n t h=>.cons ⟨t,rfl⟩ (tY h)

end L2

namespace L2
open PySem PySem.Spec PyProof.Rows

end L2

namespace L2
open PySem PySem.Spec PyProof.Rows

def inClass (s:QG) (j:Nat):QG:=match s with
 | .ClassDef _ _ _ body _ _ _ _ _ _ _=>body.getD j (.Pass ⟨0,0,0,0⟩)
 | _=>.Pass ⟨0,0,0,0⟩
def mh (s:QG):Q5:=match s with
 | .FunctionDef _ a _ _ _ _ _ _ _ _=>a
 | _=>{ posonlyargs:=[],args:=[],vararg:=none,kwonlyargs:=[],kw_defaults:=[],kwarg:=none,defaults:=[] }
def e7 (s:QG):List QG:=match s with
 | .FunctionDef _ _ b _ _ _ _ _ _ _=>b
 | _=>[]
def ay (s:QG):QC:=match s with
 | .FunctionDef _ _ _ _ _ _ sc _ _ _=>sc
 | _=>{ kind:=.function,names:=[],isGenerator:=false,isCoroutine:=false }

abbrev Ji:yh:=fun _ _ _ _ _ _=>False
abbrev E0:XK:=fun _ _ _=>False
structure vv (K:Pa) (x qual:Str) (st:QG) (f:Qs) (fd:Q0):Prop where
 ex:∃ (oc:Qp) (od:Option Qs) (kV doc pm:Qp) (an:Option Qs) (cdv ct:Qp) (osl:Array (Option Qp)),
  fd=Px x qual (mh st) (e7 st) (ay st) .none kV doc pm an cdv ct/\K.lookup f=some ⟨oc,od,.func fd,osl⟩/\Py K cdv qual=true
 kp:Pt K (.ref f)=true
section
variable {P:Qr} {w:Qq} {K:Pa} {mg:Str->Option Qp} {base:Qu}
theorem vv.ok {x qual:Str} {st:QG} {f:Qs} {fd:Q0} {N ps:List Str} {k:Nat} {sp:Sp} (F:vv K x qual st f fd) (S:bj N ps (ay st)) (len:∀ vs H Q E,sp vs H Q E->vs.length=ps.length)
  (hbody:∀ (cdv:Qp) (A:QA) (outer:List Env) (s:QB) (H:Hp) (vs:List V) (Q:VK) (E:XK),fE k (A.deeper (envOfC qual (ay st) s.heap.objs.size f cdv))->sp vs H Q E ->
   ∃ t,xx (ji Ji P w K mg base N qual (ay st) f cdv A outer s H E).nox (e7 st) t/\t { nx:=fun _ H'=>Q .non H',rt:=Q } (start N vs) H):iV P w K mg base Ji (k+1) f fd ps sp:=by
 obtain⟨oc,od,kV,doc,pm,an,cdv,ct,osl,rfl,lk,hcd⟩:=F.ex
 refine Ct lk hcd S len fun A outer s H vs Q E hr hsp=>?_
 obtain⟨t,h,q⟩:=hbody cdv A outer s H vs Q E hr hsp
 exact⟨t,h.nox,q⟩
theorem vv.binds {x qual:Str} {st:QG} {f:Qs} {fd:Q0} {ps:List Str} (F:vv K x qual st f fd)
  (h:∀ (kV doc pm:Qp) (an:Option Qs) (cdv ct:Qp) (us:List Qp),us.length=ps.length->bindArgs (Px x qual (mh st) (e7 st) (ay st) .none kV doc pm an cdv ct) ⟨us,[]⟩=pure (ps.zip us)):Binds K fd ps []:=by
 obtain⟨oc,od,kV,doc,pm,an,cdv,ct,osl,rfl,lk,hcd⟩:=F.ex
 exact .all (h kV doc pm an cdv ct)
theorem cw {x qual:Str} {st:QG} {f:Qs} {oc:Qp} {od an:Option Qs} {osl:Array (Option Qp)} {kV doc pm cdv ct:Qp} (l:K.lookup f=some ⟨oc,od,.func (Px x qual (mh st) (e7 st) (ay st) .none kV doc pm an cdv ct),osl⟩)
  (c:Py K cdv qual=true) (k:Pt K (.ref f)=true):vv K x qual st f (Px x qual (mh st) (e7 st) (ay st) .none kV doc pm an cdv ct):=⟨⟨oc,od,kV,doc,pm,an,cdv,ct,osl,rfl,l,c⟩,k⟩
end
section
variable {X:Cx}
theorem pv (i:Nat) {x:Str} {pos:Pos} (hN:X.N[i]?=some x:=by rfl) (hv:Gn X.env.scope x:=by first | exact Or.inl rfl | exact Or.inr (Or.inl rfl) | exact Or.inr (Or.inr rfl)) (hd:(x==("__debug__":Str))=false:=by decide)
  (hcd:(x==("__classdict__":Str))=false:=by decide):PE X (.Name x pos) (rL i):=Ga hN hv hd hcd
end

theorem Dh {A B:Prop} (h:B):if false=true then A else B:=by
 rw [if_neg MF]
 exact h
theorem Cq {A B:Prop} (h:A):if true=true then A else B:=by
 rw [if_pos rfl]
 exact h
def bo (H H':Hp):Prop:=∀ b o,H b=some o->H' b=some o
theorem bo.refl (H:Hp):bo H H:=fun _ _ h=>h
theorem bo.trans {H H1 H2:Hp} (a:bo H H1) (b:bo H1 H2):bo H H2:=fun c o h=>b c o (a c o h)
theorem bo.free {H H':Hp} (e:bo H H') {l:Qs} (h:H' l=Option.none):H l=Option.none:=by
 cases q:H l with
 | none=>rfl
 | some o =>
  rw [e l o q] at h
  cases h
theorem bo.seq {K:Pa} {H H':Hp} {a:Qs} {xs:List V} (e:bo H H') (h:nV K H a xs):nV K H' a xs:=by
 rcases h with (h | ⟨o,h⟩) | h
 ·exact .inl (.inl (e _ _ h))
 ·exact .inl (.inr ⟨o,e _ _ h⟩)
 ·exact .inr h

end L2
namespace L2
open PySem PySem.Spec PyProof.Rows

section
variable {κ:Type} [DecidableEq κ]
def iE (kvs:List (κ×V)) (k:κ):Option V:=(kvs.find? fun kv=>decide (kv.1=k)).map (·.2)
def putK (kvs:List (κ×V)) (k:κ) (v:V):List (κ×V) :=
 if (kvs.any fun kv=>decide (kv.1=k))=true then kvs.map (fun kv=>if kv.1=k then (kv.1,v) else kv) else kvs++[(k,v)]
theorem jx {p:κ×V} {r:List (κ×V)} {k:κ} (e:p.1=k):iE (p::r) k=some p.2:=by simp [iE,M4,e]
theorem iF {p:κ×V} {r:List (κ×V)} {k:κ} (e:¬ p.1=k):iE (p::r) k=iE r k:=by simp [iE,M4,e]
theorem rS (k:κ):∀ kvs:List (κ×V),(kvs.any fun kv=>decide (kv.1=k))=(iE kvs k).isSome
 | []=>rfl
 | p::r=>by
  rw [M5]
  by_cases e:p.1=k
  ·simp only [jx e,decide_eq_true e,Bool.true_or,Option.isSome_some]
  ·rw [iF e,decide_eq_false e,Bool.false_or]; exact rS k r
theorem jb (kvs:List (κ×V)) (k:κ) (v:V):(putK kvs k v).length<=kvs.length+1:=by
 unfold putK
 split
 ·rw [MI]; omega
 ·rw [MV,MG,M6]; omega
theorem rB.isSome_eq {o:Option V} {u:Option Qp} (r:rB o u):o.isSome=u.isSome:=by
 cases o with
 | none=>cases u with
  | none=>rfl
  | some _=>exact(show False from r).elim
 | some _=>cases u with
  | none=>exact(show False from r).elim
  | some _=>rfl
theorem KV.val {kvs:List (κ×V)} {vs:List (κ×Qp)} (r:KV kvs vs) (k:κ):rB (iE kvs k) (valueAt vs k):=by
 unfold KV at r
 induction r with
 | nil=>exact True.intro
 | @cons p q ps qs h t ih =>
  obtain⟨h1,h2⟩:=h
  by_cases e:p.1=k
  ·have e':q.1=k:=h1.symm.trans e
   have b:valueAt (q::qs) k=some q.2:=by simp [valueAt,M4,e']
   rw [jx e,b]; exact h2
  ·have e':¬ q.1=k:=fun z=>e (h1.trans z)
   have b:valueAt (q::qs) k=valueAt qs k:=by simp [valueAt,M4,e']
   rw [iF e,b]; exact ih
theorem KV.any {kvs:List (κ×V)} {vs:List (κ×Qp)} (r:KV kvs vs) (k:κ):(kvs.any fun kv=>decide (kv.1=k))=vs.any fun kv=>decide (kv.1=k):=by
 unfold KV at r
 induction r with
 | nil=>rfl
 | cons h t ih=>rw [M5,M5,ih,h.1]
theorem KV.repl {kvs:List (κ×V)} {vs:List (κ×Qp)} (r:KV kvs vs) (k:κ) {y:V} {u:Qp} (ry:RelV y u) :
  KV (kvs.map fun kv=>if kv.1=k then (kv.1,y) else kv) (vs.map fun kv=>if kv.1=k then (kv.1,u) else kv):=by
 unfold KV at r ⊢
 induction r with
 | nil=>exact .nil
 | @cons p q ps qs h t ih =>
  rw [MH,MH]
  refine .cons ?_ ih
  obtain⟨h1,h2⟩:=h
  by_cases e:p.1=k
  ·rw [if_pos e,if_pos (h1.symm.trans e)]; exact⟨h1,ry⟩
  ·rw [if_neg e,if_neg (fun z=>e (h1.trans z))]; exact⟨h1,h2⟩
theorem KV.put {kvs:List (κ×V)} {vs:List (κ×Qp)} (r:KV kvs vs) (k:κ) {y:V} {u:Qp} (ry:RelV y u):KV (putK kvs k y) (stored vs k u):=by
 unfold putK stored
 rw [r.any k]
 by_cases e:(vs.any fun kv=>decide (kv.1=k))=true
 ·rw [if_pos e,if_pos e]; exact r.repl k ry
 ·rw [if_neg e,if_neg e]; exact Paired.snoc r ⟨rfl,ry⟩
theorem KV.keys {kvs:List (κ×V)} {vs:List (κ×Qp)} (r:KV kvs vs):kvs.map (·.1)=vs.map (·.1):=by
 unfold KV at r
 induction r with
 | nil=>rfl
 | cons h t ih=>rw [MH,MH,ih,h.1]
theorem KV.length {kvs:List (κ×V)} {vs:List (κ×Qp)} (r:KV kvs vs):kvs.length=vs.length:=Paired.length r
end


theorem zI {P:Qr} {w:Qq} {k:Key} {u:Qp} (r:RelV (kV k) u):(bV P w).is k u=true:=by
 cases k with
 | inl i=>obtain⟨t,e⟩:=(show ∃ t,u=Value.int i t from r); subst e; exact wR P w i t
 | inr x=>obtain⟨t,e⟩:=(show ∃ t,u=Value.str x t from r); subst e; exact wL P w x t
theorem tP {P:Qr} {w:Qq}:∀ {ks:List Key} {us:List Qp},Vals (ks.map kV) us->ItemsAre (bV P w) ks us
 | [],_,r=>by rw [M3] at r; cases r; exact .nil
 | k::ks,_,r=>by
  rw [MH] at r
  cases r with
  | cons h t=>exact .cons (zI h) (tP t)

abbrev KT (H:Hp):List (List Key×V)->List (List Key×Qs×Qp)->Prop:=Qt fun p q=>p.1=q.1/\H q.2.1=some (.tup (p.1.map kV))/\RelV p.2 q.2.2
theorem KT.val {H:Hp} {kvs:List (List Key×V)} {xs:List (List Key×Qs×Qp)} (r:KT H kvs xs) (k:List Key):rB (iE kvs k) ((atKey xs k).map (·.2)):=by
 induction r with
 | nil=>exact True.intro
 | @cons p q ps qs h t ih =>
  obtain⟨h1,_,h2⟩:=h
  by_cases e:p.1=k
  ·have e':q.1=k:=h1.symm.trans e
   have b:atKey (q::qs) k=some q.2:=by simp [atKey,M4,e']
   rw [jx e,b]; exact h2
  ·have e':¬ q.1=k:=fun z=>e (h1.trans z)
   have b:atKey (q::qs) k=atKey qs k:=by simp [atKey,M4,e']
   rw [iF e,b]; exact ih
theorem KT.repl {H:Hp} {kvs:List (List Key×V)} {xs:List (List Key×Qs×Qp)} (r:KT H kvs xs) (k:List Key) {y:V} {u:Qp} (ry:RelV y u) :
  KT H (kvs.map fun kv=>if kv.1=k then (kv.1,y) else kv) (xs.map (putAt k u)):=by
 induction r with
 | nil=>exact .nil
 | @cons p q ps qs h t ih =>
  rw [MH,MH]
  refine .cons ?_ ih
  obtain⟨h1,h2,h3⟩:=h
  unfold putAt
  by_cases e:p.1=k
  ·rw [if_pos e,if_pos (h1.symm.trans e)]; exact⟨h1,h2,ry⟩
  ·rw [if_neg e,if_neg (fun z=>e (h1.trans z))]; exact⟨h1,h2,h3⟩
theorem KT.put {H:Hp} {kvs:List (List Key×V)} {xs:List (List Key×Qs×Qp)} (r:KT H kvs xs) (k:List Key) {b:Qs} {y:V} {u:Qp} (hb:H b=some (.tup (k.map kV))) (ry:RelV y u) :
  KT H (putK kvs k y) (storedH xs k b u):=by
 have e:(kvs.any fun kv=>decide (kv.1=k))=(atKey xs k).isSome:=by
  rw [rS,(r.val k).isSome_eq,M7]
 unfold putK storedH
 rw [e]
 by_cases q:(atKey xs k).isSome=true
 ·rw [if_pos q,if_pos q]; exact r.repl k ry
 ·rw [if_neg q,if_neg q]; exact Paired.snoc r ⟨rfl,hb,ry⟩
theorem KT.keeps {H H':Hp} {kvs:List (List Key×V)} {xs:List (List Key×Qs×Qp)} (r:KT H kvs xs) (ht:∀ b ys,H b=some (.tup ys)->H' b=some (.tup ys)):KT H' kvs xs :=
 Paired.mapP r fun _ _ z=>⟨z.1,ht _ _ z.2.1,z.2.2⟩

section
variable {P:Qr} {w:Qq} {H:Hp} {h:Qu} {a:Qs}
theorem Ft {u:HO} (ok:ox P w H h) (e:Rd H a u):cx P w H h a u:=e.ok ok
theorem zo {kvs:List (Key×V)} (ok:ox P w H h) (e:Rd H a (.dK kvs)):kvs.length<=Qv/\(a==sysModules)=false/\∃ vs,KV kvs vs/\h.DictOf (bV P w) a vs :=
 show cx P w H h a (.dK kvs) from Ft ok e
theorem Ff {kvs:List (Key×V)} (ok:ox P w H h) (e:H a=some (.dK kvs)):kvs.length<=Qv/\(a==sysModules)=false/\∃ vs,KV kvs vs/\h.DictOf (bV P w) a vs:=zo ok (.inl e)
theorem nH {ks:List Key} (ok:ox P w H h) (e:H a=some (.tup (ks.map kV))):(tupleKind (bV P w)).is h ks a:=by
 obtain⟨_,its,r,o,h1,h2,n,h3⟩:=(show cx P w H h a (.tup (ks.map kV)) from ok a _ e)
 exact⟨o,its.toArray,n,h1,h2,h3,by simpa using tP r⟩
theorem wm {kvs:List (List Key×V)} (ok:ox P w H h) (e:Rd H a (.dT kvs)):kvs.length<=Qv/\(a==sysModules)=false /\
  ∃ xs,KT H kvs xs/\h.DictOfH (tupleKind (bV P w)) a xs:=by
 obtain⟨z,y,xs,r,o,es,ep,h1,h2,h3,h4,h5⟩:=(show cx P w H h a (.dT kvs) from Ft ok e)
 refine⟨z,y,xs,r,o,es,ep,h1,h2,h3,h4,fun x hx=>?_,h5⟩
 have all:∀ {l:List (List Key×V)} {m:List (List Key×Qs×Qp)},KT H l m->∀ x∈m,(tupleKind (bV P w)).is h x.1 x.2.1:=by
  intro l m q
  induction q with
  | nil=>intro x hx; exact nomatch hx
  | @cons p q ps qs hq t ih =>
   intro x hx
   rcases List.mem_cons.mp hx with e | hx
   ·subst e
    exact nH ok (by rw [<- hq.1]; exact hq.2.1)
   ·exact ih x hx
 exact all r x hx
theorem E9 {kvs:List (List Key×V)} (ok:ox P w H h) (e:H a=some (.dT kvs)):kvs.length<=Qv/\(a==sysModules)=false /\
  ∃ xs,KT H kvs xs/\h.DictOfH (tupleKind (bV P w)) a xs:=wm ok (.inl e)
end

def Dd (H:Hp) (a:Qs) (y:V) (r:Option V):Prop :=
 (∃ kvs k,Rd H a (.dK kvs)/\y=kV k/\r=iE kvs k)\/∃ kvs k b,Rd H a (.dT kvs)/\y=.ref b/\H b=some (.tup (k.map kV))/\r=iE kvs k
def G1 (H:Hp) (a:Qs) (y v:V) (H':Hp):Prop :=
 (∃ kvs k,H a=some (.dK kvs)/\y=kV k/\kvs.length < Qv/\H'=upd H a (.dK (putK kvs k v))) \/
 ∃ kvs k b,H a=some (.dT kvs)/\y=.ref b/\H b=some (.tup (k.map kV))/\kvs.length < Qv/\H'=upd H a (.dT (putK kvs k v))
theorem Dd.t {H:Hp} {a b:Qs} {kvs:List (List Key×V)} {k:List Key} (e:H a=some (.dT kvs)) (eb:H b=some (.tup (k.map kV))):Dd H a (.ref b) (iE kvs k):=.inr ⟨kvs,k,b,.inl e,rfl,eb,rfl⟩
theorem G1.k {H:Hp} {a:Qs} {kvs:List (Key×V)} {k:Key} {v:V} (e:H a=some (.dK kvs)) (hl:kvs.length < Qv):G1 H a (kV k) v (upd H a (.dK (putK kvs k v))):=.inl ⟨kvs,k,e,rfl,hl,rfl⟩
theorem G1.t {H:Hp} {a b:Qs} {kvs:List (List Key×V)} {k:List Key} {v:V} (e:H a=some (.dT kvs)) (eb:H b=some (.tup (k.map kV))) (hl:kvs.length < Qv) :
  G1 H a (.ref b) v (upd H a (.dT (putK kvs k v))):=.inr ⟨kvs,k,b,e,rfl,eb,hl,rfl⟩


section
variable {X:Cx} {pins:List (Qs×Obj)} {σ:St} {H:Hp} {s:QB} {a:Qs} {y v:V} {u r:Qp} {o:Option V} {A:QA} {E:Qp->QB->Prop}

theorem Inv.big (I:Inv X pins σ H s):sysModules < s.heap.objs.size:=by
 have h:Qx < s.heap.objs.size:=(I.mod.glob.keeps I.bk).lt
 exact M8 (by decide) h

theorem Ba {Q:Qp->QB->Prop} (hu:A.units+1 < QZ) (I:Inv X pins σ H s) (g:Dd H a y (some v)) (ry:RelV y u) (h:∀ w' s',Inv X pins σ H s'->RelV v w'->Q w' s') :
  QD (model X.prog X.w) A (getItem (.ref a) u) Q E s:=by
 rcases g with ⟨kvs,k,e,ey,l⟩ | ⟨kvs,k,b,e,ey,eb,l⟩
 ·subst ey
  obtain⟨z,hd,vs,rel,dd⟩:=zo I.hok e
  obtain⟨w',hw,rw'⟩:=rB.some_of (v:=v) (o:=valueAt vs k) (by rw [l]; exact rel.val k)
  exact wpAny_getItem_of (zI ry) dd.mapOf hw (h w' _ (I.tok _) rw')
 ·subst ey
  cases (show u=Value.ref b from ry)
  obtain⟨z,hd,xs,rel,dd⟩:=wm I.hok e
  obtain⟨w',hw,rw'⟩:=rB.some_of (v:=v) (o:=(atKey xs k).map (·.2)) (by rw [l]; exact rel.val k)
  obtain⟨p,hp,hp2⟩:=Option.map_eq_some_iff.mp hw
  refine wpAny_getItem_heap (Rn hu) (nH I.hok eb) dd hp ?_
  rw [hp2]
  exact h w' _ (I.tok _) rw'
theorem yZ {Q:Qp->QB->Prop} (hu:A.units+1 < QZ) (I:Inv X pins σ H s) (g:Dd H a y o) (ry:RelV y u) (h:∀ s',Inv X pins σ H s'->Q (.bool (!o.isSome)) s') :
  QD (model X.prog X.w) A (QS .NotIn u (.ref a)) Q E s:=by
 rcases g with ⟨kvs,k,e,ey,l⟩ | ⟨kvs,k,b,e,ey,eb,l⟩
 ·subst ey
  obtain⟨z,hd,vs,rel,dd⟩:=zo I.hok e
  refine wpAny_notIn_of (zI ry) hd dd.mapOf ?_
  rw [<- (rel.val k).isSome_eq,<- l]
  exact h _ (I.tok _)
 ·subst ey
  cases (show u=Value.ref b from ry)
  obtain⟨z,hd,xs,rel,dd⟩:=wm I.hok e
  refine wpAny_notIn_heap (Rn hu) (nH I.hok eb) hd dd ?_
  have q:=(rel.val k).isSome_eq
  rw [M7] at q
  rw [<- q,<- l]
  exact h _ (I.tok _)
theorem mr {h':Qu} {t':Nat} {ob:HO} (I:Inv X pins σ H s) (mu:IE (H a)) (hs:PV a s.heap h') (he:∃ q,h'.get? a=some q) (new:cx X.prog X.w (upd H a ob) h' a ob) :
  Inv X pins σ (upd H a ob) { s with heap:=h',toks:=t' } :=
 I.write (x:=a) (e:=a) mu (.inl rfl) (fun b q hb z=>(hs.2 b hb).trans z) he new
theorem FC {P:Qr} {w:Qq} {H':Hp} {h':Qu} {kvs:List (Key×V)} {vs:List (Key×Qp)} (z:kvs.length<=Qv) (hd:(a==sysModules)=false) (rel:KV kvs vs) (dd:h'.DictOf (bV P w) a vs) :
  cx P w H' h' a (.dK kvs):=⟨z,hd,vs,rel,dd⟩
theorem mJ {H':Hp} {Q:Unit->QB->Prop} (hu:A.units+1 < QZ) (I:Inv X pins σ H s) (g:G1 H a y v H') (ry:RelV y u) (rv:RelV v r) (h:∀ s',Inv X pins σ H' s'->Q () s') :
  QD (model X.prog X.w) A (setItem (.ref a) u r) Q E s:=by
 rcases g with ⟨kvs,k,e,ey,l,eH⟩ | ⟨kvs,k,b,e,ey,eb,l,eH⟩
 ·subst ey eH
  obtain⟨z,hd,vs,rel,dd⟩:=Ff I.hok e
  have hz:vs.length<=Qv:=by rw [<- rel.length]; exact z
  have hl:(putK kvs k v).length<=Qv:=by have:=jb kvs k v; omega
  refine wpAny_setItem_pairs (hsz:=hz) (zI ry) dd fun h' dd' hs=>h _ ?_
  have he:∃ q,h'.get? a=some q:=let ⟨q,_,_,hq,_⟩:=dd'; ⟨q,hq⟩
  exact mr I (by rw [e]; exact True.intro) hs he (FC hl hd (rel.put k rv) dd')
 ·subst ey eH
  cases (show u=Value.ref b from ry)
  obtain⟨z,hd,xs,rel,dd⟩:=E9 I.hok e
  have hz:xs.length<=Qv:=by rw [<- Paired.length rel]; exact z
  have hl:(putK kvs k v).length<=Qv:=by have:=jb kvs k v; omega
  refine wpAny_setItem_heap (hsz:=hz) (Rn hu) (nH I.hok eb) dd fun h' dd' hs=>h _ ?_
  obtain⟨q,es,ep,hq,h2,h3,h4,_,h5⟩:=dd'
  refine mr I (by rw [e]; exact True.intro) hs ⟨q,hq⟩ ⟨hl,hd,_,(rel.put k eb rv).keeps fun c ys ec=>?_,q,es,ep,hq,h2,h3,h4,h5⟩
  rw [aD (B7 ec e (fun z=>nomatch z))]
  exact ec
end



def DK (i:QE):Prop:=∀ ov iv,subscripted i false ov iv=operate [ov,iv] (getItem ov iv)
theorem DJ {prog:Qr} {w:Qq} {A:QA} {E:Qp->QB->Prop} {s:QB} {env:Env} {value slice:QE} {pos:Pos} {T id:String} {Q:Qp->QB->Prop}
  (hl:typeLookup (.type T) "__getitem__"=pure (some (.builtin id))) (hs:DK slice)
  (h:QD (model prog w) A (eval value env) (fun o s₁=>QD (model prog w) A (eval slice env) (fun i s₂=>s₂.TypeIs o T/\QD (model prog w) A (getItem o i) Q E s₂) E s₁) E s) :
  QD (model prog w) A (eval (.Subscript value slice pos) env) Q E s:=by
 refine Rj (QH h (fun o s₁ h₁=>QH h₁ (fun i s₂ h₂=>?_) fun _ _ x=>x) fun _ _ x=>x)
 obtain⟨hT,h₂⟩:=h₂
 unfold subscriptTail
 refine QM ?_
 rw [getitemInPython_of_ne hT.not_modules]
 refine QM (wpAny_specialOf hT hl ?_)
 have fin:QD (model prog w) A (subscripted slice false o i) (fun r s₃=>QD (model prog w) A (letTemporaryGo value o r >>= fun _=>pure r) Q E s₃) E s₂:=by
  rw [hs o i]
  exact wpAny_operating (QH h₂ (fun r s₃ h₃=>QM (wpAny_letTemporaryGo (QL h₃))) fun _ _ x=>x)
 first
  | exact QL (QM fin)
  | exact QM (QL (QM fin))
  | exact QM fin

theorem xE {X:Cx} {pins:List (Qs×Obj)} {σ:St} {H:Hp} {s:QB} {a:Qs} {y:V} {o:Option V} (I:Inv X pins σ H s) (g:Dd H a y o):s.TypeIs (.ref a) "dict":=by
 rcases g with ⟨kvs,k,e,_,_⟩ | ⟨kvs,k,b,e,_,_,_⟩
 ·obtain⟨_,_,vs,_,dd⟩:=zo I.hok e
  exact dd.typeIs
 ·obtain⟨_,_,xs,_,dd⟩:=wm I.hok e
  exact dd.typeIs
def IR (td ty:TE):TE:=fun σ H Q=>td σ H fun x H1=>ty σ H1 fun y H2=>∃ a v,x=.ref a/\Dd H2 a y (some v)/\Q v H2
section
variable {X:Cx} {o i e value:QE} {pos pos' tpos:Pos} {td ty tv:TE}
theorem EB (hu:X.A.units+1 < QZ) (ho:PE X o td) (hi:PE X i ty) (hs:DK i):PE X (.Subscript o i pos) (IR td ty):=by
 intro pins s σ H Q I h
 refine DJ PySem.F.slot_dict_getitem.lookup hs (eK (ho pins s σ H _ I h) fun u s1 ⟨x,H1,I1,rx,q1⟩=>eK (hi pins s1 σ H1 _ I1 q1) fun iv s2 ⟨y,H2,I2,ry,a,v,ex,g,q2⟩=>?_)
 subst ex
 obtain rfl:u=Value.ref a:=rx
 exact⟨xE I2 g,Ba hu I2 g ry fun w' s3 I3 rw'=>⟨v,H2,I3,rw',q2⟩⟩
end


theorem B3 {P:Qr} {w:Qq} {H:Hp} (h:Qu) (hb:sysModules < h.objs.size):cx P w H (h.push { cls:=.type "dict",data:=.dict #[] }) h.objs.size (.dT []) :=
 ⟨MK _,beq_eq_false_iff_ne.mpr (Ne.symm (Mq hb)),[],.nil,_,#[],0,PY _ rfl,⟨rfl,rfl,rfl⟩,rfl,rfl,M9⟩
def Hc:TE:=fun _ H Q=>∀ p,H p=none->Q (.ref p) (upd H p (.dT []))
section
variable {X:Cx} {pos:Pos}
theorem CQ:PE X (.Dict [] [] pos) Hc:=fun pins s σ H Q I h =>
 wpAny_Dict_empty ⟨.ref s.heap.objs.size,_,I.laid (a:=s.heap.objs.size) (o:=.dT []) (t':=s.toks) (fun _ _ q=>PX _ q) (MA _) (B3 s.heap I.big),rfl,h _ (I.hok.fresh (MA _))⟩
end





end L2
namespace L2
open PySem PySem.Spec PyProof.Rows
end L2
namespace L2
open PySem PySem.Spec PyProof.Rows

def dJ (cells:List (Str×Qs)):List (Str×Q4)->List (Str×Qs)->List (Str×Qs)
 | [],acc=>acc
 | (n,k)::r,acc=>if k=.free then (match cells.lookup n with | some c=>dJ cells r ((n,c)::acc) | none=>dJ cells r acc) else dJ cells r acc
theorem mR {cells:List (Str×Qs)}:∀ (names:List (Str×Q4)) (acc:List (Str×Qs)),(∀ x c,acc.lookup x=some c->cells.lookup x=some c) ->
  ∀ x c,(dJ cells names acc).lookup x=some c->cells.lookup x=some c
 | [],acc,h=>h
 | (n,k)::r,acc,h=>by
  unfold dJ
  by_cases hk:k=.free
  ·rw [if_pos hk]
   cases e:cells.lookup n with
   | none=>exact mR r acc h
   | some c0 =>
    refine mR r _ fun x c q=>?_
    rw [Nb] at q
    cases hx:x==n with
    | true =>
     rw [hx] at q
     have e1:x=n:=by simpa using hx
     cases q
     rw [e1]; exact e
    | false=>rw [hx] at q; exact h x c q
  ·rw [if_neg hk]; exact mR r acc h
theorem jV {cells:List (Str×Qs)}:∀ (names:List (Str×Q4)) (acc:List (Str×Qs)) (x:Str),(acc.lookup x).isSome=true->((dJ cells names acc).lookup x).isSome=true
 | [],acc,x,h=>h
 | (n,k)::r,acc,x,h=>by
  unfold dJ
  by_cases hk:k=.free
  ·rw [if_pos hk]
   cases e:cells.lookup n with
   | none=>exact jV r acc x h
   | some c0 =>
    refine jV r _ x ?_
    rw [Nb]
    cases hx:x==n with
    | true=>rfl
    | false=>exact h
  ·rw [if_neg hk]; exact jV r acc x h
theorem jB {cells:List (Str×Qs)}:∀ (names:List (Str×Q4)) (acc:List (Str×Qs)) (x:Str),(x,NameKind.free)∈names->(∃ c,cells.lookup x=some c)->((dJ cells names acc).lookup x).isSome=true
 | [],acc,x,h,_=>absurd h (by simp)
 | (n,k)::r,acc,x,h,hc=>by
  unfold dJ
  rcases List.mem_cons.mp h with e | h
  ·cases e
   rw [if_pos rfl]
   obtain⟨c,e⟩:=hc
   rw [e]
   refine jV r _ _ ?_
   rw [Nb]
   simp
  ·by_cases hk:k=.free
   ·rw [if_pos hk]
    cases e:cells.lookup n with
    | none=>exact jB r acc x h hc
    | some c0=>exact jB r _ x h hc
   ·rw [if_neg hk]; exact jB r acc x h hc
theorem nX {scope:QC} {env:Env} (h:∀ p∈scope.names,p.2=.free->∃ c,env.cells.lookup p.1=some c):closureFor scope env=pure (dJ env.cells scope.names []):=by
 have go:∀ (names:List (Str×Q4)) (acc:List (Str×Qs)),(∀ p∈names,p.2=.free->∃ c,env.cells.lookup p.1=some c) ->
   (forIn names acc fun x cs=>(match x with | (name,kind)=>if (kind==NameKind.free)=true then do let a <- cellOf env name; pure (ForInStep.yield ((name,a)::cs)) else pure (ForInStep.yield cs):Sem (ForInStep (List (Str×Qs)))))=pure (dJ env.cells names acc):=by
  intro names
  induction names with
  | nil=>intro acc _; rfl
  | cons p r ih =>
   intro acc hp
   obtain⟨n,k⟩:=p
   rw [Nc]
   by_cases hk:k=.free
   ·obtain⟨c,e⟩:=hp (n,k) Mu hk
    subst hk
    have e2:cellOf env n=pure c:=by unfold cellOf; rw [e]
    simp only [beq_self_eq_true,if_true,e2,pure_bind]
    rw [ih _ fun q hq=>hp q (Mv _ hq)]
    conv=>rhs; rw [dJ]
    simp [e]
   ·have hb:(k==NameKind.free)=false:=by simpa using hk
    simp only [hb,Nf,if_false,pure_bind]
    rw [ih _ fun q hq=>hp q (Mv _ hq)]
    conv=>rhs; rw [dJ,if_neg hk]
 have:=go scope.names [] h
 unfold closureFor
 simp only []
 rw [this]
 rfl

def cE (X:Cx) (scope:QC) (N:List Str) (cl:List (Str×Qs)) (C:Qs) (fp:List Qs) (s:QB) (H:Hp) (E:Qp->QB->Prop):Cx where
 prog:=X.prog
 w:=X.w
 K:=X.K
 mg:=X.mg
 base:=X.base
 A:=X.A
 N:=N
 s₀:=s
 H₀:=H
 env:=compEnvC scope cl C X.env
 outer:=X.stack
 stack:=X.stack
 ex:=fp
 fn:=fun _=>false
 calm:=X.calm
 pn:=[]
 xe:=E

def vi (XN N:List Str) (names:List (Str×Q4)) (ix:List (Option Nat)):Bool :=
 decide (ix.length=N.length) && (N.zip ix).all fun p=>match p.2 with
  | some i=>decide (XN[i]?=some p.1) && decide (names.lookup p.1=some .free)
  | none=>true
def inBlock (ix:List (Option Nat)) (σ:St):St:=ix.map fun o=>match o with
 | some i=>(σ[i]?).getD none
 | none=>none
theorem vi.len {XN N:List Str} {names:List (Str×Q4)} {ix:List (Option Nat)} (h:vi XN N names ix=true):ix.length=N.length:=by
 unfold vi at h
 rw [MZ] at h
 exact of_decide_eq_true h.1
theorem vi.at_ {XN N:List Str} {names:List (Str×Q4)} {ix:List (Option Nat)} (h:vi XN N names ix=true) {j i:Nat} {x:Str} (h1:N[j]?=some x) (h2:ix[j]?=some (some i)):XN[i]?=some x/\names.lookup x=some .free:=by
 unfold vi at h
 rw [MZ] at h
 have hm:(x,some i)∈N.zip ix:=by
  have e:(N.zip ix)[j]?=some (x,some i):=by rw [List.getElem?_zip_eq_some]; exact⟨h1,h2⟩
  exact MU e
 have q:=List.all_eq_true.mp h.2 _ hm
 simp only [MZ] at q
 exact⟨of_decide_eq_true q.1,of_decide_eq_true q.2⟩

theorem lJ {env:Env}:∀ {names:List (Str×Q4)} {x:Str} {k:Q4},
  (names.map fun (n,k)=>if (k==NameKind.free && env.scope.kind==.function && env.kindOf n==some .cell) then (n,NameKind.cell) else (n,k)).lookup x=some k ->
  names.lookup x=some k\/(names.lookup x=some .free/\k=.cell)
 | [],_,_,h=>by simp at h
 | (n,k0)::r,x,k,h=>by
  have ih:=@lJ env r x k
  replace h:List.lookup x ((if (k0==NameKind.free && env.scope.kind==.function && env.kindOf n==some .cell)=true then (n,NameKind.cell) else (n,k0))::(r.map fun (n,k)=>if (k==NameKind.free && env.scope.kind==.function && env.kindOf n==some .cell) then (n,NameKind.cell) else (n,k)))=some k:=h
  by_cases hc:(k0==NameKind.free && env.scope.kind==.function && env.kindOf n==some .cell)=true
  ·rw [if_pos hc] at h
   have hk0:k0=.free:=by
    simp only [MZ] at hc
    simpa using hc.1.1
   cases hx:x==n with
   | true =>
    simp only [Nb,hx] at h
    simp only [Nb,hx]
    cases h
    exact .inr ⟨by rw [hk0],rfl⟩
   | false =>
    simp only [Nb,hx] at h ⊢
    exact ih h
  ·rw [if_neg hc] at h
   cases hx:x==n with
   | true =>
    simp only [Nb,hx] at h ⊢
    exact .inl h
   | false =>
    simp only [Nb,hx] at h ⊢
    exact ih h
def FD (X:Cx) (ifs:List QE) (t:TT):Prop :=
 ∀ (pins:List (Qs×Obj)) (s:QB) (σ:St) (H:Hp) (Q:Bool->Hp->Prop),Inv X pins σ H s->t σ H Q ->
  QD (model X.prog X.w) X.A (forIn ifs true fun c r=>if r=true then do let ok <- isTrue c X.env (eval c X.env); pure (ForInStep.yield ok) else pure (ForInStep.yield r)) (TP X pins σ Q) X.xe s
def HC:TT:=fun _ H Q=>Q true H
theorem Ep {X:Cx}:FD X [] HC:=fun _ _ _ H _ I h=>wpAny_tests_nil ⟨H,I,h⟩
theorem DR {X:Cx} {c:QE} {t:TT} (h:PT X c t):FD X [c] t:=fun pins s σ H Q I q=>wpAny_tests_one (h pins s σ H Q I q)

theorem kZ {prog:Qr} {w:Qq} {A:QA} {R:Result->QB->Prop} {s:QB} {elt target iter:QE} {ifs:List QE} {scope:QC} {pos:Pos} {it acc:Qp} {env:Env} (I:Nat->QB->Prop)
  (turn:∀ n s,I n s->QD (model prog w) A (pyNext it) (fun r s₁=>match r with
   | none=>R (.ok .next) s₁
   | some v=>QD (model prog w) A (letOwnedTupleGo target it v) (fun _ s₁'=>QD (model prog w) A (assign target env v) (fun _ s₂ =>
     QD (model prog w) A (forIn ifs true fun c r=>if r=true then do let ok <- isTrue c env (eval c env); pure (ForInStep.yield ok) else pure (ForInStep.yield r)) (fun ok s₃ =>
      if ok=true then QD (model prog w) A (eval elt env) (fun x s₄ =>
       QD (model prog w) A (call (.builtin "list.append") [acc,x]) (fun _ s₅=>∃ m,m < n/\I m s₅) (notedBy (model prog w) A env fun e s'=>R (.error e) s') s₄) (notedBy (model prog w) A env fun e s'=>R (.error e) s') s₃
      else ∃ m,m < n/\I m s₃) (notedBy (model prog w) A env fun e s'=>R (.error e) s') s₂) (notedBy (model prog w) A env fun e s'=>R (.error e) s') s₁') (notedBy (model prog w) A env fun e s'=>R (.error e) s') s₁) (notedBy (model prog w) A env fun e s'=>R (.error e) s') s)
  (n:Nat) (h:I n s) :
  QV (model prog w) A (.compLoop (.ListComp elt [⟨target,iter,ifs,0⟩] scope pos) 0 it acc env) R s:=by
 refine codeAny_loop rfl I (fun n s hI=>?_) n h
 show QD _ A ((compTurn (.ListComp elt [⟨target,iter,ifs,0⟩] scope pos) 0 it acc env).onRaise (fun x=>do noteFrame x env; theTreesLotGoes x)) _ _ s
 refine wpAny_noted ?_
 rw [compTurn_list]
 refine QM (Ro (QM (QH (turn n s hI) (fun r s₁ h₁=>?_) fun _ _ h'=>h')))
 cases r with
 | none=>exact QL h₁
 | some v =>
  refine QM (QH h₁ (fun _ s₁' h₁'=>?_) fun _ _ h'=>h')
  refine QM (QH h₁' (fun _ s₂ h₂=>QM (QH h₂ (fun ok s₃ h₃=>?_) fun _ _ h'=>h')) fun _ _ h'=>h')
  cases ok with
  | false=>exact QL ⟨rfl,h₃⟩
  | true =>
   exact QM (QM (QH h₃ (fun x s₄ h₄=>QM (QH h₄ (fun _ s₅ h₅=>QL (QL ⟨rfl,h₅⟩)) fun _ _ h'=>h')) fun _ _ h'=>h'))

def JO (wi:TI) (g:TG) (tc:TT) (te:TE) (ix:List (Option Nat)):TE:=fun σ H Q =>
 wi σ H fun J H1=>∀ D,H1 D=none->∃ W:Nat->Nat->St->Hp->Prop,(∃ m,W 0 m (inBlock ix σ) (upd H1 D (.lst []))) /\
  ∀ i m σ' H',W i m σ' H'->(J.stop i H'/\Q (.ref D) H') \/
   (J.go i H'/\∀ x H2,J.yld i H' x H2->g x σ' H2 fun σ3 H3=>tc σ3 H3 fun b H4 =>
    if b=true then te σ3 H4 fun v H5=>∃ acc,H5 D=some (.lst acc)/\acc.length < Qv/\∃ m',m' < m/\W (i+1) m' σ3 (upd H5 D (.lst (acc++[v])))
    else ∃ m',m' < m/\W (i+1) m' σ3 H4)

section
variable {X:Cx} {elt tg iter:QE} {ifs:List QE} {scope:QC} {pos:Pos} {N:List Str} {ix:List (Option Nat)} {wi:TI} {g:TG} {tc:TT} {te:TE}

theorem rh {pins:List (Qs×Obj)} {σ:St} {s2:QB} {H2:Hp} {it:Qs} {fp:List Qs} {tn:Nat->Qu->Prop} {J:It} {Q:V->Hp->Prop} {E:Qp->QB->Prop} {RR:Qp->Qs->Result->QB->Prop}
    (hc:X.calm=true) (hcell:∀ y∈scope.names,y.2≠.cell) (hkind:scope.kind=.function)
    (hfr:∀ y∈scope.names,y.2=.free->X.env.scope.names.lookup y.1=some .cell\/X.env.scope.names.lookup y.1=some .free)
    (hix:vi X.N N scope.names ix=true)
    (hb:∀ cl C fp s H E,PG (cE X scope N cl C fp s H E) tg g/\FD (cE X scope N cl C fp s H E) ifs tc/\PE (cE X scope N cl C fp s H E) elt te)
    (I2:Inv X pins σ H2 s2) (T:Turn X.prog X.w X.K tg J fp it tn) (st2:tn 0 s2.heap) (f2:∀ b∈fp,tI X pins H2 b)
    (q:∀ D,H2 D=none->∃ W:Nat->Nat->St->Hp->Prop,(∃ m,W 0 m (inBlock ix σ) (upd H2 D (.lst []))) /\
      ∀ i m σ' H',W i m σ' H'->(J.stop i H'/\Q (.ref D) H') \/
        (J.go i H'/\∀ x H3,J.yld i H' x H3->g x σ' H3 fun σ3 H3=>tc σ3 H3 fun b H4 =>
          if b=true then te σ3 H4 fun v H5=>∃ acc,H5 D=some (.lst acc)/\acc.length < Qv/\∃ m',m' < m/\W (i+1) m' σ3 (upd H5 D (.lst (acc++[v])))
          else ∃ m',m' < m/\W (i+1) m' σ3 H4))
    (hRR:∀ D C H' s' m,H2 D=none->s2.heap.objs.size<=C->H' C=none->s'.heap.Ns C m->(∀ h',PV C s'.heap h'->Inv X pins σ H' { s' with heap:=h' })->Q (.ref D) H'->RR (.ref D) C (.ok .next) s') :
    QD (model X.prog X.w) X.A (newList []) (fun acc s₃=>QD (model X.prog X.w) X.A (newFunctionEnv scope X.env.globals (dJ X.env.cells scope.names []) [] X.env.qual none .none (some X.env)) (fun cenv s₄ =>
      QV (model X.prog X.w) X.A (.compStart (.ListComp elt [⟨tg,iter,ifs,0⟩] scope pos) 0 (.ref it) acc { cenv with scope:=relabel scope X.env }) (RR acc cenv.locals) s₄) E s₃) E s2:=by
  refine Rh (wpAny_newFunctionEnv hcell (by intro y hy; simp at hy) (fun h₁ hns₁ hsb₁=>?_) hkind)
  dsimp only at hns₁ hsb₁ ⊢
  have I3:Inv X pins σ (upd H2 s2.heap.objs.size (.lst [])) { s2 with heap:=s2.heap.push { cls:=.type "list",dict:=none,data:=.seq ([]:List Qp).toArray },toks:=s2.toks }:=I2.lnew (its:=[]) (t':=s2.toks) .nil (MK _)
  generalize hs3:({ s2 with heap:=s2.heap.push { cls:=.type "list",dict:=none,data:=.seq ([]:List Qp).toArray },toks:=s2.toks }:QB)=s3 at I3
  have eh3:s2.heap.push { cls:=.type "list",dict:=none,data:=.seq ([]:List Qp).toArray }=s3.heap:=by rw [<- hs3]
  rw [eh3] at hns₁ hsb₁ ⊢
  have hC3:s3.heap.objs.size=s2.heap.objs.size+1:=by rw [<- eh3,PZ]
  have hD:H2 s2.heap.objs.size=none:=I2.fresh
  obtain⟨W,⟨m0,w0⟩,turn⟩:=q s2.heap.objs.size hD
  generalize hH3:upd H2 s2.heap.objs.size (.lst [])=H3 at I3 w0
  have old:∀ b o,s3.heap.get? b=some o->h₁.get? b=some o:=fun b o e=>hsb₁.extBut b o (Mq (PQ e)) (PX _ e)
  have fpH3:∀ b∈fp,H3 b=none:=fun b hb'=>by
    rw [<- hH3,aD]
    · exact(f2 b hb').1
    · obtain⟨o,e,_⟩:=T.obj _ _ st2 b hb'
      exact Mq (PQ e)
  have fpLt:∀ b∈fp,b < s3.heap.objs.size:=fun b hb'=>by
    obtain⟨o,e,_⟩:=T.obj _ _ st2 b hb'
    rw [hC3]; exact Ng (PQ e)
  have hfree:∀ p∈scope.names,p.2=.free->∃ c,X.env.cells.lookup p.1=some c:=fun p hp hk=>I2.ok.has p.1 (hfr p hp hk)
  have csub:∀ x c,(dJ X.env.cells scope.names []).lookup x=some c->X.env.cells.lookup x=some c:=mR scope.names [] (fun x c e=>by simp at e)
  have names':∀ x k,(relabel scope X.env).names.lookup x=some k->scope.names.lookup x=some k\/(scope.names.lookup x=some .free/\k=.cell):=fun x k h=>lJ h
  have ok:(cE X scope N (dJ X.env.cells scope.names []) s3.heap.objs.size fp s3 H3 (notedBy (model X.prog X.w) X.A (compEnvC scope (dJ X.env.cells scope.names []) s3.heap.objs.size X.env) fun e s'=>RR (.ref s2.heap.objs.size) s3.heap.objs.size (.error e) s')).Ok :=
    { mod:=I3.ok.mod
      kind:=hkind
      glob:=I3.ok.glob
      blt:=I3.ok.blt
      above:=MA _
      inj:=fun x y c h1 h2=>I3.ok.inj x y c (csub x c h1) (csub y c h2)
      has:=fun x hx=>by
        have fr:scope.names.lookup x=some .free:=by
          rcases hx with hx | hx
          · rcases names' x .cell hx with h | ⟨h,_⟩
            · exact absurd rfl (hcell _ (PySem.mem_of_lookup h))
            · exact h
          · rcases names' x .free hx with h | ⟨_,h⟩
            · exact h
            · cases h
        have hm:=PySem.mem_of_lookup fr
        exact Option.isSome_iff_exists.mp (jB scope.names [] x hm (hfree _ hm rfl))
      cab:=fun x c h _=>by cases h
      hd:=I3.ok.hd
      frames:=I3.ok.frames
      stk:=.inl rfl
      exf:=fun b hb'=>⟨Mq (fpLt b hb'),fun x c e=>(f2 b hb').2.2.2.2.1 x c (csub x c e)⟩
      bs:=fun b o e=>I3.bs b o e
      bsz:=Mr I3.ok.bsz I3.sz
      noex:=fun b o e hb'=>by
        obtain⟨_,_,_,h4,_⟩:=f2 b hb'
        rcases h4 with h4 | h4
        · exact I3.ok.noex b o e h4
        · exact absurd (Mo (PQ (I3.ok.bs b o e).1) h4) (Mp _)
      exfs:=fun b hb' hs=>by
        obtain⟨_,h2,h3,_⟩:=f2 b hb'
        rcases List.mem_cons.mp (I3.stkSub b hs) with e | e
        · exact h2 e
        · exact h3 e
      funs:=I3.stack
      frf:=fun b hb'=>I3.stkFree b hb' }
  generalize hE:(notedBy (model X.prog X.w) X.A (compEnvC scope (dJ X.env.cells scope.names []) s3.heap.objs.size X.env) fun e s'=>RR (.ref s2.heap.objs.size) s3.heap.objs.size (.error e) s')=E' at ok
  obtain⟨hg,htc,hel⟩:=hb (dJ X.env.cells scope.names []) s3.heap.objs.size fp s3 H3 E'
  have Istart:∀ tk,Inv (cE X scope N (dJ X.env.cells scope.names []) s3.heap.objs.size fp s3 H3 E') [] (inBlock ix σ) H3 { s3 with heap:=h₁,toks:=tk }:=fun tk=>by
    refine⟨ok,rfl,I3.bare,Un.kept old,⟨_,hns₁,fun j x v e1 e2 _=>?_⟩,fun x c e=>?_,I3.fresh,fun x c e=>I3.freeC x c (csub x c e),fun p hp=>absurd (show p∈([]:List (Qs×Obj)) from hp) (by simp),I3.hok.kept old,?_⟩
    · -- a captured name
      unfold inBlock at e2
      rw [MS] at e2
      cases q1:ix[j]? with
      | none=>rw [q1] at e2; simp at e2
      | some o =>
        rw [q1] at e2
        cases o with
        | none=>simp at e2
        | some i =>
          obtain⟨n1,n2⟩:=vi.at_ hix e1 q1
          have e2':(σ[i]?).getD none=some v:=Option.some.inj e2
          have e3:σ[i]?=some (some v):=by
            cases q2:σ[i]? with
            | none=>rw [q2] at e2'; simp at e2'
            | some o2=>rw [q2] at e2'; simpa using e2'
          obtain⟨m,hn,hl⟩:=I3.loc
          have hm:=PySem.mem_of_lookup n2
          have hk:=hfr _ hm rfl
          have hv:Gn X.env.scope x:=by
            rcases hk with hk | hk
            · exact .inr (.inl hk)
            · exact .inr (.inr hk)
          obtain⟨u,r,l⟩:=hl i x v n1 e3 hv
          refine⟨u,r,.inr ?_⟩
          rcases l with ⟨kl,_⟩ | ⟨_,c,hcx,hcell'⟩
          · have kl':X.env.scope.names.lookup x=some .local:=kl
            rcases hk with hk | hk
            · rw [kl'] at hk; cases hk
            · rw [kl'] at hk; cases hk
          · obtain⟨c',hc'⟩:=Option.isSome_iff_exists.mp (jB (cells:=X.env.cells) scope.names [] x hm ⟨c,hcx⟩)
            have ec:c'=c:=Option.some.inj ((csub x c' hc').symm.trans hcx)
            subst ec
            refine⟨?_,c',hc',?_⟩
            · -- its kind in the block: cell or free
              show (relabel scope X.env).names.lookup x=some .cell\/(relabel scope X.env).names.lookup x=some .free
              have gen:∀ names:List (Str×Q4),names.lookup x=some .free->((names.map fun (n,k)=>if (k==NameKind.free && X.env.scope.kind==.function && X.env.kindOf n==some .cell) then (n,NameKind.cell) else (n,k)).lookup x=some .cell\/(names.map fun (n,k)=>if (k==NameKind.free && X.env.scope.kind==.function && X.env.kindOf n==some .cell) then (n,NameKind.cell) else (n,k)).lookup x=some .free):=by
                intro names
                induction names with
                | nil=>intro h; simp at h
                | cons p r ih =>
                  obtain⟨n,k⟩:=p
                  intro h
                  show List.lookup x ((if (k==NameKind.free && X.env.scope.kind==.function && X.env.kindOf n==some .cell)=true then (n,NameKind.cell) else (n,k))::_)=_\/List.lookup x ((if (k==NameKind.free && X.env.scope.kind==.function && X.env.kindOf n==some .cell)=true then (n,NameKind.cell) else (n,k))::_)=_
                  cases hx:x==n with
                  | true =>
                    simp only [Nb,hx] at h
                    by_cases hcc:(k==NameKind.free && X.env.scope.kind==.function && X.env.kindOf n==some .cell)=true
                    · rw [if_pos hcc]; left; simp only [Nb,hx]
                    · rw [if_neg hcc]; right; simp only [Nb,hx]; exact h
                  | false =>
                    simp only [Nb,hx] at h
                    by_cases hcc:(k==NameKind.free && X.env.scope.kind==.function && X.env.kindOf n==some .cell)=true
                    · rw [if_pos hcc]; simp only [Nb,hx]; exact ih h
                    · rw [if_neg hcc]; simp only [Nb,hx]; exact ih h
              exact gen scope.names n2
            · exact hcell'.keeps old
    · obtain⟨v,z⟩:=I3.cell x c (csub x c e)
      exact⟨v,z.keeps old⟩
    · show (inBlock ix σ).length=N.length
      unfold inBlock
      rw [MI]
      exact vi.len hix
  have stat:∀ {H':Hp},(∀ b∈fp,H' b=none)->∀ b∈fp,tI (cE X scope N (dJ X.env.cells scope.names []) s3.heap.objs.size fp s3 H3 E') [] H' b:=fun hn b hb' =>
    ⟨hn b hb',(ok.exf b hb').1,ok.exfs b hb',.inl hb',(ok.exf b hb').2,fun p hp=>absurd (show p∈([]:List (Qs×Obj)) from hp) (by simp)⟩
  have tn1:tn 0 h₁:=T.keep _ _ _ st2 fun b hb' o e=>old b o (by rw [<- eh3]; exact PX _ e)
  have loop:∀ tk,QV (model X.prog X.w) X.A (.compLoop (.ListComp elt [⟨tg,iter,ifs,0⟩] scope pos) 0 (.ref it) (.ref s2.heap.objs.size) (compEnvC scope (dJ X.env.cells scope.names []) s3.heap.objs.size X.env))
      (RR (.ref s2.heap.objs.size) s3.heap.objs.size) { s3 with heap:=h₁,toks:=tk }:=by
    intro tk
    refine kZ (fun n s'=>∃ i σ' H',Inv (cE X scope N (dJ X.env.cells scope.names []) s3.heap.objs.size fp s3 H3 E') [] σ' H' s'/\tn i s'.heap/\(∀ b∈fp,H' b=none)/\W i n σ' H') ?_ m0 ⟨0,_,_,Istart tk,tn1,fpH3,w0⟩
    rintro n s5 ⟨i,σ5,H5,I5,st5,fr5,w5⟩
    rw [hE]
    rcases turn i n σ5 H5 w5 with ⟨stop,qn⟩ | ⟨go,step⟩
    · refine eK (T.done (cE X scope N (dJ X.env.cells scope.names []) s3.heap.objs.size fp s3 H3 E') rfl rfl rfl hc i [] s5 σ5 H5 _ I5 (stat fr5) st5 stop) fun r s6 ⟨hr,I6⟩=>?_
      subst hr
      obtain⟨m6,hn6,_⟩:=I6.loc
      refine hRR s2.heap.objs.size s3.heap.objs.size H5 s6 m6 hD (by rw [hC3]; exact MM _) I6.free hn6 (fun h' sb=>?_) qn
      have ne:∀ b o,s3.heap.get? b=some o->b≠s3.heap.objs.size:=fun b o e=>Mq (PQ e)
      refine I3.call' (s':={ s6 with heap:=h' }) (H':=H5) (ch:=fp) I6.os ⟨fun b o e n hb' hx=>?_,fun b o e n hb' hx=>?_,fun b o e n hx=>?_,fun b o e hx=>?_,I6.base.tups,I6.base.frzs,I6.base.tbls⟩ ?_ I6.bare fun b hb'=>?_
      · exact(sb.2 b (ne b o e)).trans (I6.base.keep b o e n hb' hx)
      · obtain⟨sl,e1⟩:=I6.base.slot b o e n hb' hx
        exact⟨sl,(sb.2 b (ne b o e)).trans e1⟩
      · exact I6.base.free b o e n hx
      · obtain⟨o',e1⟩:=I6.base.there b o e hx
        exact⟨o',(sb.2 b (ne b o e)).trans e1⟩
      · intro b ob e
        have hfreeC:H5 s3.heap.objs.size=none:=I6.free
        refine(I6.hok b ob e).stay (fun c v hcc q=>(sb.2 c ?_).trans q) (fun _ q=>q) fun _ _ q=>q
        rintro rfl
        rcases hcc with rfl | hcc
        · rw [hfreeC] at e; cases e
        · rw [hfreeC] at hcc; cases hcc
      · obtain⟨_,h2',_,h4',h5',h6'⟩:=f2 b hb'
        exact⟨h4',h2',h5',h6'⟩
    · refine eK (T.item (cE X scope N (dJ X.env.cells scope.names []) s3.heap.objs.size fp s3 H3 E') rfl rfl rfl hc i [] s5 σ5 H5 _ I5 (stat fr5) st5 go) fun r s6 ⟨u,hr,h6⟩=>?_
      subst hr
      refine eK h6 fun _ s7 ⟨x,H7,I7,r7,y7,st7,fr7⟩=>?_
      have I7':=I7.pinned (stat fr7) (T.obj _ _ st7)
      refine eK (hg _ s7 σ5 H7 x u _ I7' r7 (step x H7 y7)) fun _ s8 ⟨σ8,H8,I8,q8⟩=>?_
      refine eK (htc _ s8 σ8 H8 _ I8 q8) fun b s9 ⟨H9,I9,q9⟩=>?_
      have again:∀ {σ':St} {H':Hp} {s':QB} {m':Nat},Inv (cE X scope N (dJ X.env.cells scope.names []) s3.heap.objs.size fp s3 H3 E') ([]++sK fp s7.heap) σ' H' s'->m' < n->W (i+1) m' σ' H' ->
          ∃ m,m < n/\∃ i σ' H',Inv (cE X scope N (dJ X.env.cells scope.names []) s3.heap.objs.size fp s3 H3 E') [] σ' H' s'/\tn i s'.heap/\(∀ b∈fp,H' b=none)/\W i m σ' H':=fun {σ' H' s' m'} I' hm w'=>by
        refine⟨m',hm,i+1,σ',H',I'.unpinned,T.keep _ _ _ st7 fun b hb' o e=>(I'.pin (b,o) (MB _ (MB _ (j4 hb' e)))).1,fun b hb'=>?_,w'⟩
        obtain⟨o,e,d⟩:=T.obj _ _ st7 b hb'
        exact(I'.pin (b,o) (MB _ (MB _ (j4 hb' e)))).2.1
      cases b with
      | false =>
        rw [if_neg MF] at q9 ⊢
        obtain⟨m',hm,w9⟩:=q9
        exact again I9 hm w9
      | true =>
        rw [if_pos rfl] at q9 ⊢
        refine eK (hel _ s9 σ8 H9 _ I9 q9) fun y s10 ⟨v,H10,I10,r10,q10⟩=>?_
        obtain⟨acc,ha,hz,m',hm,w10⟩:=q10
        refine eK (dG _ s10 σ8 H10 (.ref s2.heap.objs.size) [v] (.ref s2.heap.objs.size) [y] (fun _ H'=>H'=upd H10 s2.heap.objs.size (.lst (acc++[v]))) I10 rfl (.cons r10 .nil) ⟨_,acc,v,rfl,rfl,ha,hz,rfl⟩) fun _ s11 ⟨_,H11,I11,_,e11⟩=>?_
        subst e11
        exact again I11 hm w10
  subst hs3
  exact codeAny_compStart_list (loop _) (T.self _ 0 _ _ _ tn1 (loop _))

theorem Fs (hc:X.calm=true) (hcell:∀ y∈scope.names,y.2≠.cell) (hkind:scope.kind=.function) (hnames:∀ y∈scope.names,y.2=.local->scope.names.lookup y.1=some .local)
  (hfr:∀ y∈scope.names,y.2=.free->X.env.scope.names.lookup y.1=some .cell\/X.env.scope.names.lookup y.1=some .free)
  (hix:vi X.N N scope.names ix=true) (hi:PI X tg iter wi)
  (hb:∀ cl C fp s H E,PG (cE X scope N cl C fp s H E) tg g/\FD (cE X scope N cl C fp s H E) ifs tc/\PE (cE X scope N cl C fp s H E) elt te)
  (hs:∀ x,QP iter X.env x=pure x:=by intro _; rfl):PE X (.ListComp elt [⟨tg,iter,ifs,0⟩] scope pos) (JO wi g tc te ix):=by
 intro pins s σ H Q I h
 rw [eval_ListComp]
 refine Rp (use:=none) rfl hs (nX fun p hp hk=>I.ok.has p.1 (hfr p hp hk)) hkind hnames (eK (hi pins s σ H _ I h) fun v s1 h1=>eK h1 fun itv s2 h2=>?_)
 obtain⟨it,fp,tn,J,H2,e,I2,T,st2,f2,q⟩:=h2
 subst e
 refine rh (Q:=Q) (RR:=fun acc C=>compPost (model X.prog X.w) X.A X.xe none (EP X pins σ Q) acc C) hc hcell hkind hfr hix hb I2 T st2 f2 q ?_
 intro D C H' s' m _ _ _ hn hI hq
 exact⟨m,hn,fun h' sb=>⟨.ref D,H',hI h' sb,rfl,hq⟩⟩

theorem Fl {i:Nat} {y:Str} {py spos:Pos} (hN:X.N.Nodup) (hi':X.N[i]?=some y) (hx:Loc X.env.scope y)
  (hc:X.calm=true) (hcell:∀ y∈scope.names,y.2≠.cell) (hkind:scope.kind=.function) (hnames:∀ y∈scope.names,y.2=.local->scope.names.lookup y.1=some .local)
  (hfr:∀ y∈scope.names,y.2=.free->X.env.scope.names.lookup y.1=some .cell\/X.env.scope.names.lookup y.1=some .free)
  (hix:vi X.N N scope.names ix=true) (hi:PI X tg iter wi)
  (hb:∀ cl C fp s H E,PG (cE X scope N cl C fp s H E) tg g/\FD (cE X scope N cl C fp s H E) ifs tc/\PE (cE X scope N cl C fp s H E) elt te)
  (hsw:swapsWith (.ListComp elt [⟨tg,iter,ifs,0⟩] scope pos) (some (.Name y py)) spos.line X.env=pure true:=by rfl)
  (hs:∀ x,QP iter X.env x=pure x:=by intro _; rfl)
  (hf:X.fn y=true\/X.env.scope.names.lookup y=some .local:=by first | exact .inl rfl | exact .inr rfl | assumption) :
  PS X (.Assign [.Name y py] (.ListComp elt [⟨tg,iter,ifs,0⟩] scope pos) spos) (EL (JO wi g tc te ix) (uk i)):=by
 intro pins s σ H D0 I h
 rw [exec_Assign_Name_used _ _ _ _ hsw]
 refine QM (Ro (QM ?_))
 show QD _ X.A (do let _ <- comprehension (.ListComp elt [⟨tg,iter,ifs,0⟩] scope pos) scope X.env _ (newList []) false (eval iter X.env) (some (assign (.Name y py) X.env))) _ _ s
 refine QM (eK (Rp (use:=some (assign (.Name y py) X.env)) (Q:=fun _ s'=>SP X pins D0 .next s') rfl hs (nX fun p hp hk=>I.ok.has p.1 (hfr p hp hk)) hkind hnames
  (eK (hi pins s σ H _ I h) fun v s1 h1=>eK h1 fun itv s2 h2=>?_)) fun _ s' hq=>QL (QL hq))
 obtain⟨it,fp,tn,J,H2,e,I2,T,st2,f2,q⟩:=h2
 subst e
 refine rh (Q:=fun v H'=>uk i v σ H' D0.nx) (RR:=fun acc C=>compPost (model X.prog X.w) X.A X.xe (some (assign (.Name y py) X.env)) (fun _ s'=>SP X pins D0 .next s') acc C) hc hcell hkind hfr hix hb I2 T st2 f2 q ?_
 intro D C H' s' m _ hC hfree hn hI hq
 have I':Inv X pins σ H' s':=hI s'.heap (.refl ..)
 have nL:C≠X.env.locals:=Mz (Mo I2.lt hC)
 have nC:∀ x c,X.env.cells.lookup x=some c->c≠C:=fun x c e z=>by
  obtain⟨v,q⟩:=I2.cell x c e
  exact absurd (Mo q.lt (by rw [z]; exact hC)) (Mp _)
 have nP:∀ p∈X.pn++pins,p.1≠C:=fun p hp z=>absurd (Mo (PQ (I2.pin p hp).1) (by rw [z]; exact hC)) (Mp _)
 show QD _ X.A (assign (.Name y py) X.env (.ref D)) _ _ _
 refine wpAny_assign_Name (uC I' hN hi' hx (v:=.ref D) rfl (fun s'' I'' ch=>?_) hf)
 obtain⟨a,sb,ha⟩:=ch
 have hCa:C≠a:=by
  rcases ha with ha | ha
  ·rw [ha]; exact nL
  ·exact Ne.symm (nC y a ha)
 refine⟨m,hn.sameBut sb hCa,fun h' sb'=>⟨_,H',?_,hq⟩⟩
 exact I''.turned (t':=s''.toks) (fun b o hb' e=>(sb'.2 b hb').trans e) hfree nL (.inr (Mr I2.sz hC)) nC nP
end
end L2
namespace TG
open PySem PySem.Spec L2

inductive D where
 | non | bl (b:Bool) | int (i:Int) | str (x:Str) | tup (xs:List D) | lst (xs:List D)
 | dct (ks vs:List D) | obj (c:Str) (fs:List Str) (vs:List D) | exc (c:Str) (fs:List Str) (vs:List D)

def bu:Key->D
 | .inl i=>.int i
 | .inr x=>.str x
def clsAt (K:Pa) (c:Str) (C:Qs):Prop:=Pz K Qx c=some (some (.ref C))
def KD (C a:Qs) (dx:Option Qs):(Qs->Prop)->Qu->Prop:=fun _ h=>∃ o,h.get? a=some o/\o.cls=.ref C/\o.dict=dx
mutual
def cK (K:Pa) (H:Hp):D->V->Prop
 | .non,v=>v=.non
 | .bl b,v=>v=.bl b
 | .int i,v=>v=.int i
 | .str x,v=>v=.str x
 | .tup xs,v=>∃ a vs,v=.ref a/\H a=some (.tup vs)/\aW K H xs vs
 | .lst xs,v=>∃ a vs,v=.ref a/\nV K H a vs/\aW K H xs vs
 | .dct ks ds,v=>∃ a vs,v=.ref a/\aW K H ds vs/\((∃ kvs:List (Key×V),H a=some (.dK kvs)/\ks=kvs.map (fun p=>bu p.1)/\vs=kvs.map (·.2)) \/
   (∃ kvs:List (List Key×V),H a=some (.dT kvs)/\ks=kvs.map (fun p=>.tup (p.1.map bu))/\vs=kvs.map (·.2)) \/
   ∃ (kvs:List (List Key×V)) (o:Obj),H a=some (.frz o (.dT kvs))/\ks=.non::kvs.map (fun p=>.tup (p.1.map bu))/\vs=kvs.map (·.2))
 | .obj c fs ds,v=>∃ a vs,v=.ref a/\aW K H ds vs/\fs.length=vs.length/\∃ C dx,clsAt K c C/\H a=some (.ins C dx (fs.zip vs))
 | .exc c fs ds,v=>∃ a vs,v=.ref a/\aW K H ds vs/\fs.length=vs.length/\∃ C dx,clsAt K c C/\H a=some (.ext (KD C a dx))/\(fs=[]\/∃ d,dx=some d/\H d=some (.xd (fs.zip vs)))
def aW (K:Pa) (H:Hp):List D->List V->Prop
 | [],vs=>vs=[]
 | x::xs,vs=>∃ v r,vs=v::r/\cK K H x v/\aW K H xs r
end

theorem A4 {K:Pa} {H H':Hp} {a:Qs} {xs:List V} (e:bo H H') (h:oM K H a xs):oM K H' a xs:=by
 rcases h with (h | ⟨o,h⟩) | h
 ·exact .inl (.inl (e _ _ h))
 ·exact .inl (.inr ⟨o,e _ _ h⟩)
 ·exact .inr h
theorem bR {K:Pa} {H H':Hp} {a:Qs} {xs:List V} (e:bo H H') (h:H a=some (.tup xs)):oM K H' a xs:=oM.of (e _ _ h)
mutual
theorem cK.mono {K:Pa} {H H':Hp} (e:bo H H'):∀ {d:D} {v:V},cK K H d v->cK K H' d v
 | .non,_,h=>by unfold cK at h ⊢; exact h
 | .bl _,_,h=>by unfold cK at h ⊢; exact h
 | .int _,_,h=>by unfold cK at h ⊢; exact h
 | .str _,_,h=>by unfold cK at h ⊢; exact h
 | .tup xs,_,h=>by
  unfold cK at h ⊢
  obtain⟨a,vs,e1,h1,h2⟩:=h
  exact⟨a,vs,e1,e _ _ h1,aW.mono e h2⟩
 | .lst xs,_,h=>by
  unfold cK at h ⊢
  obtain⟨a,vs,e1,h1,h2⟩:=h
  exact⟨a,vs,e1,e.seq h1,aW.mono e h2⟩
 | .dct _ ds,_,h=>by
  unfold cK at h ⊢
  obtain⟨a,vs,e1,h1,h2⟩:=h
  refine⟨a,vs,e1,aW.mono e h1,?_⟩
  rcases h2 with ⟨kvs,h2,h3⟩ | ⟨kvs,h2,h3⟩ | ⟨kvs,o,h2,h3⟩
  ·exact .inl ⟨kvs,e _ _ h2,h3⟩
  ·exact .inr (.inl ⟨kvs,e _ _ h2,h3⟩)
  ·exact .inr (.inr ⟨kvs,o,e _ _ h2,h3⟩)
 | .obj _ _ ds,_,h=>by
  unfold cK at h ⊢
  obtain⟨a,vs,e1,h1,h2,C,dx,h3,h4⟩:=h
  exact⟨a,vs,e1,aW.mono e h1,h2,C,dx,h3,e _ _ h4⟩
 | .exc _ _ ds,_,h=>by
  unfold cK at h ⊢
  obtain⟨a,vs,e1,h1,h2,C,dx,h3,h4,h5⟩:=h
  exact⟨a,vs,e1,aW.mono e h1,h2,C,dx,h3,e _ _ h4,h5.imp id fun ⟨d,q1,q2⟩=>⟨d,q1,e _ _ q2⟩⟩
theorem aW.mono {K:Pa} {H H':Hp} (e:bo H H'):∀ {ds:List D} {vs:List V},aW K H ds vs->aW K H' ds vs
 | [],_,h=>by unfold aW at h ⊢; exact h
 | x::xs,_,h=>by
  unfold aW at h ⊢
  obtain⟨v,r,e1,h1,h2⟩:=h
  exact⟨v,r,e1,cK.mono e h1,aW.mono e h2⟩
end
section
variable {K:Pa} {H:Hp}
theorem j0 {v:V}:cK K H .non v↔v=.non:=by unfold cK; rfl
theorem lF {b:Bool} {v:V}:cK K H (.bl b) v↔v=.bl b:=by unfold cK; rfl
theorem fu {i:Int} {v:V}:cK K H (.int i) v↔v=.int i:=by unfold cK; rfl
theorem fj {x:Str} {v:V}:cK K H (.str x) v↔v=.str x:=by unfold cK; rfl
theorem cC {xs:List D} {v:V}:cK K H (.tup xs) v↔∃ a vs,v=.ref a/\H a=some (.tup vs)/\aW K H xs vs:=by unfold cK; rfl
theorem cD {xs:List D} {v:V}:cK K H (.lst xs) v↔∃ a vs,v=.ref a/\nV K H a vs/\aW K H xs vs:=by unfold cK; rfl
theorem JD {ks ds : List D} {v : V} : cK K H (.dct ks ds) v ↔ ∃ a vs, v = .ref a /\ aW K H ds vs /\ ((∃ kvs : List (Key × V), H a = some (.dK kvs) /\ ks = kvs.map (fun p => bu p.1) /\ vs = kvs.map (·.2)) \/
      (∃ kvs:List (List Key×V),H a=some (.dT kvs)/\ks=kvs.map (fun p=>.tup (p.1.map bu))/\vs=kvs.map (·.2)) \/
      ∃ (kvs:List (List Key×V)) (o:Obj),H a=some (.frz o (.dT kvs))/\ks=.non::kvs.map (fun p=>.tup (p.1.map bu))/\vs=kvs.map (·.2)):=by unfold cK; rfl
theorem JN {c:Str} {fs:List Str} {ds:List D} {v:V}:cK K H (.obj c fs ds) v↔∃ a vs,v=.ref a/\aW K H ds vs/\fs.length=vs.length/\∃ C dx,clsAt K c C/\H a=some (.ins C dx (fs.zip vs)):=by unfold cK; rfl
theorem cT {vs:List V}:aW K H [] vs↔vs=[]:=by unfold aW; rfl
theorem bC {x:D} {xs:List D} {vs:List V}:aW K H (x::xs) vs↔∃ v r,vs=v::r/\cK K H x v/\aW K H xs r:=by conv=>lhs; unfold aW
theorem aW.length:∀ {ds:List D} {vs:List V},aW K H ds vs->ds.length=vs.length
 | [],_,h=>by rw [cT] at h; rw [h]; rfl
 | _::xs,_,h=>by
  rw [bC] at h
  obtain⟨v,r,e,_,h⟩:=h
  rw [e,MG,MG,aW.length h]
theorem aW.get:∀ {ds:List D} {vs:List V} {i:Nat} {d:D},aW K H ds vs->ds[i]?=some d->∃ v,vs[i]?=some v/\cK K H d v
 | [],_,_,_,_,e=>by simp at e
 | x::xs,_,0,d,h,e=>by
  rw [bC] at h
  obtain⟨v,r,rfl,h1,_⟩:=h
  simp at e
  subst e
  exact⟨v,rfl,h1⟩
 | x::xs,_,i+1,d,h,e=>by
  rw [bC] at h
  obtain⟨v,r,rfl,_,h2⟩:=h
  obtain⟨w,e1,e2⟩:=aW.get (i:=i) h2 (by simpa using e)
  exact⟨w,by simpa using e1,e2⟩
theorem aW.append:∀ {ds es:List D} {vs ws:List V},aW K H ds vs->aW K H es ws->aW K H (ds++es) (vs++ws)
 | [],_,_,_,h,h'=>by rw [cT] at h; subst h; exact h'
 | x::xs,_,_,_,h,h'=>by
  rw [bC] at h
  obtain⟨v,r,rfl,h1,h2⟩:=h
  rw [Nh,bC]
  exact⟨v,_,rfl,h1,aW.append h2 h'⟩
theorem aW.take:∀ {ds:List D} {vs:List V} (n:Nat),aW K H ds vs->aW K H (ds.take n) (vs.take n)
 | _,_,0,_=>by rw [Ni,Ni,cT]
 | [],_,_+1,h=>by rw [cT] at h; subst h; rw [Nj,Nj,cT]
 | x::xs,_,n+1,h=>by
  rw [bC] at h
  obtain⟨v,r,rfl,h1,h2⟩:=h
  rw [Nk,Nk,bC]
  exact⟨v,_,rfl,h1,aW.take n h2⟩
theorem aW.drop:∀ {ds:List D} {vs:List V} (n:Nat),aW K H ds vs->aW K H (ds.drop n) (vs.drop n)
 | _,_,0,h=>by rw [Nm,Nm]; exact h
 | [],_,_+1,h=>by rw [cT] at h; subst h; rw [List.drop_nil,List.drop_nil,cT]
 | x::xs,_,n+1,h=>by
  rw [bC] at h
  obtain⟨v,r,rfl,h1,h2⟩:=h
  rw [Np,Np]
  exact aW.drop n h2
theorem aW.snoc {ds:List D} {vs:List V} {d:D} {v:V} (h:aW K H ds vs) (h':cK K H d v):aW K H (ds++[d]) (vs++[v]) :=
 h.append (bC.mpr ⟨v,[],rfl,h',cT.mpr rfl⟩)
theorem aW.one {d:D} {vs:List V} (h:aW K H [d] vs):∃ v,vs=[v]/\cK K H d v:=by
 rw [bC] at h
 obtain⟨v,r,rfl,h1,h2⟩:=h
 rw [cT] at h2
 subst h2
 exact⟨v,rfl,h1⟩
theorem aW.two {d e:D} {vs:List V} (h:aW K H [d,e] vs):∃ v w,vs=[v,w]/\cK K H d v/\cK K H e w:=by
 rw [bC] at h
 obtain⟨v,r,rfl,h1,h2⟩:=h
 obtain⟨w,rfl,h3⟩:=h2.one
 exact⟨v,w,rfl,h1,h3⟩
theorem tL:∀ ns:List Int,aW K H (ns.map D.int) (ns.map V.int)
 | []=>cT.mpr rfl
 | n::ns=>bC.mpr ⟨_,_,rfl,fu.mpr rfl,tL ns⟩
end

def hid (H:Hp) (O:List Qs):Hp:=fun b=>if b∈O then none else H b
theorem aC (H:Hp) (O:List Qs):bo (hid H O) H:=fun b o h=>by
 unfold hid at h
 split at h
 ·cases h
 ·exact h
theorem bT {H H':Hp} {O:List Qs} (e:bo H H'):bo (hid H O) (hid H' O):=fun b o h=>by
 unfold hid at h ⊢
 by_cases hb:b∈O
 ·rw [if_pos hb] at h; cases h
 ·rw [if_neg hb] at h ⊢; exact e b o h
theorem gL {H:Hp} {O O':List Qs} (s:∀ a∈O,a∈O'):bo (hid H O') (hid H O):=fun b o h=>by
 unfold hid at h ⊢
 by_cases hb:b∈O'
 ·rw [if_pos hb] at h; cases h
 ·rw [if_neg hb] at h
  rw [if_neg fun z=>hb (s b z)]; exact h
theorem D8 (H:Hp):hid H []=H:=by funext b; unfold hid; simp
theorem qI {H:Hp} {O:List Qs} {p:Qs} {o:HO} (h:H p=none):bo (hid H O) (hid (upd H p o) O):=fun b u q=>by
 unfold hid at q ⊢
 by_cases hb:b∈O
 ·rw [if_pos hb] at q; cases q
 ·rw [if_neg hb] at q ⊢
  rw [aD (aU q h)]; exact q
theorem bD {H:Hp} {p:Qs} (h:H p=none) (o:HO):bo H (upd H p o):=fun b u q=>by rw [aD (aU q h)]; exact q
theorem jj {H:Hp} {O:List Qs} {p:Qs} (h:p∉O):hid H O p=H p:=by unfold hid; rw [if_neg h]
theorem gJ {H:Hp} {O:List Qs} {p:Qs} {o:HO} (h:p∈O):bo (hid H O) (hid (upd H p o) O):=fun b u q=>by
 unfold hid at q ⊢
 by_cases hb:b∈O
 ·rw [if_pos hb] at q; cases q
 ·rw [if_neg hb] at q ⊢
  rw [aD (fun z=>hb (by rw [z]; exact h))]; exact q

inductive S where
 | val (d:D) | own (d:D) | nest (d:D)
abbrev aq:=List (Option S)
def qZ:HO->Prop
 | .lst _=>True
 | .dK _=>True
 | .dT _=>True
 | _=>False
class aR where
 tab:Hp->Prop
 same:∀ {H H':Hp},tab H->bo H H'->tab H'
 own:∀ {H:Hp} {p:Qs} {o o':HO},tab H->H p=some o->qZ o->tab (upd H p o')
variable [aR]
def d9 (H:Hp) (O:List Qs):Prop:=aR.tab H/\∀ a∈O,∃ o,H a=some o/\qZ o
theorem d9.not {H:Hp} {O:List Qs} (h:d9 H O) {p:Qs} (n:H p=none):p∉O:=fun z=>by
 obtain⟨vs,e,_⟩:=h.2 p z
 rw [n] at e; cases e
theorem d9.same {H H':Hp} {O:List Qs} (h:d9 H O) (e:bo H H'):d9 H' O:=⟨aR.same h.1 e,fun a ha=>let ⟨vs,q,m⟩:=h.2 a ha; ⟨vs,e _ _ q,m⟩⟩
theorem d9.upd {H:Hp} {O:List Qs} {p:Qs} {o:HO} (h:d9 H O) (hp:p∈O) (m:qZ o):d9 (L2.upd H p o) O:=⟨let ⟨_,q,r⟩:=h.2 p hp; aR.own h.1 q r,fun a ha=>by
 by_cases z:a=p
 ·rw [z]; exact⟨o,aM,m⟩
 ·obtain⟨u,q,r⟩:=h.2 a ha
  exact⟨u,by rw [aD z]; exact q,r⟩⟩
theorem d9.cons {H:Hp} {O:List Qs} {p:Qs} {o:HO} (h:d9 H O) (hp:H p=some o) (m:qZ o):d9 H (p::O):=⟨h.1,fun a ha=>by
 rcases List.mem_cons.mp ha with z | z
 ·rw [z]; exact⟨o,hp,m⟩
 ·exact h.2 a z⟩
def dq (K:Pa) (H:Hp) (O:List Qs) (a:Qs) (d:D):Prop:=∃ o vs,H a=some o/\match d with
 | .lst xs=>o=.lst vs/\aW K (hid H O) xs vs
 | .dct ks ds=>aW K (hid H O) ds vs/\((∃ kvs:List (Key×V),o=.dK kvs/\ks=kvs.map (fun p=>bu p.1)/\vs=kvs.map (·.2)) \/
   ∃ kvs:List (List Key×V),o=.dT kvs/\ks=kvs.map (fun p=>.tup (p.1.map bu))/\vs=kvs.map (·.2))
 | _=>False
theorem dq.mono {K:Pa} {H H':Hp} {O O':List Qs} {a:Qs} {d:D} (h:dq K H O a d) (e:H a=H' a) (s:bo (hid H O) (hid H' O')):dq K H' O' a d:=by
 obtain⟨o,vs,h1,h2⟩:=h
 refine⟨o,vs,by rw [<- e]; exact h1,?_⟩
 cases d with
 | lst xs=>exact⟨h2.1,h2.2.mono s⟩
 | dct ks ds=>exact⟨h2.1.mono s,h2.2⟩
 | _=>exact h2
theorem dq.some {K:Pa} {H:Hp} {O:List Qs} {a:Qs} {d:D} (h:dq K H O a d):∃ o,H a=some o:=let ⟨o,_,e,_⟩:=h; ⟨o,e⟩
theorem dq.den {K:Pa} {H:Hp} {O O':List Qs} {a:Qs} {d:D} (h:dq K H O a d) (s:bo (hid H O) (hid H O')) (ha:a∉O'):cK K (hid H O') d (.ref a):=by
 obtain⟨o,vs,h1,h2⟩:=h
 have h1':hid H O' a=Option.some o:=by rw [jj ha]; exact h1
 cases d with
 | lst xs =>
  obtain⟨e,g⟩:=h2
  subst e
  exact cD.mpr ⟨a,vs,rfl,nV.of h1',g.mono s⟩
 | dct ks ds =>
  obtain⟨g,q⟩:=h2
  refine JD.mpr ⟨a,vs,rfl,g.mono s,?_⟩
  rcases q with ⟨kvs,e,q⟩ | ⟨kvs,e,q⟩
  ·subst e; exact .inl ⟨kvs,h1',q⟩
  ·subst e; exact .inr (.inl ⟨kvs,h1',q⟩)
 | _=>exact h2.elim
structure dZ (K:Pa) (O:List Qs) (H:Hp) (ρ:aq) (σ:St):Prop where
 val:∀ (i:Nat) d,ρ[i]?=some (some (.val d))->∃ v,σ[i]?=some (some v)/\cK K (hid H O) d v
 own:∀ (i:Nat) d,ρ[i]?=some (some (.own d))->∃ a,σ[i]?=some (some (.ref a))/\a∈O/\dq K H O a d
 one:∀ (i j:Nat) xs ys a,ρ[i]?=some (some (.own xs))->ρ[j]?=some (some (.own ys))->σ[i]?=some (some (.ref a))->σ[j]?=some (some (.ref a))->i=j
 all:d9 H O
theorem qG {H H':Hp} (e:bo H H') {a:Qs} {o:HO} (h:H a=some o):H a=H' a:=by rw [h,e _ _ h]
theorem dZ.same {K:Pa} {O:List Qs} {H H':Hp} {ρ:aq} {σ:St} (h:dZ K O H ρ σ) (e:bo H H'):dZ K O H' ρ σ :=
  ⟨fun i d q=>let ⟨v,a,b⟩:=h.val i d q; ⟨v,a,b.mono (bT e)⟩,
   fun i xs q=>let ⟨a,q1,q2,q3⟩:=h.own i xs q; ⟨a,q1,q2,q3.mono (let ⟨_,z⟩:=q3.some; qG e z) (bT e)⟩,h.one,h.all.same e⟩

structure Ex where
 c:Str
 fs:List Str
 vs:List D
abbrev R (α:Type):=Except (Option Ex) α
abbrev un {α:Type}:R α:=.error none
def rO {α:Type}:Option α->R α
 | some a=>.ok a
 | none=>.error none
def Ii (K:Pa) (Hd:Hp) (x:Ex) (C:Qs) (dx:Option Qs):Prop:=clsAt K x.c C/\∃ ws,aW K Hd x.vs ws/\x.fs.length=ws.length/\(x.fs=[]\/∃ d,dx=some d/\Hd d=some (.xd (x.fs.zip ws)))
theorem Ii.mono {K:Pa} {H H':Hp} {x:Ex} {C:Qs} {dx:Option Qs} (h:Ii K H x C dx) (e:bo H H'):Ii K H' x C dx:=by
 obtain⟨h1,ws,h2,h3,h4⟩:=h
 exact⟨h1,ws,h2.mono e,h3,h4.imp id fun ⟨d,q1,q2⟩=>⟨d,q1,e _ _ q2⟩⟩
end TG
namespace TG
open PySem PySem.Spec L2
variable [aR]
open PyProof.Rows (AllBare)
theorem FL {P:Qr} {w:Qq} {H:Hp} {h:Qu} {a:Qs} {o:HO} (x:cx P w H h a o):∃ u,h.get? a=some u:=by
 cases o with
 | lst xs=>obtain⟨_,_,_,_,e⟩:=x; exact⟨_,e⟩
 | tup xs=>obtain⟨_,_,_,o,e,_⟩:=x; exact⟨_,e⟩
 | dK kvs=>obtain⟨_,_,_,_,o,_,_,e,_⟩:=x; exact⟨_,e⟩
 | dT kvs=>obtain⟨_,_,_,_,o,_,_,e,_⟩:=x; exact⟨_,e⟩
 | set S n=>obtain⟨o,_,_,_,e,_⟩:=x; exact⟨_,e⟩
 | ins C dx fs=>obtain⟨_,_,_,e,_⟩:=x; exact⟨_,e⟩
 | own y=>exact x
 | xd fs=>obtain⟨_,⟨_,_,_,e,_⟩,_⟩:=x; exact⟨_,e⟩
 | rng lo hi=>obtain⟨_,_,_,e⟩:=x; exact⟨_,e⟩
 | frz ob u=>obtain⟨e,_⟩:=x; exact⟨_,e⟩
 | tbl ps=>exact⟨_,(show h.get? a=some _ from x)⟩
 | met f y=>exact⟨_,(show h.get? a=some _ from x)⟩
 | ext φ=>obtain⟨_,e,_⟩:=x; exact e
def rC (X:Cx) (H:Hp) (b:Qs):Prop:=((∃ o,X.s₀.heap.get? b=some o)/\b∉X.ex)\/H b≠none\/(∃ o,(b,o)∈X.pn)\/∃ x,X.env.cells.lookup x=some b
def Md (B:Qu) (e:Qs) (cls a0:Qp) (h:Qu):Prop:=h.TracedW B e cls a0\/∃ oe vs,h.get? e=some oe/\oe.cls=cls/\oe.data=.fields vs/\vs[1]?=some .none/\vs[0]?=some a0
def HJ (X:Cx) (H:Hp) (s:QB) (e C:Qs):Prop:=∃ B a0,B.StaysIn s.heap/\B.get? e=none/\s.heap.FunFrames B X.stack/\Md B e (.ref C) a0 s.heap/\∀ b o,s.heap.get? b=some o->rC X H b->b∉frs X.stack->B.get? b=some o
def L5 (X:Cx) (H:Hp) (O:List Qs) (s:QB) (u:Qp) (x:Ex):Prop:=∃ e C dx,u=.ref e/\Ii X.K (hid H O) x C dx/\HJ X H s e C
def nA (P:Qr) (w:Qq):yh:=fun outer H s E u s'=>∃ e C dx H' B a0,u=.ref e/\s'.os=s.os/\AllBare s'.gens/\Un (frs outer) [] H H' s.heap s'.heap/\ox P w H' s'.heap/\Heap.FlyingW B outer e (.ref C) a0 s'.heap /\
 (∀ b o,s'.heap.get? b=some o->((∃ o',s.heap.get? b=some o')\/H' b≠none)->b∉frs outer->B.get? b=some o)/\E (.ref C) dx H'
def J7 (K:Pa) (H:Hp) (O:List Qs) (x:Ex) (E:XK):Prop:=∀ C dx H',bo H H'->Ii K (hid H' O) x C dx->E (.ref C) dx H'
def Hw (X:Cx) (σ:St) (O:List Qs) (H:Hp) (x:Ex):Prop:=∀ pins s u H',Inv X pins σ H' s->bo H H'->L5 X H' O s u x->X.xe u s
theorem Hw.mono {X:Cx} {σ:St} {O:List Qs} {H H':Hp} {x:Ex} (h:Hw X σ O H x) (s:bo H H'):Hw X σ O H' x:=fun pins st u H2 I s2 f=>h pins st u H2 I (s.trans s2) f
def zB (X:Cx) (O:List Qs) (H:Hp) (x:Ex):XK:=fun u dx H'=>∃ C,u=.ref C/\bo H H'/\Ii X.K (hid H' O) x C dx
def kX (CX:yh) (X:Cx) (σ:St) (E:XK):Prop:=∀ (pins:List (Qs×Obj)) (H:Hp) (s:QB) (e:Qp) (s':QB),Inv X pins σ H s->CX X.stack H s E e s'->X.xe e s'
theorem zg {X:Cx} {σ:St} {O:List Qs} {H:Hp} {x:Ex} (h:Hw X σ O H x):kX (nA X.prog X.w) X σ (zB X O H x):=by
 rintro pins H1 s u s' I ⟨e,C,dx,H',B,a0,rfl,os,bare,un,hok,⟨f1,f2,f3,f4⟩,kp,C',eC,sm,hd⟩
 cases eC
 have I':Inv X pins σ H' s':=I.call' os un hok bare (ch:=[]) fun b z=>absurd z (by simp)
 refine h pins s' _ H' I' sm ⟨e,C,dx,rfl,hd,B,a0,f1,f2,f3,.inl f4,fun b o eb hb nf=>kp b o eb ?_ nf⟩
 rcases hb with ⟨⟨o',hb⟩,nx⟩ | hb | ⟨o',hb⟩ | ⟨y,hb⟩
 ·exact .inl (I.base.there b o' hb nx)
 ·exact .inr hb
 ·exact .inl ⟨_,(I.pin _ (Mw _ hb)).1⟩
 ·obtain⟨v,o,q,_⟩:=I.cell y b hb
  exact .inl ⟨o,q⟩
theorem za {X:Cx} {σ:St}:kX (nA X.prog X.w) X σ E0:=fun _ _ _ _ _ _ ⟨_,_,_,_,_,_,_,_,_,_,_,_,_,z⟩=>z.elim
theorem wq {X:Cx} {O:List Qs} {H:Hp} {x:Ex}:J7 X.K H O x (zB X O H x):=fun C dx H' s e=>⟨C,rfl,s,e⟩
section
variable {X:Cx} {pins:List (Qs×Obj)} {σ:St} {H:Hp} {s:QB} {h':Qu}
theorem D7 (I:Inv X pins σ H s) (k:∀ b o,s.heap.get? b=some o->rC X H b->b∉frs X.stack->h'.get? b=some o):ox X.prog X.w H h':=fun a ob ea =>
 (I.hok a ob ea).stay (fun b u hb q=>by
  have hn:H b≠none:=by
   rcases hb with e | e
   ·rw [e,ea]; intro z; cases z
   ·rw [e]; intro z; cases z
  exact k b u q (.inr (.inl hn)) fun hf=>hn (I.stkFree b hf)) (fun _ q=>q) fun _ _ q=>q
theorem uE (I:Inv X pins σ H s) (us:s.heap.UpToSlots h') {b:Qs} {o:Obj} (hb:b∈frs X.stack) (e:s.heap.get? b=some o):∃ sl,h'.get? b=some { o with slots:=sl }:=by
 obtain⟨_,o',e',nf⟩:=I.stack.mem hb
 rw [e] at e'; cases e'
 exact us b o e nf
theorem GW (I:Inv X pins σ H s) (hx:X.ex=[]) (hst:X.stack=X.env::X.outer) (hf:X.env.frame=some X.env.locals) (us:s.heap.UpToSlots h') (k:∀ b o,s.heap.get? b=some o->rC X H b->b∉frs X.stack->h'.get? b=some o) :
  Un (frs X.outer) [] X.H₀ H X.s₀.heap h':=by
 have U:=I.base
 rw [hx] at U
 have fr:frs X.stack=X.env.locals::frs X.outer:=by rw [hst]; show List.filterMap _ (_::_)=_; rw [Mt,hf]; rfl
 have nl:∀ b o,X.s₀.heap.get? b=some o->b≠X.env.locals:=fun b o q z=>by
  have h1:=PQ q
  have h2:=I.ok.above
  rw [z] at h1; exact Mp _ (Mo h1 h2)
 have nfr:∀ b o,X.s₀.heap.get? b=some o->b∉frs X.outer->b∉frs X.stack:=fun b o q nb z=>by
  rw [fr] at z
  rcases List.mem_cons.mp z with z | z
  ·exact nl b o q z
  ·exact nb z
 refine⟨fun b o q n nb _=>k b o (U.keep b o q n nb (by simp)) (.inl ⟨⟨o,q⟩,by rw [hx]; simp⟩) (nfr b o q nb),fun b o q n hb _=>?_,fun b o q n _=>U.free b o q n (by simp),fun b o q _=>?_,U.tups,U.frzs,U.tbls⟩
 ·obtain⟨sl,e⟩:=U.slot b o q n hb (by simp)
  obtain⟨sl',e'⟩:=uE I us (by rw [fr]; exact Mv _ hb) e
  exact⟨sl',e'⟩
 ·obtain⟨o1,e1⟩:=U.there b o q (by simp)
  by_cases hb:b∈frs X.stack
  ·obtain⟨sl,e⟩:=uE I us hb e1
   exact⟨_,e⟩
  ·exact⟨o1,k b o1 e1 (.inl ⟨⟨o,q⟩,by rw [hx]; simp⟩) hb⟩
end
theorem B8 {P:Qr} {w:Qq} {K:Pa} {mg:Str->Option Qp} {base:Qu} {N:List Str} {qual:Str} {scope:QC} {f:Qs} {cd:Qp} {A:QA} {outer:List Env} {s:QB} {H:Hp} {E:XK} {σ:St} {O O':List Qs} {H':Hp} {x:Ex}
  (hx:J7 K H O x E) (sm:bo H H') (hs:∀ a∈O,a∈O'):Hw (ji (nA P w) P w K mg base N qual scope f cd A outer s H E) σ O' H' x:=by
 rintro pins s1 u H1 I s2 ⟨e,C,dx,rfl,hd,B,a0,b1,b2,b3,b4,b5⟩
 have fin:∀ h',Heap.FlyingW B outer e (.ref C) a0 h'->s1.heap.UpToSlots h'->nA P w outer H s E (.ref e) { s1 with heap:=h' }:=fun h' fl us=>by
  have k:∀ b o,s1.heap.get? b=some o->rC (ji (nA P w) P w K mg base N qual scope f cd A outer s H E) H1 b->b∉frs (ji (nA P w) P w K mg base N qual scope f cd A outer s H E).stack->h'.get? b=some o:=fun b o q kb nf=>fl.1 b o (b5 b o q kb nf)
  have un:=GW I rfl rfl rfl us k
  have hok:=D7 I k
  refine⟨e,C,dx,H1,B,a0,rfl,I.os,I.bare,un,hok,fl,fun b o q hb nf=>?_,hx C dx H1 (sm.trans s2) (hd.mono (gL hs))⟩
  have nf2:b∉frs (ji (nA P w) P w K mg base N qual scope f cd A outer s H E).stack:=fun z=>by
   rcases List.mem_cons.mp (show b∈s.heap.objs.size::frs outer from z) with z | z
   ·rcases hb with hb | hb
    ·obtain⟨o',hb⟩:=hb
     have:=PQ hb
     rw [z] at this; exact Mp _ this
    ·rw [z] at hb; exact hb I.free
   ·exact nf z
  have kb:rC (ji (nA P w) P w K mg base N qual scope f cd A outer s H E) H1 b:=hb.elim (fun z=>.inl ⟨z,fun y=>nomatch y⟩) fun z=>.inr (.inl z)
  obtain⟨o1,e1⟩:∃ o1,s1.heap.get? b=some o1:=by
   rcases hb with ⟨o',hb⟩ | hb
   ·exact I.base.there b o' hb (fun z=>nomatch z)
   ·cases q0:H1 b with
    | none=>exact absurd q0 hb
    | some ob=>exact FL (I.hok b ob q0)
  have:=k b o1 e1 kb nf2
  rw [q] at this; cases this
  exact b5 b _ e1 kb nf2
 show QD _ _ (leaving (Qa qual scope s.heap.objs.size f cd) (.ref e)) _ _ s1
 rcases b4 with b4 | ⟨oe,vs,c1,c2,c3,c4,c5⟩
 ·exact wpAny_leaves_onW I.ok.frames rfl ⟨b1,b2,b3,b4⟩ fin
 ·refine wpAny_leaving_firstW I.ok.frames b3 rfl c1 b1 b2 c3 c4 c5 fun h' hL=>?_
  obtain⟨k1,⟨_,_,k2⟩,k3,k4⟩:=hL
  exact fin h' ⟨k1,b2,k2,c2 ▸ k3⟩ k4
end TG
namespace TG
open PySem PySem.Spec L2
variable [aR]

def iU (X:Cx) (σ:St) (O:List Qs) (H:Hp) {α:Type} (r:R α) (Q:α->Prop):Prop:=match r with
 | .ok a=>Q a
 | .error (some x)=>Hw X σ O H x
 | .error none=>False
section
variable {X:Cx} {σ:St} {O:List Qs} {H H':Hp} {α β:Type}
theorem iU.bind {r:R α} {G:α->R β} {Q:β->Prop} (h:iU X σ O H (r.bind G) Q):iU X σ O H r fun a=>iU X σ O H (G a) Q:=by
 match r,h with
 | .ok a,h=>exact h
 | .error (some x),h=>exact h
 | .error none,h=>exact h
theorem iU.imp {r:R α} {Q Q':α->Prop} (h:iU X σ O H r Q) (f:∀ a,Q a->Q' a):iU X σ O H r Q':=by
 match r,h with
 | .ok a,h=>exact f a h
 | .error (some x),h=>exact h
 | .error none,h=>exact h
theorem iU.mono {r:R α} {Q:α->Prop} (h:iU X σ O H r Q) (s:bo H H'):iU X σ O H' r Q:=by
 match r,h with
 | .ok a,h=>exact h
 | .error (some x),h=>exact Hw.mono h s
 | .error none,h=>exact h
theorem iU.rO {o:Option α} {Q:α->Prop} (h:iU X σ O H (rO o) Q):∃ a,o=some a/\Q a:=by
 match o,h with
 | some a,h=>exact⟨a,rfl,h⟩
 | none,h=>exact h.elim
end
abbrev FX:=aq->R D
def tF (X:Cx) (F:FX):TE:=fun σ H Q=>∃ O ρ,dZ X.K O H ρ σ/\iU X σ O H (F ρ) fun d=>∀ v H',bo H H'->cK X.K (hid H' O) d v->Q v H'
def Jh (X:Cx) (F:aq->R Bool):TT:=fun σ H Q=>∃ O ρ,dZ X.K O H ρ σ/\iU X σ O H (F ρ) fun b=>∀ H',bo H H'->Q b H'
def JC (X:Cx) (F:aq->R (List D)):TA:=fun σ H Q=>∃ O ρ,dZ X.K O H ρ σ/\iU X σ O H (F ρ) fun ds=>∀ vs H',bo H H'->aW X.K (hid H' O) ds vs->Q vs H'
def FE (X:Cx) (e:QE) (F:FX):Prop:=PE X e (tF X F)
def FT (X:Cx) (e:QE) (F:aq->R Bool):Prop:=PT X e (Jh X F)
def FW (X:Cx) (e:QE) (F:aq->R Bool):Prop:=PW X e (Jh X F)
def FA (X:Cx) (es:List QE) (F:aq->R (List D)):Prop:=PA X es (JC X F)

theorem PE.weak {X:Cx} {e:QE} {t t':TE} (h:PE X e t) (w:∀ σ H Q,t' σ H Q->t σ H Q):PE X e t':=fun pins s σ H Q I q=>h pins s σ H Q I (w σ H Q q)
theorem PT.weak {X:Cx} {e:QE} {t t':TT} (h:PT X e t) (w:∀ σ H Q,t' σ H Q->t σ H Q):PT X e t':=fun pins s σ H Q I q=>h pins s σ H Q I (w σ H Q q)
theorem PW.weak {X:Cx} {e:QE} {t t':TT} (h:PW X e t) (w:∀ σ H Q,t' σ H Q->t σ H Q):PW X e t':=fun whole pins s σ H Q I q=>h whole pins s σ H Q I (w σ H Q q)
theorem PA.weak {X:Cx} {es:List QE} {t t':TA} (h:PA X es t) (w:∀ σ H Q,t' σ H Q->t σ H Q):PA X es t':=fun pos pins s σ H Q I q=>h pos pins s σ H Q I (w σ H Q q)
theorem PS.weak {X:Cx} {st:QG} {t t':TS} (h:PS X st t) (w:∀ D σ H,t' D σ H->t D σ H):PS X st t':=fun pins s σ H Q I q=>h pins s σ H Q I (w Q σ H q)
theorem xx.weak {X:Cx} {st:List QG} {t t':TS} (h:xx X st t) (w:∀ D σ H,t' D σ H->t D σ H):xx X st t':=fun pins s σ H Q I q=>h pins s σ H Q I (w Q σ H q)

def qW (ρ:aq) (i:Nat):R D:=match ρ[i]? with
 | some (some (.val d))=>.ok d
 | _=>un
theorem EJ {ρ:aq} {i:Nat} {d:D} (h:qW ρ i=.ok d):ρ[i]?=some (some (.val d)):=by
 unfold qW at h
 split at h
 ·rename_i e; cases h; exact e
 ·cases h
def ah (i:Nat):FX:=fun ρ=>qW ρ i
def fC (d:D):FX:=fun _=>.ok d
section
variable {X:Cx}
theorem tS {σ:St} {O:List Qs} {H:Hp} {ρ:aq} {i:Nat} {Q:D->Prop} (h:iU X σ O H (qW ρ i) Q):∃ d,ρ[i]?=some (some (.val d))/\Q d:=by
 cases e:qW ρ i with
 | ok d=>rw [e] at h; exact⟨d,EJ e,h⟩
 | error z =>
  rw [e] at h
  cases z with
  | none=>exact h.elim
  | some x =>
   exfalso
   unfold qW at e
   split at e
   ·cases e
   ·have:=Except.error.inj e; cases this
theorem JW {i:Nat} {x:Str} {pos:Pos} (h:PE X (.Name x pos) (rL i)):FE X (.Name x pos) (ah i) :=
 PE.weak h fun σ H Q ⟨O,ρ,E,hF⟩=>by
  obtain⟨d,e,q⟩:=tS hF
  obtain⟨v,e,dv⟩:=E.val i d e
  exact⟨v,e,q v H (bo.refl H) dv⟩
theorem rG {e:QE} {d:D} {v:V} (h:PE X e (tC v)) (hd:∀ K H,cK K H d v):FE X e (fC d) :=
 PE.weak h fun σ H Q ⟨O,ρ,E,q⟩=>q v H (bo.refl H) (hd _ _)
theorem JR {i j pos}:FE X (.Constant (.int i) j pos) (fC (.int i)):=rG Gp fun _ _=>fu.mpr rfl
theorem LV {b j pos}:FE X (.Constant (.bool b) j pos) (fC (.bl b)):=rG HQ fun _ _=>lF.mpr rfl
theorem JU {x j pos}:FE X (.Constant (.str x) j pos) (fC (.str x)):=rG Gr fun _ _=>fj.mpr rfl

def noStar:QE->Bool
 | .Starred _ _=>false
 | _=>true
theorem cW {e:QE} {es:List QE} {env:Env} (h:noStar e=true):QF (e::es) env=(false,eval e env)::QF es env:=by
 cases e <;> first | rfl | cases h
theorem fV {pos:Pos} {env:Env}:∀ {es:List QE},es.all noStar=true->(backTo pos (QF es env)).any (·.1)=false
 | [],_=>rfl
 | e::es,h=>by
  rw [Nq,MZ] at h
  rw [cW h.1]
  exact fV h.2
def au:aq->R (List D):=fun _=>.ok []
def af (f:FX) (g:aq->R (List D)):aq->R (List D):=fun ρ=>(f ρ).bind fun x=>(g ρ).bind fun xs=>.ok (x::xs)
theorem FK:FA X [] au:=PA.weak o5 fun σ H Q ⟨O,ρ,E,q⟩=>q [] H (bo.refl H) (cT.mpr rfl)
theorem bind_some {α β:Type} {o:Option α} {f:α->Option β} {b:β} (h:o.bind f=some b):∃ a,o=some a/\f a=some b:=by
 cases o with
 | none=>cases h
 | some a=>exact⟨a,rfl,h⟩
theorem qH {ε α β:Type} {o:Except ε α} {f:α->Except ε β} {b:β} (h:o.bind f=.ok b):∃ a,o=.ok a/\f a=.ok b:=by
 cases o with
 | error _=>cases h
 | ok a=>exact⟨a,rfl,h⟩
theorem DP {e:QE} {es:List QE} {f:FX} {g:aq->R (List D)} (he:FE X e f) (hs:FA X es g) (hns:noStar e=true:=by rfl):FA X (e::es) (af f g) :=
 PA.weak (kJ he hs (cW hns)) fun σ H Q ⟨O,ρ,E,h⟩ =>
  ⟨O,ρ,E,(iU.bind h).imp fun x h v H1 s1 d1=>⟨O,ρ,E.same s1,((iU.bind h).mono s1).imp fun xs q vs H2 s2 d2=>q (v::vs) H2 (s1.trans s2) (bC.mpr ⟨v,vs,rfl,d1.mono (bT s2),d2⟩)⟩⟩
def small (n:Nat):Bool:=decide (n<=100000)
theorem eA {n:Nat} (h:small n=true):n<=Qv:=Mr (of_decide_eq_true h) (by decide)
theorem dH {n:Nat} (h:n<=100000):small n=true:=decide_eq_true h
def t6 (xs:List D):Option D:=if small xs.length then some (.tup xs) else none
def oG (xs:List D):Option D:=if small xs.length then some (.lst xs) else none
def cA (g:aq->R (List D)):FX:=fun ρ=>(g ρ).bind fun xs=>rO (t6 xs)
def jG (g:aq->R (List D)):FX:=fun ρ=>(g ρ).bind fun xs=>rO (oG xs)
theorem bK {α:Type} {c:Bool} {a b:α} (h:(if c then some a else none)=some b):c=true/\a=b:=by
 cases c with
 | true=>exact⟨rfl,Option.some.inj h⟩
 | false=>cases h
theorem eN {K:Pa} {H:Hp} {O:List Qs} {p:Qs} {ds:List D} {vs:List V} (hO:d9 H O) (hp:H p=none) (d:aW K (hid H O) ds vs):cK K (hid (upd H p (.tup vs)) O) (.tup ds) (.ref p) :=
 cC.mpr ⟨p,vs,rfl,by rw [jj (hO.not hp),aM],d.mono (qI hp)⟩
theorem dg {K:Pa} {H:Hp} {O:List Qs} {p:Qs} {ds:List D} {vs:List V} (hO:d9 H O) (hp:H p=none) (d:aW K (hid H O) ds vs):cK K (hid (upd H p (.lst vs)) O) (.lst ds) (.ref p) :=
 cD.mpr ⟨p,vs,rfl,nV.of (by rw [jj (hO.not hp),aM]),d.mono (qI hp)⟩
theorem J6 {es:List QE} {g:aq->R (List D)} {k pos} (h:FA X es g):FE X (.Tuple es k pos) (cA g) :=
 PE.weak (Fw h) fun σ H Q ⟨O,ρ,E,hF⟩=>⟨O,ρ,E,(iU.bind hF).imp fun xs hF vs H1 s1 d1=>by
  obtain⟨d,e,q⟩:=iU.rO hF
  obtain⟨hz,e⟩:=bK e
  subst e
  refine⟨by rw [<- d1.length]; exact eA hz,fun p hp=>?_⟩
  exact q _ _ (s1.trans (bD hp _)) (eN (E.all.same s1) hp d1)⟩
theorem Kr {es:List QE} {g:aq->R (List D)} {pos} (h:FA X es g):FE X (.List es pos) (jG g) :=
 PE.weak (yj h) fun σ H Q ⟨O,ρ,E,hF⟩=>⟨O,ρ,E,(iU.bind hF).imp fun xs hF vs H1 s1 d1=>by
  obtain⟨d,e,q⟩:=iU.rO hF
  obtain⟨hz,e⟩:=bK e
  subst e
  refine⟨by rw [<- d1.length]; exact eA hz,fun p hp=>?_⟩
  exact q _ _ (s1.trans (bD hp _)) (dg (E.all.same s1) hp d1)⟩

def DU (K:Pa) (r:V->Hp->VK->Prop) (g:D->Option D):Prop :=
 ∀ (a d:D) (x:V) (O:List Qs) (H:Hp) (Q:VK),d9 H O->g a=some d->cK K (hid H O) a x->(∀ v H',bo H H'->cK K (hid H' O) d v->Q v H')->r x H Q
def f1 (g:D->Option D) (f:FX):FX:=fun ρ=>(f ρ).bind fun a=>rO (g a)
def eO (K:Pa) (r:R2) (g:D->D->Option D):Prop :=
 ∀ (a b d:D) (x y:V) (O:List Qs) (H:Hp) (Q:VK),d9 H O->g a b=some d->cK K (hid H O) a x->cK K (hid H O) b y->(∀ v H',bo H H'->cK K (hid H' O) d v->Q v H')->r x y H Q
def f2 (g:D->D->Option D) (f1 f2:FX):FX:=fun ρ=>(f1 ρ).bind fun a=>(f2 ρ).bind fun b=>rO (g a b)
theorem vR {r:R2} {g:D->D->Option D} {fa fb:FX} (s:eO X.K r g):∀ σ H Q,tF X (f2 g fa fb) σ H Q->Ij r (tF X fa) (tF X fb) σ H Q:=fun σ H Q ⟨O,ρ,E,hF⟩ =>
 ⟨O,ρ,E,(iU.bind hF).imp fun a hF x H1 s1 d1=>⟨O,ρ,E.same s1,((iU.bind hF).mono s1).imp fun b hF y H2 s2 d2=>by
  obtain⟨d,e,q⟩:=iU.rO hF
  exact s a b d x y O H2 Q (E.all.same (s1.trans s2)) e (d1.mono (bT s2)) d2 fun v H3 s3 d3=>q v H3 ((s1.trans s2).trans s3) d3⟩⟩
theorem LI {a b:QE} {op:Operator} {r:R2} {g:D->D->Option D} {fa fb:FX} {pos:Pos} (ho:lX X (QR op) r) (s:eO X.K r g) (ha:FE X a fa) (hb:FE X b fb):FE X (.BinOp a op b pos) (f2 g fa fb) :=
 PE.weak (Im ho ha hb) (vR s)
theorem Lg {a b:QE} {op:CmpOp} {r:R2} {g:D->D->Option D} {fa fb:FX} {pos:Pos} (ho:lX X (QS op) r) (s:eO X.K r g) (ha:FE X a fa) (hb:FE X b fb) (hm:QT op b=false):FE X (.Compare a [op] [b] pos) (f2 g fa fb) :=
 PE.weak (EE ho ha hb hm) (vR s)
def Kz:D->Option Bool
 | .bl b=>some b
 | _=>none
def fB (f:FX):aq->R Bool:=fun ρ=>(f ρ).bind fun d=>rO (Kz d)
theorem CT {t:TE} {f:FX} (h:∀ σ H Q,tF X f σ H Q->t σ H Q):∀ σ H Q,Jh X (fB f) σ H Q->E7 t σ H Q:=fun σ H Q ⟨O,ρ,E,hF⟩ =>
 h σ H _ ⟨O,ρ,E,(iU.bind hF).imp fun d hF v H1 s1 d1=>by
  obtain⟨b,e,q⟩:=iU.rO hF
  cases d with
  | bl b' =>
   cases e
   exact⟨b,lF.mp d1,q H1 s1⟩
  | _=>cases e⟩
theorem Kg {a b:QE} {op:CmpOp} {r:R2} {g:D->D->Option D} {fa fb:FX} {pos:Pos} (ho:lX X (QS op) r) (s:eO X.K r g) (ha:FE X a fa) (hb:FE X b fb) (hm:QT op b=false):FT X (.Compare a [op] [b] pos) (fB (f2 g fa fb)) :=
 PT.weak (DY ho ha hb hm) (CT (vR s))

def y8 (K:Pa) (r:List V->Hp->VK->Prop) (g:List D->Option D):Prop :=
 ∀ (ds:List D) (d:D) (xs:List V) (O:List Qs) (H:Hp) (Q:VK),d9 H O->g ds=some d->aW K (hid H O) ds xs->(∀ v H',bo H H'->cK K (hid H' O) d v->Q v H')->r xs H Q
def fL (g:List D->Option D) (f:aq->R (List D)):FX:=fun ρ=>(f ρ).bind fun ds=>rO (g ds)
def fR (g:List D->R D) (f:aq->R (List D)):FX:=fun ρ=>(f ρ).bind g
theorem Ce {r:List V->Hp->VK->Prop} {g:List D->Option D} {f:aq->R (List D)} (s:y8 X.K r g):∀ σ H Q,tF X (fL g f) σ H Q->Lc r (JC X f) σ H Q:=fun σ H Q ⟨O,ρ,E,hF⟩ =>
 ⟨O,ρ,E,(iU.bind hF).imp fun ds hF vs H1 s1 d1=>by
  obtain⟨d,e,q⟩:=iU.rO hF
  exact s ds d vs O H1 Q (E.all.same s1) e d1 fun v H2 s2 d2=>q v H2 (s1.trans s2) d2⟩

def nK (f:aq->R Bool):aq->R Bool:=fun ρ=>(f ρ).bind fun b=>.ok (!b)
def xJ (f g:aq->R Bool):aq->R Bool:=fun ρ=>(f ρ).bind fun b=>if b then g ρ else .ok false
def DM (f g:aq->R Bool):aq->R Bool:=fun ρ=>(f ρ).bind fun b=>if b then .ok true else g ρ
variable {a b c:QE} {rest:List QE} {pos:Pos} {f g:aq->R Bool}
theorem Ky (h:FT X a f):FT X (.UnaryOp .Not a pos) (nK f):=PT.weak (Gm h) fun σ H Q ⟨O,ρ,E,hF⟩=>⟨O,ρ,E,(iU.bind hF).imp fun b q H1 s1=>q H1 s1⟩
theorem JG (h:FT X a f):FW X (.BoolOp .And [a] pos) f:=Dq h
theorem Kp (h:FT X a f):FW X (.BoolOp .Or [a] pos) f:=G7 h
theorem Kj (ha:FT X a f) (hb:FW X (.BoolOp .And (b::rest) pos) g):FW X (.BoolOp .And (a::b::rest) pos) (xJ f g):=PW.weak (Fx ha hb) fun σ H Q ⟨O,ρ,E,hF⟩=>⟨O,ρ,E,(iU.bind hF).imp fun c hF H1 s1=>by
 cases c with
 | true=>exact Cq ⟨O,ρ,E.same s1,(hF.mono s1).imp fun b q H2 s2=>q H2 (s1.trans s2)⟩
 | false=>exact Dh (hF H1 s1)⟩
theorem LW (ha:FT X a f) (hb:FW X (.BoolOp .Or (b::rest) pos) g):FW X (.BoolOp .Or (a::b::rest) pos) (DM f g):=PW.weak (Iu ha hb) fun σ H Q ⟨O,ρ,E,hF⟩=>⟨O,ρ,E,(iU.bind hF).imp fun c hF H1 s1=>by
 cases c with
 | false=>exact Dh ⟨O,ρ,E.same s1,(hF.mono s1).imp fun b q H2 s2=>q H2 (s1.trans s2)⟩
 | true=>exact Cq (hF H1 s1)⟩
theorem FW.ft {e:QE} (h:FW X e f):FT X e f:=PW.pt h
def truth:D->Option Bool
 | .non=>some false
 | .bl b=>some b
 | .int i=>some (i != 0)
 | .str x=>if small x.length then some (x.length != 0) else none
 | .tup xs=>some (!xs.isEmpty)
 | .lst xs=>some (!xs.isEmpty)
 | _=>none
def dW (f:FX):aq->R Bool:=fun ρ=>(f ρ).bind fun d=>rO (truth d)

def yA (d:D) (k:R D):R D:=match d with
 | .bl true=>k
 | .bl false=>.ok (.bl false)
 | _=>un
def HL (d:D) (k:R D):R D:=match d with
 | .bl false=>k
 | .bl true=>.ok (.bl true)
 | _=>un
def yn:D->Option D
 | .bl b=>some (.bl (!b))
 | _=>none
def nu (f g:FX):FX:=fun ρ=>(f ρ).bind fun d=>yA d (g ρ)
def K5 (f g:FX):FX:=fun ρ=>(f ρ).bind fun d=>HL d (g ρ)
def Jg (f:FX):FX:=f1 yn f
variable {fa fb:FX}
theorem Li {op} (h:FE X a fa):FE X (.BoolOp op [a] pos) fa:=Hl h
theorem Lz (ha:FE X a fa) (hb:FE X (.BoolOp .And (b::rest) pos) fb):FE X (.BoolOp .And (a::b::rest) pos) (nu fa fb):=PE.weak (Gk ha hb) fun σ H Q ⟨O,ρ,E,hF⟩=>⟨O,ρ,E,(iU.bind hF).imp fun d hF x H1 s1 d1=>by
 cases d with
 | bl c =>
  refine⟨c,lF.mp d1,?_⟩
  cases c with
  | true=>exact Cq ⟨O,ρ,E.same s1,(hF.mono s1).imp fun d q v H2 s2 d2=>q v H2 (s1.trans s2) d2⟩
  | false=>exact Dh (hF _ H1 s1 (lF.mpr rfl))
 | _=>exact hF.elim⟩
def L7 (t:aq->R Bool) (f g:FX):FX:=fun ρ=>(t ρ).bind fun c=>if c then f ρ else g ρ
end
end TG
namespace TG
open PySem PySem.Spec L2
variable [aR]
open PySem.SeqAt (EqAt RcAt RcNeAt)

mutual
def pyEq:D->D->Bool
 | .non,.non=>true
 | .bl a,.bl b=>a==b
 | .bl a,.int b=>(if a then 1 else 0)==b
 | .int a,.bl b=>a==(if b then 1 else 0)
 | .int a,.int b=>a==b
 | .str a,.str b=>a==b
 | .tup xs,.tup ys=>gS xs ys
 | .lst xs,.lst ys=>gS xs ys
 | .dct _ _,.dct _ _=>true
 | .obj _ _ _,.obj _ _ _=>true
 | .exc _ _ _,.exc _ _ _=>true
 | _,_=>false
def gS:List D->List D->Bool
 | [],[]=>true
 | x::xs,y::ys=>pyEq x y && gS xs ys
 | _,_=>false
end
mutual
theorem lY:∀ d:D,pyEq d d=true
 | .non=>by unfold pyEq; rfl
 | .bl b=>by unfold pyEq; simp
 | .int i=>by unfold pyEq; simp
 | .str x=>by unfold pyEq; simp
 | .tup xs=>by unfold pyEq; exact nE xs
 | .lst xs=>by unfold pyEq; exact nE xs
 | .dct _ _=>by unfold pyEq; rfl
 | .obj _ _ _=>by unfold pyEq; rfl
 | .exc _ _ _=>by unfold pyEq; rfl
theorem nE:∀ ds:List D,gS ds ds=true
 | []=>by unfold gS; rfl
 | d::ds=>by unfold gS; rw [lY d,nE ds]; rfl
end
def yy (xs ys:List D) (j:Nat):Bool:=match xs[j]?,ys[j]? with
 | some a,some b=>pyEq a b
 | _,_=>false
theorem ga:∀ xs ys:List D,((List.range (min xs.length ys.length)).all (yy xs ys) && xs.length==ys.length)=gS xs ys
 | [],[]=>by unfold gS; rfl
 | [],_::_=>by unfold gS; simp
 | _::_,[]=>by unfold gS; simp
 | x::xs,y::ys=>by
  have ih:=ga xs ys
  conv=>rhs; unfold gS
  rw [<- ih]
  have e:min (x::xs).length (y::ys).length=min xs.length ys.length+1:=by simp only [MG]; omega
  rw [e,List.range_succ_eq_map,Nq,List.all_map]
  have e2:((x::xs).length==(y::ys).length)=(xs.length==ys.length):=by simp
  rw [e2,Bool.and_assoc]
  have e3:(List.range (min xs.length ys.length)).all (yy (x::xs) (y::ys) ∘ Nat.succ)=(List.range (min xs.length ys.length)).all (yy xs ys):=by
   congr 1
  rw [e3]
  rfl
mutual
def pl:D->Bool
 | .tup xs=>nU xs
 | .lst xs=>nU xs
 | .dct _ _=>false
 | .obj _ _ _=>false
 | .exc _ _ _=>false
 | _=>true
def nU:List D->Bool
 | []=>true
 | x::xs=>pl x && nU xs
end
theorem gl {ks vs:List D} (h:pl (.dct ks vs)=true):False:=by unfold pl at h; cases h
theorem gE {c:Str} {fs:List Str} {vs:List D} (h:pl (.obj c fs vs)=true):False:=by unfold pl at h; cases h
theorem gz {c:Str} {fs:List Str} {vs:List D} (h:pl (.exc c fs vs)=true):False:=by unfold pl at h; cases h
theorem mG:∀ {xs:List D},nU xs=true->∀ x∈xs,pl x=true
 | [],_,_,h=>nomatch h
 | x::xs,h,y,hy=>by
  unfold nU at h
  rw [MZ] at h
  rcases List.mem_cons.mp hy with z | z
  ·rw [z]; exact h.1
  ·exact mG h.2 y z
theorem nT:∀ {xs:List D},(∀ x∈xs,pl x=true)->nU xs=true
 | [],_=>by unfold nU; rfl
 | x::xs,h=>by
  unfold nU
  rw [MZ]
  exact⟨h x Mu,nT fun y hy=>h y (Mv _ hy)⟩
theorem cM {xs:List D}:pl (.tup xs)=nU xs:=by rw [pl]
theorem e8 {xs:List D}:pl (.lst xs)=nU xs:=by rw [pl]
def eL:Nat->D->Bool
 | n+1,.tup xs=>xs.all (eL n)
 | n+1,.lst xs=>xs.all (eL n)
 | 0,.tup _=>false
 | 0,.lst _=>false
 | _,.dct _ _=>false
 | _,.obj _ _ _=>false
 | _,.exc _ _ _=>false
 | _,_=>true

section
variable {X:Cx} {pins:List (Qs×Obj)} {σ:St} {H:Hp} {s:QB}
theorem Inv.not_both (I:Inv X pins σ H s) {a:Qs} {xs ys:List V} (h:oM X.K H a xs) (h':nV X.K H a ys):False:=by
 obtain⟨its,_,ht,_⟩:=I.tuple h
 obtain⟨its2,_,hl,_⟩:=I.list h'
 exact absurd rfl (SeqAt.ne_of_list_tuple hl.isList (show s.heap.IsTuple a its.toArray from ht))
mutual
theorem Inv.den_inj (I:Inv X pins σ H s):∀ {a b:D} {v:V},pl a=true->pl b=true->cK X.K H a v->cK X.K H b v->a=b
 | .non,b,v,pa,pb,h,h'=>by
  rw [j0] at h; subst h
  cases b with
  | non=>rfl
  | bl _=>rw [lF] at h'; cases h'
  | int _=>rw [fu] at h'; cases h'
  | str _=>rw [fj] at h'; cases h'
  | tup _=>rw [cC] at h'; obtain⟨_,_,e,_⟩:=h'; cases e
  | lst _=>rw [cD] at h'; obtain⟨_,_,e,_⟩:=h'; cases e
  | dct _ _=>exact(gl pb).elim
  | obj _ _ _=>exact(gE pb).elim
  | exc _ _ _=>exact(gz pb).elim
 | .bl x,b,v,pa,pb,h,h'=>by
  rw [lF] at h; subst h
  cases b with
  | non=>rw [j0] at h'; cases h'
  | bl _=>rw [lF] at h'; cases h'; rfl
  | int _=>rw [fu] at h'; cases h'
  | str _=>rw [fj] at h'; cases h'
  | tup _=>rw [cC] at h'; obtain⟨_,_,e,_⟩:=h'; cases e
  | lst _=>rw [cD] at h'; obtain⟨_,_,e,_⟩:=h'; cases e
  | dct _ _=>exact(gl pb).elim
  | obj _ _ _=>exact(gE pb).elim
  | exc _ _ _=>exact(gz pb).elim
 | .int x,b,v,pa,pb,h,h'=>by
  rw [fu] at h; subst h
  cases b with
  | non=>rw [j0] at h'; cases h'
  | bl _=>rw [lF] at h'; cases h'
  | int _=>rw [fu] at h'; cases h'; rfl
  | str _=>rw [fj] at h'; cases h'
  | tup _=>rw [cC] at h'; obtain⟨_,_,e,_⟩:=h'; cases e
  | lst _=>rw [cD] at h'; obtain⟨_,_,e,_⟩:=h'; cases e
  | dct _ _=>exact(gl pb).elim
  | obj _ _ _=>exact(gE pb).elim
  | exc _ _ _=>exact(gz pb).elim
 | .str x,b,v,pa,pb,h,h'=>by
  rw [fj] at h; subst h
  cases b with
  | non=>rw [j0] at h'; cases h'
  | bl _=>rw [lF] at h'; cases h'
  | int _=>rw [fu] at h'; cases h'
  | str _=>rw [fj] at h'; cases h'; rfl
  | tup _=>rw [cC] at h'; obtain⟨_,_,e,_⟩:=h'; cases e
  | lst _=>rw [cD] at h'; obtain⟨_,_,e,_⟩:=h'; cases e
  | dct _ _=>exact(gl pb).elim
  | obj _ _ _=>exact(gE pb).elim
  | exc _ _ _=>exact(gz pb).elim
 | .tup xs,b,v,pa,pb,h,h'=>by
  rw [cC] at h
  obtain⟨a,vs,e,h1,h2⟩:=h
  subst e
  cases b with
  | non=>rw [j0] at h'; cases h'
  | bl _=>rw [lF] at h'; cases h'
  | int _=>rw [fu] at h'; cases h'
  | str _=>rw [fj] at h'; cases h'
  | tup ys =>
   rw [cC] at h'
   obtain⟨a',vs',e,h1',h2'⟩:=h'
   cases e
   have ev:=I.tuple_inj (oM.of h1) (oM.of h1')
   subst ev
   rw [Inv.denL_inj I (by first | rw [<- cM]; exact pa | rw [<- e8]; exact pa) (by first | rw [<- cM]; exact pb | rw [<- e8]; exact pb) h2 h2']
  | lst _=>rw [cD] at h'; obtain⟨_,_,e,h1',_⟩:=h'; cases e; exact(Inv.not_both I (oM.of h1) h1').elim
  | dct _ _=>exact(gl pb).elim
  | obj _ _ _=>exact(gE pb).elim
  | exc _ _ _=>exact(gz pb).elim
 | .lst xs,b,v,pa,pb,h,h'=>by
  rw [cD] at h
  obtain⟨a,vs,e,h1,h2⟩:=h
  subst e
  cases b with
  | non=>rw [j0] at h'; cases h'
  | bl _=>rw [lF] at h'; cases h'
  | int _=>rw [fu] at h'; cases h'
  | str _=>rw [fj] at h'; cases h'
  | lst ys =>
   rw [cD] at h'
   obtain⟨a',vs',e,h1',h2'⟩:=h'
   cases e
   have ev:=I.list_inj h1 h1'
   subst ev
   rw [Inv.denL_inj I (by first | rw [<- cM]; exact pa | rw [<- e8]; exact pa) (by first | rw [<- cM]; exact pb | rw [<- e8]; exact pb) h2 h2']
  | tup _=>rw [cC] at h'; obtain⟨_,_,e,h1',_⟩:=h'; cases e; exact(Inv.not_both I (oM.of h1') h1).elim
  | dct _ _=>exact(gl pb).elim
  | obj _ _ _=>exact(gE pb).elim
  | exc _ _ _=>exact(gz pb).elim
 | .dct _ _,_,_,pa,_,_,_=>(gl pa).elim
 | .obj _ _ _,_,_,pa,_,_,_=>(gE pa).elim
 | .exc _ _ _,_,_,pa,_,_,_=>(gz pa).elim
theorem Inv.denL_inj (I:Inv X pins σ H s):∀ {as bs:List D} {vs:List V},nU as=true->nU bs=true->aW X.K H as vs->aW X.K H bs vs->as=bs
 | [],bs,vs,pa,pb,h,h'=>by
  rw [cT] at h; subst h
  cases bs with
  | nil=>rfl
  | cons b bs=>rw [bC] at h'; obtain⟨_,_,e,_⟩:=h'; cases e
 | a::as,bs,vs,pa,pb,h,h'=>by
  rw [bC] at h
  obtain⟨v,r,e,h1,h2⟩:=h
  subst e
  cases bs with
  | nil=>rw [cT] at h'; cases h'
  | cons b bs =>
   rw [bC] at h'
   obtain⟨v',r',e,h1',h2'⟩:=h'
   cases e
   unfold nU at pa pb
   rw [MZ] at pa pb
   rw [Inv.den_inj I pa.1 pb.1 h1 h1',Inv.denL_inj I pa.2 pb.2 h2 h2']
end

def ny:D->Option V
 | .non=>some .non
 | .bl b=>some (.bl b)
 | .int i=>some (.int i)
 | .str x=>some (.str x)
 | _=>none
theorem oS {K:Pa} {d:D} {v x:V} (h:ny d=some x) (hd:cK K H d v):v=x/\CB x=true:=by
 cases d with
 | non=>cases h; exact⟨j0.mp hd,rfl⟩
 | bl b=>cases h; exact⟨lF.mp hd,rfl⟩
 | int i=>cases h; exact⟨fu.mp hd,rfl⟩
 | str y=>cases h; exact⟨fj.mp hd,rfl⟩
 | _=>cases h
theorem En {a b:D} {x y:V} (ha:ny a=some x) (hb:ny b=some y):Lq x y=pyEq a b:=by
 cases a <;> cases ha <;> cases b <;> cases hb <;> (unfold pyEq Lq; rfl)
theorem wW {a:D} {x:V} (n:Nat) (h:ny a=some x):eL n a=true:=by
 cases a with
 | tup _=>cases h
 | lst _=>cases h
 | dct _ _=>cases h
 | obj _ _ _=>cases h
 | exc _ _ _=>cases h
 | _=>cases n <;> rfl
theorem xh {a:D} (h:ny a=none):eL 0 a=false:=by
 cases a with
 | tup _=>rfl
 | lst _=>rfl
 | dct _ _=>rfl
 | obj _ _ _=>rfl
 | exc _ _ _=>rfl
 | _=>cases h
theorem in1_units (A:QA):A.in1.units=A.units+1:=rfl
theorem n5 {vs:List V} {us:List Qp} (r:Vals vs us) {j:Nat} (h:j < us.toArray.size):∃ x,vs[j]?=some x/\RelV x us.toArray[j]:=by
 have hj:j < us.length:=by simpa using h
 have hl:=r.length
 have hv:j < vs.length:=by omega
 obtain⟨u,e,ru⟩:=r.get (i:=j) (x:=vs[j]) (by simp [hv])
 refine⟨vs[j],by simp [hv],?_⟩
 have e2:us.toArray[j]=u:=by
  rw [Nr hj] at e
  simpa using Option.some.inj e
 rw [e2]; exact ru
theorem nZ {K:Pa} {ds:List D} {vs:List V} (h:aW K H ds vs) {j:Nat} {x:V} (e:vs[j]?=some x):∃ d,ds[j]?=some d/\cK K H d x:=by
 have hj:j < vs.length:=(List.getElem?_eq_some_iff.mp e).1
 have hl:=h.length
 have hd:j < ds.length:=by omega
 obtain⟨v,e1,e2⟩:=h.get (i:=j) (d:=ds[j]) (by simp [hd])
 rw [e] at e1; cases e1
 exact⟨ds[j],by simp [hd],e2⟩

theorem BP (I:Inv X pins σ H s):∀ (n:Nat) (a b:D) (x y:V) (u v:Qp) (A:QA),pl a=true->pl b=true->(eL n a=true\/eL n b=true)->cK X.K H a x->cK X.K H b y->RelV x u->RelV y v->A.units+n < QZ->EqAt A s u v (pyEq a b):=by
 intro n
 induction n with
 | zero =>
  intro a b x y u v A pa pb hd ha hb ru rv hA
  have hu:A.units < QZ:=hA
  cases ha':ny a with
  | some x' =>
   obtain⟨e,f⟩:=oS ha' ha
   subst e
   cases hb':ny b with
   | some y' =>
    obtain⟨e,f'⟩:=oS hb' hb
    subst e
    rw [<- En ha' hb']
    exact Gv ru rv f f'
   | none =>
    cases b with
    | tup ys =>
     rw [cC] at hb
     obtain⟨p,vs,e,h1,h2⟩:=hb
     subst e
     cases rv
     obtain⟨its,_,ht,_⟩:=I.tuple (oM.of h1)
     have ht':s.heap.IsTuple p its.toArray:=ht
     cases a with
     | non=>cases ha'; cases ru; unfold pyEq; exact .none_tuple ht' hu
     | bl z=>cases ha'; cases ru; unfold pyEq; exact .bool_tuple z ht' hu
     | int z=>cases ha'; obtain⟨t,rfl⟩:=ru; unfold pyEq; exact .int_tuple z t ht' hu
     | str z=>cases ha'; obtain⟨t,rfl⟩:=ru; unfold pyEq; exact .str_tuple z t ht' hu
     | _=>cases ha'
    | lst ys =>
     rw [cD] at hb
     obtain⟨p,vs,e,h1,h2⟩:=hb
     subst e
     cases rv
     obtain⟨its,_,ht,_⟩:=I.list h1
     have ht':s.heap.IsList p its.toArray:=ht.isList
     cases a with
     | non=>cases ha'; cases ru; unfold pyEq; exact .none_list ht' hu
     | bl z=>cases ha'; cases ru; unfold pyEq; exact .bool_list z ht' hu
     | int z=>cases ha'; obtain⟨t,rfl⟩:=ru; unfold pyEq; exact .int_list z t ht' hu
     | str z=>cases ha'; obtain⟨t,rfl⟩:=ru; unfold pyEq; exact .str_list z t ht' hu
     | _=>cases ha'
    | dct _ _=>exact(gl pb).elim
    | obj _ _ _=>exact(gE pb).elim
    | exc _ _ _=>exact(gz pb).elim
    | _=>cases hb'
  | none =>
   have hdb:eL 0 b=true:=by
    rcases hd with hd | hd
    ·rw [xh ha'] at hd; cases hd
    ·exact hd
   cases hb':ny b with
   | none=>rw [xh hb'] at hdb; cases hdb
   | some y' =>
    obtain⟨e,f'⟩:=oS hb' hb
    subst e
    cases a with
    | tup xs =>
     rw [cC] at ha
     obtain⟨p,vs,e,h1,h2⟩:=ha
     subst e
     cases ru
     obtain⟨its,_,ht,_⟩:=I.tuple (oM.of h1)
     have ht':s.heap.IsTuple p its.toArray:=ht
     cases b with
     | non=>cases hb'; cases rv; unfold pyEq; exact .tuple_none ht' hu
     | bl z=>cases hb'; cases rv; unfold pyEq; exact .tuple_bool z ht' hu
     | int z=>cases hb'; obtain⟨t,rfl⟩:=rv; unfold pyEq; exact .tuple_int z t ht' hu
     | str z=>cases hb'; obtain⟨t,rfl⟩:=rv; unfold pyEq; exact .tuple_str z t ht' hu
     | _=>cases hb'
    | lst xs =>
     rw [cD] at ha
     obtain⟨p,vs,e,h1,h2⟩:=ha
     subst e
     cases ru
     obtain⟨its,_,ht,_⟩:=I.list h1
     have ht':s.heap.IsList p its.toArray:=ht.isList
     cases b with
     | non=>cases hb'; cases rv; unfold pyEq; exact .list_none ht' hu
     | bl z=>cases hb'; cases rv; unfold pyEq; exact .list_bool z ht' hu
     | int z=>cases hb'; obtain⟨t,rfl⟩:=rv; unfold pyEq; exact .list_int z t ht' hu
     | str z=>cases hb'; obtain⟨t,rfl⟩:=rv; unfold pyEq; exact .list_str z t ht' hu
     | _=>cases hb'
    | dct _ _=>exact(gl pa).elim
    | obj _ _ _=>exact(gE pa).elim
    | exc _ _ _=>exact(gz pa).elim
    | _=>cases ha'
 | succ n ih =>
  intro a b x y u v A pa pb hd ha hb ru rv hA
  have hu:A.units < QZ:=by omega
  have flatWay:(∀ xs ys,¬ (a=.tup xs/\b=.tup ys))->(∀ xs ys,¬ (a=.lst xs/\b=.lst ys))->EqAt A s u v (pyEq a b):=by
   intro n1 n2
   cases ha':ny a with
   | some x'=>exact ih a b x y u v A pa pb (.inl (wW n ha')) ha hb ru rv ‹0›
   | none =>
    cases hb':ny b with
    | some y'=>exact ih a b x y u v A pa pb (.inr (wW n hb')) ha hb ru rv ‹0›
    | none =>
     cases a with
     | tup xs =>
      cases b with
      | tup ys=>exact absurd ⟨rfl,rfl⟩ (n1 xs ys)
      | lst ys =>
       rw [cC] at ha
       obtain⟨p,vs,e,h1,h2⟩:=ha
       subst e
       rw [cD] at hb
       obtain⟨p',vs',e,h1',h2'⟩:=hb
       subst e
       cases ru
       cases rv
       obtain⟨its,_,ht,_⟩:=I.tuple (oM.of h1)
       obtain⟨its2,_,ht2,_⟩:=I.list h1'
       unfold pyEq
       exact .tuple_list (show s.heap.IsTuple p its.toArray from ht) ht2.isList hu
      | dct _ _=>exact(gl pb).elim
      | obj _ _ _=>exact(gE pb).elim
      | exc _ _ _=>exact(gz pb).elim
      | _=>cases hb'
     | lst xs =>
      cases b with
      | lst ys=>exact absurd ⟨rfl,rfl⟩ (n2 xs ys)
      | tup ys =>
       rw [cD] at ha
       obtain⟨p,vs,e,h1,h2⟩:=ha
       subst e
       rw [cC] at hb
       obtain⟨p',vs',e,h1',h2'⟩:=hb
       subst e
       cases ru
       cases rv
       obtain⟨its,_,ht,_⟩:=I.list h1
       obtain⟨its2,_,ht2,_⟩:=I.tuple (oM.of h1')
       unfold pyEq
       exact .list_tuple ht.isList (show s.heap.IsTuple p' its2.toArray from ht2) hu
      | dct _ _=>exact(gl pb).elim
      | obj _ _ _=>exact(gE pb).elim
      | exc _ _ _=>exact(gz pb).elim
      | _=>cases hb'
     | dct _ _=>exact(gl pa).elim
     | obj _ _ _=>exact(gE pa).elim
     | exc _ _ _=>exact(gz pa).elim
     | _=>cases ha'
  have items:∀ (xs ys:List D) (vs vs':List V) (its its':List Qp),nU xs=true->nU ys=true->(eL (n+1) (.tup xs)=true\/eL (n+1) (.tup ys)=true)->aW X.K H xs vs->aW X.K H ys vs'->Vals vs its->Vals vs' its' ->
    ∀ j (h1:j < its.toArray.size) (h2:j < its'.toArray.size),EqAt A.in1 s its.toArray[j] its'.toArray[j] (yy xs ys j):=by
   intro xs ys vs vs' its its' px py hdd hx hy rx ry j h1 h2
   obtain⟨w1,e1,r1⟩:=n5 rx h1
   obtain⟨w2,e2,r2⟩:=n5 ry h2
   obtain⟨d1,f1,g1⟩:=nZ hx e1
   obtain⟨d2,f2,g2⟩:=nZ hy e2
   have e3:yy xs ys j=pyEq d1 d2:=by unfold yy; rw [f1,f2]
   rw [e3]
   refine ih d1 d2 w1 w2 _ _ A.in1 (mG px _ (MU f1)) (mG py _ (MU f2)) ?_ g1 g2 r1 r2 (by rw [in1_units]; omega)
   rcases hdd with hdd | hdd
   ·exact .inl (List.all_eq_true.mp hdd d1 (MU f1))
   ·exact .inr (List.all_eq_true.mp hdd d2 (MU f2))
  by_cases hT:∃ xs ys,a=.tup xs/\b=.tup ys
  ·obtain⟨xs,ys,rfl,rfl⟩:=hT
   have da:=ha
   have db:=hb
   rw [cC] at ha hb
   obtain⟨p,vs,e,h1,h2⟩:=ha
   subst e
   obtain⟨p',vs',e,h1',h2'⟩:=hb
   subst e
   cases ru
   cases rv
   by_cases hp:p=p'
   ·subst hp
    have e:=Inv.den_inj I pa pb da db
    rw [e,lY]
    exact EqAt.same _
   ·obtain⟨its,rv1,ht,_⟩:=I.tuple (oM.of h1)
    obtain⟨its2,rv2,ht2,_⟩:=I.tuple (oM.of h1')
    refine EqAt.of_refs hp ?_
    have q:=RcAt.tuples (e:=yy xs ys) (show s.heap.IsTuple p its.toArray from ht) (show s.heap.IsTuple p' its2.toArray from ht2) hu (items xs ys vs vs' its its2 (by first | rw [<- cM]; exact pa | rw [<- e8]; exact pa) (by first | rw [<- cM]; exact pb | rw [<- e8]; exact pb) hd h2 h2' rv1 rv2)
    have z1:its.toArray.size=xs.length:=by rw [ME,<- rv1.length,<- h2.length]
    have z2:its2.toArray.size=ys.length:=by rw [ME,<- rv2.length,<- h2'.length]
    rw [z1,z2,ga] at q
    unfold pyEq
    exact q
  ·by_cases hL:∃ xs ys,a=.lst xs/\b=.lst ys
   ·obtain⟨xs,ys,rfl,rfl⟩:=hL
    have da:=ha
    have db:=hb
    rw [cD] at ha hb
    obtain⟨p,vs,e,h1,h2⟩:=ha
    subst e
    obtain⟨p',vs',e,h1',h2'⟩:=hb
    subst e
    cases ru
    cases rv
    by_cases hp:p=p'
    ·subst hp
     have e:=Inv.den_inj I pa pb da db
     rw [e,lY]
     exact EqAt.same _
    ·obtain⟨its,rv1,ht,_⟩:=I.list h1
     obtain⟨its2,rv2,ht2,_⟩:=I.list h1'
     refine EqAt.of_refs hp ?_
     have z1:its.toArray.size=xs.length:=by rw [ME,<- rv1.length,<- h2.length]
     have z2:its2.toArray.size=ys.length:=by rw [ME,<- rv2.length,<- h2'.length]
     have er:=ga xs ys
     by_cases hz:its.toArray.size=its2.toArray.size
     ·have q:=RcAt.lists (e:=yy xs ys) ht.isList ht2.isList hz hu (items xs ys vs vs' its its2 (by first | rw [<- cM]; exact pa | rw [<- e8]; exact pa) (by first | rw [<- cM]; exact pb | rw [<- e8]; exact pb) hd h2 h2' rv1 rv2)
      rw [z1] at q
      have hz':xs.length=ys.length:=by omega
      rw [<- hz',Nt] at er
      simp only [beq_self_eq_true,Nu] at er
      rw [er] at q
      unfold pyEq
      exact q
     ·have hne:(its.toArray.size != its2.toArray.size)=true:=by simpa using hz
      have q:=RcAt.lists_lengths (A:=A) ht.isList ht2.isList hne hu
      have hz':(xs.length==ys.length)=false:=by
       rw [z1,z2] at hz
       simpa using hz
      rw [hz',M2] at er
      unfold pyEq
      rw [<- er]
      exact q
   ·exact flatWay (fun xs ys z=>hT ⟨xs,ys,z⟩) fun xs ys z=>hL ⟨xs,ys,z⟩
end
end TG
namespace TG
open PySem PySem.Spec L2
variable [aR]
open PySem.SeqAt (EqAt RcAt RcNeAt)

section
variable {X:Cx} {pins:List (Qs×Obj)} {σ:St} {H:Hp} {s:QB}
theorem qy (I:Inv X pins σ H s) {n:Nat} {xs ys:List D} {vs vs':List V} {its its':List Qp} {A:QA} (px:nU xs=true) (py:nU ys=true) (hdd:eL (n+1) (.tup xs)=true\/eL (n+1) (.tup ys)=true) (hx:aW X.K H xs vs) (hy:aW X.K H ys vs') (rx:Vals vs its) (ry:Vals vs' its') (hA:A.units+n < QZ) :
  ∀ j (h1:j < its.toArray.size) (h2:j < its'.toArray.size),EqAt A s its.toArray[j] its'.toArray[j] (yy xs ys j):=by
 intro j h1 h2
 obtain⟨w1,e1,r1⟩:=n5 rx h1
 obtain⟨w2,e2,r2⟩:=n5 ry h2
 obtain⟨d1,f1,g1⟩:=nZ hx e1
 obtain⟨d2,f2,g2⟩:=nZ hy e2
 have e3:yy xs ys j=pyEq d1 d2:=by unfold yy; rw [f1,f2]
 rw [e3]
 refine BP I n d1 d2 w1 w2 _ _ A (mG px _ (MU f1)) (mG py _ (MU f2)) ?_ g1 g2 r1 r2 hA
 rcases hdd with hdd | hdd
 ·exact .inl (List.all_eq_true.mp hdd d1 (MU f1))
 ·exact .inr (List.all_eq_true.mp hdd d2 (MU f2))
inductive Way (I:Inv X pins σ H s):D->Qp->Prop where
 | non:Way I .non .none
 | bl (b:Bool):Way I (.bl b) (.bool b)
 | int (i:Int) (t:Tok):Way I (.int i) (.int i t)
 | str (x:Str) (t:Tok):Way I (.str x) (.str x t)
 | tup {xs:List D} {p:Qs} {vs:List V} {its:List Qp} (h:aW X.K H xs vs) (r:Vals vs its) (t:s.heap.IsTuple p its.toArray):Way I (.tup xs) (.ref p)
 | lst {xs:List D} {p:Qs} {vs:List V} {its:List Qp} (h:aW X.K H xs vs) (r:Vals vs its) (t:s.heap.IsList p its.toArray):Way I (.lst xs) (.ref p)
def top:D->Bool
 | .dct _ _=>false
 | .obj _ _ _=>false
 | .exc _ _ _=>false
 | _=>true
theorem fM {d:D} (h:pl d=true):top d=true:=by
 cases d with
 | dct _ _=>exact(gl h).elim
 | obj _ _ _=>exact(gE h).elim
 | exc _ _ _=>exact(gz h).elim
 | _=>rfl
theorem fA (I:Inv X pins σ H s) {d:D} {v:V} {u:Qp} (pd:top d=true) (h:cK X.K H d v) (r:RelV v u):Way I d u:=by
 cases d with
 | non=>rw [j0] at h; subst h; cases r; exact .non
 | bl b=>rw [lF] at h; subst h; cases r; exact .bl b
 | int i=>rw [fu] at h; subst h; obtain⟨t,rfl⟩:=r; exact .int i t
 | str x=>rw [fj] at h; subst h; obtain⟨t,rfl⟩:=r; exact .str x t
 | tup xs =>
  rw [cC] at h
  obtain⟨p,vs,e,h1,h2⟩:=h
  subst e
  cases r
  obtain⟨its,rv,ht,_⟩:=I.tuple (oM.of h1)
  exact .tup h2 rv ht
 | lst xs =>
  rw [cD] at h
  obtain⟨p,vs,e,h1,h2⟩:=h
  subst e
  cases r
  obtain⟨its,rv,ht,_⟩:=I.list h1
  exact .lst h2 rv ht.isList
 | dct _ _=>cases pd
 | obj _ _ _=>cases pd
 | exc _ _ _=>cases pd
theorem GC (I:Inv X pins σ H s) {n:Nat} {a b:D} {x y:V} {u v:Qp} {A:QA} (pa:pl a=true) (pb:pl b=true) (hd:eL (n+1) a=true\/eL (n+1) b=true) (ha:cK X.K H a x) (hb:cK X.K H b y) (ru:RelV x u) (rv:RelV y v) (hA:A.units+n+1 < QZ):RcAt A s u v (pyEq a b):=by
 have hu:A.units < QZ:=by omega
 cases fA I (fM pa) ha ru with
 | non=>cases fA I (fM pb) hb rv with
  | non=>unfold pyEq; exact .none_none
  | bl b=>unfold pyEq; exact .none_bool b
  | int i t=>unfold pyEq; exact .none_int i t
  | str x t=>unfold pyEq; exact .none_str x t
  | tup h r t=>unfold pyEq; exact .none_tuple t hu
  | lst h r t=>unfold pyEq; exact .none_list t hu
 | bl z=>cases fA I (fM pb) hb rv with
  | non=>unfold pyEq; exact .bool_none z
  | bl b=>unfold pyEq; exact .bool_bool z b
  | int i t=>unfold pyEq; exact .bool_int z i t
  | str x t=>unfold pyEq; exact .bool_str z x t
  | tup h r t=>unfold pyEq; exact .bool_tuple z t hu
  | lst h r t=>unfold pyEq; exact .bool_list z t hu
 | int z tz=>cases fA I (fM pb) hb rv with
  | non=>unfold pyEq; exact .int_none z tz
  | bl b=>unfold pyEq; exact .int_bool z tz b
  | int i t=>unfold pyEq; exact .int_int z tz i t
  | str x t=>unfold pyEq; exact .int_str z tz x t
  | tup h r t=>unfold pyEq; exact .int_tuple z tz t hu
  | lst h r t=>unfold pyEq; exact .int_list z tz t hu
 | str z tz=>cases fA I (fM pb) hb rv with
  | non=>unfold pyEq; exact .str_none z tz
  | bl b=>unfold pyEq; exact .str_bool z tz b
  | int i t=>unfold pyEq; exact .str_int z tz i t
  | str x t=>unfold pyEq; exact .str_str z tz x t
  | tup h r t=>unfold pyEq; exact .str_tuple z tz t hu
  | lst h r t=>unfold pyEq; exact .str_list z tz t hu
 | @tup xs p vs its h1 r1 t1=>cases fA I (fM pb) hb rv with
  | non=>unfold pyEq; exact .tuple_none t1 hu
  | bl b=>unfold pyEq; exact .tuple_bool b t1 hu
  | int i t=>unfold pyEq; exact .tuple_int i t t1 hu
  | str x t=>unfold pyEq; exact .tuple_str x t t1 hu
  | @tup ys p' vs' its' h2 r2 t2 =>
   have q:=RcAt.tuples (e:=yy xs ys) t1 t2 hu (qy (A:=A.in1) I (by first | rw [<- cM]; exact pa | rw [<- e8]; exact pa) (by first | rw [<- cM]; exact pb | rw [<- e8]; exact pb) hd h1 h2 r1 r2 (by rw [in1_units]; omega))
   have z1:its.toArray.size=xs.length:=by rw [ME,<- r1.length,<- h1.length]
   have z2:its'.toArray.size=ys.length:=by rw [ME,<- r2.length,<- h2.length]
   rw [z1,z2,ga] at q
   unfold pyEq; exact q
  | lst h r t=>unfold pyEq; exact .tuple_list t1 t hu
 | @lst xs p vs its h1 r1 t1=>cases fA I (fM pb) hb rv with
  | non=>unfold pyEq; exact .list_none t1 hu
  | bl b=>unfold pyEq; exact .list_bool b t1 hu
  | int i t=>unfold pyEq; exact .list_int i t t1 hu
  | str x t=>unfold pyEq; exact .list_str x t t1 hu
  | tup h r t=>unfold pyEq; exact .list_tuple t1 t hu
  | @lst ys p' vs' its' h2 r2 t2 =>
   have z1:its.toArray.size=xs.length:=by rw [ME,<- r1.length,<- h1.length]
   have z2:its'.toArray.size=ys.length:=by rw [ME,<- r2.length,<- h2.length]
   have er:=ga xs ys
   by_cases hz:its.toArray.size=its'.toArray.size
   ·have q:=RcAt.lists (e:=yy xs ys) t1 t2 hz hu (qy (A:=A.in1) I (by first | rw [<- cM]; exact pa | rw [<- e8]; exact pa) (by first | rw [<- cM]; exact pb | rw [<- e8]; exact pb) hd h1 h2 r1 r2 (by rw [in1_units]; omega))
    rw [z1] at q
    have hz':xs.length=ys.length:=by omega
    rw [<- hz',Nt] at er
    simp only [beq_self_eq_true,Nu] at er
    rw [er] at q
    unfold pyEq; exact q
   ·have q:=RcAt.lists_lengths (A:=A) t1 t2 (by simpa using hz) hu
    have hz':(xs.length==ys.length)=false:=by
     rw [z1,z2] at hz
     simpa using hz
    rw [hz',M2] at er
    unfold pyEq
    rw [<- er]; exact q
theorem B4 (I:Inv X pins σ H s) {n:Nat} {a b:D} {x y:V} {u v:Qp} {A:QA} (pa:pl a=true) (pb:pl b=true) (hd:eL (n+1) a=true\/eL (n+1) b=true) (ha:cK X.K H a x) (hb:cK X.K H b y) (ru:RelV x u) (rv:RelV y v) (hA:A.units+n+1 < QZ):RcNeAt A s u v (!pyEq a b):=by
 have hu:A.units < QZ:=by omega
 cases fA I (fM pa) ha ru with
 | non=>cases fA I (fM pb) hb rv with
  | non=>unfold pyEq; exact .none_none
  | bl b=>unfold pyEq; exact .none_bool b
  | int i t=>unfold pyEq; exact .none_int i t
  | str x t=>unfold pyEq; exact .none_str x t
  | tup h r t=>unfold pyEq; exact .none_tuple t hu
  | lst h r t=>unfold pyEq; exact .none_list t hu
 | bl z=>cases fA I (fM pb) hb rv with
  | non=>unfold pyEq; exact .bool_none z
  | bl b=>unfold pyEq; exact .bool_bool z b
  | int i t=>unfold pyEq; exact .bool_int z i t
  | str x t=>unfold pyEq; exact .bool_str z x t
  | tup h r t=>unfold pyEq; exact .bool_tuple z t hu
  | lst h r t=>unfold pyEq; exact .bool_list z t hu
 | int z tz=>cases fA I (fM pb) hb rv with
  | non=>unfold pyEq; exact .int_none z tz
  | bl b=>unfold pyEq; exact .int_bool z tz b
  | int i t=>unfold pyEq; exact .int_int z tz i t
  | str x t=>unfold pyEq; exact .int_str z tz x t
  | tup h r t=>unfold pyEq; exact .int_tuple z tz t hu
  | lst h r t=>unfold pyEq; exact .int_list z tz t hu
 | str z tz=>cases fA I (fM pb) hb rv with
  | non=>unfold pyEq; exact .str_none z tz
  | bl b=>unfold pyEq; exact .str_bool z tz b
  | int i t=>unfold pyEq; exact .str_int z tz i t
  | str x t=>unfold pyEq; exact .str_str z tz x t
  | tup h r t=>unfold pyEq; exact .str_tuple z tz t hu
  | lst h r t=>unfold pyEq; exact .str_list z tz t hu
 | @tup xs p vs its h1 r1 t1=>cases fA I (fM pb) hb rv with
  | non=>unfold pyEq; exact .tuple_none t1 hu
  | bl b=>unfold pyEq; exact .tuple_bool b t1 hu
  | int i t=>unfold pyEq; exact .tuple_int i t t1 hu
  | str x t=>unfold pyEq; exact .tuple_str x t t1 hu
  | @tup ys p' vs' its' h2 r2 t2 =>
   have q:=RcNeAt.tuples (e:=yy xs ys) t1 t2 hu (qy (A:=A.in1) I (by first | rw [<- cM]; exact pa | rw [<- e8]; exact pa) (by first | rw [<- cM]; exact pb | rw [<- e8]; exact pb) hd h1 h2 r1 r2 (by rw [in1_units]; omega))
   have z1:its.toArray.size=xs.length:=by rw [ME,<- r1.length,<- h1.length]
   have z2:its'.toArray.size=ys.length:=by rw [ME,<- r2.length,<- h2.length]
   rw [z1,z2,ga] at q
   unfold pyEq; exact q
  | lst h r t=>unfold pyEq; exact .tuple_list t1 t hu
 | @lst xs p vs its h1 r1 t1=>cases fA I (fM pb) hb rv with
  | non=>unfold pyEq; exact .list_none t1 hu
  | bl b=>unfold pyEq; exact .list_bool b t1 hu
  | int i t=>unfold pyEq; exact .list_int i t t1 hu
  | str x t=>unfold pyEq; exact .list_str x t t1 hu
  | tup h r t=>unfold pyEq; exact .list_tuple t1 t hu
  | @lst ys p' vs' its' h2 r2 t2 =>
   have z1:its.toArray.size=xs.length:=by rw [ME,<- r1.length,<- h1.length]
   have z2:its'.toArray.size=ys.length:=by rw [ME,<- r2.length,<- h2.length]
   have er:=ga xs ys
   by_cases hz:its.toArray.size=its'.toArray.size
   ·have q:=RcNeAt.lists (e:=yy xs ys) t1 t2 hz hu (qy (A:=A.in1) I (by first | rw [<- cM]; exact pa | rw [<- e8]; exact pa) (by first | rw [<- cM]; exact pb | rw [<- e8]; exact pb) hd h1 h2 r1 r2 (by rw [in1_units]; omega))
    rw [z1] at q
    have hz':xs.length=ys.length:=by omega
    rw [<- hz',Nt] at er
    simp only [beq_self_eq_true,Nu] at er
    rw [er] at q
    unfold pyEq; exact q
   ·have q:=RcNeAt.lists_lengths (A:=A) t1 t2 (by simpa using hz) hu
    have hz':(xs.length==ys.length)=false:=by
     rw [z1,z2] at hz
     simpa using hz
    rw [hz',M2] at er
    unfold pyEq
    rw [<- er]; exact q
end

section
variable {X:Cx}
def rD (K:Pa) (g:D->D->Option D):R2:=fun x y H Q=>∃ O a b d,d9 H O/\cK K (hid H O) a x/\cK K (hid H O) b y/\g a b=some d/\∀ v H',bo H H'->cK K (hid H' O) d v->Q v H'
theorem aw {K:Pa} {g:D->D->Option D}:eO K (rD K g) g:=fun a b d x y O H Q hO hg ha hb q=>⟨O,a,b,d,hO,ha,hb,hg,q⟩
theorem sB {f : Qp -> Qp -> Sem Qp} {g : D -> D -> Option D} (h : ∀ (pins : List (Qs × Obj)) (s : QB) (σ : St) (H : Hp) (a b d : D) (x y : V) (u v : Qp), Inv X pins σ H s -> cK X.K H a x -> cK X.K H b y -> RelV x u -> RelV y v -> g a b = some d ->
      ∃ c,d=.bl c/\∀ (Q:Qp->QB->Prop),Q (.bool c) s->QD (model X.prog X.w) X.A (f u v) Q X.xe s):lX X f (rD X.K g):=by
  intro pins s σ H x y u v Q I rx ry ⟨O,a,b,d,hO,ha,hb,hg,q⟩
  obtain⟨c,rfl,hq⟩:=h pins s σ H a b d x y u v I (ha.mono (aC H O)) (hb.mono (aC H O)) rx ry hg
  exact hq _ ⟨.bl c,H,I,rfl,q _ H (bo.refl H) (lF.mpr rfl)⟩
def g9 (a b:D):Option D:=if (pl a && pl b) && (eL 8 a || eL 8 b) then some (.bl (pyEq a b)) else none
def E5 (a b:D):Option D:=if (pl a && pl b) && (eL 8 a || eL 8 b) then some (.bl (!pyEq a b)) else none
theorem dB (hu:X.A.units+64 < QZ):lX X (QS .Eq) (rD X.K g9):=sB fun pins s σ H a b d x y u v I ha hb ru rv hg=>by
 obtain⟨h1,h2⟩:=bK hg
 subst h2
 rw [MZ,MZ,Nv] at h1
 exact⟨_,rfl,fun Q q=>GC (n:=7) (A:=X.A) I h1.1.1 h1.1.2 h1.2 ha hb ru rv ‹0› X.prog X.w X.xe Q q⟩
theorem GL (hu:X.A.units+64 < QZ):lX X (QS .NotEq) (rD X.K E5):=sB fun pins s σ H a b d x y u v I ha hb ru rv hg=>by
 obtain⟨h1,h2⟩:=bK hg
 subst h2
 rw [MZ,MZ,Nv] at h1
 exact⟨_,rfl,fun Q q=>B4 (n:=7) (A:=X.A) I h1.1.1 h1.1.2 h1.2 ha hb ru rv ‹0› X.prog X.w X.xe Q q⟩

def inD (x:D) (ys:List D):Bool:=ys.any fun y=>pyEq y x
def gIn (x y:D):Option D:=match y with
 | .tup ys=>if (pl x && nU ys) && eL 8 x then some (.bl (inD x ys)) else none
 | .lst ys=>if (pl x && nU ys) && eL 8 x then some (.bl (inD x ys)) else none
 | _=>none
def jh (x y:D):Option D:=match y with
 | .tup ys=>if (pl x && nU ys) && eL 8 x then some (.bl (!inD x ys)) else none
 | .lst ys=>if (pl x && nU ys) && eL 8 x then some (.bl (!inD x ys)) else none
 | _=>none
open Classical in
theorem Fv {pins:List (Qs×Obj)} {σ:St} {H:Hp} {s:QB} (I:Inv X pins σ H s) {xd:D} {x:V} {u:Qp} {A:QA} (px:pl xd=true) (hd:eL 8 xd=true) (hx:cK X.K H xd x) (ru:RelV x u) (hA:A.units+8 < QZ) {ys:List D} {vs:List V} {its:List Qp} (py:nU ys=true) (hy:aW X.K H ys vs) (rv:Vals vs its) :
  ∃ e:Qp->Bool,(∀ y,y∈its.toArray->EqAt A s y u (e y))/\its.toArray.any e=inD xd ys:=by
 let e:Qp->Bool:=fun y=>decide (∃ d w,pl d=true/\cK X.K H d w/\RelV w y/\pyEq d xd=true)
 have he:∀ d w y,pl d=true->cK X.K H d w->RelV w y->e y=pyEq d xd:=fun d w y h0 h1 h2=>by
  cases hq:pyEq d xd with
  | true=>exact decide_eq_true ⟨d,w,h0,h1,h2,hq⟩
  | false =>
   refine decide_eq_false ?_
   rintro⟨d',w',g0,g1,g2,g3⟩
   have ew:=RelV.inj h2 g2
   subst ew
   rw [Inv.den_inj I h0 g0 h1 g1,g3] at hq
   cases hq
 refine⟨e,fun y hy'=>?_,?_⟩
 ·have hm:y∈its:=by simpa using hy'
  obtain⟨j,hj,rfl⟩:=Nw hm
  obtain⟨w,e1,r1⟩:=n5 rv (j:=j) (by simpa using hj)
  obtain⟨d,f1,g1⟩:=nZ hy e1
  have r1':RelV w its[j]:=by simpa using r1
  have pd:=mG py _ (MU f1)
  rw [he d w _ pd g1 r1']
  exact BP I 8 d xd w x _ u A pd px (.inr hd) g1 hx r1' ru hA
 ·unfold inD
  have go:∀ (ys:List D) (vs:List V) (its:List Qp),nU ys=true->aW X.K H ys vs->Vals vs its->its.any e=ys.any fun y=>pyEq y xd:=by
   intro ys
   induction ys with
   | nil =>
    intro vs its py h r
    rw [cT] at h
    subst h
    cases r
    rfl
   | cons y ys ih =>
    intro vs its py h r
    unfold nU at py
    rw [MZ] at py
    rw [bC] at h
    obtain⟨v,r',e1,h1,h2⟩:=h
    subst e1
    cases r with
    | cons q1 q2=>rw [M5,M5,he y v _ py.1 h1 q1,ih _ _ py.2 h2 q2]
  rw [List.any_toArray]
  exact go ys vs its py hy rv
theorem jw (hu:X.A.units+64 < QZ):lX X (QS .NotIn) (rD X.K jh):=sB fun pins s σ H a b d x y u v I ha hb ru rv hg=>by
 cases b with
 | tup ys =>
  obtain⟨h1,h2⟩:=bK hg
  subst h2
  rw [MZ,MZ] at h1
  rw [cC] at hb
  obtain⟨p,vs,e,g1,g2⟩:=hb
  subst e
  cases rv
  obtain⟨its,r,t,_⟩:=I.tuple (oM.of g1)
  obtain⟨e,he,ea⟩:=Fv (A:=X.A.in1) I h1.1.1 h1.2 ha ru (by rw [in1_units]; omega) h1.1.2 g2 r
  exact⟨_,rfl,fun Q q=>SeqAt.notIn_tupleAt e (show s.heap.IsTuple p its.toArray from t) he (by rw [ea]; exact q)⟩
 | lst ys =>
  obtain⟨h1,h2⟩:=bK hg
  subst h2
  rw [MZ,MZ] at h1
  rw [cD] at hb
  obtain⟨p,vs,e,g1,g2⟩:=hb
  subst e
  cases rv
  obtain⟨its,r,t,_⟩:=I.list g1
  obtain⟨e,he,ea⟩:=Fv (A:=X.A.in1) I h1.1.1 h1.2 ha ru (by rw [in1_units]; omega) h1.1.2 g2 r
  exact⟨_,rfl,fun Q q=>SeqAt.notIn_listAt e t.isList he (by rw [ea]; exact q)⟩
 | _=>cases hg

def FR (p:Int->Int->D) (a b:D):Option D:=match a,b with
 | .int i,.int j=>some (p i j)
 | _,_=>none
def Mf:=FR fun i j=>.bl (decide (i < j))
def L3:=FR fun i j=>.bl (decide (i<=j))
def Mm:=FR fun i j=>.bl (decide (j < i))
def Mg:=FR fun i j=>.bl (decide (j<=i))
theorem rT {K:Pa} {g:Int->Int->Int}:eO K (DX fun i j=>.int (g i j)) (FR fun i j=>.int (g i j)):=fun a b d x y O H Q hO hg ha hb q=>by
 cases a with
 | int i =>
  cases b with
  | int j=>cases hg; exact⟨i,j,fu.mp ha,fu.mp hb,q _ H (bo.refl H) (fu.mpr rfl)⟩
  | _=>cases hg
 | _=>cases hg
def Hy (c:Int->Int->Bool) (p:Int->Int->Int) (a b:D):Option D:=match a,b with
 | .int i,.int j=>if c i j then some (.int (p i j)) else none
 | _,_=>none
theorem jy {K:Pa} {C:Int->Int->Prop} {c:Int->Int->Bool} {g:Int->Int->Int} (hc:∀ i j,c i j=true->C i j):eO K (rI C fun i j=>.int (g i j)) (Hy c g):=fun a b d x y O H Q hO hg ha hb q=>by
 cases a with
 | int i =>
  cases b with
  | int j =>
   obtain⟨h1,h2⟩:=bK hg
   subst h2
   exact⟨i,j,fu.mp ha,fu.mp hb,hc i j h1,q _ H (bo.refl H) (fu.mpr rfl)⟩
  | _=>cases hg
 | _=>cases hg
def AJ:=FR fun i j=>.int (i - j)
def jR:=Hy (fun i j=>decide ((-(2 ^ 64) < i/\i < 2 ^ 64)\/(-(2 ^ 64) < j/\j < 2 ^ 64))) (·*·)
def EX (_ j:Int):Prop:=0 < j/\j < 10 ^ 200
theorem bg:lX X (QR .FloorDiv) (rI EX fun i j=>.int (i / j)):=Iy fun i j _ _ _ _ _ hc q=>by
 have h1:(0:Int) < j:=hc.1
 have h2:j < 10 ^ 200:=hc.2
 refine PyProof.Rows.floordiv_int ‹0› (by rw [MD i ‹0›]; exact q) (.inl (PyProof.noPylong_of_log2 ?_))
 have h3:j.natAbs < 10 ^ 200:=by omega
 rw [Nat.log2_lt ‹0›]
 exact M8 h3 (by decide +kernel)
def dj:=Hy (fun _ j=>decide (0 < j/\j < 10 ^ 200)) (· / ·)
def cG:=Hy (fun _ j=>decide (0 < j)) (·%·)
def ql:=Hy (fun i j=>decide (0<=j/\j<=1000000/\i.natAbs < 2 ^ 64)) fun i j=>i ^ j.toNat
theorem rz {K:Pa}:eO K (DX fun i j=>.int (i - j)) AJ:=rT
theorem iN {K:Pa}:eO K (rI Gi fun i j=>.int (i*j)) jR:=jy fun i j h=>by have q:=of_decide_eq_true h; exact q
theorem bU {K:Pa}:eO K (rI EX fun i j=>.int (i / j)) dj:=jy fun i j h=>by have q:=of_decide_eq_true h; exact q
theorem bA {K:Pa}:eO K (rI (fun _ j=>0 < j) fun i j=>.int (i%j)) cG:=jy fun _ _ h=>of_decide_eq_true h
theorem o8 {K:Pa}:eO K (rI Iz fun i j=>.int (i ^ j.toNat)) ql:=jy fun i j h=>by have q:=of_decide_eq_true h; exact q
def IP (K:Pa):R2:=fun x y H Q=>∃ l b xs zs,x=.ref l/\y=.ref b/\nV K H l xs/\nV K H b zs/\xs.length+zs.length<=Qv/\∀ p,H p=none->Q (.ref p) (upd H p (.lst (xs++zs)))
theorem DT:lX X (QR .Add) (IP X.K):=by
 intro pins s σ H x y v u Q I rx ry h
 obtain⟨l,b,xs,zs,rfl,rfl,hH,hB,hz,q⟩:=h
 cases rx
 cases ry
 obtain⟨its,r,t1,_⟩:=I.list hH
 obtain⟨its2,r2,t2,_⟩:=I.list hB
 obtain⟨⟨c1,d1,dt1,sl1⟩,n1,ho,hc,hd,hdt⟩:=t1
 obtain⟨⟨c2,d2,dt2,sl2⟩,n2,ho2,hc2,hd2,hdt2⟩:=t2
 simp only at hc hd hdt hc2 hd2 hdt2
 subst hc hd hdt hc2 hd2 hdt2
 have z1:=r.length
 have z2:=r2.length
 refine Q6 ⟨_,ho,rfl⟩ ⟨_,ho2,rfl⟩ noFill_list_add seq_list_add F.slot_list_add F.entry_list_add (F.args_list_add_2 _ _) (PyProof.Rows.list_addW l b its.toArray its2.toArray n1 n2 none none sl1 sl2 (by rw [ME,ME]; omega)) ⟨ho,ho2,?_⟩
 have ea:its.toArray++its2.toArray=(its++its2).toArray:=by simp
 rw [ea]
 exact⟨.ref _,_,I.lnew (t':=s.toks) (r.append r2) (by rw [MV]; omega),rfl,q _ I.fresh⟩
def Ha (K:Pa):R2:=fun x y H Q=>∃ a b xs ys,x=.ref a/\y=.ref b/\oM K H a xs/\oM K H b ys/\xs.length+ys.length<=Qv /\
 (xs=[]->Q (.ref b) H)/\(xs≠[]->ys=[]->Q (.ref a) H)/\(xs≠[]->ys≠[]->∀ p,H p=none->Q (.ref p) (upd H p (.tup (xs++ys))))
theorem Cr:lX X (QR .Add) (Ha X.K):=by
 intro pins s σ H x y v u Q I rx ry h
 obtain⟨a,b,xs,ys,ex,ey,ha,hb,hz,q0,q1,q2⟩:=h
 by_cases hx:xs=[]
 ·subst ex ey
  cases rx
  cases ry
  obtain⟨its,r1,p1,_⟩:=I.tuple ha
  obtain⟨its2,r2,p2,_⟩:=I.tuple hb
  obtain⟨⟨cls,dd,data,sl⟩,ho,hc,n,hd⟩:=id p1
  obtain⟨⟨cls2,dd2,data2,sl2⟩,ho2,hc2,n2,hd2⟩:=id p2
  simp only at hc hd hc2 hd2
  subst hc hd hc2 hd2
  have e:its=[]:=r1.nil_iff.mpr hx
  exact Q6 ⟨_,ho,rfl⟩ ⟨_,ho2,rfl⟩ Q7 Q8 F.slot_tuple_add F.entry_tuple_add (F.args_tuple_add_2 _ _)
   (PyProof.Rows.tuple_addW0 a b its.toArray its2.toArray n n2 dd dd2 sl sl2 (by rw [e]; rfl)) ⟨ho,ho2,⟨.ref b,H,I,rfl,q0 hx⟩⟩
 ·exact Es pins s σ H x y v u Q I rx ry ⟨a,b,xs,ys,ex,ey,ha,hb,hx,hz,q1 hx,q2 hx⟩
def bY (a b:D):Option D:=match a,b with
 | .int i,.int j=>some (.int (i+j))
 | .str x,.str y=>if small (x.length+y.length) then some (.str (x++y)) else none
 | .lst xs,.lst ys=>if small (xs.length+ys.length) then some (.lst (xs++ys)) else none
 | .tup xs,.tup ys=>if small (xs.length+ys.length) then some (.tup (xs++ys)) else none
 | _,_=>none
theorem bd:lX X (QR .Add) (rD X.K bY):=by
 intro pins s σ H x y u v Q I rx ry ⟨O,a,b,d,hO,ha,hb,hg,q⟩
 cases a with
 | int i =>
  cases b with
  | int j =>
   cases hg
   exact FU pins s σ H x y u v Q I rx ry ⟨i,j,fu.mp ha,fu.mp hb,q _ H (bo.refl H) (fu.mpr rfl)⟩
  | _=>cases hg
 | str i =>
  cases b with
  | str j =>
   obtain⟨h1,h2⟩:=bK hg
   subst h2
   exact x8 pins s σ H x y u v Q I rx ry ⟨i,j,fj.mp ha,fj.mp hb,eA h1,q _ H (bo.refl H) (fj.mpr rfl)⟩
  | _=>cases hg
 | lst xs =>
  cases b with
  | lst ys =>
   obtain⟨h1,h2⟩:=bK hg
   subst h2
   rw [cD] at ha hb
   obtain⟨p,vs,ex,g1,g2⟩:=ha
   obtain⟨p',vs',ey,g1',g2'⟩:=hb
   refine DT pins s σ H x y u v Q I rx ry ⟨p,p',vs,vs',ex,ey,(aC H O).seq g1,(aC H O).seq g1',?_,fun r hr=>?_⟩
   ·rw [<- g2.length,<- g2'.length]; exact eA h1
   ·exact q _ _ (bD hr _) (dg hO hr (g2.append g2'))
  | _=>cases hg
 | tup xs =>
  cases b with
  | tup ys =>
   obtain⟨h1,h2⟩:=bK hg
   subst h2
   have da:=ha
   have db:=hb
   rw [cC] at ha hb
   obtain⟨p,vs,ex,g1,g2⟩:=ha
   obtain⟨p',vs',ey,g1',g2'⟩:=hb
   have l1:=g2.length
   have l2:=g2'.length
   refine Cr pins s σ H x y u v Q I rx ry ⟨p,p',vs,vs',ex,ey,bR (aC H O) g1,bR (aC H O) g1',?_,fun z=>?_,fun z z'=>?_,fun z z' r hr=>?_⟩
   ·rw [<- l1,<- l2]; exact eA h1
   ·have e:xs=[]:=List.length_eq_zero_iff.mp (by rw [l1,z]; rfl)
    rw [<- ey]
    refine q _ H (bo.refl H) ?_
    rw [e,Nx]; exact db
   ·have e:ys=[]:=List.length_eq_zero_iff.mp (by rw [l2,z']; rfl)
    rw [<- ex]
    refine q _ H (bo.refl H) ?_
    rw [e,ML]; exact da
   ·exact q _ _ (bD hr _) (eN hO hr (g2.append g2'))
  | _=>cases hg
 | _=>cases hg

def bq (a b:D):Option D:=match a,b with
 | .tup xs,.int i=>oa xs i
 | .lst xs,.int i=>oa xs i
 | .str x,.int i=>if small x.length then (oa x.cps.toList i).bind fun c=>some (.str ⟨#[c]⟩) else none
 | _,_=>none
theorem zm {K:Pa} {H:Hp} {ds:List D} {vs:List V} {i:Int} {d:D} (h:aW K H ds vs) (e:oa ds i=some d):∃ v,oa vs i=some v/\cK K H d v:=by
 unfold oa at e ⊢
 obtain⟨j,e1,e2⟩:=bind_some e
 rw [<- h.length,e1]
 exact h.get e2
theorem Le:Ip X (rD X.K bq):=by
 intro value slice pins s σ H x y u v Q I rx ry ⟨O,a,b,d,hO,ha,hb,hg,q⟩ hsub
 cases a with
 | tup xs =>
  cases b with
  | int i =>
   rw [cC] at ha
   obtain⟨p,vs,ex,g1,g2⟩:=ha
   obtain⟨w,e1,e2⟩:=zm g2 hg
   refine GD value slice pins s σ H x y u v Q I rx ry ?_ hsub; exact⟨p,vs,i,w,ex,fu.mp hb,bR (aC H O) g1,e1,q w H (bo.refl H) e2⟩
  | _=>cases hg
 | lst xs =>
  cases b with
  | int i =>
   rw [cD] at ha
   obtain⟨p,vs,ex,g1,g2⟩:=ha
   obtain⟨w,e1,e2⟩:=zm g2 hg
   refine Dx value slice pins s σ H x y u v Q I rx ry ?_ hsub; exact⟨p,vs,i,w,ex,fu.mp hb,(aC H O).seq g1,e1,q w H (bo.refl H) e2⟩
  | _=>cases hg
 | str z =>
  cases b with
  | int i =>
   have hg':(if small z.length then (oa z.cps.toList i).bind fun c=>some (D.str ⟨#[c]⟩) else none)=some d:=hg
   cases hs:small z.length with
   | false=>rw [hs] at hg'; cases hg'
   | true =>
    rw [hs] at hg'
    obtain⟨c,e1,e2⟩:=bind_some hg'
    cases e2
    refine Gw value slice pins s σ H x y u v Q I rx ry ?_ hsub; exact⟨z,i,c,fj.mp ha,fu.mp hb,eA hs,e1,q _ H (bo.refl H) (fj.mpr rfl)⟩
  | _=>cases hg
 | _=>cases hg
theorem LO {a b:QE} {fa fb:FX} {pos:Pos} (ha:FE X a fa) (hb:FE X b fb) (hs:vq b):FE X (.Subscript a b pos) (f2 bq fa fb) :=
 PE.weak (Ie Le ha hb hs) (vR aw)

def cutD {α:Type} (xs:List α) (lo hi:Option Int):List α:=(xs.drop (HT.sIx xs.length 0 lo)).take (HT.sIx xs.length xs.length hi - HT.sIx xs.length 0 lo)
theorem sO {M:Model} {A:QA} {E:Qp->QB->Prop} {s:QB} {t:Qs} {items:Array Qp} {Q:Bool->QB->Prop} (ht:Qb s.heap t items) (h:Q true s):QD M A (Builtin.Tuple.tupleIsExact (.ref t)) Q E s:=by
 unfold Builtin.Tuple.tupleIsExact
 refine QM (Rg ht.typeIs ?_)
 exact QL h
theorem hX {prog:Qr} {w:Qq} {A:QA} {E:Qp->QB->Prop} {s:QB} {t sl:Qs} {items:Array Qp} {vl vu:Qp} {lo hi:Option Int} {Q:Qp->QB->Prop} (ht:Qb s.heap t items) (hs:s.heap.IsSliceOf sl vl vu .none) (pl:Q9 vl lo) (pu:Q9 vu hi)
  (hw:HT.sIx items.size 0 lo=0/\HT.sIx items.size items.size hi=items.size) (h:Q (.ref t) s):QD (model prog w) A (getItem (.ref t) (.ref sl)) Q E s:=by
 obtain⟨os,hos,hcs,hds⟩:=id hs
 have hTs:s.TypeIs (.ref sl) "slice":=⟨os,hos,hcs⟩
 unfold getItem
 try with_reducible refine Rb ?_
 first | refine QM (QL ?_) | skip
 refine QM (wpAny_sequenceKey ht.typeIs (by decide) ?_)
 refine QM (Rc (name:=Str.ofString "__getitem__") ht.typeIs P9
  (Rf P9 ht.typeIs PyProof.Rows.entry_tuple_getitem ?_ (PyProof.Rows.args_tuple_getitem _ _)))
 show QD _ _ (Builtin.Tuple.tupleItemsOf (.ref t) >>= _) _ _ s
 refine QM (PyProof.Rows.tupleItemsOf_ ht ?_)
 refine QM (Rg hTs ?_)
 rw [if_pos (by decide)]
 refine QM (HT.oO hs pl pu ?_)
 have hyes:(((HT.sIx items.size 0 lo:Nat):Int)==0 && (1:Int)==1 && (HT.sIx items.size items.size hi - HT.sIx items.size 0 lo)==items.size)=true:=by
  rw [hw.1,hw.2]
  simp
 show QD _ _ (if (((HT.sIx items.size 0 lo:Nat):Int)==0 && (1:Int)==1 && (HT.sIx items.size items.size hi - HT.sIx items.size 0 lo)==items.size)=true then _ else _) _ _ s
 rw [if_pos hyes]
 refine QM (sO ht ?_)
 rw [if_pos rfl]
 first
  | exact QM (Rq (QL ⟨_,rfl,QL h⟩))
  | exact QM (Rq (QM (QL (QL ⟨_,rfl,QL h⟩))))
def sG (a:D) (lo hi:Option Int):Option D:=match a with
 | .lst xs=>some (.lst (cutD xs lo hi))
 | .tup xs=>some (.tup (cutD xs lo hi))
 | .str x=>if small x.length then some (.str ⟨(cutD x.cps.toList lo hi).toArray⟩) else none
 | _=>none
theorem Fo (v:Option Int) (d n:Nat) (hd:d<=n):(match v with | none=>(d:Int) | some i=>if (1:Int) > 0 then max 0 (min (if i < 0 then i+(n:Int) else i) (n:Int)) else max (-1) (min (if i < 0 then i+(n:Int) else i) ((n:Int) - 1)))=((HT.sIx n d v:Nat):Int):=by
 cases v with
 | none=>rfl
 | some i =>
  show (if (1:Int) > 0 then max 0 (min (if i < 0 then i+(n:Int) else i) (n:Int)) else max (-1) (min (if i < 0 then i+(n:Int) else i) ((n:Int) - 1)))=(((if i < 0 then (i+(n:Int)).toNat else min i.toNat n):Nat):Int)
  rw [if_pos (by decide)]
  by_cases h:i < 0
  ·rw [if_pos h,if_pos h]; omega
  ·rw [if_neg h,if_neg h]; omega
theorem BX (lo hi:Option Int) (n:Nat):Builtin.Str.strSliceIndices lo hi 1 n=(List.range (HT.sIx n n hi - HT.sIx n 0 lo)).map fun k=>HT.sIx n 0 lo+k:=by
 have e1:=Fo lo 0 n (MK _)
 have e2:=Fo hi n n (MA _)
 have e:Builtin.Str.strSliceIndices lo hi 1 n=sliceRange ((HT.sIx n 0 lo:Nat):Int) ((HT.sIx n n hi:Nat):Int) 1:=by
  rw [<- e1,<- e2]
  cases lo <;> cases hi <;> rfl
 rw [e]
 unfold sliceRange
 dsimp only
 rw [if_pos (by decide:(1:Int) > 0)]
 have e3:(if ((HT.sIx n 0 lo:Nat):Int) < ((HT.sIx n n hi:Nat):Int) then (((HT.sIx n n hi:Nat):Int) - ((HT.sIx n 0 lo:Nat):Int)+1 - 1) / 1 else 0:Int).toNat=HT.sIx n n hi - HT.sIx n 0 lo:=by
  rw [Int.ediv_one]
  split <;> omega
 rw [e3]
 refine Ny fun k _=>?_
 omega
theorem Dm {α:Type} (l:List α) (a:Nat):∀ n:Nat,((List.range n).map fun k=>a+k).filterMap (fun i=>l[i]?)=(l.drop a).take n
 | 0=>by simp
 | n+1=>by
  rw [List.range_succ,Nz,List.filterMap_append,Dm l a n,List.take_add_one,List.getElem?_drop]
  cases e:l[a+n]? <;> simp [e]
theorem Bc (x:Str) (lo hi:Option Int):Txt.slice x lo hi=⟨(cutD x.cps.toList lo hi).toArray⟩:=by
 have hl:x.cps.toList.length=x.length:=by simp [Str.length]
 have pick:(Builtin.Str.strSliceIndices lo hi 1 x.length).filterMap (x.cps[·]?)=cutD x.cps.toList lo hi:=by
  rw [BX]
  have q:=Dm x.cps.toList (HT.sIx x.length 0 lo) (HT.sIx x.length x.length hi - HT.sIx x.length 0 lo)
  unfold cutD
  rw [hl,<- q]
  congr 1
  funext i
  simp
 unfold Txt.slice
 split
 ·rename_i h
  have h':(Builtin.Str.strSliceIndices lo hi 1 x.length).length=x.length:=by simpa using h
  rw [BX,MI,NA] at h'
  have h1:=HT.GB x.length x.length (MA _) hi
  have z1:HT.sIx x.length 0 lo=0\/x.length=0:=by omega
  have e:cutD x.cps.toList lo hi=x.cps.toList:=by
   unfold cutD
   rw [hl,h']
   rcases z1 with z1 | z1
   ·rw [z1,Nm,<- hl,NB]
   ·have:x.cps.toList=[]:=List.length_eq_zero_iff.mp (by rw [hl]; exact z1)
    rw [this]; simp
  rw [e]
 ·rw [pick]
def KQ (K:Pa):V->Option Int->Option Int->Hp->VK->Prop:=fun x lo hi H Q=>∃ O a d,d9 H O/\cK K (hid H O) a x/\sG a lo hi=some d/\∀ v H',bo H H'->cK K (hid H' O) d v->Q v H'
theorem aW.cut {K:Pa} {H:Hp} {ds:List D} {vs:List V} (h:aW K H ds vs) (lo hi:Option Int):aW K H (cutD ds lo hi) (xf vs lo hi):=by
 unfold cutD xf
 rw [h.length]
 exact(h.drop _).take _
theorem Lx:JM X (KQ X.K):=by
 intro pins s σ H x v vl vu lo hi sl Q I rx hs pl pu ⟨O,a,d,hO,ha,hg,q⟩
 cases a with
 | lst xs =>
  cases hg
  rw [cD] at ha
  obtain⟨p,vs,ex,g1,g2⟩:=ha
  exact Ef pins s σ H x v vl vu lo hi sl Q I rx hs pl pu ⟨p,vs,ex,(aC H O).seq g1,fun r hr=>q _ _ (bD hr _) (dg hO hr (g2.cut lo hi))⟩
 | tup xs =>
  cases hg
  have da:=ha
  rw [cC] at ha
  obtain⟨p,vs,ex,g1,g2⟩:=ha
  by_cases hw:HT.sIx vs.length 0 lo=0/\HT.sIx vs.length vs.length hi=vs.length
  ·subst ex
   cases rx
   obtain⟨its,r,ht,hz⟩:=I.tuple (bR (aC H O) g1)
   have hlen:its.toArray.size=vs.length:=by rw [ME]; exact r.length.symm
   refine⟨"tuple",_,PyProof.Rows.slot_tuple_getitem.lookup,ht.typeIs,hX ht hs pl pu (by rw [hlen]; exact hw) ⟨.ref p,H,I,rfl,q _ H (bo.refl H) ?_⟩⟩
   have e:cutD xs lo hi=xs:=by
    unfold cutD
    rw [g2.length,hw.1,hw.2,NC,Nm,<- g2.length,NB]
   rw [e]; exact da
  ·exact GJ pins s σ H x v vl vu lo hi sl Q I rx hs pl pu ⟨p,vs,ex,bR (aC H O) g1,hw,fun r hr=>q _ _ (bD hr _) (eN hO hr (g2.cut lo hi))⟩
 | str z =>
  obtain⟨h1,h2⟩:=bK hg
  subst h2
  rw [fj] at ha
  subst ha
  obtain⟨t,rfl⟩:=rx
  have fin:∀ t' tk,EP X pins σ Q (.str (Txt.slice z lo hi) t') { s with toks:=tk }:=fun t' tk=>by
   rw [Bc]
   exact⟨.str _,H,I.tok _,⟨_,rfl⟩,q _ H (bo.refl H) (fj.mpr rfl)⟩
  obtain⟨os,hos,hcs,hds⟩:=id hs
  have hz:=eA h1
  refine⟨"str",_,F.slot_str_getitem.lookup,typeIs_str _ _ _,?_⟩
  cases pl with
  | none =>
   cases pu with
   | none=>exact Rt (l:=none) (u:=none) (st:=none) ⟨os,hos,hcs,hds⟩ rfl (Ru ⟨Mr (Txt.slice_le z _ _) hz,fun t' k=>fin t' k⟩)
   | int j tj=>exact Rt (l:=none) (u:=some (j,tj)) (st:=none) ⟨os,hos,hcs,hds⟩ rfl (Ru ⟨Mr (Txt.slice_le z _ _) hz,fun t' k=>fin t' k⟩)
  | int i ti =>
   cases pu with
   | none=>exact Rt (l:=some (i,ti)) (u:=none) (st:=none) ⟨os,hos,hcs,hds⟩ rfl (Ru ⟨Mr (Txt.slice_le z _ _) hz,fun t' k=>fin t' k⟩)
   | int j tj=>exact Rt (l:=some (i,ti)) (u:=some (j,tj)) (st:=none) ⟨os,hos,hcs,hds⟩ rfl (Ru ⟨Mr (Txt.slice_le z _ _) hz,fun t' k=>fin t' k⟩)
 | _=>cases hg
def aP:aq->R (Option Int):=fun _=>.ok none
def xK:D->Option (Option Int)
 | .int i=>some (some i)
 | _=>none
def bH (f:FX):aq->R (Option Int):=fun ρ=>(f ρ).bind fun d=>rO (xK d)
def Ma (X:Cx) (F:aq->R (Option Int)):TO:=fun σ H Q=>∃ O ρ,dZ X.K O H ρ σ/\iU X σ O H (F ρ) fun o=>∀ H',bo H H'->Q o H'
def FO (X:Cx) (e:Option QE) (F:aq->R (Option Int)):Prop:=PO X e (Ma X F)
theorem Jp:FO X none aP:=fun pins s σ H Q I ⟨O,ρ,E,q⟩=>DQ pins s σ H Q I (q H (bo.refl H))
theorem JE {e:QE} {f:FX} (h:FE X e f):FO X (some e) (bH f):=fun pins s σ H Q I ⟨O,ρ,E,hF⟩ =>
 DA h pins s σ H Q I ⟨O,ρ,E,(iU.bind hF).imp fun d hF v H1 s1 d1=>by
  obtain⟨o,e,q⟩:=iU.rO hF
  cases d with
  | int i =>
   cases e
   exact⟨i,fu.mp d1,q H1 s1⟩
  | _=>cases e⟩
def bf (f:FX) (l h:aq->R (Option Int)):FX:=fun ρ=>(f ρ).bind fun a=>(l ρ).bind fun lo=>(h ρ).bind fun hi=>rO (sG a lo hi)
theorem Ik {e:QE} {f:FX} {l h:aq->R (Option Int)} {lo hi:Option QE} {p2 pos:Pos} (he:FE X e f) (hl:FO X lo l) (hh:FO X hi h):FE X (.Subscript e (.Slice lo hi none p2) pos) (bf f l h) :=
 PE.weak (CZ Lx he hl hh) fun σ H Q ⟨O,ρ,E,hF⟩=>⟨O,ρ,E,(iU.bind hF).imp fun a hF x H1 s1 d1=>⟨O,ρ,E.same s1,((iU.bind hF).mono s1).imp fun lo' hF H2 s2=>⟨O,ρ,E.same (s1.trans s2),((iU.bind hF).mono (s1.trans s2)).imp fun hi' hF H3 s3=>by
  obtain⟨d,e,q⟩:=iU.rO hF
  exact⟨O,a,d,E.all.same ((s1.trans s2).trans s3),d1.mono (bT (s2.trans s3)),e,fun v H4 s4 d4=>q v H4 (((s1.trans s2).trans s3).trans s4) d4⟩⟩⟩⟩
end
end TG
namespace TG
open PySem PySem.Spec L2
variable [aR]

def vW (K:Pa) (g:List D->Option D):List V->Hp->VK->Prop:=fun xs H Q=>∃ O ds d,d9 H O/\aW K (hid H O) ds xs/\g ds=some d/\∀ v H',bo H H'->cK K (hid H' O) d v->Q v H'
theorem qX {K:Pa} {g:List D->Option D}:y8 K (vW K g) g:=fun ds d xs O H Q hO hg hd q=>⟨O,ds,d,hO,hd,hg,q⟩
section
variable {X:Cx} {x:Str} {p pos:Pos} {e:QE} {es:List QE} {id T:String} {g:List D->Option D} {f:aq->R (List D)}
theorem IQ (hc:dR X (.builtin id) (vW X.K g)) (hg:Gl X x) (hm:X.mg x=none) (hv:Qz x=some (.builtin id)) (ha:FA X (e::es) f) (hn:x ≠ "__name__":=by decide) (hdb:(x==("__debug__":Str))=false:=by decide)
  (hns:(e::es).all noStar=true:=by rfl):FE X (.Call (.Name x p) (e::es) [] pos) (fL g f) :=
 PE.weak (xB hc hg hm hv ha hn hdb (cW (MZ _ _ ▸ hns).1) (fV (MZ _ _ ▸ hns).2)) (Ce qX)
theorem Ho (hc:dR X (.type T) (vW X.K g)) (hg:Gl X x) (hm:X.mg x=none) (hv:Qz x=some (.type T)) (ha:FA X (e::es) f) (hn:x ≠ "__name__":=by decide) (hdb:(x==("__debug__":Str))=false:=by decide)
  (hns:(e::es).all noStar=true:=by rfl):FE X (.Call (.Name x p) (e::es) [] pos) (fL g f) :=
 PE.weak (tV hc hg hm hv ha hn hdb (cW (MZ _ _ ▸ hns).1) (fV (MZ _ _ ▸ hns).2)) (Ce qX)

def jp:List D->Option D
 | [.lst xs]=>some (.int xs.length)
 | [.tup xs]=>some (.int xs.length)
 | [.str x]=>if small x.length then some (.int x.length) else none
 | _=>none
theorem cZ:dR X (.builtin "len") (vW X.K jp):=by
 intro pins s σ H xs us Q I r ⟨O,ds,d,hO,hd,hg,q⟩
 unfold jp at hg
 split at hg
 ·rename_i ys
  cases hg
  obtain⟨v,ev,h1⟩:=hd.one
  rw [cD] at h1
  obtain⟨p,vs,ep,g1,g2⟩:=h1
  exact og pins s σ H xs us Q I r ⟨p,vs,by rw [ev,ep],.inl ((aC H O).seq g1),q _ H (bo.refl H) (fu.mpr (by rw [g2.length]))⟩
 ·rename_i ys
  cases hg
  obtain⟨v,ev,h1⟩:=hd.one
  rw [cC] at h1
  obtain⟨p,vs,ep,g1,g2⟩:=h1
  exact og pins s σ H xs us Q I r ⟨p,vs,by rw [ev,ep],.inr (bR (aC H O) g1),q _ H (bo.refl H) (fu.mpr (by rw [g2.length]))⟩
 ·rename_i z
  obtain⟨h1,h2⟩:=bK hg
  subst h2
  obtain⟨v,ev,h1'⟩:=hd.one
  exact vD pins s σ H xs us Q I r ⟨z,by rw [ev,fj.mp h1'],eA h1,q _ H (bo.refl H) (fu.mpr rfl)⟩
 ·cases hg
def cm:List D->Option D
 | [.lst xs]=>some (.tup xs)
 | [.tup xs]=>some (.tup xs)
 | _=>none
theorem cu:dR X (.type "tuple") (vW X.K cm):=by
 intro pins s σ H xs us Q I r ⟨O,ds,d,hO,hd,hg,q⟩
 unfold cm at hg
 split at hg
 ·rename_i ys
  cases hg
  obtain⟨v,ev,h1⟩:=hd.one
  rw [cD] at h1
  obtain⟨p,vs,ep,g1,g2⟩:=h1
  exact nc pins s σ H xs us Q I r ⟨p,vs,by rw [ev,ep],.inl ⟨(aC H O).seq g1,fun l hl=>q _ _ (bD hl _) (eN hO hl g2)⟩⟩
 ·rename_i ys
  cases hg
  obtain⟨v,ev,h1⟩:=hd.one
  have h0:=h1
  rw [cC] at h1
  obtain⟨p,vs,ep,g1,g2⟩:=h1
  rw [ep] at h0
  exact nc pins s σ H xs us Q I r ⟨p,vs,by rw [ev,ep],.inr ⟨bR (aC H O) g1,q _ H (bo.refl H) h0⟩⟩
 ·cases hg
def jS:List D->Option D
 | [.lst xs]=>some (.lst xs)
 | [.tup xs]=>some (.lst xs)
 | _=>none
theorem nG:dR X (.type "list") (vW X.K jS):=by
 intro pins s σ H xs us Q I r ⟨O,ds,d,hO,hd,hg,q⟩
 unfold jS at hg
 split at hg
 ·rename_i ys
  cases hg
  obtain⟨v,ev,h1⟩:=hd.one
  rw [cD] at h1
  obtain⟨p,vs,ep,g1,g2⟩:=h1
  exact kj pins s σ H xs us Q I r ⟨p,vs,by rw [ev,ep],.inl ((aC H O).seq g1),fun l hl=>q _ _ (bD hl _) (dg hO hl g2)⟩
 ·rename_i ys
  cases hg
  obtain⟨v,ev,h1⟩:=hd.one
  rw [cC] at h1
  obtain⟨p,vs,ep,g1,g2⟩:=h1
  exact kj pins s σ H xs us Q I r ⟨p,vs,by rw [ev,ep],.inr (bR (aC H O) g1),fun l hl=>q _ _ (bD hl _) (dg hO hl g2)⟩
 ·cases hg
def ra:List D->Option D
 | [.int i,.int j]=>some (.int (if j > i then j else i))
 | _=>none
def wI:List D->Option D
 | [.int i,.int j]=>some (.int (if j < i then j else i))
 | _=>none
def zv:List D->Option D
 | [.int i]=>some (.int i)
 | [.bl k]=>some (.int (if k then 1 else 0))
 | _=>none
theorem sd (hc:X.calm=true):dR X (.builtin "max") (vW X.K ra):=by
 intro pins s σ H xs us Q I r ⟨O,ds,d,hO,hd,hg,q⟩
 unfold ra at hg
 split at hg
 ·rename_i i j
  cases hg
  obtain⟨v,w,ev,h1,h2⟩:=hd.two
  exact A6 hc pins s σ H xs us Q I r ⟨i,j,by rw [ev,fu.mp h1,fu.mp h2],q _ H (bo.refl H) (fu.mpr rfl)⟩
 ·cases hg
theorem x5 (hc:X.calm=true):dR X (.builtin "min") (vW X.K wI):=by
 intro pins s σ H xs us Q I r ⟨O,ds,d,hO,hd,hg,q⟩
 unfold wI at hg
 split at hg
 ·rename_i i j
  cases hg
  obtain⟨v,w,ev,h1,h2⟩:=hd.two
  exact AV hc pins s σ H xs us Q I r ⟨i,j,by rw [ev,fu.mp h1,fu.mp h2],q _ H (bo.refl H) (fu.mpr rfl)⟩
 ·cases hg
theorem yR:dR X (.type "int") (vW X.K zv):=by
 intro pins s σ H xs us Q I r ⟨O,ds,d,hO,hd,hg,q⟩
 unfold zv at hg
 split at hg
 ·rename_i i
  cases hg
  obtain⟨v,ev,h1⟩:=hd.one
  exact uh pins s σ H xs us Q I r (.inl ⟨i,by rw [ev,fu.mp h1],q _ H (bo.refl H) (fu.mpr rfl)⟩)
 ·rename_i k
  cases hg
  obtain⟨v,ev,h1⟩:=hd.one
  exact uh pins s σ H xs us Q I r (.inr ⟨k,by rw [ev,lF.mp h1],q _ H (bo.refl H) (fu.mpr rfl)⟩)
 ·cases hg

def GV:D->String
 | .non => "NoneType"
 | .bl _ => "bool"
 | .int _ => "int"
 | .str _ => "str"
 | .tup _ => "tuple"
 | .lst _ => "list"
 | .dct _ _ => "dict"
 | _ => ""
def DF (T:String) (d:D):Bool:=match d with
 | .bl _=>T == "bool" || T == "int"
 | .non=>T == "NoneType"
 | .int _=>T == "int"
 | .str _=>T == "str"
 | .tup _=>T == "tuple"
 | .lst _=>T == "list"
 | .dct _ _=>T == "dict"
 | _=>false
def xD (K:Pa) (T:String):Prop:=∀ d:D,top d=true->PB K (.type (GV d)) (.type T)=some (DF T d)
def J3 (K:Pa) (T:String):List V->Hp->VK->Prop:=fun xs H Q=>∃ O x d,xs=[x,.ty T]/\top d=true/\cK K (hid H O) d x/\Q (.bl (DF T d)) H
theorem Cj (ok:xD X.K T):dR X (.builtin "isinstance") (J3 X.K T):=by
 intro pins s σ H xs us Q I r ⟨O,x,d,ex,td,hd,q⟩
 subst ex
 obtain⟨u,w',rfl,rx,rt⟩:=vals2 r
 cases rt
 have e:=ok d td
 have fin:∀ tk,EP X pins σ Q (.bool (DF T d)) { s with toks:=tk }:=fun tk=>⟨.bl _,H,I.tok _,rfl,q⟩
 cases fA I td (hd.mono (aC H O)) rx with
 | non=>exact PC PySem.W.kitx_none I.kIn True.intro e (fun z=>nomatch z) fin
 | bl b=>exact PC PySem.W.kitx_bool I.kIn True.intro e (fun z=>nomatch z) fin
 | int i t=>exact PC PySem.W.kitx_int I.kIn True.intro e (fun z=>nomatch z) fin
 | str y t=>exact PC PySem.W.kitx_str I.kIn True.intro e (fun z=>nomatch z) fin
 | tup h rv t =>
  obtain⟨o,h1,h2,_⟩:=t
  exact PC PySem.W.kitx_tuple I.kIn ⟨o,h1,h2⟩ e (fun z=>nomatch z) fin
 | lst h rv t =>
  obtain⟨o,h1,h2,_⟩:=t
  exact PC PySem.W.kitx_list I.kIn ⟨o,h1,h2⟩ e (fun z=>nomatch z) fin
theorem B1:Qz "isinstance"=some (.builtin "isinstance"):=by first | rfl | decide +kernel
def oz (T:String) (d:D):Option D:=if top d then some (.bl (DF T d)) else none
def qp (T:String) (f:FX):FX:=f1 (oz T) f
theorem J5 {f:FX} {xT:Str} {p2:Pos} (ok:xD X.K T) (hg:Gl X "isinstance") (hm:X.mg "isinstance"=none) (hgT:Gl X xT) (hmT:X.mg xT=none) (hvT:Qz xT=some (.type T)) (he:FE X e f)
  (hn2:xT ≠ "__name__":=by decide) (hd2:(xT==("__debug__":Str))=false:=by decide)
  (hns:noStar e=true:=by rfl) :
  FE X (.Call (.Name "isinstance" p) [e,.Name xT p2] [] pos) (qp T f) :=
 PE.weak (xB (Cj ok) hg hm B1 (kJ he (kJ (Eu (v:=.ty T) hgT hmT hvT rfl hn2 hd2) o5 (cW rfl)) (cW hns)) (by decide) (by decide) (cW hns) (fV rfl)) fun σ H Q ⟨O,ρ,E,hF⟩=>⟨O,ρ,E,(iU.bind hF).imp fun a hF v H1 s1 d1=>by
  obtain⟨d,e,q⟩:=iU.rO hF
  obtain⟨h1,h2⟩:=bK e
  subst h2
  exact⟨O,v,a,rfl,h1,d1,q _ H1 s1 (lF.mpr rfl)⟩⟩
end

section
variable {X:Cx} {a:QE} {f:FX} {pos:Pos}
def isNon:D->Bool
 | .non=>true
 | _=>false
def K4 (d:D):Option D:=some (.bl (isNon d))
def Jf (d:D):Option D:=some (.bl (!isNon d))
def Ko (f:FX):FX:=f1 K4 f
def IX (f:FX):FX:=f1 Jf f
theorem HS (h:FE X a f) (he:∀ whole,isTrue a X.env whole=(do let v <- whole; standAt a.pos; holding [v] (truthy v)):=by intro _; rfl):FT X a (dW f):=PT.weak (CI h he) fun σ H Q ⟨O,ρ,E,hF⟩=>⟨O,ρ,E,(iU.bind hF).imp fun d hF x H1 s1 d1=>by
 obtain⟨r,hF,q⟩:=iU.rO hF
 refine⟨r,?_,q H1 s1⟩
 cases d with
 | non=>cases hF; rw [j0.mp d1]; rfl
 | bl b=>cases hF; rw [lF.mp d1]; rfl
 | int i=>cases hF; rw [fu.mp d1]; rfl
 | str y =>
  obtain⟨hz,e⟩:=bK hF
  subst e
  rw [fj.mp d1]
  refine⟨eA hz,?_⟩
  show (y.length != 0)=((y.length:Int) != 0)
  cases y.length <;> rfl
 | tup xs =>
  cases hF
  obtain⟨p,vs,e,g1,g2⟩:=cC.mp d1
  rw [e]
  refine .inr (.inl ⟨vs,bR (aC H1 O) g1,?_⟩)
  have l:=g2.length
  cases xs <;> cases vs <;> first | rfl | (simp at l)
 | lst xs =>
  cases hF
  obtain⟨p,vs,e,g1,g2⟩:=cD.mp d1
  rw [e]
  refine .inl ⟨vs,(aC H1 O).seq g1,?_⟩
  have l:=g2.length
  cases xs <;> cases vs <;> first | rfl | (simp at l)
 | _=>cases hF⟩
end

def Walk (K:Pa) (Hd:Hp) (J:It) (ds:List D):Prop :=
 ∀ (Hn:Hp) (O':List Qs) (i:Nat),d9 Hn O'->bo Hd (hid Hn O')->(∀ d,ds[i]?=some d->J.go i Hn/\∀ x H2,J.yld i Hn x H2->bo Hn H2/\cK K (hid H2 O') d x)/\(i=ds.length->J.stop i Hn)
def JT (X:Cx) (G:aq->R (List D)):TI:=fun σ H RR=>∃ O ρ,dZ X.K O H ρ σ/\iU X σ O H (G ρ) fun ds=>∀ J H1,bo H H1->Walk X.K (hid H1 O) J ds->RR J H1
def FI (X:Cx) (tg iter:QE) (G:aq->R (List D)):Prop:=PI X tg iter (JT X G)
def pq:D->Option (List D)
 | .lst xs=>some xs
 | .tup xs=>some xs
 | _=>none
def bw (f:FX):aq->R (List D):=fun ρ=>(f ρ).bind fun d=>rO (pq d)
section
variable {X:Cx} {tg:QE}
theorem zP {K:Pa} {Hd:Hp} {a:Qs} {ds:List D} {vs:List V} (h:nV K Hd a vs) (g:aW K Hd ds vs):Walk K Hd (Lw K a) ds:=fun Hn O' i hO s =>
  have s':bo Hd Hn:=s.trans (aC Hn O')
  ⟨fun d e=>by
    obtain⟨v,ev,dv⟩:=g.get e
    refine⟨⟨vs,v,s'.seq h,ev⟩,fun x H2 ⟨e2,y⟩=>?_⟩
    have q:=y vs (s'.seq h)
    rw [ev] at q; cases q
    subst e2
    exact⟨bo.refl _,dv.mono s⟩,
   fun hl=>⟨vs,s'.seq h,by rw [<- g.length]; exact MJ hl.symm⟩⟩
theorem Bq {K:Pa} {Hd:Hp} {a:Qs} {ds:List D} {vs:List V} (h:Hd a=some (.tup vs)) (g:aW K Hd ds vs):Walk K Hd (Kq K a) ds:=fun Hn O' i hO s =>
  have s':bo Hd Hn:=s.trans (aC Hn O')
  ⟨fun d e=>by
    obtain⟨v,ev,dv⟩:=g.get e
    refine⟨⟨vs,v,bR s' h,ev⟩,fun x H2 ⟨e2,y⟩=>?_⟩
    have q:=y vs (bR s' h)
    rw [ev] at q; cases q
    subst e2
    exact⟨bo.refl _,dv.mono s⟩,
   fun hl=>⟨vs,bR s' h,by rw [<- g.length]; exact MJ hl.symm⟩⟩
theorem K8 {e:QE} {f:FX} (h:FE X e f):FI X tg e (bw f):=by
 intro pins s σ H R I ⟨O,ρ,E,hG⟩
 have hG':=iU.bind hG
 cases hf:f ρ with
 | error z=>exact zj h pins s σ H R I ⟨O,ρ,E,by rw [hf] at hG' ⊢; cases z with | none=>exact hG'.elim | some x=>exact hG'⟩
 | ok d =>
  rw [hf] at hG'
  obtain⟨ds,e1,q⟩:=iU.rO (α:=List D) (o:=pq d) hG'
  cases d with
  | lst xs =>
   cases e1
   refine zj h pins s σ H R I ⟨O,ρ,E,?_⟩
   rw [hf]
   refine fun v H1 s1 d1=>?_
   obtain⟨p,vs,ev,g1,g2⟩:=cD.mp d1
   exact⟨p,ev,⟨vs,(aC H1 O).seq g1⟩,q _ H1 s1 (zP g1 g2)⟩
  | tup xs =>
   cases e1
   refine G6 h pins s σ H R I ⟨O,ρ,E,?_⟩
   rw [hf]
   refine fun v H1 s1 d1=>?_
   obtain⟨p,vs,ev,g1,g2⟩:=cC.mp d1
   exact⟨p,ev,⟨vs,bR (aC H1 O) g1⟩,q _ H1 s1 (Bq g1 g2)⟩
  | _=>cases e1
def eP (lo:Int) (n:Nat):List D:=(List.range n).map fun (k:Nat)=>D.int (lo+(k:Int))
theorem sR (lo:Int) (n:Nat):(eP lo n).length=n:=by unfold eP; rw [MI,NA]
theorem rp {K:Pa} {Hd:Hp} (lo:Int) (n:Nat):Walk K Hd (IB lo n) (eP lo n):=fun Hn O' i hO s =>
  ⟨fun d e=>by
    unfold eP at e
    rw [MS] at e
    cases hi:(List.range n)[i]? with
    | none=>rw [hi] at e; cases e
    | some k =>
      rw [hi] at e
      cases e
      have hlt:i < n:=by
        have:=(List.getElem?_eq_some_iff.mp hi).1
        rwa [NA] at this
      have ek:k=i:=by
        rw [ND hlt] at hi
        exact(Option.some.inj hi).symm
      subst ek
      exact⟨hlt,fun x H2 ⟨e1,e2⟩=>by subst e1; exact⟨bo.refl _,fu.mpr e2⟩⟩,
   fun hl=>by rw [sR] at hl; exact MJ hl.symm⟩
def okR (j:Int):Bool:=decide (-(2 ^ 62)<=j/\j < 2 ^ 62)
def mH:List D->Option (List D)
 | [.int j]=>if okR j then some (eP 0 j.toNat) else none
 | _=>none
def qK:List D->Option (List D)
 | [.int i,.int j]=>if okR i && okR j then some (eP i (j - i).toNat) else none
 | _=>none
def fN (f:aq->R (List D)):aq->R (List D):=fun ρ=>(f ρ).bind fun ds=>rO (mH ds)
def qx (f:aq->R (List D)):aq->R (List D):=fun ρ=>(f ρ).bind fun ds=>rO (qK ds)
theorem Hx {a:QE} {f:aq->R (List D)} {p pos:Pos} (hg:Gl X "range") (hm:X.mg "range"=none) (ha:FA X [a] f) (hs:QF [a] X.env=[(false,eval a X.env)]:=by rfl):FI X tg (.Call (.Name "range" p) [a] [] pos) (fN f):=by
 intro pins s σ H R I ⟨O,ρ,E,hG⟩
 refine A9 hg hm ha hs pins s σ H R I ⟨O,ρ,E,(iU.bind hG).imp fun es hG' vs H1 s1 d1=>?_⟩
 clear hG
 obtain⟨ds,hG,q⟩:=iU.rO hG'
 clear hG'
 unfold mH at hG
 split at hG
 ·rename_i j
  obtain⟨h1,h2⟩:=bK hG
  subst h2
  obtain⟨j1,j2⟩:=of_decide_eq_true h1
  obtain⟨v,ev,dv⟩:=d1.one
  exact⟨j,by rw [ev,fu.mp dv],j1,j2,q _ H1 s1 (rp 0 _)⟩
 ·cases hG
theorem Hu {a b:QE} {f:aq->R (List D)} {p pos:Pos} (hg:Gl X "range") (hm:X.mg "range"=none) (ha:FA X [a,b] f) (hs:QF [a,b] X.env=[(false,eval a X.env),(false,eval b X.env)]:=by rfl) (hs2:QF [b] X.env=[(false,eval b X.env)]:=by rfl):FI X tg (.Call (.Name "range" p) [a,b] [] pos) (qx f):=by
 intro pins s σ H R I ⟨O,ρ,E,hG⟩
 refine Az hg hm ha hs hs2 pins s σ H R I ⟨O,ρ,E,(iU.bind hG).imp fun es hG' vs H1 s1 d1=>?_⟩
 clear hG
 obtain⟨ds,hG,q⟩:=iU.rO hG'
 clear hG'
 unfold qK at hG
 split at hG
 ·rename_i i j
  obtain⟨h1,h2⟩:=bK hG
  subst h2
  rw [MZ] at h1
  obtain⟨i1,i2⟩:=of_decide_eq_true h1.1
  obtain⟨j1,j2⟩:=of_decide_eq_true h1.2
  obtain⟨v,w,ev,dv,dw⟩:=d1.two
  exact⟨i,j,by rw [ev,fu.mp dv,fu.mp dw],⟨i1,i2,j1,j2⟩,q _ H1 s1 (rp i _)⟩
 ·cases hG
end

abbrev GF:=D->aq->Option aq
def Jx (K:Pa) (g:GF):TG:=fun v σ H Q=>∃ O ρ d ρ',dZ K O H ρ σ/\cK K (hid H O) d v/\g d ρ=some ρ'/\∀ σ',dZ K O H ρ' σ'->(∀ (i:Nat) x,ρ'[i]?=some (some x)->(∀ d,x≠.val d)->σ'[i]?=σ[i]?/\ρ[i]?=some (some x))->Q σ' H
def FG (X:Cx) (tg:QE) (g:GF):Prop:=PG X tg (Jx X.K g)
def setV (i:Nat) (d:D) (ρ:aq):aq:=ρ.set i (some (.val d))
theorem aY {α:Type} {l:List α} {i j:Nat} {a b:α} (h:(l.set i a)[j]?=some b):(j=i/\b=a)\/(j≠i/\l[j]?=some b):=by
 by_cases e:j=i
 ·subst e
  left
  have hj:j < (l.set j a).length:=(List.getElem?_eq_some_iff.mp h).1
  rw [List.length_set] at hj
  rw [Mx hj] at h
  exact⟨rfl,(Option.some.inj h).symm⟩
 ·right
  rw [My (Ne.symm e)] at h
  exact⟨e,h⟩
theorem dZ.setV {K:Pa} {O:List Qs} {H:Hp} {ρ:aq} {σ:St} (E:dZ K O H ρ σ) {i:Nat} {d:D} {v:V} (hi:i < σ.length) (hd:cK K (hid H O) d v):dZ K O H (setV i d ρ) (σ.set i (some v)) :=
  ⟨fun j d' e=>by
    rcases aY e with ⟨hj,eq⟩ | ⟨ne,eq⟩
    · cases eq; rw [hj]; exact⟨v,Mx hi,hd⟩
    · obtain⟨w,e1,e2⟩:=E.val j d' eq
      exact⟨w,by rw [My (Ne.symm ne)]; exact e1,e2⟩,
   fun j xs e=>by
    rcases aY e with ⟨_,eq⟩ | ⟨ne,eq⟩
    · cases eq
    · obtain⟨a,e1,e2⟩:=E.own j xs eq
      exact⟨a,by rw [My (Ne.symm ne)]; exact e1,e2⟩,
   fun j k xs ys a e1 e2 e3 e4=>by
    rcases aY e1 with ⟨_,q1⟩ | ⟨ne1,q1⟩
    · cases q1
    · rcases aY e2 with ⟨_,q2⟩ | ⟨ne2,q2⟩
      · cases q2
      · rw [My (Ne.symm ne1)] at e3
        rw [My (Ne.symm ne2)] at e4
        exact E.one j k xs ys a q1 q2 e3 e4,E.all⟩
section
variable {X:Cx} {pos:Pos}
def gN (i:Nat):GF:=fun d ρ=>some (setV i d ρ)
theorem JA {i:Nat} {x:Str} (hN:X.N.Nodup) (hi:X.N[i]?=some x) (hx:Loc X.env.scope x) (hf:X.fn x=true\/X.env.scope.names.lookup x=some .local:=by first | exact .inl rfl | exact .inr rfl | assumption):FG X (.Name x pos) (gN i):=by
 intro pins s σ H v u Q I r ⟨O,ρ,d,ρ',E,hd,hg,q⟩
 cases hg
 have hiσ:i < σ.length:=by rw [I.len]; exact(List.getElem?_eq_some_iff.mp hi).1
 refine DN hN hi hx hf pins s σ H v u Q I r (q _ (E.setV hiσ hd) fun j x e nv=>?_)
 rcases aY e with ⟨_,eq⟩ | ⟨ne,eq⟩
 ·cases eq; exact absurd rfl (nv _)
 ·exact⟨My (Ne.symm ne),eq⟩
abbrev Bj:=List D->aq->Option aq
def KO (K:Pa) (g:Bj):Fh:=fun vs σ H Q=>∃ O ρ ds ρ',dZ K O H ρ σ/\aW K (hid H O) ds vs/\g ds ρ=some ρ'/\∀ σ',dZ K O H ρ' σ'->(∀ (i:Nat) x,ρ'[i]?=some (some x)->(∀ d,x≠.val d)->σ'[i]?=σ[i]?/\ρ[i]?=some (some x))->Q σ' H
def HX (X:Cx) (ts:List QE) (g:Bj):Prop:=Iq X ts (KO X.K g)
def CC:Bj:=fun ds ρ=>match ds with
 | []=>some ρ
 | _=>none
def xY (g:GF) (h:Bj):Bj:=fun ds ρ=>match ds with
 | d::r=>(g d ρ).bind fun ρ1=>h r ρ1
 | _=>none
theorem Jn:HX X [] CC:=by
 intro pins s σ H vs us Q I r ⟨O,ρ,ds,ρ',E,hd,hg,q⟩
 cases ds with
 | nil =>
  cases hg
  rw [cT] at hd
  exact Ds pins s σ H vs us Q I r ⟨hd,q _ E fun i x e _=>⟨rfl,e⟩⟩
 | cons _ _=>cases hg
theorem HY {e:QE} {es:List QE} {g:GF} {h:Bj} (h1:FG X e g) (h2:HX X es h) (hs:(assignEach (e::es) X.env).map (·.2)=assign e X.env::(assignEach es X.env).map (·.2):=by rfl):HX X (e::es) (xY g h):=by
 intro pins s σ H vs us Q I r ⟨O,ρ,ds,ρ',E,hd,hg,q⟩
 cases ds with
 | nil=>cases hg
 | cons d ds =>
  obtain⟨ρ1,e1,e2⟩:=bind_some hg
  rw [bC] at hd
  obtain⟨v,vr,ev,d1,d2⟩:=hd
  exact BZ h1 h2 hs pins s σ H vs us Q I r ⟨v,vr,ev,O,ρ,d,ρ1,E,d1,e1,fun σ1 E1 k1=>⟨O,ρ1,ds,ρ',E1,d2,e2,fun σ2 E2 k2=>q σ2 E2 fun i x e nv=>by
   obtain⟨a1,a2⟩:=k2 i x e nv
   obtain⟨b1,b2⟩:=k1 i x a2 nv
   exact⟨a1.trans b1,b2⟩⟩⟩
def gT (n:Nat) (g:Bj):GF:=fun d ρ=>match d with
 | .tup xs=>if xs.length=n then g xs ρ else none
 | _=>none
theorem KH {es:List QE} {k:Nat} {g:Bj} {n:Nat} (hc:X.calm=true) (h:HX X es g) (hn:(assignEach es X.env).length=n:=by rfl) (hst:(assignEach es X.env).findIdx? (·.1)=none:=by rfl):FG X (.Tuple es k pos) (gT n g):=by
 intro pins s σ H v u Q I r ⟨O,ρ,d,ρ',E,hd,hg,q⟩
 cases d with
 | tup xs =>
  obtain⟨p,vs,ev,g1,g2⟩:=cC.mp hd
  have hg':(if xs.length=n then g xs ρ else none)=some ρ':=hg
  by_cases hl:xs.length=n
  ·rw [if_pos hl] at hg'
   exact Fz hc h hn hst pins s σ H v u Q I r ⟨p,vs,ev,bR (aC H O) g1,by rw [<- g2.length]; exact hl,O,ρ,xs,ρ',E,g2,hg',q⟩
  ·rw [if_neg hl] at hg'; cases hg'
 | _=>cases hg
end

def AI {α:Type} (r:R α):R α:=match r with
 | .ok a=>.ok a
 | .error _=>un
theorem C2 {α:Type} {r:R α} {a:α} (h:AI r=.ok a):r=.ok a:=by
 cases r with
 | ok b=>exact h
 | error z=>cases h
def inB (ix:List (Option Nat)) (ρ:aq):aq:=ix.map fun o=>match o with
 | some i=>match ρ[i]? with
  | some (some (.val d))=>some (.val d)
  | _=>none
 | none=>none
def xH (ρ:aq) (g:GF) (C:aq->R Bool) (Fe:FX):List D->R (List D)
 | []=>.ok []
 | d::ds=>(rO (g d ρ)).bind fun ρ1=>(AI (C ρ1)).bind fun c=>if c then (AI (Fe ρ1)).bind fun v=>(xH ρ g C Fe ds).bind fun r=>.ok (v::r) else xH ρ g C Fe ds
theorem jT (ρ:aq) (g:GF) (C:aq->R Bool) (Fe:FX) (d:D) (ds:List D):xH ρ g C Fe (d::ds)=(rO (g d ρ)).bind fun ρ1=>(AI (C ρ1)).bind fun c=>if c then (AI (Fe ρ1)).bind fun v=>(xH ρ g C Fe ds).bind fun r=>.ok (v::r) else xH ρ g C Fe ds:=rfl
def fY (ix:List (Option Nat)) (G:aq->R (List D)) (g:GF) (C:aq->R Bool) (Fe:FX):FX:=fun ρ=>(G ρ).bind fun ds=>if small ds.length then AI ((xH (inB ix ρ) g C Fe ds).bind fun r=>.ok (.lst r)) else un
def Jz (X:Cx) (ifs:List QE) (F:aq->R Bool):Prop:=FD X ifs (Jh X F)
def dE:aq->R Bool:=fun _=>.ok true
theorem JF {X:Cx}:Jz X [] dE:=fun pins s σ H Q I ⟨O,ρ,E,q⟩=>Ep pins s σ H Q I (q H (bo.refl H))
theorem JL {X:Cx} {c:QE} {F:aq->R Bool} (h:FT X c F):Jz X [c] F:=DR h
theorem nY {ix:List (Option Nat)} {ρ:aq} {j:Nat} {x:S} (e:(inB ix ρ)[j]?=some (some x)):∃ i d,ix[j]?=some (some i)/\ρ[i]?=some (some (.val d))/\x=.val d:=by
 unfold inB at e
 rw [MS] at e
 cases q:ix[j]? with
 | none=>rw [q] at e; cases e
 | some o =>
  rw [q] at e
  cases o with
  | none=>cases e
  | some i =>
   have e':(match ρ[i]? with | some (some (.val d))=>some (S.val d) | _=>none)=some x:=Option.some.inj e
   split at e'
   ·rename_i d hd
    cases e'
    exact⟨i,d,rfl,hd,rfl⟩
   ·cases e'
theorem DE {K:Pa} {O:List Qs} {H:Hp} {ρ:aq} {σ:St} (ix:List (Option Nat)) (E:dZ K O H ρ σ):dZ K O H (inB ix ρ) (inBlock ix σ):=by
 refine⟨fun j d e=>?_,fun j xs e=>?_,fun j k xs ys a e=>?_,E.all⟩
 ·obtain⟨i,d',q1,q2,q3⟩:=nY e
  cases q3
  obtain⟨v,e1,e2⟩:=E.val i d q2
  refine⟨v,?_,e2⟩
  unfold inBlock
  rw [MS,q1]
  show some ((σ[i]?).getD none)=some (some v)
  rw [e1]; rfl
 ·obtain⟨_,_,_,_,q3⟩:=nY e
  cases q3
 ·obtain⟨_,_,_,_,q3⟩:=nY e
  cases q3
theorem rK {H:Hp} {O:List Qs} {p:Qs} {o:HO} (hp:H p=none):bo (hid H O) (hid (upd H p o) (p::O)):=fun b u h=>by
 unfold hid at h ⊢
 by_cases hb:b∈O
 ·rw [if_pos hb] at h; cases h
 ·rw [if_neg hb] at h
  have ne:=aU h hp
  rw [if_neg (by intro z; rcases List.mem_cons.mp z with z | z; exact ne z; exact hb z),aD ne]; exact h
theorem dZ.hideNew {K:Pa} {O:List Qs} {H:Hp} {ρ:aq} {σ:St} {p:Qs} {o:HO} (m:qZ o) (E:dZ K O H ρ σ) (hp:H p=none):dZ K (p::O) (upd H p o) ρ σ:=by
 have s:bo (hid H O) (hid (upd H p o) (p::O)):=rK hp
 refine⟨fun i d e=>let ⟨v,a,b⟩:=E.val i d e; ⟨v,a,b.mono s⟩,fun i xs e=>?_,E.one,(E.all.same (bD hp o)).cons aM m⟩
 obtain⟨a,e1,e2,e3⟩:=E.own i xs e
 obtain⟨u,hu⟩:=e3.some
 exact⟨a,e1,Mv _ e2,e3.mono (by rw [aD (aU hu hp)]) s⟩
theorem dZ.rewrite {K:Pa} {O:List Qs} {H:Hp} {ρ:aq} {σ:St} {p:Qs} {o:HO} (m:qZ o) (E:dZ K O H ρ σ) (hp:p∈O) (hs:∀ (i:Nat) xs,ρ[i]?=some (some (.own xs))->σ[i]?≠some (some (.ref p))):dZ K O (upd H p o) ρ σ:=by
 have s:bo (hid H O) (hid (upd H p o) O):=gJ hp
 refine⟨fun i d e=>let ⟨v,a,b⟩:=E.val i d e; ⟨v,a,b.mono s⟩,fun i xs e=>?_,E.one,E.all.upd hp m⟩
 obtain⟨a,e1,e2,e3⟩:=E.own i xs e
 have ne:a≠p:=fun z=>hs i xs e (by rw [<- z]; exact e1)
 exact⟨a,e1,e2,e3.mono (by rw [aD ne]) s⟩
theorem dZ.forget {K:Pa} {O:List Qs} {H:Hp} {ρ ρ':aq} {σ:St} (E:dZ K O H ρ σ) (h:∀ (i:Nat) x,ρ'[i]?=some (some x)->ρ[i]?=some (some x)):dZ K O H ρ' σ :=
 ⟨fun i d e=>E.val i d (h i _ e),fun i xs e=>E.own i xs (h i _ e),fun i j xs ys a e1 e2=>E.one i j xs ys a (h i _ e1) (h j _ e2),E.all⟩

def Fills (ρ:aq) (g:GF):Prop:=∀ d ρ1,g d ρ=some ρ1->∀ (i:Nat) x,ρ[i]?=some (some x)->ρ1[i]?=some (some x)
theorem tR (ix:List (Option Nat)) (ρ:aq):∀ (i:Nat) xs,(inB ix ρ)[i]?≠some (some (.own xs)):=by
 intro j xs e
 obtain⟨_,_,_,_,q3⟩:=nY e
 cases q3
theorem HI {α:Type} {o:Option α} {a:α} (h:rO o=.ok a):o=some a:=by
 cases o with
 | none=>cases h
 | some b=>cases h; rfl

end TG
namespace TG
open PySem PySem.Spec L2
variable [aR]

section
variable {X:Cx} {elt tg iter:QE} {ifs:List QE} {scope:QC} {pos:Pos} {N:List Str} {ix:List (Option Nat)} {G:aq->R (List D)} {g:GF} {C:aq->R Bool} {Fe:FX}
structure qj (ix:List (Option Nat)) (g:GF):Prop where
 fill:∀ ρ,Fills (inB ix ρ) g
 own:∀ ρ d ρ1,g d (inB ix ρ)=some ρ1->∀ (i:Nat) xs,ρ1[i]?≠some (some (.own xs))
theorem wV {ρ:aq} {i:Nat} (h:ix[i]?=some none):∀ x,(inB ix ρ)[i]?≠some (some x):=fun x e=>by
 obtain⟨_,_,q,_⟩:=nY e
 rw [h] at q; cases q
theorem bP {i:Nat} (h:ix[i]?=some none):qj ix (gN i) :=
  ⟨fun ρ d ρ1 e j x q=>by
    cases e
    by_cases z:j=i
    · subst z; exact absurd q (wV h x)
    · unfold setV; rw [My (Ne.symm z)]; exact q,
   fun ρ d ρ1 e j xs q=>by
    cases e
    rcases aY q with ⟨_,z⟩ | ⟨_,z⟩
    · cases z
    · exact tR ix ρ j xs z⟩
def Dr (ix:List (Option Nat)) (is:List Nat):Bool:=is.all fun i=>match ix[i]? with
 | some none=>true
 | _=>false
def oH:List Nat->Bj
 | []=>CC
 | i::is=>xY (gN i) (oH is)
theorem zz:∀ (is:List Nat) (ds:List D) (ρ ρ1:aq),oH is ds ρ=some ρ1->∀ (k:Nat) (x:S),ρ1[k]?=some (some x)->(k∈is/\∃ d,x=.val d)\/ρ[k]?=some (some x)
 | [],ds,ρ,ρ1,h,k,x,e=>by
  cases ds with
  | nil=>cases h; exact .inr e
  | cons _ _=>cases h
 | i::is,ds,ρ,ρ1,h,k,x,e=>by
  cases ds with
  | nil=>cases h
  | cons d ds =>
   rcases zz is ds (setV i d ρ) ρ1 h k x e with ⟨a,b⟩ | q
   ·exact .inl ⟨Mv _ a,b⟩
   ·rcases aY q with ⟨z,w⟩ | ⟨_,w⟩
    ·exact .inl ⟨by rw [z]; exact Mu,d,Option.some.inj w⟩
    ·exact .inr w
theorem xg:∀ (is:List Nat) (ds:List D) (ρ ρ1:aq),oH is ds ρ=some ρ1->∀ (k:Nat) (x:S),k∉is->ρ[k]?=some (some x)->ρ1[k]?=some (some x)
 | [],ds,ρ,ρ1,h,k,x,_,e=>by
  cases ds with
  | nil=>cases h; exact e
  | cons _ _=>cases h
 | i::is,ds,ρ,ρ1,h,k,x,n,e=>by
  cases ds with
  | nil=>cases h
  | cons d ds =>
   refine xg is ds (setV i d ρ) ρ1 h k x (fun z=>n (Mv _ z)) ?_
   unfold setV
   rw [My (fun z=>n (by rw [z]; exact Mu))]; exact e
theorem iJ {is:List Nat} {n:Nat} (h:Dr ix is=true):qj ix (gT n (oH is)):=by
 have hn:∀ i∈is,ix[i]?=some none:=fun i hi=>by
  have:=List.all_eq_true.mp h i hi
  cases e:ix[i]? with
  | none=>rw [e] at this; cases this
  | some o=>cases o with
   | none=>rfl
   | some _=>rw [e] at this; cases this
 have shape:∀ ρ d ρ1,gT n (oH is) d ρ=some ρ1->∃ ds,oH is ds ρ=some ρ1:=fun ρ d ρ1 e=>by
  cases d with
  | tup xs =>
   have e':(if xs.length=n then oH is xs ρ else none)=some ρ1:=e
   by_cases hl:xs.length=n
   ·rw [if_pos hl] at e'; exact⟨xs,e'⟩
   ·rw [if_neg hl] at e'; cases e'
  | _=>cases e
 refine⟨fun ρ d ρ1 e k x q=>?_,fun ρ d ρ1 e k xs q=>?_⟩
 ·obtain⟨ds,e⟩:=shape _ d ρ1 e
  exact xg is ds _ ρ1 e k x (fun z=>wV (hn k z) x q) q
 ·obtain⟨ds,e⟩:=shape _ d ρ1 e
  rcases zz is ds _ ρ1 e k _ q with ⟨_,d,z⟩ | z
  ·cases z
  ·exact tR ix ρ k xs z
structure ie (X:Cx) (scope:QC) (N:List Str) (ix:List (Option Nat)):Prop where
 cell:∀ y∈scope.names,y.2≠.cell
 kind:scope.kind=.function
 names:∀ y∈scope.names,y.2=.local->scope.names.lookup y.1=some .local
 free:∀ y∈scope.names,y.2=.free->X.env.scope.names.lookup y.1=some .cell\/X.env.scope.names.lookup y.1=some .free
 ix:vi X.N N scope.names ix=true
def zA (XS:List (Str×Q4)) (XN:List Str) (scope:QC) (N:List Str) (ix:List (Option Nat)):Bool :=
 scope.names.all (fun y=>decide (y.2≠.cell)) && decide (scope.kind=.function) && scope.names.all (fun y=>decide (y.2≠.local) || decide (scope.names.lookup y.1=some .local)) &&
  scope.names.all (fun y=>decide (y.2≠.free) || (decide (XS.lookup y.1=some .cell) || decide (XS.lookup y.1=some .free))) && vi XN N scope.names ix
theorem ie.of (h:zA X.env.scope.names X.N scope N ix=true):ie X scope N ix:=by
 unfold zA at h
 simp only [MZ] at h
 obtain⟨⟨⟨⟨h1,h2⟩,h3⟩,h4⟩,h5⟩:=h
 refine⟨fun y hy=>of_decide_eq_true (List.all_eq_true.mp h1 y hy),of_decide_eq_true h2,fun y hy e=>?_,fun y hy e=>?_,h5⟩
 ·rcases Nv _ _ ▸ List.all_eq_true.mp h3 y hy with q | q
  ·exact absurd e (of_decide_eq_true q)
  ·exact of_decide_eq_true q
 ·rcases Nv _ _ ▸ List.all_eq_true.mp h4 y hy with q | q
  ·exact absurd e (of_decide_eq_true q)
  ·rcases Nv _ _ ▸ q with q | q
   ·exact .inl (of_decide_eq_true q)
   ·exact .inr (of_decide_eq_true q)
def Hs (X:Cx) (scope:QC) (N:List Str) (tg elt:QE) (ifs:List QE) (g:GF) (C:aq->R Bool) (Fe:FX):Prop :=
 ∀ cl C' fp s H E,FG (cE X scope N cl C' fp s H E) tg g/\Jz (cE X scope N cl C' fp s H E) ifs C/\FE (cE X scope N cl C' fp s H E) elt Fe
def He (K:Pa) (F:aq->R Bool):TT:=fun σ H Q=>∃ O ρ b,dZ K O H ρ σ/\F ρ=.ok b/\∀ H',bo H H'->Q b H'
def Lh (K:Pa) (F:FX):TE:=fun σ H Q=>∃ O ρ d,dZ K O H ρ σ/\F ρ=.ok d/\∀ v H',bo H H'->cK K (hid H' O) d v->Q v H'
theorem Hs.k (hb:Hs X scope N tg elt ifs g C Fe):∀ cl C' fp s H E,PG (cE X scope N cl C' fp s H E) tg (Jx X.K g)/\FD (cE X scope N cl C' fp s H E) ifs (He X.K C)/\PE (cE X scope N cl C' fp s H E) elt (Lh X.K Fe):=fun cl C' fp s H E=>by
 obtain⟨h1,h2,h3⟩:=hb cl C' fp s H E
 refine⟨h1,fun pins s σ H Q I ⟨O,ρ,b,e1,e2,q⟩=>h2 pins s σ H Q I ⟨O,ρ,e1,by rw [e2]; exact q⟩,fun pins s σ H Q I ⟨O,ρ,d,e1,e2,q⟩=>h3 pins s σ H Q I ⟨O,ρ,e1,by rw [e2]; exact q⟩⟩
def K1 (X:Cx) (F:FX):TE:=fun σ H Q=>∃ O ρ,dZ X.K O H ρ σ/\iU X σ O H (F ρ) fun d=>∀ D H' total acc,d=.lst total->bo H H'->H D=none->H' D=some (.lst acc)->aW X.K (hid H' (D::O)) total acc->Q (.ref D) H'
theorem Kt {F:FX}:∀ σ H Q,tF X F σ H Q->K1 X F σ H Q:=fun σ H Q ⟨O,ρ,E,hF⟩=>⟨O,ρ,E,hF.imp fun d q D H' total acc e sm hD hD' dn=>by
 subst e
 have DO:D∉O:=E.all.not hD
 exact q _ H' sm (cD.mpr ⟨D,acc,rfl,nV.of (by rw [jj DO]; exact hD'),dn.mono (gL fun a ha=>Mv _ ha)⟩)⟩
theorem BM (tk:qj ix g):∀ σ H Q,K1 X (fY ix G g C Fe) σ H Q->JO (JT X G) (Jx X.K g) (He X.K C) (Lh X.K Fe) ix σ H Q:=fun σ H Q ⟨O,ρ,E,hF⟩=>by
 refine⟨O,ρ,E,(iU.bind hF).imp fun ds hF=>?_⟩
 have hz:small ds.length=true:=by
  cases e:small ds.length with
  | true=>rfl
  | false=>rw [e] at hF; exact hF.elim
 rw [hz,if_pos rfl] at hF
 cases hL:xH (inB ix ρ) g C Fe ds with
 | error z=>rw [hL] at hF; exact hF.elim
 | ok total =>
 rw [hL] at hF
 have q:∀ D H' total' acc,TG.D.lst total=.lst total'->bo H H'->H D=none->H' D=some (.lst acc)->aW X.K (hid H' (D::O)) total' acc->Q (.ref D) H':=hF
 have e2:=hL
 have hfill:=tk.fill
 have hown:=tk.own
 refine fun J H1 s1 wk D hD=>?_
 have E1:dZ X.K (D::O) (upd H1 D (.lst [])) (inB ix ρ) (inBlock ix σ):=((DE ix E).same s1).hideNew trivial hD
 have DO:D∉O:=(E.all.same s1).not hD
 refine⟨fun i m σ' H'=>m=ds.length - i/\i<=ds.length/\bo H1 H'/\dZ X.K (D::O) H' (inB ix ρ) σ'/\∃ acc dn rest,H' D=some (.lst acc)/\acc.length<=i/\aW X.K (hid H' (D::O)) dn acc/\xH (inB ix ρ) g C Fe (ds.drop i)=.ok rest/\dn++rest=total,
  ⟨ds.length,by rw [NC],MK _,bD hD _,E1,[],[],total,aM,MA _,cT.mpr rfl,by rw [Nm]; exact e2,rfl⟩,?_⟩
 rintro i m σ' H' ⟨rfl,hi,sm,E',acc,dn,rest,hacc,hlen,hdn,hrest,htot⟩
 have sH:bo (hid H1 O) (hid H' (D::O)):=fun b o h=>by
  have h2:=sm b o (aC H1 O b o h)
  unfold hid at h ⊢
  by_cases hb:b∈O
  ·rw [if_pos hb] at h; cases h
  ·rw [if_neg hb] at h
   have ne:b≠D:=aU h hD
   rw [if_neg (by intro z; rcases List.mem_cons.mp z with z | z; exact ne z; exact hb z)]; exact h2
 by_cases hlt:i < ds.length
 ·right
  obtain⟨go,yl⟩:=(wk H' (D::O) i E'.all sH).1 ds[i] (by simp [hlt])
  refine⟨go,fun x H2 y=>?_⟩
  obtain⟨s2,dx'⟩:=yl x H2 y
  have E':=E'.same s2
  have sm:=sm.trans s2
  have hacc:=s2 _ _ hacc
  have hdn:=hdn.mono (bT s2)
  rw [NE hlt,jT] at hrest
  obtain⟨ρ1,g1,hrest⟩:=qH hrest
  have g1:=HI g1
  obtain⟨c,c1,hrest⟩:=qH hrest
  have c1:=C2 c1
  refine⟨D::O,inB ix ρ,ds[i],ρ1,E',dx',g1,fun σ3 E3 _=>?_⟩
  refine⟨D::O,ρ1,c,E3,c1,fun H4 s4=>?_⟩
  have E4:=E3.same s4
  have back:∀ {H5:Hp},dZ X.K (D::O) H5 ρ1 σ3->dZ X.K (D::O) H5 (inB ix ρ) σ3:=fun z=>z.forget fun j x e=>hfill ρ _ _ g1 j x e
  cases c with
  | true =>
   refine Cq ?_
   rw [if_pos rfl] at hrest
   obtain⟨v,v1,hrest⟩:=qH hrest
   have v1:=C2 v1
   obtain⟨r,r1,hrest⟩:=qH hrest
   cases hrest
   refine⟨D::O,ρ1,v,E4,v1,fun w H5 s5 dw=>?_⟩
   have s45:=s4.trans s5
   have ha5:H5 D=some (.lst acc):=s45 _ _ hacc
   have hzl:ds.length < Qv:=NF (of_decide_eq_true hz) (by decide)
   refine⟨acc,ha5,by omega,ds.length - (i+1),by omega,rfl,hlt,?_,?_,acc++[w],dn++[v],r,aM,by rw [MV,M1]; omega,?_,r1,by rw [NI]; exact htot⟩
   ·intro b o h
    rw [aD (aU h hD)]; exact s45 _ _ (sm _ _ h)
   ·exact back ((E3.same s45).rewrite trivial Mu fun j xs e=>absurd e (hown ρ _ _ g1 j xs))
   ·have s6:bo (hid H5 (D::O)) (hid (upd H5 D (.lst (acc++[w]))) (D::O)):=gJ Mu
    exact(hdn.mono ((bT s45).trans s6)).snoc (dw.mono s6)
  | false =>
   refine Dh ?_
   rw [if_neg MF] at hrest
   exact⟨ds.length - (i+1),by omega,rfl,hlt,sm.trans s4,back E4,acc,dn,rest,s4 _ _ hacc,by omega,hdn.mono (bT s4),hrest,htot⟩
 ·left
  have ei:i=ds.length:=by omega
  subst ei
  refine⟨(wk H' (D::O) ds.length E'.all sH).2 rfl,?_⟩
  rw [NK] at hrest
  cases hrest
  rw [ML] at htot
  subst htot
  exact q D H' _ acc rfl (s1.trans sm) (s1.free hD) hacc hdn
theorem Fg (tk:qj ix g):∀ σ H Q,tF X (fY ix G g C Fe) σ H Q->JO (JT X G) (Jx X.K g) (He X.K C) (Lh X.K Fe) ix σ H Q:=fun σ H Q h=>BM tk σ H Q (Kt σ H Q h)
theorem LK (hc:X.calm=true) (ok:ie X scope N ix) (tk:qj ix g) (hi:FI X tg iter G) (hb:Hs X scope N tg elt ifs g C Fe)
  (hs:∀ x,QP iter X.env x=pure x:=by intro _; rfl):FE X (.ListComp elt [⟨tg,iter,ifs,0⟩] scope pos) (fY ix G g C Fe) :=
 PE.weak (Fs hc ok.cell ok.kind ok.names ok.free ok.ix hi hb.k hs) (Fg tk)
end

structure Ks where
 nx:aq->R D
 bk:aq->R D:=fun _=>un
 ct:aq->R D:=fun _=>un
 ex:Ex->aq->R D:=fun x _=>.error (some x)
abbrev cB:=Ks->aq->R D
def sM {α:Type} (r:R α) (k:Ks) (ρ:aq) (f:α->R D):R D:=match r with
 | .ok a=>f a
 | .error (some x)=>k.ex x ρ
 | .error none=>un
structure Base (Hb:Hp) (Ob:List Qs) (H:Hp) (O:List Qs):Prop where
 same:bo Hb H
 sub:∀ a∈Ob,a∈O
 new:∀ a∈O,a∈Ob\/Hb a=none
def lK (K:Pa) (H:Hp) (O:List Qs):List Qs->List D->Prop
 | [],[]=>True
 | b::bs,x::xs=>dq K H O b x/\lK K H O bs xs
 | _,_=>False
def wG (K:Pa) (H:Hp) (O:List Qs) (a:Qs) (bs:List Qs) (d:D):Prop :=
 ∃ xs,lK K H O bs xs/\((d=.lst xs/\H a=some (.lst (bs.map .ref)))\/(∃ kvs:List (List Key×V),d=.dct (kvs.map fun p=>.tup (p.1.map bu)) xs/\H a=some (.dT kvs)/\kvs.map (·.2)=bs.map .ref)\/(d=.dct [] xs/\bs=[]/\H a=some (.dK [])))
def zK (K:Pa) (Hb:Hp) (Ob O:List Qs) (H:Hp) (ρ:aq) (σ:St) (i:Nat) (d:D):Prop :=
 ∃ a bs,σ[i]?=some (some (.ref a))/\wG K H O a bs d/\(a::bs).Nodup/\(∀ b∈a::bs,b∈O/\Hb b=none/\b∉Ob/\∀ (j:Nat) d',ρ[j]?=some (some (.own d'))->σ[j]?≠some (some (.ref b)))/\∀ (j:Nat) d',ρ[j]?=some (some (.nest d'))->j=i
theorem lK.mono {K:Pa} {H H':Hp} {O O':List Qs} (s:bo (hid H O) (hid H' O')):∀ {bs:List Qs} {xs:List D},lK K H O bs xs->(∀ b∈bs,(∃ o,H b=some o)->H' b=H b)->lK K H' O' bs xs
 | [],[],_,_=>trivial
 | b::bs,x::xs,h,e=>⟨h.1.mono (e b Mu h.1.some).symm s,lK.mono s h.2 fun b' hb=>e b' (Mv _ hb)⟩
 | [],_::_,h,_=>h.elim
 | _::_,[],h,_=>h.elim
theorem lK.some {K:Pa} {H:Hp} {O:List Qs}:∀ {bs:List Qs} {xs:List D},lK K H O bs xs->∀ b∈bs,∃ o,H b=some o
 | [],_,_,_,hb=>nomatch hb
 | b::bs,x::xs,h,b',hb=>by
  rcases List.mem_cons.mp hb with z | z
  ·rw [z]; exact h.1.some
  ·exact lK.some h.2 b' z
 | _::_,[],h,_,_=>h.elim
theorem wG.some {K:Pa} {H:Hp} {O:List Qs} {a:Qs} {bs:List Qs} {d:D} (h:wG K H O a bs d):∀ b∈a::bs,∃ o,H b=some o:=fun b hb=>by
 obtain⟨xs,h1,h2⟩:=h
 rcases List.mem_cons.mp hb with z | z
 ·rw [z]
  rcases h2 with ⟨_,q⟩ | ⟨_,_,q,_⟩ | ⟨_,_,q⟩ <;> exact⟨_,q⟩
 ·exact h1.some b z
theorem wG.mono {K:Pa} {H H':Hp} {O O':List Qs} {a:Qs} {bs:List Qs} {d:D} (h:wG K H O a bs d) (s:bo (hid H O) (hid H' O')) (e:∀ b∈a::bs,(∃ o,H b=Option.some o)->H' b=H b):wG K H' O' a bs d:=by
 have ea:=e a Mu (h.some a Mu)
 obtain⟨xs,h1,h2⟩:=h
 refine⟨xs,h1.mono s fun b hb=>e b (Mv _ hb),?_⟩
 rw [ea]; exact h2
theorem zK.to {K:Pa} {Hb Hb':Hp} {Ob O O':List Qs} {H H':Hp} {ρ ρ':aq} {σ σ':St} {i:Nat} {d:D} (h:zK K Hb Ob O H ρ σ i d) (hσ:σ'[i]?=σ[i]?) (s:bo (hid H O) (hid H' O'))
  (k:∀ b,b∈O->Hb b=none->b∉Ob->(∀ (j:Nat) d',ρ[j]?=some (some (.own d'))->σ[j]?≠some (some (.ref b)))->(∃ o,H b=some o)->H' b=H b/\b∈O'/\Hb' b=none/\∀ (j:Nat) d',ρ'[j]?=some (some (.own d'))->σ'[j]?≠some (some (.ref b)))
  (n:∀ (j:Nat) d',ρ'[j]?=some (some (.nest d'))->∃ d2,ρ[j]?=some (some (.nest d2))):zK K Hb' Ob O' H' ρ' σ' i d:=by
 obtain⟨a,bs,h1,h2,h3,h4,h5⟩:=h
 refine⟨a,bs,hσ.trans h1,h2.mono s fun b hb ho=>?_,h3,fun b hb=>?_,fun j d' q=>?_⟩
 ·obtain⟨q1,q2,q3,q4⟩:=h4 b hb
  exact(k b q1 q2 q3 q4 ho).1
 ·obtain⟨q1,q2,q3,q4⟩:=h4 b hb
  obtain⟨_,w2,w3,w4⟩:=k b q1 q2 q3 q4 (h2.some b hb)
  exact⟨w2,w3,q3,w4⟩
 ·obtain⟨d2,q⟩:=n j d' q
  exact h5 j d2 q
structure eR (K:Pa) (Hb:Hp) (Ob O:List Qs) (H:Hp) (ρ:aq) (σ:St):Prop where
 env:dZ K O H ρ σ
 base:Base Hb Ob H O
 mine:∀ (i:Nat) xs a,ρ[i]?=some (some (.own xs))->σ[i]?=some (some (.ref a))->Hb a=none/\a∉Ob
 nst:∀ (i:Nat) d,ρ[i]?=some (some (.nest d))->zK K Hb Ob O H ρ σ i d
theorem Base.same' {Hb:Hp} {Ob:List Qs} {H H':Hp} {O:List Qs} (b:Base Hb Ob H O) (s:bo H H'):Base Hb Ob H' O:=⟨b.same.trans s,b.sub,b.new⟩
theorem eR.same {K:Pa} {Hb:Hp} {Ob O:List Qs} {H H':Hp} {ρ:aq} {σ:St} (h:eR K Hb Ob O H ρ σ) (s:bo H H'):eR K Hb Ob O H' ρ σ:=⟨h.env.same s,h.base.same' s,h.mine,fun i d q=>(h.nst i d q).to rfl (bT s) (fun b q1 q2 q3 q4 ⟨o,ho⟩=>⟨by rw [ho,s _ _ ho],q1,q2,q4⟩) fun j d' z=>⟨d',z⟩⟩
theorem eR.after {K:Pa} {Hb:Hp} {Ob O:List Qs} {H:Hp} {ρ ρ':aq} {σ σ':St} (S:eR K Hb Ob O H ρ σ) (E':dZ K O H ρ' σ') (own:∀ (i:Nat) x,ρ'[i]?=some (some x)->(∀ d,x≠.val d)->σ'[i]?=σ[i]?/\ρ[i]?=some (some x)):eR K Hb Ob O H ρ' σ' :=
 ⟨E',S.base,fun i xs a q1 q2=>by
  obtain⟨w1,w2⟩:=own i _ q1 (fun _ z=>nomatch z)
  rw [w1] at q2
  exact S.mine i xs a w2 q2,fun i d q=>by
  obtain⟨w1,w2⟩:=own i _ q (fun _ z=>nomatch z)
  refine(S.nst i d w2).to w1 (fun _ _ z=>z) (fun b q1 q2 q3 q4 _=>⟨rfl,q1,q2,fun l d' w=>?_⟩) fun l d' w=>⟨d',(own l _ w (fun _ z=>nomatch z)).2⟩
  obtain⟨z1,z2⟩:=own l _ w (fun _ z=>nomatch z)
  rw [z1]; exact q4 l d' z2⟩
structure Jk (X:Cx) (Hb:Hp) (Ob:List Qs) (E:Ends) (k:Ks) (r:R D):Prop where
 ne:r≠un
 nx:∀ O ρ σ H,eR X.K Hb Ob O H ρ σ->k.nx ρ=r->E.nx σ H
 bk:∀ O ρ σ H,eR X.K Hb Ob O H ρ σ->k.bk ρ=r->E.bk σ H
 ct:∀ O ρ σ H,eR X.K Hb Ob O H ρ σ->k.ct ρ=r->E.ct σ H
 rt:∀ d O v H,r=.ok d->Base Hb Ob H O->cK X.K (hid H O) d v->E.rt v H
 ex:∀ O ρ σ H x,eR X.K Hb Ob O H ρ σ->k.ex x ρ=r->Hw X σ O H x
def LA (X:Cx) (Hb:Hp) (Ob:List Qs) (F:cB):TS:=fun E σ H=>∃ O ρ k r,eR X.K Hb Ob O H ρ σ/\F k ρ=r/\Jk X Hb Ob E k r
def FS (X:Cx) (st:QG) (F:cB):Prop:=∀ Hb Ob,PS X st (LA X Hb Ob F)
def xG (X:Cx) (st:List QG) (F:cB):Prop:=∀ Hb Ob,xx X st (LA X Hb Ob F)
theorem iU.on {X:Cx} {Hb:Hp} {Ob O:List Qs} {H:Hp} {ρ:aq} {σ:St} {E:Ends} {k:Ks} {r:R D} {α:Type} {fr:R α} {G:α->R D} {Q:α->Prop} (h:sM fr k ρ G=r) (hk:Jk X Hb Ob E k r) (S:eR X.K Hb Ob O H ρ σ) (q:∀ a,G a=r->Q a):iU X σ O H fr Q:=by
 match fr,h with
 | .ok a,h=>exact q a h
 | .error (some x),h=>exact hk.ex O ρ σ H x S h
 | .error none,h=>exact absurd h.symm hk.ne
section
variable {X:Cx} {st:QG} {rest body:List QG} {pos:Pos}
def cX:cB:=fun k ρ=>k.nx ρ
def aK (F1 F2:cB):cB:=fun k ρ=>F1 { k with nx:=F2 k } ρ
theorem Jo:xG X [] cX:=fun Hb Ob=>xx.weak D9 fun E σ H ⟨O,ρ,k,r,S,hF,hk⟩=>hk.nx O ρ σ H S hF
theorem HA {F1 F2:cB} (h1:FS X st F1) (h2:xG X rest F2):xG X (st::rest) (aK F1 F2):=fun Hb Ob=>xx.weak (C6 (h1 Hb Ob) (h2 Hb Ob)) fun E σ H ⟨O,ρ,k,r,S,hF,hk⟩ =>
 ⟨O,ρ,{ k with nx:=F2 k },r,S,hF,hk.ne,fun O' ρ' σ' H' S' e=>⟨O',ρ',k,r,S',e,hk⟩,hk.bk,hk.ct,hk.rt,hk.ex⟩
theorem Jl {F1:cB} (h1:FS X st F1):xG X [st] F1:=fun Hb Ob=>zh (h1 Hb Ob)
def ce (f:FX):cB:=fun k ρ=>sM (f ρ) k ρ .ok
theorem KY {e:QE} {f:FX} (h:FE X e f):FS X (.Return (some e) pos) (ce f):=fun Hb Ob=>PS.weak (Gh h) fun E σ H ⟨O,ρ,k,r,S,hF,hk⟩ =>
 ⟨O,ρ,S.env,iU.on hF hk S fun d e v H' s' d'=>hk.rt d O v H' e.symm (S.base.same' s') d'⟩
def Ig:cB:=fun _ _=>.ok .non
def ng (c:aq->R Bool) (A B:cB):cB:=fun k ρ=>sM (c ρ) k ρ fun b=>if b then A k ρ else B k ρ
theorem LY {c:QE} {a b:List QG} {tc:aq->R Bool} {A B:cB} (hc:FT X c tc) (ha:xG X a A) (hb:xG X b B):FS X (.If c a b pos) (ng tc A B):=fun Hb Ob=>PS.weak (IG hc (ha Hb Ob) (hb Hb Ob)) fun E σ H ⟨O,ρ,k,r,S,hF,hk⟩ =>
 ⟨O,ρ,S.env,iU.on hF hk S fun z e H1 s1=>by
  cases z with
  | true=>exact Cq ⟨O,ρ,k,r,S.same s1,e,hk⟩
  | false=>exact Dh ⟨O,ρ,k,r,S.same s1,e,hk⟩⟩
def bM (i:Nat) (f:FX):cB:=fun k ρ=>sM (f ρ) k ρ fun d=>k.nx (setV i d ρ)
theorem eR.setV {K:Pa} {Hb:Hp} {Ob O:List Qs} {H:Hp} {ρ:aq} {σ:St} (E:eR K Hb Ob O H ρ σ) {i:Nat} {d:D} {v:V} (hi:i < σ.length) (hd:cK K (hid H O) d v):eR K Hb Ob O H (setV i d ρ) (σ.set i (some v)) :=
  ⟨E.env.setV hi hd,E.base,fun j xs a e1 e2=>by
    rcases aY e1 with ⟨_,q⟩ | ⟨ne,q⟩
    · cases q
    · rw [My (Ne.symm ne)] at e2
      exact E.mine j xs a q e2,
   fun j dn e=>by
    rcases aY e with ⟨_,q⟩ | ⟨ne,q⟩
    · cases q
    · refine(E.nst j dn q).to (My (Ne.symm ne)) (fun _ _ z=>z) (fun b q1 q2 q3 q4 _=>⟨rfl,q1,q2,fun l d' w=>?_⟩) fun l d' w=>?_
      · rcases aY w with ⟨_,z⟩ | ⟨nl,z⟩
        · cases z
        · rw [My (Ne.symm nl)]; exact q4 l d' z
      · rcases aY w with ⟨_,z⟩ | ⟨_,z⟩
        · cases z
        · exact⟨d',z⟩⟩
theorem uA {f:FX} {i:Nat} (hi:i < X.N.length) (h:PS X st (EL (tF X f) (uk i))):FS X st (bM i f):=fun Hb Ob pins s σ H E I ⟨O,ρ,k,r,S,hF,hk⟩ =>
 h pins s σ H E I ⟨O,ρ,S.env,iU.on hF hk S fun d e v H1 s1 d1=>hk.nx O _ _ H1 ((S.same s1).setV (by rw [I.len]; exact hi) d1) e⟩
theorem Ly {i:Nat} {x:Str} {e:QE} {f:FX} {pos':Pos} (hN:X.N.Nodup) (hi:X.N[i]?=some x) (hx:Loc X.env.scope x) (he:FE X e f) (hs:swapsWith e (some (.Name x pos')) pos.line X.env=pure false:=by rfl) (hf:X.fn x=true\/X.env.scope.names.lookup x=some .local:=by first | exact .inl rfl | exact .inr rfl | assumption) :
  FS X (.Assign [.Name x pos'] e pos) (bM i f):=uA (List.getElem?_eq_some_iff.mp hi).1 (xV hN hi hx he hs hf)
theorem LX {elt tg iter:QE} {ifs:List QE} {scope:QC} {N:List Str} {ix:List (Option Nat)} {G:aq->R (List D)} {g:GF} {C:aq->R Bool} {Fe:FX} {i:Nat} {y:Str} {lpos py spos:Pos} (hN:X.N.Nodup) (hi':X.N[i]?=some y) (hx:Loc X.env.scope y)
  (hc:X.calm=true) (ok:ie X scope N ix) (tk:qj ix g) (hi:FI X tg iter G) (hb:Hs X scope N tg elt ifs g C Fe)
  (hsw:swapsWith (.ListComp elt [⟨tg,iter,ifs,0⟩] scope lpos) (some (.Name y py)) spos.line X.env=pure true:=by rfl)
  (hs:∀ x,QP iter X.env x=pure x:=by intro _; rfl)
  (hf:X.fn y=true\/X.env.scope.names.lookup y=some .local:=by first | exact .inl rfl | exact .inr rfl | assumption) :
  FS X (.Assign [.Name y py] (.ListComp elt [⟨tg,iter,ifs,0⟩] scope lpos) spos) (bM i (fY ix G g C Fe)) :=
 uA (List.getElem?_eq_some_iff.mp hi').1 (PS.weak (Fl hN hi' hx hc ok.cell ok.kind ok.names ok.free ok.ix hi hb.k hsw hs hf) fun E σ H q=>Fg tk σ H _ q)
def kill (is:List Nat) (ρ:aq):aq:=is.foldl (fun ρ i=>ρ.set i none) ρ
theorem jJ:∀ (is:List Nat) (ρ:aq) (i:Nat) (x:S),(kill is ρ)[i]?=some (some x)->ρ[i]?=some (some x)
 | [],ρ,i,x,e=>e
 | j::is,ρ,i,x,e=>by
  rcases aY (jJ is (ρ.set j none) i x e) with ⟨_,q⟩ | ⟨_,q⟩
  ·cases q
  ·exact q
theorem eR.kill {K:Pa} {Hb:Hp} {Ob O:List Qs} {H:Hp} {ρ:aq} {σ:St} (E:eR K Hb Ob O H ρ σ) (is:List Nat):eR K Hb Ob O H (kill is ρ) σ :=
 ⟨E.env.forget (jJ is ρ),E.base,fun i xs a e1 e2=>E.mine i xs a (jJ is ρ i _ e1) e2,fun i d q=>(E.nst i d (jJ is ρ i _ q)).to rfl (fun _ _ z=>z) (fun b q1 q2 q3 q4 _=>⟨rfl,q1,q2,fun l d' w=>q4 l d' (jJ is ρ l _ w)⟩) fun l d' w=>⟨d',jJ is ρ l _ w⟩⟩
def fJ (is:List Nat) (F:cB):cB:=fun k ρ=>F k (kill is ρ)
theorem HV {st:List QG} {F:cB} (is:List Nat) (h:xG X st F):xG X st (fJ is F):=fun Hb Ob=>xx.weak (h Hb Ob) fun E σ H ⟨O,ρ,k,r,S,hF,hk⟩=>⟨O,TG.kill is ρ,k,r,S.kill is,hF,hk⟩
end
def kN (g:GF) (B:cB) (k:Ks):List D->aq->R D
 | [],ρ=>k.nx ρ
 | d::ds,ρ=>(rO (g d ρ)).bind fun ρ1=>B ⟨kN g B k ds,k.nx,kN g B k ds,k.ex⟩ ρ1
def ky (G:aq->R (List D)) (g:GF) (B:cB):cB:=fun k ρ=>sM (G ρ) k ρ fun ds=>kN g B k ds ρ
def lb (H:Hp) (O Ob:List Qs):Hp:=fun b=>if b∈O/\b∉Ob then none else H b
theorem vf {H:Hp} {O Ob:List Qs} {b:Qs} (h1:b∈O) (h2:b∉Ob):lb H O Ob b=none:=by unfold lb; rw [if_pos ⟨h1,h2⟩]
theorem EA {H:Hp} {O Ob:List Qs} {b:Qs} {o:HO} (h:lb H O Ob b=some o):H b=some o/\¬ (b∈O/\b∉Ob):=by
 unfold lb at h
 split at h
 ·cases h
 ·rename_i n; exact⟨h,n⟩
theorem Di {H:Hp} {O Ob:List Qs} {b:Qs} {o:HO} (h:H b=some o) (n:¬ (b∈O/\b∉Ob)):lb H O Ob b=some o:=by unfold lb; rw [if_neg n]; exact h
theorem Base.loop {Hb:Hp} {Ob:List Qs} {H:Hp} {O:List Qs} (b:Base Hb Ob H O):Base (lb H O Ob) Ob H O :=
 ⟨fun c o h=>(EA h).1,b.sub,fun a ha=>by
  by_cases h:a∈Ob
  ·exact .inl h
  ·exact .inr (vf ha h)⟩
theorem Base.back {Hb:Hp} {Ob:List Qs} {H H':Hp} {O O':List Qs} (b:Base Hb Ob H O) (b':Base (lb H O Ob) Ob H' O'):Base Hb Ob H' O':=by
 have up:bo Hb (lb H O Ob):=fun c o h=>Di (b.same c o h) fun ⟨z1,z2⟩=>by
  rcases b.new c z1 with z | z
  ·exact z2 z
  ·rw [z] at h; cases h
 exact⟨up.trans b'.same,b'.sub,fun a ha=>(b'.new a ha).imp id up.free⟩
theorem eR.loop {K:Pa} {Hb:Hp} {Ob O:List Qs} {H:Hp} {ρ:aq} {σ:St} (E:eR K Hb Ob O H ρ σ):eR K (lb H O Ob) Ob O H ρ σ :=
 ⟨E.env,E.base.loop,fun i xs a e1 e2=>by
  obtain⟨_,n⟩:=E.mine i xs a e1 e2
  obtain⟨a',e3,e4,_⟩:=E.env.own i xs e1
  rw [e2] at e3; cases e3
  exact⟨vf e4 n,n⟩,fun i d q=>(E.nst i d q).to rfl (fun _ _ z=>z) (fun b q1 q2 q3 q4 _=>⟨rfl,q1,vf q1 q3,q4⟩) fun l d' w=>⟨d',w⟩⟩
theorem eR.back {K:Pa} {Hb:Hp} {Ob O O':List Qs} {H H':Hp} {ρ':aq} {σ':St} (b:Base Hb Ob H O) (E:eR K (lb H O Ob) Ob O' H' ρ' σ'):eR K Hb Ob O' H' ρ' σ' :=
 have up:bo Hb (lb H O Ob):=fun c o h=>Di (b.same c o h) fun ⟨z1,z2⟩=>by
  rcases b.new c z1 with z | z
  ·exact z2 z
  ·rw [z] at h; cases h
 ⟨E.env,b.back E.base,fun i xs a e1 e2=>by
  obtain⟨z,n⟩:=E.mine i xs a e1 e2
  exact⟨up.free z,n⟩,fun i d q=>(E.nst i d q).to rfl (fun _ _ z=>z) (fun b q1 q2 q3 q4 _=>⟨rfl,q1,up.free q2,q4⟩) fun l d' w=>⟨d',w⟩⟩
theorem CJ {Hb:Hp} {Ob O O':List Qs} {H H':Hp} (b:Base Hb Ob H O) (b':Base (lb H O Ob) Ob H' O'):bo (hid H O) (hid H' O'):=fun c o h=>by
 unfold hid at h ⊢
 by_cases hc:c∈O
 ·rw [if_pos hc] at h; cases h
 ·rw [if_neg hc] at h
  have h1:lb H O Ob c=some o:=Di h fun z=>hc z.1
  rw [if_neg]
  ·exact b'.same _ _ h1
  ·intro z
   rcases b'.new c z with z | z
   ·exact hc (b.sub c z)
   ·rw [h1] at z; cases z
theorem Jk.loop {X:Cx} {Hb:Hp} {Ob O:List Qs} {H:Hp} {E E':Ends} {k k':Ks} {r:R D} (hk:Jk X Hb Ob E k r) (b:Base Hb Ob H O) (hn:∀ O' ρ' σ' H',eR X.K (lb H O Ob) Ob O' H' ρ' σ'->k'.nx ρ'=r->E'.nx σ' H') (hc:∀ O' ρ' σ' H',eR X.K (lb H O Ob) Ob O' H' ρ' σ'->k'.ct ρ'=r->E'.ct σ' H')
    (eb:k'.bk=k.nx) (ee:k'.ex=k.ex) (Eb:E'.bk=E.nx) (Er:E'.rt=E.rt):Jk X (lb H O Ob) Ob E' k' r :=
  ⟨hk.ne,hn,fun O' ρ' σ' H' S e=>by rw [Eb]; exact hk.nx O' ρ' σ' H' (S.back b) (by rw [<- eb]; exact e),hc,fun d O' v H' e b' dv=>by rw [Er]; exact hk.rt d O' v H' e (b.back b') dv,
   fun O' ρ' σ' H' x S e=>hk.ex O' ρ' σ' H' x (S.back b) (by rw [<- ee]; exact e)⟩
section
variable {X:Cx} {st:QG} {rest body:List QG} {pos:Pos}
theorem JS {tg iter:QE} {G:aq->R (List D)} {g:GF} {B:cB} (hp:QO (model X.prog X.w) X.A X.env X.xe) (hc:X.calm=true) (hi:FI X tg iter G) (hg:FG X tg g) (hb:xG X body B)
  (hs:∀ x,QP iter X.env x=pure x:=by intro _; rfl):FS X (.For tg iter body [] pos) (ky G g B):=fun Hb Ob pins s σ H E I ⟨O,ρ,k,r,S,hF,hk⟩=>by
 have hall:xx X body (fun E σ H=>∃ Hb',LA X Hb' Ob B E σ H):=fun pins s σ H E I ⟨Hb',q⟩=>hb Hb' Ob pins s σ H E I q
 refine FZ hp hc hi hg hall hs pins s σ H E I ⟨O,ρ,S.env,iU.on hF hk S fun ds hF J H1 s1 wk=>?_⟩
 have E1:=S.same s1
 refine⟨fun i m σ H=>m=ds.length - i/\i<=ds.length/\∃ O' ρ',eR X.K (lb H1 O Ob) Ob O' H ρ' σ/\kN g B k (ds.drop i) ρ'=r,
  ⟨ds.length,by rw [NC],MK _,O,ρ,E1.loop,by rw [Nm]; exact hF⟩,?_⟩
 rintro i m σ' H' ⟨rfl,hi',O',ρ',E',hr⟩
 have sD:=CJ E1.base E'.base
 by_cases hlt:i < ds.length
 ·right
  obtain⟨go,yl⟩:=(wk H' O' i E'.env.all sD).1 ds[i] (by simp [hlt])
  refine⟨go,fun σ2 H2=>ds.length - (i+1)=ds.length - (i+1)/\i+1<=ds.length/\∃ O' ρ',eR X.K (lb H1 O Ob) Ob O' H2 ρ' σ2/\kN g B k (ds.drop (i+1)) ρ'=r,fun σ2 H2 z=>⟨ds.length - (i+1),by omega,z⟩,fun x H2 y=>?_⟩
  obtain⟨s2,dx⟩:=yl x H2 y
  have E':=E'.same s2
  rw [NE hlt] at hr
  cases hg':g ds[i] ρ' with
  | none =>
   have hr':(rO (g ds[i] ρ')).bind (fun ρ1=>B ⟨kN g B k (ds.drop (i+1)),k.nx,kN g B k (ds.drop (i+1)),k.ex⟩ ρ1)=r:=hr
   rw [hg'] at hr'
   exact absurd hr'.symm hk.ne
  | some ρ1 =>
   have hr':(rO (g ds[i] ρ')).bind (fun ρ1=>B ⟨kN g B k (ds.drop (i+1)),k.nx,kN g B k (ds.drop (i+1)),k.ex⟩ ρ1)=r:=hr
   rw [hg'] at hr'
   refine⟨O',ρ',ds[i],ρ1,E'.env,dx,hg',fun σ3 E3 own=>?_⟩
   have E3':eR X.K (lb H1 O Ob) Ob O' H2 ρ1 σ3:=E'.after E3 own
   exact⟨lb H1 O Ob,O',ρ1,⟨kN g B k (ds.drop (i+1)),k.nx,kN g B k (ds.drop (i+1)),k.ex⟩,r,E3',hr',hk.loop E1.base (fun O4 ρ4 σ4 H4 E4 z=>⟨rfl,hlt,O4,ρ4,E4,z⟩) (fun O4 ρ4 σ4 H4 E4 z=>⟨rfl,hlt,O4,ρ4,E4,z⟩) rfl rfl rfl rfl⟩
 ·left
  have ei:i=ds.length:=by omega
  subst ei
  refine⟨(wk H' O' ds.length E'.env.all sD).2 rfl,?_⟩
  rw [NK] at hr
  exact hk.nx O' ρ' σ' H' (E'.back E1.base) hr
end
end TG
namespace TG
open PySem PySem.Spec L2
variable [aR]

theorem eR.setO {K:Pa} {Hb:Hp} {Ob O:List Qs} {H:Hp} {ρ:aq} {σ:St} (E:eR K Hb Ob O H ρ σ) {i:Nat} {d d':D} {a:Qs} {o:HO} (hi:ρ[i]?=some (some (.own d))) (ha:σ[i]?=some (some (.ref a))) (m:qZ o) (new:dq K (upd H a o) O a d') :
  eR K Hb Ob O (upd H a o) (ρ.set i (some (.own d'))) σ:=by
 obtain⟨a',ha',haO,hat⟩:=E.env.own i d hi
 rw [ha] at ha'; cases ha'
 obtain⟨m1,m2⟩:=E.mine i d a hi ha
 have s:bo (hid H O) (hid (upd H a o) O):=gJ haO
 have own:∀ (j:Nat) ys,(ρ.set i (some (.own d')))[j]?=some (some (.own ys))->∃ ys',ρ[j]?=some (some (.own ys')):=fun j ys q=>by
  rcases aY q with ⟨hj,_⟩ | ⟨_,q⟩
  ·rw [hj]; exact⟨d,hi⟩
  ·exact⟨ys,q⟩
 refine⟨⟨fun j d1 e=>?_,fun j ys e=>?_,fun j l ys zs b q1 q2 q3 q4=>?_,E.env.all.upd haO m⟩,⟨fun b u h=>?_,E.base.sub,E.base.new⟩,fun j ys b q1 q2=>?_,fun j dn q=>?_⟩
 ·rcases aY e with ⟨_,q⟩ | ⟨ne,q⟩
  ·cases q
  ·obtain⟨w,q1,q2⟩:=E.env.val j d1 q
   exact⟨w,q1,q2.mono s⟩
 ·rcases aY e with ⟨hj,q⟩ | ⟨ne,q⟩
  ·cases q
   rw [hj]
   exact⟨a,ha,haO,new⟩
  ·obtain⟨b,q1,q2,q3⟩:=E.env.own j ys q
   have nb:b≠a:=fun z=>ne (E.env.one j i ys d a q hi (by rw [<- z]; exact q1) ha)
   exact⟨b,q1,q2,q3.mono (by rw [aD nb]) s⟩
 ·obtain⟨_,q1'⟩:=own j ys q1
  obtain⟨_,q2'⟩:=own l zs q2
  exact E.env.one j l _ _ b q1' q2' q3 q4
 ·have nb:b≠a:=fun z=>by rw [z,m1] at h; cases h
  rw [aD nb]; exact E.base.same b u h
 ·obtain⟨ys',q⟩:=own j ys q1
  exact E.mine j ys' b q q2
 ·have q:ρ[j]?=some (some (.nest dn)):=by
   rcases aY q with ⟨_,z⟩ | ⟨_,z⟩
   ·cases z
   ·exact z
  refine(E.nst j dn q).to rfl s (fun b q1 q2 q3 q4 _=>⟨aD fun z=>q4 i d hi (by rw [z]; exact ha),q1,q2,fun l d1 w=>?_⟩) fun l d1 w=>?_
  ·obtain⟨_,w'⟩:=own l d1 w
   exact q4 l _ w'
  ·rcases aY w with ⟨_,z⟩ | ⟨_,z⟩
   ·cases z
   ·exact⟨d1,z⟩
theorem eR.setNew {K:Pa} {Hb:Hp} {Ob O:List Qs} {H H':Hp} {ρ:aq} {σ:St} (E:eR K Hb Ob O H ρ σ) {i:Nat} {d:D} {p:Qs} (hi:i < σ.length) (sm:bo H H') (hp:H p=none) (m:∃ o,H' p=some o/\qZ o) (new:dq K H' (p::O) p d) :
  eR K Hb Ob (p::O) H' (ρ.set i (some (.own d))) (σ.set i (some (.ref p))):=by
 have hpO:p∉O:=E.env.all.not hp
 have s:bo (hid H O) (hid H' (p::O)):=fun b o h=>by
  unfold hid at h ⊢
  by_cases hb:b∈O
  ·rw [if_pos hb] at h; cases h
  ·rw [if_neg hb] at h
   have ne:=aU h hp
   rw [if_neg (by intro z; rcases List.mem_cons.mp z with z | z; exact ne z; exact hb z)]; exact sm _ _ h
 have other:∀ (j:Nat) xs,ρ[j]?=some (some (.own xs))->σ[j]?≠some (some (.ref p)):=fun j xs e z=>by
  obtain⟨a,e1,e2,e3⟩:=E.env.own j xs e
  rw [z] at e1; cases e1
  obtain⟨o,e3⟩:=e3.some
  rw [hp] at e3; cases e3
 refine⟨⟨fun j d' e=>?_,fun j xs e=>?_,fun j k xs ys a e1 e2 e3 e4=>?_,⟨(E.env.all.same sm).1,fun a ha=>?_⟩⟩,⟨E.base.same.trans sm,fun a ha=>Mv _ (E.base.sub a ha),fun a ha=>?_⟩,fun j xs a e1 e2=>?_,fun j dn e=>?_⟩
 ·rcases aY e with ⟨_,q⟩ | ⟨ne,q⟩
  ·cases q
  ·obtain⟨v,q1,q2⟩:=E.env.val j d' q
   exact⟨v,by rw [My (Ne.symm ne)]; exact q1,q2.mono s⟩
 ·rcases aY e with ⟨hj,q⟩ | ⟨ne,q⟩
  ·cases q
   rw [hj]
   exact⟨p,Mx hi,Mu,new⟩
  ·obtain⟨a,q1,q2,q3⟩:=E.env.own j xs q
   obtain⟨o,ho⟩:=q3.some
   exact⟨a,by rw [My (Ne.symm ne)]; exact q1,Mv _ q2,q3.mono (qG sm ho) s⟩
 ·rcases aY e1 with ⟨hj,q1⟩ | ⟨nj,q1⟩
  ·rcases aY e2 with ⟨hk,q2⟩ | ⟨nk,q2⟩
   ·exact hj.trans hk.symm
   ·rw [hj,Mx hi] at e3
    cases e3
    rw [My (Ne.symm nk)] at e4
    exact absurd e4 (other k ys q2)
  ·rcases aY e2 with ⟨hk,q2⟩ | ⟨nk,q2⟩
   ·rw [hk,Mx hi] at e4
    cases e4
    rw [My (Ne.symm nj)] at e3
    exact absurd e3 (other j xs q1)
   ·rw [My (Ne.symm nj)] at e3
    rw [My (Ne.symm nk)] at e4
    exact E.env.one j k xs ys a q1 q2 e3 e4
 ·rcases List.mem_cons.mp ha with rfl | ha
  ·exact m
  ·exact(E.env.all.same sm).2 a ha
 ·rcases List.mem_cons.mp ha with rfl | ha
  ·exact .inr (E.base.same.free hp)
  ·exact E.base.new a ha
 ·rcases aY e1 with ⟨hj,q1⟩ | ⟨nj,q1⟩
  ·rw [hj,Mx hi] at e2
   cases e2
   exact⟨E.base.same.free hp,fun z=>hpO (E.base.sub p z)⟩
  ·rw [My (Ne.symm nj)] at e2
   exact E.mine j xs a q1 e2
 ·rcases aY e with ⟨_,q⟩ | ⟨ne,q⟩
  ·cases q
  ·refine(E.nst j dn q).to (My (Ne.symm ne)) s (fun b q1 q2 q3 q4 ⟨o,ho⟩=>⟨by rw [ho,sm _ _ ho],Mv _ q1,q2,fun l d1 w=>?_⟩) fun l d1 w=>?_
   ·rcases aY w with ⟨hl,z⟩ | ⟨nl,z⟩
    ·rw [hl,Mx hi]
     intro z
     cases z
     rw [hp] at ho; cases ho
    ·rw [My (Ne.symm nl)]; exact q4 l d1 z
   ·rcases aY w with ⟨_,z⟩ | ⟨_,z⟩
    ·cases z
    ·exact⟨d1,z⟩
def Kw (X:Cx) (F:FX):TE:=fun σ H Q=>∃ O ρ,dZ X.K O H ρ σ/\iU X σ O H (F ρ) fun d=>∀ p H',bo H H'->H p=none->(∃ o,H' p=some o/\qZ o)->dq X.K H' (p::O) p d->Q (.ref p) H'
def FN (X:Cx) (e:QE) (F:FX):Prop:=PE X e (Kw X F)
section
variable {X:Cx} {pos:Pos}
theorem lg {K:Pa} {H:Hp} {O:List Qs} {p:Qs} {ds:List D} {vs:List V} (hp:H p=none) (d:aW K (hid H O) ds vs):dq K (upd H p (.lst vs)) (p::O) p (.lst ds):=⟨_,vs,aM,rfl,d.mono (rK hp)⟩
theorem Kb {es:List QE} {g:aq->R (List D)} (h:FA X es g):FN X (.List es pos) (jG g) :=
 PE.weak (yj h) fun σ H Q ⟨O,ρ,E,hF⟩=>⟨O,ρ,E,(iU.bind hF).imp fun xs hF vs H1 s1 d1=>by
  obtain⟨d,e,q⟩:=iU.rO hF
  obtain⟨hz,e⟩:=bK e
  subst e
  refine⟨by rw [<- d1.length]; exact eA hz,fun p hp=>?_⟩
  exact q p _ (s1.trans (bD hp _)) (s1.free hp) ⟨_,aM,trivial⟩ (lg hp d1)⟩
theorem Jt {x:Str} {p:Pos} {e:QE} {f:aq->R (List D)} (hg:Gl X x) (hm:X.mg x=none) (hv:Qz x=some (.type "list")) (ha:FA X [e] f) (hn:x ≠ "__name__":=by decide) (hdb:(x==("__debug__":Str))=false:=by decide)
  (hns:noStar e=true:=by rfl):FN X (.Call (.Name x p) [e] [] pos) (fL jS f) :=
 PE.weak (tV (kj) hg hm hv ha hn hdb (cW hns) (fV rfl)) fun σ H Q ⟨O,ρ,E,hF⟩=>⟨O,ρ,E,(iU.bind hF).imp fun ds hF vs H1 s1 d1=>by
  obtain⟨d,hg,q⟩:=iU.rO hF
  unfold jS at hg
  split at hg
  ·rename_i ys
   cases hg
   obtain⟨v,ev,h1⟩:=d1.one
   rw [cD] at h1
   obtain⟨p,ws,ep,g1,g2⟩:=h1
   exact⟨p,ws,by rw [ev,ep],.inl ((aC H1 O).seq g1),fun l hl=>q l _ (s1.trans (bD hl _)) (s1.free hl) ⟨_,aM,trivial⟩ (lg hl g2)⟩
  ·rename_i ys
   cases hg
   obtain⟨v,ev,h1⟩:=d1.one
   rw [cC] at h1
   obtain⟨p,ws,ep,g1,g2⟩:=h1
   exact⟨p,ws,by rw [ev,ep],.inr (bR (aC H1 O) g1),fun l hl=>q l _ (s1.trans (bD hl _)) (s1.free hl) ⟨_,aM,trivial⟩ (lg hl g2)⟩
  ·cases hg⟩
def tQ:FX:=fun _=>.ok (.dct [] [])
theorem CA:FN X (.Dict [] [] pos) tQ:=PE.weak CQ fun σ H Q ⟨O,ρ,E,q⟩ p hp=>q p _ (bD hp _) hp ⟨_,aM,trivial⟩ ⟨_,[],aM,cT.mpr rfl,.inr ⟨[],rfl,rfl,rfl⟩⟩
def kP (i:Nat) (f:FX):cB:=fun k ρ=>sM (f ρ) k ρ fun d=>k.nx (ρ.set i (some (.own d)))
theorem uT {st:QG} {f:FX} {i:Nat} (hi:i < X.N.length) (h:PS X st (EL (Kw X f) (uk i))):FS X st (kP i f):=fun Hb Ob pins s σ H E I ⟨O,ρ,k,r,S,hF,hk⟩ =>
 h pins s σ H E I ⟨O,ρ,S.env,iU.on hF hk S fun d e p H1 s1 hp m o=>hk.nx _ _ _ H1 (S.setNew (by rw [I.len]; exact hi) s1 hp m o) e⟩
theorem KN {i:Nat} {x:Str} {e:QE} {f:FX} {pos':Pos} (hN:X.N.Nodup) (hi:X.N[i]?=some x) (hx:Loc X.env.scope x) (he:FN X e f) (hs:swapsWith e (some (.Name x pos')) pos.line X.env=pure false:=by rfl) (hf:X.fn x=true\/X.env.scope.names.lookup x=some .local:=by first | exact .inl rfl | exact .inr rfl | assumption) :
  FS X (.Assign [.Name x pos'] e pos) (kP i f):=uT (List.getElem?_eq_some_iff.mp hi).1 (xV hN hi hx he hs hf)
end
theorem E8 {X:Cx} {F:FX}:∀ σ H Q,Kw X F σ H Q->K1 X F σ H Q:=fun σ H Q ⟨O,ρ,E,hF⟩=>⟨O,ρ,E,hF.imp fun d q D H' total acc e sm hD hD' dn=>by
 subst e
 exact q D H' sm hD ⟨_,hD',trivial⟩ ⟨_,acc,hD',rfl,dn⟩⟩
theorem HF {X:Cx} {elt tg iter:QE} {ifs:List QE} {scope:QC} {N:List Str} {ix:List (Option Nat)} {G:aq->R (List D)} {g:GF} {C:aq->R Bool} {Fe:FX} {i:Nat} {y:Str} {lpos py spos:Pos} (hN:X.N.Nodup) (hi':X.N[i]?=some y) (hx:Loc X.env.scope y)
  (hc:X.calm=true) (ok:ie X scope N ix) (tk:qj ix g) (hi:FI X tg iter G) (hb:Hs X scope N tg elt ifs g C Fe)
  (hsw:swapsWith (.ListComp elt [⟨tg,iter,ifs,0⟩] scope lpos) (some (.Name y py)) spos.line X.env=pure true:=by rfl)
  (hs:∀ x,QP iter X.env x=pure x:=by intro _; rfl)
  (hf:X.fn y=true\/X.env.scope.names.lookup y=some .local:=by first | exact .inl rfl | exact .inr rfl | assumption) :
  FS X (.Assign [.Name y py] (.ListComp elt [⟨tg,iter,ifs,0⟩] scope lpos) spos) (kP i (fY ix G g C Fe)) :=
 uT (List.getElem?_eq_some_iff.mp hi').1 (PS.weak (Fl hN hi' hx hc ok.cell ok.kind ok.names ok.free ok.ix hi hb.k hsw hs hf) fun E σ H q=>BM tk σ H _ (E8 σ H _ q))
theorem LN {X:Cx} {elt tg iter:QE} {ifs:List QE} {scope:QC} {pos:Pos} {N:List Str} {ix:List (Option Nat)} {G:aq->R (List D)} {g:GF} {C:aq->R Bool} {Fe:FX} (hc:X.calm=true) (ok:ie X scope N ix) (tk:qj ix g) (hi:FI X tg iter G) (hb:Hs X scope N tg elt ifs g C Fe)
  (hs:∀ x,QP iter X.env x=pure x:=by intro _; rfl):FN X (.ListComp elt [⟨tg,iter,ifs,0⟩] scope pos) (fY ix G g C Fe) :=
 PE.weak (Fs hc ok.cell ok.kind ok.names ok.free ok.ix hi hb.k hs) fun σ H Q q=>BM tk σ H _ (E8 σ H _ q)
def yL (i:Nat) (u:List D->List D->Option (List D)) (f:aq->R (List D)):cB:=fun k ρ=>match ρ[i]? with
 | some (some (.own (.lst xs)))=>sM (f ρ) k ρ fun ds=>(rO (u xs ds)).bind fun ys=>k.nx (ρ.set i (some (.own (.lst ys))))
 | _=>un
def Ca (K:Pa) (r:V->List V->Hp->VK->Prop) (u:List D->List D->Option (List D)):Prop :=
 ∀ (H:Hp) (O:List Qs) (a:Qs) (xs ys as:List D) (ws vs:List V) (Q:VK),d9 H O->a∈O->H a=some (.lst ws)->aW K (hid H O) xs ws->aW K (hid H O) as vs->u xs as=some ys->(∀ ws' v,aW K (hid H O) ys ws'->Q v (upd H a (.lst ws')))->r (.ref a) vs H Q
theorem pY {K:Pa} {H:Hp} {O:List Qs} {a:Qs} {ys:List D} {ws:List V} (ha:a∈O) (h:aW K (hid H O) ys ws):dq K (upd H a (.lst ws)) O a (.lst ys):=⟨_,ws,aM,rfl,h.mono (gJ ha)⟩
theorem LR {X:Cx} {i:Nat} {x m:Str} {id:String} {r:V->List V->Hp->VK->Prop} {u:List D->List D->Option (List D)} {e:QE} {es:List QE} {f:aq->R (List D)} {npos apos cpos pos:Pos} (slot:Slot "list" m id) (hty:typeOf (.builtin id)=pure (.type "method_descriptor")) (hm:IM X id r) (ok:Ca X.K r u) (hx:PE X (.Name x npos) (rL i)) (he:FA X (e::es) f)
  (hbase:Rl (.Name x npos) m X.env (eval (.Name x npos) X.env)=eval (.Name x npos) X.env:=by rfl)
  (hfew:((backTo cpos (QF (e::es) X.env)).all (fun x=>!x.1) && (backToKw cpos (QX [] X.env)).all (fun x=>x.1.isSome)
   && decide ((e::es:List QE).length+([]:List Rm).length+(if ([]:List Rm).isEmpty then 0 else 1) < 30))=true:=by rfl)
  (hline:(apos.endLine==cpos.line)=true:=by rfl) (hs:QF (e::es) X.env=(false,eval e X.env)::QF es X.env:=by rfl) (hplain:(backTo cpos (QF es X.env)).any (·.1)=false:=by rfl)
  (hsw:swapsWith (.Call (.Attribute (.Name x npos) m apos) (e::es) [] cpos) none pos.line X.env=pure false:=by rfl) :
  FS X (.Expr (.Call (.Attribute (.Name x npos) m apos) (e::es) [] cpos) pos) (yL i u f):=fun Hb Ob pins s σ H E I ⟨O,ρ,k,rr,S,hF,hk⟩=>by
 unfold yL at hF
 split at hF
 ·rename_i xs hxs
  obtain⟨a,ha,haO,hat⟩:=S.env.own i _ hxs
  obtain⟨o,vs0,ho,eo,dn⟩:=hat
  subst eo
  refine vI (zp F.plainAttrs_list slot hty hm hx he hbase hfew hline hs hplain) hsw pins s σ H E I ⟨.ref a,ha,.inl ⟨rfl,vs0,nV.of ho⟩,O,ρ,S.env,iU.on hF hk S fun ds hr vs H1 s1 d1=>?_⟩
  have S1:=S.same s1
  cases hu1:u xs ds with
  | none=>rw [hu1] at hr; exact absurd hr.symm hk.ne
  | some ys =>
   rw [hu1] at hr
   exact ok H1 O a xs ys ds vs0 vs _ S1.env.all haO (s1 _ _ ho) (dn.mono (bT s1)) d1 hu1 fun ws' v new=>hk.nx O _ σ _ (S1.setO hxs ha trivial (pY haO new)) hr
 ·exact absurd hF.symm hk.ne
def fD (xs:List D) (ds:List D):Option (List D):=match ds with
 | [y]=>if small (xs.length+1) then some (xs++[y]) else none
 | _=>none
theorem eY {K:Pa}:Ca K vE fD:=fun H O a xs ys as ws vs Q hO haO ha dx da hu q=>by
 unfold fD at hu
 split at hu
 ·rename_i y
  obtain⟨h1,h2⟩:=bK hu
  subst h2
  obtain⟨v,rfl,dv⟩:=da.one
  have:=eA h1
  rw [dx.length] at this
  exact⟨a,ws,v,rfl,rfl,ha,by omega,q _ _ (dx.snoc dv)⟩
 ·cases hu
def frz (i:Nat) (ρ:aq):aq:=match ρ[i]? with
 | some (some (.own d))=>setV i d ρ
 | _=>ρ
theorem dZ.frz {K:Pa} {O:List Qs} {H:Hp} {ρ:aq} {σ:St} (E:dZ K O H ρ σ) (i:Nat):∃ O',dZ K O' H (frz i ρ) σ/\(∀ b∈O',b∈O)/\∀ b∈O,b∉O'->∃ d,ρ[i]?=some (some (.own d))/\σ[i]?=some (some (.ref b)):=by
 unfold TG.frz
 split
 ·rename_i d hd
  obtain⟨a,ha,haO,hat⟩:=E.own i d hd
  have sub:∀ b∈O.filter (fun b=>decide (b≠a)),b∈O:=fun b hb=>(List.mem_filter.mp hb).1
  have s:bo (hid H O) (hid H (O.filter fun b=>decide (b≠a))):=gL sub
  have na:a∉O.filter fun b=>decide (b≠a):=fun z=>absurd rfl (of_decide_eq_true (List.mem_filter.mp z).2)
  refine⟨O.filter fun b=>decide (b≠a),⟨fun j d' e=>?_,fun j ys e=>?_,fun j l ys zs b q1 q2 q3 q4=>?_,⟨E.all.1,fun b hb=>E.all.2 b (sub b hb)⟩⟩,sub,fun b hb nb=>?_⟩
  ·rcases aY e with ⟨hj,q⟩ | ⟨ne,q⟩
   ·cases q
    rw [hj]
    exact⟨.ref a,ha,hat.den s na⟩
   ·obtain⟨w,q1,q2⟩:=E.val j d' q
    exact⟨w,q1,q2.mono s⟩
  ·rcases aY e with ⟨_,q⟩ | ⟨ne,q⟩
   ·cases q
   ·obtain⟨b,q1,q2,q3⟩:=E.own j ys q
    have nb:b≠a:=fun z=>ne (E.one j i ys d a q hd (by rw [<- z]; exact q1) ha)
    exact⟨b,q1,List.mem_filter.mpr ⟨q2,decide_eq_true nb⟩,q3.mono rfl s⟩
  ·rcases aY q1 with ⟨_,q⟩ | ⟨_,q⟩
   ·cases q
   ·rcases aY q2 with ⟨_,q'⟩ | ⟨_,q'⟩
    ·cases q'
    ·exact E.one j l ys zs b q q' q3 q4
  ·by_cases z:b=a
   ·exact⟨d,hd,by rw [z]; exact ha⟩
   ·exact absurd (List.mem_filter.mpr ⟨hb,decide_eq_true z⟩) nb
 ·exact⟨O,E,fun _ z=>z,fun b hb nb=>absurd hb nb⟩
theorem eR.frz {K:Pa} {Hb:Hp} {Ob O:List Qs} {H:Hp} {ρ:aq} {σ:St} (E:eR K Hb Ob O H ρ σ) (i:Nat):∃ O',eR K Hb Ob O' H (frz i ρ) σ:=by
 obtain⟨O',E',sub,gone⟩:=E.env.frz i
 refine⟨O',E',⟨E.base.same,fun a ha=>?_,fun a ha=>E.base.new a (sub a ha)⟩,fun j xs a q1 q2=>?_,fun j dn q1=>?_⟩
 ·by_cases z:a∈O'
  ·exact z
  ·obtain⟨d,e1,e2⟩:=gone a (E.base.sub a ha) z
   exact absurd ha (E.mine i d a e1 e2).2
 ·have q:ρ[j]?=some (some (.own xs)):=by
   unfold TG.frz at q1
   split at q1
   ·rcases aY q1 with ⟨_,q⟩ | ⟨_,q⟩
    ·cases q
    ·exact q
   ·exact q1
  exact E.mine j xs a q q2
 ·have bk:∀ (l:Nat) x,(TG.frz i ρ)[l]?=some (some x)->(∀ d,x≠.val d)->ρ[l]?=some (some x):=fun l x e nv=>by
   unfold TG.frz at e
   split at e
   ·rcases aY e with ⟨_,q⟩ | ⟨_,q⟩
    ·cases q; exact absurd rfl (nv _)
    ·exact q
   ·exact e
  refine(E.nst j dn (bk j _ q1 (fun _ z=>nomatch z))).to rfl (gL sub) (fun b w1 w2 w3 w4 _=>⟨rfl,?_,w2,fun l d1 w=>w4 l d1 (bk l _ w (fun _ z=>nomatch z))⟩) fun l d1 w=>⟨d1,bk l _ w (fun _ z=>nomatch z)⟩
  by_cases z:b∈O'
  ·exact z
  ·obtain⟨d,e1,e2⟩:=gone b w1 z
   exact absurd e2 (w4 i d e1)
def hJ (i:Nat) (F:cB):cB:=fun k ρ=>F k (frz i ρ)
theorem JB {X:Cx} {st:List QG} {F:cB} (i:Nat) (h:xG X st F):xG X st (hJ i F):=fun Hb Ob=>xx.weak (h Hb Ob) fun E σ H ⟨O,ρ,k,r,S,hF,hk⟩=>by
 obtain⟨O',S'⟩:=S.frz i
 exact⟨O',TG.frz i ρ,k,r,S',hF,hk⟩
def frzs (is:List Nat) (ρ:aq):aq:=is.foldl (fun ρ i=>frz i ρ) ρ
theorem dZ.frzs {K:Pa} {H:Hp} {σ:St}:∀ (is:List Nat) {O:List Qs} {ρ:aq},dZ K O H ρ σ->∃ O',dZ K O' H (frzs is ρ) σ
 | [],O,_,E=>⟨O,E⟩
 | i::is,_,_,E=>by
  obtain⟨O',E',_⟩:=E.frz i
  exact dZ.frzs is E'
def kI (is:List Nat) (f:aq->R Bool):aq->R Bool:=fun ρ=>AI (f (frzs is ρ))
theorem Ju {X:Cx} {e:QE} {f:aq->R Bool} (is:List Nat) (h:FT X e f):FT X e (kI is f):=PT.weak h fun σ H Q ⟨O,ρ,E,hF⟩=>by
 obtain⟨O',E'⟩:=E.frzs is
 refine⟨O',TG.frzs is ρ,E',?_⟩
 unfold kI at hF
 cases hf:f (TG.frzs is ρ) with
 | error z=>rw [hf] at hF; exact hF.elim
 | ok d=>rw [hf] at hF; exact hF
end TG
namespace TG
open PySem PySem.Spec L2
variable [aR]

def Bk (K:Pa) (n:Nat) (g:List D->R D):Sp:=fun vs H Q E=>∃ O ds,vs.length=n/\d9 H O/\aW K (hid H O) ds vs/\match g ds with
 | .ok d=>∀ v H',bo H H'->cK K (hid H' O) d v->Q v H'
 | .error (some x)=>J7 K H O x E
 | .error none=>False
section
variable {X:Cx} {k:Nat} {f C:Qs} {fd:Q0} {ps:List Str} {sp:Sp} {x m:Str} {p pos apos:Pos} {e o:QE} {es:List QE} {ta:TE} {t:TA}
theorem zk {pins:List (Qs×Obj)} {σ:St} {H:Hp} {s:QB} {Q:VK} {E:XK} {us:List Qp} {vs:List V} (F:iV X.prog X.w X.K X.mg X.base (nA X.prog X.w) k f fd ps sp) (hr:fE k X.A) (hb:Binds X.K fd ps []) (hx:kX (nA X.prog X.w) X σ E)
  (I:Inv X pins σ H s) (r:Vals vs us) (h:sp vs H Q E):QD (model X.prog X.w) X.A (call (.ref f) us) (EP X pins σ Q) X.xe s:=by
 have hl:(us++[]).length=ps.length:=by rw [ML,<- r.length]; exact F.len _ _ _ _ h
 have hb':=hb s us I.kIn hl
 rw [ML] at hb'
 refine wpAny_call (Q2 (F.run X.A X.stack s H ⟨us,[]⟩ us vs Q E hr I.env0 hb' r h) fun r s' hq=>?_)
 cases r with
 | error e=>exact hx pins H s e s' I hq
 | ok fl =>
  cases fl with
  | ret u=>exact I.after hq
  | next=>exact False.elim hq
  | brk=>exact False.elim hq
  | cont=>exact False.elim hq
def Bp (X:Cx) (sp:Sp) (t:TA):TE:=fun σ H Q=>t σ H fun vs H1=>∃ E,kX (nA X.prog X.w) X σ E/\sp vs H1 Q E
theorem Cg (F:iV X.prog X.w X.K X.mg X.base (nA X.prog X.w) k f fd ps sp) (hr:fE k X.A) (hg:Gl X x) (hm:X.mg x=some (.ref f)) (hk:Pt X.K (.ref f)=true) (hb:Binds X.K fd ps [])
  (ha:PA X (e::es) t) (hdb:(x==("__debug__":Str))=false:=by decide) (he:QF (e::es) X.env=(false,eval e X.env)::QF es X.env:=by rfl) (hpl:(backTo pos (QF es X.env)).any (·.1)=false:=by rfl) :
  PE X (.Call (.Name x p) (e::es) [] pos) (Bp X sp t):=by
 intro pins s σ H Q I h
 refine Q3 (zi I hg hm ?_ hdb)
 refine Pu (h₀:=X.base) I.ok.mod.kin hk (eK (ha pos pins s σ H _ I h) fun us s1 ⟨vs,H1,I1,r,E,hx,q⟩=>⟨I1.kIn,?_⟩) he hpl
 exact zk F hr hb hx I1 r q
theorem Aa {n:Nat} {g:List D->R D} {f:aq->R (List D)} (hn:∀ ds,g ds≠un->ds.length=n):∀ σ H Q,tF X (fR g f) σ H Q->Bp X (Bk X.K n g) (JC X f) σ H Q:=fun σ H Q ⟨O,ρ,E,hF⟩ =>
 ⟨O,ρ,E,(iU.bind hF).imp fun ds hF vs H1 s1 d1=>by
  cases hg:g ds with
  | ok d =>
   rw [hg] at hF
   refine⟨E0,za,O,ds,by rw [<- d1.length]; exact hn ds (by rw [hg]; intro z; cases z),E.all.same s1,d1,?_⟩
   rw [hg]
   exact fun v H2 s2 d2=>hF v H2 (s1.trans s2) d2
  | error z =>
   rw [hg] at hF
   cases z with
   | none=>exact hF.elim
   | some x =>
    refine⟨zB X O H1 x,zg (Hw.mono hF s1),O,ds,by rw [<- d1.length]; exact hn ds (by rw [hg]; intro z; cases z),E.all.same s1,d1,?_⟩
    rw [hg]
    exact wq⟩
end
def Callee (P:Qr) (w:Qq) (K:Pa) (mg:Str->Option Qp) (base:Qu) (k:Nat) (x:Str) (ps:List Str) (g:List D->R D):Prop :=
 ∃ f fd,iV P w K mg base (nA P w) k f fd ps (Bk K ps.length g)/\Binds K fd ps []/\Pt K (.ref f)=true/\mg x=some (.ref f)
def Ar (n:Nat) (g:List D->R D):Prop:=∀ ds,g ds≠un->ds.length=n
theorem Hv {X:Cx} {k k':Nat} {ps:List Str} {g:List D->R D} {h:aq->R (List D)} {x:Str} {p pos:Pos} {e:QE} {es:List QE}
  (C:Callee X.prog X.w X.K X.mg X.base k x ps g) (hn:Ar ps.length g) (hr:fE k' X.A) (hk:k<=k') (ha:FA X (e::es) h) (hg:Gl X x:=by rfl)
  (hdb:(x==("__debug__":Str))=false:=by decide) (hns:(e::es).all noStar=true:=by rfl) :
  FE X (.Call (.Name x p) (e::es) [] pos) (fR g h):=by
 obtain⟨f,fd,F,b,kp,m⟩:=C
 exact PE.weak (Cg F (hr.mono hk) hg m kp b ha hdb (cW (MZ _ _ ▸ hns).1) (fV (MZ _ _ ▸ hns).2)) (Aa hn)
def K0:Ks:={ nx:=fun _=>.ok .non }
def env0 (n:Nat) (ds:List D):aq:=ds.map (fun d=>some (.val d))++List.replicate (n - ds.length) none
def bc (B:cB) (np n:Nat):List D->R D:=fun ds=>if ds.length=np then B K0 (env0 n ds) else un
theorem bi {B:cB} {np n:Nat}:Ar np (bc B np n):=fun ds h=>by
 unfold bc at h
 split at h
 ·assumption
 ·exact absurd rfl h
theorem iK {n:Nat} {ds:List D} (i:Nat) (x:S) (e:(env0 n ds)[i]?=some (some x)):∃ d,ds[i]?=some d/\x=.val d:=by
 unfold env0 at e
 by_cases hi:i < ds.length
 ·rw [MR (by rw [MI]; exact hi),MS,Nr hi] at e
  have e':some (S.val ds[i])=some x:=Option.some.inj e
  exact⟨ds[i],by rw [Nr hi],(Option.some.inj e').symm⟩
 ·rw [MP (by rw [MI]; omega),MI,MQ] at e
  split at e
  ·cases e
  ·cases e
theorem qV {K:Pa} {O:List Qs} {H:Hp} {N:List Str} {ds:List D} {vs:List V} (hO:d9 H O) (h:aW K (hid H O) ds vs):dZ K O H (env0 N.length ds) (L2.start N vs):=by
 refine⟨fun i d e=>?_,fun i xs e=>?_,fun i j xs ys a e=>?_,hO⟩
 ·obtain⟨d',e1,e2⟩:=iK i _ e
  cases e2
  obtain⟨v,e3,e4⟩:=h.get e1
  refine⟨v,?_,e4⟩
  unfold L2.start
  have hi:i < vs.length:=(List.getElem?_eq_some_iff.mp e3).1
  rw [MR (by rw [MI]; exact hi),MS,e3]; rfl
 ·obtain⟨d',_,e2⟩:=iK i _ e
  cases e2
 ·obtain⟨d',_,e2⟩:=iK i _ e
  cases e2
section
variable {P:Qr} {w:Qq} {K:Pa} {mg:Str->Option Qp} {base:Qu}
structure BodyOk (P:Qr) (w:Qq) (K:Pa) (mg:Str->Option Qp) (base:Qu) (k:Nat) (N:List Str) (qual:Str) (st:QG) (f:Qs) (B:cB):Prop where
 h:∀ (cdv:Qp) (A:QA) (outer:List Env) (s:QB) (H:Hp) (E:XK),fE k (A.deeper (Qa qual (ay st) s.heap.objs.size f cdv))->QO (model P w) (A.deeper (Qa qual (ay st) s.heap.objs.size f cdv)) (Qa qual (ay st) s.heap.objs.size f cdv) (ji (nA P w) P w K mg base N qual (ay st) f cdv A outer s H E).xe ->
  xG (ji (nA P w) P w K mg base N qual (ay st) f cdv A outer s H E) (e7 st) B
theorem Ke {x qual:Str} {st:QG} {f:Qs} {fd:Q0} {N ps:List Str} {k:Nat} {sp:Sp} {CX:yh} (F:vv K x qual st f fd) (S:bj N ps (ay st)) (len:∀ vs H Q E,sp vs H Q E->vs.length=ps.length)
  (hbody:∀ (cdv:Qp) (A:QA) (outer:List Env) (s:QB) (H:Hp) (vs:List V) (Q:VK) (E:XK),fE k (A.deeper (Qa qual (ay st) s.heap.objs.size f cdv))->sp vs H Q E ->
   ∃ t,xx (ji CX P w K mg base N qual (ay st) f cdv A outer s H E) (e7 st) t/\t { nx:=fun _ H'=>Q .non H',rt:=Q } (L2.start N vs) H):iV P w K mg base CX (k+1) f fd ps sp:=by
 obtain⟨oc,od,kV,doc,pm,an,cdv,ct,osl,rfl,lk,hcd⟩:=F.ex
 exact Ct lk hcd S len fun A outer s H vs Q E hr hsp=>hbody cdv A outer s H vs Q E hr hsp
theorem iV.any {CX:yh} {k:Nat} {f:Qs} {fd:Q0} {ps:List Str} {sp:Sp} (F:iV P w K mg base Ji k f fd ps sp):iV P w K mg base CX k f fd ps sp :=
 ⟨F.len,fun A outer s H args us vs Q E hr he hb hv hs=>Q2 (F.run A outer s H args us vs Q E hr he hb hv hs) fun r s' h=>by
  cases r with
  | error e=>exact False.elim h
  | ok fl=>cases fl <;> exact h⟩
theorem vP {x qual:Str} {st:QG} {f:Qs} {fd:Q0} {N ps:List Str} {k:Nat} {B:cB} (F:vv K x qual st f fd) (SC:bj N ps (ay st)) (hb:BodyOk P w K mg base k N qual st f B) :
  iV P w K mg base (nA P w) (k+1) f fd ps (Bk K ps.length (bc B ps.length N.length)):=by
 refine Ke F SC (fun vs H Q E h=>?_) fun cdv A outer s H vs Q E hr h=>?_
 ·obtain⟨O,ds,h1,_⟩:=h
  exact h1
 ·obtain⟨O,ds,h1,h2,h3,h4⟩:=h
  have hl:ds.length=ps.length:=h3.length.trans h1
  have e4:bc B ps.length N.length ds=B K0 (env0 N.length ds):=by unfold bc; rw [if_pos hl]
  rw [e4] at h4
  refine⟨_,hb.h cdv A outer s H E hr PassesOwn.leaving H O,O,env0 N.length ds,K0,_,⟨qV h2 h3,⟨bo.refl H,fun _ z=>z,fun a z=>.inl z⟩,fun i xs a e=>?_,fun i d e=>by obtain⟨d',_,e2⟩:=iK i _ e; cases e2⟩,rfl,?_⟩
  ·obtain⟨d',_,e2⟩:=iK i _ e
   cases e2
  ·generalize B K0 (env0 N.length ds)=r at h4
   refine⟨fun z=>by rw [z] at h4; exact h4,fun O' ρ' σ' H' S e=>?_,fun O' ρ' σ' H' S e=>?_,fun O' ρ' σ' H' S e=>?_,fun d O' v H' e b dv=>?_,fun O' ρ' σ' H' x S e=>?_⟩
   ·have e:(.ok .non:R D)=r:=e
    subst e
    exact h4 .non H' S.base.same (j0.mpr rfl)
   ·have e:(un:R D)=r:=e
    subst e
    exact h4.elim
   ·have e:(un:R D)=r:=e
    subst e
    exact h4.elim
   ·subst e
    exact h4 v H' b.same (dv.mono (gL b.sub))
   ·have e:(.error (some x):R D)=r:=e
    subst e
    exact B8 h4 S.base.same S.base.sub
theorem bG {x qual:Str} {st:QG} {f:Qs} {fd:Q0} {N ps:List Str} {k:Nat} {B:cB} (F:vv K x qual st f fd) (b:Binds K fd ps []) (m:mg x=some (.ref f)) (SC:bj N ps (ay st)) (hb:BodyOk P w K mg base k N qual st f B) :
  Callee P w K mg base (k+1) x ps (bc B ps.length N.length):=⟨f,fd,vP F SC hb,b,F.kp,m⟩
theorem fI {x qual:Str} {st:QG} {f:Qs} {fd:Q0} {ps:List Str} (k:Nat) (F:vv K x qual st f fd) (b:Binds K fd ps []) (m:mg x=some (.ref f)):Callee P w K mg base k x ps (fun _=>un):=by
 have no:∀ vs H Q E,¬ Bk K ps.length (fun _=>un) vs H Q E:=fun vs H Q E ⟨O,ds,_,_,_,e⟩=>e
 exact⟨f,fd,⟨fun vs H Q E h=>absurd h (no vs H Q E),fun A outer s H args us vs Q E _ _ _ _ h=>absurd h (no vs H Q E)⟩,b,F.kp,m⟩
end
theorem qC {K:Pa} {T:String} (h1:PB K (.type "NoneType") (.type T)=some (T == "NoneType")) (h2:PB K (.type "bool") (.type T)=some (T == "bool" || T == "int")) (h3:PB K (.type "int") (.type T)=some (T == "int")) (h4:PB K (.type "str") (.type T)=some (T == "str"))
  (h5:PB K (.type "tuple") (.type T)=some (T == "tuple")) (h6:PB K (.type "list") (.type T)=some (T == "list")):xD K T:=fun d hd=>by
 cases d with
 | dct _ _=>cases hd
 | obj _ _ _=>cases hd
 | exc _ _ _=>cases hd
 | non=>exact h1
 | bl _=>exact h2
 | int _=>exact h3
 | str _=>exact h4
 | tup _=>exact h5
 | lst _=>exact h6
theorem xr {K:Pa}:xD K "int":=qC rfl rfl rfl rfl rfl rfl
theorem mE {K:Pa}:xD K "bool":=qC rfl rfl rfl rfl rfl rfl
theorem wZ {K:Pa}:xD K "str":=qC rfl rfl rfl rfl rfl rfl
theorem yG {K:Pa}:xD K "tuple":=qC rfl rfl rfl rfl rfl rfl
end TG
namespace TG
open PySem PySem.Spec L2
variable [aR]

section
variable {X:Cx} {a b c:QE} {fa fb fc:FX} {pos:Pos}
theorem G5 {r:V->Hp->VK->Prop} {g:D->Option D} (s:DU X.K r g):∀ σ H Q,tF X (f1 g fa) σ H Q->LQ r (tF X fa) σ H Q:=fun σ H Q ⟨O,ρ,E,hF⟩=>⟨O,ρ,E,(iU.bind hF).imp fun a hF x H1 s1 d1=>by
 obtain⟨d,e,q⟩:=iU.rO hF
 exact s a d x O H1 Q (E.all.same s1) e d1 fun v H2 s2 d2=>q v H2 (s1.trans s2) d2⟩
def Gg (g g':D->D->Option D) (fa fb fc:FX):FX:=fun ρ=>(fa ρ).bind fun x=>(fb ρ).bind fun y=>(rO (g x y)).bind fun z=>yA z ((fc ρ).bind fun w=>rO (g' y w))
def Gy:D->Option D
 | .int i=>some (.int (-i))
 | _=>none
def n9 (f:FX):FX:=f1 Gy f
theorem Lf (ha:FE X a fa):FE X (.UnaryOp .USub a pos) (n9 fa):=PE.weak (IK Hk ha) (G5 fun x d v O H Q _ e dv q=>by
 cases x with
 | int i=>cases e; exact⟨i,fu.mp dv,q _ H (bo.refl H) (fu.mpr rfl)⟩
 | _=>cases e)
def Bu:D->Option D
 | .str x=>if small x.length then some (.str (Txt.upper x)) else none
 | _=>none
def Hg (f:FX):FX:=f1 Bu f
def Ge:D->Option D
 | .lst xs=>some (.lst xs.reverse)
 | .tup xs=>some (.tup xs.reverse)
 | _=>none
def LD (f:FX):FX:=f1 Ge f
end

end TG
namespace ZI
open PySem PySem.Spec PyProof.Rows
section
variable {prog:Qr} {w:Qq} {A:QA} {E:Qp->QB->Prop} {s:QB}
theorem yd {it t:Qs} {i:Nat} {its:Array Qp} {x:Qp} {Q:Qp->QB->Prop} (hit:s.heap.IsTupleIter it t i) (ht:s.heap.IsTuple t its) (hx:its[i]?=some x)
  (hQ:∀ g,g.IsTupleIter it t (i+1)->PV it s.heap g->Q x { s with heap:=g }):QD (model prog w) A (Builtin.SmallTypes.nextOf (.ref it)) Q E s:=by
 obtain⟨ob,h1,h2,h3⟩:=id hit
 obtain⟨ol,g1,_,n,g2⟩:=ht
 unfold Builtin.SmallTypes.nextOf
 refine QM (Rc (name:=Str.ofString "__next__") hit.typeIs F.slot_tuple_iterator_next (Rf F.slot_tuple_iterator_next hit.typeIs F.entry_tuple_iterator_next ?_ (F.args_tuple_iterator_next_1 _)))
 show QD _ _ (field (.ref it) 0 >>= _) _ _ s; refine QM (Ra h1 h3 (x:=.ref t) rfl ?_)
 show QD _ _ (if (Value.ref t==Value.none)=true then _ else _) _ _ s; rw [if_neg (show ¬ ((Value.ref t==Value.none)=true) from fun z=>MF z)]
 show QD _ _ (field (.ref it) 1 >>= _) _ _ s; refine QM (Ra h1 h3 (x:=.int i 0) rfl ?_)
 show QD _ _ (seqItems? (.ref t) >>= _) _ _ s; refine QM (Rv g1 g2 ?_)
 simp only [MX,hx]
 refine QM (Rw h1 h3 (by simp) (QL ⟨x,rfl,QL (hQ _ ⟨_,P0 _ h1 (Obj.isFreed_of_fields (Obj.data_mapFields h3 _)),(Obj.cls_mapFields ..).trans h2,by rw [Obj.data_mapFields h3]; simp [rawInt]⟩ (Heap.SameBut.update ..))⟩))
theorem AG {it t:Qs} {i:Nat} {its:Array Qp} {Q:Qp->QB->Prop} (hh:A.handled=none) (hit:s.heap.IsTupleIter it t i) (ht:s.heap.IsTuple t its) (hx:its[i]?=none)
  (hE:∀ g e,P4 it s.heap g->(∃ o,g.get? e=some o/\o.cls=.type "StopIteration")->E (.ref e) { s with heap:=g }):QD (model prog w) A (Builtin.SmallTypes.nextOf (.ref it)) Q E s:=by
 obtain⟨ob,h1,h2,h3⟩:=id hit
 obtain⟨ol,g1,_,n,g2⟩:=ht
 unfold Builtin.SmallTypes.nextOf
 refine QM (Rc (name:=Str.ofString "__next__") hit.typeIs F.slot_tuple_iterator_next (Rf F.slot_tuple_iterator_next hit.typeIs F.entry_tuple_iterator_next ?_ (F.args_tuple_iterator_next_1 _)))
 show QD _ _ (field (.ref it) 0 >>= _) _ _ s; refine QM (Ra h1 h3 (x:=.ref t) rfl ?_)
 show QD _ _ (if (Value.ref t==Value.none)=true then _ else _) _ _ s; rw [if_neg (show ¬ ((Value.ref t==Value.none)=true) from fun z=>MF z)]
 show QD _ _ (field (.ref it) 1 >>= _) _ _ s; refine QM (Ra h1 h3 (x:=.int i 0) rfl ?_)
 show QD _ _ (seqItems? (.ref t) >>= _) _ _ s; refine QM (Rv g1 g2 ?_)
 simp only [MX,hx]; refine QM (Rq (QM (Rw h1 h3 (by simp) ?_)))
 show QD _ _ (newExc (.type "StopIteration") [] >>= _) _ _ _; refine QM ?_
 simp only [newExc,newTuple]; refine QM (Rh ?_ (by size_fits))
 refine QM (m:=firstArgMember _ _) (wpAny_of_eq (a:=Value.none) (by first | rfl | (simp only [firstArgMember]; rfl)) ?_); refine Rh ?_ (by size_fits)
 simp only [raiseNew]; refine QM (Rx ?_)
 first | rw [show A.in1.handled=none from hh] | rw [hh]
 refine QM (QL (wpAny_throw ?_)); exact hE _ _ (((Heap.SameBut.update ..).extBut.push _).push _) ⟨_,PY _ rfl,rfl⟩
end
theorem Hi {prog:Qr} {w:Qq} {A:QA} (hh:A.handled=none) (it t:Qs) (hne:t≠it) (its:Array Qp):Draws prog w A it [it,t] its.size (fun i v=>its[i]?=some v) (fun i h=>h.IsTupleIter it t i/\h.IsTuple t its) where
 live:=fun i h ⟨⟨o,e,_⟩,_⟩=>⟨o,e⟩
 frame:=fun i h h' ⟨x,y⟩ k=>⟨x.at fun o e=>k it (by simp) o e,let ⟨o,e,r⟩:=y; ⟨o,k t (by simp) o e,r⟩⟩
 item:=fun i s Q E hi ⟨x,y⟩ hQ=>yd x y (Array.getElem?_eq_getElem hi) fun g hg hs=>hQ _ g s.toks (Array.getElem?_eq_getElem hi) ⟨hg,let ⟨o,e,r⟩:=y; ⟨o,(hs.2 t hne).trans e,r⟩⟩ hs
 done:=fun s Q E ⟨x,y⟩ hE=>AG hh x y (by simp) hE

structure Apart (z TI TO i1 i2:Qs) (fp1 fp2:List Qs):Prop where
 a1:TI≠z
 a2:TO≠z
 a3:TI≠TO
 b1:z∉fp1
 b2:TO∉fp1
 b3:i2∉fp1
 c1:z∉fp2
 c2:TO∉fp2
 c3:i1∉fp2
 d1:TI≠i1
 d2:TI≠i2
 e1:i1∈fp1
 e2:i2∈fp2
section
variable {prog:Qr} {w:Qq} {A:QA} {E:Qp->QB->Prop} {s:QB} {z TI TO i1 i2:Qs} {fp1 fp2:List Qs} {n1 n2 i:Nat} {P1 P2:Nat->Qp->Prop} {S1 S2:Nat->Qu->Prop} {a b:Qp}
theorem next_item {Q:Qp->QB->Prop} (Ap:Apart z TI TO i1 i2 fp1 fp2) (D1:Draws prog w A i1 fp1 n1 P1 S1) (D2:Draws prog w A i2 fp2 n2 P2 S2) (hz:Ry s.heap z TI TO .none) (hTI:Rz s.heap TI (.ref i1) (.ref i2)) (hTO:Rz s.heap TO a b) (st1:S1 i s.heap) (st2:S2 i s.heap) (l1:i < n1) (l2:i < n2)
  (hQ:∀ x y g tk,P1 i x->P2 i y->Ry g z TI TO (rawInt s.heap.objs.size)->Rz g TO x y->S1 (i+1) g->S2 (i+1) g->Rz g s.heap.objs.size x y->g.objs.size=s.heap.objs.size+1 ->
   (∀ c o,c≠z->c≠TO->c≠i1->c≠i2->s.heap.get? c=some o->g.get? c=some o)->Q (.ref s.heap.objs.size) { s with heap:=g,toks:=tk }) :
  QD (model prog w) A (Builtin.«zip.__next__» ⟨[.ref z],[]⟩) (fun fin s'=>∃ v,fin=.done (.ret v)/\Q v s') E s:=by
 have n1z:i1≠z:=fun e=>Ap.b1 (e ▸ Ap.e1)
 have n2z:i2≠z:=fun e=>Ap.c1 (e ▸ Ap.e2)
 have n1T:i1≠TO:=fun e=>Ap.b2 (e ▸ Ap.e1)
 have n2T:i2≠TO:=fun e=>Ap.c2 (e ▸ Ap.e2)
 show QD _ _ (field (.ref z) 2 >>= _) _ _ _; refine QM (Ra hz rfl (x:=.bool false) rfl ?_)
 show QD _ _ (field (.ref z) 3 >>= _) _ _ _; refine QM (Ra hz rfl (x:=.ref TI) rfl ?_); refine QM (Rv hTI rfl ?_)
 show QD _ _ (Builtin.SmallTypes.ownedTupleIsFree (.ref z) >>= _) _ _ _; refine QM ?_
 unfold Builtin.SmallTypes.ownedTupleIsFree; refine QM (Ra hz rfl (x:=.none) rfl (QL ?_))
 simp only [if_true]; refine QM (Rq ?_); refine QM (Ra hz rfl (x:=.ref TO) rfl ?_)
 refine QM (RA hz (by simp) fun g1 hz1 k1=>?_)
 have hz1:Ry g1 z TI TO .ellipsis:=hz1
 refine QM ?_; simp only [List.zipIdx_cons,List.zipIdx_nil,Nc,List.forIn_nil]
 refine QM (QM (RB ?_)); show QD _ _ (Builtin.SmallTypes.nextOf (.ref i1) >>= _) _ _ _
 have q1:S1 i g1:=D1.frame _ _ _ st1 fun b hb o e=>k1.extBut _ _ (fun z'=>Ap.b1 (z' ▸ hb)) e
 refine QM (D1.item i { s with heap:=g1 } _ _ l1 q1 fun x g2 tk2 p1 q2 k2=>QL ?_)
 have t2:Rz g2 TO a b:=k2.extBut _ _ n1T.symm (k1.extBut _ _ Ap.a2 hTO)
 refine QM (Rv t2 rfl ?_); refine QM (RC t2 fun g3 t3 k3=>?_)
 have t3:Rz g3 TO x b:=t3
 refine QM (RD (QL ?_)); refine QM (QM (RB ?_)); show QD _ _ (Builtin.SmallTypes.nextOf (.ref i2) >>= _) _ _ _
 have q3:S2 i g3:=D2.frame _ _ _ st2 fun b hb o e=>k3.extBut _ _ (fun z'=>Ap.c2 (z' ▸ hb)) (k2.extBut _ _ (fun z'=>Ap.c3 (z' ▸ hb)) (k1.extBut _ _ (fun z'=>Ap.c1 (z' ▸ hb)) e))
 refine QM (D2.item i { s with heap:=g3,toks:=tk2 } _ _ l2 q3 fun y g4 tk4 p2 q4 k4=>QL ?_)
 have t4:Rz g4 TO x b:=k4.extBut _ _ n2T.symm t3
 refine QM (Rv t4 rfl ?_); refine QM (RC t4 fun g5 t5 k5=>?_)
 have t5:Rz g5 TO x y:=t5
 refine QM (RD (QL (QL ?_))); refine QM (Rv t5 rfl ?_); refine QM (RE ?_)
 have hsz:g5.objs.size=s.heap.objs.size:=by rw [k5.1,k4.1,k3.1,k2.1,k1.1]
 have hz5:Ry g5 z TI TO .ellipsis:=k5.extBut _ _ Ap.a2.symm (k4.extBut _ _ n2z.symm (k3.extBut _ _ Ap.a2.symm (k2.extBut _ _ n1z.symm hz1)))
 have k15:∀ c o,c≠z->c≠TO->c≠i1->c≠i2->s.heap.get? c=some o->g5.get? c=some o:=fun c o c1 c2 c3 c4 e=>k5.extBut _ _ c2 (k4.extBut _ _ c4 (k3.extBut _ _ c2 (k2.extBut _ _ c3 (k1.extBut _ _ c1 e))))
 have r1:S1 (i+1) g5:=D1.frame _ _ _ q2 fun b hb o e=>k5.extBut _ _ (fun z'=>Ap.b2 (z' ▸ hb)) (k4.extBut _ _ (fun z'=>Ap.b3 (z' ▸ hb)) (k3.extBut _ _ (fun z'=>Ap.b2 (z' ▸ hb)) e))
 have r2:S2 (i+1) g5:=D2.frame _ _ _ q4 fun b hb o e=>k5.extBut _ _ (fun z'=>Ap.c2 (z' ▸ hb)) e
 have lz:z < g5.objs.size:=PQ hz5
 show QD _ _ (Builtin.SmallTypes.ownedTupleHandOut (.ref z) (.ref g5.objs.size) >>= _) _ _ _; refine QM ?_
 unfold Builtin.SmallTypes.ownedTupleHandOut
 have hz6:Ry (g5.push { cls:=.type "tuple",data:=.seq #[x,y] }) z TI TO .ellipsis:=PX _ hz5
 refine QM (RA hz6 (by simp) fun g7 hz7 k7=>?_)
 have hz7:Ry g7 z TI TO (rawInt g5.objs.size):=hz7
 refine RA hz7 (by simp) fun g8 hz8 k8=>?_
 have hz8:Ry g8 z TI TO (rawInt g5.objs.size):=hz8
 have up:∀ c o,c≠z->g5.get? c=some o->g8.get? c=some o:=fun c o c1 e=>k8.extBut _ _ c1 (k7.extBut _ _ c1 (PX _ e))
 have t8:Rz g8 g5.objs.size x y:=k8.extBut _ _ (Mz lz) (k7.extBut _ _ (Mz lz) (PY _ rfl))
 have s8:g8.objs.size=g5.objs.size+1:=by rw [k8.1,k7.1,PZ]
 rw [hsz] at hz8 t8 s8
 refine QL ⟨_,rfl,?_⟩
 show Q (.ref g5.objs.size) _
 rw [hsz]
 exact hQ x y g8 tk4 p1 p2 hz8 (up _ _ Ap.a2 t5) (D1.frame _ _ _ r1 fun b hb o e=>up b o (fun z'=>Ap.b1 (z' ▸ hb)) e) (D2.frame _ _ _ r2 fun b hb o e=>up b o (fun z'=>Ap.c1 (z' ▸ hb)) e) t8 s8 fun c o c1 c2 c3 c4 e=>up c o c1 (k15 c o c1 c2 c3 c4 e)
theorem next_end {Q:Fin->QB->Prop} (Ap:Apart z TI TO i1 i2 fp1 fp2) (D1:Draws prog w A i1 fp1 n1 P1 S1) (D2:Draws prog w A i2 fp2 n2 P2 S2) (hz:Ry s.heap z TI TO .none) (hTI:Rz s.heap TI (.ref i1) (.ref i2)) (hTO:Rz s.heap TO a b) (st1:S1 i s.heap) (st2:S2 i s.heap) (hend:i=n1\/(i < n1/\i=n2))
  (hE:∀ g e tk,(∀ c o,c≠z->c≠TO->c≠i1->c≠i2->s.heap.get? c=some o->g.get? c=some o)->(∃ o,g.get? e=some o/\o.cls=.type "StopIteration")->E (.ref e) { s with heap:=g,toks:=tk }) :
  QD (model prog w) A (Builtin.«zip.__next__» ⟨[.ref z],[]⟩) Q E s:=by
 have n1z:i1≠z:=fun e=>Ap.b1 (e ▸ Ap.e1)
 have n2z:i2≠z:=fun e=>Ap.c1 (e ▸ Ap.e2)
 have n1T:i1≠TO:=fun e=>Ap.b2 (e ▸ Ap.e1)
 show QD _ _ (field (.ref z) 2 >>= _) _ _ _; refine QM (Ra hz rfl (x:=.bool false) rfl ?_)
 show QD _ _ (field (.ref z) 3 >>= _) _ _ _; refine QM (Ra hz rfl (x:=.ref TI) rfl ?_); refine QM (Rv hTI rfl ?_)
 show QD _ _ (Builtin.SmallTypes.ownedTupleIsFree (.ref z) >>= _) _ _ _; refine QM ?_
 unfold Builtin.SmallTypes.ownedTupleIsFree; refine QM (Ra hz rfl (x:=.none) rfl (QL ?_))
 simp only [if_true]; refine QM (Rq ?_); refine QM (Ra hz rfl (x:=.ref TO) rfl ?_)
 refine QM (RA hz (by simp) fun g1 hz1 k1=>?_)
 have hz1:Ry g1 z TI TO .ellipsis:=hz1
 refine QM ?_; simp only [List.zipIdx_cons,List.zipIdx_nil,Nc,List.forIn_nil]
 refine QM (QM (RB ?_)); show QD _ _ (Builtin.SmallTypes.nextOf (.ref i1) >>= _) _ _ _
 have q1:S1 i g1:=D1.frame _ _ _ st1 fun b hb o e=>k1.extBut _ _ (fun z'=>Ap.b1 (z' ▸ hb)) e
 rcases hend with hend | ⟨l1,hend⟩
 ·subst hend
  refine QM (D1.done { s with heap:=g1 } _ _ q1 fun g2 e k2 he=>?_)
  obtain⟨oe,hoe,hce⟩:=he
  have hz2:Ry g2 z TI TO .ellipsis:=k2 _ _ n1z.symm hz1
  have hez:e≠z:=fun x=>by rw [x,hz2] at hoe; cases hoe; simp at hce
  exact RA hz2 (by simp) fun g3 _ k3=>hE g3 e s.toks (fun c o c1 _ c3 _ x=>k3.extBut _ _ c1 (k2 _ _ c3 (k1.extBut _ _ c1 x))) ⟨oe,k3.extBut _ _ hez hoe,hce⟩
 ·refine QM (D1.item i { s with heap:=g1 } _ _ l1 q1 fun x g2 tk2 p1 q2 k2=>QL ?_)
  have t2:Rz g2 TO a b:=k2.extBut _ _ n1T.symm (k1.extBut _ _ Ap.a2 hTO)
  refine QM (Rv t2 rfl ?_); refine QM (RC t2 fun g3 t3 k3=>?_)
  refine QM (RD (QL ?_)); refine QM (QM (RB ?_)); show QD _ _ (Builtin.SmallTypes.nextOf (.ref i2) >>= _) _ _ _
  have q3:S2 i g3:=D2.frame _ _ _ st2 fun b hb o e=>k3.extBut _ _ (fun z'=>Ap.c2 (z' ▸ hb)) (k2.extBut _ _ (fun z'=>Ap.c3 (z' ▸ hb)) (k1.extBut _ _ (fun z'=>Ap.c1 (z' ▸ hb)) e))
  subst hend
  refine QM (D2.done { s with heap:=g3,toks:=tk2 } _ _ q3 fun g4 e k4 he=>?_)
  obtain⟨oe,hoe,hce⟩:=he
  have hz4:Ry g4 z TI TO .ellipsis:=k4 _ _ n2z.symm (k3.extBut _ _ Ap.a2.symm (k2.extBut _ _ n1z.symm hz1))
  have hez:e≠z:=fun x=>by rw [x,hz4] at hoe; cases hoe; simp at hce
  exact RA hz4 (by simp) fun g5 _ k5=>hE g5 e tk2 (fun c o c1 c2 c3 c4 x=>k5.extBut _ _ c1 (k4 _ _ c4 (k3.extBut _ _ c2 (k2.extBut _ _ c3 (k1.extBut _ _ c1 x))))) ⟨oe,k5.extBut _ _ hez hoe,hce⟩
end
def SQ (b:Bool) (h:Qu) (l:Qs) (xs:Array Qp):Prop:=if b then h.IsList l xs else h.IsTuple l xs
def SI (b:Bool) (h:Qu) (i l:Qs) (k:Nat):Prop:=if b then h.IsListIter i l k else h.IsTupleIter i l k
def Jj (b:Bool):String:=if b then "list_iterator" else "tuple_iterator"
theorem SQ.keep {b:Bool} {h h':Qu} {l:Qs} {xs:Array Qp} (x:SQ b h l xs) (k:∀ o,h.get? l=some o->h'.get? l=some o):SQ b h' l xs:=by
 cases b with
 | true=>exact Heap.IsList.at x k
 | false=>obtain⟨o,e,r⟩:=(show h.IsTuple l xs from x); exact(show h'.IsTuple l xs from ⟨o,k o e,r⟩)
theorem SI.keep {b:Bool} {h h':Qu} {i l:Qs} {n:Nat} (x:SI b h i l n) (k:∀ o,h.get? i=some o->h'.get? i=some o):SI b h' i l n:=by
 cases b with
 | true=>exact Heap.IsListIter.at x k
 | false=>exact Heap.IsTupleIter.at x k
theorem SQ.lt {b:Bool} {h:Qu} {l:Qs} {xs:Array Qp} (x:SQ b h l xs):l < h.objs.size:=by
 cases b with
 | true=>obtain⟨o,e,_⟩:=(show h.IsList l xs from x); exact PQ e
 | false=>obtain⟨o,e,_⟩:=(show h.IsTuple l xs from x); exact PQ e
theorem SI.get {b:Bool} {h:Qu} {i l:Qs} {n:Nat} (x:SI b h i l n):∃ o,h.get? i=some o/\∀ v,o.data≠.cell v:=by
 cases b with
 | true=>obtain⟨o,e,_,d⟩:=(show h.IsListIter i l n from x); exact⟨o,e,fun v z=>by rw [d] at z; cases z⟩
 | false=>obtain⟨o,e,_,d⟩:=(show h.IsTupleIter i l n from x); exact⟨o,e,fun v z=>by rw [d] at z; cases z⟩
theorem SI.new {b:Bool} {h:Qu} {l:Qs}:SI b (h.push { cls:=.type (Jj b),data:=.fields #[.ref l,.int 0 0] }) h.objs.size l 0:=by
 cases b with
 | true=>exact⟨_,PY _ rfl,rfl,rfl⟩
 | false=>exact⟨_,PY _ rfl,rfl,rfl⟩
theorem rd {b:Bool} {prog:Qr} {w:Qq} {A:QA} {E:Qp->QB->Prop} {s:QB} {l:Qs} {xs:Array Qp} {Q:Qp->QB->Prop} (h:SQ b s.heap l xs)
  (hQ:Q (.ref s.heap.objs.size) { s with heap:=s.heap.push { cls:=.type (Jj b),data:=.fields #[.ref l,.int 0 0] } }):QD (model prog w) A (pyIter (.ref l)) Q E s:=by
 cases b with
 | true=>exact QN h hQ
 | false=>exact wpAny_pyIter_tuple h hQ
theorem mP {prog:Qr} {w:Qq} {A:QA} (b:Bool) (hh:A.handled=none) (it l:Qs) (hne:l≠it) (its:Array Qp):Draws prog w A it [it,l] its.size (fun i v=>its[i]?=some v) (fun i h=>SI b h it l i/\SQ b h l its):=by
 cases b with
 | true=>exact Draws.list hh it l hne its
 | false=>exact Hi hh it l hne its
abbrev Bm (b1:Bool) (h:Qu) (l1:Qs):Qu:=h.push { cls:=.type (Jj b1),data:=.fields #[.ref l1,.int 0 0] }
abbrev Io (b1 b2:Bool) (h:Qu) (l1 l2:Qs):Qu:=(Bm b1 h l1).push { cls:=.type (Jj b2),data:=.fields #[.ref l2,.int 0 0] }
abbrev Jy (b1 b2:Bool) (h:Qu) (l1 l2:Qs):Qu:=(Io b1 b2 h l1 l2).push { cls:=.type "tuple",data:=.seq #[.ref h.objs.size,.ref (Bm b1 h l1).objs.size] }
abbrev JH (b1 b2:Bool) (h:Qu) (l1 l2:Qs):Qu:=(Jy b1 b2 h l1 l2).push { cls:=.type "tuple",data:=.seq #[.none,.none] }
abbrev EZ (b1 b2:Bool) (h:Qu) (l1 l2:Qs):Qu:=(JH b1 b2 h l1 l2).push { cls:=.type "zip",data:=.fields #[.none,.bool false,.bool false,.ref (Io b1 b2 h l1 l2).objs.size,.ref (Jy b1 b2 h l1 l2).objs.size] }
theorem BE (b1 b2:Bool) (l1 l2:Qs) (xs ys:Array Qp):Meets (Builtin.«zip.__new__» ⟨[.type "zip",.ref l1,.ref l2],[]⟩) (fun _ R s=>SQ b1 s.heap l1 xs/\SQ b2 s.heap l2 ys/\R (.ok (.ret (.ref (JH b1 b2 s.heap l1 l2).objs.size))) { s with heap:=EZ b1 b2 s.heap l1 l2 }) :=
 .of_wp fun prog w A R s h=>by
  obtain⟨hp,g,d,tk,os⟩:=s
  obtain⟨q1,q2,h⟩:=h
  have hsub:=sub_zip
  have e1:SQ b1 (Shared.heap ⟨hp,g,d,tk,os⟩) l1 xs:=q1
  have e2:SQ b2 (Shared.heap ⟨Bm b1 hp l1,g,d,tk,os⟩) l2 ys:=q2.keep fun o e=>PX _ e
  wp_walk using rd e1,rd e2
  exact⟨_,rfl,h⟩
theorem BQ {prog:Qr} {w:Qq} {A:QA} {E:Qp->QB->Prop} {s:QB} {b1 b2:Bool} {l1 l2:Qs} {xs ys:Array Qp} {Q:Qp->QB->Prop} (h1:SQ b1 s.heap l1 xs) (h2:SQ b2 s.heap l2 ys)
  (h:∀ g,Ry g (s.heap.objs.size+4) (s.heap.objs.size+2) (s.heap.objs.size+3) .none->Rz g (s.heap.objs.size+2) (.ref s.heap.objs.size) (.ref (s.heap.objs.size+1))->Rz g (s.heap.objs.size+3) .none .none->SI b1 g s.heap.objs.size l1 0->SI b2 g (s.heap.objs.size+1) l2 0 ->
   (∀ c o,s.heap.get? c=some o->g.get? c=some o)->Q (.ref (s.heap.objs.size+4)) { s with heap:=g }):QD (model prog w) A (call (.type "zip") [.ref l1,.ref l2]) Q E s:=by
 refine callType_new F.called_zip (by decide) (F.typeCall_zip_2 _ _) (F.newCall_zip_2 _ _) (fun obj=>F.args_object_init_3 obj _ _) F.entry_zip_new (BE b1 b2 l1 l2 xs ys) ⟨h1,h2,?_⟩
 have z1:(Bm b1 s.heap l1).objs.size=s.heap.objs.size+1:=PZ ..
 have z2:(Io b1 b2 s.heap l1 l2).objs.size=s.heap.objs.size+2:=by rw [PZ,z1]
 have z3:(Jy b1 b2 s.heap l1 l2).objs.size=s.heap.objs.size+3:=by rw [PZ,z2]
 have z4:(JH b1 b2 s.heap l1 l2).objs.size=s.heap.objs.size+4:=by rw [PZ,z3]
 have u1:∀ c o,(Bm b1 s.heap l1).get? c=some o->(EZ b1 b2 s.heap l1 l2).get? c=some o:=fun c o e=>PX _ (PX _ (PX _ (PX _ e)))
 have u2:∀ c o,(Io b1 b2 s.heap l1 l2).get? c=some o->(EZ b1 b2 s.heap l1 l2).get? c=some o:=fun c o e=>PX _ (PX _ (PX _ e))
 have g5:(EZ b1 b2 s.heap l1 l2).get? (JH b1 b2 s.heap l1 l2).objs.size=some _:=PY _ rfl
 have g4:(EZ b1 b2 s.heap l1 l2).get? (Jy b1 b2 s.heap l1 l2).objs.size=some _:=PX _ (PY _ rfl)
 have g3:(EZ b1 b2 s.heap l1 l2).get? (Io b1 b2 s.heap l1 l2).objs.size=some _:=PX _ (PX _ (PY _ rfl))
 have g2:SI b2 (EZ b1 b2 s.heap l1 l2) (Bm b1 s.heap l1).objs.size l2 0:=SI.keep (SI.new (h:=Bm b1 s.heap l1)) fun o e=>u2 _ o e
 have g1:SI b1 (EZ b1 b2 s.heap l1 l2) s.heap.objs.size l1 0:=SI.keep SI.new fun o e=>u1 _ o e
 show _/\_
 rw [z2,z3,z4] at g5
 rw [z1,z2] at g3
 rw [z3] at g4
 rw [z1] at g2
 rw [z4]
 exact⟨⟨_,g5,rfl⟩,h _ g5 g3 g4 g1 g2 fun c o e=>u1 c o (PX _ e)⟩
theorem zV (b : Bool) (l : Qs) (xs : Array Qp) : Meets (Builtin.«enumerate.__new__» ⟨[.type "enumerate", .ref l], []⟩) (fun _ R s => SQ b s.heap l xs /\
      R (.ok (.ret (.ref (Bm b s.heap l).objs.size))) { s with heap:=(Bm b s.heap l).push { cls:=.type "enumerate",data:=.fields #[.none,.bool false,.ref s.heap.objs.size,rawInt 0,.none,.none] } }) :=
  .of_wp fun prog w A R s h=>by
    obtain⟨hp,g,d,tk,os⟩:=s
    obtain⟨q1,h⟩:=h
    have hsub:=sub_enumerate
    have e1:SQ b (Shared.heap ⟨hp,g,d,tk,os⟩) l xs:=q1
    wp_walk using rd e1
    refine wpAny_stack_any fun st=>QL ?_
    split
    · rename_i c _ _ _ _ _
      cases (c==Value.type "enumerate") <;> (wp_walk using rd e1; exact⟨_,rfl,h⟩)
    · wp_walk using rd e1
      exact⟨_,rfl,h⟩
end ZI
namespace TG
open PySem PySem.Spec L2 ZI
variable [aR]
section
variable {X:Cx} {pins:List (Qs×Obj)} {σ:St} {H:Hp} {s:QB} {h':Qu}
theorem Inv.turnedL {ch:List Qs} {p:Qs} {o:HO} {t':Nat} (I:Inv X pins σ H s) (hf:∀ b∈ch,tI X pins H b) (k:∀ b u,b∉ch->s.heap.get? b=some u->h'.get? b=some u) (hp:s.heap.objs.size<=p) (new:cx X.prog X.w (upd H p o) h' p o) :
  Inv X pins σ (upd H p o) { s with heap:=h',toks:=t' }:=by
 have hn:=I.hok.fresh hp
 have nch:∀ b u,H b=some u->b∉ch:=fun b u e z=>by rw [(hf b z).1] at e; cases e
 refine I.step (g':=s.gens) (d':=s.drawn) (ch:=ch) (fun b hb=>?_) (fun b o _ _ hc e _=>k b o hc e) (fun b o _ _ hc e _=>⟨o.slots,k b o hc e⟩) (fun b u _ q n=>by rw [aD (Mq (Mo (PQ q) hp))]; exact n)
  (fun b o hc e=>⟨o,k b o hc e⟩) (fun b xs q=>by rw [aD (aU q hn)]; exact q) (fun b u xs q=>by rw [aD (aU q hn)]; exact q) (fun b ps q=>⟨#[],by rw [aD (aU q hn),q]; simp⟩) (fun m hm=>?_) (fun b u e=>?_) I.bare
 ·obtain⟨_,f1,_,f3,f4,f5⟩:=hf b hb
  exact⟨f3,f1,f4,f5⟩
 ·obtain⟨o,es,ep,ho,r⟩:=hm
  exact⟨o,es,ep,k _ o (fun z=>(hf _ z).2.1 rfl) ho,r⟩
 ·by_cases hb:b=p
  ·subst hb; rw [aM] at e; cases e; exact new
  ·rw [aD hb] at e
   refine(I.hok b u e).stay (fun c v hc q=>k c v ?_ q) (fun c q=>by rw [aD (aU q hn)]; exact q) fun c xs q=>by rw [aD (aU q hn)]; exact q
   rcases hc with z | z
   ·rw [z]; exact nch b u e
   ·exact nch c _ z
theorem Inv.turned0 {ch:List Qs} {t':Nat} (I:Inv X pins σ H s) (hf:∀ b∈ch,tI X pins H b) (k:∀ b u,b∉ch->s.heap.get? b=some u->h'.get? b=some u):Inv X pins σ H { s with heap:=h',toks:=t' }:=by
 have nch:∀ b u,H b=some u->b∉ch:=fun b u e z=>by rw [(hf b z).1] at e; cases e
 refine I.step (g':=s.gens) (d':=s.drawn) (ch:=ch) (fun b hb=>?_) (fun b o _ _ hc e _=>k b o hc e) (fun b o _ _ hc e _=>⟨o.slots,k b o hc e⟩) (fun _ _ _ _ n=>n)
  (fun b o hc e=>⟨o,k b o hc e⟩) (fun _ _ e=>e) (fun _ _ _ e=>e) (fun b ps e=>⟨#[],by rw [e]; simp⟩) (fun m hm=>?_) (fun b u e=>?_) I.bare
 ·obtain⟨_,f1,_,f3,f4,f5⟩:=hf b hb
  exact⟨f3,f1,f4,f5⟩
 ·obtain⟨o,es,ep,ho,r⟩:=hm
  exact⟨o,es,ep,k _ o (fun z=>(hf _ z).2.1 rfl) ho,r⟩
 ·refine(I.hok b u e).stay (fun c v hc q=>k c v ?_ q) (fun _ q=>q) fun _ _ q=>q
  rcases hc with z | z
  ·rw [z]; exact nch b u e
  ·exact nch c _ z
end
def SX (K:Pa) (b:Bool) (H:Hp) (a:Qs) (xs:List V):Prop:=if b then nV K H a xs else oM K H a xs
theorem SX.same {K:Pa} {b:Bool} {H H':Hp} {a:Qs} {xs:List V} (e:bo H H') (h:SX K b H a xs):SX K b H' a xs:=by
 cases b with
 | true=>exact e.seq (show nV K H a xs from h)
 | false=>exact A4 e (show oM K H a xs from h)
section
variable {X:Cx} {pins:List (Qs×Obj)} {σ:St} {H:Hp} {s:QB}
theorem Inv.sx (I:Inv X pins σ H s) {b:Bool} {a:Qs} {xs:List V} (h:SX X.K b H a xs):∃ its:List Qp,Vals xs its/\SQ b s.heap a its.toArray/\xs.length<=Qv:=by
 cases b with
 | true=>obtain⟨its,r,p,z⟩:=I.list (show nV X.K H a xs from h); exact⟨its,r,p.isList,z⟩
 | false=>obtain⟨its,r,p,z⟩:=I.tuple (show oM X.K H a xs from h); exact⟨its,r,p,z⟩
theorem Inv.sx_inj (I:Inv X pins σ H s) {b:Bool} {a:Qs} {xs ys:List V} (h:SX X.K b H a xs) (h':SX X.K b H a ys):xs=ys:=by
 cases b with
 | true=>exact I.list_inj h h'
 | false=>exact I.tuple_inj h h'
end
def LU (K:Pa) (b1 b2:Bool) (a1 a2:Qs):It :=
  ⟨fun i H=>∃ xs ys,SX K b1 H a1 xs/\SX K b2 H a2 ys/\i < xs.length/\i < ys.length,
   fun i H v H'=>∃ p x y,v=.ref p/\H p=none/\H'=upd H p (.tup [x,y])/\(∀ xs,SX K b1 H a1 xs->xs[i]?=some x)/\∀ ys,SX K b2 H a2 ys->ys[i]?=some y,
   fun i H=>∃ xs ys,SX K b1 H a1 xs/\SX K b2 H a2 ys/\(i=xs.length\/(i < xs.length/\i=ys.length))⟩
theorem C4 {P:Qr} {w:Qq} {K:Pa} {es:List QE} {k:Nat} {pos:Pos} {b1 b2:Bool} {a1 a2 z TI TO i1 i2:Qs} (Ap:Apart z TI TO i1 i2 [i1,a1] [i2,a2]) (n1:a1≠i1) (n2:a2≠i2) (n3:z≠i1) (n4:z≠i2):Turn P w K (.Tuple es k pos) (LU K b1 b2 a1 a2) [z,TI,TO,i1,i2] z
  (fun i h=>Ry h z TI TO .none/\Rz h TI (.ref i1) (.ref i2)/\(∃ a b,Rz h TO a b)/\SI b1 h i1 a1 i/\SI b2 h i2 a2 i) where
 mem:=by simp
 obj:=fun i h ⟨hz,hI,⟨a,b,hO⟩,s1,s2⟩ c hc=>by
  simp only [NM,NN,or_false] at hc
  rcases hc with rfl | rfl | rfl | rfl | rfl
  ·exact⟨_,hz,fun v q=>by cases q⟩
  ·exact⟨_,hI,fun v q=>by cases q⟩
  ·exact⟨_,hO,fun v q=>by cases q⟩
  ·exact s1.get
  ·exact s2.get
 keep:=fun i h h' ⟨hz,hI,⟨a,b,hO⟩,s1,s2⟩ kp=>⟨kp z (by simp) _ hz,kp TI (by simp) _ hI,⟨a,b,kp TO (by simp) _ hO⟩,s1.keep fun o e=>kp i1 (by simp) o e,s2.keep fun o e=>kp i2 (by simp) o e⟩
 item:=by
  intro X hP hw hK hc i pins s σ H E I hf ⟨hz,hI,⟨a,b,hO⟩,s1,s2⟩ hg
  subst hP hw hK
  obtain⟨xs,ys,g1,g2,l1,l2⟩:=hg
  obtain⟨its1,r1,q1,z1⟩:=Inv.sx I g1
  obtain⟨its2,r2,q2,z2⟩:=Inv.sx I g2
  have hh:X.A.in1.handled=none:=I.ok.hd hc
  have hT:s.TypeIs (.ref z) "zip":=⟨_,hz,rfl⟩
  unfold pyNext
  refine QM (RF (Rc (name:=Str.ofString "__next__") hT F.slot_zip_next (Rf F.slot_zip_next hT F.entry_zip_next
   (next_item Ap (mP (A:=X.A.in1) b1 hh i1 a1 n1 its1.toArray) (mP (A:=X.A.in1) b2 hh i2 a2 n2 its2.toArray) hz hI hO ⟨s1,q1⟩ ⟨s2,q2⟩ (by rw [ME,<- r1.length]; exact l1) (by rw [ME,<- r2.length]; exact l2) fun u v g tk p1 p2 hz' hO' t1 t2 hp sz kp=>?_) (F.args_zip_next_1 _))))
  have e1:its1[i]?=some u:=by simpa using p1
  have e2:its2[i]?=some v:=by simpa using p2
  have hx:∃ x,xs[i]?=some x/\RelV x u:=by
   obtain⟨u',hu,ru⟩:=r1.get (i:=i) (x:=xs[i]) (by simp [l1])
   rw [e1] at hu; cases hu
   exact⟨xs[i],by simp [l1],ru⟩
  have hy:∃ y,ys[i]?=some y/\RelV y v:=by
   obtain⟨u',hu,ru⟩:=r2.get (i:=i) (x:=ys[i]) (by simp [l2])
   rw [e2] at hu; cases hu
   exact⟨ys[i],by simp [l2],ru⟩
  obtain⟨x,ex,rx⟩:=hx
  obtain⟨y,ey,ry⟩:=hy
  refine QL ⟨_,rfl,?_⟩
  refine wpAny_letOwnedTupleGo_zip hz' fun g' hz2 sb=>?_
  have hpz:s.heap.objs.size≠z:=Mz (PQ hz)
  have hp':Rz g' s.heap.objs.size u v:=sb.extBut _ _ hpz hp
  have I':Inv X pins σ (upd H s.heap.objs.size (.tup [x,y])) { s with heap:=g',toks:=tk }:=Inv.turnedL (ch:=[z,TI,TO,i1,i2]) I hf (fun c o hc e=>by
   simp only [NM,NN,or_false,not_or] at hc
   exact sb.extBut _ _ hc.1 (kp c o hc.1 hc.2.2.1 hc.2.2.2.1 hc.2.2.2.2 e)) (MA _) ⟨by show 2<=Qv; decide,[u,v],.cons rx (.cons ry .nil),_,hp',rfl,_,rfl⟩
  have fr:H s.heap.objs.size=none:=I.fresh
  have ne:∀ c∈[z,TI,TO,i1,i2],c≠s.heap.objs.size:=fun c hc e=>by
   simp only [NM,NN,or_false] at hc
   rcases hc with rfl | rfl | rfl | rfl | rfl
   ·exact hpz e.symm
   ·exact absurd (PQ hI) (by rw [e]; exact Mp _)
   ·exact absurd (PQ hO) (by rw [e]; exact Mp _)
   ·obtain⟨o,q,_⟩:=s1.get; exact absurd (PQ q) (by rw [e]; exact Mp _)
   ·obtain⟨o,q,_⟩:=s2.get; exact absurd (PQ q) (by rw [e]; exact Mp _)
  refine⟨.ref s.heap.objs.size,_,I',rfl,⟨_,x,y,rfl,fr,rfl,fun xs' h=>by rw [Inv.sx_inj I h g1]; exact ex,fun ys' h=>by rw [Inv.sx_inj I h g2]; exact ey⟩,⟨hz2,?_,⟨u,v,sb.extBut _ _ Ap.a2 hO'⟩,?_,?_⟩,fun c hc=>by rw [aD (ne c hc)]; exact(hf c hc).1⟩
  ·exact sb.extBut _ _ Ap.a1 (kp TI _ Ap.a1 Ap.a3 Ap.d1 Ap.d2 hI)
  ·exact t1.1.keep fun o e=>sb.extBut _ _ n3.symm e
  ·exact t2.1.keep fun o e=>sb.extBut _ _ n4.symm e
 done:=by
  intro X hP hw hK hc i pins s σ H E I hf ⟨hz,hI,⟨a,b,hO⟩,s1,s2⟩ hg
  subst hP hw hK
  obtain⟨xs,ys,g1,g2,hl⟩:=hg
  obtain⟨its1,r1,q1,z1⟩:=Inv.sx I g1
  obtain⟨its2,r2,q2,z2⟩:=Inv.sx I g2
  have hh:X.A.in1.handled=none:=I.ok.hd hc
  have hT:s.TypeIs (.ref z) "zip":=⟨_,hz,rfl⟩
  unfold pyNext
  refine QM (RF (Rc (name:=Str.ofString "__next__") hT F.slot_zip_next (Rf F.slot_zip_next hT F.entry_zip_next
   (next_end (i:=i) Ap (mP (A:=X.A.in1) b1 hh i1 a1 n1 its1.toArray) (mP (A:=X.A.in1) b2 hh i2 a2 n2 its2.toArray) hz hI hO ⟨s1,q1⟩ ⟨s2,q2⟩ (by rw [ME,ME,<- r1.length,<- r2.length]; exact hl) fun g e tk kp he=>?_) (F.args_zip_next_1 _))))
  obtain⟨o,ho,hce⟩:=he
  refine QM (RG (T := "StopIteration") (b:=true) ⟨o,ho,hce⟩ RH ?_)
  refine QL ⟨rfl,Inv.turned0 (ch:=[z,TI,TO,i1,i2]) I hf fun c o hc e=>?_⟩
  simp only [NM,NN,or_false,not_or] at hc
  exact kp c o hc.1 hc.2.2.1 hc.2.2.2.1 hc.2.2.2.2 e
 self:=fun _ _ _ _ _ ⟨hz,_⟩ h=>wpAny_pyIter_zip hz h
def Ea:D->Option (Bool×List D)
 | .lst xs=>some (true,xs)
 | .tup xs=>some (false,xs)
 | _=>none
theorem sF {K:Pa} {H:Hp} {d:D} {b:Bool} {xs:List D} {v:V} (e:Ea d=some (b,xs)) (h:cK K H d v):∃ a vs,v=.ref a/\SX K b H a vs/\aW K H xs vs:=by
 cases d with
 | lst ys=>cases e; exact cD.mp h
 | tup ys=>cases e; obtain⟨a,vs,e1,e2,e3⟩:=cC.mp h; exact⟨a,vs,e1,oM.of e2,e3⟩
 | _=>cases e
def oA:List D->List D->List D
 | x::xs,y::ys=>.tup [x,y]::oA xs ys
 | _,_=>[]
theorem p9:∀ xs ys:List D,(oA xs ys).length=min xs.length ys.length
 | [],_=>by simp [oA]
 | _::_,[]=>by simp [oA]
 | x::xs,y::ys=>by
  rw [oA,MG,p9 xs ys,MG,MG]; omega
theorem xA:∀ {xs ys:List D} {i:Nat} {d:D},(oA xs ys)[i]?=some d->∃ x y,xs[i]?=some x/\ys[i]?=some y/\d=.tup [x,y]
 | [],_,i,d,h=>by simp [oA] at h
 | _::_,[],i,d,h=>by simp [oA] at h
 | x::xs,y::ys,0,d,h=>by
  rw [oA,NP] at h
  cases h
  exact⟨x,y,rfl,rfl,rfl⟩
 | x::xs,y::ys,i+1,d,h=>by
  rw [oA,NQ] at h
  obtain⟨a,b,h1,h2,h3⟩:=xA h
  exact⟨a,b,by rw [NQ]; exact h1,by rw [NQ]; exact h2,h3⟩
theorem B2 {K:Pa} {Hd:Hp} {b1 b2:Bool} {a1 a2:Qs} {ds es:List D} {vs ws:List V} (h1:SX K b1 Hd a1 vs) (g1:aW K Hd ds vs) (h2:SX K b2 Hd a2 ws) (g2:aW K Hd es ws):Walk K Hd (LU K b1 b2 a1 a2) (oA ds es):=fun Hn O' i hO sm =>
  have s':bo Hd Hn:=sm.trans (aC Hn O')
  ⟨fun d e=>by
    obtain⟨x,y,e1,e2,rfl⟩:=xA e
    have l1:i < ds.length:=(List.getElem?_eq_some_iff.mp e1).1
    have l2:i < es.length:=(List.getElem?_eq_some_iff.mp e2).1
    obtain⟨v,ev,dv⟩:=g1.get e1
    obtain⟨w,ew,dw⟩:=g2.get e2
    refine⟨⟨vs,ws,h1.same s',h2.same s',by rw [<- g1.length]; exact l1,by rw [<- g2.length]; exact l2⟩,fun u H2 ⟨p,x',y',eu,hp,eH,q1,q2⟩=>?_⟩
    have z1:=q1 vs (h1.same s')
    rw [ev] at z1; cases z1
    have z2:=q2 ws (h2.same s')
    rw [ew] at z2; cases z2
    subst eH eu
    exact⟨bD hp _,eN hO hp (bC.mpr ⟨v,_,rfl,dv.mono sm,bC.mpr ⟨w,_,rfl,dw.mono sm,cT.mpr rfl⟩⟩)⟩,
   fun hl=>by
    rw [p9] at hl
    refine⟨vs,ws,h1.same s',h2.same s',?_⟩
    rw [<- g1.length,<- g2.length]
    omega⟩
def Ai:List D->Option (List D)
 | [a,b]=>(Ea a).bind fun x=>(Ea b).bind fun y=>some (oA x.2 y.2)
 | _=>none
def Ey (f:aq->R (List D)):aq->R (List D):=fun ρ=>(f ρ).bind fun ds=>rO (Ai ds)
section
variable {X:Cx}
theorem Gs {a b c:Qs} (h1:a≠b) (h2:a≠c):a∉[b,c]:=fun h=>by
 rcases List.mem_cons.mp h with z | z
 ·exact h1 z
 ·exact h2 (List.mem_singleton.mp z)
theorem zY {n a1 a2:Qs} (h1:a1 < n) (h2:a2 < n):Apart (n+4) (n+2) (n+3) n (n+1) [n,a1] [n+1,a2]:=by
 have lt:∀ {a b:Nat},a < b->(b:Qs)≠(a:Qs):=fun h=>Mz h
 have lt':∀ {a b:Nat},a < b->(a:Qs)≠(b:Qs):=fun h=>Mq h
 have g:∀ k:Nat,a1 < n+k:=fun k=>Mo h1 (NR _ _)
 have g':∀ k:Nat,a2 < n+k:=fun k=>Mo h2 (NR _ _)
 have p:∀ {j k:Nat},j < k->n+j < n+k:=fun h=>NS h n
 have p0:∀ {k:Nat},0 < k->n < n+k:=fun h=>NU h
 exact⟨lt' (p (by decide)),lt' (p (by decide)),lt' (p (by decide)),Gs (lt (p0 (by decide))) (lt (g 4)),Gs (lt (p0 (by decide))) (lt (g 3)),Gs (lt (p0 (by decide))) (lt (g 1)),
  Gs (lt (p (by decide))) (lt (g' 4)),Gs (lt (p (by decide))) (lt (g' 3)),Gs (lt' (p0 (by decide))) (lt h2),lt (p0 (by decide)),lt (p (by decide)),Mu,Mu⟩
theorem Gd {pins:List (Qs×Obj)} {s:QB} {σ:St} {H:Hp} {O:List Qs} {es:List QE} {k:Nat} {tpos:Pos} {ds r:List D} {vs:List V} {us:List Qp} {RR:It->Hp->Prop} (I:Inv X pins σ H s) (hc:Ai ds=some r) (d1:aW X.K (hid H O) ds vs) (rv:Vals vs us) (q:∀ J,Walk X.K (hid H O) J r->RR J H) :
  QD (model X.prog X.w) X.A (call (.type "zip") us) (fun v s1=>QD (model X.prog X.w) X.A (pyIter v) (PIE X pins σ (.Tuple es k tpos) RR) X.xe s1) X.xe s:=by
 unfold Ai at hc
 split at hc
 ·rename_i a b
  obtain⟨⟨b1,xs⟩,e1,hc⟩:=bind_some hc
  obtain⟨⟨b2,ys⟩,e2,hc⟩:=bind_some hc
  cases hc
  obtain⟨va,vb,rfl,da,db⟩:=d1.two
  obtain⟨u1,u2,rfl,r1,r2⟩:=vals2 rv
  obtain⟨a1,ws1,rfl,x1,y1⟩:=sF e1 da
  obtain⟨a2,ws2,rfl,x2,y2⟩:=sF e2 db
  cases r1
  cases r2
  obtain⟨its1,rr1,q1,_⟩:=Inv.sx I (x1.same (aC H O))
  obtain⟨its2,rr2,q2,_⟩:=Inv.sx I (x2.same (aC H O))
  refine BQ q1 q2 fun g hz hI hO s1 s2 kp=>wpAny_pyIter_zip hz ?_
  have Ap:=zY q1.lt q2.lt
  refine⟨_,_,_,_,H,rfl,I.kept (t':=s.toks) kp,C4 (b1:=b1) (b2:=b2) Ap (Mq q1.lt) (Mq (Mo q2.lt (NR _ 1))) (Mz (NU (by decide))) (Mz (NS (by decide) _)),⟨hz,hI,⟨_,_,hO⟩,s1,s2⟩,fun b hb=>?_,q _ (B2 x1 y1 x2 y2)⟩
  have le:s.heap.objs.size<=b:=by
   simp only [NM,NN,or_false] at hb
   rcases hb with rfl | rfl | rfl | rfl | rfl
   ·exact NR _ _
   ·exact NR _ _
   ·exact NR _ _
   ·exact MA _
   ·exact NR _ _
  exact I.fpOk le (I.hok.fresh le)
 ·cases hc
theorem Kc {a b:QE} {es:List QE} {k:Nat} {tpos:Pos} {f:aq->R (List D)} {p pos:Pos} (hg:Gl X "zip") (hm:X.mg "zip"=none) (ha:FA X [a,b] f) (hs:QF [a,b] X.env=(false,eval a X.env)::QF [b] X.env:=by rfl) (hpl:(backTo pos (QF [b] X.env)).any (·.1)=false:=by rfl):FI X (.Tuple es k tpos) (.Call (.Name "zip" p) [a,b] [] pos) (Ey f):=by
 intro pins s σ H RR I ⟨O,ρ,E,hG⟩
 have hA:=ha pos pins s σ H (fun vs H1=>∃ ds r,Ai ds=some r/\aW X.K (hid H1 O) ds vs/\∀ J,Walk X.K (hid H1 O) J r->RR J H1) I ⟨O,ρ,E,(iU.bind hG).imp fun ds hG vs H1 s1 d1=>by
  obtain⟨r,e,q⟩:=iU.rO hG
  exact⟨ds,r,e,d1,fun J wk=>q J H1 s1 wk⟩⟩
 refine Qc (lM I hg hm PyProof.Rows.boot_zip (P8 (eK hA fun us s1 ⟨vs,H1,I1,r1,ds,r,er,d1,q⟩=>?_) hs hpl))
 exact Gd I1 er d1 r1 q
end
def LJ (K:Pa) (b:Bool) (a:Qs):It :=
  ⟨fun i H=>∃ xs,SX K b H a xs/\i < xs.length,
   fun i H v H'=>∃ p x,v=.ref p/\H p=none/\H'=upd H p (.tup [.int i,x])/\∀ xs,SX K b H a xs->xs[i]?=some x,
   fun i H=>∃ xs,SX K b H a xs/\i=xs.length⟩
theorem A0 {P:Qr} {w:Qq} {K:Pa} {es:List QE} {k:Nat} {pos:Pos} {b:Bool} {a e it:Qs} (n1:a≠it) (n2:e≠it) (n3:e≠a):Turn P w K (.Tuple es k pos) (LJ K b a) [e,it] e (fun i h=>(∃ old,IsEnum h e it i old)/\SI b h it a i) where
 mem:=by simp
 obj:=fun i h ⟨⟨old,he⟩,s1⟩ c hc=>by
  simp only [NM,NN,or_false] at hc
  rcases hc with rfl | rfl
  ·exact⟨_,he,fun v q=>by cases q⟩
  ·exact s1.get
 keep:=fun i h h' ⟨⟨old,he⟩,s1⟩ kp=>⟨⟨old,kp e (by simp) _ he⟩,s1.keep fun o q=>kp it (by simp) o q⟩
 item:=by
  intro X hP hw hK hc i pins s σ H E I hf ⟨⟨old,he⟩,s1⟩ hg
  subst hP hw hK
  obtain⟨xs,g1,l1⟩:=hg
  obtain⟨its,r1,q1,z1⟩:=Inv.sx I g1
  have hh:X.A.in1.handled=none:=I.ok.hd hc
  refine wpAny_pyNext_enum_itemD (mP (A:=X.A.in1) b hh it a n1 its.toArray) he ⟨s1,q1⟩ (by rw [ME,<- r1.length]; exact l1) n2 (Gs n2 n3) fun u g tk p1 ho t1 hp sz kp=>?_
  have e1:its[i]?=some u:=by simpa using p1
  obtain⟨u',hu,ru⟩:=r1.get (i:=i) (x:=xs[i]) (by simp [l1])
  rw [e1] at hu; cases hu
  refine⟨_,rfl,wpAny_letOwnedTupleGo_enum ho fun g' he' sb=>?_⟩
  have hpe:s.heap.objs.size≠e:=Mz (PQ he)
  have hp':=sb.extBut _ _ hpe hp
  have I':Inv X pins σ (upd H s.heap.objs.size (.tup [.int i,xs[i]])) { s with heap:=g',toks:=tk+1 }:=Inv.turnedL (ch:=[e,it]) I hf (fun c o hc q=>by
   simp only [NM,NN,or_false,not_or] at hc
   exact sb.extBut _ _ hc.1 (kp c o hc.1 hc.2 q)) (MA _) ⟨by show 2<=Qv; decide,[.int i tk,u],.cons ⟨_,rfl⟩ (.cons ru .nil),_,hp',rfl,_,rfl⟩
  have ne:∀ c∈[e,it],c≠s.heap.objs.size:=fun c hc q=>by
   simp only [NM,NN,or_false] at hc
   rcases hc with rfl | rfl
   ·exact hpe q.symm
   ·obtain⟨o,q',_⟩:=s1.get; exact absurd (PQ q') (by rw [q]; exact Mp _)
  refine⟨.ref s.heap.objs.size,_,I',rfl,⟨_,xs[i],rfl,I.fresh,rfl,fun xs' h=>by rw [Inv.sx_inj I h g1]; simp [l1]⟩,⟨⟨u,?_⟩,t1.1.keep fun o q=>sb.extBut _ _ n2.symm q⟩,fun c hc=>by rw [aD (ne c hc)]; exact(hf c hc).1⟩
  have ei:((i+1:Nat):Int)=(i:Int)+1:=by omega
  rw [ei]; exact he'
 done:=by
  intro X hP hw hK hc i pins s σ H E I hf ⟨⟨old,he⟩,s1⟩ hg
  subst hP hw hK
  obtain⟨xs,g1,l1⟩:=hg
  obtain⟨its,r1,q1,z1⟩:=Inv.sx I g1
  have hh:X.A.in1.handled=none:=I.ok.hd hc
  have el:i=its.toArray.size:=by rw [ME,<- r1.length]; exact l1
  refine wpAny_pyNext_enum_endD (mP (A:=X.A.in1) b hh it a n1 its.toArray) he ⟨by rw [<- el]; exact s1,q1⟩ fun g kp=>⟨rfl,Inv.turned0 (ch:=[e,it]) I hf fun c o hc q=>?_⟩
  simp only [NM,NN,or_false,not_or] at hc
  exact kp c o hc.2 q
 self:=fun _ _ _ _ _ ⟨⟨old,he⟩,_⟩ h=>wpAny_pyIter_enum he h
def iZ (i:Nat):List D->List D
 | []=>[]
 | x::xs=>.tup [.int i,x]::iZ (i+1) xs
theorem hZ:∀ (i:Nat) (xs:List D),(iZ i xs).length=xs.length
 | _,[]=>rfl
 | i,x::xs=>by rw [iZ,MG,hZ (i+1) xs,MG]
theorem uj:∀ {xs:List D} {k i:Nat} {d:D},(iZ k xs)[i]?=some d->∃ x,xs[i]?=some x/\d=.tup [.int ((k+i:Nat):Int),x]
 | [],k,i,d,h=>by simp [iZ] at h
 | x::xs,k,0,d,h=>by
  rw [iZ,NP] at h
  cases h
  exact⟨x,rfl,rfl⟩
 | x::xs,k,i+1,d,h=>by
  rw [iZ,NQ] at h
  obtain⟨y,h1,h2⟩:=uj h
  refine⟨y,by rw [NQ]; exact h1,?_⟩
  rw [h2]
  congr 4
  omega
theorem Bd {K:Pa} {Hd:Hp} {b:Bool} {a:Qs} {ds:List D} {vs:List V} (h1:SX K b Hd a vs) (g1:aW K Hd ds vs):Walk K Hd (LJ K b a) (iZ 0 ds):=fun Hn O' i hO sm =>
  have s':bo Hd Hn:=sm.trans (aC Hn O')
  ⟨fun d e=>by
    obtain⟨x,e1,rfl⟩:=uj e
    have l1:i < ds.length:=(List.getElem?_eq_some_iff.mp e1).1
    obtain⟨v,ev,dv⟩:=g1.get e1
    refine⟨⟨vs,h1.same s',by rw [<- g1.length]; exact l1⟩,fun u H2 ⟨p,x',eu,hp,eH,q1⟩=>?_⟩
    have z1:=q1 vs (h1.same s')
    rw [ev] at z1; cases z1
    subst eH eu
    rw [NV]
    exact⟨bD hp _,eN hO hp (bC.mpr ⟨.int i,_,rfl,fu.mpr rfl,bC.mpr ⟨v,_,rfl,dv.mono sm,cT.mpr rfl⟩⟩)⟩,
   fun hl=>by
    rw [hZ] at hl
    exact⟨vs,h1.same s',by rw [<- g1.length]; exact hl⟩⟩
def uz:List D->Option (List D)
 | [a]=>(Ea a).bind fun x=>some (iZ 0 x.2)
 | _=>none
def fH (f:aq->R (List D)):aq->R (List D):=fun ρ=>(f ρ).bind fun ds=>rO (uz ds)
section
variable {X:Cx}
theorem zX {prog:Qr} {w:Qq} {A:QA} {E:Qp->QB->Prop} {s:QB} {b:Bool} {l:Qs} {xs:Array Qp} {Q:Qp->QB->Prop} (h1:SQ b s.heap l xs)
  (h:∀ g,IsEnum g (s.heap.objs.size+1) s.heap.objs.size 0 .none->SI b g s.heap.objs.size l 0->(∀ c o,s.heap.get? c=some o->g.get? c=some o)->Q (.ref (s.heap.objs.size+1)) { s with heap:=g }):QD (model prog w) A (call (.type "enumerate") [.ref l]) Q E s:=by
 refine callType_new F.called_enumerate (by decide) (F.typeCall_enumerate_1 _) (F.newCall_enumerate_1 _) (fun obj=>F.args_object_init_2 obj _) F.entry_enumerate_new (zV b l xs) ⟨h1,?_⟩
 have z1:(Bm b s.heap l).objs.size=s.heap.objs.size+1:=PZ ..
 have g2:=PY (Bm b s.heap l) (o:={ cls:=.type "enumerate",data:=.fields #[.none,.bool false,.ref s.heap.objs.size,rawInt 0,.none,.none] }) rfl
 have g1:SI b ((Bm b s.heap l).push { cls:=.type "enumerate",data:=.fields #[.none,.bool false,.ref s.heap.objs.size,rawInt 0,.none,.none] }) s.heap.objs.size l 0:=SI.keep SI.new fun o e=>PX _ e
 show _/\_
 rw [z1] at g2 ⊢
 exact⟨⟨_,g2,rfl⟩,h _ g2 g1 fun c o e=>PX _ (PX _ e)⟩
theorem Dt {pins:List (Qs×Obj)} {s:QB} {σ:St} {H:Hp} {O:List Qs} {es:List QE} {k:Nat} {tpos:Pos} {ds r:List D} {vs:List V} {us:List Qp} {RR:It->Hp->Prop} (I:Inv X pins σ H s) (hc:uz ds=some r) (d1:aW X.K (hid H O) ds vs) (rv:Vals vs us) (q:∀ J,Walk X.K (hid H O) J r->RR J H) :
  QD (model X.prog X.w) X.A (call (.type "enumerate") us) (fun v s1=>QD (model X.prog X.w) X.A (pyIter v) (PIE X pins σ (.Tuple es k tpos) RR) X.xe s1) X.xe s:=by
 unfold uz at hc
 split at hc
 ·rename_i a
  obtain⟨⟨b1,xs⟩,e1,hc⟩:=bind_some hc
  cases hc
  obtain⟨va,rfl,da⟩:=d1.one
  obtain⟨u1,rfl,r1⟩:=vals1 rv
  obtain⟨a1,ws1,rfl,x1,y1⟩:=sF e1 da
  cases r1
  obtain⟨its1,rr1,q1,_⟩:=Inv.sx I (x1.same (aC H O))
  refine zX q1 fun g he s1 kp=>wpAny_pyIter_enum he ?_
  refine⟨_,_,_,_,H,rfl,I.kept (t':=s.toks) kp,A0 (b:=b1) (Mq q1.lt) (Mz (NU (by decide))) (Mz (Mo q1.lt (NR _ 1))),⟨⟨_,he⟩,s1⟩,fun b hb=>?_,q _ (Bd x1 y1)⟩
  have le:s.heap.objs.size<=b:=by
   simp only [NM,NN,or_false] at hb
   rcases hb with rfl | rfl
   ·exact NR _ _
   ·exact MA _
  exact I.fpOk le (I.hok.fresh le)
 ·cases hc
theorem Ee {a:QE} {es:List QE} {k:Nat} {tpos:Pos} {f:aq->R (List D)} {p pos:Pos} (hg:Gl X "enumerate") (hm:X.mg "enumerate"=none) (ha:FA X [a] f) (hs:QF [a] X.env=(false,eval a X.env)::QF [] X.env:=by rfl) (hpl:(backTo pos (QF [] X.env)).any (·.1)=false:=by rfl):FI X (.Tuple es k tpos) (.Call (.Name "enumerate" p) [a] [] pos) (fH f):=by
 intro pins s σ H RR I ⟨O,ρ,E,hG⟩
 have hA:=ha pos pins s σ H (fun vs H1=>∃ ds r,uz ds=some r/\aW X.K (hid H1 O) ds vs/\∀ J,Walk X.K (hid H1 O) J r->RR J H1) I ⟨O,ρ,E,(iU.bind hG).imp fun ds hG vs H1 s1 d1=>by
  obtain⟨r,e,q⟩:=iU.rO hG
  exact⟨ds,r,e,d1,fun J wk=>q J H1 s1 wk⟩⟩
 refine Qc (lM I hg hm PyProof.Rows.boot_enumerate (P8 (eK hA fun us s1 ⟨vs,H1,I1,r1,ds,r,er,d1,q⟩=>?_) hs hpl))
 exact Dt I1 er d1 r1 q
end
end TG
namespace TG
open PySem PySem.Spec L2
variable [aR]

theorem Av {K:Pa} {c:Str} {C C':Qs} (h:clsAt K c C) (h':clsAt K c C'):C=C':=by
 unfold clsAt at h h'
 rw [h] at h'
 cases h'; rfl
theorem uL {f:Str}:∀ {fs:List Str} {vs:List V},fs.contains f=false->(fs.zip vs).lookup f=none
 | [],_,_=>by simp
 | _::_,[],_=>by simp
 | g::fs,x::vs,h=>by
  rw [NW,NX] at h
  rw [NY,Nb,h.1]
  exact uL h.2
def L8 (f:Str) (cs:List Str) (d:D):Option D:=match d with
 | .obj c fs vs=>if cs.contains c then (fs.zip vs).lookup f else none
 | _=>none
section
variable {X:Cx} {a o e:QE} {es:List QE} {fa fo:FX} {fas:aq->R (List D)} {f m x:Str} {cs:List Str} {pos apos p:Pos} {k k':Nat} {ps:List Str}
def MethAt (P:Qr) (w:Qq) (K:Pa) (mg:Str->Option Qp) (base:Qu) (k:Nat) (c m:Str) (ps:List Str) (g:List D->R D):Prop :=
 ∃ C f fd,clsAt K c C/\Bn K C/\Meth K C m f/\iV P w K mg base (nA P w) k f fd ps (Bk K ps.length g)/\Binds K fd ps []
def eM (m:Str) (tbl:List (Str×(List D->R D))) (fo:FX) (fas:aq->R (List D)):FX:=fun ρ=>(fo ρ).bind fun o=>match o with
 | .obj c fs vs=>match tbl.lookup c with
  | some g=>if fs.contains m then un else (fas ρ).bind fun as=>g (o::as)
  | none=>un
 | _=>un
def nq (P:Qr) (w:Qq) (K:Pa) (mg:Str->Option Qp) (base:Qu) (k:Nat) (m:Str) (ps:List Str) (tbl:List (Str×(List D->R D))):Prop :=
 ∀ c g,tbl.lookup c=some g->MethAt P w K mg base k c m ps g/\Ar ps.length g
theorem yY {P:Qr} {w:Qq} {K:Pa} {mg:Str->Option Qp} {base:Qu}:nq P w K mg base k m ps []:=fun _ _ h=>nomatch h
theorem oj {P:Qr} {w:Qq} {K:Pa} {mg:Str->Option Qp} {base:Qu} {c:Str} {g:List D->R D} {tbl:List (Str×(List D->R D))} (h:MethAt P w K mg base k c m ps g) (hn:Ar ps.length g) (t:nq P w K mg base k m ps tbl):nq P w K mg base k m ps ((c,g)::tbl):=fun c' g' e=>by
 rw [Nb] at e
 cases hc:c'==c with
 | true =>
  rw [hc] at e
  cases e
  have:c'=c:=by simpa using hc
  subst this
  exact⟨h,hn⟩
 | false=>rw [hc] at e; exact t c' g' e
theorem MethAt.mono {P:Qr} {w:Qq} {K:Pa} {mg:Str->Option Qp} {base:Qu} {c:Str} {g:List D->R D} (h:MethAt P w K mg base k c m ps g) (hk:k<=k'):MethAt P w K mg base k' c m ps g:=by
 obtain⟨C,f,fd,h1,h2,h3,h4,h5⟩:=h
 exact⟨C,f,fd,h1,h2,h3,h4.mono hk,h5⟩
theorem B5 {tbl:List (Str×(List D->R D))} {args:List QE} {pl:Sem Bool} (tb:nq X.prog X.w X.K X.mg X.base k m ps tbl) (hr:fE k X.A) (ho:FE X o fo)
  (hc:∀ (pins:List (Qs×Obj)) (s1:QB) (σ:St) (H1:Hp) (O:List Qs) (ρ:aq) (a f:Qs) (od:D) (Q:VK) (g:List D->R D) (fd:Q0) (w0:V),Pt X.K (.ref f)=true->iV X.prog X.w X.K X.mg X.base (nA X.prog X.w) k f fd ps (Bk X.K ps.length g)->Binds X.K fd ps []->Ar ps.length g->Inv X pins σ H1 s1->dZ X.K O H1 ρ σ->cK X.K (hid H1 O) od (.ref a) ->
   (iU X σ O H1 ((fas ρ).bind fun as=>g (od::as)) fun d=>∀ v H',bo H1 H'->cK X.K (hid H' O) d v->Q v H') ->
   QD (model X.prog X.w) X.A (QW pos (.ref f) [.ref a] (backTo pos (QF args X.env)) (backToKw pos (QX [] X.env))) (EP X pins σ Q) X.xe s1)
  (ht:eval (.Call (.Attribute o m apos) args [] pos) X.env=(do
   let ov <- eval o X.env
   standAt apos.atName
   let (f,first) <- holding [ov] (getMethod ov m pl)
   QW pos f first (backTo pos (QF args X.env)) (backToKw pos (QX [] X.env)))) :
  FE X (.Call (.Attribute o m apos) args [] pos) (eM m tbl fo fas):=by
 intro pins s σ H Q I ⟨O,ρ,E,hF⟩
 refine v4 ho I ?_ ht
 refine⟨O,ρ,E,(iU.bind hF).imp fun d hF v H1 s1 d1=>?_⟩
 cases d with
 | obj c fs vs =>
  have hF':iU X σ O H (match tbl.lookup c with | some g=>if fs.contains m then un else (fas ρ).bind fun as=>g (.obj c fs vs::as) | none=>un) _:=hF
  cases hg:tbl.lookup c with
  | none=>rw [hg] at hF'; exact hF'.elim
  | some g =>
   rw [hg] at hF'
   have hF2:iU X σ O H (if fs.contains m then un else (fas ρ).bind fun as=>g (.obj c fs vs::as)) _:=hF'
   cases hm:fs.contains m with
   | true=>rw [hm] at hF2; exact hF2.elim
   | false =>
    rw [hm] at hF2
    have hF3:iU X σ O H ((fas ρ).bind fun as=>g (.obj c fs vs::as)) _:=hF2
    have d0:=d1
    obtain⟨a,ws,ev,g1,g2,C,dx,g3,g4⟩:=JN.mp d1
    obtain⟨⟨C',f,fd,m1,m2,m3,m4,m5⟩,ar⟩:=tb c g hg
    have eC:=Av g3 m1
    subst eC
    subst ev
    refine⟨a,C,dx,_,f,rfl,aC H1 O _ _ g4,m2,m3,uL hm,fun s2 I2=>?_⟩
    exact hc pins s2 σ H1 O ρ a f _ Q g fd (.ref a) m3.kp m4 m5 ar I2 (E.same s1) d0 ((hF3.mono s1).imp fun d q v H2 s2 d2=>q v H2 (s1.trans s2) d2)
 | _=>exact hF.elim
theorem x3 {σ:St} {O:List Qs} {H:Hp} {g:List D->R D} {ds:List D} {vs:List V} {Q:VK} {n:Nat} (ar:Ar n g) (hO:d9 H O) (d1:aW X.K (hid H O) ds vs) (h:iU X σ O H (g ds) fun d=>∀ v H',bo H H'->cK X.K (hid H' O) d v->Q v H'):∃ E,kX (nA X.prog X.w) X σ E/\Bk X.K n g vs H Q E:=by
 cases hg:g ds with
 | ok d =>
  rw [hg] at h
  refine⟨E0,za,O,ds,by rw [<- d1.length]; exact ar ds (by rw [hg]; intro z; cases z),hO,d1,?_⟩
  rw [hg]; exact h
 | error z =>
  rw [hg] at h
  cases z with
  | none=>exact h.elim
  | some x =>
   refine⟨zB X O H x,zg h,O,ds,by rw [<- d1.length]; exact ar ds (by rw [hg]; intro z; cases z),hO,d1,?_⟩
   rw [hg]; exact wq
theorem JQ {tbl:List (Str×(List D->R D))} {pl:Sem Bool} (tb:nq X.prog X.w X.K X.mg X.base k m ps tbl) (hr:fE k' X.A) (hk:k<=k') (ho:FE X o fo) (ha:FA X (e::es) fas)
  (hns:(e::es).all noStar=true:=by rfl)
  (ht:eval (.Call (.Attribute o m apos) (e::es) [] pos) X.env=(do
   let ov <- eval o X.env
   standAt apos.atName
   let (f,first) <- holding [ov] (getMethod ov m pl)
   QW pos f first (backTo pos (QF (e::es) X.env)) (backToKw pos (QX [] X.env))):=by rfl) :
  FE X (.Call (.Attribute o m apos) (e::es) [] pos) (eM m tbl fo fas) :=
 B5 tb (hr.mono hk) ho (fun pins s1 σ H1 O ρ a f od Q g fd _ kp F b ar I1 E1 dO hP=>by
  refine Pu (first:=[.ref a]) (h₀:=X.base) I1.ok.mod.kin kp (eK (ha pos pins s1 σ H1 _ I1 ⟨O,ρ,E1,(iU.bind hP).imp fun as hP vs H2 s2 d2=>x3 (vs:=.ref a::vs) ar (E1.all.same s2) (bC.mpr ⟨_,_,rfl,dO.mono (bT s2),d2⟩) ((hP.mono s2).imp fun d q v H3 s3 d3=>q v H3 (s2.trans s3) d3)⟩) fun us s2 ⟨vs,H2,I2,r,Ex,hx,q2⟩=>⟨I2.kIn,?_⟩) (cW (MZ _ _ ▸ hns).1) (fV (MZ _ _ ▸ hns).2)
  exact zk (us:=.ref a::us) (vs:=.ref a::vs) F (hr.mono hk) b hx I2 (.cons rfl r) q2) ht
theorem mC {P:Qr} {w:Qq} {K:Pa} {mg:Str->Option Qp} {base:Qu} {c y qual:Str} {C f:Qs} {fd:Q0} {st:QG} {N:List Str} {B:cB} (h1:clsAt K c C) (h2:Bn K C) (h3:Meth K C m f) (F:vv K y qual st f fd) (b:Binds K fd ps []) (SC:bj N ps (ay st)) (hb:BodyOk P w K mg base k N qual st f B) :
  MethAt P w K mg base (k+1) c m ps (bc B ps.length N.length):=⟨C,f,fd,h1,h2,h3,vP F SC hb,b⟩
def L4 (C:Qs) (fs:List Str):Sp:=fun vs H Q _=>∃ x dx as,vs=.ref x::as/\as.length=fs.length/\H x=some (.ins C dx [])/\Q .non (upd H x (.ins C dx (fs.zip as)))
def rZ (P:Qr) (w:Qq) (K:Pa) (mg:Str->Option Qp) (base:Qu) (k:Nat) (c:Str) (ps fs:List Str):Prop :=
 ∃ C f fd,clsAt K c C/\Mk K C f/\iV P w K mg base (nA P w) k f fd ps (L4 C fs)/\Binds K fd ps []/\mg c=some (.ref C)
def fNew (c:Str) (fs:List Str) (fas:aq->R (List D)):FX:=fun ρ=>(fas ρ).bind fun as=>if as.length=fs.length then .ok (.obj c fs as) else un
theorem wO {K:Pa} {H1:Hp} {O:List Qs} {c:Str} {fs:List Str} {as:List D} {vs:List V} {C x dx:Qs} (hc:clsAt K c C) (hl:as.length=fs.length) (d1:aW K (hid H1 O) as vs) (hO:d9 H1 O) (hx:H1 x=none) (hd:H1 dx=none) (ne:dx≠x) :
  bo H1 (upd (upd (upd H1 dx (.own x)) x (.ins C dx [])) x (.ins C dx (fs.zip vs)))/\cK K (hid (upd (upd (upd H1 dx (.own x)) x (.ins C dx [])) x (.ins C dx (fs.zip vs))) O) (.obj c fs as) (.ref x):=by
 have sm:bo H1 (upd (upd (upd H1 dx (.own x)) x (.ins C dx [])) x (.ins C dx (fs.zip vs))):=fun b o h=>by
  have n1:=aU h hx
  have n2:=aU h hd
  rw [aD n1,aD n1,aD n2]; exact h
 exact⟨sm,JN.mpr ⟨x,vs,rfl,d1.mono (bT sm),by rw [<- d1.length,hl],C,dx,hc,by rw [jj (hO.not hx),aM]⟩⟩
theorem HK {X:Cx}:yQ (nA X.prog X.w) X E0:=fun _ _ _ _ _ _ _ h=>by
 obtain⟨_,_,_,_,_,_,_,_,_,_,_,_,_,z⟩:=h
 exact z.elim
theorem KU {c:Str} {fs:List Str} (IA:rZ X.prog X.w X.K X.mg X.base k c ps fs) (hr:fE k' X.A) (hk:k+1<=k') (hg:Gl X c) (ha:FA X (e::es) fas) (hdb:(c==("__debug__":Str))=false:=by decide)
  (hns:(e::es).all noStar=true:=by rfl):FE X (.Call (.Name c p) (e::es) [] pos) (fNew c fs fas):=by
 obtain⟨C,f,fd,h1,h2,h3,h4,h5⟩:=IA
 refine PE.weak (DG (dvs:=[]) (E:=E0) h2 h3 (hr.mono hk) hg h5 h4 .nil HK ha hdb (cW (MZ _ _ ▸ hns).1) (fV (MZ _ _ ▸ hns).2)) fun σ H Q ⟨O,ρ,E,hF⟩=>⟨O,ρ,E,(iU.bind hF).imp fun as hF vs H1 s1 d1 x dx hx hd ne=>?_⟩
 by_cases hl:as.length=fs.length
 ·rw [if_pos hl] at hF
  rw [ML]
  refine⟨x,dx,vs,rfl,by rw [<- d1.length,hl],by rw [aM],rfl,?_⟩
  obtain⟨sm,dn⟩:=wO h1 hl d1 (E.all.same s1) hx hd ne
  exact hF _ _ (s1.trans sm) dn
 ·rw [if_neg hl] at hF; exact hF.elim
theorem wC (f:Str) (v:V):∀ {fs:List (Str×V)},(fs.map (·.1)).contains f=false->kO f v fs=fs++[(f,v)]
 | [],_=>rfl
 | (g,w)::fs,h=>by
  rw [MH,NW,NX] at h
  have ne:¬ g=f:=fun z=>by
   have:=h.1
   rw [z] at this
   simp at this
  have:=wC f v (fs:=fs) h.2
  unfold kO
  simp only [ne,if_false,this,Nh]
def Fb (X:Cx) (cs:List Str) (body:List QG) (fs:List Str) (i:Nat):Prop :=
 ∃ t,xx X body t/\∀ (D:Ends) (σ:St) (H:Hp) (x dx C:Qs) (done:List (Str×V)) (as:List V),σ[0]?=some (some (.ref x))->(∀ j v,as[j]?=some v->σ[i+j]?=some (some v))->as.length=fs.length->Bn X.K C->(∀ f∈fs,oR X.K C f)->done.length+fs.length < 1000->(done.map (·.1)++fs).Nodup->H x=some (.ins C dx done) ->
  D.nx σ (upd H x (.ins C dx (done++fs.zip as)))->t D σ H
theorem Bg {st:QG} {f:Str} {i:Nat} {o v:QE} {p1 p2:Pos} (hst:st=.Assign [.Attribute o f p1] v p2) (ho:PE X o (rL 0)) (hv:PE X v (rL i)) (hs:swapsWith v (some (.Attribute o f p1)) p2.line X.env=pure false):Fb X cs [st] [f] i:=by
 subst hst
 refine⟨_,zh (Hf ho hv hs),fun D σ H x dx C done as h0 ha hl cl na hz nd hx q=>?_⟩
 obtain⟨a,rfl⟩:∃ a,as=[a]:=by
  match as,hl with
  | [a],_=>exact⟨a,rfl⟩
 refine⟨a,ha 0 a rfl,.ref x,h0,x,C,dx,done,rfl,hx,cl,na f (List.mem_singleton.mpr rfl),by simp at hz; omega,?_⟩
 rw [wC f a (by
  have:=nd
  rw [NZ] at this
  have h3:=this.2.2
  cases hc:(done.map (·.1)).contains f with
  | false=>rfl
  | true=>exact absurd rfl (h3 f (List.contains_iff_mem.mp hc) f (List.mem_singleton.mpr rfl)))]
 exact q
theorem AY {P:Qr} {w:Qq} {K:Pa} {mg:Str->Option Qp} {base:Qu} {c qual:Str} {C f:Qs} {fd:Q0} {st:QG} {fs:List Str} (h1:clsAt K c C) (hM:Mk K C f) (cl:Bn K C) (na:∀ g∈fs,oR K C g) (F:vv K "__init__" qual st f fd) (b:Binds K fd ps []) (hmg:mg c=some (.ref C)) (SC:bj ps ps (ay st)) (hps:ps.length=fs.length+1) (hnd:fs.Nodup) (hlen:fs.length < 1000)
  (hb:∀ (cdv:Qp) (A:QA) (outer:List Env) (s:QB) (H:Hp) (E:XK),Fb (ji Ji P w K mg base ps qual (ay st) f cdv A outer s H E).nox [] (e7 st) fs 1):rZ P w K mg base (k+1) c ps fs:=by
 refine⟨C,f,fd,h1,hM,?_,b,hmg⟩
 refine iV.any (F.ok SC (fun vs H Q E h=>?_) fun cdv A outer s H vs Q E hr h=>?_)
 ·obtain⟨x,dx,as,rfl,hl,_⟩:=h
  rw [MG,hl,hps]
 ·obtain⟨t,ht,hq⟩:=hb cdv A outer s H E
  obtain⟨x,dx,as,rfl,hl,hx,q⟩:=h
  have hst:L2.start ps (.ref x::as)=(.ref x::as).map some:=by
   unfold L2.start
   rw [MG,hl,hps,N0,N3,ML]
  refine⟨t,ht,hq _ _ H x dx C [] as (by rw [hst]; rfl) (fun j v e=>?_) hl cl na (by simpa using hlen) (by simpa using hnd) hx q⟩
  rw [hst,Nat.add_comm,MH,NQ,MS,e]; rfl
end
end TG
namespace TG
open PySem PySem.Spec L2
variable [aR]
section
variable {X:Cx}
def Mj:D->Option Str
 | .str z=>some z
 | _=>none
def JV (a b:D):Option D:=match a,b with
 | .bl c,.bl d=>some (.bl (c==d))
 | _,_=>none
def DZ (a b:D):Option D:=match a,b with
 | .bl c,.bl d=>some (.bl (!(c==d)))
 | _,_=>none
end
section
variable {X:Cx} {C:Qs} {pins:List (Qs×Obj)} {σ:St} {H:Hp} {s:QB} {Q:VK}
end
end TG
namespace TG
open PySem PySem.Spec PyProof.Rows L2
variable [aR]
def eF:List D->List D->Option Bool
 | [],[]=>some false
 | [],_::_=>some true
 | _::_,[]=>some false
 | a::as,b::bs=>match a,b with
  | .int i,.int j=>if i=j then eF as bs else some (decide (i < j))
  | .str x,.str y=>if x=y then eF as bs else some (decide (x.cps.toList < y.cps.toList))
  | _,_=>none
inductive fX:List Qp->List D->Prop where
 | nil:fX [] []
 | int (i:Int) (t:Tok) {vs:List Qp} {ds:List D} (h:fX vs ds):fX (.int i t::vs) (.int i::ds)
 | str (x:Str) (t:Tok) {vs:List Qp} {ds:List D} (h:fX vs ds):fX (.str x t::vs) (.str x::ds)
theorem fX.length:∀ {vs:List Qp} {ds:List D},fX vs ds->vs.length=ds.length
 | _,_,.nil=>rfl
 | _,_,.int _ _ h=>by rw [MG,MG,h.length]
 | _,_,.str _ _ h=>by rw [MG,MG,h.length]
theorem EW (A:QA) (s:QB) (a:Int) (t:Tok) (c:Int) (u:Tok):∃ e,SeqAt.EqAt A s (.int a t) (.int c u) e/\(e=true↔a=c) :=
 ⟨(a==c),SeqAt.EqAt.int_int a t c u,by simp⟩
theorem Fp (A:QA) (s:QB) (a:Str) (t:Tok) (c:Str) (u:Tok):∃ e,SeqAt.EqAt A s (.str a t) (.str c u) e/\(e=true↔a=c) :=
 ⟨(a==c),SeqAt.EqAt.str_str a t c u,by simp⟩
theorem HZ (A:QA) (s:QB) (a:Str) (t:Tok) (c:Str) (u:Tok) (prog:Qr) (w:Qq) (E:Qp->QB->Prop) (Q:Qp->QB->Prop) (h:Q (.bool (decide (a.cps.toList < c.cps.toList))) s) :
  QD (model prog w) A (richCompare .Lt (.str a t) (.str c u)) Q E s :=
 (PySem.P.lt_str h:QD (model prog w) A (QS .Lt (.str a t) (.str c u)) Q E s)
section
open PySem.SeqAt
open PySem.AutoSeq1 (wpAny_loadPart')
open PySem.MeetsSeq PySem.MeetsSeq2 PySem.MeetsSeq3
set_option maxHeartbeats 1000000 in
theorem sQ (l b:Qs) (items items2:Array Qp) (n n2:Nat) (dd dd2:Option Qs) (sl sl2:Array (Option Qp)) (ns ms:List D) (r:Bool) (hi:fX items.toList ns) (hj:fX items2.toList ms) (hr:eF ns ms=some r) :
  Meets (Builtin.«tuple.__lt__» ⟨[.ref l,.ref b],[]⟩)
   (fun _ R s=>s.heap.get? l=some { cls:=.type "tuple",dict:=dd,data:=.seq items n,slots:=sl }/\s.heap.get? b=some { cls:=.type "tuple",dict:=dd2,data:=.seq items2 n2,slots:=sl2 } /\
    R (.ok (.ret (.bool r))) s) :=
 .of_wp fun prog w A R s h=>by
  obtain⟨hp,g,d,tk,os⟩:=s; obtain⟨hl,hb,h⟩:=h
  have f2:=AutoSeq1.sub_tuple_tuple
  have z1:items.size=ns.length:=by rw [<- hi.length]; simp
  have z2:items2.size=ms.length:=by rw [<- hj.length]; simp
  wp_walk using wpAny_loadPart' hl,wpAny_loadPart' hb,wpAny_forIn_list _ (fun rest b s'=>b.1=none/\s'=⟨hp,g,d,tk,os⟩/\∃ (vs ws:List Qp) (ns' ms':List D),rest=vs.zip ws /\
   fX vs ns'/\fX ws ms'/\ns'.length+items2.size=ms'.length+items.size/\eF ns' ms'=some r/\R (.ok (.ret (.bool r))) ⟨hp,g,d,tk,os⟩) _
  case turn =>
   rintro⟨y,x⟩ rest b s' ⟨hb',rfl,vs,ws,ns',ms',hz,hvi,hwi,hlen,hL,hR⟩
   cases hvi with
   | nil=>rw [List.zip_nil_left] at hz; cases hz
   | int a t hvi' =>
    cases hwi with
    | nil=>rw [N4] at hz; cases hz
    | str c u hwi'=>cases hL
    | int c u hwi' =>
     rw [NY] at hz
     injection hz with hyx hrest
     injection hyx with hy hx
     subst hy hx
     have hL':(if a=c then eF _ _ else some (decide (a < c)))=some r:=hL
     simp only [MG] at hlen
     obtain⟨e,he,hiff⟩:=EW A.in1 ⟨hp,g,d,tk,os⟩ a t c u
     refine QM (he prog w _ _ ?_)
     cases e with
     | true =>
      rw [if_pos (hiff.mp rfl)] at hL'
      wp_walk
      exact⟨rfl,rfl,_,_,_,_,hrest,hvi',hwi',by omega,hL',hR⟩
     | false =>
      rw [if_neg (fun q=>absurd (hiff.mpr q) MF)] at hL'
      cases hL'
      have hri:=HT.HM A.in1 ⟨hp,g,d,tk,os⟩ a t c u prog w
      wp_walk using hri
      exact⟨_,rfl,by simpa using hR⟩
   | str a t hvi' =>
    cases hwi with
    | nil=>rw [N4] at hz; cases hz
    | int c u hwi'=>cases hL
    | str c u hwi' =>
     rw [NY] at hz
     injection hz with hyx hrest
     injection hyx with hy hx
     subst hy hx
     have hL':(if a=c then eF _ _ else some (decide (a.cps.toList < c.cps.toList)))=some r:=hL
     simp only [MG] at hlen
     obtain⟨e,he,hiff⟩:=Fp A.in1 ⟨hp,g,d,tk,os⟩ a t c u
     refine QM (he prog w _ _ ?_)
     cases e with
     | true =>
      rw [if_pos (hiff.mp rfl)] at hL'
      wp_walk
      exact⟨rfl,rfl,_,_,_,_,hrest,hvi',hwi',by omega,hL',hR⟩
     | false =>
      rw [if_neg (fun q=>absurd (hiff.mpr q) MF)] at hL'
      cases hL'
      have hri:=HZ A.in1 ⟨hp,g,d,tk,os⟩ a t c u prog w
      wp_walk using hri
      exact⟨_,rfl,by simpa using hR⟩
  case fin =>
   rintro⟨b1,b2⟩ s' ⟨hb',rfl,vs,ws,ns',ms',hz,hvi,hwi,hlen,hL,hR⟩
   simp only at hb'
   subst hb'
   have hv:r=decide (items.size < items2.size):=by
    have l1:=hvi.length
    have l2:=hwi.length
    cases ns' with
    | nil =>
     cases ms' with
     | nil =>
      simp only [M6] at hlen
      cases hL
      exact(decide_eq_false ‹0›).symm
     | cons c u =>
      simp only [M6,MG] at hlen
      cases hL
      exact(decide_eq_true ‹0›).symm
    | cons a t =>
     cases ms' with
     | nil =>
      simp only [M6,MG] at hlen
      cases hL
      exact(decide_eq_false ‹0›).symm
     | cons c u =>
      have:=congrArg List.length hz
      simp only [M6,List.length_zip,l1,l2,MG] at this
      omega
   rw [hv] at hR
   wp_walk
   exact⟨_,rfl,by simpa [Builtin.Tuple.tupleCompareSizes] using hR⟩
  case h =>
   exact⟨rfl,rfl,items.toList,items2.toList,ns,ms,rfl,hi,hj,by omega,hr,h⟩
end
section
variable {X:Cx}
theorem uS {α:Type} {c:Bool} {o:Option α} {a:α} (h:(if c then o else none)=some a):c=true/\o=some a:=by
 cases c with
 | true=>exact⟨rfl,h⟩
 | false=>cases h
theorem yD {prog:Qr} {w:Qq} {A:QA} {E:Qp->QB->Prop} {s:QB} {l b:Qs} {items items2:Array Qp} {ns ms:List D} {r:Bool} {Q:Qp->QB->Prop} (hl:Qw s.heap l items) (hb:Qw s.heap b items2) (hi:fX items.toList ns) (hj:fX items2.toList ms) (hr:eF ns ms=some r)
  (hu:A.units < QZ) (h:Q (.bool r) s):QD (model prog w) A (QS .Lt (.ref l) (.ref b)) Q E s:=by
 obtain⟨⟨cls,dd,data,sl⟩,ho,hc,n,hd⟩:=id hl
 obtain⟨⟨cls2,dd2,data2,sl2⟩,ho2,hc2,n2,hd2⟩:=id hb
 simp only at hc hd hc2 hd2
 subst hc hd hc2 hd2
 exact richCompare_meets_room (op:=.Lt) ⟨_,ho,rfl⟩ ⟨_,ho2,rfl⟩ PySem.F.slot_tuple_lt PySem.F.entry_tuple_lt (PySem.F.args_tuple_lt_2 _ _) (sQ l b items items2 n n2 dd dd2 sl sl2 ns ms r hi hj hr)
  ⟨ho,ho2,show Value.bool r≠Value.notImplemented/\Q (.bool r) s from ⟨(fun x=>nomatch x),h⟩⟩ hu
def pX:List D->Bool
 | []=>true
 | .int _::r=>pX r
 | .str _::r=>pX r
 | _=>false
theorem jO {K:Pa} {H:Hp}:∀ {ds:List D} {vs:List V} {us:List Qp},pX ds=true->aW K H ds vs->Vals vs us->fX us ds
 | [],vs,us,_,h,r=>by
  rw [cT] at h
  subst h
  cases r
  exact .nil
 | d::ds,vs,us,hf,h,r=>by
  obtain⟨v,r',e,h1,h2⟩:=bC.mp h
  subst e
  cases r with
  | cons q1 q2 =>
   cases d with
   | int i =>
    rw [fu] at h1
    subst h1
    obtain⟨t,rfl⟩:=q1
    exact .int i t (jO hf h2 q2)
   | str x =>
    rw [fj] at h1
    subst h1
    obtain⟨t,rfl⟩:=q1
    exact .str x t (jO hf h2 q2)
   | _=>cases hf
def vQ (a b:D):Option D:=match a,b with
 | .int i,.int j=>some (.bl (decide (i < j)))
 | .str x,.str y=>some (.bl (decide (x.cps.toList < y.cps.toList)))
 | .tup xs,.tup ys=>if pX xs && pX ys then (eF xs ys).bind fun r=>some (.bl r) else none
 | _,_=>none
theorem sJ (hu:X.A.units+64 < QZ):lX X (QS .Lt) (rD X.K vQ):=by
 intro pins s σ H x y u v Q I rx ry ⟨O,a,b,d,hO,ha,hb,hg,q⟩
 cases a with
 | int i =>
  cases b with
  | int j =>
   cases hg
   exact IL pins s σ H x y u v Q I rx ry ⟨i,j,fu.mp ha,fu.mp hb,q _ H (bo.refl H) (lF.mpr rfl)⟩
  | _=>cases hg
 | str i =>
  cases b with
  | str j =>
   cases hg
   exact zR pins s σ H x y u v Q I rx ry ⟨i,j,fj.mp ha,fj.mp hb,q _ H (bo.refl H) (lF.mpr rfl)⟩
  | _=>cases hg
 | tup xs =>
  cases b with
  | tup ys =>
   obtain⟨h1,h2⟩:=uS hg
   obtain⟨r,e1,e2⟩:=bind_some h2
   cases e2
   rw [MZ] at h1
   obtain⟨p,vs,ex,g1,g2⟩:=cC.mp ha
   obtain⟨p',vs',ey,g1',g2'⟩:=cC.mp hb
   subst ex ey
   cases rx
   cases ry
   obtain⟨its,r1,t1,_⟩:=I.tuple (bR (aC H O) g1)
   obtain⟨its2,r2,t2,_⟩:=I.tuple (bR (aC H O) g1')
   exact yD t1 t2 (jO h1.1 g2 r1) (jO h1.2 g2' r2) e1 ‹0› (Cz I (q _ H (bo.refl H) (lF.mpr rfl)) rfl)
  | _=>cases hg
 | _=>cases hg
end
end TG
namespace TG
open PySem PySem.Spec L2
variable [aR]
def mY (x:Str) (n:Int):Str:=if (n==1 || x.length==0)=true then x else ⟨(List.replicate n.toNat x.cps).foldl (·++·) #[]⟩
theorem foldl_size:∀ (n:Nat) (c a:Array Nat),((List.replicate n c).foldl (·++·) a).size=a.size+n*c.size
 | 0,_,a=>by simp
 | n+1,c,a=>by
  rw [List.replicate_succ,N5,foldl_size n c,Array.size_append,Nat.succ_mul]; omega
theorem Bz {x:Str} {n:Int} (h:1<=n):(mY x n).length=n.toNat*x.length:=by
 unfold mY
 split
 ·rename_i q
  rw [Nv] at q
  rcases q with q | q
  ·have:n=1:=by simpa using q
   rw [this]; simp
  ·have:x.length=0:=by simpa using q
   rw [this]; simp
 ·show ((List.replicate n.toNat x.cps).foldl (·++·) #[]).size=n.toNat*x.cps.size
  rw [foldl_size]; simp
def wF (a b:D):Option D:=match a,b with
 | .int i,.int j=>jR (.int i) (.int j)
 | .str x,.int n=>if decide (1<=n/\n<=1000/\x.length<=1000) then some (.str (mY x n)) else none
 | _,_=>none
section
variable {X:Cx}
theorem vA:lX X (QR .Mult) (rD X.K wF):=by
 intro pins s σ H x y u v Q I rx ry ⟨O,a,b,d,hO,ha,hb,hg,q⟩
 cases a with
 | int i =>
  cases b with
  | int j=>exact iM pins s σ H x y u v Q I rx ry (iN (.int i) (.int j) d x y O H Q hO hg ha hb q)
  | _=>cases hg
 | str z =>
  cases b with
  | int n =>
   obtain⟨h1,h2⟩:=bK hg
   subst h2
   obtain⟨n1,n2,zl⟩:=of_decide_eq_true h1
   rw [fj] at ha
   rw [fu] at hb
   subst ha hb
   obtain⟨t,rfl⟩:=rx
   obtain⟨t',rfl⟩:=ry
   have zn:z.length*n.toNat<=1000*1000:=Nat.mul_le_mul zl ‹0›
   refine P.mul_str (by rw [decide_eq_false ‹0›,decide_eq_false ‹0›]; rfl) (fun _ _=>?_) (fun _ _=>?_) ?_
   ·have:(2 ^ 63 - 1:Int) / n>=(2 ^ 63 - 1) / 1000:=by
     rw [ge_iff_le,Int.le_ediv_iff_mul_le ‹0›]
     have h3:(2 ^ 63 - 1:Int) / 1000*n<=(2 ^ 63 - 1) / 1000*1000:=Int.mul_le_mul_of_nonneg_left n2 (by decide)
     have h4:(2 ^ 63 - 1:Int) / 1000*1000<=2 ^ 63 - 1:=by decide
     omega
    have h5:(2 ^ 63 - 1:Int) / 1000=9223372036854775:=by decide
    omega
   ·unfold Builtin.Str.tooLong
    rw [decide_eq_false]
    rw [QU]; omega
   ·rw [if_neg ‹0›]
    have fin:∀ tk,EP X pins σ Q (.str (mY z n) tk) { s with toks:=s.toks+1 }/\EP X pins σ Q (.str (mY z n) tk) s:=fun tk=>⟨⟨.str (mY z n),H,I.tok _,⟨_,rfl⟩,q _ H (bo.refl H) (fj.mpr rfl)⟩,⟨.str (mY z n),H,I,⟨_,rfl⟩,q _ H (bo.refl H) (fj.mpr rfl)⟩⟩
    by_cases e:(n==1 || z.length==0)=true
    ·rw [if_pos e]
     have:mY z n=z:=by unfold mY; rw [if_pos e]
     rw [this] at fin
     exact(fin t).2
    ·rw [if_neg e]
     have e2:mY z n=⟨(List.replicate n.toNat z.cps).foldl (·++·) #[]⟩:=by unfold mY; rw [if_neg e]
     rw [e2] at fin
     refine⟨?_,(fin _).1⟩
     have rl:=Bz (x:=z) (n:=n) ‹0›
     rw [e2] at rl
     rw [rl,QU,Nat.mul_comm]; omega
  | _=>cases hg
 | _=>cases hg
end
end TG
namespace TG
open PySem PySem.Spec PyProof.Rows PySem.W L2
variable [aR]
theorem rN:∀ a:List Nat,¬ a < a
 | []=>N6 _
 | x::xs=>fun h=>by
  rcases List.cons_lt_cons_iff.mp h with h | ⟨_,h⟩
  ·omega
  ·exact rN xs h
theorem kR:∀ {a b c:List Nat},a < b->b < c->a < c
 | _,_,[],_,h=>absurd h (N6 _)
 | _,[],_::_,h,_=>absurd h (N6 _)
 | [],_::_,_::_,_,_=>N7 _ _
 | x::xs,y::ys,z::zs,h,h'=>by
  rw [N8] at h h' ⊢
  rcases h with h | ⟨e,h⟩ <;> rcases h' with h' | ⟨e',h'⟩
  ·exact .inl ‹0›
  ·exact .inl ‹0›
  ·exact .inl ‹0›
  ·exact .inr ⟨by omega,kR h h'⟩
theorem By:∀ a b:List Nat,a < b\/a=b\/b < a
 | [],[]=>.inr (.inl rfl)
 | [],_::_=>.inl (N7 _ _)
 | _::_,[]=>.inr (.inr (N7 _ _))
 | x::xs,y::ys=>by
  rw [N8,N8]
  rcases N9 x y with h | h | h
  ·exact .inl (.inl h)
  ·rcases By xs ys with q | q | q
   ·exact .inl (.inr ⟨h,q⟩)
   ·exact .inr (.inl (by rw [h,q]))
   ·exact .inr (.inr (.inr ⟨h.symm,q⟩))
  ·exact .inr (.inr (.inl h))
theorem C0 {x y:Str} (h:x.cps.toList=y.cps.toList):x=y:=by
 cases x; cases y
 congr 1
 exact Array.toList_inj.mp h
inductive Sh:List Bool->List D->Prop where
 | nil:Sh [] []
 | int (i:Int) {bs:List Bool} {ds:List D} (h:Sh bs ds):Sh (true::bs) (.int i::ds)
 | str (x:Str) {bs:List Bool} {ds:List D} (h:Sh bs ds):Sh (false::bs) (.str x::ds)
theorem Sh.length:∀ {σ:List Bool} {a:List D},Sh σ a->a.length=σ.length
 | _,_,.nil=>rfl
 | _,_,.int _ h=>by rw [MG,MG,h.length]
 | _,_,.str _ h=>by rw [MG,MG,h.length]
theorem qz:∀ {σ:List Bool} {a:List D},Sh σ a->pX a=true
 | _,_,.nil=>rfl
 | _,_,.int i h=>by
  unfold pX; exact qz h
 | _,_,.str i h=>by
  unfold pX; exact qz h
theorem oq (i j:Int) (as bs:List D):eF (.int i::as) (.int j::bs)=if i=j then eF as bs else some (decide (i < j)):=by rw [eF]
theorem oy (x y:Str) (as bs:List D):eF (.str x::as) (.str y::bs)=if x=y then eF as bs else some (decide (x.cps.toList < y.cps.toList)):=by rw [eF]
theorem Dg:eF [] []=some false:=by rw [eF]
theorem jU:∀ {σ:List Bool} {a:List D},Sh σ a->eF a a=some false
 | _,_,.nil=>Dg
 | _,_,.int i h=>by rw [oq,if_pos rfl]; exact jU h
 | _,_,.str x h=>by rw [oy,if_pos rfl]; exact jU h
theorem lW:∀ {σ:List Bool} {a b:List D},Sh σ a->Sh σ b->(eF a b=some true/\eF b a=some false/\a≠b)\/a=b\/(eF b a=some true/\eF a b=some false/\a≠b)
 | _,_,_,.nil,.nil=>.inr (.inl rfl)
 | _,_,_,.int i h,.int j h'=>by
  rw [oq,oq]
  by_cases e:i=j
  ·subst e
   rw [if_pos rfl,if_pos rfl]
   rcases lW h h' with ⟨q1,q2,q3⟩ | q | ⟨q1,q2,q3⟩
   ·exact .inl ⟨q1,q2,fun z=>q3 (by injection z)⟩
   ·exact .inr (.inl (by rw [q]))
   ·exact .inr (.inr ⟨q1,q2,fun z=>q3 (by injection z)⟩)
  ·rw [if_neg e,if_neg (fun z=>e z.symm)]
   rcases Int.lt_or_gt_of_ne e with q | q
   ·exact .inl ⟨by rw [decide_eq_true q],by rw [decide_eq_false ‹0›],fun z=>e (by injection z with z1; injection z1)⟩
   ·exact .inr (.inr ⟨by rw [decide_eq_true q],by rw [decide_eq_false ‹0›],fun z=>e (by injection z with z1; injection z1)⟩)
 | _,_,_,.str x h,.str y h'=>by
  rw [oy,oy]
  by_cases e:x=y
  ·subst e
   rw [if_pos rfl,if_pos rfl]
   rcases lW h h' with ⟨q1,q2,q3⟩ | q | ⟨q1,q2,q3⟩
   ·exact .inl ⟨q1,q2,fun z=>q3 (by injection z)⟩
   ·exact .inr (.inl (by rw [q]))
   ·exact .inr (.inr ⟨q1,q2,fun z=>q3 (by injection z)⟩)
  ·rw [if_neg e,if_neg (fun z=>e z.symm)]
   rcases By x.cps.toList y.cps.toList with q | q | q
   ·exact .inl ⟨by rw [decide_eq_true q],by rw [decide_eq_false fun z=>rN _ (kR q z)],fun z=>e (by injection z with z1; injection z1)⟩
   ·exact absurd (C0 q) e
   ·exact .inr (.inr ⟨by rw [decide_eq_true q],by rw [decide_eq_false fun z=>rN _ (kR q z)],fun z=>e (by injection z with z1; injection z1)⟩)
theorem mV:∀ {σ:List Bool} {a b c:List D},Sh σ a->Sh σ b->Sh σ c->eF a b=some true->eF b c=some true->eF a c=some true
 | _,_,_,_,.nil,.nil,.nil,h,_=>by rw [Dg] at h; cases h
 | _,_,_,_,.int i h,.int j h',.int k h'',q,q'=>by
  rw [oq] at q q' ⊢
  by_cases e:i=j
  ·subst e
   rw [if_pos rfl] at q
   by_cases e':i=k
   ·subst e'
    rw [if_pos rfl] at q' ⊢
    exact mV h h' h'' q q'
   ·rw [if_neg e'] at q' ⊢
    exact q'
  ·rw [if_neg e] at q
   have q1:=of_decide_eq_true (Option.some.inj q)
   by_cases e':j=k
   ·subst e'
    rw [if_neg e,decide_eq_true q1]
   ·rw [if_neg e'] at q'
    have q2:=of_decide_eq_true (Option.some.inj q')
    rw [if_neg ‹0›,decide_eq_true ‹0›]
 | _,_,_,_,.str i h,.str j h',.str k h'',q,q'=>by
  rw [oy] at q q' ⊢
  by_cases e:i=j
  ·subst e
   rw [if_pos rfl] at q
   by_cases e':i=k
   ·subst e'
    rw [if_pos rfl] at q' ⊢
    exact mV h h' h'' q q'
   ·rw [if_neg e'] at q' ⊢
    exact q'
  ·rw [if_neg e] at q
   have q1:=of_decide_eq_true (Option.some.inj q)
   by_cases e':j=k
   ·subst e'
    rw [if_neg e,decide_eq_true q1]
   ·rw [if_neg e'] at q'
    have q2:=of_decide_eq_true (Option.some.inj q')
    rw [if_neg (show ¬ i=k from fun z=>by rw [z] at q1; exact rN _ (kR q1 q2)),decide_eq_true (kR q1 q2)]
theorem wg {σ:List Bool} {a b:List D} (h:Sh σ a) (h':Sh σ b) (q:eF a b=some true):eF b a=some false:=by
 rcases lW h h' with ⟨_,q2,_⟩ | e | ⟨_,q2,_⟩
 ·exact q2
 ·subst e; rw [jU h] at q; cases q
 ·rw [q2] at q; cases q
def kLt (a b:List D):Bool:=eF a b==some true
theorem Dw {a b:List D}:kLt a b=true↔eF a b=some true:=by unfold kLt; simp
section
variable {α:Type}
def Al (key:α->List D) (x:α):List α->List α
 | []=>[x]
 | y::ys=>if kLt (key x) (key y) then x::y::ys else y::Al key x ys
def hV (key:α->List D):List α->List α
 | []=>[]
 | x::xs=>Al key x (hV key xs)
theorem o0 (key:α->List D) (x:α):∀ ys:List α,(Al key x ys).Perm (x::ys)
 | []=>.refl _
 | y::ys=>by
  unfold Al
  split
  ·exact .refl _
  ·exact(List.Perm.cons y (o0 key x ys)).trans (.swap x y ys)
theorem fG (key:α->List D):∀ xs:List α,(hV key xs).Perm xs
 | []=>.refl _
 | x::xs=>(o0 key x _).trans (.cons x (fG key xs))
def v7 (key:α->List D) (xs:List α):Prop:=xs.Pairwise fun x y=>eF (key x) (key y)=some true
theorem wX {key:α->List D} {σ:List Bool} {x:α} (hx:Sh σ (key x)):∀ {ys:List α},(∀ y∈ys,Sh σ (key y)/\key x≠key y)->v7 key ys->v7 key (Al key x ys)
 | [],_,_=>Oa _ _
 | y::ys,h,p=>by
  have p':=List.pairwise_cons.mp p
  obtain⟨hy,ne⟩:=h y Mu
  unfold Al
  split
  ·rename_i q
   have q:=Dw.mp q
   refine List.pairwise_cons.mpr ⟨fun z hz=>?_,p⟩
   rcases List.mem_cons.mp hz with rfl | hz
   ·exact q
   ·exact mV hx hy (h z (Mv _ hz)).1 q (p'.1 z hz)
  ·rename_i q
   have q:eF (key y) (key x)=some true:=by
    rcases lW hx hy with ⟨z,_⟩ | z | ⟨z,_⟩
    ·exact absurd (Dw.mpr z) q
    ·exact absurd z ne
    ·exact z
   refine List.pairwise_cons.mpr ⟨fun z hz=>?_,wX hx (fun z hz=>h z (Mv _ hz)) p'.2⟩
   rcases List.mem_cons.mp ((o0 key x ys).mem_iff.mp hz) with rfl | hz
   ·exact q
   ·exact p'.1 z hz
theorem mD {key:α->List D} {σ:List Bool}:∀ {xs:List α},(∀ x∈xs,Sh σ (key x))->xs.Pairwise (fun x y=>key x≠key y)->v7 key (hV key xs)
 | [],_,_=>List.Pairwise.nil
 | x::xs,h,p=>by
  have p':=List.pairwise_cons.mp p
  refine wX (h x Mu) (fun y hy=>?_) (mD (fun y hy=>h y (Mv _ hy)) p'.2)
  have hy:=(fG key xs).mem_iff.mp hy
  exact⟨h y (Mv _ hy),p'.1 y hy⟩
theorem zq {key:α->List D} {σ:List Bool}:∀ {xs ys:List α},(∀ x∈xs,Sh σ (key x))->v7 key xs->v7 key ys->xs.Perm ys->xs=ys
 | [],ys,_,_,_,e=>(List.perm_nil.mp e.symm).symm
 | x::xs,[],_,_,_,e=>List.perm_nil.mp e
 | x::xs,y::ys,h,p,q,e=>by
  have p':=List.pairwise_cons.mp p
  have q':=List.pairwise_cons.mp q
  have exy:x=y:=by
   rcases List.mem_cons.mp (e.mem_iff.mp Mu) with z | z
   ·exact z
   ·have w1:=q'.1 x z
    rcases List.mem_cons.mp (e.symm.mem_iff.mp Mu) with z' | z'
    ·exact z'.symm
    ·have w2:=p'.1 y z'
     have:=wg (h x Mu) (h y (Mv _ z')) w2
     rw [w1] at this; cases this
  subst exy
  rw [zq (fun z hz=>h z (Mv _ hz)) p'.2 q'.2 (List.Perm.cons_inv e)]
theorem lN {key:α->List D} {σ:List Bool} {xs ys:List α} (h:∀ x∈xs,Sh σ (key x)) (p:xs.Pairwise fun x y=>key x≠key y) (q:v7 key ys) (e:ys.Perm xs):hV key xs=ys :=
 zq (fun x hx=>h x ((fG key xs).mem_iff.mp hx)) (mD h p) q ((fG key xs).trans e.symm)
def rank (ks:List (List D)) (i:Nat):Nat:=(ks.filter fun k=>kLt k (ks.getD i [])).length
theorem qv {ks:List (List D)} {σ:List Bool} (h:∀ k∈ks,Sh σ k) {i j:Nat} (hi:i < ks.length) (hj:j < ks.length):decide (rank ks i < rank ks j)=kLt (ks.getD i []) (ks.getD j []):=by
 have gi:ks.getD i []=ks[i]:=by simp [hi]
 have gj:ks.getD j []=ks[j]:=by simp [hj]
 have mono:∀ a b:List D,Sh σ a->Sh σ b->eF a b=some true->∀ l:List (List D),(∀ k∈l,Sh σ k)->(l.filter fun k=>kLt k a).length<=(l.filter fun k=>kLt k b).length/\(a∈l->(l.filter fun k=>kLt k a).length < (l.filter fun k=>kLt k b).length):=by
  intro a b ha hb hab l
  induction l with
  | nil=>exact fun _=>⟨MA _,fun z=>nomatch z⟩
  | cons k l ih =>
   intro hl
   obtain⟨i1,i2⟩:=ih fun z hz=>hl z (Mv _ hz)
   have hk:=hl k Mu
   by_cases q:kLt k a=true
   ·have q':kLt k b=true:=Dw.mpr (mV hk ha hb (Dw.mp q) hab)
    rw [Oc (p:=fun k=>kLt k a) q,Oc (p:=fun k=>kLt k b) q',MG,MG]
    refine⟨by omega,fun z=>?_⟩
    rcases List.mem_cons.mp z with rfl | z
    ·rw [Dw,jU ha] at q; cases q
    ·have:=i2 z; omega
   ·rw [Od (p:=fun k=>kLt k a) q]
    by_cases q':kLt k b=true
    ·rw [Oc (p:=fun k=>kLt k b) q',MG]
     exact⟨by omega,fun _=>by omega⟩
    ·rw [Od (p:=fun k=>kLt k b) q']
     refine⟨i1,fun z=>?_⟩
     rcases List.mem_cons.mp z with rfl | z
     ·exact absurd (Dw.mpr hab) q'
     ·exact i2 z
 unfold rank
 rw [gi,gj]
 have hi':=h _ (Oe hi)
 have hj':=h _ (Oe hj)
 rcases lW hi' hj' with ⟨z,_⟩ | z | ⟨z,z',_⟩
 ·rw [Dw.mpr z]
  exact decide_eq_true ((mono _ _ hi' hj' z ks h).2 (Oe hi))
 ·rw [z]
  have:kLt ks[j] ks[j]=false:=by unfold kLt; rw [jU hj']; rfl
  rw [this]
  exact decide_eq_false (Mp _)
 ·have e:kLt ks[i] ks[j]=false:=by unfold kLt; rw [z']; rfl
  rw [e]
  exact decide_eq_false (Nat.not_lt.mpr (mono _ _ hj' hi' z ks h).1)
end
section
variable {cmp:Nat->Nat->(Bool->QB->Prop)->QB->Prop} {r:Nat->Nat} {N:Nat}
def kU (cmp:Nat->Nat->(Bool->QB->Prop)->QB->Prop) (r:Nat->Nat) (N:Nat) (s:QB):Prop:=∀ (i j:Nat) (C:Bool->QB->Prop),i < N->j < N->C (decide (r i < r j)) s->cmp i j C s
def PM (N:Nat) (p:Array Nat):Prop:=p.Perm (List.toArray (List.range N))
theorem PM.size {p:Array Nat} (h:PM N p):p.size=N:=by
 have:=h.size_eq; simpa using this
theorem PM.lt {p:Array Nat} (h:PM N p) {i:Nat} (hi:i < N):p.getD i 0 < N:=by
 have hs:=h.size
 have e:p.getD i 0=p[i]'‹0›:=by simp [Array.getD,hs,hi]
 rw [e]
 have m:p[i]'‹0›∈p:=Array.getElem_mem _
 have:=(h.mem_iff (a:=p[i]'‹0›)).mp m
 simpa using this
theorem PM.rev {p:Array Nat} (h:PM N p) (i j:Nat):PM N (kas_rev p i j):=(mirror_perm p i j _).trans h
abbrev Rk (r:Nat->Nat) (p:Array Nat) (i:Nat):Nat:=r (p.getD i 0)
theorem vT {p:Array Nat} {i j:Nat} (hj:j<=p.size) (k:Nat):Rk r (kas_rev p i j) k=if i<=k/\k < j then Rk r p (i+j - 1 - k) else Rk r p k:=by
 have e:=getElem?_mirror_all (xs:=p) (i:=i) (j:=j) hj k
 have g:∀ (q:Array Nat) (k:Nat),q.getD k 0=(q[k]?).getD 0:=fun q k=>by simp
 show r ((kas_rev p i j).getD k 0)=_
 rw [g]
 show r (((mirror p i j ((j - i) / 2))[k]?).getD 0)=_
 rw [e]
 split
 ·show _=r (p.getD _ 0); rw [g]
 ·show _=r (p.getD _ 0); rw [g]
theorem Bv {p:Array Nat} {src d:Nat} (hs:src < p.size) (hd:d<=src) (k:Nat):Rk r (bubble p src d) k=if k=src - d then Rk r p src else if src - d < k/\k<=src then Rk r p (k - 1) else Rk r p k:=by
 have e:=getElem?_bubble (xs:=p) hs d hd k
 have g:∀ (q:Array Nat) (k:Nat),q.getD k 0=(q[k]?).getD 0:=fun q k=>by simp
 show r ((bubble p src d).getD k 0)=_
 rw [g,e]
 split
 ·show _=r (p.getD _ 0); rw [g]
 ·split
  ·show _=r (p.getD _ 0); rw [g]
  ·show _=r (p.getD _ 0); rw [g]
def Up (r:Nat->Nat) (p:Array Nat) (k:Nat):Prop:=∀ i j,i<=j->j < k->Rk r p i<=Rk r p j
def Dn (r:Nat->Nat) (p:Array Nat) (k:Nat):Prop:=∀ i j,i<=j->j < k->Rk r p j<=Rk r p i
variable {s:QB}
theorem xM (hc:kU cmp r N s) {p:Array Nat} (hp:PM N p) {G:Nat->QB->Prop}:∀ (f n:Nat),1<=n->n+f<=N->Up r p n->(∀ m,n<=m->m<=n+f->Up r p m->(m=n+f\/Rk r p m < Rk r p (m - 1))->G m s)->(kas_asc p f n).kasWp cmp G s
 | 0,n,_,_,u,h=>h n (MA _) (MA _) u (.inl rfl)
 | f+1,n,h1,h2,u,h=>by
  refine hc _ _ _ (hp.lt ‹0›) (hp.lt ‹0›) ?_
  by_cases q:Rk r p n < Rk r p (n - 1)
  ·rw [decide_eq_true q]; dsimp only; rw [if_pos rfl]
   exact h n (MA _) ‹0› u (.inr q)
  ·rw [decide_eq_false q]; dsimp only; rw [if_neg MF]
   refine xM hc hp f (n+1) ‹0› ‹0› (fun i j hij hj=>?_) fun m a b=>?_
   ·by_cases hjn:j < n
    ·exact u i j hij hjn
    ·have ej:j=n:=by omega
     subst ej
     by_cases ei:i=j
     ·subst ei; exact MA _
     ·have:=u i (j - 1) ‹0› ‹0›
      omega
   ·intro um hm
    exact h m ‹0› ‹0› um (by rcases hm with z | z; exact .inl ‹0›; exact .inr z)
theorem Cd {p:Array Nat} {n q:Nat} (hn:n<=p.size) (hq:q+1<=n) (he:∀ i,n - (q+1)<=i->i < n->Rk r p i=Rk r p (n - 1)) (k:Nat):Rk r (kas_rev p (n - (q+1)) n) k=Rk r p k:=by
 rw [vT hn]
 split
 ·rename_i h
  rw [he _ ‹0› ‹0›,he k h.1 h.2]
 ·rfl
theorem qw (hc:kU cmp r N s) {G:Array Nat×Nat×Nat->QB->Prop}:∀ (f:Nat) (p:Array Nat) (n q:Nat),PM N p->1<=n->n+f<=N->Dn r p n->q+1<=n->(∀ i,n - (q+1)<=i->i < n->Rk r p i=Rk r p (n - 1)) ->
  (∀ p' m q',PM N p'->n<=m->m<=n+f->Dn r p' m->q'+1<=m->(∀ i,m - (q'+1)<=i->i < m->Rk r p' i=Rk r p' (m - 1))->G (p',m,q') s)->(kas_desc f p n q).kasWp cmp G s
 | 0,p,n,q,hp,_,_,d,hq,he,h=>h p n q hp (MA _) (MA _) d hq he
 | f+1,p,n,q,hp,h1,h2,d,hq,he,h=>by
  have hs:=hp.size
  have step:∀ p',(∀ k,Rk r p' k=Rk r p k)->Rk r p n<=Rk r p (n - 1)->Dn r p' (n+1):=fun p' hk hl i j hij hj=>by
   rw [hk,hk]
   by_cases hjn:j < n
   ·exact d i j hij hjn
   ·have ej:j=n:=by omega
    subst ej
    by_cases ei:i=j
    ·subst ei; exact MA _
    ·have:=d i (j - 1) ‹0› ‹0›
     omega
  refine hc _ _ _ (hp.lt ‹0›) (hp.lt ‹0›) ?_
  by_cases q1:Rk r p n < Rk r p (n - 1)
  ·rw [decide_eq_true q1]; dsimp only; rw [if_pos rfl]
   by_cases hq0:q > 0
   ·rw [if_pos hq0]
    refine qw hc f _ (n+1) 0 (hp.rev _ _) ‹0› ‹0› (step _ (Cd ‹0› hq he) ‹0›) ‹0› (fun i a b=>by rw [show i=n+1 - 1 by omega]) fun p' m q' a b c=>h p' m q' a ‹0› ‹0›
   ·rw [if_neg hq0]
    refine qw hc f _ (n+1) 0 hp ‹0› ‹0› (step _ (fun _=>rfl) ‹0›) ‹0› (fun i a b=>by rw [show i=n+1 - 1 by omega]) fun p' m q' a b c=>h p' m q' a ‹0› ‹0›
  ·rw [decide_eq_false q1]; dsimp only; rw [if_neg MF]
   refine hc _ _ _ (hp.lt ‹0›) (hp.lt ‹0›) ?_
   by_cases q2:Rk r p (n - 1) < Rk r p n
   ·rw [decide_eq_true q2]; dsimp only; rw [if_pos rfl]
    exact h p n q hp (MA _) ‹0› d hq he
   ·rw [decide_eq_false q2]; dsimp only; rw [if_neg MF]
    refine qw hc f _ (n+1) (q+1) hp ‹0› ‹0› (step _ (fun _=>rfl) ‹0›) ‹0› (fun i a b=>?_) fun p' m q' a b c=>h p' m q' a ‹0› ‹0›
    rw [show n+1 - 1=n by omega]
    by_cases ei:i=n
    ·subst ei; rfl
    ·have:=he i ‹0› ‹0›
     omega
theorem vV (hc:kU cmp r N s) {p:Array Nat} (hp:PM N p) {n:Nat} (h1:1<=n) (hn:n<=N) (d:Dn r p n) {G:Nat×Array Nat->QB->Prop} (h:∀ m p',PM N p'->1<=m->m<=N->Up r p' m->G (m,p') s):(kas_tail3 n N p).kasWp cmp G s:=by
 unfold kas_tail3
 rw [KasT.kasWp_bind]
 have hs:=hp.size
 refine xM hc (hp.rev 0 n) _ _ h1 ‹0› (fun i j hij hj=>?_) fun m a b u _=>h m _ (hp.rev 0 n) ‹0› ‹0› u
 rw [vT ‹0›,vT ‹0›,if_pos ‹0›,if_pos ‹0›]
 exact d _ _ ‹0› ‹0›
theorem qf (hc:kU cmp r N s) {p:Array Nat} (hp:PM N p) {n:Nat} (hn:n+1<=N) (d:Dn r p (n+1)) {G:Nat×Array Nat->QB->Prop} (h:∀ m p',PM N p'->1<=m->m<=N->Up r p' m->G (m,p') s):(kas_descPart n N p).kasWp cmp G s:=by
 unfold kas_descPart
 rw [KasT.kasWp_bind]
 refine qw hc _ _ _ _ hp ‹0› ‹0› d ‹0› (fun i a b=>by rw [show i=n+1 - 1 by omega]) fun p' m q' hp' a b d' hq he=>?_
 have hs:=hp'.size
 dsimp only
 by_cases hq0:q' > 0
 ·rw [if_pos hq0]
  refine vV hc (hp'.rev _ _) ‹0› ‹0› (fun i j hij hj=>?_) h
  rw [Cd ‹0› hq he,Cd ‹0› hq he]
  exact d' i j hij hj
 ·rw [if_neg hq0]
  exact vV hc hp' ‹0› ‹0› d' h
theorem BL (hc:kU cmp r N s) (h1:1<=N) {p:Array Nat} (hp:PM N p) {G:Nat×Array Nat->QB->Prop} (h:∀ m p',PM N p'->1<=m->m<=N->Up r p' m->G (m,p') s):(kas_count N p).kasWp cmp G s:=by
 unfold kas_count
 rw [KasT.kasWp_bind]
 have hs:=hp.size
 refine xM hc hp _ _ (MA _) ‹0› (fun i j hij hj=>by rw [show i=j by omega]; exact MA _) fun n a b u hor=>?_
 by_cases hn:n=N
 ·rw [if_pos (by simpa using hn)]
  exact h n p hp a ‹0› u
 ·rw [if_neg (by simpa using hn)]
  have hlt:Rk r p n < Rk r p (n - 1):=by
   rcases hor with z | z
   ·omega
   ·exact z
  by_cases hg:n > 1
  ·rw [if_pos hg]
   refine hc _ _ _ (hp.lt ‹0›) (hp.lt ‹0›) ?_
   by_cases q:Rk r p 0 < Rk r p (n - 1)
   ·rw [decide_eq_true q]; dsimp only; rw [if_pos rfl]
    exact h n p hp a ‹0› u
   ·rw [decide_eq_false q]; dsimp only; rw [if_neg MF]
    have hall:∀ k,k < n->Rk r p k=Rk r p (n - 1):=fun k hk=>by
     have a1:=u 0 k ‹0› hk
     have a2:=u k (n - 1) ‹0› ‹0›
     omega
    have hr:∀ k,Rk r (kas_rev p 0 n) k=Rk r p k:=fun k=>by
     rw [vT ‹0›]
     split
     ·rename_i z
      rw [hall _ ‹0›,hall k z.2]
     ·rfl
    refine qf hc (hp.rev _ _) ‹0› (fun i j hij hj=>?_) h
    rw [hr,hr]
    by_cases hjn:j < n
    ·rw [hall i ‹0›,hall j hjn]; exact MA _
    ·have ej:j=n:=by omega
     subst ej
     by_cases ei:i=j
     ·subst ei; exact MA _
     ·rw [hall i ‹0›]; omega
  ·rw [if_neg hg]
   have en:n=1:=by omega
   subst en
   refine qf hc hp ‹0› (fun i j hij hj=>?_) h
   by_cases ei:i=j
   ·subst ei; exact MA _
   ·have e0:i=0:=by omega
    have e1:j=1:=by omega
    subst e0 e1
    exact Ms hlt
theorem qL (hc:kU cmp r N s) {p:Array Nat} (hp:PM N p) {k:Nat} (hk:k < N) (u:Up r p k) {G:Nat->QB->Prop} (h:∀ l,l<=k->(∀ i,i < l->Rk r p i<=Rk r p k)->(∀ i,l<=i->i < k->Rk r p k < Rk r p i)->G l s) :
  ∀ (f l t:Nat),t - l<=f->l<=t->t<=k->(∀ i,i < l->Rk r p i<=Rk r p k)->(∀ i,t<=i->i < k->Rk r p k < Rk r p i)->(kas_place p k f l t).kasWp cmp G s
 | 0,l,t,a,b,c,d,e=>h l ‹0› d fun i x y=>e i ‹0› y
 | f+1,l,t,a,b,c,d,e=>by
  unfold kas_place
  by_cases hl:l>=t
  ·rw [if_pos hl]
   exact h l ‹0› d fun i x y=>e i ‹0› y
  ·rw [if_neg hl]
   refine hc _ _ _ (hp.lt hk) (hp.lt ‹0›) ?_
   by_cases q:Rk r p k < Rk r p ((l+t) / 2)
   ·rw [decide_eq_true q]; dsimp only; rw [if_pos rfl]
    refine qL hc hp hk u h f l ((l+t) / 2) ‹0› ‹0› ‹0› d fun i x y=>?_
    have:=u ((l+t) / 2) i x y
    omega
   ·rw [decide_eq_false q]; dsimp only; rw [if_neg MF]
    refine qL hc hp hk u h f ((l+t) / 2+1) t ‹0› ‹0› ‹0› (fun i x=>?_) e
    have:=u i ((l+t) / 2) ‹0› ‹0›
    omega
theorem Bo (hc:kU cmp r N s) {G:Array Nat->QB->Prop} (h:∀ p,PM N p->Up r p N->G p s):∀ (f:Nat) (p:Array Nat) (k:Nat),PM N p->k+f=N->Up r p k->(kas_bin f p k).kasWp cmp G s
 | 0,p,k,hp,e,u=>h p hp (by rw [<- e]; exact u)
 | f+1,p,k,hp,e,u=>by
  unfold kas_bin
  rw [KasT.kasWp_bind]
  have hs:=hp.size
  refine qL hc hp ‹0› u (fun l hl d e'=>?_) k 0 k ‹0› (MK _) (MA _) (fun i x=>by omega) fun i x y=>by omega
  refine Bo hc h f _ (k+1) ((bubble_perm p k _).trans hp) ‹0› fun i j hij hj=>?_
  rw [Bv ‹0› ‹0›,Bv ‹0› ‹0›,show k - (k - l)=l by omega]
  have U:=u
  by_cases i1:i=l
  ·rw [if_pos i1]
   by_cases j1:j=l
   ·rw [if_pos j1]; exact MA _
   ·rw [if_neg j1,if_pos ‹0›]
    exact Ms (e' (j - 1) ‹0› ‹0›)
  ·rw [if_neg i1]
   by_cases i2:l < i/\i<=k
   ·rw [if_pos i2,if_neg ‹0›,if_pos ‹0›]
    exact U _ _ ‹0› ‹0›
   ·rw [if_neg i2]
    by_cases j1:j=l
    ·rw [if_pos j1]; exact d i ‹0›
    ·rw [if_neg j1]
     by_cases j2:l < j/\j<=k
     ·rw [if_pos j2]
      exact U _ _ ‹0› ‹0›
     ·rw [if_neg j2]
      exact U _ _ hij ‹0›
theorem zy (hc:kU cmp r N s) (h2:1<=N) {G:Array Nat->QB->Prop} (h:∀ p,PM N p->Up r p N->G p s):(kas_sort N).kasWp cmp G s:=by
 unfold kas_sort
 rw [KasT.kasWp_bind]
 refine BL hc h2 (Array.Perm.refl _) fun m p' hp a b u=>?_
 dsimp only
 by_cases hm:m < N
 ·rw [if_pos hm,show max m 1=m by omega]
  exact Bo hc h _ p' m hp ‹0› u
 ·rw [if_neg hm]
  exact h p' hp (by rw [show N=m by omega]; exact u)
end
section
variable {prog:Qr} {w:Qq} {A:QA} {E:Qp->QB->Prop} {s:QB}
theorem sZ {a:Qs} {vs:List Qp} {n:Nat} {P:PySem.Fin->QB->Prop} {κ:RJ} {r:Nat->Nat} (ho:s.heap.get? a=some (seqObj "list" vs.toArray n)) (h64:vs.length < 64)
  (hk:2<=vs.length->∀ h':Qu,(∀ b o,b≠a->s.heap.get? b=some o->h'.get? b=some o)->∀ (Q:RJ->QB->Prop),Q κ { s with heap:=h' }->QD (model prog w) A (keyKind' vs.toArray) Q E { s with heap:=h' })
  (hr:2<=vs.length->∀ h':Qu,(∀ b o,b≠a->s.heap.get? b=some o->h'.get? b=some o)->kU (RK prog w A κ vs) r vs.length { s with heap:=h' })
  (h:∀ p:Array Nat,PM vs.length p->Up r p vs.length->P (.done (.ret .none)) { s with heap:=sortedHeap s.heap a vs (List.toArray (p.toList.map fun i=>vs.getD i Value.none)) }) :
  QD (model prog w) A (Builtin.«list.sort» ⟨[.ref a],[]⟩) P E s:=by
 rw [list_sort_plain]
 have ha:a < s.heap.objs.size:=PQ ho
 refine QM (listItems_at ho rfl ?_)
 refine QM (RL ho rfl ?_ (by rw [ME,QU]; omega) (MK _))
 obtain⟨e1,ho1⟩:∃ e1,(s.heap.update a (Obj.mapSeq fun _=>(#[]:Array Qp))).get? a=some (seqObj "list" #[] e1):=⟨_,RM ho (fun _=>#[])⟩
 refine QM (RN ho1 rfl ?_)
 refine QM (RE ?_ (by show vs.length<=_; rw [QU]; omega))
 refine QM (RO ?_ (MK _))
 refine Rb ?_
 have ho6:(((s.heap.update a (Obj.mapSeq fun _=>(#[]:Array Qp))).push (seqObj "tuple" vs.toArray 0)).push (seqObj "list" #[] 0)).get? a=some (seqObj "list" #[] e1):=by
  rw [P5 _ _ _ (by rw [size_push',P6]; exact Mq (Ng ha)),P5 _ _ _ (by rw [P6]; exact Mq ha)]
  exact ho1
 have kept:∀ b o,b≠a->s.heap.get? b=some o->(((s.heap.update a (Obj.mapSeq fun _=>(#[]:Array Qp))).push (seqObj "tuple" vs.toArray 0)).push (seqObj "list" #[] 0)).get? b=some o:=fun b o hb e =>
  PX _ (PX _ (by rw [P7 _ _ _ _ hb]; exact e))
 show QD (model prog w) A _ P E { s with heap:=((s.heap.update a (Obj.mapSeq fun _=>(#[]:Array Qp))).push (seqObj "tuple" vs.toArray 0)).push (seqObj "list" #[] 0) }
 dsimp only
 have hsz:vs.toArray.size=vs.length:=by simp
 by_cases h2:vs.toArray.size < 2
 ·rw [if_pos h2,if_pos h2]
  refine QM (QL ?_)
  rw [StateT.run_pure]
  refine QM (QL ?_)
  dsimp only
  refine QM (RN ho6 rfl ?_)
  have hout:(arrOf (SortSt.mk' general' (vs.toArray.zip vs.toArray) #[] 7 none)).map (·.2)=List.toArray ((List.toArray (List.range vs.length)).toList.map fun i=>vs.getD i Value.none):=by
   refine kat_snds rfl ?_
   show vs.toArray.zip vs.toArray=_
   have e:=kas_range (vs.toArray.zip vs.toArray)
   rw [show (vs.toArray.zip vs.toArray).size=vs.length by simp] at e
   exact e.symm
  rw [hout]
  refine QM (RL ho6 rfl ?_ (MK _) (by rw [ME,MI,QU]; simp; omega))
  simp only [bne_self_eq_false,Nf,if_false]
  refine QL (h _ (Array.Perm.refl _) fun i j hij hj=>?_)
  have:i=j:=by omega
  subst this; exact MA _
 ·rw [if_neg h2,if_neg h2]
  have h2':2<=vs.length:=by omega
  refine QM (hk h2' _ kept _ ?_)
  refine QM (QH (kat_run (Q:=fun st' s'=>∃ p:Array Nat,arrOf st'=p.map (kas_item (vs.toArray.zip vs.toArray))/\failedOf st'=none/\PM vs.length p/\Up r p vs.length/\s'={ s with heap:=((s.heap.update a (Obj.mapSeq fun _=>(#[]:Array Qp))).push (seqObj "tuple" vs.toArray 0)).push (seqObj "list" #[] 0) })
   (G:=fun p s'=>PM vs.length p/\Up r p vs.length/\s'={ s with heap:=((s.heap.update a (Obj.mapSeq fun _=>(#[]:Array Qp))).push (seqObj "tuple" vs.toArray 0)).push (seqObj "list" #[] 0) })
   rfl h2' h64 (fun p' st' s' a1 a2 a3 a4=>⟨p',a2,a3,a4.1,a4.2.1,a4.2.2⟩) (zy (hr h2' _ kept) ‹0› fun p hp hu=>⟨hp,hu,rfl⟩)) ?_ fun _ _ e=>e)
  rintro⟨⟨⟩,st'⟩ s' ⟨p,har,hf,hp,hu,rfl⟩
  dsimp only
  refine QM (RN ho6 rfl ?_)
  have hout:=kat_snds rfl har
  rw [hout]
  refine QM (RL ho6 rfl ?_ (MK _) (by rw [ME,MI,Array.length_toList,hp.size,QU]; omega))
  rw [hf]
  simp only [bne_self_eq_false,Nf,if_false]
  exact QL (h p hp hu)
theorem rj {src:Qp} {vs:List Qp} {Q:Qp->QB->Prop} {κ:RJ} {r:Nat->Nat} (h64:vs.length < 64)
  (hcol:∀ (Q':List Qp->QB->Prop),(∀ h' tk,(∀ b o,s.heap.get? b=some o->h'.get? b=some o)->Q' vs { s with heap:=h',toks:=tk })->QD (model prog w) A.in1 (collect src) Q' E s)
  (hk:2<=vs.length->∀ (h':Qu) (tk:Nat),(∀ b o,s.heap.get? b=some o->h'.get? b=some o)->∀ (Q:RJ->QB->Prop),Q κ { s with heap:=h',toks:=tk }->QD (model prog w) A.in1.in1 (keyKind' vs.toArray) Q E { s with heap:=h',toks:=tk })
  (hr:2<=vs.length->∀ (h':Qu) (tk:Nat),(∀ b o,s.heap.get? b=some o->h'.get? b=some o)->kU (RK prog w A.in1.in1 κ vs) r vs.length { s with heap:=h',toks:=tk })
  (h:∀ (p:Array Nat) (h1 h':Qu) (l:Qs) (e tk:Nat),PM vs.length p->Up r p vs.length->(∀ b o,s.heap.get? b=some o->h1.get? b=some o)->(∀ b o,h1.get? b=some o->h'.get? b=some o)->h1.objs.size<=l->h'.get? l=some (seqObj "list" (List.toArray (p.toList.map fun i=>vs.getD i Value.none)) e)->Q (.ref l) { s with heap:=h',toks:=tk }) :
  QD (model prog w) A (call (.builtin "sorted") [src]) Q E s:=by
 refine Calls.call_function_entry kind_sorted plain_sorted entry_sorted (args_sorted1 _) ?_
 unfold Builtin.«sorted»
 refine QM (m:=checkCount "sorted" 1 1 _) (QL ?_)
 refine QM (hcol _ fun h1 tk k1=>?_)
 refine QM (RO ?_ (by rw [QU]; omega))
 have hoL:(h1.push (seqObj "list" vs.toArray 0)).get? h1.objs.size=some (seqObj "list" vs.toArray 0):=PY _ rfl
 have k2:∀ b o,s.heap.get? b=some o->(h1.push (seqObj "list" vs.toArray 0)).get? b=some o:=fun b o e=>PX _ (k1 b o e)
 have ne:∀ b o,s.heap.get? b=some o->b≠h1.objs.size:=fun b o e=>Mq (PQ (k1 b o e))
 refine QM (Rb (Rf slot_list_sort ⟨_,hoL,rfl⟩ entry_list_sort (sZ (s:={ s with heap:=h1.push (seqObj "list" vs.toArray 0),toks:=tk }) (r:=r) (κ:=κ) hoL h64
  (fun h2 h' k=>hk h2 h' tk fun b o e=>k b o (ne b o e) (k2 b o e)) (fun h2 h' k=>hr h2 h' tk fun b o e=>k b o (ne b o e) (k2 b o e)) fun p hp hu=>⟨_,rfl,?_⟩) (args_list_sort _)))
 refine QL ⟨_,rfl,?_⟩
 obtain⟨e,he⟩:=sortedHeap_at (vs:=vs) (out:=List.toArray (p.toList.map fun i=>vs.getD i Value.none)) hoL
 exact h p h1 _ h1.objs.size e tk hp hu k1 (fun b o q=>by rw [sortedHeap_old (Mq (PQ q)) (by rw [size_push']; exact Ng (PQ q))]; exact PX _ q) (MA _) he
end
def dQ:D->List D
 | .tup ks=>ks
 | _=>[]
def oneOf (d:D):List D:=[d]
def Gc (xs:List D):Prop:=xs.length < 64/\∃ σ:List Bool,σ≠[]/\(∀ x∈xs,∃ k,x=.tup k/\Sh σ k)/\xs.Pairwise fun x y=>dQ x≠dQ y
def Il (xs:List D):Prop:=xs.length < 64/\∃ b:Bool,(∀ x∈xs,Sh [b] [x])/\xs.Pairwise fun x y=>oneOf x≠oneOf y
open Classical in
noncomputable def pZ (xs:List D):Option D:=if Gc xs then some (.lst (hV dQ xs)) else if Il xs then some (.lst (hV oneOf xs)) else none
noncomputable def fh:List D->Option D
 | [.lst xs]=>pZ xs
 | [.tup xs]=>pZ xs
 | _=>none
theorem iY {prog:Qr} {w:Qq} {A:QA} {s:QB} {Q:Bool->QB->Prop} {fin:Bool} (hf:fin=false):∀ {σ:List Bool} {ns ms:List D} {xs ys:List Qp} {i:Nat},Sh σ ns->Sh σ ms->fX xs ns->fX ys ms->Q (kLt ns ms) s->KatLex prog w A true fin Q (xs.zip ys) i s
 | _,_,_,_,_,i,.nil,.nil,.nil,.nil,h=>by
  subst hf
  exact kat_nil (by simpa [kLt,eF] using h)
 | _,_,_,_,_,i,.int a h1,.int c h2,.int _ t f1,.int _ u f2,h=>by
  rw [NY]
  obtain⟨e,he,hiff⟩:=EW A s a t c u
  refine kat_cons (he prog w _ _ ?_)
  cases e with
  | true =>
   have ac:=hiff.mp rfl
   refine kat_yes (iY hf h1 h2 f1 f2 ?_)
   unfold kLt at h ⊢
   rw [oq,if_pos ac] at h
   exact h
  | false =>
   have ac:¬ a=c:=fun q=>absurd (hiff.mpr q) MF
   have h':Q (decide (a < c)) s:=by
    unfold kLt at h
    rw [oq,if_neg ac] at h
    cases hd:decide (a < c) <;> rw [hd] at h <;> exact h
   refine kat_no ?_
   cases hi:(i==0) with
   | true=>exact oneLt_int h'
   | false=>exact kat_one _ _ (PySem.P.lt_int (show PD Q (.bool _) s from h'))
 | _,_,_,_,_,i,.str a h1,.str c h2,.str _ t f1,.str _ u f2,h=>by
  rw [NY]
  obtain⟨e,he,hiff⟩:=Fp A s a t c u
  refine kat_cons (he prog w _ _ ?_)
  cases e with
  | true =>
   have ac:=hiff.mp rfl
   refine kat_yes (iY hf h1 h2 f1 f2 ?_)
   unfold kLt at h ⊢
   rw [oy,if_pos ac] at h
   exact h
  | false =>
   have ac:¬ a=c:=fun q=>absurd (hiff.mpr q) MF
   have h':Q (decide (a.cps.toList < c.cps.toList)) s:=by
    unfold kLt at h
    rw [oy,if_neg ac] at h
    cases hd:decide (a.cps.toList < c.cps.toList) <;> rw [hd] at h <;> exact h
   refine kat_no ?_
   cases hi:(i==0) with
   | true=>exact oneLt_str h'
   | false=>exact kat_one _ _ (PySem.P.lt_str (show PD Q (.bool _) s from h'))
theorem nN {h:Qu} {PT:Qp->Prop}:∀ {its:List Qp},(∀ v∈its,∃ a o xs n f,v=.ref a/\h.get? a=some o/\o.cls=.type "tuple"/\o.data=.seq xs n/\xs[0]?=some f/\PT f)->∃ fs,KatTups h its fs/\fs.length=its.length/\∀ f∈fs,PT f
 | [],_=>⟨[],.nil,rfl,fun _ h=>nomatch h⟩
 | v::its,hh=>by
  obtain⟨a,o,xs,n,f,rfl,h1,h2,h3,h4,h5⟩:=hh v Mu
  obtain⟨fs,k1,k2,k3⟩:=nN (its:=its) fun u hu=>hh u (Mv _ hu)
  refine⟨f::fs,.cons h1 h2 h3 h4 k1,by rw [MG,MG,k2],fun g hg=>?_⟩
  rcases List.mem_cons.mp hg with rfl | z
  ·exact h5
  ·exact k3 g z
theorem fX.first {σ:List Bool} {b:Bool} {xs:List Qp} {ns:List D} (f:fX xs ns) (h:Sh (b::σ) ns):∃ v,xs[0]?=some v/\typeOf v=pure (.type (if b then "int" else "str")):=by
 cases f with
 | nil=>cases h
 | int i t f=>cases h; exact⟨_,rfl,rfl⟩
 | str i t f=>cases h; exact⟨_,rfl,rfl⟩
theorem p4 {key:D->List D} {σ:List Bool} {ds:List D} (h:∀ x∈ds,Sh σ (key x)) (pw:ds.Pairwise fun x y=>key x≠key y) {p:Array Nat} (hp:PM ds.length p) (hu:Up (rank (ds.map key)) p ds.length):p.toList.map (fun i=>ds.getD i .non)=hV key ds:=by
 have hr:p.toList.Perm (List.range ds.length):=by
  have:=Array.perm_iff_toList_perm.mp hp
  simpa using this
 have hmap:(List.range ds.length).map (fun i=>ds.getD i .non)=ds:=by
  apply List.ext_getElem
  ·simp
  ·intro i h1 h2
   simp at h1
   simp [h1]
 have hperm:(p.toList.map fun i=>ds.getD i .non).Perm ds:=by
  have:=hr.map (fun i=>ds.getD i .non)
  rwa [hmap] at this
 have hn:p.toList.Nodup:=hr.nodup_iff.mpr List.nodup_range
 refine(lN h pw ?_ hperm).symm
 have hl:p.toList.length=ds.length:=by rw [hr.length_eq,NA]
 have kd:∀ i,i < ds.length->(ds.map key).getD i []=key (ds.getD i .non):=fun i hi=>by simp [hi]
 have hsh:∀ k∈ds.map key,Sh σ k:=fun k hk=>by
  obtain⟨x,hx,rfl⟩:=List.mem_map.mp hk
  exact h x hx
 unfold v7
 rw [Of,List.pairwise_iff_getElem]
 intro i j hi hj hij
 have hi':p.toList[i] < ds.length:=by simpa using hr.mem_iff.mp (Oe hi)
 have hj':p.toList[j] < ds.length:=by simpa using hr.mem_iff.mp (Oe hj)
 have ne:p.toList[i]≠p.toList[j]:=List.pairwise_iff_getElem.mp hn i j hi hj hij
 have up:=hu i j ‹0› ‹0›
 have gi:p.getD i 0=p.toList[i]:=by
  have:i < p.size:=by rw [<- Array.length_toList]; exact hi
  simp [Array.getD,this]
 have gj:p.getD j 0=p.toList[j]:=by
  have:j < p.size:=by rw [<- Array.length_toList]; exact hj
  simp [Array.getD,this]
 unfold Rk at up
 rw [gi,gj] at up
 have rl:=qv hsh (i:=p.toList[j]) (j:=p.toList[i]) (by rw [MI]; exact hj') (by rw [MI]; exact hi')
 rw [kd _ hj',kd _ hi',decide_eq_false ‹0›] at rl
 have ei:ds.getD p.toList[i] .non=ds[p.toList[i]]:=by rw [Og,Nr hi']; rfl
 have ej:ds.getD p.toList[j] .non=ds[p.toList[j]]:=by rw [Og,Nr hj']; rfl
 have s1:=h _ (show ds.getD p.toList[i] .non∈ds by rw [ei]; exact Oe hi')
 have s2:=h _ (show ds.getD p.toList[j] .non∈ds by rw [ej]; exact Oe hj')
 rcases lW s1 s2 with ⟨z,_⟩ | z | ⟨z,_⟩
 ·exact z
 ·exfalso
  have pw':=List.pairwise_iff_getElem.mp pw
  rw [ei,ej] at z
  rcases Nat.lt_or_gt_of_ne ne with q | q
  ·exact pw' _ _ hi' hj' q z
  ·exact pw' _ _ hj' hi' q z.symm
 ·rw [Dw.mpr z] at rl; cases rl
theorem pM {vs:List V} {us:List Qp} (r:Vals vs us):∀ l:List Nat,(∀ i∈l,i < vs.length)->Vals (l.map fun i=>vs.getD i .non) (l.map fun i=>us.getD i Value.none)
 | [],_=>.nil
 | i::l,h=>by
  have hi:=h i Mu
  obtain⟨u,e,q⟩:=r.get (i:=i) (x:=vs[i]) (by simp [hi])
  refine .cons ?_ (pM r l fun j hj=>h j (Mv _ hj))
  have e1:vs.getD i .non=vs[i]:=by simp [hi]
  have e2:us.getD i Value.none=u:=by simp [Og,e]
  show L2.RelV (vs.getD i .non) (us.getD i Value.none)
  rw [e1,e2]; exact q
theorem pT {K:Pa} {H:Hp} {ds:List D} {vs:List V} (g:aW K H ds vs):∀ l:List Nat,(∀ i∈l,i < ds.length)->aW K H (l.map fun i=>ds.getD i .non) (l.map fun i=>vs.getD i .non)
 | [],_=>cT.mpr rfl
 | i::l,h=>by
  have hi:=h i Mu
  obtain⟨v,e,q⟩:=g.get (i:=i) (d:=ds[i]) (by simp [hi])
  refine bC.mpr ⟨_,_,rfl,?_,pT g l fun j hj=>h j (Mv _ hj)⟩
  have e1:ds.getD i .non=ds[i]:=by simp [hi]
  have e2:vs.getD i .non=v:=by simp [Og,e]
  show cK K H (ds.getD i .non) (vs.getD i .non)
  rw [e1,e2]; exact q
section
variable {X:Cx} {pins:List (Qs×Obj)} {s:QB} {σ:L2.St} {H:Hp} {O:List Qs}
theorem ui {u:Qp} {ds:List D} {vs:List V} {its:List Qp} {d:D} {Q:VK} (I:Inv X pins σ H s) (hO:d9 H O) (dn:aW X.K (hid H O) ds vs) (rv:Vals vs its) (hs:pZ ds=some d)
  (hcol:∀ (Q':List Qp->QB->Prop),(∀ h' tk,(∀ b o,s.heap.get? b=some o->h'.get? b=some o)->Q' its { s with heap:=h',toks:=tk })->QD (model X.prog X.w) X.A.in1 (collect u) Q' X.xe s)
  (q:∀ v H',bo H H'->cK X.K (hid H' O) d v->Q v H'):QD (model X.prog X.w) X.A (call (.builtin "sorted") [u]) (EP X pins σ Q) X.xe s:=by
 have l1:=dn.length
 have l2:=rv.length
 have fin:∀ (key:D->List D) (σ':List Bool),(∀ x∈ds,Sh σ' (key x))->ds.Pairwise (fun x y=>key x≠key y)->ds.length < 64->d=.lst (hV key ds)->∀ (p:Array Nat) (h1 h':Qu) (l:Qs) (e tk:Nat),PM its.length p->Up (rank (ds.map key)) p its.length->(∀ b o,s.heap.get? b=some o->h1.get? b=some o)->(∀ b o,h1.get? b=some o->h'.get? b=some o)->h1.objs.size<=l ->
   h'.get? l=some (seqObj "list" (List.toArray (p.toList.map fun i=>its.getD i Value.none)) e)->EP X pins σ Q (.ref l) { s with heap:=h',toks:=tk }:=by
  intro key σ' hsh pw h64 ed p h1 h' l e tk hp hu k1 k2 hl he
  have el:its.length=ds.length:=by omega
  rw [el] at hp hu
  have ps:=p4 hsh pw hp hu
  have hr:p.toList.Perm (List.range ds.length):=by
   have:=Array.perm_iff_toList_perm.mp hp
   simpa using this
  have hlt:∀ i∈p.toList,i < ds.length:=fun i hi=>by simpa using hr.mem_iff.mp hi
  have I1:Inv X pins σ H { s with heap:=h1,toks:=tk }:=I.kept k1
  have hn:H l=none:=I1.hok.fresh hl
  have rv':=pM rv p.toList fun i hi=>by have:=hlt i hi; omega
  have dn':=pT dn p.toList hlt
  have hlen:p.toList.length=ds.length:=by rw [hr.length_eq,NA]
  refine⟨.ref l,_,Inv.laid (s:={ s with heap:=h1,toks:=tk }) (t':=tk) I1 k2 hl (show cx X.prog X.w _ h' _ (.lst (p.toList.map fun i=>vs.getD i .non)) from ⟨by rw [MI,hlen,QU]; omega,_,e,rv',he⟩),rfl,?_⟩
  refine q _ _ (bD hn _) ?_
  rw [ed,<- ps]
  exact dg hO hn dn'
 unfold pZ at hs
 split at hs
 ·rename_i h
  cases hs
  obtain⟨h64,σ',hσ,hsh,pw⟩:=h
  obtain⟨b,σ1,rfl⟩:∃ b σ1,σ'=b::σ1:=by
   cases σ' with
   | nil=>exact absurd rfl hσ
   | cons b σ1=>exact⟨b,σ1,rfl⟩
  have hsh':∀ x∈ds,Sh (b::σ1) (dQ x):=fun x hx=>by
   obtain⟨k,rfl,hk⟩:=hsh x hx
   exact hk
  have at':∀ i (hi:i < ds.length),∃ a o xs n,its[i]?=some (.ref a)/\s.heap.get? a=some o/\o.cls=.type "tuple"/\o.data=.seq xs n/\fX xs.toList (dQ ds[i]):=fun i hi=>by
   obtain⟨v,e1,dv⟩:=dn.get (i:=i) (d:=ds[i]) (by simp [hi])
   obtain⟨w,e2,rw'⟩:=rv.get e1
   obtain⟨k,ek,hk⟩:=hsh _ (Oe hi)
   rw [ek] at dv ⊢
   obtain⟨a,ws,rfl,ha,dk⟩:=cC.mp dv
   cases rw'
   obtain⟨it2,r2,⟨o,ho,hc,n,hd⟩,_⟩:=I.tuple (bR (aC H O) ha)
   exact⟨a,o,_,n,e2,ho,hc,hd,by simpa [dQ] using jO (qz hk) dk r2⟩
  refine rj (κ:=tuples' true) (r:=rank (ds.map dQ)) ‹0› hcol (fun h2 h' tk kp Q' hQ=>?_) (fun h2 h' tk kp i j C hi hj hC=>?_) (fin dQ _ hsh' pw h64 rfl)
  ·obtain⟨fs,t1,t2,t3⟩:=nN (h:=h') (PT:=fun f=>typeOf f=pure (.type (if b then "int" else "str"))) (its:=its) fun v hv=>by
    obtain⟨i,hi,rfl⟩:=Nw hv
    obtain⟨a,o,xs,n,e1,ho,hc,hd,ff⟩:=at' i ‹0›
    obtain⟨f,ef,tf⟩:=ff.first (hsh' _ (Oe _))
    refine⟨a,o,xs,n,f,?_,kp _ _ ho,hc,hd,by simpa using ef,tf⟩
    have:=Nr hi
    rw [e1] at this
    exact(Option.some.inj this).symm
   refine kat_kind (T:=.type (if b then "int" else "str")) t1 ‹0› (fun f hf=>Looks.of_pure (t3 f hf)) (by cases b <;> rfl) ?_
   have:(Value.type (if b then "int" else "str") != Value.type "tuple")=true:=by cases b <;> rfl
   rw [this]; exact hQ
  ·obtain⟨a,o,xs,n,e1,ho,hc,hd,ff⟩:=at' i ‹0›
   obtain⟨a2,o2,xs2,n2,e2,ho2,hc2,hd2,ff2⟩:=at' j ‹0›
   unfold RK
   have g1:its.getD i Value.none=.ref a:=by simp [Og,e1]
   have g2:its.getD j Value.none=.ref a2:=by simp [Og,e2]
   rw [g1,g2]
   have hi':i < ds.length:=by omega
   have hj':j < ds.length:=by omega
   have sh1:=hsh' _ (Oe hi')
   have sh2:=hsh' _ (Oe hj')
   have rl:=qv (ks:=ds.map dQ) (σ:=b::σ1) (fun k hk=>by obtain⟨x,hx,rfl⟩:=List.mem_map.mp hk; exact hsh' x hx) (i:=i) (j:=j) (by rw [MI]; exact hi') (by rw [MI]; exact hj')
   have k1:(ds.map dQ).getD i []=dQ ds[i]:=by simp [hi']
   have k2:(ds.map dQ).getD j []=dQ ds[j]:=by simp [hj']
   rw [k1,k2] at rl
   rw [rl] at hC
   refine kat_lt (kp _ _ ho) hd (kp _ _ ho2) hd2 (iY ?_ sh1 sh2 ff ff2 hC)
   have z1:xs.size=(dQ ds[i]).length:=by have:=ff.length; simpa using this
   have z2:xs2.size=(dQ ds[j]).length:=by have:=ff2.length; simpa using this
   have z3:(dQ ds[i]).length=(dQ ds[j]).length:=by rw [Sh.length sh1,Sh.length sh2]
   exact decide_eq_false ‹0›
 ·split at hs
  ·rename_i _ h
   cases hs
   obtain⟨h64,b,hsh,pw⟩:=h
   have at':∀ i (hi:i < ds.length),(∃ (n:Int) (t:Tok),b=true/\its[i]?=some (.int n t)/\ds[i]=.int n)\/∃ (x:Str) (t:Tok),b=false/\its[i]?=some (.str x t)/\ds[i]=.str x:=fun i hi=>by
    obtain⟨v,e1,dv⟩:=dn.get (i:=i) (d:=ds[i]) (by simp [hi])
    obtain⟨w,e2,rw'⟩:=rv.get e1
    have hk:=hsh _ (Oe hi)
    generalize ds[i]=di at dv hk
    cases hk with
    | int n _ =>
     rw [fu] at dv; subst dv
     obtain⟨t,rfl⟩:=rw'
     exact .inl ⟨n,t,rfl,e2,rfl⟩
    | str x _ =>
     rw [fj] at dv; subst dv
     obtain⟨t,rfl⟩:=rw'
     exact .inr ⟨x,t,rfl,e2,rfl⟩
   refine rj (κ:=oneType') (r:=rank (ds.map oneOf)) ‹0› hcol (fun h2 h' tk kp Q' hQ=>?_) (fun h2 h' tk kp i j C hi hj hC=>?_) (fin oneOf [b] hsh pw h64 rfl)
   ·refine kas_kind (T:=.type (if b then "int" else "str")) h2 (fun v hv=>?_) (by cases b <;> rfl) (by cases b <;> rfl) hQ
    obtain⟨i,hi,rfl⟩:=Nw hv
    have hg:=Nr hi
    rcases at' i ‹0› with ⟨n,t,rfl,e,_⟩ | ⟨x,t,rfl,e,_⟩
    ·rw [hg] at e; rw [Option.some.inj e]; exact Looks.of_pure rfl
    ·rw [hg] at e; rw [Option.some.inj e]; exact Looks.of_pure rfl
   ·have hi':i < ds.length:=by omega
    have hj':j < ds.length:=by omega
    unfold RK
    have rl:=qv (ks:=ds.map oneOf) (σ:=[b]) (fun k hk=>by obtain⟨x,hx,rfl⟩:=List.mem_map.mp hk; exact hsh x hx) (i:=i) (j:=j) (by rw [MI]; exact hi') (by rw [MI]; exact hj')
    have k1:(ds.map oneOf).getD i []=[ds[i]]:=by simp [hi',oneOf]
    have k2:(ds.map oneOf).getD j []=[ds[j]]:=by simp [hj',oneOf]
    rw [k1,k2] at rl
    rw [rl] at hC
    rcases at' i hi' with ⟨n,t,hb,e1,q1⟩ | ⟨x,t,hb,e1,q1⟩
    ·rcases at' j hj' with ⟨n2,t2,hb2,e2,q2⟩ | ⟨x2,t2,hb2,e2,q2⟩
     ·have g1:its.getD i Value.none=.int n t:=by simp [Og,e1]
      have g2:its.getD j Value.none=.int n2 t2:=by simp [Og,e2]
      rw [g1,g2,keyLt'_oneType]
      refine oneLt_int ?_
      rw [q1,q2] at hC
      unfold kLt at hC
      rw [oq] at hC
      by_cases z:n=n2
      ·rw [if_pos z] at hC
       rw [decide_eq_false ‹0›]
       exact hC
      ·rw [if_neg z] at hC
       cases hd:decide (n < n2) <;> rw [hd] at hC <;> exact hC
     ·rw [hb] at hb2; cases hb2
    ·rcases at' j hj' with ⟨n2,t2,hb2,e2,q2⟩ | ⟨x2,t2,hb2,e2,q2⟩
     ·rw [hb] at hb2; cases hb2
     ·have g1:its.getD i Value.none=.str x t:=by simp [Og,e1]
      have g2:its.getD j Value.none=.str x2 t2:=by simp [Og,e2]
      rw [g1,g2,keyLt'_oneType]
      refine oneLt_str ?_
      rw [q1,q2] at hC
      unfold kLt at hC
      rw [oy] at hC
      by_cases z:x=x2
      ·rw [if_pos z] at hC
       rw [decide_eq_false (by rw [z]; exact rN _)]
       exact hC
      ·rw [if_neg z] at hC
       cases hd:decide (x.cps.toList < x2.cps.toList) <;> rw [hd] at hC <;> exact hC
  ·cases hs
theorem kr:dR X (.builtin "sorted") (vW X.K fh):=by
 intro pins s σ H xs us Q I r ⟨O,ds,d,hO,hd,hg,q⟩
 unfold fh at hg
 split at hg
 ·obtain⟨v,rfl,h1⟩:=hd.one
  obtain⟨p,ws,rfl,g1,g2⟩:=cD.mp h1
  obtain⟨u,rfl,ru⟩:=vals1 r
  cases ru
  obtain⟨its,rv,pl,hz⟩:=I.list ((aC H O).seq g1)
  have hlen:=rv.length
  obtain⟨o,ho,hc,n,hd'⟩:=pl.isList
  exact ui I hO g2 rv hg (fun Q' hQ=>RP p (.inl rfl) ho hc hd' (fun h' k=>by simpa using hQ h' s.toks k) (by simp only [ME] <;> omega)) q
 ·obtain⟨v,rfl,h1⟩:=hd.one
  obtain⟨p,ws,rfl,g1,g2⟩:=cC.mp h1
  obtain⟨u,rfl,ru⟩:=vals1 r
  cases ru
  obtain⟨its,rv,⟨o,ho,hc,n,hd'⟩,hz⟩:=I.tuple (bR (aC H O) g1)
  have hlen:=rv.length
  exact ui I hO g2 rv hg (fun Q' hQ=>RP p (.inr rfl) ho hc hd' (fun h' k=>by simpa using hQ h' s.toks k) (by simp only [ME] <;> omega)) q
 ·cases hg
end
end TG
namespace TG
open PySem PySem.Spec L2
variable [aR]
section
variable {X:Cx} {tg:QE}
end
end TG
namespace TG
open PySem PySem.Spec L2
variable [aR]

end TG
namespace TG
open PySem PySem.Spec L2
variable [aR]
end TG
namespace TG
open PySem PySem.Spec L2
variable [aR]
def keyOf:D->Option Key
 | .int i=>some (.inl i)
 | .str x=>some (.inr x)
 | _=>none
def keysOf:List D->Option (List Key)
 | []=>some []
 | d::r=>(keyOf d).bind fun k=>(keysOf r).map (k::·)
def ig:D->Option (List Key)
 | .tup ds=>keysOf ds
 | _=>none
theorem sy {d:D} {k:Key} (h:keyOf d=some k):d=bu k:=by
 cases d with
 | int i=>cases h; rfl
 | str x=>cases h; rfl
 | _=>cases h
theorem mN:∀ {ds:List D} {ks:List Key},keysOf ds=some ks->ds=ks.map bu
 | [],_,h=>by cases h; rfl
 | d::r,ks,h=>by
  unfold keysOf at h
  cases e1:keyOf d with
  | none=>rw [e1] at h; cases h
  | some k =>
   rw [e1] at h
   cases e2:keysOf r with
   | none=>rw [e2] at h; cases h
   | some ks'=>rw [e2] at h; cases h; rw [sy e1,mN e2]; rfl
theorem mj {d:D} {k:List Key} (h:ig d=some k):d=.tup (k.map bu):=by
 cases d with
 | tup ds=>rw [mN (show keysOf ds=some k from h)]
 | _=>cases h
theorem cq:∀ ks:List Key,keysOf (ks.map bu)=some ks
 | []=>rfl
 | k::r=>by
  show (keyOf (bu k)).bind _=_
  have e:keyOf (bu k)=some k:=by cases k <;> rfl
  rw [e]
  show (keysOf (r.map bu)).map (k::·)=_
  rw [cq r]; rfl
theorem rA {K:Pa} {H:Hp} {k:Key} {v:V} (h:cK K H (bu k) v):v=kV k:=by
 cases k with
 | inl i=>exact fu.mp h
 | inr x=>exact fj.mp h
theorem iB {K:Pa} {H:Hp}:∀ {ks:List Key} {vs:List V},aW K H (ks.map bu) vs->vs=ks.map kV
 | [],vs,h=>by rw [M3,cT] at h; exact h
 | k::r,vs,h=>by
  rw [MH,bC] at h
  obtain⟨v,r',e1,h1,h2⟩:=h
  rw [e1,rA h1,iB h2]; rfl
section
variable {P:Qr} {w:Qq} {H H':Hp} {h:Qu} {a:Qs}
theorem CW (x:cx P w H h a (.dK [])):cx P w H' h a (.dT []):=by
 obtain⟨z,hd,vs,rel,o,es,ep,h1,h2,h3,h4,h5,h6⟩:=x
 have e:vs=[]:=by have:=rel.length; simpa using this.symm
 subst e
 refine⟨MK _,hd,[],.nil,o,es,ep,h1,h2,h3,?_,by simp⟩
 have:=h5.length
 simpa using this
theorem wJ (x:cx P w H h a (.dT [])):cx P w H' h a (.dK []):=by
 obtain⟨z,hd,xs,rel,o,es,ep,h1,h2,h3,h4,h5⟩:=x
 have e:xs=[]:=by have:=rel.length; simpa using this.symm
 subst e
 have e2:es=#[]:=by simpa using h4
 subst e2
 exact⟨MK _,hd,[],.nil,o,#[],ep,h1,h2,h3,fun e he=>by simp at he,.nil,by simp⟩
end
section
variable {X:Cx} {pins:List (Qs×Obj)} {σ:St} {H:Hp} {s:QB} {a:Qs}
theorem Bs (I:Inv X pins σ H s) (h1:H a=some (.dK [])):Inv X pins σ (upd H a (.dT [])) s:=by
 have hx:=I.hok a _ h1
 have hq:∃ q,s.heap.get? a=some q:=by obtain⟨_,_,_,_,o,_,_,e,_⟩:=id hx; exact⟨o,e⟩
 exact mr (ob:=.dT []) (h':=s.heap) (t':=s.toks) I (by rw [h1]; exact trivial) ⟨rfl,fun _ _=>rfl⟩ hq (CW hx)
theorem Ib (I:Inv X pins σ H s) (h1:H a=some (.dT [])):Inv X pins σ (upd H a (.dK [])) s:=by
 have hx:=I.hok a _ h1
 have hq:∃ q,s.heap.get? a=some q:=by obtain⟨_,_,_,_,o,_,_,e,_⟩:=id hx; exact⟨o,e⟩
 exact mr (ob:=.dK []) (h':=s.heap) (t':=s.toks) I (by rw [h1]; exact trivial) ⟨rfl,fun _ _=>rfl⟩ hq (wJ hx)
end
theorem Df {H:Hp} {a:Qs} {o1 o2:HO} (h:H a=some o1):upd (upd H a o2) a o1=H:=by
 funext b
 by_cases e:b=a
 ·subst e; rw [aM,h]
 ·rw [aD e,aD e]
def jL:List D->List D->Option (List (List Key×D))
 | [],[]=>some []
 | k::ks,d::ds=>(ig k).bind fun k=>(jL ks ds).map ((k,d)::·)
 | _,_=>none
abbrev encK (al:List (List Key×D)):List D:=al.map fun p=>.tup (p.1.map bu)
abbrev cJ (al:List (List Key×D)):D:=.dct (encK al) (al.map (·.2))
theorem ic:∀ {ks ds:List D} {al:List (List Key×D)},jL ks ds=some al->ks=encK al/\ds=al.map (·.2)
 | [],[],_,h=>by cases h; exact⟨rfl,rfl⟩
 | k::ks,d::ds,al,h=>by
  unfold jL at h
  cases e1:ig k with
  | none=>rw [e1] at h; cases h
  | some k' =>
   rw [e1] at h
   cases e2:jL ks ds with
   | none=>rw [e2] at h; cases h
   | some al' =>
    rw [e2] at h; cases h
    obtain⟨h1,h2⟩:=ic e2
    rw [mj e1,h1,h2]; exact⟨rfl,rfl⟩
 | [],_::_,_,h=>by cases h
 | _::_,[],_,h=>by cases h
theorem iQ:∀ al:List (List Key×D),jL (encK al) (al.map (·.2))=some al
 | []=>rfl
 | p::r=>by
  show (ig (.tup (p.1.map bu))).bind _=_
  have e:ig (.tup (p.1.map bu))=some p.1:=cq p.1
  rw [e]
  show (jL (encK r) (r.map (·.2))).map ((p.1,p.2)::·)=_
  rw [iQ r]; rfl
theorem kY:∀ {al:List (List Key×D)} {ks:List (List Key)},encK al=ks.map (fun k=>.tup (k.map bu))->al.map (·.1)=ks
 | [],[],_=>rfl
 | p::r,k::ks,h=>by
  have h:D.tup (p.1.map bu)::encK r=D.tup (k.map bu)::ks.map (fun k=>.tup (k.map bu)):=h
  injection h with h1 h2
  injection h1 with h1
  have e:some p.1=some k:=by rw [<- cq p.1,h1,cq k]
  rw [MH,Option.some.inj e,kY h2]
 | [],_::_,h=>by cases h
 | _::_,[],h=>by cases h
theorem K9 {K:Pa} {H:Hp} {O:List Qs} {a:Qs} {al:List (List Key×D)} (h:dq K H O a (cJ al)) :
  (∃ kvs:List (List Key×V),H a=some (.dT kvs)/\kvs.map (·.1)=al.map (·.1)/\aW K (hid H O) (al.map (·.2)) (kvs.map (·.2)))\/(H a=some (.dK [])/\al=[]):=by
 obtain⟨o,vs,h1,h2,h3⟩:=h
 rcases h3 with ⟨kvs,e,e1,e2⟩ | ⟨kvs,e,e1,e2⟩
 ·subst e
  cases kvs with
  | nil =>
   refine .inr ⟨h1,?_⟩
   simpa using e1
  | cons p r =>
   cases al with
   | nil=>cases e1
   | cons q r' =>
    have e1:D.tup (q.1.map bu)::encK r'=bu p.1::r.map (fun p=>bu p.1):=e1
    injection e1 with e1 _
    rcases p with ⟨k,v⟩
    cases k <;> cases e1
 ·subst e
  refine .inl ⟨kvs,h1,?_,by rw [<- e2]; exact h2⟩
  exact(kY (ks:=kvs.map (·.1)) (by rw [Oh]; exact e1)).symm
theorem BA {kvs:List (List Key×V)} {ks:List (List Key)} (e:kvs.map (·.1)=ks) (k:List Key):(iE kvs k).isSome=ks.any fun q=>decide (q=k):=by
 subst e
 induction kvs with
 | nil=>rfl
 | cons p r ih =>
  rw [MH,M5,<- ih]
  by_cases e:p.1=k
  ·rw [jx e]; simp [e]
  ·rw [iF e]; simp [e]
def qb (ks ds:List D) (k:D):Option D:=(jL ks ds).bind fun al=>(ig k).bind fun k=>some (.bl (al.any fun p=>decide (p.1=k)))
def Mh (i:Nat) (f:FX):FX:=fun ρ=>(f ρ).bind fun k=>match ρ[i]? with
 | some (some (.own (.dct ks ds)))=>rO (qb ks ds k)
 | _=>un
theorem yz {ks ds:List D} {k d:D} (h:qb ks ds k=some d):∃ al q,ks=encK al/\ds=al.map (·.2)/\k=.tup (q.map bu)/\d=.bl (al.any fun p=>decide (p.1=q)):=by
 unfold qb at h
 cases e1:jL ks ds with
 | none=>rw [e1] at h; cases h
 | some al =>
  rw [e1] at h
  cases e2:ig k with
  | none=>rw [e2] at h; cases h
  | some q =>
   rw [e2] at h; cases h
   obtain⟨h1,h2⟩:=ic e1
   exact⟨al,q,h1,h2,mj e2,rfl⟩
def gu (al:List (List Key×D)) (k:List Key) (v:D):List (List Key×D):=if (al.any fun p=>decide (p.1=k))=true then al.map (fun p=>if p.1=k then (p.1,v) else p) else al++[(k,v)]
def tO (ks ds:List D) (k v:D):Option (List (List Key×D)):=(jL ks ds).bind fun al=>(ig k).bind fun k=>if small al.length then some (gu al k v) else none
def qO (i:Nat) (fk fv:FX):cB:=fun k ρ=>match ρ[i]? with
 | some (some (.own (.dct ks ds)))=>sM ((fv ρ).bind fun v=>(fk ρ).bind fun q=>rO (tO ks ds q v)) k ρ fun al=>k.nx (ρ.set i (some (.own (cJ al))))
 | _=>un
theorem yC {ks ds:List D} {k v:D} {al':List (List Key×D)} (h:tO ks ds k v=some al'):∃ al q,ks=encK al/\ds=al.map (·.2)/\k=.tup (q.map bu)/\small al.length=true/\al'=gu al q v:=by
 unfold tO at h
 cases e1:jL ks ds with
 | none=>rw [e1] at h; cases h
 | some al =>
  rw [e1] at h
  cases e2:ig k with
  | none=>rw [e2] at h; cases h
  | some q =>
   rw [e2] at h
   obtain⟨h3,h4⟩:=bK (show (if small al.length then some (gu al q v) else none)=some al' from h)
   obtain⟨h1,h2⟩:=ic e1
   exact⟨al,q,h1,h2,mj e2,h3,h4.symm⟩
theorem v6 {kvs:List (List Key×V)} {al:List (List Key×D)} (e:kvs.map (·.1)=al.map (·.1)) (k:List Key) (w:V) (d:D):(putK kvs k w).map (·.1)=(gu al k d).map (·.1):=by
 have e2:(kvs.any fun p=>decide (p.1=k))=(al.any fun p=>decide (p.1=k)):=by
  have:=congrArg (fun l=>l.any fun q=>decide (q=k)) e
  simpa [Oi,Function.comp_def] using this
 unfold putK gu
 rw [e2]
 split
 ·have e3:∀ (l:List (List Key×V)),(l.map fun kv=>if kv.1=k then (kv.1,w) else kv).map (·.1)=l.map (·.1):=fun l=>by
   rw [Oh]; refine Ny fun p _=>?_
   show (if p.1=k then (p.1,w) else p).1=p.1
   split <;> rfl
  have e4:∀ (l:List (List Key×D)),(l.map fun kv=>if kv.1=k then (kv.1,d) else kv).map (·.1)=l.map (·.1):=fun l=>by
   rw [Oh]; refine Ny fun p _=>?_
   show (if p.1=k then (p.1,d) else p).1=p.1
   split <;> rfl
  rw [e3,e4,e]
 ·rw [Nz,Nz,e]; rfl
theorem wz {K:Pa} {H:Hp} {k:List Key} {w:V} {d:D} (hw:cK K H d w):∀ {kvs:List (List Key×V)} {al:List (List Key×D)},kvs.map (·.1)=al.map (·.1)->aW K H (al.map (·.2)) (kvs.map (·.2)) ->
  aW K H ((al.map fun p=>if p.1=k then (p.1,d) else p).map (·.2)) ((kvs.map fun p=>if p.1=k then (p.1,w) else p).map (·.2))
 | [],[],_,h=>h
 | p::r,q::r',e,h=>by
  rw [MH,MH] at e
  injection e with e1 e2
  rw [MH,MH,bC] at h
  obtain⟨v,ws,h0,h1,h2⟩:=h
  injection h0 with h0 h0'
  subst h0 h0'
  have ih:=wz (k:=k) hw e2 h2
  rw [MH,MH,MH,MH,bC]
  refine⟨_,_,rfl,?_,ih⟩
  rw [e1]
  split
  ·exact hw
  ·exact h1
 | [],_::_,e,_=>by cases e
 | _::_,[],e,_=>by cases e
theorem zD {K:Pa} {H:Hp} {k:List Key} {w:V} {d:D} (hw:cK K H d w) {kvs:List (List Key×V)} {al:List (List Key×D)} (e:kvs.map (·.1)=al.map (·.1)) (h:aW K H (al.map (·.2)) (kvs.map (·.2))) :
  aW K H ((gu al k d).map (·.2)) ((putK kvs k w).map (·.2)):=by
 have e2:(kvs.any fun p=>decide (p.1=k))=(al.any fun p=>decide (p.1=k)):=by
  have:=congrArg (fun l=>l.any fun q=>decide (q=k)) e
  simpa [Oi,Function.comp_def] using this
 unfold putK gu
 rw [e2]
 split
 ·exact wz hw e h
 ·rw [Nz,Nz]
  exact h.append (bC.mpr ⟨w,[],rfl,hw,cT.mpr rfl⟩)
theorem se {kvs:List (List Key×V)} {al:List (List Key×D)} (e:kvs.map (·.1)=al.map (·.1)):encK al=kvs.map fun p=>D.tup (p.1.map bu):=by
 have:=congrArg (List.map fun k:List Key=>D.tup (k.map bu)) e
 rw [Oh,Oh] at this
 exact this.symm
theorem sL {H:Hp} {a:Qs} {o1 o2:HO}:upd (upd H a o1) a o2=upd H a o2:=by
 funext b
 by_cases e:b=a
 ·subst e; rw [aM,aM]
 ·rw [aD e,aD e,aD e]
def Gz (td ty tv:TE):TS:=fun D σ H=>tv σ H fun v H1=>td σ H1 fun x H2=>ty σ H2 fun y H3=>∃ a k b kvs,x=.ref a/\y=.ref b/\H3 b=some (.tup (k.map kV))/\(H3 a=some (.dT kvs)\/(H3 a=some (.dK [])/\kvs=[]))/\kvs.length < Qv/\D.nx σ (upd H3 a (.dT (putK kvs k v)))
section
variable {X:Cx} {o idx value:QE} {pos pos':Pos} {td ty tv:TE}
theorem BU (hu:X.A.units+1 < QZ) (ho:PE X o td) (hi:PE X idx ty) (hv:PE X value tv) (hs:swapsWith value (some (.Subscript o idx pos')) pos.line X.env=pure false):PS X (.Assign [.Subscript o idx pos'] value pos) (Gz td ty tv):=by
 intro pins s σ H D I h
 refine wpAny_Assign_Subscript (eK (hv pins s σ H _ I h) fun r s1 ⟨v,H1,I1,rv,q1⟩=>eK (ho pins s1 σ H1 _ I1 q1) fun u s2 ⟨x,H2,I2,rx,q2⟩=>eK (hi pins s2 σ H2 _ I2 q2) fun iv s3 ⟨y,H3,I3,ry,a,k,b,kvs,ex,ey,hb,ha,hl,q3⟩=>?_) hs
 subst ex ey
 obtain rfl:u=Value.ref a:=rx
 rcases ha with ha | ⟨ha,rfl⟩
 ·exact mJ hu I3 (G1.t ha hb hl) ry rv fun s4 I4=>⟨σ,_,I4,q3⟩
 ·have ne:b≠a:=fun z=>by rw [z,ha] at hb; cases hb
  refine mJ hu (Bs I3 ha) (G1.t aM (by rw [aD ne]; exact hb) hl) ry rv fun s4 I4=>⟨σ,_,I4,?_⟩
  rw [sL]; exact q3
end
theorem JI {X:Cx} {i:Nat} {x:Str} {idx value:QE} {fk fv:FX} {npos tpos pos:Pos} (hu:X.A.units+64 < QZ) (hx:PE X (.Name x npos) (rL i)) (hi:FE X idx fk) (hv:FE X value fv)
  (hs:swapsWith value (some (.Subscript (.Name x npos) idx tpos)) pos.line X.env=pure false:=by rfl) :
  FS X (.Assign [.Subscript (.Name x npos) idx tpos] value pos) (qO i fk fv):=fun Hb Ob pins s σ H E I ⟨O,ρ,k,rr,S,hF,hk⟩=>by
 unfold qO at hF
 split at hF
 ·rename_i ks ds hxs
  obtain⟨a,ha,haO,hat⟩:=S.env.own i _ hxs
  have hP:=iU.on hF hk S (Q:=fun al=>k.nx (ρ.set i (some (.own (cJ al))))=rr) fun p e=>e
  refine BU ‹0› hx hi hv hs pins s σ H E I ⟨O,ρ,S.env,(iU.bind hP).imp fun y hP v H1 s1 d1=>?_⟩
  have S1:=S.same s1
  refine⟨.ref a,ha,O,ρ,S1.env,((iU.bind hP).mono s1).imp fun j hP w H2 s2 d2=>?_⟩
  have S2:=S1.same s2
  obtain⟨al',hg,e⟩:=iU.rO hP
  obtain⟨al,q,f1,f2,f3,f4,f5⟩:=yC hg
  subst f1 f2 f3 f5
  have s12:=s1.trans s2
  obtain⟨b,ws,eb,g1,g2⟩:=cC.mp d2
  rw [iB g2] at g1
  have hat2:dq X.K H2 O a (cJ al):=hat.mono (let ⟨_,z⟩:=hat.some; qG s12 z) (bT s12)
  have dv:cK X.K (hid H2 O) y v:=d1.mono (bT s2)
  have fin:∀ kvs:List (List Key×V),kvs.map (·.1)=al.map (·.1)->aW X.K (hid H2 O) (al.map (·.2)) (kvs.map (·.2))->dq X.K (upd H2 a (.dT (putK kvs q v))) O a (cJ (gu al q y)):=fun kvs k2 k3 =>
   ⟨_,_,aM,(zD dv k2 k3).mono (gJ haO),.inr ⟨putK kvs q v,rfl,se (v6 k2 q v y),rfl⟩⟩
  rcases K9 hat2 with ⟨kvs,k1,k2,k3⟩ | ⟨k1,rfl⟩
  ·have hl:kvs.length=al.length:=by have:=congrArg List.length k2; simpa using this
   exact⟨a,q,b,kvs,rfl,eb,(aC H2 O) _ _ g1,.inl k1,by rw [hl]; exact NF (of_decide_eq_true f4) (by decide),hk.nx O _ σ _ (S2.setO hxs ha trivial (fin kvs k2 k3)) e⟩
  ·exact⟨a,q,b,[],rfl,eb,(aC H2 O) _ _ g1,.inr ⟨k1,rfl⟩,by decide,hk.nx O _ σ _ (S2.setO hxs ha trivial (fin [] rfl (cT.mpr rfl))) e⟩
 ·exact absurd hF.symm hk.ne
end TG
namespace TG
open PySem PySem.Spec L2
variable [aR]
end TG
namespace TG
open PySem PySem.Spec PySem.W PySem.Calls PyProof.Rows Builtin Builtin.ObjectAttr Builtin.Getset_descriptor
variable [aR]
end TG
namespace TG
open PySem PySem.Spec L2
variable [aR]
open PyProof.Rows (AllBare OwnCls)
end TG
namespace TG
open PySem PySem.Spec L2
variable [aR]
end TG
namespace TG
open PySem PySem.Spec L2
variable [aR]
end TG
namespace TG
open PySem PySem.Spec L2
variable [aR]
end TG
namespace TG
open PySem PySem.Spec L2
def n6 (P:Qs) (pos:Pos) (q:Str):(Qs->Prop)->Qu->Prop:=fun S h=>h.get? P=some (PF #[])\/∃ c,S c/\h.get? P=some (PF #[rawInt pos.line,rawInt pos.col,.ref c])/\h.CodeRec (.ref c) q
theorem n6.stay {P:Qs} {pos:Pos} {q:Str} {S1 S2:Qs->Prop} {h1 h2:Qu} (x:n6 P pos q S1 h1) (s:∀ b,S1 b->S2 b) (k:∀ b o,(b=P\/S1 b)->h1.get? b=some o->h2.get? b=some o):n6 P pos q S2 h2:=by
 rcases x with e | ⟨c,hc,e,c',o,vs,t,ec,e1,r⟩
 ·exact .inl (k _ _ (.inl rfl) e)
 ·cases ec
  exact .inr ⟨c,s c hc,k _ _ (.inl rfl) e,c,o,vs,t,rfl,k _ _ (.inr hc) e1,r⟩
theorem n6.ok {Pg:Qr} {w:Qq} {H:Hp} {h:Qu} {P:Qs} {pos:Pos} {q:Str} (x:n6 P pos q (fun b=>H b=some (.own P)) h):cx Pg w H h P (.ext (n6 P pos q)) :=
 ⟨x,by rcases x with e | ⟨_,_,e,_⟩ <;> exact⟨_,e⟩,fun _ _ _ _ x s k=>x.stay s k⟩
abbrev vo (P:Qs) (pos:Pos) (q:Str):aR:=⟨fun H=>H P=some (.ext (n6 P pos q)),fun h e=>e _ _ h,fun {H p o o'} h hp m=>by
 rw [aD]
 ·exact h
 ·rintro rfl
  rw [h] at hp; cases hp; exact m⟩
end TG
namespace TG
open PySem PySem.Spec PyProof.Rows PySem.W L2
variable [aR]
def sX (key:List D) (h:Qu) (k:Qp):Prop:=∃ b o xs n,k=.ref b/\h.get? b=some o/\o.cls=.type "tuple"/\o.data=.seq xs n/\fX xs.toList key
theorem sX.keep {key:List D} {h h':Qu} {k:Qp} (x:sX key h k) (kp:∀ b o,h.get? b=some o->h'.get? b=some o):sX key h' k:=by
 obtain⟨b,o,xs,n,e,ho,r⟩:=x
 exact⟨b,o,xs,n,e,kp _ _ ho,r⟩
theorem sX.stay {key:List D} {h h':Qu} {k:Qp} {c:Qs} {xs:Array Qp} {n:Nat} (x:sX key h k) (hc:h.get? c=some (seqObj "list" xs n)) (kp:∀ b o,b≠c->h.get? b=some o->h'.get? b=some o):sX key h' k:=by
 obtain⟨b,o,ys,m,e,ho,hk,r⟩:=x
 refine⟨b,o,ys,m,e,kp _ _ (fun z=>?_) ho,hk,r⟩
 subst z
 rw [hc] at ho
 cases ho
 revert hk
 show ¬ (Value.type "list"=Value.type "tuple")
 simp
section
variable {prog:Qr} {w:Qq} {A:QA} {E:Qp->QB->Prop} {s:QB}
theorem Be {ks:List Qp} {keys:List (List D)} {σ:List Bool} {b:Bool} {Q:RJ->QB->Prop} (hl:ks.length=keys.length) (hsh:∀ k∈keys,Sh (b::σ) k) (h1:1<=ks.length)
  (hk:∀ i,i < ks.length->sX (keys.getD i []) s.heap (ks.getD i Value.none)) (h:Q (tuples' true) s):QD (model prog w) A (keyKind' ks.toArray) Q E s:=by
 obtain⟨fs,t1,t2,t3⟩:=nN (h:=s.heap) (PT:=fun f=>typeOf f=pure (.type (if b then "int" else "str"))) (its:=ks) fun v hv=>by
  obtain⟨i,hi,rfl⟩:=Nw hv
  obtain⟨a,o,xs,n,e1,ho,hc,hd,ff⟩:=hk i hi
  have hi':i < keys.length:=by omega
  have gk:keys.getD i []=keys[i]:=by simp [hi']
  rw [gk] at ff
  obtain⟨f,ef,tf⟩:=ff.first (hsh _ (Oe hi'))
  have gv:ks.getD i Value.none=ks[i]:=by simp [hi]
  rw [gv] at e1
  exact⟨a,o,xs,n,f,e1,ho,hc,hd,by simpa using ef,tf⟩
 refine kat_kind (T:=.type (if b then "int" else "str")) t1 ‹0› (fun f hf=>Looks.of_pure (t3 f hf)) (by cases b <;> rfl) ?_
 have:(Value.type (if b then "int" else "str") != Value.type "tuple")=true:=by cases b <;> rfl
 rw [this]; exact h
theorem yi {ks:List Qp} {keys:List (List D)} {σ:List Bool} {b:Bool} (hl:ks.length=keys.length) (hsh:∀ k∈keys,Sh (b::σ) k)
  (hk:∀ i,i < ks.length->sX (keys.getD i []) s.heap (ks.getD i Value.none)):kU (RK prog w A (tuples' true) ks) (rank keys) ks.length s:=by
 intro i j C hi hj hC
 obtain⟨a,o,xs,n,e1,ho,hc,hd,ff⟩:=hk i hi
 obtain⟨a2,o2,xs2,n2,e2,ho2,hc2,hd2,ff2⟩:=hk j hj
 unfold RK
 rw [e1,e2]
 have hi':i < keys.length:=by omega
 have hj':j < keys.length:=by omega
 have gi:keys.getD i []=keys[i]:=by simp [hi']
 have gj:keys.getD j []=keys[j]:=by simp [hj']
 have sh1:=hsh _ (Oe hi')
 have sh2:=hsh _ (Oe hj')
 have rl:=qv (ks:=keys) hsh hi' hj'
 rw [rl] at hC
 rw [gi] at ff
 rw [gj] at ff2
 rw [gi,gj] at hC
 refine kat_lt ho hd ho2 hd2 (iY ?_ sh1 sh2 ff ff2 hC)
 have z1:xs.size=keys[i].length:=by have:=ff.length; simpa using this
 have z2:xs2.size=keys[j].length:=by have:=ff2.length; simpa using this
 have z3:keys[i].length=keys[j].length:=by rw [Sh.length sh1,Sh.length sh2]
 exact decide_eq_false ‹0›
theorem Cw {f:Qp} {a:Qs} {vs:List Qp} {n:Nat} {keys:List (List D)} {σ:List Bool} {b:Bool} {P:PySem.Fin->QB->Prop}
  (ho:s.heap.get? a=some (seqObj "list" vs.toArray n)) (h64:vs.length < 64) (hl:keys.length=vs.length) (hsh:∀ k∈keys,Sh (b::σ) k)
  (hc:∀ (i:Nat) (v:Qp) (h':Qu) (tk:Nat) (Q':Qp->QB->Prop),vs[i]?=some v->(∀ c o,c≠a->s.heap.get? c=some o->h'.get? c=some o) ->
   (∀ k h'' tk',(∀ c o,h'.get? c=some o->h''.get? c=some o)->sX (keys.getD i []) h'' k->Q' k { s with heap:=h'',toks:=tk' })->QD (model prog w) A (call f [v]) Q' (fun _ _=>False) { s with heap:=h',toks:=tk })
  (h:∀ (p:Array Nat) (h':Qu) (e tk:Nat),PM vs.length p->Up (rank keys) p vs.length->(∀ c o,c≠a->s.heap.get? c=some o->h'.get? c=some o)->h'.get? a=some (seqObj "list" (List.toArray (p.toList.map fun i=>vs.getD i Value.none)) e) ->
   P (.done (.ret .none)) { s with heap:=h',toks:=tk }):QD (model prog w) A (ksk_tree a f false) P E s:=by
 have ha:a < s.heap.objs.size:=PQ ho
 obtain⟨e1,ho1⟩:∃ e1,(s.heap.update a (Obj.mapSeq fun _=>(#[]:Array Qp))).get? a=some (seqObj "list" #[] e1):=⟨_,RM ho (fun _=>#[])⟩
 unfold ksk_tree
 refine QM (listItems_at ho rfl ?_)
 refine QM (RL ho rfl ?_ (by rw [ME,QU]; omega) (MK _))
 refine QM (RN ho1 rfl ?_)
 refine QM (RE ?_ (by show vs.length<=_; rw [QU]; omega))
 refine QM (RO ?_ (MK _))
 refine Rb ?_
 have hkS:((s.heap.update a (Obj.mapSeq fun _=>(#[]:Array Qp))).push (seqObj "tuple" vs.toArray 0)).objs.size=s.heap.objs.size+1:=by rw [size_push',P6]
 show QD (model prog w) A (ksk_rest a f false vs.toArray e1 (.ref ((s.heap.update a (Obj.mapSeq fun _=>(#[]:Array Qp))).push (seqObj "tuple" vs.toArray 0)).objs.size)) P E { s with heap:=((s.heap.update a (Obj.mapSeq fun _=>(#[]:Array Qp))).push (seqObj "tuple" vs.toArray 0)).push (seqObj "list" #[] 0) }
 rw [hkS]
 have hS0:(((s.heap.update a (Obj.mapSeq fun _=>(#[]:Array Qp))).push (seqObj "tuple" vs.toArray 0)).push (seqObj "list" #[] 0)).get? (s.heap.objs.size+1)=some (seqObj "list" #[] 0):=by rw [<- hkS]; exact PY _ rfl
 have hA0:(((s.heap.update a (Obj.mapSeq fun _=>(#[]:Array Qp))).push (seqObj "tuple" vs.toArray 0)).push (seqObj "list" #[] 0)).get? a=some (seqObj "list" #[] e1):=PX _ (PX _ ho1)
 have hK0:∀ b o,b≠a->s.heap.get? b=some o->(((s.heap.update a (Obj.mapSeq fun _=>(#[]:Array Qp))).push (seqObj "tuple" vs.toArray 0)).push (seqObj "list" #[] 0)).get? b=some o:=fun b o hb e =>
  PX _ (PX _ (by rw [P7 _ _ _ _ hb]; exact e))
 have hne:a≠s.heap.objs.size+1:=Mq (Ng ha)
 have hold:∀ c o,s.heap.get? c=some o->c≠s.heap.objs.size+1:=fun c o e=>Mq (Ng (PQ e))
 generalize (((s.heap.update a (Obj.mapSeq fun _=>(#[]:Array Qp))).push (seqObj "tuple" vs.toArray 0)).push (seqObj "list" #[] 0))=h0 at hS0 hA0 hK0
 generalize s.heap.objs.size+1=kS at hS0 hne hold
 unfold ksk_rest
 refine QM (Rq ?_)
 first
  | rw [List.forIn_toArray]
  | (rw [<- Array.forIn_toList]; simp only [Oj])
  | rw [<- Array.forIn_toList]
 refine QM (ksk_fold (fun i s'=>∃ (ks:List Qp) (e:Nat) (h':Qu) (tk:Nat),s'={ s with heap:=h',toks:=tk }/\ks.length=i/\i<=vs.length/\h'.get? kS=some (seqObj "list" (List.toArray ks) e)/\h'.get? a=some (seqObj "list" #[] e1) /\
  (∀ c o,c≠a->s.heap.get? c=some o->h'.get? c=some o)/\∀ j,j < i->sX (keys.getD j []) h' (ks.getD j Value.none)) vs 0 _ ⟨[],0,h0,s.toks,rfl,rfl,MK _,hS0,hA0,hK0,fun j hj=>absurd hj (Nat.not_lt_zero _)⟩ ?_ ?_)
 ·rintro j x s' hx ⟨ks,e,h',tk,rfl,hlen,hle,hS,hA,hK,hT⟩
  rw [NV] at hlen hle hT
  have hj:j < vs.length:=by
   rcases Ol j vs.length with z | z
   ·exact z
   ·rw [Om z] at hx; cases hx
  refine QM (RF (QH (hc j x h' tk (fun k s''=>∃ h'' tk',s''={ s with heap:=h'',toks:=tk' }/\(∀ c o,h'.get? c=some o->h''.get? c=some o)/\sX (keys.getD j []) h'' k) hx hK fun k h'' tk' kp tK=>⟨h'',tk',rfl,kp,tK⟩) (fun k s'' hk=>?_) fun _ _ hF=>hF.elim))
  obtain⟨h'',tk',rfl,kp,tK⟩:=hk
  have nk:=kp _ _ hS
  have s1:∀ c o,c≠kS->h''.get? c=some o->(h''.update kS (Obj.mapSeq (·.push k))).get? c=some o:=fun c o hc' e=>by rw [P7 _ _ _ _ hc']; exact e
  have ea:(List.toArray ks).push k=List.toArray (ks++[k]):=by simp
  obtain⟨c2,hc2⟩:∃ c2,(h''.update kS (Obj.mapSeq (·.push k))).get? kS=some (seqObj "list" (List.toArray (ks++[k])) c2):=⟨_,by rw [<- ea]; exact RM nk (·.push k)⟩
  try dsimp only
  refine QM (RL nk rfl ?_ (by rw [ME,QU]; omega) (Mr (MJ (Array.size_push ..)) (by rw [ME,QU]; omega)))
  refine QL ⟨rfl,ks++[k],c2,_,tk',rfl,by rw [MV,M1]; omega,by omega,hc2,s1 _ _ hne (kp _ _ hA),fun c o h1 h2=>s1 _ _ (hold c o h2) (kp _ _ (hK c o h1 h2)),fun i hi=>?_⟩
  refine sX.stay (c:=kS) ?_ nk s1
  by_cases z:i=j
  ·subst z
   have:(ks++[k]).getD i Value.none=k:=by simp [Og,<- hlen]
   rw [this]; exact tK
  ·have hi':i < ks.length:=by omega
   have:(ks++[k]).getD i Value.none=ks.getD i Value.none:=by simp [Og,MR hi']
   rw [this]; exact(hT i ‹0›).keep kp
 ·rintro s' ⟨ks,e,h',tk,rfl,hlen,hle,hS,hA,hK,hT⟩
  rw [NV] at hlen hT
  try dsimp only
  refine QM (listItems_at hS rfl ?_)
  have tail:∀ (p:Array Nat) (st:SortSt),(arrOf st).map (·.2)=List.toArray (p.toList.map fun i=>vs.getD i Value.none)->failedOf st=none->PM vs.length p->Up (rank keys) p vs.length->QD (model prog w) A (ksk_tail a false e1 (.ref kS) st) P E { s with heap:=h',toks:=tk }:=by
   intro p st hout hf hp hu
   obtain⟨ck,hck⟩:∃ ck,(h'.update kS (Obj.mapSeq fun _=>(#[]:Array Qp))).get? kS=some (seqObj "list" #[] ck):=⟨_,RM hS fun _=>#[]⟩
   have hA2:(h'.update kS (Obj.mapSeq fun _=>(#[]:Array Qp))).get? a=some (seqObj "list" #[] e1):=by rw [P7 _ _ _ _ hne]; exact hA
   obtain⟨c2,hc2⟩:∃ c2,((h'.update kS (Obj.mapSeq fun _=>(#[]:Array Qp))).update a (Obj.mapSeq fun _=>List.toArray (p.toList.map fun i=>vs.getD i Value.none))).get? a=some (seqObj "list" (List.toArray (p.toList.map fun i=>vs.getD i Value.none)) c2):=⟨_,RM hA2 fun _=>List.toArray (p.toList.map fun i=>vs.getD i Value.none)⟩
   unfold ksk_tail
   try dsimp only
   rw [hout]
   refine QM (RL hS rfl ?_ (by rw [ME,QU]; omega) (MK _))
   refine QM (RD ?_)
   refine QM (RN hA2 rfl ?_)
   simp only [Nf,if_false]
   refine QM (RL hA2 rfl ?_ (MK _) (by rw [ME,MI,Array.length_toList,hp.size,QU]; omega))
   rw [hf]
   simp only [bne_self_eq_false,Nf,if_false]
   exact QL (h p _ c2 tk hp hu (fun c o h1 h2=>by rw [P7 _ _ _ _ h1,P7 _ _ _ _ (hold c o h2)]; exact hK c o h1 h2) hc2)
  unfold ksk_end
  try dsimp only
  simp only [Nf,if_false]
  have hl2:ks.length=vs.length:=hlen
  by_cases h2:vs.toArray.size < 2
  ·rw [if_pos h2,if_pos h2]
   refine QM (QL ?_)
   rw [StateT.run_pure]
   refine QM (QL ?_)
   dsimp only
   refine tail (List.toArray (List.range vs.length)) _ ?_ rfl (Array.Perm.refl _) fun i j hij hj=>?_
   ·refine kat_snds hl2 ?_
    show (List.toArray ks).zip vs.toArray=_
    have e:=kas_range ((List.toArray ks).zip vs.toArray)
    rw [show ((List.toArray ks).zip vs.toArray).size=vs.length by simp [hl2]] at e
    exact e.symm
   ·have:vs.length < 2:=by simpa using h2
    have:i=j:=by omega
    subst this; exact MA _
  ·have h2':2<=vs.length:=by
    have:¬ vs.length < 2:=by simpa using h2
    omega
   rw [if_neg h2,if_neg h2]
   refine QM (Be (s:={ s with heap:=h',toks:=tk }) ‹0› hsh ‹0› (fun i hi=>hT i ‹0›) ?_)
   refine QM (QH (kat_run (Q:=fun st' s'=>∃ p:Array Nat,arrOf st'=p.map (kas_item ((List.toArray ks).zip vs.toArray))/\failedOf st'=none/\PM vs.length p/\Up (rank keys) p vs.length/\s'={ s with heap:=h',toks:=tk })
    (G:=fun p s'=>PM vs.length p/\Up (rank keys) p vs.length/\s'={ s with heap:=h',toks:=tk })
    hl2 h2' h64 (fun p' st' s' a1 a2 a3 a4=>⟨p',a2,a3,a4.1,a4.2.1,a4.2.2⟩) (by
     have:=yi (prog:=prog) (w:=w) (A:=A) (s:={ s with heap:=h',toks:=tk }) (ks:=ks) (keys:=keys) ‹0› hsh (fun i hi=>hT i ‹0›)
     rw [hl2] at this
     exact zy this ‹0› fun p hp hu=>⟨hp,hu,rfl⟩)) ?_ fun _ _ e=>e)
   rintro⟨⟨⟩,st'⟩ s' ⟨p,har,hf,hp,hu,rfl⟩
   dsimp only
   exact tail p st' (kat_snds hl2 har) hf hp hu
theorem xq {src:Qp} {f:Qs} {vs:List Qp} {keys:List (List D)} {σ:List Bool} {b:Bool} {Q:Qp->QB->Prop} (h64:vs.length < 64) (hl:keys.length=vs.length) (hsh:∀ k∈keys,Sh (b::σ) k)
  (hcol:∀ (Q':List Qp->QB->Prop),(∀ h' tk,(∀ b o,s.heap.get? b=some o->h'.get? b=some o)->Q' vs { s with heap:=h',toks:=tk })->QD (model prog w) A.in1 (collect src) Q' E s)
  (hc:∀ (i:Nat) (v:Qp) (h':Qu) (tk:Nat) (Q':Qp->QB->Prop),vs[i]?=some v->(∀ c o,s.heap.get? c=some o->h'.get? c=some o) ->
   (∀ k h'' tk',(∀ c o,h'.get? c=some o->h''.get? c=some o)->sX (keys.getD i []) h'' k->Q' k { s with heap:=h'',toks:=tk' })->QD (model prog w) A.in1.in1 (call (.ref f) [v]) Q' (fun _ _=>False) { s with heap:=h',toks:=tk })
  (h:∀ (p:Array Nat) (h1 h':Qu) (l:Qs) (e tk:Nat),PM vs.length p->Up (rank keys) p vs.length->(∀ b o,s.heap.get? b=some o->h1.get? b=some o)->(∀ b o,h1.get? b=some o->h'.get? b=some o)->h1.objs.size<=l->h'.get? l=some (seqObj "list" (List.toArray (p.toList.map fun i=>vs.getD i Value.none)) e)->Q (.ref l) { s with heap:=h',toks:=tk }) :
  QD (model prog w) A (call (.builtin "sorted") [src] [(Str.ofString "key",.ref f)]) Q E s:=by
 refine PyProof.Rows.call_function_entry_kw kind_sorted plain_sorted entry_sorted (ksk_s1 _ _) ?_
 unfold Builtin.«sorted»
 refine QM (m:=checkCount "sorted" 1 1 _) (QL ?_)
 refine QM (hcol _ fun h1 tk k1=>?_)
 refine QM (RO ?_ (by rw [QU]; omega))
 have hoL:(h1.push (seqObj "list" vs.toArray 0)).get? h1.objs.size=some (seqObj "list" vs.toArray 0):=PY _ rfl
 have k2:∀ b o,s.heap.get? b=some o->(h1.push (seqObj "list" vs.toArray 0)).get? b=some o:=fun b o e=>PX _ (k1 b o e)
 have ne:∀ b o,s.heap.get? b=some o->b≠h1.objs.size:=fun b o e=>Mq (PQ (k1 b o e))
 refine QM (Rb (wpAny_call_entry_kw slot_list_sort ⟨_,hoL,rfl⟩ entry_list_sort ?body (ksk_l1 _ _)))
 case body =>
  show QD (model prog w) A.in1.in1 (Builtin.«list.sort» ⟨[.ref h1.objs.size],[(Str.ofString "key",.ref f)]⟩) _ _ _
  rw [ksk_t1]
  refine Cw (s:={ s with heap:=h1.push (seqObj "list" vs.toArray 0),toks:=tk }) hoL h64 hl hsh (fun i v h' tk' Q' hv hk hq=>hc i v h' tk' Q' hv (fun c o e=>hk c o (ne c o e) (k2 c o e)) hq) fun p h' e tk' hp hu hk he=>⟨_,rfl,?_⟩
  refine QL ⟨_,rfl,?_⟩
  exact h p h1 h' h1.objs.size e tk' hp hu k1 (fun b o q=>hk b o (Mq (PQ q)) (PX _ q)) (MA _) he
end
end TG
namespace TG
open PySem PySem.Spec PyProof.Rows PySem.W L2
variable [aR]
abbrev cutE (row many:Str) (np mp p2 pos:Pos):QE:=.Subscript (.Name row np) (.Slice none (some (.Name many mp)) none p2) pos
section
variable {prog:Qr} {w:Qq} {A:QA} {E:Qp->QB->Prop} {s:QB}
theorem BC {env:Env} {row many:Str} {np mp p2 pos:Pos} {r c:Qs} {items:Array Qp} {i:Int} {t:Tok} {m:Str->Option Qp} {Q:Qp->QB->Prop}
  (hk:env.scope.kind=.function) (hr:env.kindOf row=some .local) (hm:env.kindOf many=some .free) (hn:s.heap.Ns env.locals m) (hrow:m row=some (.ref r)) (hc:env.cells.lookup many=some c) (hcell:s.heap.IsCell c (some (.int i t)))
  (ht:Qw s.heap r items) (hz:items.size<=Qv) (d1:(row==("__debug__":Str))=false) (d2:(many==("__debug__":Str))=false) (d3:(many==("__classdict__":Str))=false)
  (h:∀ b h',(∀ c o,s.heap.get? c=some o->h'.get? c=some o)->Qw h' b (List.toArray (items.toList.take (HT.sIx items.size items.size (some i))))->Q (.ref b) { s with heap:=h' }) :
  QD (model prog w) A (eval (cutE row many np mp p2 pos) env) Q E s:=by
 refine Rj (QI (wpAny_loadName_local hk hr hn hrow ?_) d1)
 refine wpAny_Slice ?_
 rw [Ri,evalPart_some]
 refine QL (QI (wpAny_loadName_free hk hm hc hcell ?_ d3) d2)
 refine QL ?_
 have kp:∀ c o,s.heap.get? c=some o->(s.heap.push { cls:=.type "slice",data:=.fields #[.none,.int i t,.none] }).get? c=some o:=fun c o q=>PX _ q
 have ht':Qw (s.heap.push { cls:=.type "slice",data:=.fields #[.none,.int i t,.none] }) r items:=by
  obtain⟨o,e,q⟩:=ht
  exact⟨o,kp _ _ e,q⟩
 have hs:(s.heap.push { cls:=.type "slice",data:=.fields #[.none,.int i t,.none] }).IsSliceOf s.heap.objs.size .none (.int i t) .none:=Heap.IsSliceOf.new ..
 show QD (model prog w) A (subscriptTail (.Name row np) (.Slice none (some (.Name many mp)) none p2) (.ref r) (.ref s.heap.objs.size)) Q E { s with heap:=s.heap.push { cls:=.type "slice",data:=.fields #[.none,.int i t,.none] } }
 refine tail_any (ops:=[.ref s.heap.objs.size,.ref r]) ht'.typeIs slot_tuple_getitem.lookup ?_ (by with_unfolding_all rfl)
 by_cases hw:HT.sIx items.size 0 none=0/\HT.sIx items.size items.size (some i)=items.size
 ·refine hX (s:={ s with heap:=s.heap.push { cls:=.type "slice",data:=.fields #[.none,.int i t,.none] } }) ht' hs .none (.int i t) hw ?_
  refine h r _ kp ?_
  rw [hw.2]
  have:items.toList.take items.size=items.toList:=Oo (by simp)
  rw [this]
  simpa using ht'
 ·refine HT.zr (s:={ s with heap:=s.heap.push { cls:=.type "slice",data:=.fields #[.none,.int i t,.none] } }) ht' hs .none (.int i t) hw ?_ hz
  refine h _ _ (fun c o q=>PX _ (kp c o q)) ?_
  have e0:HT.sIx items.size 0 none=0:=rfl
  rw [e0,Nm,NC]
  exact⟨_,PY _ rfl,rfl,_,rfl⟩
theorem CL {f c' cc r:Qs} {row many qual:Str} {params:Q5} {scope:QC} {np mp p2 pos:Pos} {pm ctv:Qp} {items:Array Qp} {i:Int} {t:Tok} {Q:Qp->QB->Prop}
  (hf:s.heap.get? f=some (RQ "<lambda>" qual params (cutE row many np mp p2 pos) scope [(many,cc)] pm c' ctv)) (hcd:s.heap.CodeRec (.ref c') qual) (hroom:A.depth < QY) (hlim:s.heap.NoLimit)
  (hbind:∀ v,bindArgs (kla_fn "<lambda>" qual params (cutE row many np mp p2 pos) scope [(many,cc)] pm (.ref c') ctv) ⟨[v],[]⟩=pure [(row,v)])
  (hco:scope.isCoroutine=false) (hgen:scope.isGenerator=false) (hk:scope.kind=.function) (hno:∀ x∈scope.names,x.2≠.cell) (hr:scope.names.lookup row=some .local) (hm:scope.names.lookup many=some .free)
  (hcell:s.heap.IsCell cc (some (.int i t))) (ht:Qw s.heap r items) (hz:items.size<=Qv) (d1:(row==("__debug__":Str))=false) (d2:(many==("__debug__":Str))=false) (d3:(many==("__classdict__":Str))=false)
  (h:∀ b h' tk,(∀ c o,s.heap.get? c=some o->h'.get? c=some o)->Qw h' b (List.toArray (items.toList.take (HT.sIx items.size items.size (some i))))->Q (.ref b) { s with heap:=h',toks:=tk }) :
  QD (model prog w) A (call (.ref f) [.ref r]) Q E s:=by
 refine wpAny_call (kla_callFunE hroom hf rfl hco hgen rfl hcd ?_)
 rw [hbind]
 refine QL (wpAny_newFunctionEnv hno (fun x hx=>?_) (fun h₁ hns hsb=>⟨hlim.fresh _ hsb,?_⟩) hk)
 ·rw [Oq] at hx
  subst hx
  exact hr
 ·show QV _ _ (.expr (cutE row many np mp p2 pos) (envX qual scope s.heap.objs.size f (.ref c') [(many,cc)])) _ _
  have hk₁:∀ b o,s.heap.get? b=some o->h₁.get? b=some o:=fun b o e=>hsb.extBut b o (Mq (PQ e)) (PX _ e)
  refine kla_codeExpr (BC (m:=fun x=>[(row,Value.ref r)].reverse.lookup x) (r:=r) (c:=cc) (t:=t) hk hr hm hns ?_ ?_ ?_ ?_ hz d1 d2 d3 fun b h' kp tb=>h b h' _ (fun c o e=>kp c o (hk₁ c o e)) tb)
  ·simp
  ·simp
  ·obtain⟨o,e,q⟩:=hcell
   exact⟨o,hk₁ _ _ e,q⟩
  ·obtain⟨o,e,q⟩:=ht
   exact⟨o,hk₁ _ _ e,q⟩
end
end TG
namespace TG
open PySem PySem.Spec PyProof.Rows PySem.W L2
variable [aR]
def Aq (mg:Str->Option Qp) (base:Qu) (c P:Qs):Prop:=CodeHd base c P/\∃ bm ob,mg "__builtins__"=some (.ref bm)/\bm≠Qy/\base.get? bm=some ob/\ob.cls=.type "module"/\ob.dict=some Qy/\ob.data=.plain
section
variable {fs ex:List Qs} {Pg:Qr} {w:Qq} {H:Hp} {h h':Qu} {P c':Qs} {φ:(Qs->Prop)->Qu->Prop}
theorem GY (hP:H P=some (.ext φ)) (k:∀ b o,b≠P->h.get? b=some o->h'.get? b=some o) (hp:∃ o,h'.get? P=some o) (hc:h.objs.size<=c') (hn:H c'=none):Un fs ex H (upd H c' (.own P)) h h' where
 keep:=fun b u q n _ _=>k b u (fun z=>by rw [z,hP] at n; cases n) q
 slot:=fun b u q n _ _=>⟨u.slots,k b u (fun z=>by rw [z,hP] at n; cases n) q⟩
 free:=fun b u q n _=>by rw [aD (Mq (Mo (PQ q) hc))]; exact n
 there:=fun b u q _=>by
  by_cases z:b=P
  ·rw [z]; exact hp
  ·exact⟨u,k b u z q⟩
 tups:=fun b xs q=>by rw [aD (aU q hn)]; exact q
 frzs:=fun b u xs q=>by rw [aD (aU q hn)]; exact q
 tbls:=fun b ps q=>⟨#[],by rw [aD (aU q hn),q]; simp⟩
theorem EF (x:ox Pg w H h) (hP:H P=some (.ext φ)) (k:∀ b o,b≠P->h.get? b=some o->h'.get? b=some o) (hc:h.objs.size<=c') (ho:∃ o,h'.get? c'=some o) (new:cx Pg w (upd H c' (.own P)) h' P (.ext φ)):ox Pg w (upd H c' (.own P)) h':=fun b u e=>by
 have hn:=x.fresh hc
 by_cases hb:b=c'
 ·subst hb; rw [aM] at e; cases e; exact ho
 ·rw [aD hb] at e
  by_cases hb2:b=P
  ·subst hb2; rw [hP] at e; cases e; exact new
  ·refine(x b u e).stay (fun c v hc' q=>k c v ?_ q) (fun c q=>by rw [aD (aU q hn)]; exact q) fun c xs q=>by rw [aD (aU q hn)]; exact q
   rcases hc' with rfl | hc'
   ·exact hb2
   ·rintro rfl
    rw [hP] at hc'; cases hc'
end
theorem Aq.blt {mg:Str->Option Qp} {base h:Qu} {c P:Qs} {m:Str->Option Qp} (B:Aq mg base c P) (kp:∀ b o,base.get? b=some o->h.get? b=some o) (hP:base.get? P=none) (hg:base.Ns Qx m):h.BuiltinsAt mg P:=by
 obtain⟨_,bm,ob,b1,b2,b3,b4,b5,b6⟩:=B
 refine⟨bm,ob,b1,b2,fun z=>?_,fun z=>?_,kp _ _ b3,b4,b5,b6⟩
 ·subst z
  obtain⟨o,es,ep,e,hd,_⟩:=hg
  rw [e] at b3; cases b3; rw [hd] at b6; cases b6
 ·subst z
  rw [hP] at b3; cases b3
section
variable {X:Cx} {pins:List (Qs×Obj)} {s:QB} {σ:L2.St} {H:Hp} {E:Qp->QB->Prop}
theorem Cu {c P:Qs} {lpos:Pos} {params:Q5} {body:QE} {scope:QC} {clos:List (Str×Qs)} {Q:Qp->QB->Prop} (I:Inv X pins σ H s) (B:Aq X.mg X.base c P) (hcode:X.env.code=.ref c) (hP:H P=some (.ext (n6 P lpos (X.env.qual ++ "<lambda>"))))
  (hdef:defaultsOf params X.env=([],[])) (hcl:closureFor scope X.env=pure clos)
  (h:∀ f c' ctv s' H',Inv X pins σ H' s'->bo H H'->s'.heap.get? f=some (RQ "<lambda>" (X.env.qual ++ "<lambda>") params body scope clos ((X.mg "__name__").getD .none) c' ctv)->s'.heap.CodeRec (.ref c') (X.env.qual ++ "<lambda>")->Q (.ref f) s') :
  QD (model X.prog X.w) X.A (eval (.Lambda params body scope lpos) X.env) Q E s:=by
 have hg:s.heap.Ns Qx X.mg:=I.mod.glob.keeps I.bk
 have hPn:X.base.get? P=none:=by
  cases q:X.base.get? P with
  | none=>rfl
  | some o=>have:=(I.bs P o q).2; rw [hP] at this; cases this
 have hgP:Qx≠P:=fun z=>by
  obtain⟨o,es,ep,e,_⟩:=I.mod.glob
  rw [z,hPn] at e; cases e
 have hb:=B.blt I.bk hPn I.mod.glob
 have C:=B.1.keeps I.bk
 obtain⟨tb,_,_⟩:=I.hok P _ hP
 refine kla_eval hdef ?_
 rcases tb with e | ⟨c',hc',e,hrec⟩
 ·refine kla_makeFunction hcl I.ok.glob hg hcode C e trivial rfl hgP hb fun c' ctv h' tk hx hge hlt hrec htb=>?_
  have hn:=I.hok.fresh hge
  have htb':h'.get? P=some (tabObj #[rawInt lpos.line,rawInt lpos.col,.ref c']):=by simpa using htb
  have kp:∀ b o,b≠P->s.heap.get? b=some o->(h'.push (RQ "<lambda>" (X.env.qual ++ "<lambda>") params body scope clos ((X.mg "__name__").getD .none) c' ctv)).get? b=some o:=fun b o hb' q=>PX _ (hx b o hb' q)
  have hrec':(h'.push (RQ "<lambda>" (X.env.qual ++ "<lambda>") params body scope clos ((X.mg "__name__").getD .none) c' ctv)).CodeRec (.ref c') (X.env.qual ++ "<lambda>"):=by
   obtain⟨c2,oc,vs,t,ec,eo,r⟩:=hrec
   exact⟨c2,oc,vs,t,ec,PX _ eo,r⟩
  have hco:∃ o,(h'.push (RQ "<lambda>" (X.env.qual ++ "<lambda>") params body scope clos ((X.mg "__name__").getD .none) c' ctv)).get? c'=some o:=by
   obtain⟨c2,oc,vs,t,ec,eo,r⟩:=hrec
   cases ec
   exact⟨oc,PX _ eo⟩
  refine h _ c' ctv _ (upd H c' (.own P)) (I.un (GY hP kp ⟨_,PX _ htb'⟩ hge hn) (EF I.hok hP kp hge hco (n6.ok (.inr ⟨c',aM,PX _ htb',hrec'⟩)))) (bD hn _) (PY _ rfl) hrec'
 ·refine kla_makeFunctionHit (cv:=.ref c') hcl I.ok.glob hg hcode C e trivial ?_ hb fun ctv h' tk hk hsz=>?_
  ·show (if ((lpos.line:Int)==(lpos.line:Int) && (lpos.col:Int)==(lpos.col:Int))=true then some (Value.ref c') else _)=_
   simp
  ·have kp:∀ b o,s.heap.get? b=some o->(h'.push (RQ "<lambda>" (X.env.qual ++ "<lambda>") params body scope clos ((X.mg "__name__").getD .none) c' ctv)).get? b=some o:=fun b o q=>PX _ (hk b o q)
   refine h _ c' ctv _ H (I.kept kp) (bo.refl H) (PY _ rfl) ?_
   obtain⟨c2,oc,vs,t,ec,eo,r⟩:=hrec
   exact⟨c2,oc,vs,t,ec,kp _ _ eo,r⟩
end
def sW (m:Nat):D->List D
 | .tup ks=>ks.take m
 | _=>[]
def IY (m:Nat) (xs:List D):Prop:=xs.length < 64/\∃ σ:List Bool,σ≠[]/\(∀ x∈xs,∃ k,x=.tup k/\Sh σ (k.take m))/\xs.Pairwise fun x y=>sW m x≠sW m y
open Classical in
noncomputable def qM (m:Nat) (xs:List D):Option D:=if IY m xs then some (.lst (hV (sW m) xs)) else none
noncomputable def pc:D->D->Option D
 | .lst xs,.int i=>if 0<=i then qM i.toNat xs else none
 | .tup xs,.int i=>if 0<=i then qM i.toNat xs else none
 | _,_=>none
theorem uD:∀ {vs:List V} {us:List Qp} (n:Nat),Vals vs us->Vals (vs.take n) (us.take n)
 | _,_,0,_=>by rw [Ni,Ni]; exact .nil
 | _,_,_+1,.nil=>.nil
 | _,_,n+1,.cons r t=>by rw [Nk,Nk]; exact .cons r (uD n t)
theorem EG {i:Int} (h:0<=i) (n:Nat):HT.sIx n n (some i)=min i.toNat n:=by
 show (if i < 0 then _ else _)=_
 rw [if_neg ‹0›]
theorem ib:Qz "sorted"=some (.builtin "sorted"):=by first | rfl | decide +kernel
section
variable {X:Cx} {pins:List (Qs×Obj)} {s:QB} {σ:L2.St} {H:Hp} {O:List Qs}
theorem yr {u:Qp} {ds:List D} {vs:List V} {its:List Qp} {d:D} {i:Int} {t:Tok} {c' cc f:Qs} {row many qual:Str} {params:Q5} {scope:QC} {np mp p2 pos:Pos} {pm ctv:Qp} {Q:VK}
  (I:Inv X pins σ H s) (hO:d9 H O) (dn:aW X.K (hid H O) ds vs) (rv:Vals vs its) (h0:0<=i) (hs:qM i.toNat ds=some d)
  (hf:s.heap.get? f=some (RQ "<lambda>" qual params (cutE row many np mp p2 pos) scope [(many,cc)] pm c' ctv)) (hcd:s.heap.CodeRec (.ref c') qual) (hroom:X.A.depth < QY)
  (hbind:∀ v,bindArgs (kla_fn "<lambda>" qual params (cutE row many np mp p2 pos) scope [(many,cc)] pm (.ref c') ctv) ⟨[v],[]⟩=pure [(row,v)])
  (hco:scope.isCoroutine=false) (hgen:scope.isGenerator=false) (hk:scope.kind=.function) (hno:∀ x∈scope.names,x.2≠.cell) (hr:scope.names.lookup row=some .local) (hm:scope.names.lookup many=some .free)
  (hcell:s.heap.IsCell cc (some (.int i t))) (d1:(row==("__debug__":Str))=false) (d2:(many==("__debug__":Str))=false) (d3:(many==("__classdict__":Str))=false)
  (hcol:∀ (Q':List Qp->QB->Prop),(∀ h' tk,(∀ b o,s.heap.get? b=some o->h'.get? b=some o)->Q' its { s with heap:=h',toks:=tk })->QD (model X.prog X.w) X.A.in1 (collect u) Q' X.xe s)
  (q:∀ v H',bo H H'->cK X.K (hid H' O) d v->Q v H'):QD (model X.prog X.w) X.A (call (.builtin "sorted") [u] [(Str.ofString "key",.ref f)]) (EP X pins σ Q) X.xe s:=by
 have l1:=dn.length
 have l2:=rv.length
 unfold qM at hs
 split at hs
 ·rename_i hS
  cases hs
  obtain⟨h64,σ',hσ,hsh,pw⟩:=hS
  obtain⟨b,σ1,rfl⟩:∃ b σ1,σ'=b::σ1:=by
   cases σ' with
   | nil=>exact absurd rfl hσ
   | cons b σ1=>exact⟨b,σ1,rfl⟩
  have hsh':∀ x∈ds,Sh (b::σ1) (sW i.toNat x):=fun x hx=>by
   obtain⟨k,rfl,hk⟩:=hsh x hx
   exact hk
  refine xq (keys:=ds.map (sW i.toNat)) (σ:=σ1) (b:=b) ‹0› (by rw [MI]; omega) (fun k hk=>by obtain⟨x,hx,rfl⟩:=List.mem_map.mp hk; exact hsh' x hx) hcol (fun j v h' tk Q' hv kp hq=>?_) fun p h1 h' l e tk hp hu k1 k2 hl he=>?_
  ·have hj:j < its.length:=by
    rcases Ol j its.length with z | z
    ·exact z
    ·rw [Om z] at hv; cases hv
   have hj':j < ds.length:=by omega
   obtain⟨v0,e1,dv⟩:=dn.get (i:=j) (d:=ds[j]) (by simp [hj'])
   obtain⟨w,e2,rw'⟩:=rv.get e1
   rw [hv] at e2
   cases e2
   obtain⟨k,ek,hk'⟩:=hsh _ (Oe hj')
   have ekey:(ds.map (sW i.toNat)).getD j []=k.take i.toNat:=by
    have:(ds.map (sW i.toNat)).getD j []=sW i.toNat ds[j]:=by simp [hj']
    rw [this,ek]; rfl
   rw [ekey] at hq
   rw [ek] at dv
   obtain⟨a,ws,rfl,ha,dk⟩:=cC.mp dv
   cases rw'
   obtain⟨it2,r2,ht,hz⟩:=I.tuple (bR (aC H O) ha)
   have hz':it2.toArray.size<=Qv:=by rw [ME,<- r2.length]; exact hz
   refine CL (s:={ s with heap:=h',toks:=tk }) (i:=i) (t:=t) (kp _ _ hf) ?_ hroom (I.nolimit.keeps kp) hbind hco hgen hk hno hr hm ?_ (items:=it2.toArray) ?_ hz' d1 d2 d3 fun b2 h'' tk' kp2 tb=>?_
   ·obtain⟨c2,oc,vs',t',ec,eo,r⟩:=hcd
    exact⟨c2,oc,vs',t',ec,kp _ _ eo,r⟩
   ·obtain⟨o,e,q⟩:=hcell
    exact⟨o,kp _ _ e,q⟩
   ·obtain⟨o,e,q⟩:=ht
    exact⟨o,kp _ _ e,q⟩
   ·refine hq _ h'' tk' kp2 ?_
    obtain⟨o,eo,hc,n,hd⟩:=tb
    refine⟨b2,o,_,n,rfl,eo,hc,hd,?_⟩
    have e3:(List.toArray (it2.toArray.toList.take (HT.sIx it2.toArray.size it2.toArray.size (some i)))).toList=it2.take i.toNat:=by
     rw [EG h0]
     simp only [ME,Oj]
     rcases Ot i.toNat it2.length with z | z
     ·rw [Ou z]
     ·rw [Ov z,Oo (MA _),Oo z]
    rw [e3]
    exact jO (qz hk') (dk.take i.toNat) (uD i.toNat r2)
  ·have el:its.length=ds.length:=by omega
   rw [el] at hp hu
   have ps:=p4 (key:=sW i.toNat) hsh' pw hp hu
   have hr:p.toList.Perm (List.range ds.length):=by
    have:=Array.perm_iff_toList_perm.mp hp
    simpa using this
   have hlt:∀ i∈p.toList,i < ds.length:=fun i hi=>by simpa using hr.mem_iff.mp hi
   have I1:Inv X pins σ H { s with heap:=h1,toks:=tk }:=I.kept k1
   have hn:H l=none:=I1.hok.fresh hl
   have rv':=pM rv p.toList fun i hi=>by have:=hlt i hi; omega
   have dn':=pT dn p.toList hlt
   have hlen:p.toList.length=ds.length:=by rw [hr.length_eq,NA]
   refine⟨.ref l,_,Inv.laid (s:={ s with heap:=h1,toks:=tk }) (t':=tk) I1 k2 hl (show cx X.prog X.w _ h' _ (.lst (p.toList.map fun i=>vs.getD i .non)) from ⟨by rw [MI,hlen,QU]; omega,_,e,rv',he⟩),rfl,?_⟩
   refine q _ _ (bD hn _) ?_
   rw [<- ps]
   exact dg hO hn dn'
 ·cases hs
theorem HG {f:FX} {j:Nat} {k:Nat} {c P cc:Qs} {e:QE} {p lpos kp pos np mp p2 spos:Pos} {row many:Str} {params:Q5} {scope:QC}
  (hr:fE k X.A) (hg:Gl X "sorted") (hm:X.mg "sorted"=none) (B:Aq X.mg X.base c P) (hcode:X.env.code=.ref c) (hT:∀ H,aR.tab H->H P=some (.ext (n6 P lpos (X.env.qual ++ "<lambda>"))))
  (he:FE X e f) (hN:X.N[j]?=some many) (hkm:X.env.kindOf many=some .cell) (hv:Gn X.env.scope many) (hcc:X.env.cells.lookup many=some cc) (hcl:closureFor scope X.env=pure [(many,cc)]) (hdef:defaultsOf params X.env=([],[]))
  (hbind:∀ cdv ctv v,bindArgs (PH "<lambda>" (X.env.qual ++ "<lambda>") params (cutE row many np mp p2 spos) scope [(many,cc)] ((X.mg "__name__").getD .none) cdv ctv) ⟨[v],[]⟩=pure [(row,v)])
  (hco:scope.isCoroutine=false) (hgen:scope.isGenerator=false) (hk:scope.kind=.function) (hno:∀ x∈scope.names,x.2≠.cell) (hlr:scope.names.lookup row=some .local) (hlm:scope.names.lookup many=some .free)
  (d1:(row==("__debug__":Str))=false) (d2:(many==("__debug__":Str))=false) (d3:(many==("__classdict__":Str))=false) (hns:noStar e=true:=by rfl) :
  FE X (.Call (.Name "sorted" p) [e] [⟨some "key",.Lambda params (cutE row many np mp p2 spos) scope lpos,kp⟩] pos) (f2 pc f (ah j)):=by
 intro pins s σ H Q I ⟨O,ρ,E,hF⟩
 refine Q3 (lM I hg hm ib ?_)
 have st:backTo pos (QF [e] X.env)=(false,eval e X.env)::backTo pos (QF [] X.env):=by rw [cW hns]; rfl
 refine PyProof.Rows.callWith_kw ?_ ?_ (fV (by rw [Nq,hns]; rfl))
 ·refine eK (kJ he o5 (cW hns) pos pins s σ H (fun vs H1=>∃ v d a m,vs=[v]/\bo H H1/\ρ[j]?=some (some (.val m))/\pc a m=some d/\cK X.K (hid H1 O) a v/\∀ v H',bo H H'->cK X.K (hid H' O) d v->Q v H') I ⟨O,ρ,E,(iU.bind hF).imp fun a hF v H1 s1 d1=>?_⟩) fun us s1 ⟨vs,H1,I1,rv,v,d,a,m,ev,s1',em,hd,dn,q⟩=>?_
  ·obtain⟨m,em,hF⟩:=tS (iU.bind hF)
   obtain⟨d,e,q⟩:=iU.rO hF
   exact⟨v,d,a,m,rfl,s1,em,e,d1,q⟩
  ·subst ev
   obtain⟨u,eu,ru⟩:=vals1 rv
   subst eu
   have E1:=E.same s1'
   show QD _ _ (evalAll ((do let v <- eval (.Lambda params (cutE row many np mp p2 spos) scope lpos) X.env; standAt pos; pure v)::[])) _ _ s1
   refine wpAny_evalAll_cons (QM (Cu I1 B hcode (hT _ E1.all.1) hdef hcl fun fa c' ctv s2 H2 I2 s2' hfa hcr=>QM (Ro (QL (wpAny_evalAll_nil ?_)))))
   show QD (model X.prog X.w) X.A (call (.builtin "sorted") [u] [(Str.ofString "key",.ref fa)]) (EP X pins σ Q) X.xe s2
   have E2:=E1.same s2'
   obtain⟨vm,e3,dm⟩:=E2.val j m em
   have core:∀ (i:Int) (xs:List D),m=.int i->0<=i->qM i.toNat xs=some d->∀ (ys:List V) (its:List Qp),aW X.K (hid H2 O) xs ys->Vals ys its ->
     (∀ (Q':List Qp->QB->Prop),(∀ h' tk,(∀ b o,s2.heap.get? b=some o->h'.get? b=some o)->Q' its { s2 with heap:=h',toks:=tk })->QD (model X.prog X.w) X.A.in1 (collect u) Q' X.xe s2) ->
     QD (model X.prog X.w) X.A (call (.builtin "sorted") [u] [(Str.ofString "key",.ref fa)]) (EP X pins σ Q) X.xe s2:=by
    intro i xs ei h0 hs ys its dl ri hcol
    subst ei
    rw [fu] at dm
    subst dm
    obtain⟨mm,hns',hl⟩:=I2.loc
    obtain⟨uv,ruv,lk⟩:=hl j many (.int i) hN e3 hv
    obtain⟨t,rfl⟩:=ruv
    have hcell:s2.heap.IsCell cc (some (.int i t)):=by
     rcases lk with ⟨z,_⟩ | ⟨_,c2,ec,hc2⟩
     ·rw [hkm] at z; cases z
     ·rw [hcc] at ec; cases ec; exact hc2
    have dp:=hr.dp
    exact yr I2 E2.all dl ri h0 hs hfa hcr ‹0› (fun v=>hbind (.ref c') ctv v) hco hgen hk hno hlr hlm hcell d1 d2 d3 hcol fun v H' sm dd=>q v H' ((s1'.trans s2').trans sm) dd
   have dn2:=dn.mono (bT (O:=O) s2')
   unfold pc at hd
   split at hd
   ·rename_i xs i
    split at hd
    ·rename_i h0
     obtain⟨l,ys,el,g1,g2⟩:=cD.mp dn2
     subst el
     cases ru
     obtain⟨its,ri,pl,hz⟩:=I2.list ((aC H2 O).seq g1)
     have hlen:=ri.length
     obtain⟨o,ho,hc,n,hd'⟩:=pl.isList
     exact core i xs rfl h0 hd ys its g2 ri fun Q' hQ=>RP l (.inl rfl) ho hc hd' (fun h' k=>by simpa using hQ h' s2.toks k) (by simp only [ME] <;> omega)
    ·cases hd
   ·rename_i xs i
    split at hd
    ·rename_i h0
     obtain⟨l,ys,el,g1,g2⟩:=cC.mp dn2
     subst el
     cases ru
     obtain⟨its,ri,⟨o,ho,hc,n,hd'⟩,hz⟩:=I2.tuple (bR (aC H2 O) g1)
     have hlen:=ri.length
     exact core i xs rfl h0 hd ys its g2 ri fun Q' hQ=>RP l (.inr rfl) ho hc hd' (fun h' k=>by simpa using hQ h' s2.toks k) (by simp only [ME] <;> omega)
    ·cases hd
   ·cases hd
 ·exact st
end
end TG
namespace TG
open PySem PySem.Spec PyProof.Rows PySem.W L2
section
variable [aR] {P:Qr} {w:Qq} {K:Pa} {mg:Str->Option Qp} {base:Qu}
def uH (K:Pa) (f:Qs) (cdv:Qp):Prop:=∃ oc od fd sl,K.lookup f=some ⟨oc,od,.func fd,sl⟩/\fd.code=cdv
theorem uH.one {f:Qs} {a b:Qp} (h:uH K f a) (h':uH K f b):a=b:=by
 obtain⟨oc,od,fd,sl,e,r⟩:=h
 obtain⟨oc',od',fd',sl',e',r'⟩:=h'
 rw [e] at e'
 cases e'
 rw [<- r,<- r']
structure uZ (P:Qr) (w:Qq) (K:Pa) (mg:Str->Option Qp) (base:Qu) (k:Nat) (N:List Str) (qual:Str) (st:QG) (f:Qs) (B:cB):Prop where
 h:∀ (cdv:Qp) (A:QA) (outer:List Env) (s:QB) (H:Hp) (E:XK),uH K f cdv->fE k (A.deeper (envOfC qual (ay st) s.heap.objs.size f cdv))->QO (model P w) (A.deeper (envOfC qual (ay st) s.heap.objs.size f cdv)) (envOfC qual (ay st) s.heap.objs.size f cdv) (ji (nA P w) P w K mg base N qual (ay st) f cdv A outer s H E).xe ->
  xG (ji (nA P w) P w K mg base N qual (ay st) f cdv A outer s H E) (e7 st) B
theorem B9 {x qual:Str} {st:QG} {f:Qs} {fd:Q0} {N ps:List Str} {k:Nat} {B:cB} (F:vv K x qual st f fd) (SC:bj N ps (ay st)) (hb:uZ P w K mg base k N qual st f B) :
  iV P w K mg base (nA P w) (k+1) f fd ps (Bk K ps.length (bc B ps.length N.length)):=by
 obtain⟨oc,od,kV,doc,pm,an,cd,ct,osl,rfl,lk,hcd⟩:=F.ex
 refine Ct lk hcd SC (fun vs H Q E h=>?_) fun A outer s H vs Q E hr h=>?_
 ·obtain⟨O,ds,h1,_⟩:=h
  exact h1
 ·obtain⟨O,ds,h1,h2,h3,h4⟩:=h
  have hl:ds.length=ps.length:=h3.length.trans h1
  have e4:bc B ps.length N.length ds=B K0 (env0 N.length ds):=by unfold bc; rw [if_pos hl]
  rw [e4] at h4
  refine⟨_,hb.h cd A outer s H E ⟨_,_,_,_,lk,rfl⟩ hr PassesOwn.leaving H O,O,env0 N.length ds,K0,_,⟨qV h2 h3,⟨bo.refl H,fun _ z=>z,fun a z=>.inl z⟩,fun i xs a e=>?_,fun i d e=>by obtain⟨d',_,e2⟩:=iK i _ e; cases e2⟩,rfl,?_⟩
  ·obtain⟨d',_,e2⟩:=iK i _ e
   cases e2
  ·generalize B K0 (env0 N.length ds)=r at h4
   refine⟨fun z=>by rw [z] at h4; exact h4,fun O' ρ' σ' H' S e=>?_,fun O' ρ' σ' H' S e=>?_,fun O' ρ' σ' H' S e=>?_,fun d O' v H' e b dv=>?_,fun O' ρ' σ' H' x S e=>?_⟩
   ·have e:(.ok .non:R D)=r:=e
    subst e
    exact h4 .non H' S.base.same (j0.mpr rfl)
   ·have e:(un:R D)=r:=e
    subst e
    exact h4.elim
   ·have e:(un:R D)=r:=e
    subst e
    exact h4.elim
   ·subst e
    exact h4 v H' b.same (dv.mono (gL b.sub))
   ·have e:(.error (some x):R D)=r:=e
    subst e
    exact B8 h4 S.base.same S.base.sub
theorem xU {x qual:Str} {st:QG} {f:Qs} {fd:Q0} {N ps:List Str} {k:Nat} {B:cB} (F:vv K x qual st f fd) (b:Binds K fd ps []) (m:mg x=some (.ref f)) (SC:bj N ps (ay st)) (hb:uZ P w K mg base k N qual st f B) :
  Callee P w K mg base (k+1) x ps (bc B ps.length N.length):=⟨f,fd,B9 F SC hb,b,F.kp,m⟩
end
def yJ (mg:Str->Option Qp) (base:Qu):Prop:=∃ bm ob,mg "__builtins__"=some (.ref bm)/\bm≠Qy/\base.get? bm=some ob/\ob.cls=.type "module"/\ob.dict=some Qy/\ob.data=.plain
theorem Ei {K:Pa} {mg:Str->Option Qp} {base:Qu} {c P:Qs} (X:K.In base) (e:codeHdIn K c P=true) (b:yJ mg base):Aq mg base c P:=⟨codeHd_of_K X e,b⟩
theorem Ek {P:Qr} {w:Qq} {K:Pa} {mg mb:Str->Option Qp} {CX:yh} {k:Nat} {fa a c T:Qs} {lpos:Pos} {q:Str} {fd:Q0} {x:Str} {sp:Sp} {s₁:QB} {vs:List Qp} {ns:List Int}
  (KX:K.In s₁.heap) (hns:s₁.heap.Ns Qx mg) (hb:s₁.heap.Ns Qy mb) (hbb:∀ x:Str,x ≠ "__name__"->mb x=Qz x) (hlim:s₁.heap.NoLimit) (hg:s₁.gens=#[]) (hbm:yJ mg s₁.heap)
  (hT:s₁.heap.get? T=some (tabObj #[])) (hC:codeHdIn K c T=true) (hKT:K.lookup T=none)
  (ha:s₁.heap.get? a=some { cls:=.type "list",data:=.seq vs.toArray }) (hi:IntsAre vs ns) (hl:ns.length<=Qv) (hr:fE k callerA)
  (F:∀ base:Qu,K.In base->base.Ns Qx mg->yJ mg base->iV P w K mg base CX k fa fd [x] sp) (hbind:∀ (s:QB) (u:Qp),Q1 s fd ⟨[u],[]⟩ [(x,u)])
  (hsp:∀ H:Hp,H T=some (.ext (n6 T lpos q))->nV K H a (ns.map V.int)->sp [.ref a] H (fun v H'=>v=.bl true/\bo H H') fun _ _ _=>False)
  (hCX:∀ H e s',CX [] H s₁ (fun _ _ _=>False) e s'->False) :
  QV (model P w) callerA (.call (.ref fa) ⟨[.ref a],[]⟩) (fun r s'=>r=.ok (.ret (.bool true))/\OldK s₁.heap s'.heap/\s'.os=s₁.os/\AllBare s'.gens) s₁:=by
 have rv:=tY hi
 have lenV:=hi.length
 have aT:a≠T:=fun z=>by rw [z,hT] at ha; cases ha
 obtain⟨H,hH⟩:∃ H:Hp,H=fun b=>if b=T then some (.ext (n6 T lpos q)) else if b=a/\(K.lookup a).isNone=true then some (.frz { cls:=.type "list",data:=.seq vs.toArray } (.lst (ns.map V.int))) else none:=⟨_,rfl⟩
 have hHT:H T=some (.ext (n6 T lpos q)):=by rw [hH]; exact if_pos rfl
 have cases':∀ b u,H b=some u->(b=T/\u=.ext (n6 T lpos q))\/(b=a/\K.lookup a=none/\u=.frz { cls:=.type "list",data:=.seq vs.toArray } (.lst (ns.map V.int))):=fun b u e=>by
  rw [hH] at e
  by_cases z:b=T
  ·have e:=(if_pos z).symm.trans e
   cases e
   exact .inl ⟨z,rfl⟩
  ·have e:=(if_neg z).symm.trans e
   by_cases z':b=a/\(K.lookup a).isNone=true
   ·have e:=(if_pos z').symm.trans e
    cases e
    exact .inr ⟨z'.1,by simpa using z'.2,rfl⟩
   ·have e:=(if_neg z').symm.trans e
    cases e
 have free:∀ b o,s₁.heap.get? b=some o->o.cls≠.none->o.cls≠.type "list"->H b=none:=fun b o e h1 h2=>by
  cases z:H b with
  | none=>rfl
  | some u =>
   rcases cases' b u z with ⟨e1,_⟩ | ⟨e1,_⟩
   ·rw [e1,hT] at e; cases e; exact absurd rfl h1
   ·rw [e1,ha] at e; cases e; exact absurd rfl h2
 have freeD:∀ b o es ep,s₁.heap.get? b=some o->o.data=.dict es ep->H b=none:=fun b o es ep e d=>by
  cases z:H b with
  | none=>rfl
  | some u =>
   rcases cases' b u z with ⟨e1,_⟩ | ⟨e1,_⟩
   ·rw [e1,hT] at e; cases e; cases d
   ·rw [e1,ha] at e; cases e
    have d':Data.seq vs.toArray _=Data.dict es ep:=d
    cases d'
 have hS:nV K H a (ns.map V.int):=by
  cases hk:K.lookup a with
  | some o =>
   have e:=KX a o hk
   rw [ha] at e
   cases e
   exact .inr ⟨_,vs.toArray,_,hk,rfl,rfl,rfl,by rw [ME,lenV]; exact hl,by simpa using rv⟩
  | none =>
   refine .inl (.inr ⟨{ cls:=.type "list",data:=.seq vs.toArray },?_⟩)
   rw [hH]
   exact(if_neg aT).trans (if_pos ⟨rfl,by rw [hk]; rfl⟩)
 have hok:ox P w H s₁.heap:=fun b u e=>by
  rcases cases' b u e with ⟨e1,e2⟩ | ⟨e1,_,e2⟩
  ·subst e1 e2
   exact n6.ok (.inl hT)
  ·subst e1 e2
   exact⟨ha,by rw [MI]; exact hl,vs,_,rv,ha⟩
 have nsK:∀ {b:Qs} {m:Str->Option Qp},s₁.heap.Ns b m->(vy s₁.heap H).Ns b m:=fun {b m} ⟨o,es,ep,e,d,r⟩=>⟨o,es,ep,qS e (freeD b o es ep e d),d,r⟩
 have hKb:K.In (vy s₁.heap H):=fun b o e=>qS (KX b o e) (by
  cases z:H b with
  | none=>rfl
  | some u =>
   rcases cases' b u z with ⟨e1,_⟩ | ⟨e1,e2,_⟩
   ·rw [e1,hKT] at e; cases e
   ·rw [e1,e2] at e; cases e)
 have hbm':yJ mg (vy s₁.heap H):=by
  obtain⟨bm,ob,b1,b2,b3,b4,b5,b6⟩:=hbm
  refine⟨bm,ob,b1,b2,qS b3 (free bm ob b3 ?_ ?_),b4,b5,b6⟩
  ·rw [b4]; simp
  ·rw [b4]; simp
 have hM:Mod K mg (vy s₁.heap H):=⟨hKb,nsK hns,⟨mb,nsK hb,hbb⟩,let ⟨mc,h1,h2⟩:=hlim; ⟨mc,nsK h1,h2⟩⟩
 have e0:AQ P w K mg (vy s₁.heap H) callerA [] s₁ H:=⟨rfl,hM,fun b o e=>El e,MJ (zN _ _),trivial,fun b hb=>absurd (show b∈([]:List Qs) from hb) (by simp),hok,.of_eq hg⟩
 refine Q2 ((F _ hKb (nsK hns) hbm').run callerA [] s₁ H ⟨[.ref a],[]⟩ [.ref a] [.ref a] _ _ hr e0 (hbind s₁ (.ref a)) (.cons rfl .nil) (hsp H hHT hS)) fun r s' h=>?_
 cases r with
 | error e=>exact(hCX H e s' h).elim
 | ok fl =>
  cases fl with
  | next=>exact False.elim h
  | brk=>exact False.elim h
  | cont=>exact False.elim h
  | ret u =>
   obtain⟨v,H',os,bare,unn,hok',r',q'⟩:=h
   obtain⟨ev,sm⟩:v=.bl true/\bo H H':=q'
   subst ev
   obtain rfl:u=Value.bool true:=r'
   have tb:=(hok' T _ (sm _ _ hHT)).1
   obtain⟨ps,hps⟩:∃ ps,s'.heap.get? T=some (tabObj ps):=by
    rcases tb with e | ⟨_,_,e,_⟩
    ·exact⟨_,e⟩
    ·exact⟨_,e⟩
   have keep:∀ b o,b≠T->s₁.heap.get? b=some o->s'.heap.get? b=some o:=fun b o hb e=>by
    cases z:H b with
    | none=>exact unn.keep b o e z (by intro z; exact absurd (show b∈([]:List Qs) from z) (by simp)) (by simp)
    | some u =>
     rcases cases' b u z with ⟨e1,_⟩ | ⟨e1,_,e2⟩
     ·exact absurd e1 hb
     ·subst e2
      have z2:=sm _ _ z
      obtain⟨e3,_⟩:=hok' b _ z2
      rw [e1,ha] at e; cases e
      exact e3
   refine⟨rfl,⟨fun b o e=>?_,fun b o e=>?_⟩,os,bare⟩
   ·by_cases hb:b=T
    ·subst hb
     rw [hT] at e; cases e
     exact .inr (.inl ⟨((codeHd_of_K KX hC).tab hT).isCodeTable,rfl,#[],ps,rfl,by rw [Array.empty_append]; exact hps⟩)
    ·exact .inl (keep b o hb e)
   ·by_cases hb:b=T
    ·subst hb; exact⟨_,hps⟩
    ·exact⟨o,keep b o hb e⟩
theorem BK {l:PJ} {n k:Nat} {q:Qr} {loose:List Str} {XP:(Str->Option Qp)->Qu->Prop} {YP:Qq->Qu->Prop} {d:DefRec} {K:Params->Pa} {CX:Qq->yh} {sp:Qq->Sp} {x qn:Str} {T:Qs} {lpos:Pos}
  (hn:l.most=some n) (hn2:n<=Qv) (hdf:d.params.defaults=[]) (hr:fE k callerA)
  (hY:∀ (w:Qq) (h:Qu),YP w h->(K w.params).In h/\h.get? T=some (tabObj #[]))
  (F:∀ (w:Qq) (mg:Str->Option Qp) (fa:Qs) (h:Qu),(K w.params).In h->h.Ns Qx mg->mg d.name=some (.ref fa) ->
   (∃ c,codeHdIn (K w.params) c T=true)/\(K w.params).lookup T=none/\∃ fd:Q0,(∀ (s:QB) (u:Qp),Q1 s fd ⟨[u],[]⟩ [(x,u)]) /\
    ∀ base:Qu,(K w.params).In base->base.Ns Qx mg->yJ mg base->iV l.prog w (K w.params) mg base (CX w) k fa fd [x] (sp w))
  (hsp:∀ (w:Qq) (H:Hp) (a:Qs) (ns:List Int),ns.length<=n->H T=some (.ext (n6 T lpos qn))->nV (K w.params) H a (ns.map V.int)->sp w [.ref a] H (fun v H'=>v=.bl true/\bo H H') fun _ _ _=>False)
  (hCX:∀ (w:Qq) (H:Hp) (s:QB) (e:Qp) (s':QB),CX w [] H s (fun _ _ _=>False) e s'->False) :
  PySem.W.WalkO q loose XP YP l.row.toRowW d [] (fun f vs=>PySem.call f vs):=by
 refine Att.Fu hn hdf fun w s₀ s₁ mg mb fa o pm cd doc a vs ns G Y ho hd hcd hmg hobj hints hlen hg=>?_
 obtain⟨KX,hT⟩:=hY w _ Y
 obtain⟨⟨c,hC⟩,hKT,fd,hb,hF⟩:=F w mg fa _ KX G.T.g hmg
 exact Ek KX G.T.g G.T.b G.T.builtins G.T.nolimit hg G.T.bmain hT hC hKT hobj hints (Mr hlen hn2) hr hF hb (fun H hO hS=>hsp w H a ns hlen hO hS) fun H e s'=>hCX w H s₁ e s'
end TG
namespace TG
open PySem PySem.Spec PySem.Calls L2
open PySem.SeqAt (EqAt list_indexAt)
variable [aR]
section
variable {X:Cx} {p pos:Pos} {e:QE}
end
end TG
namespace TG
open PySem PySem.Spec L2
variable [aR]
end TG
namespace TG
open PySem PySem.Spec PySem.Calls L2
open PySem.SeqAt (EqAt list_countAt)
variable [aR]
def o4:=Hy (fun _ j=>decide (0<=j)) fun i j=>i / 2 ^ j.toNat
theorem yF {K:Pa}:eO K (rI (fun _ j=>0<=j) fun i j=>.int (i / 2 ^ j.toNat)) o4:=jy fun _ _ h=>of_decide_eq_true h
def nw:=FR fun i j=>.int (Builtin.bitAnd i j)
theorem yI {K:Pa}:eO K (DX fun i j=>.int (Builtin.bitAnd i j)) nw:=rT
def p8:List D->List D->Option (List (Key×D))
 | [],[]=>some []
 | k::ks,d::ds=>(keyOf k).bind fun k=>(p8 ks ds).map ((k,d)::·)
 | _,_=>none
abbrev gR (al:List (Key×D)):List D:=al.map fun p=>bu p.1
abbrev xt (al:List (Key×D)):D:=.dct (gR al) (al.map (·.2))
theorem kD (k:Key):keyOf (bu k)=some k:=by cases k <;> rfl
theorem sA {a b:Key} (h:bu a=bu b):a=b:=by
 have e:=congrArg keyOf h
 rw [kD,kD] at e
 exact Option.some.inj e
theorem wu:∀ {ks ds:List D} {al:List (Key×D)},p8 ks ds=some al->ks=gR al/\ds=al.map (·.2)
 | [],[],_,h=>by cases h; exact⟨rfl,rfl⟩
 | k::ks,d::ds,al,h=>by
  unfold p8 at h
  cases e1:keyOf k with
  | none=>rw [e1] at h; cases h
  | some k' =>
   rw [e1] at h
   cases e2:p8 ks ds with
   | none=>rw [e2] at h; cases h
   | some al' =>
    rw [e2] at h; cases h
    obtain⟨h1,h2⟩:=wu e2
    rw [sy e1,h1,h2]; exact⟨rfl,rfl⟩
 | [],_::_,_,h=>by cases h
 | _::_,[],_,h=>by cases h
theorem uJ:∀ al:List (Key×D),p8 (gR al) (al.map (·.2))=some al
 | []=>rfl
 | p::r=>by
  show (keyOf (bu p.1)).bind _=_
  rw [kD]
  show (p8 (gR r) (r.map (·.2))).map ((p.1,p.2)::·)=_
  rw [uJ r]; rfl
theorem uQ:∀ {al:List (Key×D)} {ks:List Key},gR al=ks.map bu->al.map (·.1)=ks
 | [],[],_=>rfl
 | p::r,k::ks,h=>by
  have h:bu p.1::gR r=bu k::ks.map bu:=h
  injection h with h1 h2
  rw [MH,sA h1,uQ h2]
 | [],_::_,h=>by cases h
 | _::_,[],h=>by cases h
theorem KS {K:Pa} {H:Hp} {O:List Qs} {a:Qs} {al:List (Key×D)} (h:dq K H O a (xt al)) :
  (∃ kvs:List (Key×V),H a=some (.dK kvs)/\kvs.map (·.1)=al.map (·.1)/\aW K (hid H O) (al.map (·.2)) (kvs.map (·.2)))\/(H a=some (.dT [])/\al=[]):=by
 obtain⟨o,vs,h1,h2,h3⟩:=h
 rcases h3 with ⟨kvs,e,e1,e2⟩ | ⟨kvs,e,e1,e2⟩
 ·subst e
  refine .inl ⟨kvs,h1,?_,by rw [<- e2]; exact h2⟩
  exact(uQ (ks:=kvs.map (·.1)) (by rw [Oh]; exact e1)).symm
 ·subst e
  cases kvs with
  | nil =>
   refine .inr ⟨h1,?_⟩
   simpa using e1
  | cons p r =>
   cases al with
   | nil=>cases e1
   | cons q r' =>
    have e1:bu q.1::gR r'=D.tup (p.1.map bu)::r.map (fun p=>D.tup (p.1.map bu)):=e1
    injection e1 with e1 _
    rcases q with ⟨k,v⟩
    cases k <;> cases e1
section
variable {κ:Type} [DecidableEq κ]
def qi (al:List (κ×D)) (k:κ) (v:D):List (κ×D):=if (al.any fun p=>decide (p.1=k))=true then al.map (fun p=>if p.1=k then (p.1,v) else p) else al++[(k,v)]
theorem A8 {kvs:List (κ×V)} {al:List (κ×D)} (e:kvs.map (·.1)=al.map (·.1)) (k:κ) (w:V) (d:D):(putK kvs k w).map (·.1)=(qi al k d).map (·.1):=by
 have e2:(kvs.any fun p=>decide (p.1=k))=(al.any fun p=>decide (p.1=k)):=by
  have:=congrArg (fun l=>l.any fun q=>decide (q=k)) e
  simpa [Oi,Function.comp_def] using this
 unfold putK qi
 rw [e2]
 split
 ·have e3:∀ (l:List (κ×V)),(l.map fun kv=>if kv.1=k then (kv.1,w) else kv).map (·.1)=l.map (·.1):=fun l=>by
   rw [Oh]; refine Ny fun p _=>?_
   show (if p.1=k then (p.1,w) else p).1=p.1
   split <;> rfl
  have e4:∀ (l:List (κ×D)),(l.map fun kv=>if kv.1=k then (kv.1,d) else kv).map (·.1)=l.map (·.1):=fun l=>by
   rw [Oh]; refine Ny fun p _=>?_
   show (if p.1=k then (p.1,d) else p).1=p.1
   split <;> rfl
  rw [e3,e4,e]
 ·rw [Nz,Nz,e]; rfl
theorem ur {K:Pa} {H:Hp} {k:κ} {w:V} {d:D} (hw:cK K H d w):∀ {kvs:List (κ×V)} {al:List (κ×D)},kvs.map (·.1)=al.map (·.1)->aW K H (al.map (·.2)) (kvs.map (·.2)) ->
  aW K H ((al.map fun p=>if p.1=k then (p.1,d) else p).map (·.2)) ((kvs.map fun p=>if p.1=k then (p.1,w) else p).map (·.2))
 | [],[],_,h=>h
 | p::r,q::r',e,h=>by
  rw [MH,MH] at e
  injection e with e1 e2
  rw [MH,MH,bC] at h
  obtain⟨v,ws,h0,h1,h2⟩:=h
  injection h0 with h0 h0'
  subst h0 h0'
  have ih:=ur (k:=k) hw e2 h2
  rw [MH,MH,MH,MH,bC]
  refine⟨_,_,rfl,?_,ih⟩
  rw [e1]
  split
  ·exact hw
  ·exact h1
 | [],_::_,e,_=>by cases e
 | _::_,[],e,_=>by cases e
theorem CU {K:Pa} {H:Hp} {k:κ} {w:V} {d:D} (hw:cK K H d w) {kvs:List (κ×V)} {al:List (κ×D)} (e:kvs.map (·.1)=al.map (·.1)) (h:aW K H (al.map (·.2)) (kvs.map (·.2))) :
  aW K H ((qi al k d).map (·.2)) ((putK kvs k w).map (·.2)):=by
 have e2:(kvs.any fun p=>decide (p.1=k))=(al.any fun p=>decide (p.1=k)):=by
  have:=congrArg (fun l=>l.any fun q=>decide (q=k)) e
  simpa [Oi,Function.comp_def] using this
 unfold putK qi
 rw [e2]
 split
 ·exact ur hw e h
 ·rw [Nz,Nz]
  exact h.append (bC.mpr ⟨w,[],rfl,hw,cT.mpr rfl⟩)
end
def ug (ks ds:List D) (k v:D):Option (List (Key×D)):=(p8 ks ds).bind fun al=>(keyOf k).bind fun k=>if small al.length then some (qi al k v) else none
def oo (i:Nat) (fk fv:FX):cB:=fun k ρ=>match ρ[i]? with
 | some (some (.own (.dct ks ds)))=>sM ((fv ρ).bind fun v=>(fk ρ).bind fun q=>rO (ug ks ds q v)) k ρ fun al=>k.nx (ρ.set i (some (.own (xt al))))
 | _=>un
theorem x6 {ks ds:List D} {k v:D} {al':List (Key×D)} (h:ug ks ds k v=some al'):∃ al q,ks=gR al/\ds=al.map (·.2)/\k=bu q/\small al.length=true/\al'=qi al q v:=by
 unfold ug at h
 cases e1:p8 ks ds with
 | none=>rw [e1] at h; cases h
 | some al =>
  rw [e1] at h
  cases e2:keyOf k with
  | none=>rw [e2] at h; cases h
  | some q =>
   rw [e2] at h
   obtain⟨h3,h4⟩:=bK (show (if small al.length then some (qi al q v) else none)=some al' from h)
   obtain⟨h1,h2⟩:=wu e1
   exact⟨al,q,h1,h2,sy e2,h3,h4.symm⟩
theorem DH {kvs:List (Key×V)} {al:List (Key×D)} (e:kvs.map (·.1)=al.map (·.1)):gR al=kvs.map fun p=>bu p.1:=by
 have:=congrArg (List.map bu) e
 rw [Oh,Oh] at this
 exact this.symm
def Hm (td ty tv:TE):TS:=fun D σ H=>tv σ H fun v H1=>td σ H1 fun x H2=>ty σ H2 fun y H3=>∃ a k kvs,x=.ref a/\y=kV k/\(H3 a=some (.dK kvs)\/(H3 a=some (.dT [])/\kvs=[]))/\kvs.length < Qv/\D.nx σ (upd H3 a (.dK (putK kvs k v)))
section
variable {X:Cx} {o idx value:QE} {pos pos':Pos} {td ty tv:TE}
theorem Cm (hu:X.A.units+1 < QZ) (ho:PE X o td) (hi:PE X idx ty) (hv:PE X value tv) (hs:swapsWith value (some (.Subscript o idx pos')) pos.line X.env=pure false):PS X (.Assign [.Subscript o idx pos'] value pos) (Hm td ty tv):=by
 intro pins s σ H D I h
 refine wpAny_Assign_Subscript (eK (hv pins s σ H _ I h) fun r s1 ⟨v,H1,I1,rv,q1⟩=>eK (ho pins s1 σ H1 _ I1 q1) fun u s2 ⟨x,H2,I2,rx,q2⟩=>eK (hi pins s2 σ H2 _ I2 q2) fun iv s3 ⟨y,H3,I3,ry,a,k,kvs,ex,ey,ha,hl,q3⟩=>?_) hs
 subst ex ey
 obtain rfl:u=Value.ref a:=rx
 rcases ha with ha | ⟨ha,rfl⟩
 ·exact mJ hu I3 (G1.k ha hl) ry rv fun s4 I4=>⟨σ,_,I4,q3⟩
 ·refine mJ hu (Ib I3 ha) (G1.k aM hl) ry rv fun s4 I4=>⟨σ,_,I4,?_⟩
  rw [sL]; exact q3
end
theorem Jr {X:Cx} {i:Nat} {x:Str} {idx value:QE} {fk fv:FX} {npos tpos pos:Pos} (hu:X.A.units+64 < QZ) (hx:PE X (.Name x npos) (rL i)) (hi:FE X idx fk) (hv:FE X value fv)
  (hs:swapsWith value (some (.Subscript (.Name x npos) idx tpos)) pos.line X.env=pure false:=by rfl) :
  FS X (.Assign [.Subscript (.Name x npos) idx tpos] value pos) (oo i fk fv):=fun Hb Ob pins s σ H E I ⟨O,ρ,k,rr,S,hF,hk⟩=>by
 unfold oo at hF
 split at hF
 ·rename_i ks ds hxs
  obtain⟨a,ha,haO,hat⟩:=S.env.own i _ hxs
  have hP:=iU.on hF hk S (Q:=fun al=>k.nx (ρ.set i (some (.own (xt al))))=rr) fun p e=>e
  refine Cm ‹0› hx hi hv hs pins s σ H E I ⟨O,ρ,S.env,(iU.bind hP).imp fun y hP v H1 s1 d1=>?_⟩
  have S1:=S.same s1
  refine⟨.ref a,ha,O,ρ,S1.env,((iU.bind hP).mono s1).imp fun j hP w H2 s2 d2=>?_⟩
  have S2:=S1.same s2
  obtain⟨al',hg,e⟩:=iU.rO hP
  obtain⟨al,q,f1,f2,f3,f4,f5⟩:=x6 hg
  subst f1 f2 f3 f5
  have s12:=s1.trans s2
  have hat2:dq X.K H2 O a (xt al):=hat.mono (let ⟨_,z⟩:=hat.some; qG s12 z) (bT s12)
  have dv:cK X.K (hid H2 O) y v:=d1.mono (bT s2)
  have fin:∀ kvs:List (Key×V),kvs.map (·.1)=al.map (·.1)->aW X.K (hid H2 O) (al.map (·.2)) (kvs.map (·.2))->dq X.K (upd H2 a (.dK (putK kvs q v))) O a (xt (qi al q y)):=fun kvs k2 k3 =>
   ⟨_,_,aM,(CU dv k2 k3).mono (gJ haO),.inl ⟨putK kvs q v,rfl,DH (A8 k2 q v y),rfl⟩⟩
  rcases KS hat2 with ⟨kvs,k1,k2,k3⟩ | ⟨k1,rfl⟩
  ·have hl:kvs.length=al.length:=by have:=congrArg List.length k2; simpa using this
   exact⟨a,q,kvs,rfl,rA d2,.inl k1,by rw [hl]; exact NF (of_decide_eq_true f4) (by decide),hk.nx O _ σ _ (S2.setO hxs ha trivial (fin kvs k2 k3)) e⟩
  ·exact⟨a,q,[],rfl,rA d2,.inr ⟨k1,rfl⟩,by decide,hk.nx O _ σ _ (S2.setO hxs ha trivial (fin [] rfl (cT.mpr rfl))) e⟩
 ·exact absurd hF.symm hk.ne
section
variable {X:Cx}
theorem Hz {pins:List (Qs×Obj)} {σ:St} {H:Hp} {s:QB} {O:List Qs} {ks ds:List D} {v:V} {qs:List Key} (I:Inv X pins σ H s) (h:cK X.K (hid H O) (.dct ks ds) v) (hk:keysOf ks=some qs) :
  ∃ a vs,v=.ref a/\qs.length<=Qv/\(a==sysModules)=false/\s.heap.DictOf (bV X.prog X.w) a vs/\vs.map (·.1)=qs:=by
 obtain⟨a,vs,e,_,h2⟩:=JD.mp h
 have ek:=mN hk
 rcases h2 with ⟨kvs,h3,h4,_⟩ | ⟨kvs,h3,h4,_⟩ | ⟨kvs,o,h3,h4,_⟩
 rotate_left 2
 ·rw [h4] at hk; cases hk
 ·obtain⟨z,hd,us,rel,dd⟩:=Ff I.hok ((aC H O) _ _ h3)
  have e1:kvs.map (·.1)=qs:=by
   have:(kvs.map (·.1)).map bu=qs.map bu:=by rw [Oh,<- ek,h4]; rfl
   have e2:=congrArg keysOf this
   rw [cq,cq] at e2
   exact Option.some.inj e2
  refine⟨a,us,e,?_,hd,dd,?_⟩
  ·have:=congrArg List.length e1
   rw [MI] at this
   omega
  ·rw [<- rel.keys,e1]
 ·cases kvs with
  | nil =>
   rw [h4] at hk
   cases hk
   obtain⟨z,hd,us,rel,dd⟩:=(show cx X.prog X.w H s.heap a (.dK []) from wJ (I.hok a _ ((aC H O) _ _ h3)))
   refine⟨a,us,e,MK _,hd,dd,?_⟩
   rw [<- rel.keys]; rfl
  | cons p r =>
   rw [h4] at hk
   cases hk
def uc:List D->Option D
 | [.dct ks _]=>(keysOf ks).bind fun qs=>some (.int qs.length)
 | _=>none
theorem zZ:dR X (.builtin "len") (vW X.K uc):=by
 intro pins s σ H xs us Q I r ⟨O,ds,d,hO,hd,hg,q⟩
 unfold uc at hg
 split at hg
 ·rename_i ks vs0
  cases hk:keysOf ks with
  | none=>rw [hk] at hg; cases hg
  | some qs =>
   rw [hk] at hg
   cases hg
   obtain⟨v,ev,h1⟩:=hd.one
   obtain⟨a,vs,e,z,hs,dd,e1⟩:=Hz I h1 hk
   subst ev e
   obtain⟨u,rfl,ru⟩:=vals1 r
   cases ru
   have hl:vs.length=qs.length:=by have:=congrArg List.length e1; simpa using this
   refine call_len_dict hs dd (by rw [QU] at z; omega) ?_
   rw [hl]
   exact⟨.int qs.length,H,I.tok _,⟨_,rfl⟩,q _ H (bo.refl H) (fu.mpr rfl)⟩
 ·cases hg
theorem Aw {k:Key} {v:Qp} (h:qa k v=true):RelV (kV k) v:=by
 rcases cQ h with ⟨i,t,rfl,rfl⟩ | ⟨x,t,rfl,rfl⟩
 ·exact⟨_,rfl⟩
 ·exact⟨_,rfl⟩
theorem tM {P:Qr} {w:Qq}:∀ {vs:List (Key×Qp)} {its:List Qp},its.length=vs.length->(∀ (j:Nat) (v:Qp),its[j]?=some v->∃ (k:Key) (x:Qp),vs[j]?=some (k,x)/\(bV P w).is k v=true)->Vals (vs.map fun p=>kV p.1) its
 | [],[],_,_=>.nil
 | p::r,u::us,hl,h=>by
  obtain⟨k,x,e,hk⟩:=h 0 u rfl
  cases e
  exact .cons (Aw (by rw [yq] at hk; exact hk)) (tM (by simpa using hl) fun j v e=>h (j+1) v (by simpa using e))
 | [],_::_,hl,_=>by cases hl
 | _::_,[],hl,_=>by cases hl
theorem t9 {K:Pa} {H:Hp}:∀ qs:List Key,aW K H (qs.map bu) (qs.map kV)
 | []=>cT.mpr rfl
 | k::r=>bC.mpr ⟨kV k,_,rfl,by cases k with
  | inl i=>exact fu.mpr rfl
  | inr x=>exact fj.mpr rfl,t9 r⟩
def pQ:List D->Option D
 | [.dct ks _]=>(keysOf ks).bind fun _=>some (.lst ks)
 | _=>none
theorem yN (hc:X.calm=true):dR X (.type "list") (vW X.K pQ):=by
 intro pins s σ H xs us Q I r ⟨O,ds,d,hO,hd,hg,q⟩
 unfold pQ at hg
 split at hg
 ·rename_i ks vs0
  cases hk:keysOf ks with
  | none=>rw [hk] at hg; cases hg
  | some qs =>
   rw [hk] at hg
   cases hg
   obtain⟨v,ev,h1⟩:=hd.one
   obtain⟨a,vs,e,z,hs,dd,e1⟩:=Hz I h1 hk
   subst ev e
   obtain⟨u,rfl,ru⟩:=vals1 r
   cases ru
   have hl:vs.length=qs.length:=by have:=congrArg List.length e1; simpa using this
   obtain⟨ep,da⟩:=dd.dictAt
   refine PK (PySem.W.kdl_dict hs) (I.ok.hd hc) da ‹0› fun h' tk acc' c' kp e2 it=>?_
   have rv:Vals (qs.map kV) acc'.toList:=by
    have:=tM (P:=X.prog) (w:=X.w) (vs:=vs) (its:=acc'.toList) (by rw [Array.length_toList]; exact it.1) fun j v e=>it.2 j v (by rw [<- Array.getElem?_toList]; exact e)
    rw [<- e1,Oh]; exact this
   refine⟨.ref s.heap.objs.size,_,I.laid (t':=tk) kp (MA _) (show cx X.prog X.w _ h' _ (.lst (qs.map kV)) from ⟨by rw [MI]; exact z,acc'.toList,c',rv,by simpa using e2⟩),rfl,?_⟩
   have hf:=I.hok.fresh (MA s.heap.objs.size)
   refine q _ _ (bD hf _) ?_
   rw [mN hk]
   exact dg hO hf (t9 qs)
 ·cases hg
end
end TG
namespace TG
open PySem PySem.Spec L2
variable [aR]
end TG
namespace TG
open PySem PySem.Spec PySem.Calls L2
variable [aR]
theorem AC:typeLookup (.type "list") "keys"=pure none:=by rw [typeLookup_type,builtinLookup_eq_fast]; kernel_rfl
theorem Du {prog:Qr} {w:Qq} {A:QA} {E:Qp->QB->Prop} {s:QB} {a:Qs} {o:Obj} {xs:Array Qp} {k:Nat} {u:Tok} {Q:Qp->QB->Prop}
  (hx:s.heap.get? a=some o) (hc:o.cls=.type "list") (hdat:o.data=.seq xs k) (hd:o.dict=none) (hA:A.handled=none)
  (h:∀ h' tk e,Heap.NewExcOf s.heap h' e "AttributeError"->E (.ref e) { s with heap:=h',toks:=tk }) :
  QD (model prog w) A (getAttrBy (.ref a) (.str "keys" u) false) Q E s:=by
 obtain⟨c,dct,dat,sl⟩:=o
 simp only at hc hdat hd
 subst hc hdat hd
 obtain⟨hp,g,d,tk,os⟩:=s
 have hT:∀ tk',(⟨hp,g,d,tk',os⟩:QB).TypeIs (.ref a) "list":=fun _=>⟨_,hx,rfl⟩
 have f1:=sub_AttributeError
 have f3:=F.slot_list_getattribute.lookup
 have f4:=F.slot_list_getattribute.bind (.ref a)
 have f5:=am_list_getattr_none
 unfold getAttrBy
 repeat (any_goals (first | assumption | exact hT _ | ((with_reducible show QD _ _ (call (Value.builtin "list.__getattribute__") _ _) _ _ _); refine call_meets F.slot_list_getattribute (hT _) am_entry_list_getattribute (F.args_list_getattribute_2 _ _) (meets_getattribute_miss_list a xs k sl "keys" _ AC (by decide +kernel) (by decide +kernel)) ⟨hx,hA,fun h' tk' e hx'=>?_⟩) | wp_step))
 obtain⟨t',u',he⟩:=hx'.there
 show QD _ _ (getattributeRaised _ _ _ _ _ _ _) _ _ _
 unfold getattributeRaised
 repeat (any_goals (first | assumption | wp_step))
 exact h _ _ _ hx'.of
theorem D5 {prog:Qr} {w:Qq} {A:QA} {E:Qp->QB->Prop} {s:QB} {a:Qs} {o:Obj} {xs:Array Qp} {k:Nat} {Q:Option Qp->QB->Prop}
  (hx:s.heap.get? a=some o) (hc:o.cls=.type "list") (hdat:o.data=.seq xs k) (hd:o.dict=none) (hA:A.handled=none)
  (h:∀ h' tk,(∀ b o,s.heap.get? b=some o->h'.get? b=some o)->Q none { s with heap:=h',toks:=tk }) :
  QD (model prog w) A (getAttr? (.ref a) "keys") Q E s:=by
 obtain⟨hp,g,d,tk,os⟩:=s
 have f1:=sub_AttributeError
 unfold getAttr? getAttrBy?
 refine QM (wpAny_mkText ?_)
 refine QM (RF (Du (s:=⟨hp,g,d,tk+1,os⟩) hx hc hdat hd hA fun h' tk' e ne=>?_))
 obtain⟨ob,vs,e1,e2,_⟩:=ne.there
 refine QM (RG (s:=⟨h',g,d,tk',os⟩) ⟨ob,e1,e2⟩ f1 ?_)
 exact QL (h h' tk' ne.keeps)

abbrev Keeps (h0 h:Qu):Prop:=∀ b o,h0.get? b=some o->h.get? b=some o
section
variable {prog:Qr} {w:Qq} {A:QA} {E:Qp->QB->Prop} {K:Type} [DecidableEq K] {knd:HeapKind prog w K} {d:Qs} {h0:Qu}
def DI (knd:HeapKind prog w K) (h0:Qu) (d:Qs) (h:Qu) (xs:List (K×Qs×Qp)):Prop :=
 (∃ o es ep,h.get? d=some o/\o.ExactDict/\o.data=.dict es ep/\es.toList=xs.map (entryOfKey knd)/\(xs.map (·.1)).Nodup)/\∀ x∈xs,∀ h,Keeps h0 h->knd.is h x.1 x.2.1
theorem DI.dict {h:Qu} {xs:List (K×Qs×Qp)} (x:DI knd h0 d h xs) (k:Keeps h0 h):h.DictOfH knd d xs:=by
 obtain⟨⟨o,es,ep,h1,h2,h3,h4,h5⟩,h6⟩:=x
 exact⟨o,es,ep,h1,h2,h3,h4,fun y hy=>h6 y hy h k,h5⟩
theorem DI.stay {h h':Qu} {xs:List (K×Qs×Qp)} (x:DI knd h0 d h xs) (k:∀ o,h.get? d=some o->h'.get? d=some o):DI knd h0 d h' xs:=by
 obtain⟨⟨o,es,ep,h1,r⟩,h6⟩:=x
 exact⟨⟨o,es,ep,k o h1,r⟩,h6⟩
theorem mem_storedH {xs:List (K×Qs×Qp)} {k:K} {a:Qs} {v:Qp} {x:K×Qs×Qp} (h:x∈storedH xs k a v):(∃ y∈xs,y.1=x.1/\y.2.1=x.2.1)\/(x.1=k/\x.2.1=a):=by
 unfold storedH at h
 split at h
 ·obtain⟨y,hy,rfl⟩:=List.mem_map.mp h
  refine .inl ⟨y,hy,?_⟩
  unfold putAt
  split <;> exact⟨rfl,rfl⟩
 ·rcases List.mem_append.mp h with z | z
  ·exact .inl ⟨x,z,rfl,rfl⟩
  ·rw [Oq] at z
   subst z; exact .inr ⟨rfl,rfl⟩
theorem DI.put {h h':Qu} {xs:List (K×Qs×Qp)} {k:K} {a:Qs} {v:Qp} (x:DI knd h0 d h xs) (hk:∀ h,Keeps h0 h->knd.is h k a) (dd:h'.DictOfH knd d (storedH xs k a v)):DI knd h0 d h' (storedH xs k a v):=by
 obtain⟨o,es,ep,h1,h2,h3,h4,_,h5⟩:=dd
 refine⟨⟨o,es,ep,h1,h2,h3,h4,h5⟩,fun y hy g kg=>?_⟩
 rcases mem_storedH hy with ⟨z,hz,e1,e2⟩ | ⟨e1,e2⟩
 ·rw [<- e1,<- e2]; exact x.2 z hz g kg
 ·rw [e1,e2]; exact hk g kg
theorem xF (xs:List (K×Qs×Qp)) (k:K) (a:Qs) (v:Qp):(storedH xs k a v).length<=xs.length+1:=by
 unfold storedH
 split
 ·rw [MI]; omega
 ·simp
theorem wD:entryFor table "dict.update.loop"=some Builtin.«dict.update.loop»:=entryFor_of_tree (by kernel_rfl)
theorem oE:plainId "dict.update.loop"=true:=by decide +kernel
theorem zQ {R:Result->QB->Prop} {I:Qs} {fp wr:List Qs} {P:Nat->Qp->Prop} {St:Nat->Qu->Prop} {L:List (K×Qs×Qp)} (W:Walks prog w A.in1 I fp wr L.length P St) (hwr:∀ b∈wr,h0.get? b=none) (hdn:h0.get? d=none) (hdf:d∉fp)
  (hn:L.length<=Qv) (hu:knd.room A.in1) (hP:∀ i v,P i v->∃ x t,L[i]?=some x/\v=.ref t/\∀ h,Keeps h0 h->h.IsTuple t #[.ref x.2.1,x.2.2]) (hK:∀ x∈L,∀ h,Keeps h0 h->knd.is h x.1 x.2.1) (res:Qp) :
  ∀ (m i:Nat) (s:QB) (xs:List (K×Qs×Qp)) (j:Int) (u:Tok),i+m=L.length->St i s.heap->Keeps h0 s.heap->DI knd h0 d s.heap xs->xs.length<=i ->
  (∀ h' tk,Keeps h0 h'->DI knd h0 d h' ((L.drop i).foldl (fun xs x=>storedH xs x.1 x.2.1 x.2.2) xs)->R (.ok (.ret res)) { s with heap:=h',toks:=tk }) ->
  QV (model prog w) A (.builtin "dict.update.loop" ⟨[.ref d,.ref I,.int j u,res],[]⟩) R s:=by
 have hdw:d∉wr:=fun h=>hdf (W.sub _ h)
 intro m
 induction m with
 | zero =>
  intro i s xs j u hi st kp di hl hR
  have hin:i=L.length:=by omega
  subst hin
  refine codeAny_builtin wD ?_
  rw [Around.under_plainId oE _]
  show QD _ A.in1 (pyNext (.ref I) >>= _) _ _ s
  refine QM (W.done s _ _ st fun h' tk hk=>?_)
  refine QM (QL (QL ?_))
  have:=hR h' tk (fun b o q=>hk b o (fun z=>by have:=hwr b z; rw [q] at this; cases this) (kp b o q)) (by
   rw [NK,List.foldl_nil]
   exact di.stay fun o q=>hk d o hdw q)
  exact this
 | succ m ih =>
  intro i s xs j u hi st kp di hl hR
  refine codeAny_builtin wD ?_
  rw [Around.under_plainId oE _]
  show QD _ A.in1 (pyNext (.ref I) >>= _) _ _ s
  refine QM (W.item i s _ _ ‹0› st fun v h' tk hv st' hk=>?_)
  obtain⟨x,t,hx,rfl,ht⟩:=hP i v hv
  have kp':Keeps h0 h':=fun b o q=>hk b o (fun z=>by have:=hwr b z; rw [q] at this; cases this) (kp b o q)
  obtain⟨o,ho,hc,n,hd⟩:=ht h' kp'
  have xm:x∈L:=MU hx
  refine QM (Rb (QM (wpAny_tryCatch ?_)))
  unfold Builtin.Dict.pairItems
  refine QM (Rg (T := "tuple") ⟨o,ho,hc⟩ ?_)
  rw [if_pos (by decide)]
  refine QM (Rv ho hd (QL ?_))
  show QD _ _ (holding [.ref x.2.1,x.2.2] (dictSet d (.ref x.2.1) x.2.2)) _ _ _
  have di':DI knd h0 d h' xs:=di.stay fun o q=>hk d o hdw q
  refine Rb (wpAny_dictSet_heap (s:={ s with heap:=h',toks:=tk }) (hsz:=by omega) hu (hK x xm h' kp') (di'.dict kp') fun h2 dd sb=>?_)
  have kp2:Keeps h0 h2:=fun b o q=>(sb.2 b (fun z=>by rw [z,hdn] at q; cases q)).trans (kp' b o q)
  refine QL ⟨plainId_quiet oE _,?_⟩
  refine ih (i+1) _ (storedH xs x.1 x.2.1 x.2.2) (j+1) 0 ‹0› (W.frame _ _ _ st' fun b hb o q=>(sb.2 b (fun z=>hdf (by rw [<- z]; exact hb))).trans q) kp2 (di'.put (hK x xm) dd) (by have:=xF xs x.1 x.2.1 x.2.2; omega) fun h3 tk3 kp3 di3=>?_
  refine hR h3 tk3 kp3 ?_
  have e:L.drop i=x::L.drop (i+1):=by
   have hil:i < L.length:=by omega
   rw [NE hil]
   rw [Nr hil] at hx
   rw [Option.some.inj hx]
  rw [e,N5]
  exact di3
theorem lE {s:QB} {Q:Qp->QB->Prop} {l:Qs} {o:Obj} {items:Array Qp} {n:Nat} {L:List (K×Qs×Qp)} (ho:s.heap.get? l=some o) (hc:o.cls=.type "list") (hd:o.data=.seq items n) (hdd:o.dict=none) (hh:A.handled=none) (hu:knd.room A.in1.in1)
  (hl:items.size=L.length) (hn:L.length<=Qv) (hP:∀ (i:Nat) v,items[i]?=some v->∃ x t,L[i]?=some x/\v=.ref t/\s.heap.IsTuple t #[.ref x.2.1,x.2.2]) (hK:∀ x∈L,∀ h,Keeps s.heap h->knd.is h x.1 x.2.1)
  (hQ:∀ h' tk,Keeps s.heap h'->DI knd s.heap s.heap.objs.size h' (L.foldl (fun xs x=>storedH xs x.1 x.2.1 x.2.2) [])->Q (.ref s.heap.objs.size) { s with heap:=h',toks:=tk }) :
  QD (model prog w) A (call (.type "dict") [.ref l]) Q E s:=by
 refine callType_codes (Q₁:=fun obj s₁=>obj=.ref s.heap.objs.size/\s₁={ s with heap:=s.heap.push { cls:=.type "dict",data:=.dict #[] } }) F.kt_called_dict (F.kt_typeCall_dict_1 _) F.entry_dict_init (kt_code_dict_new _ ⟨rfl,rfl⟩) ?_
 rintro obj s₁ ⟨rfl,rfl⟩
 have hnew:(s.heap.push { cls:=.type "dict",data:=.dict #[] }).DictOfH knd s.heap.objs.size []:=Heap.DictOfH.new s.heap
 have hlt:=PQ ho
 have hl1:(s.heap.push { cls:=.type "dict",data:=.dict #[] }).get? l=some o:=PX _ ho
 refine⟨hnew.typeIs,F.args_dict_init_2 _ _,?_⟩
 unfold Builtin.«dict.__init__»
 refine QM ?_
 unfold Builtin.Dict.selfAndRest
 refine QM (RT hnew.typeIs ?_)
 show QD _ _ (pure (s.heap.objs.size,[Value.ref l])) _ _ _
 refine QL ?_
 show QD _ _ (Builtin.Dict.updateFrom "dict.__init__" s.heap.objs.size (.ref l) [] .none) _ _ _
 unfold Builtin.Dict.updateFrom
 refine QM (Rg (T := "list") ⟨o,hl1,hc⟩ ?_)
 rw [if_pos (by decide)]
 refine QM (D5 hl1 hc hd hdd hh fun h1 tk1 k1=>?_)
 rw [if_pos (show (none:Option Qp).isNone=true from rfl)]
 refine QM (Rq ?_)
 have hd1:h1.get? s.heap.objs.size=some { cls:=.type "dict",data:=.dict #[] }:=k1 _ _ (PY _ rfl)
 have hl2:h1.IsList l items:=⟨o,k1 _ _ hl1,hc,n,hd⟩
 have dlt:=PQ hd1
 refine QM (QN (s:={ s with heap:=h1,toks:=tk1 }) hl2 ?_)
 refine QL ⟨plainId_quiet oE _,?_⟩
 have W:=Walks.list (prog:=prog) (w:=w) (A:=A.in1.in1) hh h1.objs.size l (Mq (M8 hlt dlt)) items
 rw [hl] at W
 refine zQ (A:=A.in1) (knd:=knd) (h0:=s.heap) (d:=s.heap.objs.size) W (fun b hb=>?_) (PR (MA _)) (fun z=>?_) hn hu (fun i v hv=>?_) hK .none L.length 0 _ [] 0 0 ‹0› ?_ (fun b o q=>?_) ⟨⟨_,#[],0,PX _ hd1,⟨rfl,rfl,rfl⟩,rfl,rfl,M9⟩,fun x hx=>by simp at hx⟩ (MA _) fun h' tk kp di=>?_
 ·rw [Oq] at hb
  subst hb
  exact PR (Ms dlt)
 ·simp only [NM,NN,or_false] at z
  rcases z with z | z
  ·exact absurd z (Mq dlt)
  ·exact absurd z.symm (Mq hlt)
 ·obtain⟨x,t,e1,e2,e3⟩:=hP i v hv
  obtain⟨ob,q1,q2⟩:=e3
  exact⟨x,t,e1,e2,fun h kh=>⟨ob,kh _ _ q1,q2⟩⟩
 ·exact⟨⟨_,PY _ rfl,rfl,rfl⟩,let ⟨ob,q1,q2⟩:=hl2; ⟨ob,PX _ q1,q2⟩⟩
 ·exact PX _ (k1 _ _ (PX _ q))
 ·exact⟨rfl,hQ h' tk kp di⟩
end
def wQ:D->Option (List Key×D)
 | .tup [k,v]=>(ig k).map fun q=>(q,v)
 | _=>none
def gY:List D->Option (List (List Key×D))
 | []=>some []
 | d::r=>(wQ d).bind fun p=>(gY r).map (p::·)
def uN (ps:List (List Key×D)):List (List Key×D):=ps.foldl (fun al p=>gu al p.1 p.2) []
def vx:List D->Option D
 | [.lst xs]=>(gY xs).bind fun ps=>if small ps.length then some (cJ (uN ps)) else none
 | _=>none
theorem Bx {d:D} {p:List Key×D} (h:wQ d=some p):d=.tup [.tup (p.1.map bu),p.2]:=by
 unfold wQ at h
 split at h
 ·rename_i k v
  cases e:ig k with
  | none=>rw [e] at h; cases h
  | some q=>rw [e] at h; cases h; rw [mj e]
 ·cases h
theorem oZ:∀ {xs:List D} {ps:List (List Key×D)},gY xs=some ps->xs=ps.map fun p=>.tup [.tup (p.1.map bu),p.2]
 | [],_,h=>by cases h; rfl
 | d::r,ps,h=>by
  unfold gY at h
  cases e1:wQ d with
  | none=>rw [e1] at h; cases h
  | some p =>
   rw [e1] at h
   cases e2:gY r with
   | none=>rw [e2] at h; cases h
   | some ps'=>rw [e2] at h; cases h; rw [Bx e1,oZ e2]; rfl
section
variable {X:Cx}
theorem oN {pins:List (Qs×Obj)} {σ:St} {H:Hp} {s:QB} {O:List Qs} (I:L2.Inv X pins σ H s):∀ {ps:List (List Key×D)} {ws:List V} {its:List Qp},aW X.K (hid H O) (ps.map fun p=>.tup [.tup (p.1.map bu),p.2]) ws->Vals ws its ->
  ∃ (L:List (List Key×Qs×Qp)) (ks:List (List Key×V)),its.length=L.length/\(∀ (i:Nat) (v:Qp),its[i]?=some v->∃ (x:List Key×Qs×Qp) (t:Qs),L[i]?=some x/\v=.ref t/\s.heap.IsTuple t #[.ref x.2.1,x.2.2])/\KT H ks L/\ks.map (·.1)=ps.map (·.1)/\aW X.K (hid H O) (ps.map (·.2)) (ks.map (·.2))
 | [],ws,its,h,r=>by
  rw [M3,cT] at h
  subst h
  cases r
  exact⟨[],[],rfl,(fun i v e=>by simp at e),.nil,rfl,cT.mpr rfl⟩
 | p::ps,ws,its,h,r=>by
  rw [MH,bC] at h
  obtain⟨w,ws',rfl,h1,h2⟩:=h
  cases r with
  | @cons _ u _ us ru rr =>
   obtain⟨L,ks,l1,l2,l3,l4,l5⟩:=oN I h2 rr
   obtain⟨t,vs,rfl,t1,t2⟩:=cC.mp h1
   obtain⟨v1,v2,rfl,d1,d2⟩:=t2.two
   obtain⟨a,ks1,rfl,a1,a2⟩:=cC.mp d1
   rw [iB a2] at a1
   obtain⟨its',r',⟨o,q1,q2⟩,_⟩:=I.tuple (bR (K:=X.K) (aC H O) t1)
   obtain⟨x1,x2,rfl,rx1,rx2⟩:=vals2 r'
   cases rx1
   obtain rfl:u=Value.ref t:=ru
   refine⟨(p.1,a,x2)::L,(p.1,v2)::ks,by rw [MG,MG,l1],fun i v e=>?_,.cons ⟨rfl,(aC H O) _ _ a1,rx2⟩ l3,by rw [MH,MH,l4],bC.mpr ⟨v2,_,rfl,d2,l5⟩⟩
   cases i with
   | zero =>
    have e:Value.ref t=v:=by simpa using e
    subst e
    exact⟨_,t,rfl,rfl,o,q1,q2⟩
   | succ i=>exact l2 i v (by simpa using e)
theorem rP {K:Pa} {H:Hp} {H0:Hp}:∀ {ps:List (List Key×D)} {ks:List (List Key×V)} {L:List (List Key×Qs×Qp)} {al:List (List Key×D)} {kvs:List (List Key×V)} {xs:List (List Key×Qs×Qp)},KT H ks L->ks.map (·.1)=ps.map (·.1)->aW K H0 (ps.map (·.2)) (ks.map (·.2)) ->
  KT H kvs xs->kvs.map (·.1)=al.map (·.1)->aW K H0 (al.map (·.2)) (kvs.map (·.2)) ->
  KT H (ks.foldl (fun m p=>putK m p.1 p.2) kvs) (L.foldl (fun xs x=>storedH xs x.1 x.2.1 x.2.2) xs)/\(ks.foldl (fun m p=>putK m p.1 p.2) kvs).map (·.1)=(ps.foldl (fun al p=>gu al p.1 p.2) al).map (·.1) /\
   aW K H0 ((ps.foldl (fun al p=>gu al p.1 p.2) al).map (·.2)) ((ks.foldl (fun m p=>putK m p.1 p.2) kvs).map (·.2))/\(ks.foldl (fun m p=>putK m p.1 p.2) kvs).length<=kvs.length+ks.length
 | [],[],_,al,kvs,xs,.nil,_,_,h1,h2,h3=>⟨h1,h2,h3,by simp⟩
 | p::ps,q::ks,_,al,kvs,xs,.cons (b:=x) hq hr,e,d,h1,h2,h3=>by
  rw [MH,MH] at e
  injection e with e1 e2
  rw [MH,MH,bC] at d
  obtain⟨v,vs,d0,d1,d2⟩:=d
  injection d0 with d0 d0'
  subst d0 d0'
  obtain⟨y1,y2,y3⟩:=hq
  have z1:=KT.put h1 q.1 y2 y3
  rw [y1] at z1
  have z2:=v6 h2 q.1 q.2 p.2
  have z3:=zD (k:=q.1) d1 h2 h3
  have:=rP (kvs:=putK kvs q.1 q.2) (al:=gu al q.1 p.2) (xs:=storedH xs x.1 x.2.1 x.2.2) hr e2 d2 (by rw [y1]; exact z1) z2 z3
  rw [N5,N5,N5,<- e1]
  refine⟨this.1,this.2.1,this.2.2.1,Mr this.2.2.2 ?_⟩
  have:=jb kvs q.1 q.2
  rw [MG]; omega
 | [],_::_,_,_,_,_,_,e,_,_,_,_=>by cases e
 | _::_,[],_,_,_,_,_,e,_,_,_,_=>by cases e
theorem ya (hc:X.calm=true) (hu:X.A.units+64 < QZ):dR X (.type "dict") (vW X.K vx):=by
 intro pins s σ H xs us Q I r ⟨O,ds,d,hO,hd,hg,q⟩
 unfold vx at hg
 split at hg
 ·rename_i ys
  cases hp:gY ys with
  | none=>rw [hp] at hg; cases hg
  | some ps =>
   rw [hp] at hg
   obtain⟨sm,rfl⟩:=bK (show (if small ps.length then some (cJ (uN ps)) else none)=some d from hg)
   obtain⟨v,rfl,h1⟩:=hd.one
   obtain⟨p,ws,rfl,g1,g2⟩:=cD.mp h1
   obtain⟨u,rfl,ru⟩:=vals1 r
   cases ru
   obtain⟨its,rv,⟨o,n,ho,hcl,hd',hdd⟩,hz⟩:=I.list ((aC H O).seq g1)
   rw [oZ hp] at g2
   obtain⟨L,ks,l1,l2,l3,l4,l5⟩:=oN I g2 rv
   have kl:ks.length=ps.length:=by have:=congrArg List.length l4; simpa using this
   have ll:ks.length=L.length:=Paired.length l3
   have key:∀ {ks:List (List Key×V)} {L:List (List Key×Qs×Qp)},KT H ks L->∀ x∈L,∀ h,Keeps s.heap h->(tupleKind (bV X.prog X.w)).is h x.1 x.2.1:=fun {ks L} kt=>by
    induction kt with
    | nil=>intro x hx; cases hx
    | cons hq _ ih =>
     intro x hx h kh
     rcases List.mem_cons.mp hx with z | z
     ·subst z
      obtain⟨e1,e2,_⟩:=hq
      rw [e1] at e2
      obtain⟨o,xs,n,k1,k2⟩:=nH I.hok e2
      exact⟨o,xs,n,kh _ _ k1,k2⟩
     ·exact ih x z h kh
   obtain⟨f1,f2,f3,f4⟩:=rP (K:=X.K) (H:=H) (H0:=hid H O) (al:=[]) (kvs:=[]) (xs:=[]) l3 l4 l5 .nil rfl (cT.mpr rfl)
   have hsz:ps.length<=100000:=of_decide_eq_true sm
   have sl:Qv=16777216:=QU
   refine lE (knd:=tupleKind (bV X.prog X.w)) (L:=L) ho hcl hdd hd' (I.ok.hd hc) (Rn (by rw [in1_units]; omega)) (by simpa using l1) ‹0› (fun i v e=>l2 i v (by simpa using e)) (key l3) fun h' tk kp di=>?_
   have hf:=I.hok.fresh (MA s.heap.objs.size)
   obtain⟨⟨od,es,ep,k1,k2,k3,k4,k5⟩,_⟩:=di
   have kt':KT (upd H s.heap.objs.size (.dT (ks.foldl (fun m p=>putK m p.1 p.2) []))) (ks.foldl (fun m p=>putK m p.1 p.2) []) (L.foldl (fun xs x=>storedH xs x.1 x.2.1 x.2.2) []):=KT.keeps f1 fun b ys eb=>by rw [aD (fun z=>by rw [z,hf] at eb; cases eb)]; exact eb
   refine⟨.ref s.heap.objs.size,_,I.laid (t':=tk) kp (MA _) (show cx X.prog X.w _ h' _ (.dT (ks.foldl (fun m p=>putK m p.1 p.2) [])) from ⟨by simp only [M6] at f4; omega,beq_eq_false_iff_ne.mpr (Ne.symm (Mq I.big)),_,kt',od,es,ep,k1,k2,k3,k4,k5⟩),rfl,?_⟩
   refine q _ _ (bD hf _) ?_
   have pO:=hO.not hf
   refine JD.mpr ⟨s.heap.objs.size,_,rfl,f3.mono (qI hf),.inr (.inl ⟨_,by rw [jj pO]; exact aM,se f2,rfl⟩)⟩
 ·cases hg
end
def pG (al:List (List Key×D)) (q:List Key):Option D:=(al.find? fun p=>decide (p.1=q)).map (·.2)
def Ia (ks ds:List D) (k x:D):Option D:=(jL ks ds).bind fun al=>(ig k).bind fun q=>some ((pG al q).getD x)
def Kk (fo fk fx:FX):FX:=fun ρ=>(fo ρ).bind fun dd=>match dd with
 | .dct ks ds=>(fk ρ).bind fun k=>(fx ρ).bind fun x=>rO (Ia ks ds k x)
 | _=>un
theorem xu {K:Pa} {H:Hp} {v:V} {al:List (List Key×D)} (h:cK K H (cJ al) v) :
  ∃ a,v=.ref a/\((∃ kvs:List (List Key×V),H a=some (.dT kvs)/\kvs.map (·.1)=al.map (·.1)/\aW K H (al.map (·.2)) (kvs.map (·.2)))\/(H a=some (.dK [])/\al=[])):=by
 obtain⟨a,vs,e0,h2,h3⟩:=JD.mp h
 refine⟨a,e0,?_⟩
 rcases h3 with ⟨kvs,e,e1,e2⟩ | ⟨kvs,e,e1,e2⟩ | ⟨kvs,o,e,e1,e2⟩
 rotate_left 2
 ·cases al with
  | nil=>cases e1
  | cons _ _=>injection e1 with e1 _; cases e1
 ·cases kvs with
  | nil=>exact .inr ⟨e,by simpa using e1⟩
  | cons p r =>
   cases al with
   | nil=>cases e1
   | cons q r' =>
    have e1:D.tup (q.1.map bu)::encK r'=bu p.1::r.map (fun p=>bu p.1):=e1
    injection e1 with e1 _
    rcases p with ⟨k,v⟩
    cases k <;> cases e1
 ·refine .inl ⟨kvs,e,?_,by rw [<- e2]; exact h2⟩
  exact(kY (ks:=kvs.map (·.1)) (by rw [Oh]; exact e1)).symm
theorem wf {K:Pa} {H:Hp} (q:List Key):∀ {kvs:List (List Key×V)} {al:List (List Key×D)},kvs.map (·.1)=al.map (·.1)->aW K H (al.map (·.2)) (kvs.map (·.2))->(iE kvs q=none/\pG al q=none)\/∃ v d,iE kvs q=some v/\pG al q=some d/\cK K H d v
 | [],[],_,_=>.inl ⟨rfl,rfl⟩
 | p::r,a::al,e,h=>by
  rw [MH,MH] at e
  injection e with e1 e2
  rw [MH,MH,bC] at h
  obtain⟨v,ws,h0,h1,h2⟩:=h
  injection h0 with h0 h0'
  subst h0 h0'
  by_cases z:p.1=q
  ·refine .inr ⟨p.2,a.2,jx z,?_,h1⟩
   unfold pG
   rw [Ow (by rw [<- e1]; simpa using z)]; rfl
  ·have ih:=wf q e2 h2
   have g:pG (a::al) q=pG al q:=by
    unfold pG
    rw [Ox (by rw [<- e1]; simpa using z)]
   rw [iF z,g]
   exact ih
 | [],_::_,e,_=>by cases e
 | _::_,[],e,_=>by cases e
def qu (x y:D):Option D:=match y with
 | .dct ks ds=>(qb ks ds x).bind yn
 | _=>none
section
variable {X:Cx}
theorem zM (hu:X.A.units+64 < QZ):lX X (QS .NotIn) (rD X.K qu):=by
 intro pins s σ H x y u v Q I rx ry ⟨O,a,b,d,hO,ha,hb,hg,q⟩
 cases b with
 | dct ks ds =>
  have hg:(qb ks ds a).bind yn=some d:=hg
  cases e0:qb ks ds a with
  | none=>rw [e0] at hg; cases hg
  | some d0 =>
  rw [e0] at hg
  obtain⟨al,qk,f1,f2,f3,f4⟩:=yz e0
  subst f1 f2 f3 f4
  cases hg
  obtain⟨p,ey,hh⟩:=xu hb
  obtain⟨c,ws,ex,g1,g2⟩:=cC.mp ha
  rw [iB g2] at g1
  have g1':=(aC H O) _ _ g1
  subst ex ey
  cases ry
  rcases hh with ⟨kvs,k1,k2,k3⟩ | ⟨k1,rfl⟩
  ·have hv:=BA k2 qk
   rw [Oi] at hv
   refine yZ ‹0› I (Dd.t ((aC H O) _ _ k1) g1') rx fun s3 I3=>⟨.bl (!(iE kvs qk).isSome),H,I3,rfl,q _ H (bo.refl H) (lF.mpr ?_)⟩
   rw [hv]; rfl
  ·have k1':=(aC H O) _ _ k1
   have ne:c≠p:=fun z=>by rw [z,k1'] at g1'; cases g1'
   refine yZ (o:=iE [] qk) ‹0› (Bs I k1') (Dd.t aM (by rw [aD ne]; exact g1')) rx fun s3 I4=>⟨.bl true,H,?_,rfl,q _ H (bo.refl H) (lF.mpr rfl)⟩
   have I5:=Ib I4 aM
   rw [Df k1'] at I5
   exact I5
 | _=>cases hg
end
end TG
namespace TG
open PySem PySem.Spec L2
variable [aR]
end TG
namespace TG
open PySem PySem.Spec L2
variable [aR]
end TG
namespace TG
open PySem PySem.Spec L2
variable [aR]
end TG
namespace TG
open PySem PySem.Spec PySem.Calls L2
section
variable {prog:Qr} {w:Qq} {K:Type} [DecidableEq K] {knd:HeapKind prog w K} {A:QA} {E:Qp->QB->Prop} {s:QB} {d a:Qs} {k:K} {xs:List (K×Qs×Qp)}
theorem wM {v:Qp} {Q:Qp->QB->Prop} (hu:knd.room A) (hkey:knd.is s.heap k a) (hm:s.heap.DictOfH knd d xs) (hsz:xs.length<=Qv)
  (h1:∀ p,atKey xs k=some p->Q p.2 { s with toks:=s.toks+knd.draws k })
  (h2:atKey xs k=none->∀ h',h'.DictOfH knd d (storedH xs k a v)->PV d s.heap h'->Q v { s with heap:=h',toks:=s.toks+knd.draws k }) :
  QD (model prog w) A (dictSetDefault d (.ref a) v) Q E s:=by
 obtain⟨o,es,ep,ho,hc,hd,he,his,hn⟩:=hm
 unfold dictSetDefault
 try with_reducible refine Rb ?_
 refine QM (knd.pyHash hu hkey (QM (wpAny_dictFind_heap (s:={ s with toks:=s.toks+knd.draws k }) hu hkey ho hd he his hn (fun hno=>?_) fun j p hj=>?_)))
 ·have hnone:=atKey_none_of_get hno
  refine QM (Rq (QM (wpAny_updateDictKeys (hz:=by have e:=size_of_entries he; omega) (s:={ s with toks:=s.toks+knd.draws k }) ho hd (QL (h2 hnone _ ⟨_,_,ep+1,P0 _ ho (Obj.isFreed_of_dict (Obj.data_mapDictKeys hd _)),hc.mapDictKeys _,Obj.data_mapDictKeys hd _,?_,?_,?_⟩ (Heap.SameBut.update ..))))))
  ·rw [storedH_new hnone]; simp [he,entryOfKey]
  ·rw [storedH_new hnone]
   intro x hx
   rcases List.mem_append.mp hx with hx | hx
   ·exact knd.keeps (his x hx) ho hd (Heap.SameBut.update ..)
   ·rw [Oq] at hx; subst hx; exact knd.keeps hkey ho hd (Heap.SameBut.update ..)
  ·rw [storedH_new hnone,Nz,NZ]
   refine⟨hn,by simp,fun x hx y hy=>?_⟩
   simp only [MH,M3,Oq] at hy
   subst hy; exact fun e=>not_mem_keys_of_get hno (e ▸ hx)
 ·refine QM (RU (s:={ s with toks:=s.toks+knd.draws k }) ho hd ?_)
  rw [entry_at he j,hj]
  exact QM (Rq (QL (h1 p (atKey_of_get hn hj))))
theorem wx {v:Qp} {Q:Qp->QB->Prop} (hu:knd.room A.in1) (hkey:knd.is s.heap k a) (hm:s.heap.DictOfH knd d xs) (hsm:(d==sysModules)=false) (hsz:xs.length<=Qv)
  (h1:∀ p,atKey xs k=some p->Q p.2 { s with toks:=s.toks+knd.draws k })
  (h2:atKey xs k=none->∀ h',h'.DictOfH knd d (storedH xs k a v)->PV d s.heap h'->Q v { s with heap:=h',toks:=s.toks+knd.draws k }) :
  QD (model prog w) A (call (.builtin "dict.setdefault") [.ref d,.ref a,v]) Q E s:=by
 refine Rf PySem.F.slot_dict_setdefault hm.typeIs PySem.F.entry_dict_setdefault ?_ (PySem.F.args_dict_setdefault_3 _ _ _)
 unfold Builtin.«dict.setdefault»
 refine QM ?_
 unfold Builtin.Dict.keyAndDefault
 refine QM (RT hm.typeIs ?_)
 show QD _ _ (pure (d,Value.ref a,some v)) _ _ s
 refine QL ?_
 show QD _ _ (if (d==sysModules)=true then _ else (dictSetDefault d (.ref a) v >>= _)) _ _ s
 rw [if_neg (by rw [hsm]; exact MF)]
 exact QM (wM hu hkey hm hsz (fun p hp=>QL ⟨_,rfl,h1 p hp⟩) fun hn h' hm' hs'=>QL ⟨_,rfl,h2 hn h' hm' hs'⟩)
end
theorem Ay {o:Option V} {w:Qp} (h:rB o (some w)):∃ v,o=some v/\RelV v w:=by
 cases o with
 | none=>exact h.elim
 | some v=>exact⟨v,rfl,h⟩
theorem AB {o:Option V} (h:rB o none):o=none:=by
 cases o with
 | none=>rfl
 | some v=>exact h.elim
section
variable {X:Cx} {pins:List (Qs×Obj)} {σ:St} {H:Hp} {s:QB} {a b:Qs} {v:V} {r:Qp} {kvs:List (List Key×V)} {k:List Key} {A:QA} {E:Qp->QB->Prop}
theorem v9 {Q:Qp->QB->Prop} (hu:A.units+1 < QZ) (I:Inv X pins σ H s) (e:H a=some (.dT kvs)) (eb:H b=some (.tup (k.map kV))) (hl:kvs.length < Qv) (rv:RelV v r)
  (h1:∀ v' w' s',iE kvs k=some v'->Inv X pins σ H s'->RelV v' w'->Q w' s') (h2:iE kvs k=none->∀ s',Inv X pins σ (upd H a (.dT (putK kvs k v))) s'->Q r s') :
  QD (model X.prog X.w) A (call (.builtin "dict.setdefault") [.ref a,.ref b,r]) Q E s:=by
 obtain⟨z,hd,xs,rel,dd⟩:=E9 I.hok e
 have hz:xs.length<=Qv:=by rw [<- Paired.length rel]; exact z
 have hl2:(putK kvs k v).length<=Qv:=by have:=jb kvs k v; omega
 have q:=rel.val k
 refine wx (Rn hu) (nH I.hok eb) dd hd hz (fun p hp=>?_) fun hn h' dd' hs=>?_
 ·rw [hp] at q
  obtain⟨v',ev,rv'⟩:=Ay q
  exact h1 v' _ _ ev (I.tok _) rv'
 ·rw [hn] at q
  refine h2 (AB q) _ ?_
  obtain⟨q,es,ep,hq,g2,g3,g4,_,g5⟩:=dd'
  refine mr I (by rw [e]; exact True.intro) hs ⟨q,hq⟩ ⟨hl2,hd,_,(rel.put k eb rv).keeps fun c ys ec=>?_,q,es,ep,hq,g2,g3,g4,g5⟩
  rw [aD (B7 ec e (fun z=>nomatch z))]; exact ec
end
variable [aR]
def Ic:V->List V->Hp->VK->Prop:=fun x vs H Q=>∃ a b k kvs v,x=.ref a/\vs=[.ref b,v]/\H b=some (.tup (k.map kV))/\(H a=some (.dT kvs)\/(H a=some (.dK [])/\kvs=[]))/\kvs.length < Qv/\(∀ v',iE kvs k=some v'->Q v' H)/\(iE kvs k=none->Q v (upd H a (.dT (putK kvs k v))))
theorem DC {X:Cx} (hu:X.A.units+64 < QZ):IM X "dict.setdefault" Ic:=by
 intro pins s σ H x vs v us Q I rx rv h
 obtain⟨a,b,k,kvs,v',rfl,rfl,hb,ha,hl,h1,h2⟩:=h
 cases rx
 obtain⟨u1,u,rfl,r1,ru⟩:=rv.two
 obtain rfl:u1=Value.ref b:=r1
 rcases ha with ha | ⟨ha,rfl⟩
 ·exact v9 ‹0› I ha hb hl ru (fun v1 w1 s1 e I1 r=>⟨v1,H,I1,r,h1 v1 e⟩) fun e s1 I1=>⟨v',_,I1,ru,h2 e⟩
 ·have ne:b≠a:=fun z=>by rw [z,ha] at hb; cases hb
  refine v9 ‹0› (Bs I ha) aM (by rw [aD ne]; exact hb) hl ru (fun v1 w1 s1 e=>by cases e) fun e s1 I1=>⟨v',_,?_,ru,h2 e⟩
  rw [sL] at I1; exact I1
end TG
namespace TG
open PySem PySem.Spec L2
variable [aR]
theorem eR.setN {K:Pa} {Hb:Hp} {Ob O O':List Qs} {H H':Hp} {ρ:aq} {σ:St} (S:eR K Hb Ob O H ρ σ) {i:Nat} {d d':D} (hi:ρ[i]?=some (some (.nest d))) (sub:∀ b∈O,b∈O') (s:bo (hid H O) (hid H' O')) (hb:Base Hb Ob H' O') (all:d9 H' O')
  (keep:∀ (j:Nat) xs b,ρ[j]?=some (some (.own xs))->σ[j]?=some (some (.ref b))->H b=H' b) (new:zK K Hb Ob O' H' (ρ.set i (some (.nest d'))) σ i d'):eR K Hb Ob O' H' (ρ.set i (some (.nest d'))) σ:=by
 have own:∀ (j:Nat) xs,(ρ.set i (some (.nest d')))[j]?=some (some (.own xs))->ρ[j]?=some (some (.own xs)):=fun j xs e=>by
  rcases aY e with ⟨_,q⟩ | ⟨_,q⟩
  ·cases q
  ·exact q
 refine⟨⟨fun j d1 e=>?_,fun j xs e=>?_,fun j l xs ys a e1 e2 e3 e4=>S.env.one j l xs ys a (own j xs e1) (own l ys e2) e3 e4,all⟩,hb,fun j xs a e1 e2=>S.mine j xs a (own j xs e1) e2,fun j dn e=>?_⟩
 ·rcases aY e with ⟨_,q⟩ | ⟨_,q⟩
  ·cases q
  ·obtain⟨v,q1,q2⟩:=S.env.val j d1 q
   exact⟨v,q1,q2.mono s⟩
 ·obtain⟨a,q1,q2,q3⟩:=S.env.own j xs (own j xs e)
  exact⟨a,q1,sub a q2,q3.mono (keep j xs a (own j xs e) q1) s⟩
 ·rcases aY e with ⟨hj,q⟩ | ⟨ne,q⟩
  ·cases q; rw [hj]; exact new
  ·obtain⟨_,_,_,_,_,_,one⟩:=S.nst i d hi
   exact absurd (one j dn q) ne
def Jc:aq->Bool
 | []=>true
 | some (.nest _)::_=>false
 | _::ρ=>Jc ρ
theorem oB:∀ {ρ:aq},Jc ρ=true->∀ (j:Nat) d,ρ[j]?≠some (some (.nest d))
 | [],_,j,d,e=>by simp at e
 | none::ρ,h,j,d,e=>by
  cases j with
  | zero=>simp at e
  | succ j=>exact oB (ρ:=ρ) h j d (by simpa using e)
 | some (.val _)::ρ,h,j,d,e=>by
  cases j with
  | zero=>simp at e
  | succ j=>exact oB (ρ:=ρ) h j d (by simpa using e)
 | some (.own _)::ρ,h,j,d,e=>by
  cases j with
  | zero=>simp at e
  | succ j=>exact oB (ρ:=ρ) h j d (by simpa using e)
 | some (.nest _)::ρ,h,j,d,e=>by cases h
theorem eR.setNewN {K:Pa} {Hb:Hp} {Ob O:List Qs} {H H':Hp} {ρ:aq} {σ:St} (E:eR K Hb Ob O H ρ σ) {i:Nat} {p:Qs} (hi:i < σ.length) (sm:bo H H') (hp:H p=none) (m:∃ o,H' p=some o/\qZ o) (hn:Jc ρ=true) (new:dq K H' (p::O) p (.dct [] [])) :
  eR K Hb Ob (p::O) H' (ρ.set i (some (.nest (.dct [] [])))) (σ.set i (some (.ref p))):=by
 have T:=E.setNew hi sm hp m new
 have key:∀ (j:Nat) (x:S),(ρ.set i (some (.nest (.dct [] []))))[j]?=some (some x)->(j=i/\x=.nest (.dct [] []))\/(j≠i/\(ρ.set i (some (.own (.dct [] []))))[j]?=some (some x)):=fun j x e=>by
  rcases aY e with ⟨hj,q⟩ | ⟨ne,q⟩
  ·cases q; exact .inl ⟨hj,rfl⟩
  ·exact .inr ⟨ne,by rw [My (Ne.symm ne)]; exact q⟩
 refine⟨⟨fun j d e=>?_,fun j xs e=>?_,fun j l xs ys a e1 e2 e3 e4=>?_,T.env.all⟩,T.base,fun j xs a e1 e2=>?_,fun j dn e=>?_⟩
 ·rcases key j _ e with ⟨_,q⟩ | ⟨_,q⟩
  ·cases q
  ·exact T.env.val j d q
 ·rcases key j _ e with ⟨_,q⟩ | ⟨_,q⟩
  ·cases q
  ·exact T.env.own j xs q
 ·rcases key j _ e1 with ⟨_,q⟩ | ⟨_,q1⟩
  ·cases q
  ·rcases key l _ e2 with ⟨_,q⟩ | ⟨_,q2⟩
   ·cases q
   ·exact T.env.one j l xs ys a q1 q2 e3 e4
 ·rcases key j _ e1 with ⟨_,q⟩ | ⟨_,q⟩
  ·cases q
  ·exact T.mine j xs a q e2
 ·rcases key j _ e with ⟨hj,q⟩ | ⟨ne,q⟩
  ·cases q
   subst hj
   refine⟨p,[],Mx hi,⟨[],trivial,?_⟩,by simp,fun b hb=>?_,fun l d' w=>?_⟩
   ·obtain⟨o,vs,h1,h2,h3⟩:=new
    rcases h3 with ⟨kvs,e1,e2,_⟩ | ⟨kvs,e1,e2,_⟩
    ·have:kvs=[]:=by cases kvs with | nil=>rfl | cons _ _=>cases e2
     subst this e1
     exact .inr (.inr ⟨rfl,rfl,h1⟩)
    ·have:kvs=[]:=by cases kvs with | nil=>rfl | cons _ _=>cases e2
     subst this e1
     exact .inr (.inl ⟨[],rfl,h1,rfl⟩)
   ·rw [List.mem_singleton.mp hb]
    refine⟨Mu,E.base.same.free hp,fun z=>E.env.all.not hp (E.base.sub p z),fun l d' w z=>?_⟩
    rcases key l _ w with ⟨_,q⟩ | ⟨nl,q⟩
    ·cases q
    ·exact nl (T.env.one l j d' (.dct [] []) p q (Mx (by
      have:=(List.getElem?_eq_some_iff.mp e).1
      rw [List.length_set] at this; exact this)) z (Mx hi))
   ·rcases key l _ w with ⟨hl,_⟩ | ⟨nl,q⟩
    ·exact hl
    ·rw [My (Ne.symm nl)] at q
     exact absurd q (oB hn l d')
  ·rw [My (Ne.symm ne)] at q
   exact absurd q (oB hn j dn)
def ww (i:Nat):cB:=fun k ρ=>if Jc ρ then k.nx (ρ.set i (some (.nest (.dct [] [])))) else un
section
variable {X:Cx} {pos:Pos}
theorem Jq {i:Nat} {x:Str} {dp pos':Pos} (hN:X.N.Nodup) (hi:X.N[i]?=some x) (hx:Loc X.env.scope x) (hs:swapsWith (.Dict [] [] dp) (some (.Name x pos')) pos.line X.env=pure false:=by rfl) (hf:X.fn x=true\/X.env.scope.names.lookup x=some .local:=by first | exact .inl rfl | exact .inr rfl | assumption) :
  FS X (.Assign [.Name x pos'] (.Dict [] [] dp) pos) (ww i):=fun Hb Ob pins s σ H E I ⟨O,ρ,k,r,S,hF,hk⟩=>by
 unfold ww at hF
 cases hn:Jc ρ with
 | false=>rw [hn] at hF; exact absurd hF.symm hk.ne
 | true =>
  rw [hn] at hF
  exact xV hN hi hx CA hs hf pins s σ H E I ⟨O,ρ,S.env,fun p H1 s1 hp m o=>hk.nx _ _ _ H1 (S.setNewN (by rw [I.len]; exact(List.getElem?_eq_some_iff.mp hi).1) s1 hp m hn o) hF⟩
end
theorem lK.den {K:Pa} {H:Hp} {O O':List Qs} (s:bo (hid H O) (hid H O')):∀ {bs:List Qs} {xs:List D},lK K H O bs xs->(∀ b∈bs,b∉O')->aW K (hid H O') xs (bs.map .ref)
 | [],[],_,_=>cT.mpr rfl
 | b::bs,x::xs,h,n=>bC.mpr ⟨_,_,rfl,h.1.den s (n b Mu),lK.den s h.2 fun b' hb=>n b' (Mv _ hb)⟩
 | [],_::_,h,_=>h.elim
 | _::_,[],h,_=>h.elim
end TG
namespace TG
open PySem PySem.Spec L2
variable [aR]
def sU:List (List Key×D)->List Key->D->Option (List (List Key×D))
 | [],q,v=>some [(q,.lst [v])]
 | p::r,q,v=>if p.1=q then (match p.2 with
   | .lst ys=>if small (ys.length+1) then some ((p.1,.lst (ys++[v]))::r) else none
   | _=>none) else (sU r q v).map (p::·)
def wK (ks xs:List D) (k v:D):Option (List (List Key×D)):=(jL ks xs).bind fun al=>(ig k).bind fun q=>if small al.length then sU al q v else none
theorem zW {ks ds:List D} {k v:D} {al':List (List Key×D)} (h:wK ks ds k v=some al'):∃ al q,ks=encK al/\ds=al.map (·.2)/\k=.tup (q.map bu)/\small al.length=true/\sU al q v=some al':=by
 unfold wK at h
 cases e1:jL ks ds with
 | none=>rw [e1] at h; cases h
 | some al =>
  rw [e1] at h
  cases e2:ig k with
  | none=>rw [e2] at h; cases h
  | some q =>
   rw [e2] at h
   obtain⟨h3,h4⟩:=uS (show (if small al.length then sU al q v else none)=some al' from h)
   exact⟨al,q,(ic e1).1,(ic e1).2,mj e2,h3,h4⟩
theorem lK.imp {K:Pa} {H H':Hp} {O O':List Qs}:∀ {bs:List Qs} {xs:List D},lK K H O bs xs->(∀ c∈bs,∀ x,dq K H O c x->dq K H' O' c x)->lK K H' O' bs xs
 | [],[],_,_=>trivial
 | b::bs,x::xs,h,f=>⟨f b Mu x h.1,lK.imp h.2 fun c hc=>f c (Mv _ hc)⟩
 | [],_::_,h,_=>h.elim
 | _::_,[],h,_=>h.elim
theorem lK.snoc {K:Pa} {H:Hp} {O:List Qs} {b:Qs} {x:D} (hx:dq K H O b x):∀ {bs:List Qs} {xs:List D},lK K H O bs xs->lK K H O (bs++[b]) (xs++[x])
 | [],[],_=>⟨hx,trivial⟩
 | b'::bs,x'::xs,h=>⟨h.1,lK.snoc hx h.2⟩
 | [],_::_,h=>h.elim
 | _::_,[],h=>h.elim
theorem vj {K:Pa} {H:Hp} {O:List Qs} {q:List Key} {v:D}:∀ {al al':List (List Key×D)} {kvs:List (List Key×V)} {bs:List Qs},kvs.map (·.1)=al.map (·.1)->kvs.map (·.2)=bs.map .ref->lK K H O bs (al.map (·.2))->bs.Nodup->sU al q v=some al' ->
  (∃ b ys,iE kvs q=some (.ref b)/\b∈bs/\dq K H O b (.lst ys)/\small (ys.length+1)=true/\al'.map (·.1)=al.map (·.1)/\∀ H' O',(∀ c∈bs,c≠b->∀ x,dq K H O c x->dq K H' O' c x)->dq K H' O' b (.lst (ys++[v]))->lK K H' O' bs (al'.map (·.2))) \/
  (iE kvs q=none/\al'=al++[(q,.lst [v])])
 | [],al',kvs,bs,e1,e2,h,nd,g=>by
  cases kvs with
  | cons _ _=>cases e1
  | nil=>cases g; exact .inr ⟨rfl,rfl⟩
 | p::al,al',kvs,bs,e1,e2,h,nd,g=>by
  cases kvs with
  | nil=>cases e1
  | cons p' kvs =>
   cases bs with
   | nil=>cases e2
   | cons b bs =>
    rw [MH,MH] at e1 e2
    injection e1 with f1 f2
    injection e2 with f3 f4
    obtain⟨n1,n2⟩:=List.nodup_cons.mp nd
    have h:dq K H O b p.2/\lK K H O bs (al.map (·.2)):=h
    unfold sU at g
    by_cases eq:p.1=q
    ·rw [if_pos eq] at g
     left
     split at g
     ·rename_i ys hp
      obtain⟨g1,g2⟩:=bK g
      subst g2
      rw [hp] at h
      refine⟨b,ys,by rw [jx (f1.trans eq),f3],Mu,h.1,g1,rfl,fun H' O' oth new=>⟨new,h.2.imp fun c hc=>oth c (Mv _ hc) fun z=>n1 (by rw [<- z]; exact hc)⟩⟩
     ·cases g
    ·rw [if_neg eq] at g
     cases g2:sU al q v with
     | none=>rw [g2] at g; cases g
     | some al2 =>
      rw [g2] at g
      cases g
      rcases vj f2 f4 h.2 n2 g2 with ⟨c,ys,w1,w2,w3,w4,w5,w6⟩ | ⟨w1,w2⟩
      ·refine .inl ⟨c,ys,by rw [iF (by rw [f1]; exact eq)]; exact w1,Mv _ w2,w3,w4,by rw [MH,MH,w5],fun H' O' oth new=>⟨oth b Mu (fun z=>n1 (by rw [z]; exact w2)) _ h.1,w6 H' O' (fun c' hc=>oth c' (Mv _ hc)) new⟩⟩
      ·exact .inr ⟨by rw [iF (by rw [f1]; exact eq)]; exact w1,by rw [w2]; rfl⟩
theorem ua {kvs:List (List Key×V)} {q:List Key} {v:V} (h:iE kvs q=none):putK kvs q v=kvs++[(q,v)]:=by
 unfold putK
 rw [rS,h]; rfl
def AX (i:Nat) (fk fv:FX):cB:=fun k ρ=>match ρ[i]? with
 | some (some (.nest (.dct ks xs)))=>((AI (fk ρ)).bind fun q=>(AI (fv ρ)).bind fun v=>rO (wK ks xs q v)).bind fun al=>k.nx (ρ.set i (some (.nest (cJ al))))
 | _=>un
theorem zS {i:Nat} {fk fv:FX} {k:Ks} {ρ:aq} {r:R D} (h:AX i fk fv k ρ=r) (hr:r≠un):∃ al q v al',ρ[i]?=some (some (.nest (cJ al)))/\fk ρ=.ok (.tup (q.map bu))/\fv ρ=.ok v/\small al.length=true/\sU al q v=some al'/\k.nx (ρ.set i (some (.nest (cJ al'))))=r:=by
 unfold AX at h
 split at h
 ·rename_i ks xs hi
  cases e1:fk ρ with
  | error z=>rw [e1] at h; exact absurd h.symm hr
  | ok qd =>
   rw [e1] at h
   cases e2:fv ρ with
   | error z=>rw [e2] at h; exact absurd h.symm hr
   | ok v =>
    rw [e2] at h
    have h':(rO (wK ks xs qd v)).bind (fun al=>k.nx (ρ.set i (some (.nest (cJ al)))))=r:=h
    clear h
    cases e3:wK ks xs qd v with
    | none=>rw [e3] at h'; exact absurd h'.symm hr
    | some al' =>
     rw [e3] at h'
     obtain⟨al,q,f1,f2,f3,f4,f5⟩:=zW e3
     subst f1 f2 f3
     exact⟨al,q,v,al',hi,rfl,rfl,f4,f5,h'⟩
 ·exact absurd h.symm hr
theorem qP {K:Pa} {H:Hp} {O:List Qs} {a:Qs} {bs:List Qs} {al:List (List Key×D)} (h:wG K H O a bs (cJ al)):∃ kvs:List (List Key×V),(H a=some (.dT kvs)\/(H a=some (.dK [])/\kvs=[]))/\kvs.map (·.1)=al.map (·.1)/\kvs.map (·.2)=bs.map .ref/\lK K H O bs (al.map (·.2)):=by
 obtain⟨xs,h1,h2⟩:=h
 rcases h2 with ⟨e,_⟩ | ⟨kvs,e,q,e2⟩ | ⟨e,e2,q⟩
 ·cases e
 ·injection e with f1 f2
  subst f2
  refine⟨kvs,.inl q,?_,e2,h1⟩
  exact(kY (ks:=kvs.map (·.1)) (by rw [Oh]; exact f1)).symm
 ·injection e with f1 f2
  subst f2 e2
  have:al=[]:=by
   cases al with
   | nil=>rfl
   | cons _ _=>cases f1
  subst this
  exact⟨[],.inr ⟨q,rfl⟩,rfl,rfl,h1⟩
section
variable {X:Cx}
theorem J9 {i:Nat} {x:Str} {ke ve:QE} {fk fv:FX} {npos ap1 cp1 lp ap2 cp2 pos:Pos} (hu:X.A.units+64 < QZ) (hx:PE X (.Name x npos) (rL i)) (hke:FE X ke fk) (hve:FE X ve fv) (hn1:noStar ke=true:=by rfl) (hn2:noStar ve=true:=by rfl)
  (hb1:Rl (.Name x npos) "setdefault" X.env (eval (.Name x npos) X.env)=eval (.Name x npos) X.env:=by rfl)
  (hf1:((backTo cp1 (QF [ke,.List [] lp] X.env)).all (fun x=>!x.1) && (backToKw cp1 (QX [] X.env)).all (fun x=>x.1.isSome) && decide (([ke,.List [] lp]:List QE).length+([]:List Rm).length+(if ([]:List Rm).isEmpty then 0 else 1) < 30))=true:=by rfl)
  (hl1:(ap1.endLine==cp1.line)=true:=by rfl) (hp1:(backTo cp1 (QF [.List [] lp] X.env)).any (·.1)=false:=by rfl)
  (hb2:Rl (.Call (.Attribute (.Name x npos) "setdefault" ap1) [ke,.List [] lp] [] cp1) "append" X.env (eval (.Call (.Attribute (.Name x npos) "setdefault" ap1) [ke,.List [] lp] [] cp1) X.env)=eval (.Call (.Attribute (.Name x npos) "setdefault" ap1) [ke,.List [] lp] [] cp1) X.env:=by rfl)
  (hf2:((backTo cp2 (QF [ve] X.env)).all (fun x=>!x.1) && (backToKw cp2 (QX [] X.env)).all (fun x=>x.1.isSome) && decide (([ve]:List QE).length+([]:List Rm).length+(if ([]:List Rm).isEmpty then 0 else 1) < 30))=true:=by rfl)
  (hl2:(ap2.endLine==cp2.line)=true:=by rfl) (hp2:(backTo cp2 (QF [] X.env)).any (·.1)=false:=by rfl)
  (hsw:swapsWith (.Call (.Attribute (.Call (.Attribute (.Name x npos) "setdefault" ap1) [ke,.List [] lp] [] cp1) "append" ap2) [ve] [] cp2) none pos.line X.env=pure false:=by rfl) :
  FS X (.Expr (.Call (.Attribute (.Call (.Attribute (.Name x npos) "setdefault" ap1) [ke,.List [] lp] [] cp1) "append" ap2) [ve] [] cp2) pos) (AX i fk fv):=fun Hb Ob pins s σ H E I ⟨O,ρ,k,rr,S,hF,hk⟩=>by
 obtain⟨al,q,v,al',hi,hfk,hfv,hsm,hg,hnx⟩:=zS hF hk.ne
 obtain⟨a,bs,ha,hat,nd,hbs,one⟩:=S.nst i _ hi
 obtain⟨kvs,hH,ek,ev,hO⟩:=qP hat
 obtain⟨na,nb⟩:=List.nodup_cons.mp nd
 obtain⟨aO,aHb,aOb,aS⟩:=hbs a Mu
 have hlen:kvs.length < Qv:=by
  have:kvs.length=al.length:=by have:=congrArg List.length ek; simpa using this
  rw [this]; exact NF (of_decide_eq_true hsm) (by decide)
 refine vI (zp F.plainAttrs_list F.slot_list_append F.type_list_append dG (zp F.plainAttrs_dict F.slot_dict_setdefault F.type_dict_setdefault (DC hu) hx (kJ hke (kJ (yj o5) o5) (cW hn1)) hb1 hf1 hl1 (cW hn1) hp1) (DP hve FK hn2) hb2 hf2 hl2 (cW hn2) hp2) hsw pins s σ H E I ?_
 refine⟨.ref a,ha,.inr (.inr (.inl ⟨rfl,?_⟩)),O,ρ,S.env,?_⟩
 ·rcases hH with h | ⟨h,_⟩
  ·exact .inr ⟨_,h⟩
  ·exact .inl ⟨_,h⟩
 rw [hfk]
 intro y H1 s1 d1
 refine⟨MK _,fun p hp=>?_⟩
 obtain⟨b,ws,eb,g1,g2⟩:=cC.mp d1
 rw [iB g2] at g1
 have hb1':H1 b=some (.tup (q.map kV)):=(aC H1 O) _ _ g1
 have bp:b≠p:=aU hb1' hp
 have ap:a≠p:=by
  rcases hH with h | ⟨h,_⟩
  ·exact aU (s1 _ _ h) hp
  ·exact aU (s1 _ _ h) hp
 have pHb:Hb p=none:=(S.base.same.trans s1).free hp
 have pO:p∉O:=(S.env.all.same s1).not hp
 have pOb:p∉Ob:=fun z=>pO (S.base.sub p z)
 have bsp:∀ c∈bs,c≠p:=fun c hc=>by
  obtain⟨o,ho⟩:=hO.some c hc
  exact aU (s1 _ _ ho) hp
 have E2:dZ X.K (p::O) (upd H1 p (.lst [])) ρ σ:=(S.env.same s1).hideNew trivial hp
 have sm2:bo (hid H O) (hid (upd H1 p (.lst [])) (p::O)):=(bT s1).trans (rK hp)
 have sH2:bo H (upd H1 p (.lst [])):=s1.trans (bD hp _)
 have pS:∀ (j:Nat) d',ρ[j]?=some (some (.own d'))->σ[j]?≠some (some (.ref p)):=fun j d' w z=>by
  obtain⟨c,e1,e2,_⟩:=S.env.own j d' w
  rw [z] at e1; cases e1
  exact pO e2
 have fin:∀ (H3:Hp) (l:Qs) (wl:List V) (ys:List D) (bs':List Qs) (kvs':List (List Key×V)),dZ X.K (p::O) H3 ρ σ->bo (hid (upd H1 p (.lst [])) (p::O)) (hid H3 (p::O))->(∀ c o,c≠a->(upd H1 p (.lst [])) c=some o->H3 c=some o)->l∈bs'->l≠a->H3 l=some (.lst wl)->aW X.K (hid H3 (p::O)) ys wl->ys.length+1<=100000 ->
   (H3 a=some (.dT kvs'))->kvs'.map (·.1)=al'.map (·.1)->kvs'.map (·.2)=bs'.map .ref->(a::bs').Nodup->(∀ c∈bs',c∈bs\/c=p) ->
   (∀ H' O',(∀ c∈bs',c≠l->∀ x,dq X.K H3 (p::O) c x->dq X.K H' O' c x)->dq X.K H' O' l (.lst (ys++[v]))->lK X.K H' O' bs' (al'.map (·.2))) ->
   J4 X.K "list" (.ref l) H3/\JC X (af fv au) σ H3 fun vs H4=>vE (.ref l) vs H4 fun _ H5=>E.nx σ H5:=by
  intro H3 l wl ys bs' kvs' E3 sm3 keep3 lb la hl3 dl ln ha3 k1 k2 nd' mem new
  refine⟨.inl ⟨rfl,wl,nV.of hl3⟩,p::O,ρ,E3,?_⟩
  have e1:(af fv au) ρ=.ok [v]:=by
   show (fv ρ).bind _=_
   rw [hfv]; rfl
  rw [e1]
  intro vs H4 s4 dv
  obtain⟨y',rfl,dy⟩:=dv.one
  have lO:l∈p::O:=by
   rcases mem l lb with z | z
   ·exact Mv _ (hbs l (Mv _ z)).1
   ·rw [z]; exact Mu
  have lHb:Hb l=none:=by
   rcases mem l lb with z | z
   ·exact(hbs l (Mv _ z)).2.1
   ·rw [z]; exact pHb
  have lS:∀ (j:Nat) d',ρ[j]?=some (some (.own d'))->σ[j]?≠some (some (.ref l)):=by
   rcases mem l lb with z | z
   ·exact(hbs l (Mv _ z)).2.2.2
   ·rw [z]; exact pS
  have hl4:=s4 _ _ hl3
  have sm5:bo (hid H3 (p::O)) (hid (upd H4 l (.lst (wl++[y']))) (p::O)):=(bT s4).trans (gJ lO)
  have wlen:=dl.length
  refine⟨l,wl,y',rfl,rfl,hl4,by rw [<- wlen]; exact Mo (Nat.lt_of_succ_le ln) (by decide),hk.nx (p::O) _ σ _ (S.setN hi (fun c hc=>Mv _ hc) ((sm2.trans sm3).trans sm5) ⟨fun c u h=>?_,fun c hc=>Mv _ (S.base.sub c hc),fun c hc=>?_⟩ ((E3.all.same s4).upd lO trivial) (fun j xs c w1 w2=>?_) ?_) hnx⟩
  ·have ca:c≠a:=fun z=>by rw [z,aHb] at h; cases h
   have cl:c≠l:=fun z=>by rw [z,lHb] at h; cases h
   rw [aD cl]
   exact s4 _ _ (keep3 c u ca (sH2 _ _ (S.base.same c u h)))
  ·rcases List.mem_cons.mp hc with z | z
   ·rw [z]; exact .inr pHb
   ·exact S.base.new c z
  ·obtain⟨c',q1,q2,q3⟩:=S.env.own j xs w1
   rw [w2] at q1; cases q1
   obtain⟨o,ho⟩:=q3.some
   have ca:c≠a:=fun z=>aS j xs w1 (by rw [<- z]; exact w2)
   have cl:c≠l:=fun z=>lS j xs w1 (by rw [<- z]; exact w2)
   rw [ho,aD cl]
   exact(s4 _ _ (keep3 c o ca (sH2 _ _ ho))).symm
  ·refine⟨a,bs',ha,⟨al'.map (·.2),new _ _ (fun c hc ne x hx=>hx.mono ?_ sm5) ⟨_,_,aM,rfl,?_⟩,.inr (.inl ⟨kvs',?_,?_,k2⟩)⟩,nd',fun c hc=>?_,fun j d' w=>?_⟩
   ·obtain⟨o,ho⟩:=hx.some
    rw [aD ne,ho,s4 _ _ ho]
   ·exact(dl.mono sm5).append (bC.mpr ⟨y',[],rfl,dy.mono (gJ lO),cT.mpr rfl⟩)
   ·show D.dct (encK al') _=_
    rw [se k1]
   ·rw [aD (Ne.symm la)]; exact s4 _ _ ha3
   ·have own:∀ (j:Nat) d',(ρ.set i (some (.nest (cJ al'))))[j]?=some (some (.own d'))->ρ[j]?=some (some (.own d')):=fun j d' w=>by
     rcases aY w with ⟨_,z⟩ | ⟨_,z⟩
     ·cases z
     ·exact z
    rcases List.mem_cons.mp hc with z | z
    ·rw [z]; exact⟨Mv _ aO,aHb,aOb,fun j d' w=>aS j d' (own j d' w)⟩
    ·rcases mem c z with z' | z'
     ·obtain⟨w1,w2,w3,w4⟩:=hbs c (Mv _ z')
      exact⟨Mv _ w1,w2,w3,fun j d' w=>w4 j d' (own j d' w)⟩
     ·rw [z']; exact⟨Mu,pHb,pOb,fun j d' w=>pS j d' (own j d' w)⟩
   ·rcases aY w with ⟨hj,_⟩ | ⟨_,z⟩
    ·exact hj
    ·exact one j d' z
 have hH2:upd H1 p (.lst []) a=some (.dT kvs)\/(upd H1 p (.lst []) a=some (.dK [])/\kvs=[]):=by
  rw [aD ap]
  rcases hH with h | ⟨h,z⟩
  ·exact .inl (s1 _ _ h)
  ·exact .inr ⟨s1 _ _ h,z⟩
 have hO2:lK X.K (upd H1 p (.lst [])) (p::O) bs (al.map (·.2)):=hO.mono sm2 fun c hc ⟨o,ho⟩=>by rw [aD (bsp c hc),ho,s1 _ _ ho]
 refine⟨a,b,q,kvs,.ref p,rfl,by rw [eb],by rw [aD bp]; exact hb1',hH2,hlen,fun v' hv=>?_,fun hv=>?_⟩
 ·rcases vj ek ev hO2 nb hg with ⟨c,ys,w1,w2,w3,w4,w5,w6⟩ | ⟨w1,_⟩
  ·rw [w1] at hv; cases hv
   obtain⟨o,wl,h1,h2,h3⟩:=w3
   subst h2
   rcases hH2 with hH2 | ⟨_,z⟩
   ·exact fin _ c wl ys bs kvs E2 (fun _ _ z=>z) (fun _ _ _ z=>z) w2 (fun z=>na (by rw [<- z]; exact w2)) h1 h3 (of_decide_eq_true w4) hH2 (ek.trans w5.symm) ev nd (fun _ z=>.inl z) w6
   ·subst z; cases w1
  ·rw [w1] at hv; cases hv
 ·rcases vj ek ev hO2 nb hg with ⟨c,ys,w1,_⟩ | ⟨_,w2⟩
  ·rw [w1] at hv; cases hv
  ·subst w2
   have aO2:a∈p::O:=Mv _ aO
   refine fin (upd (upd H1 p (.lst [])) a (.dT (putK kvs q (.ref p)))) p [] [] (bs++[p]) (putK kvs q (.ref p)) (E2.rewrite (show qZ (.dT (putK kvs q (.ref p))) from trivial) aO2 aS) (gJ aO2) (fun c o ne z=>by rw [aD ne]; exact z) (by simp) (Ne.symm ap) (by rw [aD (Ne.symm ap)]; exact aM) (cT.mpr rfl) (by decide) aM ?_ ?_ ?_ (fun c hc=>?_) fun H' O' oth new=>?_
   ·rw [ua hv,Nz,Nz,ek]; rfl
   ·rw [ua hv,Nz,Nz,ev]; rfl
   ·refine List.nodup_cons.mpr ⟨fun z=>?_,List.nodup_append.mpr ⟨nb,by simp,fun c hc c' hc' e=>?_⟩⟩
    ·rcases List.mem_append.mp z with z | z
     ·exact na z
     ·exact ap (List.mem_singleton.mp z)
    ·rw [List.mem_singleton.mp hc'] at e
     exact bsp c hc e
   ·rcases List.mem_append.mp hc with z | z
    ·exact .inl z
    ·exact .inr (List.mem_singleton.mp z)
   ·rw [Nz]
    refine lK.snoc new (hO2.imp fun c hc x hx=>oth c (Mw _ hc) (bsp c hc) x (hx.mono ?_ (gJ aO2)))
    exact(aD fun z=>na (by rw [<- z]; exact hc)).symm
end
end TG
namespace TG
open PySem PySem.Spec L2
section
variable {prog:Qr} {w:Qq} {A:QA} {E:Qp->QB->Prop} {s:QB} {it d v:Qs} {i ep:Nat} {o:Obj} {es:Array RV} {ok ov:Qp}
theorem yc {Q:Qp->QB->Prop} (ho:s.heap.get? d=some o) (hx:o.ExactDict) (hd:(d==sysModules)=false) (h:Q (.ref s.heap.objs.size) { s with heap:=s.heap.push { cls:=.type "dict_items",data:=.fields #[.ref d] } }) :
  QD (model prog w) A (call (.builtin "dict.items") [.ref d]) Q E s:=by
 refine Rf PySem.F.slot_dict_items ⟨o,ho,hx.1⟩ PySem.F.entry_dict_items ?_ (PySem.F.args_dict_items_1 _)
 unfold Builtin.«dict.items»; refine QM ?_; unfold Builtin.Dict.noArgs; refine QM (RT ⟨o,ho,hx.1⟩ ?_)
 show QD _ _ (pure d) _ _ s; refine QL ?_; show QD _ _ (Builtin.Dict.showsAll d >>= _) _ _ s; unfold Builtin.Dict.showsAll; rw [if_neg (by rw [hd]; exact MF)]
 exact QM (QL (QM (Rh (QL ⟨_,rfl,h⟩))))
theorem yM {Q:Qp->QB->Prop} (hv:s.heap.IsItemsView v d) (ho:s.heap.get? d=some o) (hdat:o.data=.dict es ep)
  (hQ:Q (.ref s.heap.objs.size) { s with heap:=s.heap.push { cls:=.type "dict_itemiterator",data:=.fields #[.none,.bool false,.ref d,.int 0 0,.int es.size 0,.int ep 0,.none,.none] } }):QD (model prog w) A (pyIter (.ref v)) Q E s:=by
 obtain⟨w1,hov,hcv,hdv⟩:=id hv
 refine wpAny_pyIter_slot hv.typeIs F.slot_dict_items_iter (Rf F.slot_dict_items_iter hv.typeIs F.entry_dict_items_iter ?_ (F.args_dict_items_iter_1 _))
 unfold Builtin.«dict_items.__iter__»; refine QM (QL (QM ?_)); unfold Builtin.Dict_items.dictOf
 refine QM (Ra hov hdv (x:=.ref d) rfl (QL (QM ?_))); unfold Builtin.Dict_items.newIterator
 refine QM (RU ho hdat (QM (RW ho hdat ?_)))
 simp only [show Builtin.Dict_items.ownsTuple "dict_itemiterator"=true by decide,if_true]
 refine Rh (QL ⟨_,rfl,"dict_itemiterator",_,⟨_,PY _ rfl,rfl⟩,F.slot_dict_itemiterator_next.lookup,?_⟩) (by simp only [sizeOk,Builtin.Dict_items.ownedTupleFields,ME,MV,MG,M6,QU]; omega)
 simpa [rawInt,Builtin.Dict_items.ownedTupleFields] using hQ
theorem yx {Q:Option Qp->QB->Prop} (hit:RX s.heap it d i es.size ep ok ov) (hod:s.heap.get? d=some o) (hdd:o.data=.dict es ep) (hlt:i < es.size)
  (hQ:∀ h',RY h' it d (i+1) es.size ep es[i].key es[i].val s.heap.objs.size->h'.get? s.heap.objs.size=some { cls:=.type "tuple",data:=.seq #[es[i].key,es[i].val] }->h'.objs.size=s.heap.objs.size+1 ->
   (∀ b o,b≠it->s.heap.get? b=some o->h'.get? b=some o)->Q (some (.ref s.heap.objs.size)) { s with heap:=h' }):QD (model prog w) A (pyNext (.ref it)) Q E s:=by
 obtain⟨hp,g,dr,tk,os⟩:=s
 have hT:Shared.TypeIs ⟨hp,g,dr,tk,os⟩ (.ref it) "dict_itemiterator":=⟨_,hit,rfl⟩
 unfold pyNext
 refine QM (RF (Rc (name:=Str.ofString "__next__") hT F.slot_dict_itemiterator_next (Rf F.slot_dict_itemiterator_next hT F.entry_dict_itemiterator_next ?_ (F.args_dict_itemiterator_next_1 _))))
 refine QM (QL (QM (QM ?_))); first | refine QM (RZ hT (QL ?_)) | refine QM (R0 hT (QL ?_))
 refine QM (R1 hit rfl ?_); have hown:Builtin.Dict_items.ownsTuple "dict_itemiterator"=true:=by decide
 simp only [hown,if_true]; show QD _ _ (if (Value.ref d==Value.none)=true then _ else _) _ _ _; rw [if_neg (show ¬ ((Value.ref d==Value.none)=true) from MF)]
 refine QM (QL (QM (RU hod hdd ?_))); rw [if_neg (by simp)]
 refine QM (QL (QM (RW hod hdd ?_))); rw [if_neg (by simp)]
 refine QL ?_; simp only [show ¬ ((i:Int) < 0) from by omega,if_false,MX,Array.getElem?_eq_getElem hlt]
 refine QM ?_; first | refine QM (RZ hT (QL ?_)) | refine QM (R0 hT (QL ?_))
 refine QM (R3 hT ?_); show QD _ _ (setField (.ref it) 3 (rawInt ((i:Int)+1)) >>= _) _ _ ⟨hp,g,dr,tk,os⟩
 refine QM (RA hit (by simp) fun h₁ he₁ hs₁=>?_); replace hs₁:PV it hp h₁:=hs₁
 replace he₁:RX h₁ it d (i+1) es.size ep ok ov:=by
  have e:((i+1:Nat):Int)=(i:Int)+1:=by omega
  unfold RX; rw [e]; simpa [rawInt] using he₁
 have hT₁:Shared.TypeIs ⟨h₁,g,dr,tk,os⟩ (.ref it) "dict_itemiterator":=⟨_,he₁,rfl⟩
 refine QM (Rb (QM (R3 hT₁ (QM (R3 hT₁ ?_)))))
 show QD _ _ (Builtin.Dict_items.pairFromOwner (.ref it) 6 es[i].key es[i].val) _ _ ⟨h₁,g,dr,tk,os⟩; unfold Builtin.Dict_items.pairFromOwner; refine QM (RE ?_)
 have he₂:RX (h₁.push { cls:=.type "tuple",data:=.seq #[es[i].key,es[i].val] }) it d (i+1) es.size ep ok ov:=PX _ he₁
 generalize hh₂:h₁.push { cls:=.type "tuple",data:=.seq #[es[i].key,es[i].val] }=h₂ at he₂
 have hz₁:h₁.objs.size=hp.objs.size:=hs₁.1
 have hil:it < hp.objs.size:=PQ hit
 have ht₂:h₂.get? hp.objs.size=some { cls:=.type "tuple",data:=.seq #[es[i].key,es[i].val] }:=by rw [<- hh₂,<- hz₁]; exact PY _ rfl
 have hz₂:h₂.objs.size=hp.objs.size+1:=by rw [<- hh₂,PZ,hz₁]
 have hk₂:∀ b o,b≠it->hp.get? b=some o->h₂.get? b=some o:=fun b o hb e=>by rw [<- hh₂]; exact PX _ (hs₁.extBut b o hb e)
 show QD _ _ (Builtin.Dict_items.ownedTupleIsFree (.ref it) >>= _) _ _ ⟨h₂,g,dr,tk,os⟩; rw [hz₁]; clear hh₂ he₁ hs₁ hT₁ hz₁ h₁
 refine QM ?_; unfold Builtin.Dict_items.ownedTupleIsFree; refine QM (Ra he₂ rfl (x:=.none) rfl (QL ?_)); simp only [if_true]
 refine QM (Ra he₂ rfl (x:=ok) rfl (QM (Ra he₂ rfl (x:=ov) rfl ?_)))
 refine QM (RA he₂ (by simp) fun h₃ he₃ hs₃=>?_); replace hs₃:PV it h₂ h₃:=hs₃
 replace he₃:RX h₃ it d (i+1) es.size ep es[i].key ov:=he₃
 refine QM (RA he₃ (by simp) fun h₄ he₄ hs₄=>?_); replace hs₄:PV it h₃ h₄:=hs₄
 replace he₄:RX h₄ it d (i+1) es.size ep es[i].key es[i].val:=he₄
 refine QM (RA he₄ (by simp) fun h₅ he₅ hs₅=>?_); replace hs₅:PV it h₄ h₅:=hs₅
 replace he₅:RY h₅ it d (i+1) es.size ep es[i].key es[i].val hp.objs.size:=he₅
 refine QM (RA he₅ (by simp) fun h₆ he₆ hs₆=>?_); replace hs₆:PV it h₅ h₆:=hs₆
 replace he₆:RY h₆ it d (i+1) es.size ep es[i].key es[i].val hp.objs.size:=he₆
 refine QM (RD (QL (QL ⟨_,rfl,QL (hQ h₆ he₆ ?_ ?_ ?_)⟩)))
 ·have n:=Mz hil; exact hs₆.extBut _ _ n (hs₅.extBut _ _ n (hs₄.extBut _ _ n (hs₃.extBut _ _ n ht₂)))
 ·show h₆.objs.size=hp.objs.size+1; rw [hs₆.1,hs₅.1,hs₄.1,hs₃.1,hz₂]
 ·exact fun b o hb e=>hs₆.extBut b o hb (hs₅.extBut b o hb (hs₄.extBut b o hb (hs₃.extBut b o hb (hk₂ b o hb e))))
theorem AF {Q:Option Qp->QB->Prop} (hh:A.handled=none) (hit:RX s.heap it d i es.size ep ok ov) (hod:s.heap.get? d=some o) (hdd:o.data=.dict es ep) (hge:es.size<=i)
  (hQ:∀ h',P4 it s.heap h'->Q none { s with heap:=h' }):QD (model prog w) A (pyNext (.ref it)) Q E s:=by
 have hT:s.TypeIs (.ref it) "dict_itemiterator":=⟨_,hit,rfl⟩
 unfold pyNext
 refine QM (RF (Rc (name:=Str.ofString "__next__") hT F.slot_dict_itemiterator_next (Rf F.slot_dict_itemiterator_next hT F.entry_dict_itemiterator_next ?_ (F.args_dict_itemiterator_next_1 _))))
 refine QM (QL (QM (QM ?_))); first | refine QM (RZ hT (QL ?_)) | refine QM (R0 hT (QL ?_))
 refine QM (R1 hit rfl ?_); have hown:Builtin.Dict_items.ownsTuple "dict_itemiterator"=true:=by decide
 simp only [hown,if_true]; show QD _ _ (if (Value.ref d==Value.none)=true then _ else _) _ _ s; rw [if_neg (show ¬ ((Value.ref d==Value.none)=true) from MF)]
 refine QM (QL (QM (RU hod hdd ?_))); rw [if_neg (by simp)]
 refine QM (QL (QM (RW hod hdd ?_))); rw [if_neg (by simp)]
 refine QL ?_; simp only [show ¬ ((i:Int) < 0) from by omega,if_false,MX,Array.getElem?_eq_none hge]
 refine QM ?_; first | refine QM (RZ hT (QL ?_)) | refine QM (R0 hT (QL ?_))
 show QD _ _ (setField (.ref it) 2 .none >>= _) _ _ s; refine QM (Rw hit rfl (by simp) ?_)
 show QD _ _ (newExc (.type "StopIteration") [] >>= _) _ _ _; refine QM ?_; simp only [newExc,newTuple]; refine QM (Rh ?_ (by size_fits))
 refine QM (m:=firstArgMember _ _) (wpAny_of_eq (a:=Value.none) (by first | rfl | (simp only [firstArgMember]; rfl)) ?_); refine Rh ?_ (by size_fits)
 simp only [raiseNew]; refine QM (Rx ?_); rw [show A.in1.handled=none from hh]; refine QM (QL (wpAny_throw ?_))
 refine QM (RG (T := "StopIteration") (b:=true) ⟨_,PY _ rfl,rfl⟩ RH ?_); exact QL (hQ _ (((Heap.SameBut.update ..).extBut.push _).push _))
end
variable [aR]
abbrev nI (al:List (List Key×D)):D:=.dct (.non::encK al) (al.map (·.2))
theorem xR {X:Cx} {pins:List (Qs×Obj)} {σ:St} {H:Hp} {s:QB} {a:Qs} {o:Obj} {kvs:List (List Key×V)} (I:Inv X pins σ H s) (e:H a=some (.frz o (.dT kvs))):s.heap.get? a=some o/\o.ExactDict/\(a==sysModules)=false/\∃ es ep xs,o.data=.dict es ep/\KT H kvs xs/\es.toList=xs.map (entryOfKey (tupleKind (bV X.prog X.w))):=by
 obtain⟨ho,z,hd,xs,rel,o',es,ep,h1,h2,h3,h4,h5⟩:=(show cx X.prog X.w H s.heap a (.frz o (.dT kvs)) from I.hok a _ e)
 rw [ho] at h1; cases h1
 exact⟨ho,h2,hd,es,ep,xs,h3,rel,h4⟩
def Ln (a:Qs) (o:Obj) (kvs:List (List Key×V)):It :=
  ⟨fun i H=>H a=some (.frz o (.dT kvs))/\i < kvs.length,
   fun i H v H'=>∃ p b q w,v=.ref p/\H p=none/\H'=upd H p (.tup [.ref b,w])/\kvs[i]?=some (q,w)/\H b=some (.tup (q.map kV)),
   fun i H=>H a=some (.frz o (.dT kvs))/\i=kvs.length⟩
theorem rJ {α β:Type} {R:α->β->Prop}:∀ {xs:List α} {ys:List β},Qt R xs ys->∀ {i:Nat} {x:α},xs[i]?=some x->∃ y,ys[i]?=some y/\R x y:=fun h=>by
 induction h with
 | nil=>intro i x e; simp at e
 | cons hq _ ih =>
  intro i x e
  cases i with
  | zero=>rw [NP] at e; cases e; exact⟨_,rfl,hq⟩
  | succ i=>rw [NQ] at e ⊢; exact ih e
theorem yH {P:Qr} {w:Qq} {K:Pa} {es':List QE} {k:Nat} {pos:Pos} {a it:Qs} {o:Obj} {es:Array RV} {ep:Nat} {kvs:List (List Key×V)} (hda:o.data=.dict es ep):Turn P w K (.Tuple es' k pos) (Ln a o kvs) [it] it (fun i h=>∃ ok ov,RX h it a i es.size ep ok ov) where
 mem:=by simp
 obj:=fun i h ⟨ok,ov,hz⟩ c hc=>by rw [List.mem_singleton.mp hc]; exact⟨_,hz,fun v q=>by cases q⟩
 keep:=fun i h h' ⟨ok,ov,hz⟩ kp=>⟨ok,ov,kp it (by simp) _ hz⟩
 item:=by
  intro X hP hw hK hc i pins s σ H E I hf ⟨ok,ov,hit⟩ ⟨ha,hi⟩
  subst hP hw hK
  obtain⟨ho,hx,_,es2,ep2,xs,h3,rel,h4⟩:=xR I ha
  rw [hda] at h3; cases h3
  have hl:es.size=xs.length:=by rw [<- Array.length_toList,h4,MI]
  have hkl:kvs.length=xs.length:=Paired.length rel
  have hlt:i < es.size:=by omega
  obtain⟨x,ex,f1,f2,f3⟩:=rJ rel (i:=i) (x:=kvs[i]) (by simp [hi])
  have ee:es[i]=entryOfKey (tupleKind (bV X.prog X.w)) x:=by
   have:es.toList[i]?=some (entryOfKey (tupleKind (bV X.prog X.w)) x):=by rw [h4,MS,ex]; rfl
   rw [Array.getElem?_toList,Array.getElem?_eq_getElem hlt] at this
   exact Option.some.inj this
  refine yx hit ho hda hlt fun h' out tp sz kp=>⟨_,rfl,wpAny_letOwnedTupleGo_items out fun h2 hit2 sb=>?_⟩
  have hpz:s.heap.objs.size≠it:=Mz (PQ hit)
  have tp2:=sb.extBut _ _ hpz tp
  rw [ee] at tp2
  have I':Inv X pins σ (upd H s.heap.objs.size (.tup [.ref x.2.1,kvs[i].2])) { s with heap:=h2 }:=Inv.turnedL (ch:=[it]) (t':=s.toks) I hf (fun c u hc e=>by
   have hc:c≠it:=by simpa using hc
   exact sb.extBut _ _ hc (kp c u hc e)) (MA _) ⟨by show 2<=Qv; decide,[.ref x.2.1,x.2.2],.cons rfl (.cons f3 .nil),_,tp2,rfl,_,rfl⟩
  refine⟨.ref s.heap.objs.size,_,I',rfl,⟨_,x.2.1,kvs[i].1,kvs[i].2,rfl,I.fresh,rfl,by simp [hi],f2⟩,⟨_,_,hit2⟩,fun c hc=>?_⟩
  rw [List.mem_singleton.mp hc,aD (Ne.symm hpz)]; exact(hf it (by simp)).1
 done:=by
  intro X hP hw hK hc i pins s σ H E I hf ⟨ok,ov,hit⟩ ⟨ha,hi⟩
  subst hP hw hK
  obtain⟨ho,hx,_,es2,ep2,xs,h3,rel,h4⟩:=xR I ha
  rw [hda] at h3; cases h3
  have hl:es.size=xs.length:=by rw [<- Array.length_toList,h4,MI]
  have hkl:kvs.length=xs.length:=Paired.length rel
  exact AF (I.ok.hd hc) hit ho hda ‹0› fun h' eb=>⟨rfl,Inv.turned0 (ch:=[it]) I hf fun c u hc e=>eb c u (by simpa using hc) e⟩
 self:=fun _ _ _ _ _ ⟨_,_,hz⟩ h=>PySem.W.kcp_self hz h
theorem vK {K:Pa} {H:Hp}:∀ q:List Key,aW K H (q.map bu) (q.map kV)
 | []=>cT.mpr rfl
 | k::q=>bC.mpr ⟨kV k,_,rfl,by cases k with | inl i=>exact fu.mpr rfl | inr x=>exact fj.mpr rfl,vK q⟩
abbrev kM (p:List Key×D):D:=.tup [.tup (p.1.map bu),p.2]
theorem yt {K:Pa} {Hd:Hp} {a:Qs} {o:Obj} {kvs:List (List Key×V)} {al:List (List Key×D)} (h:Hd a=some (.frz o (.dT kvs))) (e1:kvs.map (·.1)=al.map (·.1)) (e2:aW K Hd (al.map (·.2)) (kvs.map (·.2))):Walk K Hd (Ln a o kvs) (al.map kM):=fun Hn O' i hO sm=>by
 have s':bo Hd Hn:=sm.trans (aC Hn O')
 have hl:kvs.length=al.length:=by have:=congrArg List.length e1; simpa using this
 refine⟨fun d e=>?_,fun hl'=>⟨s' _ _ h,by rw [hl',MI,hl]⟩⟩
 rw [MS] at e
 cases ep:al[i]? with
 | none=>rw [ep] at e; cases e
 | some p =>
  rw [ep] at e; cases e
  have hi:i < al.length:=(List.getElem?_eq_some_iff.mp ep).1
  refine⟨⟨s' _ _ h,by omega⟩,fun x H2 ⟨c,b,q,w,ex,hc,eH,ek,hb⟩=>?_⟩
  subst ex eH
  have k1:q=p.1:=by
   have:=congrArg (fun l=>l[i]?) e1
   simp only [MS,ek,ep] at this
   exact Option.some.inj this
  obtain⟨w',ew,dw⟩:=e2.get (i:=i) (d:=p.2) (by rw [MS,ep]; rfl)
  rw [MS,ek] at ew
  cases ew
  subst k1
  have bO:b∉O':=fun z=>by
   obtain⟨u,q1,q2⟩:=hO.2 b z
   rw [hb] at q1; cases q1; exact q2
  exact⟨bD hc _,eN hO hc (bC.mpr ⟨.ref b,_,rfl,cC.mpr ⟨b,_,rfl,by rw [jj bO]; exact hb,vK p.1⟩,bC.mpr ⟨w,_,rfl,dw.mono sm,cT.mpr rfl⟩⟩)⟩
def yp:D->Option (List D)
 | .dct (.non::ks) ds=>(jL ks ds).map fun al=>al.map kM
 | _=>none
def kK (f:FX):aq->R (List D):=fun ρ=>(f ρ).bind fun d=>rO (yp d)
theorem wt {K:Pa} {H:Hp} {v:V} {al:List (List Key×D)} (h:cK K H (nI al) v):∃ a o kvs,v=.ref a/\H a=some (.frz o (.dT kvs))/\kvs.map (·.1)=al.map (·.1)/\aW K H (al.map (·.2)) (kvs.map (·.2)):=by
 obtain⟨a,vs,e0,h2,h3⟩:=JD.mp h
 rcases h3 with ⟨kvs,e,e1,e2⟩ | ⟨kvs,e,e1,e2⟩ | ⟨kvs,o,e,e1,e2⟩
 ·cases kvs with
  | nil=>cases e1
  | cons p r =>
   injection e1 with e1 _
   rcases p with ⟨k,v⟩
   cases k <;> cases e1
 ·cases kvs with
  | nil=>cases e1
  | cons p r=>injection e1 with e1 _; cases e1
 ·injection e1 with _ e1
  subst e2
  exact⟨a,o,kvs,e0,e,(kY (ks:=kvs.map (·.1)) (by rw [Oh]; exact e1)).symm,h2⟩
section
variable {X:Cx}
theorem HP {o:QE} {es:List QE} {k:Nat} {tpos:Pos} {f:FX} {apos cpos:Pos} (ho:FE X o f) (hbase:Rl o "items" X.env (eval o X.env)=eval o X.env:=by rfl) (hline:(apos.endLine==cpos.line)=true:=by rfl):FI X (.Tuple es k tpos) (.Call (.Attribute o "items" apos) [] [] cpos) (kK f):=by
 intro pins s σ H RR I ⟨O,ρ,E,hG⟩
 refine wpAny_Call_method0_late hbase hline (eK (ho pins s σ H (fun v H1=>∃ a o kvs,v=.ref a/\H1 a=some (.frz o (.dT kvs))/\RR (Ln a o kvs) H1) I ⟨O,ρ,E,(iU.bind hG).imp fun d hG v H1 s1 d1=>?_⟩) fun v s1 ⟨x,H1,I1,r1,a,o,kvs,ex,ha,hR⟩=>?_)
 ·obtain⟨ds,hg,q⟩:=iU.rO hG
  unfold yp at hg
  split at hg
  ·rename_i ks dl
   cases e1:jL ks dl with
   | none=>rw [e1] at hg; cases hg
   | some al =>
    rw [e1] at hg; cases hg
    obtain⟨f1,f2⟩:=ic e1
    subst f1 f2
    obtain⟨a,o,kvs,q1,q2,q3,q4⟩:=wt d1
    exact⟨a,o,kvs,q1,(aC H1 O) _ _ q2,q _ H1 s1 (yt q2 q3 q4)⟩
  ·cases hg
 ·subst ex
  cases r1
  obtain⟨hob,hx,hsm,es2,ep,xs,hda,_⟩:=xR I1 ha
  refine⟨"dict","dict.items",F.plainAttrs_dict,F.slot_dict_items,F.type_dict_items,⟨o,hob,hx.1⟩,fun c e=>by cases e; exact⟨o,hob,hx.2.1⟩,Calls.callWith_builtin rfl (PySem.evalArgs_none ?_)⟩
  refine yc hob hx hsm (yM ⟨_,PY _ rfl,rfl,rfl⟩ (PX _ hob) hda ?_)
  have le:s1.heap.objs.size<=(s1.heap.push { cls:=.type "dict_items",data:=.fields #[.ref a] }).objs.size:=by rw [PZ]; exact MM _
  refine⟨_,_,_,_,H1,rfl,I1.kept (t':=s1.toks) fun b u e=>PX _ (PX _ e),yH hda,⟨_,_,PY _ rfl⟩,fun b hb=>?_,hR⟩
  rw [List.mem_singleton.mp hb]
  exact I1.fpOk le (I1.hok.fresh le)
end
theorem eR.frzG {K:Pa} {Hb:Hp} {Ob O:List Qs} {H H':Hp} {ρ:aq} {σ:St} (E:eR K Hb Ob O H ρ σ) {i:Nat} {d d':D} (hd:ρ[i]?=some (some (.nest d))) {a:Qs} {bs:List Qs} (h1:σ[i]?=some (some (.ref a))) (h4:∀ b∈a::bs,b∈O/\Hb b=none/\b∉Ob/\∀ (j:Nat) d',ρ[j]?=some (some (.own d'))->σ[j]?≠some (some (.ref b))) (h5:∀ (j:Nat) d',ρ[j]?=some (some (.nest d'))->j=i)
  (hH:∀ b,b≠a->H' b=H b) (tab:aR.tab H') (dn:bo (hid H O) (hid H' (O.filter fun b=>decide (b∉a::bs)))->(∀ b∈a::bs,b∉O.filter fun b=>decide (b∉a::bs))->cK K (hid H' (O.filter fun b=>decide (b∉a::bs))) d' (.ref a)):eR K Hb Ob (O.filter fun b=>decide (b∉a::bs)) H' (TG.setV i d' ρ) σ:=by
 have sub:∀ b∈O.filter (fun b=>decide (b∉a::bs)),b∈O:=fun b hb=>(List.mem_filter.mp hb).1
 have na:∀ b∈a::bs,b∉O.filter fun b=>decide (b∉a::bs):=fun b hb z=>(of_decide_eq_true (List.mem_filter.mp z).2) hb
 have aO:=(h4 a Mu).1
 have s:bo (hid H O) (hid H' (O.filter fun b=>decide (b∉a::bs))):=fun b u e=>by
  unfold hid at e ⊢
  by_cases hb:b∈O
  ·rw [if_pos hb] at e; cases e
  ·rw [if_neg hb] at e
   rw [if_neg fun z=>hb (sub b z),hH b fun z=>hb (by rw [z]; exact aO)]; exact e
 have bk:∀ (l:Nat) x,(TG.setV i d' ρ)[l]?=some (some x)->(∀ d,x≠.val d)->ρ[l]?=some (some x):=fun l x e nv=>by
  rcases aY e with ⟨_,q⟩ | ⟨_,q⟩
  ·cases q; exact absurd rfl (nv _)
  ·exact q
 refine⟨⟨fun j d1 e=>?_,fun j xs e=>?_,fun j l xs ys b e1 e2 e3 e4=>E.env.one j l xs ys b (bk j _ e1 (fun _ z=>nomatch z)) (bk l _ e2 (fun _ z=>nomatch z)) e3 e4,⟨tab,fun b hb=>?_⟩⟩,⟨fun b u e=>?_,fun b hb=>?_,fun b hb=>E.base.new b (sub b hb)⟩,fun j xs b e1 e2=>E.mine j xs b (bk j _ e1 (fun _ z=>nomatch z)) e2,fun j dn e=>?_⟩
 ·rcases aY e with ⟨hj,q⟩ | ⟨ne,q⟩
  ·cases q; rw [hj]; exact⟨.ref a,h1,dn s na⟩
  ·obtain⟨w,q1,q2⟩:=E.env.val j d1 q
   exact⟨w,q1,q2.mono s⟩
 ·obtain⟨b,q1,q2,q3⟩:=E.env.own j xs (bk j _ e (fun _ z=>nomatch z))
  have nb:b∉a::bs:=fun z=>(h4 b z).2.2.2 j xs (bk j _ e (fun _ z=>nomatch z)) q1
  exact⟨b,q1,List.mem_filter.mpr ⟨q2,decide_eq_true nb⟩,q3.mono (hH b fun z=>nb (by rw [z]; exact Mu)).symm s⟩
 ·rw [hH b fun z=>na b (by rw [z]; exact Mu) hb]; exact E.env.all.2 b (sub b hb)
 ·rw [hH b fun z=>by rw [z,(h4 a Mu).2.1] at e; cases e]; exact E.base.same b u e
 ·exact List.mem_filter.mpr ⟨E.base.sub b hb,decide_eq_true fun z=>(h4 b z).2.2.1 hb⟩
 ·have q:=bk j _ e (fun _ z=>nomatch z)
  have hj:=h5 j dn q
  subst hj
  rcases aY e with ⟨_,q⟩ | ⟨ne,_⟩
  ·cases q
  ·exact absurd rfl ne
theorem HN {X:Cx} {pins:List (Qs×Obj)} {σ:St} {H:Hp} {s:QB} {a:Qs} {kvs:List (List Key×V)} (I:Inv X pins σ H s) (h1:H a=some (.dT kvs)):∃ o,Inv X pins σ (upd H a (.frz o (.dT kvs))) s:=by
 obtain⟨z,hd,xs,rel,o,es,ep,g1,g2⟩:=(show cx X.prog X.w H s.heap a (.dT kvs) from I.hok a _ h1)
 refine⟨o,mr (ob:=.frz o (.dT kvs)) (h':=s.heap) (t':=s.toks) I (by rw [h1]; exact trivial) ⟨rfl,fun _ _=>rfl⟩ ⟨o,g1⟩ ⟨g1,z,hd,xs,KT.keeps rel fun b ys eb=>?_,o,es,ep,g1,g2⟩⟩
 rw [aD (B7 eb h1 (fun z=>nomatch z))]; exact eb
def Iw (i:Nat) (ρ:aq):aq:=match ρ[i]? with
 | some (some (.nest (.dct ks ds)))=>match jL ks ds with
  | some al=>setV i (nI al) ρ
  | none=>ρ
 | _=>ρ
def ue (i:Nat) (F:cB):cB:=fun k ρ=>F k (Iw i ρ)
theorem IV {X:Cx} {st:List QG} {F:cB} (i:Nat) (h:xG X st F):xG X st (ue i F):=fun Hb Ob pins s σ H E I ⟨O,ρ,k,r,S,hF,hk⟩=>by
 unfold ue Iw at hF
 split at hF
 ·rename_i ks ds hd
  split at hF
  ·rename_i al hal
   obtain⟨f1,f2⟩:=ic hal
   subst f1 f2
   obtain⟨a,bs,h1,h2,h3,h4,h5⟩:=S.nst i _ hd
   obtain⟨kvs,hH,ek,ev,hO⟩:=qP h2
   obtain⟨na,_⟩:=List.nodup_cons.mp h3
   have fin:∀ (H0:Hp) (I0:Inv X pins σ H0 s),H0 a=some (.dT kvs)->(∀ b,b≠a->H0 b=H b)->QD (model X.prog X.w) X.A (execs st X.env) (SP X pins E) X.xe s:=fun H0 I0 ha0 hH0=>by
    obtain⟨o,I1⟩:=HN I0 ha0
    have hH':∀ b,b≠a->upd H0 a (.frz o (.dT kvs)) b=H b:=fun b nb=>by rw [aD nb]; exact hH0 b nb
    have tab:aR.tab (upd H0 a (.frz o (.dT kvs))):=by
     have:upd H0 a (.frz o (.dT kvs))=upd H a (.frz o (.dT kvs)):=by
      funext b
      by_cases z:b=a
      ·rw [z,aM,aM]
      ·rw [aD z,aD z,hH0 b z]
     rw [this]
     obtain⟨u,q1,q2⟩:=S.env.all.2 a (h4 a Mu).1
     exact aR.own S.env.all.1 q1 q2
    refine h Hb Ob pins s σ _ E I1 ⟨_,_,k,r,S.frzG hd h1 h4 h5 hH' tab fun sm nn=>?_,hF,hk⟩
    have hO':lK X.K (upd H0 a (.frz o (.dT kvs))) O bs (al.map (·.2)):=hO.mono (fun b u e=>by
     unfold hid at e ⊢
     by_cases hb:b∈O
     ·rw [if_pos hb] at e; cases e
     ·rw [if_neg hb] at e
      rw [if_neg hb,hH' b fun z=>hb (by rw [z]; exact(h4 a Mu).1)]; exact e) fun b hb _=>hH' b fun z=>na (by rw [<- z]; exact hb)
    have sub:∀ b∈O.filter (fun b=>decide (b∉a::bs)),b∈O:=fun b hb=>(List.mem_filter.mp hb).1
    have g:=hO'.den (gL sub) fun b hb=>nn b (Mv _ hb)
    refine JD.mpr ⟨a,_,rfl,g,.inr (.inr ⟨kvs,o,by rw [jj (nn a Mu)]; exact aM,by rw [se ek],ev.symm⟩)⟩
   rcases hH with hH | ⟨hH,z⟩
   ·exact fin H I hH fun _ _=>rfl
   ·subst z
    exact fin _ (Bs I hH) aM fun b nb=>aD nb
  ·exact h Hb Ob pins s σ H E I ⟨O,ρ,k,r,S,hF,hk⟩
 ·exact h Hb Ob pins s σ H E I ⟨O,ρ,k,r,S,hF,hk⟩
end TG
namespace TG
open PySem PySem.Spec L2
section
variable {prog:Qr} {w:Qq} {A:QA} {E:Qp->QB->Prop} {s:QB} {it d:Qs} {i ep:Nat} {o:Obj} {es:Array RV}
theorem Aj {Q:Qp->QB->Prop} (hd:(d==sysModules)=false) (ho:s.heap.get? d=some o) (hx:o.ExactDict) (hdat:o.data=.dict es ep)
  (hQ:Q (.ref s.heap.objs.size) { s with heap:=s.heap.push { cls:=.type "dict_keyiterator",data:=.fields #[.ref d,.int 0 0,.int es.size 0,.int ep 0] } }):QD (model prog w) A (pyIter (.ref d)) Q E s:=by
 have hT:s.TypeIs (.ref d) "dict":=⟨o,ho,hx.1⟩
 refine wpAny_pyIter_slot hT F.slot_dict_iter (Rf F.slot_dict_iter hT F.entry_dict_iter ?_ (F.args_dict_iter_1 _))
 unfold Builtin.«dict.__iter__»; refine QM ?_; unfold Builtin.Dict.dictSlotNone; refine QM (RT hT ?_)
 show QD _ _ (pure (Value.ref d)) _ _ s; refine QL ?_; show QD _ _ (Builtin.Dict.showsAll d >>= _) _ _ s; unfold Builtin.Dict.showsAll; rw [if_neg (by rw [hd]; exact MF)]
 refine QM (QL (QM (RU ho hdat (QM (RW ho hdat ?_)))))
 refine QM (Rh (QL ⟨_,rfl,"dict_keyiterator",_,⟨_,PY _ rfl,rfl⟩,F.slot_dict_keyiterator_next.lookup,?_⟩)); simpa [rawInt] using hQ
theorem Ab {Q:Option Qp->QB->Prop} (hit:s.heap.IsKeyIter it d i es.size ep) (hod:s.heap.get? d=some o) (hdd:o.data=.dict es ep) (hlt:i < es.size)
  (hQ:∀ h',h'.IsKeyIter it d (i+1) es.size ep->PV it s.heap h'->Q (some es[i].key) { s with heap:=h' }):QD (model prog w) A (pyNext (.ref it)) Q E s:=by
 obtain⟨oi,ho,hc,hd⟩:=id hit
 unfold pyNext
 refine QM (RF (Rc (name:=Str.ofString "__next__") hit.typeIs F.slot_dict_keyiterator_next (Rf F.slot_dict_keyiterator_next hit.typeIs F.entry_dict_keyiterator_next ?_ (F.args_dict_keyiterator_next_1 _))))
 refine QM (QL (QM (QM ?_))); first | refine QM (R4 hit.typeIs (QL ?_)) | refine QM (R5 hit.typeIs (QL ?_))
 refine QM (R1 ho hd ?_); have hown:Builtin.Dict_items.ownsTuple "dict_keyiterator"=false:=by decide
 simp only [hown,Nf,if_false]; show QD _ _ (if (Value.ref d==Value.none)=true then _ else _) _ _ s; rw [if_neg (show ¬ ((Value.ref d==Value.none)=true) from MF)]
 refine QM (QL (QM (RU hod hdd ?_))); rw [if_neg (by simp)]
 refine QM (QL (QM (RW hod hdd ?_))); rw [if_neg (by simp)]
 refine QL ?_; simp only [show ¬ ((i:Int) < 0) from by omega,if_false,MX,Array.getElem?_eq_getElem hlt]
 refine QM ?_; first | refine QM (R4 hit.typeIs (QL ?_)) | refine QM (R5 hit.typeIs (QL ?_))
 refine QM (wpAny_isOneOf_keyiter hit.typeIs ?_); show QD _ _ (setField (.ref it) 1 (rawInt ((i:Int)+1)) >>= _) _ _ s; refine QM (Rw ho hd (by simp) ?_)
 have hit':(s.heap.update it (Obj.mapFields (·.setIfInBounds 1 (rawInt ((i:Int)+1))))).IsKeyIter it d (i+1) es.size ep:=⟨_,P0 _ ho (Obj.isFreed_of_fields (Obj.data_mapFields hd _)),(Obj.cls_mapFields ..).trans hc,by rw [Obj.data_mapFields hd]; simp [rawInt]⟩
 refine QM (Rb (QM (wpAny_isOneOf_keyiter (s:={ s with heap:=s.heap.update it (Obj.mapFields (·.setIfInBounds 1 (rawInt ((i:Int)+1)))) }) hit'.typeIs ?_))); show QD _ _ (pure es[i].key) _ _ _
 exact QL (QL ⟨_,rfl,QL (hQ _ hit' (Heap.SameBut.update ..))⟩)
theorem Ck {Q:Option Qp->QB->Prop} (hh:A.handled=none) (hit:s.heap.IsKeyIter it d i es.size ep) (hod:s.heap.get? d=some o) (hdd:o.data=.dict es ep) (hge:es.size<=i) (hQ:∀ h',P4 it s.heap h'->Q none { s with heap:=h' }):QD (model prog w) A (pyNext (.ref it)) Q E s:=by
 obtain⟨oi,ho,hc,hd⟩:=id hit
 unfold pyNext
 refine QM (RF (Rc (name:=Str.ofString "__next__") hit.typeIs F.slot_dict_keyiterator_next (Rf F.slot_dict_keyiterator_next hit.typeIs F.entry_dict_keyiterator_next ?_ (F.args_dict_keyiterator_next_1 _))))
 refine QM (QL (QM (QM ?_))); first | refine QM (R4 hit.typeIs (QL ?_)) | refine QM (R5 hit.typeIs (QL ?_))
 refine QM (R1 ho hd ?_); have hown:Builtin.Dict_items.ownsTuple "dict_keyiterator"=false:=by decide
 simp only [hown,Nf,if_false]; show QD _ _ (if (Value.ref d==Value.none)=true then _ else _) _ _ s; rw [if_neg (show ¬ ((Value.ref d==Value.none)=true) from MF)]
 refine QM (QL (QM (RU hod hdd ?_))); rw [if_neg (by simp)]
 refine QM (QL (QM (RW hod hdd ?_))); rw [if_neg (by simp)]
 refine QL ?_; simp only [show ¬ ((i:Int) < 0) from by omega,if_false,MX,Array.getElem?_eq_none hge]
 refine QM ?_; first | refine QM (R4 hit.typeIs (QL ?_)) | refine QM (R5 hit.typeIs (QL ?_))
 show QD _ _ (setField (.ref it) 0 .none >>= _) _ _ s; refine QM (Rw ho hd (by simp) ?_)
 show QD _ _ (newExc (.type "StopIteration") [] >>= _) _ _ _; refine QM ?_; simp only [newExc,newTuple]; refine QM (Rh ?_ (by size_fits))
 refine QM (m:=firstArgMember _ _) (wpAny_of_eq (a:=Value.none) (by first | rfl | (simp only [firstArgMember]; rfl)) ?_); refine Rh ?_ (by size_fits)
 simp only [raiseNew]; refine QM (Rx ?_); rw [show A.in1.handled=none from hh]; refine QM (QL (wpAny_throw ?_))
 refine QM (RG (T := "StopIteration") (b:=true) ⟨_,PY _ rfl,rfl⟩ RH ?_); exact QL (hQ _ (((Heap.SameBut.update ..).extBut.push _).push _))
def GU (d:Qs) (o:Obj) (es:Array RV) (ep:Nat) (h:Qu):Prop:=h.get? d=some o/\o.ExactDict/\o.data=.dict es ep
theorem ym (hh:A.handled=none) (I:Qs) (hne:d≠I):Walks prog w A I [I,d] [I] es.size (fun i v=>∃ e,es[i]?=some e/\v=e.key) (fun i h=>h.IsKeyIter I d i es.size ep/\GU d o es ep h) where
 sub:=fun b hb=>by simp at hb; simp [hb]
 frame:=fun _ _ _ st hk=>⟨st.1.at fun o e=>hk I (by simp) o e,hk d (by simp) _ st.2.1,st.2.2⟩
 item:=fun i s Q E hi st hQ=>Ab st.1 st.2.1 st.2.2.2 hi fun h' hit' hs'=>hQ _ h' s.toks ⟨es[i],by simp [hi],rfl⟩ ⟨hit',(hs'.2 d hne).trans st.2.1,st.2.2⟩ fun b o hb e=>hs'.extBut b o (fun h=>hb (by simp [h])) e
 done:=fun s Q E st hQ=>Ck hh st.1 st.2.1 st.2.2.2 (MA _) fun h' he'=>hQ h' s.toks fun b o hb e=>he' b o (fun h=>hb (by simp [h])) e
 self:=fun _ _ _ _ st hQ=>wpAny_pyIter_keyiter st.1 hQ
theorem BG (lo:(d==sysModules)=false):PySem.W.KdlSrc prog w "dict" d d es.size (fun i v=>∃ e,es[i]?=some e/\v=e.key) (GU d o es ep) where
 type:=fun _ hm=>⟨o,hm.1,hm.2.1.1⟩
 there:=fun _ hm=>⟨PQ hm.1,PQ hm.1⟩
 keep:=fun _ _ hm hk=>⟨hk d (.inl rfl) o hm.1,hm.2⟩
 notList:=by decide
 notTuple:=by decide
 hint:=fun _ _ _ _ hm hq=>PySem.W.kdl_hint_dict ⟨o,hm.1,hm.2.1.1⟩ hq
 iter:=fun _ _ hh hm=>⟨_,_,(fun _ _ hq=>Aj lo hm.1 hm.2.1 hm.2.2 hq),ym (ep:=ep) (o:=o) hh _ (Mq (PQ hm.1)),⟨⟨_,PY _ rfl,rfl,rfl⟩,PX _ hm.1,hm.2⟩⟩
end
variable [aR]
def Do:List D->List D->Option (List (List Key×D))
 | .non::ks,ds=>jL ks ds
 | ks,ds=>jL ks ds
theorem zH {K:Pa} {H:Hp} {v:V} {ks ds:List D} {al:List (List Key×D)} (h:cK K H (.dct ks ds) v) (e:Do ks ds=some al) :
  ∃ a,v=.ref a/\((∃ kvs:List (List Key×V),Rd H a (.dT kvs)/\kvs.map (·.1)=al.map (·.1)/\aW K H (al.map (·.2)) (kvs.map (·.2)))\/(H a=some (.dK [])/\al=[])):=by
 unfold Do at e
 split at e
 ·obtain⟨f1,f2⟩:=ic e
  subst f1 f2
  obtain⟨a,o,kvs,q1,q2,q3,q4⟩:=wt h
  exact⟨a,q1,.inl ⟨kvs,.inr ⟨o,q2⟩,q3,q4⟩⟩
 ·obtain⟨f1,f2⟩:=ic e
  subst f1 f2
  obtain⟨a,q1,q2⟩:=xu h
  rcases q2 with ⟨kvs,q2,q3⟩ | q2
  ·exact⟨a,q1,.inl ⟨kvs,.inl q2,q3⟩⟩
  ·exact⟨a,q1,.inr q2⟩
section
variable {X:Cx}
def lD:List D->Option D
 | [.dct ks ds]=>(Do ks ds).bind fun al=>some (.lst (encK al))
 | _=>none
theorem Bw {pins:List (Qs×Obj)} {σ:St} {H:Hp} {s:QB} (I:Inv X pins σ H s) {a:Qs} {kvs:List (List Key×V)} (e:Rd H a (.dT kvs)):kvs.length<=Qv/\(a==sysModules)=false/\∃ o es ep,GU a o es ep s.heap/\es.size=kvs.length/\∀ (i:Nat) u,es[i]?=some u->∃ b q,u.key=.ref b/\kvs[i]?.map (·.1)=some q/\H b=some (.tup (q.map kV)):=by
 obtain⟨z,hd,xs,rel,o,es,ep,h1,h2,h3,h4,_⟩:=wm I.hok e
 have hl:es.size=kvs.length:=by rw [<- Array.length_toList,h4,MI]; exact(Paired.length rel).symm
 refine⟨z,hd,o,es,ep,⟨h1,h2,h3⟩,hl,fun i u eu=>?_⟩
 have hi:i < kvs.length:=by
  have:=(Array.getElem?_eq_some_iff.mp eu).1
  omega
 obtain⟨x,ex,f1,f2,f3⟩:=rJ rel (i:=i) (x:=kvs[i]) (by simp [hi])
 have:es.toList[i]?=some (entryOfKey (tupleKind (bV X.prog X.w)) x):=by rw [h4,MS,ex]; rfl
 rw [Array.getElem?_toList,eu] at this
 cases this
 exact⟨x.2.1,kvs[i].1,rfl,by simp [hi],f2⟩
theorem rH (hc:X.calm=true):dR X (.type "list") (vW X.K lD):=by
 intro pins s σ H xs us Q I r ⟨O,ds,d,hO,hd,hg,q⟩
 unfold lD at hg
 split at hg
 ·rename_i ks vs0
  cases hk:Do ks vs0 with
  | none=>rw [hk] at hg; cases hg
  | some al =>
   rw [hk] at hg
   cases hg
   obtain⟨v,ev,h1⟩:=hd.one
   subst ev
   obtain⟨a,ea,hh⟩:=zH h1 hk
   subst ea
   obtain⟨u,rfl,ru⟩:=vals1 r
   cases ru
   have fin:∀ (H0:Hp) (kvs:List (List Key×V)),Inv X pins σ H0 s->Rd H0 a (.dT kvs)->kvs.map (·.1)=al.map (·.1)->(∀ b ys,H0 b=some (.tup ys)->H b=some (.tup ys))->QD (model X.prog X.w) X.A (call (.type "list") [.ref a]) (EP X pins σ Q) X.xe s:=fun H0 kvs I0 hr hk2 ht=>by
    obtain⟨z,hs,o,es,ep,raw,hsz,hkey⟩:=Bw I0 hr
    have hl:al.length=kvs.length:=by have:=congrArg List.length hk2; simpa using this.symm
    refine PK (BG hs) (I.ok.hd hc) raw (by rw [hsz]; exact z) fun h' tk acc' c' kp e2 it=>?_
    have key:∃ ws:List V,Vals ws acc'.toList/\aW X.K (hid H O) (encK al) ws:=by
     have hlen:acc'.toList.length=al.length:=by rw [Array.length_toList,it.1,hsz,hl]
     have each:∀ (j:Nat) (u:Qp),acc'.toList[j]?=some u->∃ b q,u=.ref b/\al[j]?.map (·.1)=some q/\H b=some (.tup (q.map kV)):=fun j u e=>by
      obtain⟨en,e3,e4⟩:=it.2 j u (by rw [<- Array.getElem?_toList]; exact e)
      obtain⟨b,q,w1,w2,w3⟩:=hkey j en e3
      refine⟨b,q,by rw [e4,w1],?_,ht _ _ w3⟩
      have:=congrArg (fun l=>l[j]?) hk2
      simp only [MS] at this
      rw [<- this]; exact w2
     clear it e2
     generalize acc'.toList=us at hlen each
     clear hk hl hk2 h1 hh q
     induction us generalizing al with
     | nil =>
      cases al with
      | nil=>exact⟨[],.nil,cT.mpr rfl⟩
      | cons _ _=>cases hlen
     | cons u us ih =>
      cases al with
      | nil=>cases hlen
      | cons p al =>
       obtain⟨ws,w1,w2⟩:=ih (al:=al) (by simpa using hlen) fun j u e=>by
        have:=each (j+1) u (by rw [NQ]; exact e)
        rw [NQ] at this; exact this
       obtain⟨b,q,e1,e2,e3⟩:=each 0 u rfl
       cases e2
       have bO:b∉O:=fun z=>by
        obtain⟨u',q1,q2⟩:=hO.2 b z
        rw [e3] at q1; cases q1; exact q2
       exact⟨.ref b::ws,.cons (by rw [e1]; rfl) w1,bC.mpr ⟨.ref b,ws,rfl,cC.mpr ⟨b,_,rfl,by rw [jj bO]; exact e3,vK p.1⟩,w2⟩⟩
    obtain⟨ws,rv,dn⟩:=key
    have wl:ws.length<=Qv:=by rw [<- dn.length,MI,hl]; exact z
    refine⟨.ref s.heap.objs.size,_,I.laid (t':=tk) kp (MA _) (show cx X.prog X.w _ h' _ (.lst ws) from ⟨wl,acc'.toList,c',rv,by simpa using e2⟩),rfl,?_⟩
    have hf:=I.hok.fresh (MA s.heap.objs.size)
    exact q _ _ (bD hf _) (dg hO hf dn)
   rcases hh with ⟨kvs,hr,e1,_⟩ | ⟨hr,e1⟩
   ·refine fin H kvs I ?_ e1 fun _ _ z=>z
    rcases hr with hr | ⟨o,hr⟩
    ·exact .inl ((aC H O) _ _ hr)
    ·exact .inr ⟨o,(aC H O) _ _ hr⟩
   ·have ha:=(aC H O) _ _ hr
    refine fin _ [] (Bs I ha) (.inl aM) (by rw [e1]; rfl) fun b ys eb=>?_
    by_cases z:b=a
    ·rw [z,aM] at eb; cases eb
    ·rw [aD z] at eb; exact eb
 ·cases hg
end
end TG
namespace TG
open PySem PySem.Spec PySem.Calls L2
variable [aR]
def yo (dd k:D):Option D:=match dd with
 | .dct ks ds=>(Do ks ds).bind fun al=>(ig k).bind fun q=>pG al q
 | _=>none
theorem GR {H:Hp} {O:List Qs} {a:Qs} {u:HO} (h:Rd (hid H O) a u):Rd H a u:=by
 rcases h with h | ⟨o,h⟩
 ·exact .inl ((aC H O) _ _ h)
 ·exact .inr ⟨o,(aC H O) _ _ h⟩
section
variable {X:Cx}
theorem J8 {o e:QE} {fo fk:FX} {pos:Pos} (hu:X.A.units+64 < QZ) (ho:FE X o fo) (hi:FE X e fk) (hs:DK e):FE X (.Subscript o e pos) (f2 yo fo fk) :=
 PE.weak (EB ‹0› ho hi hs) fun σ H Q ⟨O,ρ,E,hF⟩=>⟨O,ρ,E,(iU.bind hF).imp fun dd hF v H1 s1 d1=>⟨O,ρ,E.same s1,((iU.bind hF).mono s1).imp fun k hF y H2 s2 d2=>by
  obtain⟨d,hg,q⟩:=iU.rO hF
  cases dd with
  | dct ks ds =>
   have hg:(Do ks ds).bind (fun al=>(ig k).bind fun q=>pG al q)=some d:=hg
   cases hk:Do ks ds with
   | none=>rw [hk] at hg; cases hg
   | some al =>
    rw [hk] at hg
    cases ht:ig k with
    | none=>rw [ht] at hg; cases hg
    | some qk =>
     rw [ht] at hg
     have hg:pG al qk=some d:=hg
     obtain⟨a,ea,hh⟩:=zH (d1.mono (bT s2)) hk
     rw [mj ht] at d2
     obtain⟨b,ws,eb,g1,g2⟩:=cC.mp d2
     rw [iB g2] at g1
     rcases hh with ⟨kvs,hr,e1,e2⟩ | ⟨_,rfl⟩
     ·rcases wf qk e1 e2 with ⟨_,z2⟩ | ⟨w,d',z1,z2,z3⟩
      ·rw [z2] at hg; cases hg
      ·rw [z2] at hg; cases hg
       exact⟨a,w,ea,by rw [<- z1]; exact .inr ⟨kvs,qk,b,GR hr,eb,(aC H2 O) _ _ g1,rfl⟩,q w H2 (s1.trans s2) z3⟩
     ·cases hg
  | _=>cases hg⟩⟩
end
def C5 (i:Nat) (f:FX):cB:=fun k ρ=>match ρ[i]? with
 | some (some (.own (.lst xs)))=>sM (f ρ) k ρ fun d=>match d with
  | .lst ys=>if small (xs.length+ys.length) then k.nx (ρ.set i (some (.own (.lst (xs++ys))))) else un
  | _=>un
 | _=>un
theorem LC {X:Cx} {i:Nat} {x:Str} {e:QE} {f:FX} {npos apos cpos pos:Pos} (hx:PE X (.Name x npos) (rL i)) (he:FN X e f) (hns:noStar e=true:=by rfl)
  (hbase:Rl (.Name x npos) "extend" X.env (eval (.Name x npos) X.env)=eval (.Name x npos) X.env:=by rfl)
  (hfew:((backTo cpos (QF [e] X.env)).all (fun x=>!x.1) && (backToKw cpos (QX [] X.env)).all (fun x=>x.1.isSome) && decide (([e]:List QE).length+([]:List Rm).length+(if ([]:List Rm).isEmpty then 0 else 1) < 30))=true:=by rfl)
  (hline:(apos.endLine==cpos.line)=true:=by rfl) (hplain:(backTo cpos (QF [] X.env)).any (·.1)=false:=by rfl)
  (hsw:swapsWith (.Call (.Attribute (.Name x npos) "extend" apos) [e] [] cpos) none pos.line X.env=pure false:=by rfl) :
  FS X (.Expr (.Call (.Attribute (.Name x npos) "extend" apos) [e] [] cpos) pos) (C5 i f):=fun Hb Ob pins s σ H E I ⟨O,ρ,k,rr,S,hF,hk⟩=>by
 unfold C5 at hF
 split at hF
 ·rename_i xs hxs
  obtain⟨a,ha,haO,hat⟩:=S.env.own i _ hxs
  obtain⟨o,vs0,ho,eo,dn⟩:=hat
  subst eo
  refine vI (zp F.plainAttrs_list F.slot_list_extend F.type_list_extend AR hx (kJ he o5 (cW hns)) hbase hfew hline (cW hns) hplain) hsw pins s σ H E I ⟨.ref a,ha,.inl ⟨rfl,vs0,nV.of ho⟩,O,ρ,S.env,iU.on hF hk S fun d hr p H1 s1 hp m own=>?_⟩
  have S1:=S.same s1
  cases d with
  | lst ys =>
   have hr:(if small (xs.length+ys.length) then k.nx (ρ.set i (some (.own (.lst (xs++ys))))) else un)=rr:=hr
   cases hsm:small (xs.length+ys.length) with
   | false=>rw [hsm] at hr; exact absurd hr.symm hk.ne
   | true =>
    rw [hsm] at hr
    obtain⟨o,zs,h1,h2,h3⟩:=own
    subst h2
    have dz:aW X.K (hid H1 O) ys zs:=h3.mono (gL fun b hb=>Mv _ hb)
    have hz:=eA hsm
    exact⟨a,p,vs0,zs,rfl,rfl,s1 _ _ ho,h1,by rw [<- dn.length,<- dz.length]; exact hz,hk.nx O _ σ _ (S1.setO hxs ha trivial (pY haO ((dn.mono (bT s1)).append dz))) hr⟩
  | _=>exact absurd (show un=rr from hr).symm hk.ne
 ·exact absurd hF.symm hk.ne
def sE:List D->Option D
 | [.lst xs]=>(gY xs).bind fun ps=>if small ps.length then some (nI (uN ps)) else none
 | _=>none
section
variable {X:Cx}
theorem xW (hc:X.calm=true) (hu:X.A.units+64 < QZ):dR X (.type "dict") (vW X.K sE):=by
 intro pins s σ H xs us Q I r ⟨O,ds,d,hO,hd,hg,q⟩
 unfold sE at hg
 split at hg
 ·rename_i ys
  cases hp:gY ys with
  | none=>rw [hp] at hg; cases hg
  | some ps =>
   rw [hp] at hg
   obtain⟨sm,rfl⟩:=bK (show (if small ps.length then some (nI (uN ps)) else none)=some d from hg)
   obtain⟨v,rfl,h1⟩:=hd.one
   obtain⟨p,ws,rfl,g1,g2⟩:=cD.mp h1
   obtain⟨u,rfl,ru⟩:=vals1 r
   cases ru
   obtain⟨its,rv,⟨o,n,ho,hcl,hd',hdd⟩,hz⟩:=I.list ((aC H O).seq g1)
   rw [oZ hp] at g2
   obtain⟨L,ks,l1,l2,l3,l4,l5⟩:=oN I g2 rv
   have kl:ks.length=ps.length:=by have:=congrArg List.length l4; simpa using this
   have ll:ks.length=L.length:=Paired.length l3
   have key:∀ {ks:List (List Key×V)} {L:List (List Key×Qs×Qp)},KT H ks L->∀ x∈L,∀ h,Keeps s.heap h->(tupleKind (bV X.prog X.w)).is h x.1 x.2.1:=fun {ks L} kt=>by
    induction kt with
    | nil=>intro x hx; cases hx
    | cons hq _ ih =>
     intro x hx h kh
     rcases List.mem_cons.mp hx with z | z
     ·subst z
      obtain⟨e1,e2,_⟩:=hq
      rw [e1] at e2
      obtain⟨o,xs,n,k1,k2⟩:=nH I.hok e2
      exact⟨o,xs,n,kh _ _ k1,k2⟩
     ·exact ih x z h kh
   obtain⟨f1,f2,f3,f4⟩:=rP (K:=X.K) (H:=H) (H0:=hid H O) (al:=[]) (kvs:=[]) (xs:=[]) l3 l4 l5 .nil rfl (cT.mpr rfl)
   have hsz:ps.length<=100000:=of_decide_eq_true sm
   have sl:Qv=16777216:=QU
   refine lE (knd:=tupleKind (bV X.prog X.w)) (L:=L) ho hcl hdd hd' (I.ok.hd hc) (Rn (by rw [in1_units]; omega)) (by simpa using l1) ‹0› (fun i v e=>l2 i v (by simpa using e)) (key l3) fun h' tk kp di=>?_
   have hf:=I.hok.fresh (MA s.heap.objs.size)
   obtain⟨⟨od,es,ep,k1,k2,k3,k4,k5⟩,_⟩:=di
   have kt':KT (upd H s.heap.objs.size (.frz od (.dT (ks.foldl (fun m p=>putK m p.1 p.2) [])))) (ks.foldl (fun m p=>putK m p.1 p.2) []) (L.foldl (fun xs x=>storedH xs x.1 x.2.1 x.2.2) []):=KT.keeps f1 fun b ys eb=>by rw [aD (fun z=>by rw [z,hf] at eb; cases eb)]; exact eb
   refine⟨.ref s.heap.objs.size,_,I.laid (t':=tk) kp (MA _) (show cx X.prog X.w _ h' _ (.frz od (.dT (ks.foldl (fun m p=>putK m p.1 p.2) []))) from ⟨k1,by simp only [M6] at f4; omega,beq_eq_false_iff_ne.mpr (Ne.symm (Mq I.big)),_,kt',od,es,ep,k1,k2,k3,k4,k5⟩),rfl,?_⟩
   refine q _ _ (bD hf _) ?_
   have pO:=hO.not hf
   refine JD.mpr ⟨s.heap.objs.size,_,rfl,f3.mono (qI hf),.inr (.inr ⟨_,od,by rw [jj pO]; exact aM,congrArg _ (se f2),rfl⟩)⟩
 ·cases hg
end
end TG
namespace TX
open PySem PySem.Spec L2 TG
variable [aR]
structure XE (X:Cx) (e:QE) (F:FX):Prop where h:FE X e F
structure XT (X:Cx) (e:QE) (F:aq->R Bool):Prop where h:FT X e F
structure XW (X:Cx) (e:QE) (F:aq->R Bool):Prop where h:FW X e F
structure XA (X:Cx) (e:List QE) (F:aq->R (List D)):Prop where h:FA X e F
structure XS (X:Cx) (e:QG) (F:cB):Prop where h:FS X e F
structure yw (X:Cx) (e:List QG) (F:cB):Prop where h:xG X e F
structure XI (X:Cx) (t e:QE) (F:aq->R (List D)):Prop where h:FI X t e F
structure XG (X:Cx) (e:QE) (F:GF):Prop where h:FG X e F
structure Js (X:Cx) (e:List QE) (F:Bj):Prop where h:HX X e F
structure XO (X:Cx) (e:Option QE) (F:aq->R (Option Int)):Prop where h:FO X e F
structure XN (X:Cx) (e:QE) (F:FX):Prop where h:FN X e F
structure Ki (X:Cx) (e:List QE) (F:aq->R Bool):Prop where h:Jz X e F
structure XV (X:Cx) (e:QE) (i:Nat):Prop where h:PE X e (rL i)
structure XB (X:Cx) (scope:QC) (N:List Str) (tg elt:QE) (ifs:List QE) (g:GF) (C:aq->R Bool) (Fe:FX) (cl:List (Str×Qs)) (C':Qs) (fp:List Qs) (s:QB) (H:Hp) (E:Qp->QB->Prop):Prop where
 a:XG (cE X scope N cl C' fp s H E) tg g
 b:Ki (cE X scope N cl C' fp s H E) ifs C
 c:XE (cE X scope N cl C' fp s H E) elt Fe
structure CV (X:Cx) (scope:QC) (N:List Str) (tg elt:QE) (ifs:List QE) (g:GF) (C:aq->R Bool) (Fe:FX):Prop where
 q:∀ cl C' fp s H E,XB X scope N tg elt ifs g C Fe cl C' fp s H E
theorem CV.h {X:Cx} {scope:QC} {N:List Str} {tg elt:QE} {ifs:List QE} {g:GF} {C:aq->R Bool} {Fe:FX} (x:CV X scope N tg elt ifs g C Fe):Hs X scope N tg elt ifs g C Fe:=fun cl C' fp s H E=>⟨(x.q cl C' fp s H E).a.h,(x.q cl C' fp s H E).b.h,(x.q cl C' fp s H E).c.h⟩
theorem xv {X:Cx} (i:Nat) {x:Str} {pos:Pos} (hN:X.N[i]?=some x:=by rfl) (hv:Gn X.env.scope x:=by first | exact Or.inl rfl | exact Or.inr (Or.inl rfl) | exact Or.inr (Or.inr rfl)) (hd:(x==("__debug__":Str))=false:=by decide)
  (hcd:(x==("__classdict__":Str))=false:=by decide):XV X (.Name x pos) i:=⟨pv i hN hv hd hcd⟩
theorem Ht {X:Cx} {e:QE} {f:aq->R Bool} (h:XW X e f):XT X e f:=⟨FW.ft h.h⟩
section
variable [aR] {X:Cx}
theorem aa {i:Nat} {x:Str} {pos:Pos} (h:XV X (.Name x pos) i):XE X (.Name x pos) (ah i):=⟨TG.JW h.h⟩
end
section
variable [aR] {X:Cx}
theorem ai {i j pos}:XE X (.Constant (.int i) j pos) (fC (.int i)):=⟨TG.JR ⟩
end
section
variable [aR] {X:Cx}
theorem kW {b j pos}:XE X (.Constant (.bool b) j pos) (fC (.bl b)):=⟨TG.LV ⟩
end
section
variable [aR] {X:Cx}
theorem gI {x j pos}:XE X (.Constant (.str x) j pos) (fC (.str x)):=⟨TG.JU ⟩
end
section
variable [aR] {X:Cx}
theorem aj :XA X [] au:=⟨TG.FK ⟩
end
section
variable [aR] {X:Cx}
theorem ae {e:QE} {es:List QE} {f:FX} {g:aq->R (List D)} (he:XE X e f) (hs:XA X es g) (hns:noStar e=true:=by rfl):XA X (e::es) (af f g):=⟨TG.DP he.h hs.h hns⟩
end
section
variable [aR] {X:Cx}
theorem bE {es:List QE} {g:aq->R (List D)} {k pos} (h:XA X es g):XE X (.Tuple es k pos) (cA g):=⟨TG.J6 h.h⟩
end
section
variable [aR] {X:Cx}
theorem jY {es:List QE} {g:aq->R (List D)} {pos} (h:XA X es g):XE X (.List es pos) (jG g):=⟨TG.Kr h.h⟩
end
section
variable [aR] {X:Cx}
theorem ao {a b:QE} {op:Operator} {r:R2} {g:D->D->Option D} {fa fb:FX} {pos:Pos} (ho:lX X (QR op) r) (s:eO X.K r g) (ha:XE X a fa) (hb:XE X b fb):XE X (.BinOp a op b pos) (f2 g fa fb):=⟨TG.LI ho s ha.h hb.h⟩
end
section
variable [aR] {X:Cx}
theorem oC {a b:QE} {op:CmpOp} {r:R2} {g:D->D->Option D} {fa fb:FX} {pos:Pos} (ho:lX X (QS op) r) (s:eO X.K r g) (ha:XE X a fa) (hb:XE X b fb) (hm:QT op b=false):XE X (.Compare a [op] [b] pos) (f2 g fa fb):=⟨TG.Lg ho s ha.h hb.h hm⟩
end
section
variable [aR] {X:Cx}
theorem bN {a b:QE} {op:CmpOp} {r:R2} {g:D->D->Option D} {fa fb:FX} {pos:Pos} (ho:lX X (QS op) r) (s:eO X.K r g) (ha:XE X a fa) (hb:XE X b fb) (hm:QT op b=false):XT X (.Compare a [op] [b] pos) (fB (f2 g fa fb)):=⟨TG.Kg ho s ha.h hb.h hm⟩
end
section
variable [aR] {X:Cx} {a b c:QE} {rest:List QE} {pos:Pos} {f g:aq->R Bool}
theorem mU (h:XT X a f):XT X (.UnaryOp .Not a pos) (nK f):=⟨TG.Ky h.h⟩
end
section
variable [aR] {X:Cx} {a b c:QE} {rest:List QE} {pos:Pos} {f g:aq->R Bool}
theorem xn (h:XT X a f):XW X (.BoolOp .And [a] pos) f:=⟨TG.JG h.h⟩
end
section
variable [aR] {X:Cx} {a b c:QE} {rest:List QE} {pos:Pos} {f g:aq->R Bool}
theorem qq (h:XT X a f):XW X (.BoolOp .Or [a] pos) f:=⟨TG.Kp h.h⟩
end
section
variable [aR] {X:Cx} {a b c:QE} {rest:List QE} {pos:Pos} {f g:aq->R Bool}
theorem zt (ha:XT X a f) (hb:XW X (.BoolOp .And (b::rest) pos) g):XW X (.BoolOp .And (a::b::rest) pos) (xJ f g):=⟨TG.Kj ha.h hb.h⟩
end
section
variable [aR] {X:Cx} {a b c:QE} {rest:List QE} {pos:Pos} {f g:aq->R Bool}
theorem vL (ha:XT X a f) (hb:XW X (.BoolOp .Or (b::rest) pos) g):XW X (.BoolOp .Or (a::b::rest) pos) (DM f g):=⟨TG.LW ha.h hb.h⟩
end
section
variable [aR] {X:Cx} {a b c:QE} {rest:List QE} {pos:Pos} {f g:aq->R Bool} {fa fb:FX}
theorem qD {op} (h:XE X a fa):XE X (.BoolOp op [a] pos) fa:=⟨TG.Li h.h⟩
end
section
variable [aR] {X:Cx} {a b c:QE} {rest:List QE} {pos:Pos} {f g:aq->R Bool} {fa fb:FX}
theorem ow (ha:XE X a fa) (hb:XE X (.BoolOp .And (b::rest) pos) fb):XE X (.BoolOp .And (a::b::rest) pos) (nu fa fb):=⟨TG.Lz ha.h hb.h⟩
end
section
variable [aR] {X:Cx}
theorem bh {a b:QE} {fa fb:FX} {pos:Pos} (ha:XE X a fa) (hb:XE X b fb) (hs:vq b):XE X (.Subscript a b pos) (f2 bq fa fb):=⟨TG.LO ha.h hb.h hs⟩
end
section
variable [aR] {X:Cx}
theorem bL :XO X none aP:=⟨TG.Jp ⟩
end
section
variable [aR] {X:Cx}
theorem bI {e:QE} {f:FX} (h:XE X e f):XO X (some e) (bH f):=⟨TG.JE h.h⟩
end
section
variable [aR] {X:Cx}
theorem bz {e:QE} {f:FX} {l h:aq->R (Option Int)} {lo hi:Option QE} {p2 pos:Pos} (he:XE X e f) (hl:XO X lo l) (hh:XO X hi h):XE X (.Subscript e (.Slice lo hi none p2) pos) (bf f l h):=⟨TG.Ik he.h hl.h hh.h⟩
end
section
variable [aR] {X:Cx} {x:Str} {p pos:Pos} {e:QE} {es:List QE} {id T:String} {g:List D->Option D} {f:aq->R (List D)}
theorem bQ (hc:dR X (.builtin id) (vW X.K g)) (hg:Gl X x) (hm:X.mg x=none) (hv:Qz x=some (.builtin id)) (ha:XA X (e::es) f) (hn:x ≠ "__name__":=by decide) (hdb:(x==("__debug__":Str))=false:=by decide) (hns:(e::es).all noStar=true:=by rfl):XE X (.Call (.Name x p) (e::es) [] pos) (fL g f):=⟨TG.IQ hc hg hm hv ha.h hn hdb hns⟩
end
section
variable [aR] {X:Cx} {x:Str} {p pos:Pos} {e:QE} {es:List QE} {id T:String} {g:List D->Option D} {f:aq->R (List D)}
theorem bx (hc:dR X (.type T) (vW X.K g)) (hg:Gl X x) (hm:X.mg x=none) (hv:Qz x=some (.type T)) (ha:XA X (e::es) f) (hn:x ≠ "__name__":=by decide) (hdb:(x==("__debug__":Str))=false:=by decide) (hns:(e::es).all noStar=true:=by rfl):XE X (.Call (.Name x p) (e::es) [] pos) (fL g f):=⟨TG.Ho hc hg hm hv ha.h hn hdb hns⟩
end
section
variable [aR] {X:Cx} {x:Str} {p pos:Pos} {e:QE} {es:List QE} {id T:String} {g:List D->Option D} {f:aq->R (List D)}
theorem ik {f:FX} {xT:Str} {p2:Pos} (ok:xD X.K T) (hg:Gl X "isinstance") (hm:X.mg "isinstance"=none) (hgT:Gl X xT) (hmT:X.mg xT=none) (hvT:Qz xT=some (.type T)) (he:XE X e f) (hn2:xT ≠ "__name__":=by decide) (hd2:(xT==("__debug__":Str))=false:=by decide) (hns:noStar e=true:=by rfl):XE X (.Call (.Name "isinstance" p) [e,.Name xT p2] [] pos) (qp T f):=⟨TG.J5 ok hg hm hgT hmT hvT he.h hn2 hd2 hns⟩
end
section
variable [aR] {X:Cx} {a:QE} {f:FX} {pos:Pos}
theorem eD (h:XE X a f) (he:∀ whole,isTrue a X.env whole=(do let v <- whole; standAt a.pos; holding [v] (truthy v)):=by intro _; rfl):XT X a (dW f):=⟨TG.HS h.h he⟩
end
section
variable [aR] {X:Cx} {tg:QE}
theorem bX {e:QE} {f:FX} (h:XE X e f):XI X tg e (bw f):=⟨TG.K8 h.h⟩
end
section
variable [aR] {X:Cx} {tg:QE}
theorem iP {a:QE} {f:aq->R (List D)} {p pos:Pos} (hg:Gl X "range") (hm:X.mg "range"=none) (ha:XA X [a] f) (hs:QF [a] X.env=[(false,eval a X.env)]:=by rfl):XI X tg (.Call (.Name "range" p) [a] [] pos) (fN f):=⟨TG.Hx hg hm ha.h hs⟩
end
section
variable [aR] {X:Cx} {tg:QE}
theorem xQ {a b:QE} {f:aq->R (List D)} {p pos:Pos} (hg:Gl X "range") (hm:X.mg "range"=none) (ha:XA X [a,b] f) (hs:QF [a,b] X.env=[(false,eval a X.env),(false,eval b X.env)]:=by rfl) (hs2:QF [b] X.env=[(false,eval b X.env)]:=by rfl):XI X tg (.Call (.Name "range" p) [a,b] [] pos) (qx f):=⟨TG.Hu hg hm ha.h hs hs2⟩
end
section
variable [aR] {X:Cx} {pos:Pos}
theorem aH {i:Nat} {x:Str} (hN:X.N.Nodup) (hi:X.N[i]?=some x) (hx:Loc X.env.scope x) (hf:X.fn x=true\/X.env.scope.names.lookup x=some .local:=by first | exact .inl rfl | exact .inr rfl | assumption):XG X (.Name x pos) (gN i):=⟨TG.JA hN hi hx hf⟩
end
section
variable [aR] {X:Cx} {pos:Pos}
theorem iS :Js X [] CC:=⟨TG.Jn ⟩
end
section
variable [aR] {X:Cx} {pos:Pos}
theorem cH {e:QE} {es:List QE} {g:GF} {h:Bj} (h1:XG X e g) (h2:Js X es h) (hs:(assignEach (e::es) X.env).map (·.2)=assign e X.env::(assignEach es X.env).map (·.2):=by rfl):Js X (e::es) (xY g h):=⟨TG.HY h1.h h2.h hs⟩
end
section
variable [aR] {X:Cx} {pos:Pos}
theorem kC {es:List QE} {k:Nat} {g:Bj} {n:Nat} (hc:X.calm=true) (h:Js X es g) (hn:(assignEach es X.env).length=n:=by rfl) (hst:(assignEach es X.env).findIdx? (·.1)=none:=by rfl):XG X (.Tuple es k pos) (gT n g):=⟨TG.KH hc h.h hn hst⟩
end
section
variable [aR]
theorem dL {X:Cx}:Ki X [] dE:=⟨TG.JF ⟩
end
section
variable [aR]
theorem eU {X:Cx} {c:QE} {F:aq->R Bool} (h:XT X c F):Ki X [c] F:=⟨TG.JL h.h⟩
end
section
variable [aR] {X:Cx} {elt tg iter:QE} {ifs:List QE} {scope:QC} {pos:Pos} {N:List Str} {ix:List (Option Nat)} {G:aq->R (List D)} {g:GF} {C:aq->R Bool} {Fe:FX}
theorem fw (hc:X.calm=true) (ok:ie X scope N ix) (tk:qj ix g) (hi:XI X tg iter G) (hb:CV X scope N tg elt ifs g C Fe) (hs:∀ x,QP iter X.env x=pure x:=by intro _; rfl):XE X (.ListComp elt [⟨tg,iter,ifs,0⟩] scope pos) (fY ix G g C Fe):=⟨TG.LK hc ok tk hi.h hb.h hs⟩
end
section
variable [aR] {X:Cx} {st:QG} {rest body:List QG} {pos:Pos}
theorem bn :yw X [] cX:=⟨TG.Jo ⟩
end
section
variable [aR] {X:Cx} {st:QG} {rest body:List QG} {pos:Pos}
theorem ak {F1 F2:cB} (h1:XS X st F1) (h2:yw X rest F2):yw X (st::rest) (aK F1 F2):=⟨TG.HA h1.h h2.h⟩
end
section
variable [aR] {X:Cx} {st:QG} {rest body:List QG} {pos:Pos}
theorem aE {F1:cB} (h1:XS X st F1):yw X [st] F1:=⟨TG.Jl h1.h⟩
end
section
variable [aR] {X:Cx} {st:QG} {rest body:List QG} {pos:Pos}
theorem bb {e:QE} {f:FX} (h:XE X e f):XS X (.Return (some e) pos) (ce f):=⟨TG.KY h.h⟩
end
section
variable [aR] {X:Cx} {st:QG} {rest body:List QG} {pos:Pos}
theorem dD {c:QE} {a b:List QG} {tc:aq->R Bool} {A B:cB} (hc:XT X c tc) (ha:yw X a A) (hb:yw X b B):XS X (.If c a b pos) (ng tc A B):=⟨TG.LY hc.h ha.h hb.h⟩
end
section
variable [aR] {X:Cx} {st:QG} {rest body:List QG} {pos:Pos}
theorem aJ {i:Nat} {x:Str} {e:QE} {f:FX} {pos':Pos} (hN:X.N.Nodup) (hi:X.N[i]?=some x) (hx:Loc X.env.scope x) (he:XE X e f) (hs:swapsWith e (some (.Name x pos')) pos.line X.env=pure false:=by rfl) (hf:X.fn x=true\/X.env.scope.names.lookup x=some .local:=by first | exact .inl rfl | exact .inr rfl | assumption):XS X (.Assign [.Name x pos'] e pos) (bM i f):=⟨TG.Ly hN hi hx he.h hs hf⟩
end
section
variable [aR] {X:Cx} {st:QG} {rest body:List QG} {pos:Pos}
theorem oW {elt tg iter:QE} {ifs:List QE} {scope:QC} {N:List Str} {ix:List (Option Nat)} {G:aq->R (List D)} {g:GF} {C:aq->R Bool} {Fe:FX} {i:Nat} {y:Str} {lpos py spos:Pos} (hN:X.N.Nodup) (hi':X.N[i]?=some y) (hx:Loc X.env.scope y) (hc:X.calm=true) (ok:ie X scope N ix) (tk:qj ix g) (hi:XI X tg iter G) (hb:CV X scope N tg elt ifs g C Fe) (hsw:swapsWith (.ListComp elt [⟨tg,iter,ifs,0⟩] scope lpos) (some (.Name y py)) spos.line X.env=pure true:=by rfl) (hs:∀ x,QP iter X.env x=pure x:=by intro _; rfl) (hf:X.fn y=true\/X.env.scope.names.lookup y=some .local:=by first | exact .inl rfl | exact .inr rfl | assumption):XS X (.Assign [.Name y py] (.ListComp elt [⟨tg,iter,ifs,0⟩] scope lpos) spos) (bM i (fY ix G g C Fe)):=⟨TG.LX hN hi' hx hc ok tk hi.h hb.h hsw hs hf⟩
end
section
variable [aR] {X:Cx} {st:QG} {rest body:List QG} {pos:Pos}
theorem cI {st:List QG} {F:cB} (is:List Nat) (h:yw X st F):yw X st (fJ is F):=⟨TG.HV is h.h⟩
end
section
variable [aR] {X:Cx} {st:QG} {rest body:List QG} {pos:Pos}
theorem eW {tg iter:QE} {G:aq->R (List D)} {g:GF} {B:cB} (hp:QO (model X.prog X.w) X.A X.env X.xe) (hc:X.calm=true) (hi:XI X tg iter G) (hg:XG X tg g) (hb:yw X body B) (hs:∀ x,QP iter X.env x=pure x:=by intro _; rfl):XS X (.For tg iter body [] pos) (ky G g B):=⟨TG.JS hp hc hi.h hg.h hb.h hs⟩
end
section
variable [aR] {X:Cx} {pos:Pos}
theorem kx {es:List QE} {g:aq->R (List D)} (h:XA X es g):XN X (.List es pos) (jG g):=⟨TG.Kb h.h⟩
end
section
variable [aR] {X:Cx} {pos:Pos}
theorem BW {x:Str} {p:Pos} {e:QE} {f:aq->R (List D)} (hg:Gl X x) (hm:X.mg x=none) (hv:Qz x=some (.type "list")) (ha:XA X [e] f) (hn:x ≠ "__name__":=by decide) (hdb:(x==("__debug__":Str))=false:=by decide) (hns:noStar e=true:=by rfl):XN X (.Call (.Name x p) [e] [] pos) (fL jS f):=⟨TG.Jt hg hm hv ha.h hn hdb hns⟩
end
section
variable [aR] {X:Cx} {pos:Pos}
theorem oQ :XN X (.Dict [] [] pos) tQ:=⟨TG.CA ⟩
end
section
variable [aR] {X:Cx} {pos:Pos}
theorem fg {i:Nat} {x:Str} {e:QE} {f:FX} {pos':Pos} (hN:X.N.Nodup) (hi:X.N[i]?=some x) (hx:Loc X.env.scope x) (he:XN X e f) (hs:swapsWith e (some (.Name x pos')) pos.line X.env=pure false:=by rfl) (hf:X.fn x=true\/X.env.scope.names.lookup x=some .local:=by first | exact .inl rfl | exact .inr rfl | assumption):XS X (.Assign [.Name x pos'] e pos) (kP i f):=⟨TG.KN hN hi hx he.h hs hf⟩
end
section
variable [aR]
theorem Ak {X:Cx} {elt tg iter:QE} {ifs:List QE} {scope:QC} {N:List Str} {ix:List (Option Nat)} {G:aq->R (List D)} {g:GF} {C:aq->R Bool} {Fe:FX} {i:Nat} {y:Str} {lpos py spos:Pos} (hN:X.N.Nodup) (hi':X.N[i]?=some y) (hx:Loc X.env.scope y) (hc:X.calm=true) (ok:ie X scope N ix) (tk:qj ix g) (hi:XI X tg iter G) (hb:CV X scope N tg elt ifs g C Fe) (hsw:swapsWith (.ListComp elt [⟨tg,iter,ifs,0⟩] scope lpos) (some (.Name y py)) spos.line X.env=pure true:=by rfl) (hs:∀ x,QP iter X.env x=pure x:=by intro _; rfl) (hf:X.fn y=true\/X.env.scope.names.lookup y=some .local:=by first | exact .inl rfl | exact .inr rfl | assumption):XS X (.Assign [.Name y py] (.ListComp elt [⟨tg,iter,ifs,0⟩] scope lpos) spos) (kP i (fY ix G g C Fe)):=⟨TG.HF hN hi' hx hc ok tk hi.h hb.h hsw hs hf⟩
end
section
variable [aR]
theorem C7 {X:Cx} {elt tg iter:QE} {ifs:List QE} {scope:QC} {pos:Pos} {N:List Str} {ix:List (Option Nat)} {G:aq->R (List D)} {g:GF} {C:aq->R Bool} {Fe:FX} (hc:X.calm=true) (ok:ie X scope N ix) (tk:qj ix g) (hi:XI X tg iter G) (hb:CV X scope N tg elt ifs g C Fe) (hs:∀ x,QP iter X.env x=pure x:=by intro _; rfl):XN X (.ListComp elt [⟨tg,iter,ifs,0⟩] scope pos) (fY ix G g C Fe):=⟨TG.LN hc ok tk hi.h hb.h hs⟩
end
section
variable [aR]
theorem kB {X : Cx} {i : Nat} {x m : Str} {id : String} {r : V -> List V -> Hp -> VK -> Prop} {u : List D -> List D -> Option (List D)} {e : QE} {es : List QE} {f : aq -> R (List D)} {npos apos cpos pos : Pos} (slot : Slot "list" m id) (hty : typeOf (.builtin id) = pure (.type "method_descriptor")) (hm : IM X id r) (ok : Ca X.K r u) (hx : XV X (.Name x npos) i) (he : XA X (e :: es) f) (hbase : Rl (.Name x npos) m X.env (eval (.Name x npos) X.env) = eval (.Name x npos) X.env := by rfl) (hfew : ((backTo cpos (QF (e :: es) X.env)).all (fun x => !x.1) && (backToKw cpos (QX [] X.env)).all (fun x => x.1.isSome)
      && decide ((e::es:List QE).length+([]:List Rm).length+(if ([]:List Rm).isEmpty then 0 else 1) < 30))=true:=by rfl) (hline:(apos.endLine==cpos.line)=true:=by rfl) (hs:QF (e::es) X.env=(false,eval e X.env)::QF es X.env:=by rfl) (hplain:(backTo cpos (QF es X.env)).any (·.1)=false:=by rfl) (hsw:swapsWith (.Call (.Attribute (.Name x npos) m apos) (e::es) [] cpos) none pos.line X.env=pure false:=by rfl):XS X (.Expr (.Call (.Attribute (.Name x npos) m apos) (e::es) [] cpos) pos) (yL i u f):=⟨TG.LR slot hty hm ok hx.h he.h hbase hfew hline hs hplain hsw⟩
end
section
variable [aR]
theorem eS {X:Cx} {st:List QG} {F:cB} (i:Nat) (h:yw X st F):yw X st (hJ i F):=⟨TG.JB i h.h⟩
end
section
variable [aR]
theorem rR {X:Cx} {e:QE} {f:aq->R Bool} (is:List Nat) (h:XT X e f):XT X e (kI is f):=⟨TG.Ju is h.h⟩
end
section
variable [aR]
theorem ax {X:Cx} {k k':Nat} {ps:List Str} {g:List D->R D} {h:aq->R (List D)} {x:Str} {p pos:Pos} {e:QE} {es:List QE} (C:Callee X.prog X.w X.K X.mg X.base k x ps g) (hn:Ar ps.length g) (hr:fE k' X.A) (hk:k<=k') (ha:XA X (e::es) h) (hg:Gl X x:=by rfl) (hdb:(x==("__debug__":Str))=false:=by decide) (hns:(e::es).all noStar=true:=by rfl):XE X (.Call (.Name x p) (e::es) [] pos) (fR g h):=⟨TG.Hv C hn hr hk ha.h hg hdb hns⟩
end
section
variable [aR] {X:Cx} {a b c:QE} {fa fb fc:FX} {pos:Pos}
theorem j7 (ha:XE X a fa):XE X (.UnaryOp .USub a pos) (n9 fa):=⟨TG.Lf ha.h⟩
end
section
variable [aR] {X:Cx}
theorem Eg {a b:QE} {es:List QE} {k:Nat} {tpos:Pos} {f:aq->R (List D)} {p pos:Pos} (hg:Gl X "zip") (hm:X.mg "zip"=none) (ha:XA X [a,b] f) (hs:QF [a,b] X.env=(false,eval a X.env)::QF [b] X.env:=by rfl) (hpl:(backTo pos (QF [b] X.env)).any (·.1)=false:=by rfl):XI X (.Tuple es k tpos) (.Call (.Name "zip" p) [a,b] [] pos) (Ey f):=⟨TG.Kc hg hm ha.h hs hpl⟩
end
section
variable [aR] {X:Cx}
theorem nh {a:QE} {es:List QE} {k:Nat} {tpos:Pos} {f:aq->R (List D)} {p pos:Pos} (hg:Gl X "enumerate") (hm:X.mg "enumerate"=none) (ha:XA X [a] f) (hs:QF [a] X.env=(false,eval a X.env)::QF [] X.env:=by rfl) (hpl:(backTo pos (QF [] X.env)).any (·.1)=false:=by rfl):XI X (.Tuple es k tpos) (.Call (.Name "enumerate" p) [a] [] pos) (fH f):=⟨TG.Ee hg hm ha.h hs hpl⟩
end
section
variable [aR] {X:Cx} {a o e:QE} {es:List QE} {fa fo:FX} {fas:aq->R (List D)} {f m x:Str} {cs:List Str} {pos apos p:Pos} {k k':Nat} {ps:List Str}
theorem jl {tbl : List (Str × (List D -> R D))} {pl : Sem Bool} (tb : nq X.prog X.w X.K X.mg X.base k m ps tbl) (hr : fE k' X.A) (hk : k <= k') (ho : XE X o fo) (ha : XA X (e :: es) fas) (hns : (e :: es).all noStar = true := by rfl) (ht : eval (.Call (.Attribute o m apos) (e :: es) [] pos) X.env = (do
      let ov <- eval o X.env
      standAt apos.atName
      let (f,first) <- holding [ov] (getMethod ov m pl)
      QW pos f first (backTo pos (QF (e::es) X.env)) (backToKw pos (QX [] X.env))):=by rfl):XE X (.Call (.Attribute o m apos) (e::es) [] pos) (eM m tbl fo fas):=⟨TG.JQ tb hr hk ho.h ha.h hns ht⟩
end
section
variable [aR] {X:Cx} {a o e:QE} {es:List QE} {fa fo:FX} {fas:aq->R (List D)} {f m x:Str} {cs:List Str} {pos apos p:Pos} {k k':Nat} {ps:List Str}
theorem D6 {c:Str} {fs:List Str} (IA:rZ X.prog X.w X.K X.mg X.base k c ps fs) (hr:fE k' X.A) (hk:k+1<=k') (hg:Gl X c) (ha:XA X (e::es) fas) (hdb:(c==("__debug__":Str))=false:=by decide) (hns:(e::es).all noStar=true:=by rfl):XE X (.Call (.Name c p) (e::es) [] pos) (fNew c fs fas):=⟨TG.KU IA hr hk hg ha.h hdb hns⟩
end
section
variable [aR]
theorem wU {X:Cx} {i:Nat} {x:Str} {idx value:QE} {fk fv:FX} {npos tpos pos:Pos} (hu:X.A.units+64 < QZ) (hx:XV X (.Name x npos) i) (hi:XE X idx fk) (hv:XE X value fv) (hs:swapsWith value (some (.Subscript (.Name x npos) idx tpos)) pos.line X.env=pure false:=by rfl):XS X (.Assign [.Subscript (.Name x npos) idx tpos] value pos) (qO i fk fv):=⟨TG.JI hu hx.h hi.h hv.h hs⟩
end
section
variable [aR] {X:Cx} {pins:List (Qs×Obj)} {s:QB} {σ:L2.St} {H:Hp} {O:List Qs}
theorem A2 {f:FX} {j:Nat} {k:Nat} {c P cc:Qs} {e:QE} {p lpos kp pos np mp p2 spos:Pos} {row many:Str} {params:Q5} {scope:QC} (hr:fE k X.A) (hg:Gl X "sorted") (hm:X.mg "sorted"=none) (B:Aq X.mg X.base c P) (hcode:X.env.code=.ref c) (hT:∀ H,aR.tab H->H P=some (.ext (n6 P lpos (X.env.qual ++ "<lambda>")))) (he:XE X e f) (hN:X.N[j]?=some many) (hkm:X.env.kindOf many=some .cell) (hv:Gn X.env.scope many) (hcc:X.env.cells.lookup many=some cc) (hcl:closureFor scope X.env=pure [(many,cc)]) (hdef:defaultsOf params X.env=([],[])) (hbind:∀ cdv ctv v,bindArgs (PH "<lambda>" (X.env.qual ++ "<lambda>") params (cutE row many np mp p2 spos) scope [(many,cc)] ((X.mg "__name__").getD .none) cdv ctv) ⟨[v],[]⟩=pure [(row,v)]) (hco:scope.isCoroutine=false) (hgen:scope.isGenerator=false) (hk:scope.kind=.function) (hno:∀ x∈scope.names,x.2≠.cell) (hlr:scope.names.lookup row=some .local) (hlm:scope.names.lookup many=some .free) (d1:(row==("__debug__":Str))=false) (d2:(many==("__debug__":Str))=false) (d3:(many==("__classdict__":Str))=false) (hns:noStar e=true:=by rfl):XE X (.Call (.Name "sorted" p) [e] [⟨some "key",.Lambda params (cutE row many np mp p2 spos) scope lpos,kp⟩] pos) (f2 pc f (ah j)):=⟨TG.HG hr hg hm B hcode hT he.h hN hkm hv hcc hcl hdef hbind hco hgen hk hno hlr hlm d1 d2 d3 hns⟩
end
section
variable [aR]
theorem wy {X:Cx} {i:Nat} {x:Str} {idx value:QE} {fk fv:FX} {npos tpos pos:Pos} (hu:X.A.units+64 < QZ) (hx:XV X (.Name x npos) i) (hi:XE X idx fk) (hv:XE X value fv) (hs:swapsWith value (some (.Subscript (.Name x npos) idx tpos)) pos.line X.env=pure false:=by rfl):XS X (.Assign [.Subscript (.Name x npos) idx tpos] value pos) (oo i fk fv):=⟨TG.Jr hu hx.h hi.h hv.h hs⟩
end
section
variable [aR] {X:Cx} {pos:Pos}
theorem CP {i:Nat} {x:Str} {dp pos':Pos} (hN:X.N.Nodup) (hi:X.N[i]?=some x) (hx:Loc X.env.scope x) (hs:swapsWith (.Dict [] [] dp) (some (.Name x pos')) pos.line X.env=pure false:=by rfl) (hf:X.fn x=true\/X.env.scope.names.lookup x=some .local:=by first | exact .inl rfl | exact .inr rfl | assumption):XS X (.Assign [.Name x pos'] (.Dict [] [] dp) pos) (ww i):=⟨TG.Jq hN hi hx hs hf⟩
end
section
variable [aR] {X:Cx}
theorem D3 {i:Nat} {x:Str} {ke ve:QE} {fk fv:FX} {npos ap1 cp1 lp ap2 cp2 pos:Pos} (hu:X.A.units+64 < QZ) (hx:XV X (.Name x npos) i) (hke:XE X ke fk) (hve:XE X ve fv) (hn1:noStar ke=true:=by rfl) (hn2:noStar ve=true:=by rfl) (hb1:Rl (.Name x npos) "setdefault" X.env (eval (.Name x npos) X.env)=eval (.Name x npos) X.env:=by rfl) (hf1:((backTo cp1 (QF [ke,.List [] lp] X.env)).all (fun x=>!x.1) && (backToKw cp1 (QX [] X.env)).all (fun x=>x.1.isSome) && decide (([ke,.List [] lp]:List QE).length+([]:List Rm).length+(if ([]:List Rm).isEmpty then 0 else 1) < 30))=true:=by rfl) (hl1:(ap1.endLine==cp1.line)=true:=by rfl) (hp1:(backTo cp1 (QF [.List [] lp] X.env)).any (·.1)=false:=by rfl) (hb2:Rl (.Call (.Attribute (.Name x npos) "setdefault" ap1) [ke,.List [] lp] [] cp1) "append" X.env (eval (.Call (.Attribute (.Name x npos) "setdefault" ap1) [ke,.List [] lp] [] cp1) X.env)=eval (.Call (.Attribute (.Name x npos) "setdefault" ap1) [ke,.List [] lp] [] cp1) X.env:=by rfl) (hf2:((backTo cp2 (QF [ve] X.env)).all (fun x=>!x.1) && (backToKw cp2 (QX [] X.env)).all (fun x=>x.1.isSome) && decide (([ve]:List QE).length+([]:List Rm).length+(if ([]:List Rm).isEmpty then 0 else 1) < 30))=true:=by rfl) (hl2:(ap2.endLine==cp2.line)=true:=by rfl) (hp2:(backTo cp2 (QF [] X.env)).any (·.1)=false:=by rfl) (hsw:swapsWith (.Call (.Attribute (.Call (.Attribute (.Name x npos) "setdefault" ap1) [ke,.List [] lp] [] cp1) "append" ap2) [ve] [] cp2) none pos.line X.env=pure false:=by rfl):XS X (.Expr (.Call (.Attribute (.Call (.Attribute (.Name x npos) "setdefault" ap1) [ke,.List [] lp] [] cp1) "append" ap2) [ve] [] cp2) pos) (AX i fk fv):=⟨TG.J9 hu hx.h hke.h hve.h hn1 hn2 hb1 hf1 hl1 hp1 hb2 hf2 hl2 hp2 hsw⟩
end
section
variable [aR] {X:Cx}
theorem pH {o:QE} {es:List QE} {k:Nat} {tpos:Pos} {f:FX} {apos cpos:Pos} (ho:XE X o f) (hbase:Rl o "items" X.env (eval o X.env)=eval o X.env:=by rfl) (hline:(apos.endLine==cpos.line)=true:=by rfl):XI X (.Tuple es k tpos) (.Call (.Attribute o "items" apos) [] [] cpos) (kK f):=⟨TG.HP ho.h hbase hline⟩
end
section
variable [aR]
theorem Bh {X:Cx} {st:List QG} {F:cB} (i:Nat) (h:yw X st F):yw X st (ue i F):=⟨TG.IV i h.h⟩
end
section
variable [aR] {X:Cx}
theorem Ej {o e:QE} {fo fk:FX} {pos:Pos} (hu:X.A.units+64 < QZ) (ho:XE X o fo) (hi:XE X e fk) (hs:DK e):XE X (.Subscript o e pos) (f2 yo fo fk):=⟨TG.J8 hu ho.h hi.h hs⟩
end
section
variable [aR]
theorem Dz {X:Cx} {i:Nat} {x:Str} {e:QE} {f:FX} {npos apos cpos pos:Pos} (hx:XV X (.Name x npos) i) (he:XN X e f) (hns:noStar e=true:=by rfl) (hbase:Rl (.Name x npos) "extend" X.env (eval (.Name x npos) X.env)=eval (.Name x npos) X.env:=by rfl) (hfew:((backTo cpos (QF [e] X.env)).all (fun x=>!x.1) && (backToKw cpos (QX [] X.env)).all (fun x=>x.1.isSome) && decide (([e]:List QE).length+([]:List Rm).length+(if ([]:List Rm).isEmpty then 0 else 1) < 30))=true:=by rfl) (hline:(apos.endLine==cpos.line)=true:=by rfl) (hplain:(backTo cpos (QF [] X.env)).any (·.1)=false:=by rfl) (hsw:swapsWith (.Call (.Attribute (.Name x npos) "extend" apos) [e] [] cpos) none pos.line X.env=pure false:=by rfl):XS X (.Expr (.Call (.Attribute (.Name x npos) "extend" apos) [e] [] cpos) pos) (C5 i f):=⟨TG.LC hx.h he.h hns hbase hfew hline hplain hsw⟩
end
abbrev Lk (K:Pa) (f:Qs) (nm qual:Str) (st:QG) (oc:Qp) (od:Option Qs) (kV dc pm:Qp) (an:Option Qs) (cd ct:Qp) (sl:Array (Option Qp)):Prop:=K.lookup f=some ⟨oc,od,.func (Px nm qual (mh st) (e7 st) (ay st) .none kV dc pm an cd ct),sl⟩
structure dP (P:Qr) (w:Qq) (K:Pa) (mg:Str->Option Qp) (base:Qu) (k:Nat) (N:List Str) (qual:Str) (st:QG) (f:Qs) (B:cB):Prop where
 h:∀ (cdv:Qp) (A:QA) (outer:List Env) (s:QB) (H:Hp) (E:XK),fE k (A.deeper (Qa qual (ay st) s.heap.objs.size f cdv))->QO (model P w) (A.deeper (Qa qual (ay st) s.heap.objs.size f cdv)) (Qa qual (ay st) s.heap.objs.size f cdv) (ji (nA P w) P w K mg base N qual (ay st) f cdv A outer s H E).xe ->
  yw (ji (nA P w) P w K mg base N qual (ay st) f cdv A outer s H E) (e7 st) B
structure CG (P:Qr) (w:Qq) (K:Pa) (mg:Str->Option Qp) (base:Qu) (k:Nat) (N:List Str) (qual:Str) (st:QG) (f:Qs) (B:cB):Prop where
 h:∀ (cdv:Qp) (A:QA) (outer:List Env) (s:QB) (H:Hp) (E:XK),uH K f cdv->fE k (A.deeper (Qa qual (ay st) s.heap.objs.size f cdv))->QO (model P w) (A.deeper (Qa qual (ay st) s.heap.objs.size f cdv)) (Qa qual (ay st) s.heap.objs.size f cdv) (ji (nA P w) P w K mg base N qual (ay st) f cdv A outer s H E).xe ->
  yw (ji (nA P w) P w K mg base N qual (ay st) f cdv A outer s H E) (e7 st) B
theorem CG.ok {P:Qr} {w:Qq} {K:Pa} {mg:Str->Option Qp} {base:Qu} {k:Nat} {N:List Str} {qual:Str} {st:QG} {f:Qs} {B:cB} (h:CG P w K mg base k N qual st f B):uZ P w K mg base k N qual st f B:=⟨fun cdv A outer s H E hc hr hp=>(h.h cdv A outer s H E hc hr hp).h⟩
theorem dP.ok {P:Qr} {w:Qq} {K:Pa} {mg:Str->Option Qp} {base:Qu} {k:Nat} {N:List Str} {qual:Str} {st:QG} {f:Qs} {B:cB} (h:dP P w K mg base k N qual st f B):BodyOk P w K mg base k N qual st f B:=⟨fun cdv A outer s H E hr hp=>(h.h cdv A outer s H E hr hp).h⟩
end TX
namespace TG
open L2
instance (priority:=low) noTabs:aR:=⟨fun _=>True,fun _ _=>trivial,fun _ _ _=>trivial⟩
end TG
namespace TG
open PySem PySem.Spec L2
theorem nr {α:Sort _} {a b:α} (h:a=b):a=b:=h
theorem cR {α β:Type} (a:α) (f:α->R β):Except.bind (Except.ok a:R α) f=f a:=nr rfl
theorem uP {α β:Type} (x:Option Ex) (f:α->R β):Except.bind (Except.error x:R α) f=.error x:=nr rfl
theorem p6 {α:Type} (a:α) (k:Ks) (ρ:aq) (f:α->R D):sM (.ok a) k ρ f=f a:=nr rfl
theorem uB {α:Type} (x:Ex) (k:Ks) (ρ:aq) (f:α->R D):sM (.error (some x)) k ρ f=k.ex x ρ:=nr rfl
theorem fZ {α:Type} (a:α):AI (.ok a:R α)=.ok a:=nr rfl
theorem eX {α:Type} (a:α):rO (some a)=.ok a:=nr rfl
theorem ge_0 (d:D) (ρ:aq):qW (some (.val d)::ρ) 0=.ok d:=nr rfl
theorem zT (x:Option S) (ρ:aq) (i:Nat):qW (x::ρ) (i+1)=qW ρ i:=by
 unfold qW; rw [NQ]
theorem o9 (i:Nat) (ρ:aq):ah i ρ=qW ρ i:=nr rfl
theorem Ac (d:D) (ρ:aq):fC d ρ=.ok d:=nr rfl
theorem oT (ρ:aq):au ρ=.ok []:=nr rfl
theorem me (f:FX) (g:aq->R (List D)) (ρ:aq):af f g ρ=(f ρ).bind fun x=>(g ρ).bind fun xs=>.ok (x::xs):=nr rfl
theorem ph (g:aq->R (List D)) (ρ:aq):cA g ρ=(g ρ).bind fun xs=>rO (t6 xs):=nr rfl
theorem pB (g:aq->R (List D)) (ρ:aq):jG g ρ=(g ρ).bind fun xs=>rO (oG xs):=nr rfl
theorem AD (g:D->Option D) (f:FX) (ρ:aq):f1 g f ρ=(f ρ).bind fun a=>rO (g a):=nr rfl
theorem AH (g:D->D->Option D) (f h:FX) (ρ:aq):f2 g f h ρ=(f ρ).bind fun a=>(h ρ).bind fun b=>rO (g a b):=nr rfl
theorem Ax (f:FX) (ρ:aq):fB f ρ=(f ρ).bind fun d=>rO (Kz d):=nr rfl
theorem Ah (g:List D->Option D) (f:aq->R (List D)) (ρ:aq):fL g f ρ=(f ρ).bind fun ds=>rO (g ds):=nr rfl
theorem Ag (g:List D->R D) (f:aq->R (List D)) (ρ:aq):fR g f ρ=(f ρ).bind g:=nr rfl
theorem pF (f:aq->R Bool) (ρ:aq):nK f ρ=(f ρ).bind fun b=>.ok (!b):=nr rfl
theorem o7 (f g:aq->R Bool) (ρ:aq):xJ f g ρ=(f ρ).bind fun b=>if b then g ρ else .ok false:=nr rfl
theorem tX (f g:aq->R Bool) (ρ:aq):DM f g ρ=(f ρ).bind fun b=>if b then .ok true else g ρ:=nr rfl
theorem jA (f:FX) (ρ:aq):dW f ρ=(f ρ).bind fun d=>rO (truth d):=nr rfl
theorem mw (f g:FX) (ρ:aq):nu f g ρ=(f ρ).bind fun d=>yA d (g ρ):=nr rfl
theorem pA (f g:FX) (ρ:aq):K5 f g ρ=(f ρ).bind fun d=>HL d (g ρ):=nr rfl
theorem mz (f:FX) (ρ:aq):Jg f ρ=(f ρ).bind fun a=>rO (yn a):=nr rfl
theorem tN (t:aq->R Bool) (f g:FX) (ρ:aq):L7 t f g ρ=(t ρ).bind fun c=>if c then f ρ else g ρ:=nr rfl
theorem oU (T:String) (f:FX) (ρ:aq):qp T f ρ=(f ρ).bind fun a=>rO (oz T a):=nr rfl
theorem oX (f:FX) (ρ:aq):Ko f ρ=(f ρ).bind fun a=>.ok (.bl (isNon a)):=nr rfl
theorem lZ (f:FX) (ρ:aq):IX f ρ=(f ρ).bind fun a=>.ok (.bl (!isNon a)):=nr rfl
theorem pW (f:FX) (ρ:aq):n9 f ρ=(f ρ).bind fun a=>rO (Gy a):=nr rfl
theorem jz (f:FX) (ρ:aq):Hg f ρ=(f ρ).bind fun a=>rO (Bu a):=nr rfl
theorem pL (f:FX) (ρ:aq):LD f ρ=(f ρ).bind fun a=>rO (Ge a):=nr rfl
theorem jI (g g':D->D->Option D) (fa fb fc:FX) (ρ:aq):Gg g g' fa fb fc ρ=(fa ρ).bind fun x=>(fb ρ).bind fun y=>(rO (g x y)).bind fun z=>yA z ((fc ρ).bind fun w=>rO (g' y w)):=nr rfl
theorem jD (f:FX) (ρ:aq):bw f ρ=(f ρ).bind fun d=>rO (pq d):=nr rfl
theorem iD (f:aq->R (List D)) (ρ:aq):fN f ρ=(f ρ).bind fun ds=>rO (mH ds):=nr rfl
theorem iA (f:aq->R (List D)) (ρ:aq):qx f ρ=(f ρ).bind fun ds=>rO (qK ds):=nr rfl
theorem pp (f:aq->R (List D)) (ρ:aq):Ey f ρ=(f ρ).bind fun ds=>rO (Ai ds):=nr rfl
theorem mX (f:aq->R (List D)) (ρ:aq):fH f ρ=(f ρ).bind fun ds=>rO (uz ds):=nr rfl
theorem oV (z:Str):Mj (.str z)=some z:=nr rfl
theorem iC (ρ:aq):aP ρ=.ok none:=nr rfl
theorem mK (f:FX) (ρ:aq):bH f ρ=(f ρ).bind fun d=>rO (xK d):=nr rfl
theorem jP (f:FX) (l h:aq->R (Option Int)) (ρ:aq):bf f l h ρ=(f ρ).bind fun a=>(l ρ).bind fun lo=>(h ρ).bind fun hi=>rO (sG a lo hi):=nr rfl
theorem my (ρ:aq):dE ρ=.ok true:=nr rfl
theorem lV (k:Ks) (ρ:aq):cX k ρ=k.nx ρ:=nr rfl
theorem ia (A B:cB) (k:Ks) (ρ:aq):aK A B k ρ=A { k with nx:=B k } ρ:=nr rfl
theorem mQ (f:FX) (k:Ks) (ρ:aq):ce f k ρ=sM (f ρ) k ρ .ok:=nr rfl
theorem js (k:Ks) (ρ:aq):Ig k ρ=.ok .non:=nr rfl
theorem nQ (c:aq->R Bool) (A B:cB) (k:Ks) (ρ:aq):ng c A B k ρ=sM (c ρ) k ρ fun b=>if b then A k ρ else B k ρ:=nr rfl
theorem mS (i:Nat) (f:FX) (k:Ks) (ρ:aq):bM i f k ρ=sM (f ρ) k ρ fun d=>k.nx (setV i d ρ):=nr rfl
theorem jE (is:List Nat) (F:cB) (k:Ks) (ρ:aq):fJ is F k ρ=F k (kill is ρ):=nr rfl
theorem je (G:aq->R (List D)) (g:GF) (B:cB) (k:Ks) (ρ:aq):ky G g B k ρ=sM (G ρ) k ρ fun ds=>kN g B k ds ρ:=nr rfl
theorem A7 (d:D) (x:Option S) (ρ:aq):setV 0 d (x::ρ)=some (.val d)::ρ:=nr rfl
theorem Am (i:Nat) (d:D) (x:Option S) (ρ:aq):setV (i+1) d (x::ρ)=x::setV i d ρ:=nr rfl
theorem pN (ρ:aq):kill [] ρ=ρ:=nr rfl
theorem md (i:Nat) (is:List Nat) (ρ:aq):kill (i::is) ρ=kill is (ρ.set i none):=nr rfl
theorem rY (B:cB) (n:Nat) (a:D):bc B 1 n [a]=B K0 (env0 n [a]):=nr rfl
theorem gB (B:cB) (n:Nat) (a b:D):bc B 2 n [a,b]=B K0 (env0 n [a,b]):=nr rfl
theorem pJ (B:cB) (n:Nat) (a b c:D):bc B 3 n [a,b,c]=B K0 (env0 n [a,b,c]):=nr rfl
theorem Dk (B:cB) (n:Nat) (a b c d:D):bc B 4 n [a,b,c,d]=B K0 (env0 n [a,b,c,d]):=nr rfl
theorem Gb (B:cB) (n:Nat) (a b c d e:D):bc B 5 n [a,b,c,d,e]=B K0 (env0 n [a,b,c,d,e]):=nr rfl
theorem pU (ρ:aq):inB [] ρ=[]:=nr rfl
theorem mF (ix:List (Option Nat)) (ρ:aq):inB (none::ix) ρ=none::inB ix ρ:=nr rfl
def pick (ρ:aq) (i:Nat):Option S:=match ρ[i]? with
 | some (some (.val d))=>some (.val d)
 | _=>none
theorem mL (i:Nat) (ix:List (Option Nat)) (ρ:aq):inB (some i::ix) ρ=pick ρ i::inB ix ρ:=nr rfl
theorem AO (d:D) (ρ:aq):pick (some (.val d)::ρ) 0=some (.val d):=rfl
theorem As (x:Option S) (ρ:aq) (i:Nat):pick (x::ρ) (i+1)=pick ρ i:=by
 unfold pick; rw [NQ]
theorem mB (i:Nat) (f:FX) (k:Ks) (ρ:aq):kP i f k ρ=sM (f ρ) k ρ fun d=>k.nx (ρ.set i (some (.own d))):=nr rfl
theorem lT (i:Nat) (F:cB) (k:Ks) (ρ:aq):hJ i F k ρ=F k (frz i ρ):=nr rfl
theorem Bf (d:D) (ρ:aq):frz 0 (some (.own d)::ρ)=some (.val d)::ρ:=nr rfl
theorem ut (d:D) (ρ:aq):frz 0 (some (.val d)::ρ)=some (.val d)::ρ:=nr rfl
theorem Ao (i:Nat) (x:Option S) (ρ:aq):frz (i+1) (x::ρ)=x::frz i ρ:=by
 unfold frz
 rw [NQ]
 split <;> rename_i h
 ·rw [h]; rfl
 ·rfl
theorem kE (i:Nat) (u:List D->List D->Option (List D)) (f:aq->R (List D)) (k:Ks) (ρ:aq) {xs:List D} (h:ρ[i]?=some (some (.own (.lst xs)))):yL i u f k ρ=sM (f ρ) k ρ fun ds=>(rO (u xs ds)).bind fun ys=>k.nx (ρ.set i (some (.own (.lst ys)))):=by
 unfold yL; rw [h]
theorem ko {xs:List D} {y:D} (h:xs.length < 100000):fD xs [y]=some (xs++[y]):=by
 show (if small (xs.length+1) then some (xs++[y]) else none)=_
 rw [dH ‹0›]; rfl
theorem o6 (i j:Int):bY (.int i) (.int j)=some (.int (i+j)):=nr rfl
theorem pP (i j:Int):TG.AJ (.int i) (.int j)=some (.int (i - j)):=nr rfl
theorem uy (i j:Int):Mf (.int i) (.int j)=some (.bl (decide (i < j))):=nr rfl
theorem oJ (i j:Int):vQ (.int i) (.int j)=some (.bl (decide (i < j))):=nr rfl
theorem o3 (x y:Str):vQ (.str x) (.str y)=some (.bl (decide (x.cps.toList < y.cps.toList))):=nr rfl
theorem oI (c d:Bool):JV (.bl c) (.bl d)=some (.bl (c==d)):=nr rfl
theorem iw (c d:Bool):DZ (.bl c) (.bl d)=some (.bl (!(c==d))):=nr rfl
theorem uI (i j:Int):L3 (.int i) (.int j)=some (.bl (decide (i<=j))):=nr rfl
theorem uV (i j:Int):Mm (.int i) (.int j)=some (.bl (decide (j < i))):=nr rfl
theorem tT (i j:Int):Mg (.int i) (.int j)=some (.bl (decide (j<=i))):=nr rfl
theorem oP (i:Int):Gy (.int i)=some (.int (-i)):=nr rfl
theorem cj {i j:Int} (h:0 < j):cG (.int i) (.int j)=some (.int (i%j)):=by
 show (if decide (0 < j) then some (D.int (i%j)) else none)=_
 rw [decide_eq_true h]; rfl
theorem cy {i j:Int} (h:0 < j) (h':j < 10 ^ 200):dj (.int i) (.int j)=some (.int (i / j)):=by
 show (if decide (0 < j/\j < 10 ^ 200) then some (D.int (i / j)) else none)=_
 rw [decide_eq_true ⟨h,h'⟩]; rfl
theorem kA {i j:Int} (h:-(2 ^ 64) < i) (h':i < 2 ^ 64):jR (.int i) (.int j)=some (.int (i*j)):=by
 show (if decide ((-(2 ^ 64) < i/\i < 2 ^ 64)\/(-(2 ^ 64) < j/\j < 2 ^ 64)) then some (D.int (i*j)) else none)=_
 rw [decide_eq_true (.inl ⟨h,h'⟩)]; rfl
theorem qE {i j:Int} (h:-(2 ^ 64) < j) (h':j < 2 ^ 64):jR (.int i) (.int j)=some (.int (i*j)):=by
 show (if decide ((-(2 ^ 64) < i/\i < 2 ^ 64)\/(-(2 ^ 64) < j/\j < 2 ^ 64)) then some (D.int (i*j)) else none)=_
 rw [decide_eq_true (.inr ⟨h,h'⟩)]; rfl
theorem yB (i:Int) (n:Nat) (h:n<=1000000) (h':i.natAbs < 2 ^ 64):ql (.int i) (.int n)=some (.int (i ^ n)):=by
 show (if decide (0<=(n:Int)/\(n:Int)<=1000000/\i.natAbs < 2 ^ 64) then some (D.int (i ^ (n:Int).toNat)) else none)=_
 rw [decide_eq_true ⟨by omega,by omega,h'⟩]; rfl
theorem Cy:ql (.int 10) (.int 59)=some (.int (10 ^ 59)):=yB 10 59 (by decide) (by decide)
def Fa:Int:=10 ^ 59
def Ml:Int:=10 ^ 60
theorem HU:1000000 < Fa/\Fa*10=Ml:=by decide +kernel
theorem Gx:ql (.int 10) (.int 59)=some (.int Fa):=Cy
theorem jK (i j:Int):g9 (.int i) (.int j)=some (.bl (i==j)):=by unfold g9 pyEq; rfl
theorem jF (i j:Str):g9 (.str i) (.str j)=some (.bl (i==j)):=by unfold g9 pyEq; rfl
theorem jM (i j:Bool):g9 (.bl i) (.bl j)=some (.bl (i==j)):=by unfold g9 pyEq; rfl
theorem jm (i j:Int):E5 (.int i) (.int j)=some (.bl (!(i==j))):=by unfold E5 pyEq; rfl
theorem jn (i j:Str):E5 (.str i) (.str j)=some (.bl (!(i==j))):=by unfold E5 pyEq; rfl
theorem jt (i j:Bool):E5 (.bl i) (.bl j)=some (.bl (!(i==j))):=by unfold E5 pyEq; rfl
theorem GZ {α:Type} (xs:List α) (n:Nat):oa xs (n:Int)=xs[n]?:=by
 unfold oa ER
 rw [if_pos ‹0›]
 by_cases h:n < xs.length
 ·rw [if_pos ‹0›]; rfl
 ·rw [if_neg ‹0›,Om ‹0›]; rfl
theorem A5 {α:Type} (a:α) (xs:List α):oa (a::xs) 0=some a:=GZ (a::xs) 0
theorem AK {α:Type} (a:α) (xs:List α) (n:Nat):oa (a::xs) ((n+1:Nat):Int)=oa xs (n:Int):=by
 rw [GZ,GZ,NQ]
theorem GN (xs:List D) (i:Int):bq (.tup xs) (.int i)=oa xs i:=nr rfl
theorem Ld (xs:List D) (i:Int):bq (.lst xs) (.int i)=oa xs i:=nr rfl
theorem t7 (a:D) (xs:List D):bq (.tup (a::xs)) (.int 0)=some a:=A5 a xs
theorem ux (a b:D) (xs:List D):bq (.tup (a::b::xs)) (.int 1)=some b:=(AK a _ 0).trans (A5 b xs)
theorem uM (a b c:D) (xs:List D):bq (.tup (a::b::c::xs)) (.int 2)=some c:=(AK a _ 1).trans ((AK b _ 0).trans (A5 c xs))
theorem uK (a:D) (xs:List D):bq (.lst (a::xs)) (.int 0)=some a:=A5 a xs
theorem uG (a b:D) (xs:List D):bq (.lst (a::b::xs)) (.int 1)=some b:=(AK a _ 0).trans (A5 b xs)
theorem uw (a b c:D) (xs:List D):bq (.lst (a::b::c::xs)) (.int 2)=some c:=(AK a _ 1).trans ((AK b _ 0).trans (A5 c xs))
theorem ju (xs:List D):jp [.lst xs]=some (.int xs.length):=nr rfl
theorem jr (xs:List D):jp [.tup xs]=some (.int xs.length):=nr rfl
theorem gh (xs:List D):cm [.lst xs]=some (.tup xs):=nr rfl
theorem gf (xs:List D):cm [.tup xs]=some (.tup xs):=nr rfl
theorem pI (b:Bool):Kz (.bl b)=some b:=nr rfl
theorem iz (i:Int):xK (.int i)=some (some i):=nr rfl
theorem gw (b:Bool):truth (.bl b)=some b:=nr rfl
theorem gD (xs:List D):truth (.tup xs)=some (!xs.isEmpty):=nr rfl
theorem gA (xs:List D):truth (.lst xs)=some (!xs.isEmpty):=nr rfl
theorem kL (i j:Int):ra [.int i,.int j]=some (.int (if j > i then j else i)):=nr rfl
theorem lG (i j:Int):wI [.int i,.int j]=some (.int (if j < i then j else i)):=nr rfl
theorem Cv (b:Bool):zv [.bl b]=some (.int (if b then 1 else 0)):=nr rfl
theorem gb (xs:List D):pq (.lst xs)=some xs:=nr rfl
theorem gg (xs:List D):pq (.tup xs)=some xs:=nr rfl
theorem jC (k:R D):yA (.bl true) k=k:=nr rfl
theorem jQ (k:R D):yA (.bl false) k=.ok (.bl false):=nr rfl
theorem lR (k:R D):HL (.bl true) k=.ok (.bl true):=nr rfl
theorem mi (k:R D):HL (.bl false) k=k:=nr rfl
theorem jk (a b:Bool):yA (.bl a) (.ok (.bl b))=.ok (.bl (a && b)):=by cases a <;> rfl
theorem lU (a b:Bool):HL (.bl a) (.ok (.bl b))=.ok (.bl (a || b)):=by cases a <;> rfl
theorem pV (b:Bool):yn (.bl b)=some (.bl (!b)):=nr rfl
theorem pK (xs:List D):Ge (.lst xs)=some (.lst xs.reverse):=nr rfl
theorem jH (n:Nat) (h:n < 2 ^ 62):mH [.int n]=some (eP 0 n):=by
 show (if okR (n:Int) then some (eP 0 ((n:Int).toNat)) else none)=_
 have:okR (n:Int)=true:=decide_eq_true ⟨by omega,by omega⟩
 rw [this]; rfl
theorem Gq {xs:List D} (h:xs.length<=100000):oG xs=some (.lst xs):=by unfold oG; rw [dH h]; rfl
theorem qU (xs ys:List D) (h:xs.length+ys.length<=100000):bY (.lst xs) (.lst ys)=some (.lst (xs++ys)):=by
 show (if small (xs.length+ys.length) then some (D.lst (xs++ys)) else none)=_
 rw [dH h]; rfl
theorem iI (xs ys:List D) (h:xs.length+ys.length<=100000):bY (.tup xs) (.tup ys)=some (.tup (xs++ys)):=by
 show (if small (xs.length+ys.length) then some (D.tup (xs++ys)) else none)=_
 rw [dH h]; rfl
theorem lQ (xs:List D) (lo hi:Option Int):sG (.lst xs) lo hi=some (.lst (cutD xs lo hi)):=nr rfl
theorem mM (xs:List D) (lo hi:Option Int):sG (.tup xs) lo hi=some (.tup (cutD xs lo hi)):=nr rfl
theorem dF {ix:List (Option Nat)} {G:aq->R (List D)} {g:GF} {C:aq->R Bool} {Fe:FX} {ρ:aq} {ds r:List D} (h1:G ρ=.ok ds) (h2:ds.length<=100000) (h3:xH (inB ix ρ) g C Fe ds=.ok r):fY ix G g C Fe ρ=.ok (.lst r):=by
 unfold fY
 rw [h1,cR,dH h2,h3]; rfl
theorem rM {α:Type} {ρ:aq} {g:GF} {C:aq->R Bool} {Fe:FX} (mk:α->D) (p:α->Bool) (v:α->D):∀ xs:List α,(∀ a∈xs,∃ ρ1,g (mk a) ρ=some ρ1/\C ρ1=.ok (p a)/\Fe ρ1=.ok (v a)) ->
  xH ρ g C Fe (xs.map mk)=.ok ((xs.filter p).map v)
 | [],_=>rfl
 | a::xs,h=>by
  obtain⟨ρ1,h1,h2,h3⟩:=h a Mu
  rw [MH,jT,h1,eX,cR,h2,fZ,cR,h3,fZ,cR,rM mk p v xs fun b hb=>h b (Mv _ hb)]
  cases e:p a with
  | true=>rw [if_pos rfl,Oc e]; rfl
  | false=>rw [if_neg MF,Od (by simp [e])]
theorem mI {α:Type} {ρ:aq} {g:GF} {C:aq->R Bool} {Fe:FX} (mk:α->D) (v:α->D) (xs:List α) (h:∀ a∈xs,∃ ρ1,g (mk a) ρ=some ρ1/\C ρ1=.ok true/\Fe ρ1=.ok (v a)):xH ρ g C Fe (xs.map mk)=.ok (xs.map v):=by
 rw [rM mk (fun _=>true) v xs h,List.filter_eq_self.mpr fun _ _=>rfl]
theorem v5 {ρ:aq} {g:GF} {C:aq->R Bool} {Fe:FX} (P:D->Prop):∀ ds:List D,(∀ d∈ds,∃ ρ1 v,g d ρ=some ρ1/\C ρ1=.ok true/\Fe ρ1=.ok v/\P v)->∃ vs:List D,vs.length=ds.length/\(∀ v∈vs,P v)/\xH ρ g C Fe ds=.ok vs
 | [],_=>⟨[],rfl,(fun _ h=>nomatch h),rfl⟩
 | d::ds,h=>by
  obtain⟨ρ1,w,h1,h2,h3,h4⟩:=h d Mu
  obtain⟨ws,e1,e2,e3⟩:=v5 P ds fun d' hd=>h d' (Mv _ hd)
  refine⟨w::ws,by rw [MG,MG,e1],fun w' hw=>?_,?_⟩
  ·rcases List.mem_cons.mp hw with z | z
   ·rw [z]; exact h4
   ·exact e2 w' z
  ·rw [jT,h1,eX,cR,h2,fZ,cR,h3,fZ,cR,e3]; rfl
theorem zJ {g:GF} {B:cB} {k:Ks} (Iv:Nat->aq->Prop):∀ (ds:List D) (i:Nat) (ρ:aq),(∀ j d ρ (k':Ks),i<=j->ds[j - i]?=some d->Iv j ρ->∃ ρ1 ρ2,g d ρ=some ρ1/\Iv (j+1) ρ2/\B k' ρ1=k'.nx ρ2)->Iv i ρ->∃ ρ',Iv (i+ds.length) ρ'/\kN g B k ds ρ=k.nx ρ'
 | [],i,ρ,_,h=>⟨ρ,h,rfl⟩
 | d::ds,i,ρ,st,h=>by
  obtain⟨ρ1,ρ2,e1,h2,e2⟩:=st i d ρ ⟨kN g B k ds,k.nx,kN g B k ds,k.ex⟩ (MA _) (by rw [N0]; rfl) h
  obtain⟨ρ',h3,e3⟩:=zJ (g:=g) (B:=B) (k:=k) Iv ds (i+1) ρ2 (fun j d' ρ k' hj hd=>st j d' ρ k' ‹0› (by rw [show j - i=(j - (i+1))+1 by omega,NQ]; exact hd)) h2
  refine⟨ρ',?_,?_⟩
  ·rw [MG]
   have:i+(ds.length+1)=i+1+ds.length:=by omega
   rw [this]; exact h3
  ·show ((rO (g d ρ)).bind fun ρ1=>B ⟨kN g B k ds,k.nx,kN g B k ds,k.ex⟩ ρ1)=_
   rw [e1,eX,cR,e2]
   exact e3
theorem eZ {g:GF} {B:cB} {k:Ks} {ds:List D} {ρ:aq} {Q:R D->Prop} (Iv:Nat->aq->Prop) (st:∀ i d ρ (k':Ks),ds[i]?=some d->Iv i ρ->∃ ρ1 ρ2,g d ρ=some ρ1/\Iv (i+1) ρ2/\B k' ρ1=k'.nx ρ2) (h:Iv 0 ρ) (q:∀ ρ',Iv ds.length ρ'->Q (k.nx ρ')):Q (kN g B k ds ρ):=by
 obtain⟨ρ',h1,e⟩:=zJ (k:=k) Iv ds 0 ρ (fun j d ρ k' _ hd=>st j d ρ k' hd) h
 rw [e]; rw [NV] at h1; exact q ρ' h1
theorem cS {α:Type} {xs:List α} {i:Nat} {a:α} (h:xs[i]?=some a):i < xs.length:=by
 rcases Ol i xs.length with z | z
 ·exact z
 ·rw [Om z] at h; cases h
theorem zc {α β:Type} (f:α->β) (xs:List α) (i:Int):oa (xs.map f) i=(oa xs i).map f:=by
 unfold oa
 rw [MI]
 cases ER xs.length i with
 | none=>rfl
 | some j=>simp
theorem rX {α:Type} {xs:List α} {k:Nat} (h:k < xs.length):oa xs (k:Int)=some xs[k]:=by
 unfold oa ER
 rw [if_pos ‹0›,if_pos ‹0›]
 simp [h]
theorem uX {α:Type} {xs:List α} {i:Int} (h0:0<=i) (h:i < xs.length):oa xs i=some (xs[i.toNat]'‹0›):=by
 have e:i=((i.toNat:Nat):Int):=by omega
 conv=>lhs; rw [e]
 exact rX ‹0›
def Fc:cB:=aK (ng (fB (f2 vQ (ah 1) (fL jp (af (ah 0) (au))))) (ce (f2 bq (ah 0) (ah 1))) (cX)) (ce (fC (.int 0)))
theorem DV (ns:List Int) (k:Nat):bc Fc 2 2 [.lst (ns.map .int),.int k]=.ok (.int (ns.getD k 0)):=by
 show (if decide ((k:Int) < ((ns.map D.int).length:Int)) then sM (rO (oa (ns.map D.int) (k:Int))) _ _ .ok else .ok (.int 0))=_
 rw [MI]
 by_cases h:k < ns.length
 ·rw [if_pos (by simpa using h),zc,rX h,Option.map_some,Og,Nr h]; rfl
 ·rw [if_neg (by simpa using h),Og,Om ‹0›]; rfl
theorem CK (ns:List Int) (i:Int) (h:0<=i):∃ c:Int,bc Fc 2 2 [.lst (ns.map .int),.int i]=.ok (.int c):=by
 have e:i=((i.toNat:Nat):Int):=by omega
 exact⟨ns.getD i.toNat 0,by rw [e]; exact DV ns i.toNat⟩
theorem zL (x y:Str):(x++y).length=x.length+y.length:=by
 show (x.cps++y.cps).size=_
 rw [Array.size_append]; rfl
theorem lL (x y:Str) (h:x.length<=1000) (h':y.length<=1000):bY (.str x) (.str y)=some (.str (x++y)):=by
 show (if small (x.length+y.length) then some (D.str (x++y)) else none)=_
 rw [dH ‹0›]; rfl
theorem nW (x:Str) (h:x.length<=1000) (i:Int) (h0:0<=i) (h1:i < x.length):∃ y:Str,y.length=1/\bq (.str x) (.int i)=some (.str y):=by
 have hl:x.cps.toList.length=x.length:=by simp [Str.length]
 have hi:i < x.cps.toList.length:=by omega
 refine⟨⟨#[x.cps.toList[i.toNat]'‹0›]⟩,rfl,?_⟩
 show (if small x.length then (oa x.cps.toList i).bind fun c=>some (D.str ⟨#[c]⟩) else none)=_
 rw [dH ‹0›,if_pos rfl,uX h0 hi]; rfl
theorem jv (lo:Int) (n:Nat):eP lo n=(List.range n).map fun (k:Nat)=>D.int (lo+(k:Int)):=nr rfl
theorem cV (lo:Int) (n:Nat):(eP lo n).length=n:=by unfold eP; rw [MI,NA]
theorem gX {α:Type} (xs:List α) (m:Nat):cutD xs none (some (m:Int))=xs.take m:=by
 unfold cutD
 rw [HT.Ja,HT.JK,Nm,NC]
 rcases Ot m xs.length with h | h
 ·rw [Ou h]
 ·rw [Ov h,Oo h,Oo (MA _)]
theorem sC {α:Type} (xs:List α) (m:Nat):cutD xs (some (m:Int)) none=xs.drop m:=by
 unfold cutD
 rw [HT.Ja,HT.JK]
 rcases Ot m xs.length with h | h
 ·rw [Ou h]
  exact Oo (by rw [MY]; exact MA _)
 ·rw [Ov h,N0,Ni,Oy h]
theorem vO (ρ:aq):tQ ρ=.ok (.dct [] []):=nr rfl
theorem n0 (q:List Key):ig (.tup (q.map bu))=some q:=cq q
theorem yU {i:Nat} {fk fv:FX} {k:Ks} {ρ:aq} {al:List (List Key×D)} {q:List Key} {v:D} (h:ρ[i]?=some (some (.own (cJ al)))) (ek:fk ρ=.ok (.tup (q.map bu))) (ev:fv ρ=.ok v) (hl:al.length<=100000):qO i fk fv k ρ=k.nx (ρ.set i (some (.own (cJ (gu al q v))))):=by
 have e:tO (encK al) (al.map (·.2)) (.tup (q.map bu)) v=some (gu al q v):=by
  unfold tO
  rw [iQ]
  show (ig (.tup (q.map bu))).bind _=_
  rw [n0]
  show (if small al.length then _ else _)=_
  rw [dH hl]; rfl
 unfold qO
 rw [h]
 show sM ((fv ρ).bind fun v=>(fk ρ).bind fun q=>rO (tO (encK al) (al.map (·.2)) q v)) k ρ _=_
 rw [ev,cR,ek,cR,e]; rfl
theorem CY {α:Type} (xs:List α) (a:α):cutD (xs++[a]) none (some (-1))=xs:=by
 unfold cutD
 have e:HT.sIx (xs++[a]).length (xs++[a]).length (some (-1))=xs.length:=by
  show (if (-1:Int) < 0 then ((-1:Int)+((xs++[a]).length:Int)).toNat else min (-1:Int).toNat (xs++[a]).length)=_
  rw [if_pos (by decide),MV,M1]; omega
 rw [HT.Ja,e,Nm,NC,Oz]
theorem yK:∀ {σ τ:List Bool} {a b:List D},Sh σ a->Sh τ b->Sh (σ++τ) (a++b)
 | _,_,_,_,.nil,h=>h
 | _,_,_,_,.int i h,h'=>.int i (yK h h')
 | _,_,_,_,.str i h,h'=>.str i (yK h h')
end TG
namespace TG
open PySem PySem.Spec L2
local macro_rules
 | `(tactic| simp! only [$xs,*])=>`(tactic| simp only [cR,uP,p6,uB,fZ,eX,ge_0,zT,o9,Ac,oT,me,ph,pB,AD,AH,Ax,Ah,Ag,pF,o7,tX,jA,mw,pA,mz,tN,oU,oX,lZ,pW,jz,pL,jI,jD,iD,iA,pp,mX,iC,mK,jP,my,lV,ia,mQ,js,nQ,mS,jE,je,mB,lT,Bf,ut,Ao,A7,Am,pN,md,pU,mF,mL,AO,As,OA,OB,MH,M3,Nh,Nx,K0,env0,List.replicate,N3,ML,NV,Nat.reduceAdd,Nat.reduceSub,MG,M6,o6,pP,uy,oJ,o3,oI,iw,oV,uI,uV,tT,oP,jK,jF,jM,jm,jn,jt,t7,ux,uM,uK,uG,uw,ju,jr,gh,gf,pI,iz,gw,gD,gA,kL,lG,gb,gg,jC,jQ,lR,mi,jk,lU,pV,pK,lQ,mM,gN,if_true,if_false,OC,OD,Nf,$xs,*])
theorem Jv (a b c:D):t6 [a,b,c]=some (.tup [a,b,c]):=nr rfl
theorem Dj (a b:D):t6 [a,b]=some (.tup [a,b]):=nr rfl
theorem Hr (a:D):t6 [a]=some (.tup [a]):=nr rfl
theorem Fm:t6 []=some (.tup []):=nr rfl
theorem Hq:oG []=some (.lst []):=nr rfl
end TG
namespace TG
open PySem PySem.Spec L2
def xP (m:Nat) (rows:List (List D)):Prop:=rows.Pairwise fun r s=>eF (r.take m) (s.take m)=some true
inductive F2 {α β:Type} (R:α->β->Prop):List α->List β->Prop where
 | nil:F2 R [] []
 | cons {a:α} {b:β} {as:List α} {bs:List β} (h:R a b) (t:F2 R as bs):F2 R (a::as) (b::bs)
theorem BJ {ρ:aq} {g:GF} {C:aq->R Bool} {Fe:FX}:∀ (ds:List D) (P:Nat->D->Prop),(∀ i d,ds[i]?=some d->∃ ρ1 v,g d ρ=some ρ1/\C ρ1=.ok true/\Fe ρ1=.ok v/\P i v)->∃ vs:List D,vs.length=ds.length/\(∀ i v,vs[i]?=some v->P i v)/\xH ρ g C Fe ds=.ok vs
 | [],_,_=>⟨[],rfl,(fun _ _ h=>nomatch h),rfl⟩
 | d::ds,P,h=>by
  obtain⟨ρ1,w,h1,h2,h3,h4⟩:=h 0 d rfl
  obtain⟨ws,e1,e2,e3⟩:=BJ (ρ:=ρ) (g:=g) (C:=C) (Fe:=Fe) ds (fun i v=>P (i+1) v) fun i d' hd=>h (i+1) d' (by rw [NQ]; exact hd)
  refine⟨w::ws,by rw [MG,MG,e1],fun i v hv=>?_,?_⟩
  ·cases i with
   | zero=>cases hv; exact h4
   | succ i=>rw [NQ] at hv; exact e2 i v hv
  ·rw [jT,h1,eX,cR,h2,fZ,cR,h3,fZ,cR,e3]; rfl
theorem qR:∀ {σ:List Bool} {a b:List D},Sh σ a->Sh σ b->(gS a b=true↔a=b)
 | _,_,_,.nil,.nil=>by unfold gS; simp
 | _,_,_,.int i h,.int j h'=>by
  unfold gS pyEq
  rw [MZ,qR h h']
  simp
 | _,_,_,.str i h,.str j h'=>by
  unfold gS pyEq
  rw [MZ,qR h h']
  simp
theorem ub:∀ {σ:List Bool} {a:List D},Sh σ a->nU a=true
 | _,_,.nil=>rfl
 | _,_,.int i h=>by
  show (pl (.int i) && nU _)=true
  rw [ub h]; rfl
 | _,_,.str i h=>by
  show (pl (.str i) && nU _)=true
  rw [ub h]; rfl
theorem uY:∀ {σ:List Bool} {a:List D} (n:Nat),Sh σ a->a.all (eL (n+1))=true
 | _,_,_,.nil=>rfl
 | _,_,n,.int i h=>by rw [Nq,uY n h]; rfl
 | _,_,n,.str i h=>by rw [Nq,uY n h]; rfl
end TG
namespace TD
open PySem PySem.Spec L2 TG TX
def dI:cB:=aK (ng (fB (f2 vQ (ah 1) (fL jp (af (ah 0) (au))))) (ce (f2 bq (ah 0) (ah 1))) (cX)) (ce (fC (.int 0)))
def aG:cB:=ce (f2 cG (f2 bY (f2 bY (f2 jR (ah 0) (ah 0)) (f2 jR (fC (.int 48271)) (ah 0))) (fC (.int 11))) (fC (.int 2147483647)))
def cF:cB:=aK (bM 2 (f2 cG (f2 bY (f2 bY (f2 cG (fR (bc dI 2 2) (af (ah 0) (af (ah 1) (au)))) (fC (.int 2147483647))) (f2 jR (f2 jR (fC (.int 69621)) (ah 1)) (ah 1))) (fC (.int 5))) (fC (.int 2147483647)))) (ce (fR (bc aG 1 1) (af (fR (bc aG 1 1) (af (ah 2) (au))) (au))))
def cp:cB:=aK (bM 2 (fC (.str "abcdefghijklmnopqrstuvwxyz"))) (aK (bM 1 (f2 cG (f2 bY (f2 jR (ah 1) (f2 bq (jG (af (fC (.int 1)) (af (fC (.int 5)) (af (fC (.int 7)) (af (fC (.int 11)) (af (fC (.int 13)) (af (fC (.int 23)) (au)))))))) (f2 cG (ah 0) (fC (.int 6))))) (f2 dj (ah 0) (fC (.int 6)))) (fC (.int 24)))) (aK (bM 0 (f2 dj (ah 0) (fC (.int 144)))) (aK (ng (fB (f2 g9 (f2 cG (ah 0) (fC (.int 3))) (fC (.int 0)))) (ce (f2 wF (f2 bq (ah 2) (f2 cG (f2 bY (f2 dj (ah 0) (fC (.int 3))) (f2 dj (ah 1) (fC (.int 8)))) (fC (.int 26)))) (f2 bY (fC (.int 1)) (f2 cG (ah 1) (fC (.int 8)))))) (cX)) (aK (bM 3 (f2 bY (fC (.int 1)) (f2 cG (f2 dj (ah 0) (fC (.int 3))) (fC (.int 8))))) (aK (bM 4 (fC (.str ""))) (aK (ky (fN (af (ah 3) (au))) (gN 5) (aK (bM 6 (f2 dj (ah 0) (f2 bY (fC (.int 24)) (f2 jR (f2 jR (fC (.int 11)) (ah 5)) (ah 5))))) (aK (ng (fB (f2 g9 (ah 5) (f2 cG (f2 dj (ah 0) (fC (.int 24))) (ah 3)))) (bM 6 (f2 bY (ah 6) (ah 1))) (cX)) (aK (bM 4 (f2 bY (ah 4) (f2 bq (ah 2) (f2 cG (ah 6) (fC (.int 26)))))) (fJ [5,6] cX))))) (ce (ah 4))))))))
noncomputable def cP:cB:=aK (ng (fB (f2 vQ (f2 cG (ah 0) (fC (.int 3))) (fC (.int 2)))) (aK (bM 1 (f2 bq (jG (af (fC (.int 0)) (af (n9 (fC (.int 3))) (af (f2 AJ (fC (.int 0)) (f2 cG (f2 ql (ah 0) (fC (.int 7))) (f2 ql (fC (.int 10)) (fC (.int 59))))) (af (f2 cG (f2 ql (ah 0) (fC (.int 7))) (f2 ql (fC (.int 10)) (fC (.int 59)))) (au)))))) (f2 cG (f2 dj (ah 0) (fC (.int 3))) (fC (.int 4))))) (ce (cA (af (fC (.str "number")) (af (ah 1) (af (f2 bY (ah 1) (f2 bq (jG (af (fC (.int 0)) (af (fC (.int 1)) (af (fC (.int 6)) (af (f2 ql (fC (.int 10)) (fC (.int 59))) (au)))))) (f2 cG (f2 dj (ah 0) (fC (.int 12))) (fC (.int 4))))) (au))))))) (cX)) (aK (bM 2 (fC (.str "abcdefghijklmnopqrstuvwxyz"))) (aK (bM 3 (f2 bq (ah 2) (f2 cG (f2 dj (ah 0) (fC (.int 3))) (fC (.int 26))))) (aK (bM 4 (f2 bq (ah 2) (f2 cG (f2 dj (ah 0) (fC (.int 78))) (fC (.int 26))))) (aK (bM 5 (jG (af (fC (.str "")) (af (ah 3) (af (ah 4) (af (f2 bY (ah 3) (ah 4)) (af (f2 bY (ah 4) (ah 3)) (af (f2 wF (ah 3) (fC (.int 8))) (af (f2 bY (ah 3) (ah 3)) (af (f2 wF (ah 4) (fC (.int 3))) (au))))))))))) (aK (kP 6 tQ) (fJ [1,2,4] (aK (ky (fN (af (fC (.int 8)) (au))) (gN 7) (aK (ng (fB (f2 g9 (f2 nw (f2 o4 (f2 dj (ah 0) (fC (.int 2028))) (ah 7)) (fC (.int 1))) (fC (.int 1)))) (oo 6 (f2 bq (ah 5) (ah 7)) (fC (.bl true))) (cX)) (fJ [7] cX))) (aK (ng (kI [6] (fB (f2 g9 (fL uc (af (ah 6) (au))) (fC (.int 0))))) (oo 6 (ah 3) (fC (.bl true))) (cX)) (hJ 6 (ce (cA (af (fC (.str "word")) (af (fL cm (af (fL fh (af (fL pQ (af (ah 6) (au))) (au))) (au))) (au))))))))))))))
end TD
namespace TD
open PySem PySem.Spec L2 TG
local macro_rules
 | `(tactic| simp! only [$xs,*])=>`(tactic| simp only [cR,uP,p6,uB,fZ,eX,ge_0,zT,o9,Ac,oT,me,ph,pB,AD,AH,Ax,Ah,Ag,pF,o7,tX,jA,mw,pA,mz,tN,oU,oX,lZ,pW,jz,pL,jI,jD,iD,iA,pp,mX,iC,mK,jP,my,lV,ia,mQ,js,nQ,mS,jE,je,mB,lT,Bf,ut,Ao,A7,Am,pN,md,pU,mF,mL,AO,As,OA,OB,MH,M3,Nh,Nx,K0,env0,List.replicate,N3,ML,NV,Nat.reduceAdd,Nat.reduceSub,MG,M6,o6,pP,uy,oJ,o3,oI,iw,oV,uI,uV,tT,oP,jK,jF,jM,jm,jn,jt,t7,ux,uM,uK,uG,uw,ju,jr,gh,gf,pI,iz,gw,gD,gA,kL,lG,gb,gg,jC,jQ,lR,mi,jk,lU,pV,pK,lQ,mM,gN,if_true,if_false,OC,OD,Nf,$xs,*])
theorem JP (ns:List Int) (i:Int) (h:0<=i):∃ c:Int,bc dI 2 2 [.lst (ns.map .int),.int i]=.ok (.int c):=CK ns i h
theorem A1 (xs ys:List D):Ai [.tup xs,.tup ys]=some (oA xs ys):=nr rfl
end TD
namespace TD
open PySem PySem.Spec L2 TG
local macro_rules
 | `(tactic| simp! only [$xs,*])=>`(tactic| simp only [cR,uP,p6,uB,fZ,eX,ge_0,zT,o9,Ac,oT,me,ph,pB,AD,AH,Ax,Ah,Ag,pF,o7,tX,jA,mw,pA,mz,tN,oU,oX,lZ,pW,jz,pL,jI,jD,iD,iA,pp,mX,iC,mK,jP,my,lV,ia,mQ,js,nQ,mS,jE,je,mB,lT,Bf,ut,Ao,A7,Am,pN,md,pU,mF,mL,AO,As,OA,OB,MH,M3,Nh,Nx,K0,env0,List.replicate,N3,ML,NV,Nat.reduceAdd,Nat.reduceSub,MG,M6,o6,pP,uy,oJ,o3,oI,iw,oV,uI,uV,tT,oP,jK,jF,jM,jm,jn,jt,t7,ux,uM,uK,uG,uw,ju,jr,gh,gf,pI,iz,gw,gD,gA,kL,lG,gb,gg,jC,jQ,lR,mi,jk,lU,pV,pK,lQ,mM,gN,if_true,if_false,OC,OD,Nf,$xs,*])
abbrev fld (p:Str×D):D:=.tup [.str p.1,p.2]
theorem tZ (xs:List D):uz [.tup xs]=some (iZ 0 xs):=nr rfl
end TD
namespace T4
open PySem PySem.Spec L2 TG TD
local macro_rules
 | `(tactic| simp! only [$xs,*])=>`(tactic| simp only [cR,uP,p6,uB,fZ,eX,ge_0,zT,o9,Ac,oT,me,ph,pB,AD,AH,Ax,Ah,Ag,pF,o7,tX,jA,mw,pA,mz,tN,oU,oX,lZ,pW,jz,pL,jI,jD,iD,iA,pp,mX,iC,mK,jP,my,lV,ia,mQ,js,nQ,mS,jE,je,mB,lT,Bf,ut,Ao,A7,Am,pN,md,pU,mF,mL,AO,As,OA,OB,MH,M3,Nh,Nx,K0,env0,List.replicate,N3,ML,NV,Nat.reduceAdd,Nat.reduceSub,MG,M6,o6,pP,uy,oJ,o3,oI,iw,oV,uI,uV,tT,oP,jK,jF,jM,jm,jn,jt,t7,ux,uM,uK,uG,uw,ju,jr,gh,gf,pI,iz,gw,gD,gA,kL,lG,gb,gg,jC,jQ,lR,mi,jk,lU,pV,pK,lQ,mM,gN,if_true,if_false,OC,OD,Nf,$xs,*])
theorem GP {x:Str} {n:Int} (h:1<=n) (h':n<=1000) (hx:x.length<=1000):wF (.str x) (.int n)=some (.str (mY x n)):=by
 show (if decide (1<=n/\n<=1000/\x.length<=1000) then some (D.str (mY x n)) else none)=_
 rw [decide_eq_true ⟨h,h',hx⟩]; rfl
theorem iu (x:Int) (h0:0<=x) (h1:x < 2147483700):∃ y:Int,0<=y/\y < 2147483647/\bc aG 1 1 [.int x]=.ok (.int y):=by
 have m1:=kA (i:=x) (j:=x) ‹0› ‹0›
 have m2:=kA (i:=48271) (j:=x) (by decide) (by decide)
 have g:=fun i=>cj (i:=i) (show (0:Int) < 2147483647 by decide)
 refine⟨(x*x+48271*x+11)%2147483647,OG _ (by decide),OH _ (by decide),?_⟩
 rw [rY]; unfold aG
 simp! only [m1,m2,g]
theorem vB (ns:List Int) (k:Nat) (hk:k<=100):∃ y:Int,0<=y/\y < 2147483647/\bc cF 2 3 [.lst (ns.map .int),.int k]=.ok (.int y):=by
 obtain⟨c,ec⟩:=TD.JP ns k ‹0›
 have m1:=kA (i:=69621) (j:=(k:Int)) (by decide) (by decide)
 have m2:=qE (i:=69621*(k:Int)) (j:=(k:Int)) ‹0› ‹0›
 have g:=fun i=>cj (i:=i) (show (0:Int) < 2147483647 by decide)
 obtain⟨y1,a1,b1,e1⟩:=iu ((c%2147483647+69621*(k:Int)*(k:Int)+5)%2147483647) (OG _ (by decide)) (by have:=OH (c%2147483647+69621*(k:Int)*(k:Int)+5) (show (0:Int) < 2147483647 by decide); omega)
 obtain⟨y2,a2,b2,e2⟩:=iu y1 a1 ‹0›
 refine⟨y2,a2,b2,?_⟩
 rw [gB]; unfold cF
 simp! only [ec,g,m1,m2,e1,e2]
theorem zG (b k:Int) (hb:0<=b) (hk:0<=k):∃ w:Str,bc cp 2 7 [.int b,.int k]=.ok (.str w):=by
 have LL:(("abcdefghijklmnopqrstuvwxyz":Str)).length=26:=by decide +kernel
 generalize hL:("abcdefghijklmnopqrstuvwxyz":Str)=L at LL
 have g3:=fun i=>cj (i:=i) (show (0:Int) < 3 by decide)
 have g6:=fun i=>cj (i:=i) (show (0:Int) < 6 by decide)
 have g8:=fun i=>cj (i:=i) (show (0:Int) < 8 by decide)
 have g24:=fun i=>cj (i:=i) (show (0:Int) < 24 by decide)
 have g26:=fun i=>cj (i:=i) (show (0:Int) < 26 by decide)
 have d3:=fun i=>cy (i:=i) (show (0:Int) < 3 by decide) (show (3:Int) < 10 ^ 200 by decide)
 have d6:=fun i=>cy (i:=i) (show (0:Int) < 6 by decide) (show (6:Int) < 10 ^ 200 by decide)
 have d8:=fun i=>cy (i:=i) (show (0:Int) < 8 by decide) (show (8:Int) < 10 ^ 200 by decide)
 have d24:=fun i=>cy (i:=i) (show (0:Int) < 24 by decide) (show (24:Int) < 10 ^ 200 by decide)
 have d144:=fun i=>cy (i:=i) (show (0:Int) < 144 by decide) (show (144:Int) < 10 ^ 200 by decide)
 obtain⟨st,hst,est⟩:∃ st:Int,(0<=st/\st<=25)/\bq (.lst [.int 1,.int 5,.int 7,.int 11,.int 13,.int 23]) (.int (b%6))=some (.int st):=by
  rcases(show b%6=0\/b%6=1\/b%6=2\/b%6=3\/b%6=4\/b%6=5 by omega) with z | z | z | z | z | z <;> rw [z]
  ·exact⟨1,by decide,rfl⟩
  ·exact⟨5,by decide,rfl⟩
  ·exact⟨7,by decide,rfl⟩
  ·exact⟨11,by decide,rfl⟩
  ·exact⟨13,by decide,rfl⟩
  ·exact⟨23,by decide,rfl⟩
 have l6:∀ a b c d e f:D,oG [a,b,c,d,e,f]=some (.lst [a,b,c,d,e,f]):=fun _ _ _ _ _ _=>rfl
 have ms:=qE (i:=k) (j:=st) ‹0› ‹0›
 generalize hk':(k*st+b / 6)%24=k'
 have k1:0<=k'/\k' < 24:=by omega
 generalize hb':b / 144=b'
 have b0:0<=b':=by omega
 rw [gB]; unfold cp
 by_cases h:b'%3=0
 ·have h':(b'%3==0)=true:=by simp [h]
  obtain⟨y,hy,e1⟩:=nW L ‹0› ((b' / 3+k' / 8)%26) ‹0› ‹0›
  have mu:=GP (x:=y) (n:=1+k'%8) ‹0› ‹0› ‹0›
  refine⟨mY y (1+k'%8),?_⟩
  simp! only [hL,g6,l6,est,ms,d6,g24,hk',d144,hb',g3,h',d3,d8,g26,e1,g8,mu]
 ·have h':(b'%3==0)=false:=by simp [h]
  obtain⟨n,hn,hn1,hn2⟩:∃ n:Nat,1+b' / 3%8=(n:Int)/\1<=n/\n<=8:=⟨(1+b' / 3%8).toNat,by omega,by omega,by omega⟩
  have rn:=jH n ‹0›
  obtain⟨T,hT⟩:∃ T:cB,T=(aK (ky (fN (af (ah 3) (au))) (gN 5) (aK (bM 6 (f2 dj (ah 0) (f2 bY (fC (.int 24)) (f2 jR (f2 jR (fC (.int 11)) (ah 5)) (ah 5))))) (aK (ng (fB (f2 g9 (ah 5) (f2 cG (f2 dj (ah 0) (fC (.int 24))) (ah 3)))) (bM 6 (f2 bY (ah 6) (ah 1))) (cX)) (aK (bM 4 (f2 bY (ah 4) (f2 bq (ah 2) (f2 cG (ah 6) (fC (.int 26)))))) (fJ [5,6] cX))))) (ce (ah 4))):=⟨_,rfl⟩
  have key:∃ w:Str,T K0 [some (.val (.int b')),some (.val (.int k')),some (.val (.str L)),some (.val (.int n)),some (.val (.str "")),none,none]=.ok (.str w):=by
   rw [hT,ia,je]
   simp! only [rn]
   refine eZ (Q:=fun z=>∃ w:Str,z=.ok (.str w)) (fun i ρ=>∃ w:Str,w.length<=i/\ρ=[some (.val (.int b')),some (.val (.int k')),some (.val (.str L)),some (.val (.int n)),some (.val (.str w)),none,none]) ?_ ?_ ?_
   ·rintro i d ρ kk hd ⟨w,hw,rfl⟩
    have hi:=cS hd
    rw [cV] at hi
    have hdi:d=.int (i:Int):=by
     rw [jv,MS,ND hi] at hd
     cases hd; simp
    subst hdi
    have m1:=kA (i:=11) (j:=(i:Int)) (by decide) (by decide)
    have m2:=qE (i:=11*(i:Int)) (j:=(i:Int)) ‹0› ‹0›
    have ii:0<=11*(i:Int)*(i:Int):=Int.mul_nonneg ‹0› ‹0›
    have ii2:11*(i:Int)*(i:Int)<=11*8*8:=Int.mul_le_mul ‹0› ‹0› ‹0› (by decide)
    have dd:=fun z=>cy (i:=z) (show (0:Int) < 24+11*(i:Int)*(i:Int) by omega) (show 24+11*(i:Int)*(i:Int) < 10 ^ 200 by
     have:(10:Int) ^ 200 > 10000:=by decide +kernel
     omega)
    have gn:=fun z=>cj (i:=z) (show (0:Int) < (n:Int) by omega)
    generalize hs:b' / (24+11*(i:Int)*(i:Int))=s
    by_cases hq:((i:Int)==b' / 24%(n:Int))=true
    ·obtain⟨y,hy,e1⟩:=nW L ‹0› ((s+k')%26) ‹0› ‹0›
     have ad:=lL w y ‹0› ‹0›
     refine⟨_,_,rfl,⟨w++y,by rw [zL]; omega,rfl⟩,?_⟩
     simp! only [m1,m2,dd,hs,d24,gn,hq,g26,e1,ad]
    ·have hq':((i:Int)==b' / 24%(n:Int))=false:=by simpa using hq
     obtain⟨y,hy,e1⟩:=nW L ‹0› (s%26) ‹0› ‹0›
     have ad:=lL w y ‹0› ‹0›
     refine⟨_,_,rfl,⟨w++y,by rw [zL]; omega,rfl⟩,?_⟩
     simp! only [m1,m2,dd,hs,d24,gn,hq',g26,e1,ad]
   ·exact⟨"",by decide +kernel,rfl⟩
   ·rintro ρ' ⟨w,hw,rfl⟩
    exact⟨w,by simp! only []⟩
  obtain⟨w,ew⟩:=key
  refine⟨w,?_⟩
  rw [<- hT]
  simp only [K0] at ew
  simp! only [hL,g6,l6,est,ms,d6,g24,hk',d144,hb',g3,h',d3,g8,hn,ew]
theorem zx {i:Nat} {fk fv:FX} {k:Ks} {ρ:aq} {al:List (Key×D)} {q:Key} {d v:D} (h:ρ[i]?=some (some (.own (xt al)))) (ek:fk ρ=.ok d) (hd:d=bu q) (ev:fv ρ=.ok v) (hl:al.length<=1000) :
  oo i fk fv k ρ=k.nx (ρ.set i (some (.own (xt (qi al q v))))):=by
 subst hd
 have e:ug (gR al) (al.map (·.2)) (bu q) v=some (qi al q v):=by
  unfold ug
  rw [uJ]
  show (keyOf (bu q)).bind _=_
  rw [kD]
  show (if small al.length then _ else _)=_
  rw [dH ‹0›]; rfl
 unfold oo
 rw [h]
 show sM ((fv ρ).bind fun v=>(fk ρ).bind fun q=>rO (ug (gR al) (al.map (·.2)) q v)) k ρ _=_
 rw [ev,cR,ek,cR,e]; rfl
abbrev AU (ws:List Str):List (Key×D):=ws.map fun w=>((.inr w:Key),D.bl true)
abbrev wd (ws:List Str):D:=xt (AU ws)
def sV (ws:List Str) (w:Str):List Str:=if w∈ws then ws else ws++[w]
theorem BR (ws:List Str) (w:Str):qi (AU ws) (.inr w) (.bl true)=AU (sV ws w):=by
 have e:((AU ws).any fun p=>decide (p.1=(.inr w:Key)))=decide (w∈ws):=by
  induction ws with
  | nil=>simp
  | cons a ws ih =>
   show (decide ((.inr a:Key)=.inr w) || (AU ws).any fun p=>decide (p.1=(.inr w:Key)))=_
   rw [ih]
   by_cases z:a=w
   ·subst z; simp
   ·have z':¬ (.inr a:Key)=.inr w:=fun q=>z (Sum.inr.inj q)
    have z2:¬ w=a:=fun q=>z q.symm
    simp [z',z2]
 unfold qi sV
 rw [e]
 by_cases h:w∈ws
 ·rw [if_pos (by simpa using h),if_pos h]
  show (ws.map _).map _=_
  rw [Oh]
  refine Ny fun a _=>?_
  show (if (.inr a:Key)=.inr w then ((.inr a:Key),D.bl true) else ((.inr a:Key),D.bl true))=_
  split <;> rfl
 ·rw [if_neg (by simpa using h),if_neg h]
  show _=(ws++[w]).map _
  rw [Nz]; rfl
theorem zE {ws:List Str} (w:Str) (h:ws.Nodup):(sV ws w).Nodup:=by
 unfold sV
 split
 ·exact h
 ·rename_i z
  exact List.nodup_append.mpr ⟨h,List.nodup_cons.mpr ⟨by simp,M9⟩,fun a ha b hb e=>by
   rw [Oq] at hb
   subst hb e
   exact z ha⟩
theorem xj (ws:List Str) (w:Str):(sV ws w).length<=ws.length+1:=by
 unfold sV
 split
 ·omega
 ·simp
theorem E6 (ws:List Str):gR (AU ws)=ws.map D.str:=by
 show (ws.map _).map _=_
 rw [Oh]; rfl
theorem Dc (ws:List Str):keysOf (gR (AU ws))=some (ws.map .inr):=by
 rw [show gR (AU ws)=(ws.map (.inr:Str->Key)).map bu from by rw [E6,Oh]; rfl]
 exact cq _
theorem D4 (ws:List Str):uc [wd ws]=some (.int ws.length):=by
 show (keysOf (gR (AU ws))).bind _=_
 rw [Dc]
 show some (D.int ((ws.map _).length:Int))=_
 rw [MI]
theorem Br (ws:List Str):pQ [wd ws]=some (.lst (ws.map .str)):=by
 show (keysOf (gR (AU ws))).bind _=_
 rw [Dc]
 show some (D.lst (gR (AU ws)))=_
 rw [E6]
theorem lI (is:List Nat) (f:aq->R Bool) (ρ:aq):kI is f ρ=AI (f (frzs is ρ)):=nr rfl
theorem BI (i:Nat) (ρ:aq):frzs [i] ρ=frz i ρ:=nr rfl
theorem CD (i:Int) (k:Nat):o4 (.int i) (.int k)=some (.int (i / 2 ^ k)):=by
 show (if decide (0<=(k:Int)) then some (D.int (i / 2 ^ (k:Int).toNat)) else none)=_
 rw [decide_eq_true ‹0›]; rfl
theorem qJ (i j:Int):nw (.int i) (.int j)=some (.int (Builtin.bitAnd i j)):=nr rfl
theorem K3 (a b c d:D):oG [a,b,c,d]=some (.lst [a,b,c,d]):=nr rfl
theorem L6 (a b c d:D) (i:Int) (h0:0<=i) (h1:i < 4):∃ x∈[a,b,c,d],bq (.lst [a,b,c,d]) (.int i)=some x:=by
 rcases(show i=0\/i=1\/i=2\/i=3 by omega) with z | z | z | z <;> subst z
 ·exact⟨a,by simp,rfl⟩
 ·exact⟨b,by simp,rfl⟩
 ·exact⟨c,by simp,rfl⟩
 ·exact⟨d,by simp,rfl⟩
theorem FV (B:cB) (n:Nat) (a b c d e f:D):bc B 6 n [a,b,c,d,e,f]=B K0 (env0 n [a,b,c,d,e,f]):=nr rfl
abbrev fm (ps qs:List (Str×D)):D:=.tup [.tup (ps.map fld),.tup (qs.map fld)]
theorem j9 {α:Type} {ρ:aq} {g:GF} {C:aq->R Bool} {Fe:FX} (mk:α->D) (p:α->Bool) (v:α->D):∀ xs:List α,(∀ a∈xs,∃ ρ1,g (mk a) ρ=some ρ1/\C ρ1=.ok (p a)/\(p a=true->Fe ρ1=.ok (v a))) ->
  xH ρ g C Fe (xs.map mk)=.ok ((xs.filter p).map v)
 | [],_=>rfl
 | a::xs,h=>by
  obtain⟨ρ1,h1,h2,h3⟩:=h a Mu
  rw [MH,jT,h1,eX,cR,h2,fZ,cR,j9 mk p v xs fun b hb=>h b (Mv _ hb)]
  cases e:p a with
  | true=>rw [if_pos rfl,h3 e,fZ,cR,Oc e]; rfl
  | false=>rw [if_neg MF,Od (by simp [e])]
def mx (a b:Int):Int:=if b > a then b else a
end T4
namespace T4
open PySem PySem.Spec L2 TG TD
local macro_rules
 | `(tactic| simp! only [$xs,*])=>`(tactic| simp only [cR,uP,p6,uB,fZ,eX,ge_0,zT,o9,Ac,oT,me,ph,pB,AD,AH,Ax,Ah,Ag,pF,o7,tX,jA,mw,pA,mz,tN,oU,oX,lZ,pW,jz,pL,jI,jD,iD,iA,pp,mX,iC,mK,jP,my,lV,ia,mQ,js,nQ,mS,jE,je,mB,lT,Bf,ut,Ao,A7,Am,pN,md,pU,mF,mL,AO,As,OA,OB,MH,M3,Nh,Nx,K0,env0,List.replicate,N3,ML,NV,Nat.reduceAdd,Nat.reduceSub,MG,M6,o6,pP,uy,oJ,o3,oI,iw,oV,uI,uV,tT,oP,jK,jF,jM,jm,jn,jt,t7,ux,uM,uK,uG,uw,ju,jr,gh,gf,pI,iz,gw,gD,gA,kL,lG,gb,gg,jC,jQ,lR,mi,jk,lU,pV,pK,lQ,mM,gN,if_true,if_false,OC,OD,Nf,$xs,*])
def stp (b:Int):Int:=([1,5,7,11,13,23]:List Int).getD (b%6).toNat 0
def kk (b k:Int):Int:=(k*stp b+b / 6)%24
end T4
namespace T4
open PySem PySem.Spec L2 TG TD
theorem ot {α:Type} {motive:List α->Prop} (nil:motive []) (snoc:∀ (t:List α) (r:α),motive t->motive (t++[r])) (t:List α):motive t:=by
 have h:∀ l:List α,motive l.reverse:=fun l=>by
  induction l with
  | nil=>exact nil
  | cons a l ih=>rw [List.reverse_cons]; exact snoc _ _ ih
 have:=h t.reverse
 rw [List.reverse_reverse] at this
 exact this
theorem qB:∀ {σ:List Bool} {a:List D} (m:Nat),Sh σ a->Sh (σ.take m) (a.take m)
 | _,_,0,_=>by rw [Ni,Ni]; exact .nil
 | _,_,m+1,.nil=>by rw [Nj,Nj]; exact .nil
 | _,_,m+1,.int i h=>by rw [Nk,Nk]; exact .int i (qB m h)
 | _,_,m+1,.str i h=>by rw [Nk,Nk]; exact .str i (qB m h)
theorem qF:∀ {σ:List Bool} {a:List D},Sh σ a->∃ q:List Key,a=q.map bu
 | _,_,.nil=>⟨[],rfl⟩
 | _,_,.int i h=>by
  obtain⟨q,e⟩:=qF h
  exact⟨.inl i::q,by rw [MH,e]; rfl⟩
 | _,_,.str x h=>by
  obtain⟨q,e⟩:=qF h
  exact⟨.inr x::q,by rw [MH,e]; rfl⟩
theorem sA:∀ {p q:List Key},p.map bu=q.map bu->p=q:=fun {p q} h=>by
 have:=congrArg keysOf h
 rw [cq,cq] at this
 exact Option.some.inj this
theorem sf:∀ {σ:List Bool} {a b:List D} (m:Nat),Sh σ a->Sh σ b->eF a b=some true->eF (a.take m) (b.take m)=some true\/a.take m=b.take m
 | _,_,_,0,_,_,_=>.inr (by rw [Ni,Ni])
 | _,_,_,m+1,.nil,.nil,_=>.inr rfl
 | _,_,_,m+1,.int i h,.int j h',e=>by
  rw [oq] at e
  rw [Nk,Nk,oq]
  by_cases z:i=j
  ·rw [if_pos z] at e ⊢
   rcases sf m h h' e with q | q
   ·exact .inl q
   ·exact .inr (by rw [z,q])
  ·rw [if_neg z] at e ⊢
   exact .inl e
 | _,_,_,m+1,.str i h,.str j h',e=>by
  rw [oy] at e
  rw [Nk,Nk,oy]
  by_cases z:i=j
  ·rw [if_pos z] at e ⊢
   rcases sf m h h' e with q | q
   ·exact .inl q
   ·exact .inr (by rw [z,q])
  ·rw [if_neg z] at e ⊢
   exact .inl e
section
open Classical
variable (m:Nat)
noncomputable def GH (acc:List (List D)) (r:List D):List (List D):=if r.take m∈acc then acc else acc++[r.take m]
noncomputable def fs (t:List (List D)):List (List D):=t.foldl (GH m) []
noncomputable def gp (t:List (List D)) (f:List D):List (List D):=(t.filter fun r=>decide (r.take m=f)).map (List.drop m)
theorem kc (t:List (List D)) (r:List D):fs m (t++[r])=GH m (fs m t) r:=by
 unfold fs
 rw [List.foldl_append]; rfl
theorem lH {t:List (List D)} {f:List D}:f∈fs m t↔∃ r∈t,r.take m=f:=by
 induction t using ot with
 | nil=>unfold fs; simp
 | snoc t r ih =>
  rw [kc]
  unfold GH
  split
  ·rename_i h
   rw [ih]
   constructor
   ·rintro⟨x,h1,h2⟩; exact⟨x,Mw _ h1,h2⟩
   ·rintro⟨x,h1,h2⟩
    rcases List.mem_append.mp h1 with z | z
    ·exact⟨x,z,h2⟩
    ·rw [List.mem_singleton.mp z] at h2
     rw [h2] at h
     exact ih.mp h
  ·rw [List.mem_append,ih,Oq]
   constructor
   ·rintro(⟨x,h1,h2⟩ | h2)
    ·exact⟨x,Mw _ h1,h2⟩
    ·exact⟨r,by simp,h2.symm⟩
   ·rintro⟨x,h1,h2⟩
    rcases List.mem_append.mp h1 with z | z
    ·exact .inl ⟨x,z,h2⟩
    ·rw [List.mem_singleton.mp z] at h2
     exact .inr h2.symm
theorem uR (t:List (List D)):(fs m t).Nodup:=by
 induction t using ot with
 | nil=>exact M9
 | snoc t r ih =>
  rw [kc]
  unfold GH
  split
  ·exact ih
  ·rename_i h
   exact List.nodup_append.mpr ⟨ih,by simp,fun a ha b hb e=>by
    rw [List.mem_singleton.mp hb] at e
    rw [e] at ha; exact h ha⟩
theorem nO (t:List (List D)):(fs m t).length<=t.length:=by
 induction t using ot with
 | nil=>exact MA _
 | snoc t r ih =>
  rw [kc]
  unfold GH
  split
  ·rw [MV]; omega
  ·rw [MV,MV]; simpa using ih
theorem xI {σ:List Bool} {n:Nat} (hn:n=σ.length) {t:List (List D)} (hs:∀ r∈t,Sh σ (r.take n)) (hm:m<=n) (p:xP n t):(fs m t).Pairwise (fun a b=>eF a b=some true)/\∀ r,t.getLast?=some r->(fs m t).getLast?=some (r.take m):=by
 induction t using ot with
 | nil=>exact⟨List.Pairwise.nil,fun r h=>by simp at h⟩
 | snoc t r ih =>
  obtain⟨p1,p2,p3⟩:=List.pairwise_append.mp p
  obtain⟨i1,i2⟩:=ih (fun x hx=>hs x (Mw _ hx)) p1
  have sm:∀ x∈t++[r],Sh (σ.take m) (x.take m):=fun x hx=>by
   have:=qB m (hs x hx)
   rw [OI,Ou hm] at this
   exact this
  have le:∀ x∈t,eF (x.take m) (r.take m)=some true\/x.take m=r.take m:=fun x hx=>by
   have:=sf m (hs x (Mw _ hx)) (hs r (by simp)) (p3 x hx r (by simp))
   rw [OI,OI,Ou hm] at this
   exact this
  rw [kc]
  unfold GH
  split
  ·rename_i h
   refine⟨i1,fun x hx=>?_⟩
   rw [OJ] at hx
   have hx:r=x:=by simpa using hx
   subst hx
   obtain⟨y,hy,ey⟩:=(lH m).mp h
   have ne:t≠[]:=fun z=>by rw [z] at hy; cases hy
   have e0:=i2 _ (OL ne)
   have f0:fs m t≠[]:=fun z=>by rw [z] at h; cases h
   rw [OL f0] at e0 ⊢
   have e0:=Option.some.inj e0
   rcases le _ (OM ne) with q | q
   ·-- then it comes ahead of the last
    exfalso
    have hd:fs m t=(fs m t).dropLast++[(fs m t).getLast f0]:=(OO f0).symm
    rw [hd] at h i1
    rcases List.mem_append.mp h with z | z
    ·have:=(List.pairwise_append.mp i1).2.2 _ z _ (List.mem_singleton.mpr rfl)
     rw [e0] at this
     have a:=wg (sm r (by simp)) (sm _ (Mw _ (OM ne))) this
     rw [q] at a; cases a
    ·have:=List.mem_singleton.mp z
     rw [e0] at this
     rw [this] at q
     rw [jU (sm _ (Mw _ (OM ne)))] at q
     cases q
   ·rw [e0,q]
  ·rename_i h
   refine⟨List.pairwise_append.mpr ⟨i1,Oa _ _,fun a ha b hb=>?_⟩,fun x hx=>?_⟩
   ·rw [List.mem_singleton.mp hb]
    obtain⟨y,hy,ey⟩:=(lH m).mp ha
    rcases le y hy with q | q
    ·rw [ey] at q; exact q
    ·rw [ey] at q
     rw [q] at ha; exact absurd ha h
   ·rw [OJ] at hx ⊢
    have hx:r=x:=by simpa using hx
    subst hx
    simp
theorem qA (t:List (List D)) (r f:List D):gp m (t++[r]) f=gp m t f++(if r.take m=f then [r.drop m] else []):=by
 unfold gp
 rw [OQ,Nz]
 congr 1
 by_cases h:r.take m=f
 ·rw [if_pos h,Oc (by simpa using h)]; rfl
 ·rw [if_neg h,Od (by simpa using h)]; rfl
noncomputable def flat (t:List (List D)):List (List D):=(fs m t).flatMap fun f=>(gp m t f).map (f++·)
theorem EQ {σ:List Bool} {n:Nat} (hn:n=σ.length) {t:List (List D)} (hs:∀ r∈t,Sh σ (r.take n)) (hm:m<=n) (p:xP n t):flat m t=t:=by
 induction t using ot with
 | nil=>rfl
 | snoc t r ih =>
  have p1:=(List.pairwise_append.mp p).1
  have i0:=ih (fun x hx=>hs x (Mw _ hx)) p1
  have hr:=xI m hn hs hm p
  unfold flat at i0 ⊢
  rw [kc] at hr ⊢
  unfold GH at hr ⊢
  have same:∀ L:List (List D),r.take m∉L->(L.flatMap fun f=>(gp m (t++[r]) f).map (f++·))=L.flatMap fun f=>(gp m t f).map (f++·):=fun L hL=>by
   induction L with
   | nil=>rfl
   | cons f L ih =>
    rw [OS,OS,ih fun z=>hL (Mv _ z),qA,if_neg fun z=>hL (by rw [z]; exact Mu),ML]
  split
  ·rename_i h
   rw [if_pos h] at hr
   have f0:fs m t≠[]:=fun z=>by rw [z] at h; cases h
   have last:=hr.2 r (by rw [OJ]; simp)
   rw [OL f0] at last
   have last:=Option.some.inj last
   have hd:fs m t=(fs m t).dropLast++[r.take m]:=by
    rw [<- last]; exact(OO f0).symm
   have nd:=uR m t
   rw [hd] at nd
   have nin:r.take m∉(fs m t).dropLast:=fun z=>(List.nodup_append.mp nd).2.2 _ z _ (List.mem_singleton.mpr rfl) rfl
   rw [hd,OT] at i0 ⊢
   rw [same _ nin]
   conv=>rhs; rw [<- i0]
   rw [NI]
   congr 1
   rw [OU,OU,qA,if_pos rfl,Nz,OV,OW]
  ·rename_i h
   rw [OT,same _ h,i0,OU,qA,if_pos rfl]
   congr 1
   have e:gp m t (r.take m)=[]:=by
    unfold gp
    rw [List.filter_eq_nil_iff.mpr]
    ·rfl
    ·intro x hx z
     exact h ((lH m).mpr ⟨x,hx,by simpa using z⟩)
   rw [e,Nx,OV,OW]
end
open Classical in
theorem pE (al:List (List Key×D)) (q:List Key) (v:D):(gu al q v).map (·.1)=if q∈al.map (·.1) then al.map (·.1) else al.map (·.1)++[q]:=by
 have e:(al.any fun p=>decide (p.1=q))=true↔q∈al.map (·.1):=by
  rw [OX,List.mem_map]
  simp only [decide_eq_true_eq]
 unfold gu
 by_cases h:q∈al.map (·.1)
 ·rw [if_pos (e.mpr h),if_pos h,Oh]
  refine Ny fun p _=>?_
  show (if p.1=q then (p.1,v) else p).1=p.1
  split <;> rfl
 ·rw [if_neg fun z=>h (e.mp z),if_neg h,Nz]; rfl
theorem De {al:List (List Key×D)} {q:List Key} {v:D} {p:List Key×D} (h:p∈gu al q v):p∈al\/p=(q,v):=by
 unfold gu at h
 split at h
 ·obtain⟨a,ha,e⟩:=List.mem_map.mp h
  by_cases z:a.1=q
  ·rw [if_pos z] at e
   exact .inr (by rw [<- e,z])
  ·rw [if_neg z] at e
   exact .inl (by rw [<- e]; exact ha)
 ·rcases List.mem_append.mp h with z | z
  ·exact .inl z
  ·exact .inr (List.mem_singleton.mp z)
theorem Ed {al:List (List Key×D)} (q:List Key) (v:D) (h:(al.map (·.1)).Nodup):((gu al q v).map (·.1)).Nodup:=by
 rw [pE]
 split
 ·exact h
 ·rename_i z
  exact List.nodup_append.mpr ⟨h,by simp,fun a ha b hb e=>by
   rw [List.mem_singleton.mp hb] at e
   rw [e] at ha; exact z ha⟩
theorem B6 (al:List (List Key×D)) (q:List Key) (v:D):(gu al q v).length<=al.length+1:=by
 have:=congrArg List.length (pE al q v)
 rw [MI] at this
 rw [this]
 split <;> simp
theorem xc:∀ {al:List (List Key×D)} {p:List Key×D},(al.map (·.1)).Nodup->p∈al->pG al p.1=some p.2
 | a::al,p,h,hp=>by
  obtain⟨h1,h2⟩:=List.nodup_cons.mp (by simpa using h:(a.1::al.map (·.1)).Nodup)
  unfold pG
  by_cases e:a.1=p.1
  ·rw [Ow (by simpa using e)]
   rcases List.mem_cons.mp hp with z | z
   ·rw [z]; rfl
   ·exact absurd (show a.1∈al.map (·.1) from by rw [e]; exact List.mem_map.mpr ⟨p,z,rfl⟩) h1
  ·rw [Ox (by simpa using e)]
   rcases List.mem_cons.mp hp with z | z
   ·exact absurd (by rw [z]) e
   ·exact xc h2 z
theorem zu (al:List (List Key×D)):Do (encK al) (al.map (·.2))=some al:=by
 cases al with
 | nil=>rfl
 | cons p al=>exact iQ (p::al)
theorem wj (al:List (List Key×D)):lD [cJ al]=some (.lst (encK al)):=by
 show (Do (encK al) (al.map (·.2))).bind _=_
 rw [zu]; rfl
theorem GQ (al:List (List Key×D)) (q:List Key):yo (cJ al) (.tup (q.map bu))=pG al q:=by
 show (Do (encK al) (al.map (·.2))).bind _=_
 rw [zu]
 show (ig (.tup (q.map bu))).bind _=_
 rw [n0]; rfl
theorem xC (al:List (List Key×D)):yp (nI al)=some (al.map kM):=by
 show (jL (encK al) (al.map (·.2))).map _=_
 rw [iQ]; rfl
theorem y4 {al:List (List Key×D)} {σ:List Bool} (nd:(al.map (·.1)).Nodup) (hs:∀ p∈al,Sh σ (p.1.map bu)) (h0:σ≠[]) (hl:al.length < 64):fh [.lst (encK al)]=some (.lst (hV dQ (encK al)))/\v7 dQ (hV dQ (encK al)):=by
 have hx:∀ x∈encK al,∃ k,x=.tup k/\Sh σ k:=fun x hx=>by
  obtain⟨p,hp,rfl⟩:=List.mem_map.mp hx
  exact⟨_,rfl,hs p hp⟩
 have pw:(encK al).Pairwise fun x y=>dQ x≠dQ y:=by
  rw [Of]
  have:=List.pairwise_map.mp nd
  exact this.imp fun {a b} ne e=>ne (sA e)
 have a:Gc (encK al):=⟨by rw [MI]; exact hl,σ,h0,hx,pw⟩
 refine⟨?_,mD (σ:=σ) (fun x h=>by obtain⟨k,e,s⟩:=hx x h; rw [e]; exact s) pw⟩
 show pZ (encK al)=_
 unfold pZ
 rw [if_pos a]
theorem yV:∀ vs:List D,(∀ v∈vs,∃ r,v=.tup r)->∃ t:List (List D),vs=t.map .tup
 | [],_=>⟨[],rfl⟩
 | v::vs,h=>by
  obtain⟨r,e⟩:=h v Mu
  obtain⟨t,et⟩:=yV vs fun v hv=>h v (Mv _ hv)
  exact⟨r::t,by rw [e,et]; rfl⟩
def AL:Nat->D->Prop
 | 0,d=>(∃ i,d=.int i)\/∃ x,d=.str x
 | n+1,d=>((∃ i,d=.int i)\/∃ x,d=.str x)\/∃ ds,d=.tup ds/\ds.length<=1000/\∀ x∈ds,AL n x
theorem AL.of0 {d:D} (h:AL 0 d):∀ n,AL n d
 | 0=>h
 | _+1=>.inl h
theorem AL.up:∀ {n:Nat} {d:D},AL n d->AL (n+1) d
 | 0,_,h=>.inl h
 | n+1,_,h=>by
  rcases h with h | ⟨ds,e,l,f⟩
  ·exact .inl h
  ·exact .inr ⟨ds,e,l,fun x hx=>AL.up (f x hx)⟩
theorem AL.le {n m:Nat} (h:n<=m) {d:D} (hd:AL n d):AL m d:=by
  induction m with
  | zero => have : n = 0 := by omega
            subst this; exact hd
  | succ m ih =>
    by_cases e:n=m+1
    · subst e; exact hd
    · exact AL.up (ih ‹0›)
theorem AL.tup {n:Nat} {ds:List D} (l:ds.length<=1000) (h:∀ x∈ds,AL n x):AL (n+1) (.tup ds):=.inr ⟨ds,rfl,l,h⟩
theorem uo:∀ {σ:List Bool} {a:List D},Sh σ a->∀ x∈a,AL 0 x
 | _,_,.int i h,x,hx=>by
  rcases List.mem_cons.mp hx with z | z
  ·exact .inl ⟨i,z⟩
  ·exact uo h x z
 | _,_,.str i h,x,hx=>by
  rcases List.mem_cons.mp hx with z | z
  ·exact .inr ⟨i,z⟩
  ·exact uo h x z
theorem Dl:∀ {n:Nat} {d:D},AL n d->pl d=true
 | 0,_,h=>by rcases h with ⟨i,rfl⟩ | ⟨x,rfl⟩ <;> rfl
 | n+1,_,h=>by
  rcases h with (⟨i,rfl⟩ | ⟨x,rfl⟩) | ⟨ds,rfl,_,f⟩
  ·rfl
  ·rfl
  ·rw [cM]; exact nT fun x hx=>Dl (f x hx)
end T4
namespace Tk43
open PySem PySem.Spec L2 TG TX TD
def top (i:Nat):QG:=PySem.Challenge.pw_twoglass_k43_unnests_put.main.body.getD i (.Pass ⟨0,0,0,0⟩)
abbrev eJ:QG:=inClass (top 10) 0
theorem nS:bj ["self","name"] ["self","name"] (ay eJ):=‹2›
abbrev fP:QG:=top 25
theorem tx:bj ["_law_found","_law_due","_law_one","_law_other"] ["_law_found","_law_due"] (ay fP):=‹2›
def dU (aA:List D->R D):cB:=aK (ng (dW (qp "str" (ah 1))) (ce (nu (qp "str" (ah 0)) (f2 g9 (ah 0) (ah 1)))) (cX)) (aK (ng (DM (dW (qp "bool" (ah 1))) (dW (qp "bool" (ah 0)))) (ce (nu (qp "bool" (ah 1)) (nu (qp "bool" (ah 0)) (f2 g9 (ah 0) (ah 1))))) (cX)) (aK (ng (dW (qp "int" (ah 1))) (ce (nu (qp "int" (ah 0)) (f2 g9 (ah 0) (ah 1)))) (cX)) (aK (ng (DM (nK (dW (qp "tuple" (ah 0)))) (fB (f2 E5 (fL jp (af (ah 0) (au))) (fL jp (af (ah 1) (au)))))) (ce (fC (.bl false))) (cX)) (aK (ky (Ey (af (ah 0) (af (ah 1) (au)))) (gT 2 (oH [2,3])) (aK (ng (nK (dW (fR aA (af (ah 2) (af (ah 3) (au)))))) (ce (fC (.bl false))) (cX)) (fJ [2,3] cX))) (ce (fC (.bl true)))))))
def aA:Nat->List D->R D
 | 0=>fun _=>un
 | n+1=>bc (dU (aA n)) 2 4
theorem ja (n:Nat):aA (n+1)=bc (dU (aA n)) 2 4:=by rw [aA]
theorem cY:∀ n:Nat,Ar 2 (aA n)
 | 0=>fun _ h=>absurd (by rw [aA]) h
 | n+1=>by rw [ja]; exact bi
abbrev kG:QG:=inClass (top 8) 3
theorem wN:bj ["self","form","table","view"] ["self","form","table","view"] (ay kG):=‹2›
def bS:cB:=ce (ah 3)
abbrev i5:QG:=top 2
theorem vg:bj ["many","rows"] ["many","rows"] (ay i5):=‹2›
noncomputable def gV:cB:=ce (fL cm (af (f2 pc (ah 1) (ah 0)) (au)))
abbrev oh:QG:=top 4
theorem Af:bj ["many","rows"] ["many","rows"] (ay oh):=‹2›
def li:cB:=ce (fL vx (af (fY [none,some 0] (bw (ah 1)) (gN 0) (dE) (cA (af (bf (ah 0) (aP) (bH (ah 1))) (af (ah 0) (au))))) (au)))
abbrev j5:QG:=top 6
theorem vZ:bj ["many","rows","others","taken"] ["many","rows","others"] (ay j5):=‹2›
noncomputable def iG:cB:=aK (bM 3 (fR (bc li 2 2) (af (ah 0) (af (ah 1) (au))))) (ce (fR (bc gV 2 2) (af (ah 0) (af (f2 bY (fL jS (af (ah 1) (au))) (fY [none,some 0,some 3] (bw (ah 2)) (gN 0) (fB (f2 qu (bf (ah 0) (aP) (bH (ah 1))) (ah 2))) (ah 0))) (au)))))
abbrev mq:QG:=top 5
theorem yE:bj ["many","rows","groups","row"] ["many","rows"] (ay mq):=‹2›
def iy:cB:=aK (ww 2) (aK (ky (bw (ah 1)) (gN 3) (aK (AX 2 (bf (ah 3) (aP) (bH (ah 0))) (bf (ah 3) (bH (ah 0)) (aP))) (fJ [3] cX))) (ue 2 (ce (fL sE (af (fY [none,none] (kK (ah 2)) (gT 2 (oH [0,1])) (dE) (cA (af (ah 0) (af (fL cm (af (ah 1) (au))) (au))))) (au))))))
abbrev ip:QG:=inClass (top 10) 4
theorem sS:bj ["self","form","table","view","many","rows"] ["self","form","table","view"] (ay ip):=‹2›
noncomputable def aZ:cB:=aK (bM 4 (fL jp (af (f2 bq (ah 1) (fC (.int 0))) (au)))) (aK (bM 5 (fY [none,none] (kK (fR (bc iy 2 4) (af (ah 4) (af (ah 3) (au))))) (gT 2 (oH [0,1])) (dE) (f2 bY (ah 0) (cA (af (ah 1) (au)))))) (ce (fR (bc iG 3 4) (af (ah 4) (af (ah 5) (af (fY [none,some 4] (bw (ah 2)) (gN 0) (fB (f2 g9 (f2 bq (ah 0) (ah 1)) (cA (au)))) (ah 0)) (au)))))))
abbrev kH:QG:=inClass (top 8) 2
theorem v8:bj ["self","form","table"] ["self","form","table"] (ay kH):=‹2›
def dA:cB:=ce (ah 2)
abbrev kz:QG:=top 11
theorem vY:bj ["many","table","rows","row"] ["many","table"] (ay kz):=‹2›
def iT:cB:=aK (kP 2 (jG (au))) (aK (ky (bw (ah 1)) (gN 3) (aK (C5 2 (fY [none,some 3,some 0] (bw (f2 bq (ah 3) (ah 0))) (gN 0) (dE) (f2 bY (bf (ah 1) (aP) (bH (ah 2))) (ah 0)))) (fJ [3] cX))) (hJ 2 (ce (fL cm (af (ah 2) (au))))))
abbrev ir:QG:=inClass (top 10) 3
theorem tG:bj ["self","form","table"] ["self","form","table"] (ay ir):=‹2›
def bW:cB:=ce (fR (bc iT 2 4) (af (fL jp (af (f2 bq (ah 1) (fC (.int 0))) (au))) (af (ah 2) (au))))
abbrev gH:QG:=top 22
theorem sr:bj ["_law_many","_law_rows_here","_law_found","_law_row_here"] ["_law_many","_law_rows_here"] (ay gH):=‹2›
noncomputable def aN:cB:=aK (kP 2 tQ) (aK (ky (bw (ah 1)) (gN 3) (aK (qO 2 (bf (ah 3) (aP) (bH (ah 0))) (ah 3)) (fJ [3] cX))) (hJ 2 (ce (fL cm (af (fY [none,some 2] (bw (fL fh (af (fL lD (af (ah 2) (au))) (au)))) (gN 0) (dE) (f2 yo (ah 1) (ah 0))) (au))))))
abbrev iW:QG:=top 14
theorem uW:bj ["_law_x"] ["_law_x"] (ay iW):=‹2›
abbrev fW:QG:=top 20
theorem sY:bj ["_law_kind_here","_law_x"] ["_law_kind_here","_law_x"] (ay fW):=‹2›
abbrev iL:QG:=top 21
theorem wH:bj ["_law_form_here","_law_many","_law_head","_law_tail","_law_row_here","_law_name_here","_law_kind_here"] ["_law_form_here","_law_many","_law_head","_law_tail"] (ay iL):=‹2›
abbrev gQ:QG:=top 23
theorem vG:bj ["_law_form_here","_law_x","_law_many","_law_rows_here","_law_k"] ["_law_form_here","_law_x","_law_many"] (ay gQ):=‹2›
noncomputable def fS (az aF aI:List D->R D):cB:=aK (ng (fB (f2 g9 (f2 bq (ah 0) (fC (.int 0))) (fC (.str "number")))) (ce (f2 bY (f2 bq (ah 0) (fC (.int 1))) (f2 cG (f2 ql (ah 1) (fC (.int 7))) (f2 bY (f2 AJ (f2 bq (ah 0) (fC (.int 2))) (f2 bq (ah 0) (fC (.int 1)))) (fC (.int 1)))))) (cX)) (aK (ng (fB (f2 g9 (f2 bq (ah 0) (fC (.int 0))) (fC (.str "word")))) (ce (f2 bq (f2 bq (ah 0) (fC (.int 1))) (f2 cG (ah 1) (fL jp (af (f2 bq (ah 0) (fC (.int 1))) (au)))))) (cX)) (ce (fR aI (af (f2 bq (ah 0) (fC (.int 1))) (af (f2 dj (ah 1) (fC (.int 3))) (af (fL ra (af (f2 cG (ah 1) (fC (.int 3))) (af (fL zv (af (f2 bq (ah 0) (fC (.int 2))) (au))) (au)))) (au)))))))
noncomputable def j6 (az aF aI:List D->R D):cB:=aK (kP 4 (jG (au))) (aK (ky (bw (f2 bY (f2 bq (ah 0) (fC (.int 0))) (f2 bq (ah 0) (fC (.int 1))))) (gT 2 (oH [5,6])) (aK (ng (kI [4] (fB (f2 vQ (fL jp (af (ah 4) (au))) (ah 1)))) (aK (bM 2 (fR (bc aG 1 1) (af (ah 2) (au)))) (yL 4 fD (af (fR az (af (ah 6) (af (ah 2) (au)))) (au)))) (aK (bM 3 (fR (bc aG 1 1) (af (ah 3) (au)))) (yL 4 fD (af (fR az (af (ah 6) (af (ah 3) (au)))) (au))))) (fJ [5,6] cX))) (hJ 4 (ce (fL cm (af (ah 4) (au))))))
noncomputable def iX (az aF aI:List D->R D):cB:=aK (kP 3 (jG (au))) (aK (ky (fN (af (ah 2) (au))) (gN 4) (aK (bM 1 (fR (bc aG 1 1) (af (ah 1) (au)))) (aK (yL 3 fD (af (fR aF (af (ah 0) (af (fC (.int 0)) (af (fC (.int 0)) (af (ah 1) (au)))))) (au))) (fJ [4] cX)))) (hJ 3 (ce (fR (bc aN 2 4) (af (fL jp (af (f2 bq (ah 0) (fC (.int 0))) (au))) (af (ah 3) (au)))))))
mutual
noncomputable def az:Nat->List D->R D
 | 0=>fun _=>un
 | n+1=>bc (fS (az n) (aF n) (aI n)) 2 2
noncomputable def aF:Nat->List D->R D
 | 0=>fun _=>un
 | n+1=>bc (j6 (az n) (aF n) (aI n)) 4 7
noncomputable def aI:Nat->List D->R D
 | 0=>fun _=>un
 | n+1=>bc (iX (az n) (aF n) (aI n)) 3 5
end
theorem eI (n:Nat):az (n+1)=bc (fS (az n) (aF n) (aI n)) 2 2:=by rw [az]
theorem hU:∀ n:Nat,Ar 2 (az n)
 | 0=>fun _ h=>absurd (by rw [az]) h
 | n+1=>by rw [eI]; exact bi
theorem gW (n:Nat):aF (n+1)=bc (j6 (az n) (aF n) (aI n)) 4 7:=by rw [aF]
theorem e9:∀ n:Nat,Ar 4 (aF n)
 | 0=>fun _ h=>absurd (by rw [aF]) h
 | n+1=>by rw [gW]; exact bi
theorem gC (n:Nat):aI (n+1)=bc (iX (az n) (aF n) (aI n)) 3 5:=by rw [aI]
theorem iR:∀ n:Nat,Ar 3 (aI n)
 | 0=>fun _ h=>absurd (by rw [aI]) h
 | n+1=>by rw [gC]; exact bi
abbrev eG:QG:=top 29
theorem nJ:bj ["_law_form_here","_law_nested_here","_law_xs","_law_rows_here","_law_keys","_law_x","_law_key"] ["_law_form_here","_law_nested_here","_law_xs"] (ay eG):=‹2›
noncomputable def de:cB:=aK (kP 3 (fL jS (af (ah 1) (au)))) (aK (kP 4 (fY [none] (bw (ah 1)) (gN 0) (dE) (bf (ah 0) (aP) (bH (n9 (fC (.int 1))))))) (fJ [1] (aK (ky (bw (ah 2)) (gN 5) (aK (bM 6 (fR (aF 12) (af (cA (af (f2 bq (ah 0) (fC (.int 0))) (af (cA (au)) (au)))) (af (fC (.int 0)) (af (fC (.int 0)) (af (ah 5) (au))))))) (aK (ng (kI [4] (fB (f2 jh (ah 6) (ah 4)))) (aK (yL 4 fD (af (ah 6) (au))) (yL 3 fD (af (f2 bY (ah 6) (cA (af (cA (au)) (au)))) (au)))) (cX)) (fJ [5,6] cX)))) (hJ 3 (ce (fR (bc aN 2 4) (af (fL jp (af (f2 bq (ah 0) (fC (.int 0))) (au))) (af (ah 3) (au)))))))))
abbrev gG:QG:=top 28
theorem rQ:bj ["_law_table_here","_law_many","_law_firsts","_law_row_here","_law_found","_law_first"] ["_law_table_here","_law_many"] (ay gG):=‹2›
noncomputable def eE:cB:=aK (kP 2 tQ) (aK (ky (bw (ah 0)) (gN 3) (qO 2 (bf (ah 3) (aP) (bH (ah 1))) (fC (.bl true)))) (aK (kP 4 (jG (au))) (hJ 2 (aK (ky (bw (fL fh (af (fL lD (af (ah 2) (au))) (au)))) (gN 5) (aK (yL 4 fD (af (f2 bY (ah 5) (cA (af (fL cm (af (fY [none,some 1,some 5] (bw (ah 0)) (gN 0) (fB (f2 g9 (bf (ah 0) (aP) (bH (ah 1))) (ah 2))) (bf (ah 0) (bH (ah 1)) (aP))) (au))) (au)))) (au))) (fJ [5] cX))) (hJ 4 (ce (fL cm (af (ah 4) (au)))))))))
abbrev fU:QG:=top 13
theorem qo:bj ["_law_script","_law_k"] ["_law_script","_law_k"] (ay fU):=‹2›
abbrev jd:QG:=top 15
theorem vk:bj ["_law_script","_law_k","_law_x"] ["_law_script","_law_k"] (ay jd):=‹2›
abbrev iq:QG:=top 24
theorem sP:bj ["_law_form_here","_law_many","_law_script","_law_start","_law_most","_law_rows_here","_law_k","_law_x"] ["_law_form_here","_law_many","_law_script","_law_start","_law_most"] (ay iq):=‹2›
noncomputable def fO:cB:=aK (kP 5 (jG (au))) (aK (ky (qx (af (ah 3) (af (fL wI (af (fL ra (af (fL jp (af (ah 2) (au))) (af (f2 bY (ah 3) (fC (.int 5))) (au)))) (af (f2 bY (ah 3) (ah 4)) (au)))) (au)))) (gN 6) (aK (bM 7 (fR (bc cF 2 3) (af (ah 2) (af (ah 6) (au))))) (aK (yL 5 fD (af (fR (aF 12) (af (ah 0) (af (ah 1) (af (f2 bq (jG (af (f2 cG (f2 dj (ah 7) (fC (.int 2))) (fC (.int 4))) (af (f2 dj (ah 7) (fC (.int 2))) (au)))) (f2 cG (ah 7) (fC (.int 2)))) (af (fR (bc aG 1 1) (af (ah 7) (au))) (au)))))) (au))) (fJ [6,7] cX)))) (hJ 5 (ce (fR (bc aN 2 4) (af (fL jp (af (f2 bq (ah 0) (fC (.int 0))) (au))) (af (ah 5) (au)))))))
abbrev eV:QG:=top 27
theorem oF:bj ["_law_form_here","_law_inner"] ["_law_form_here"] (ay eV):=‹2›
def dM:cB:=aK (bM 1 (f2 bq (f2 bq (f2 bq (f2 bq (ah 0) (fC (.int 1))) (fC (.int 0))) (fC (.int 1))) (fC (.int 1)))) (ce (cA (af (f2 bY (f2 bq (ah 0) (fC (.int 0))) (f2 bq (ah 1) (fC (.int 0)))) (af (f2 bq (ah 1) (fC (.int 1))) (au)))))
abbrev jg:QG:=top 16
theorem vt:bj ["_law_base","_law_k","_law_letters","_law_size","_law_name_here","_law_j","_law_step"] ["_law_base","_law_k"] (ay jg):=‹2›
abbrev il:QG:=top 17
theorem tu:bj ["_law_x","_law_low","_law_letters","_law_one","_law_other","_law_some","_law_kept","_law_k"] ["_law_x"] (ay il):=‹2›
abbrev gO:QG:=top 18
theorem vp:bj ["_law_x","_law_base","_law_deep","_law_inner"] ["_law_x","_law_base","_law_deep"] (ay gO):=‹2›
abbrev gK:QG:=top 19
theorem vh:bj ["_law_x","_law_base","_law_start","_law_many","_law_more","_law_deep","_law_key","_law_rest","_law_k"] ["_law_x","_law_base","_law_start","_law_many","_law_more","_law_deep"] (ay gK):=‹2›
noncomputable def gU (aX aL:List D->R D):cB:=aK (ng (DM (fB (f2 g9 (ah 2) (fC (.int 0)))) (fB (f2 vQ (f2 cG (ah 0) (fC (.int 3))) (fC (.int 2))))) (ce (fR (bc cP 1 8) (af (f2 dj (ah 0) (fC (.int 3))) (au)))) (cX)) (aK (bM 3 (fR aL (af (f2 dj (ah 0) (fC (.int 3))) (af (ah 1) (af (f2 cG (f2 dj (ah 0) (fC (.int 36))) (fC (.int 12))) (af (f2 bY (fC (.int 1)) (f2 cG (f2 dj (ah 0) (fC (.int 3))) (fC (.int 2)))) (af (f2 cG (f2 dj (ah 0) (fC (.int 6))) (fC (.int 3))) (af (f2 AJ (ah 2) (fC (.int 1))) (au))))))))) (ce (cA (af (fC (.str "rows")) (af (ah 3) (af (f2 g9 (f2 cG (f2 dj (ah 0) (fC (.int 18))) (fC (.int 2))) (fC (.int 1))) (au)))))))
noncomputable def jc (aX aL:List D->R D):cB:=aK (kP 6 (jG (au))) (aK (kP 7 (jG (au))) (aK (ky (fN (af (f2 bY (ah 3) (ah 4)) (au))) (gN 8) (aK (bM 0 (fR (bc aG 1 1) (af (ah 0) (au)))) (aK (ng (fB (f2 vQ (ah 8) (ah 3))) (yL 6 fD (af (cA (af (fR (bc cp 2 7) (af (ah 1) (af (f2 bY (ah 2) (ah 8)) (au)))) (af (fR (bc cP 1 8) (af (ah 0) (au))) (au)))) (au))) (yL 7 fD (af (cA (af (fR (bc cp 2 7) (af (ah 1) (af (f2 bY (ah 2) (ah 8)) (au)))) (af (fR aX (af (ah 0) (af (ah 1) (af (ah 5) (au))))) (au)))) (au)))) (fJ [8] cX)))) (hJ 7 (hJ 6 (ce (cA (af (fL cm (af (ah 6) (au))) (af (fL cm (af (ah 7) (au))) (au)))))))))
mutual
noncomputable def aX:Nat->List D->R D
 | 0=>fun _=>un
 | n+1=>bc (gU (aX n) (aL n)) 3 4
noncomputable def aL:Nat->List D->R D
 | 0=>fun _=>un
 | n+1=>bc (jc (aX n) (aL n)) 6 9
end
theorem e6 (n:Nat):aX (n+1)=bc (gU (aX n) (aL n)) 3 4:=by rw [aX]
theorem kT:∀ n:Nat,Ar 3 (aX n)
 | 0=>fun _ h=>absurd (by rw [aX]) h
 | n+1=>by rw [e6]; exact bi
theorem gx (n:Nat):aL (n+1)=bc (jc (aX n) (aL n)) 6 9:=by rw [aL]
theorem fK:∀ n:Nat,Ar 6 (aL n)
 | 0=>fun _ h=>absurd (by rw [aL]) h
 | n+1=>by rw [gx]; exact bi
abbrev dS:QG:=top 26
theorem mZ:bj ["_law_script","_law_some","_law_x","_law_base","_law_many","_law_inside","_law_key","_law_deep","_law_inner","_law_name_here"] ["_law_script","_law_some"] (ay dS):=‹2›
noncomputable def cU:cB:=aK (bM 2 (fR (bc cF 2 3) (af (ah 0) (af (fC (.int 0)) (au))))) (aK (bM 3 (f2 cG (f2 jR (fR (bc dI 2 2) (af (ah 0) (af (fC (.int 1)) (au)))) (fC (.int 48271))) (fC (.int 2147483647)))) (aK (bM 4 (f2 bY (fC (.int 1)) (f2 cG (ah 2) (fC (.int 4))))) (aK (bM 5 (f2 bY (fC (.int 1)) (f2 cG (f2 dj (ah 2) (fC (.int 4))) (fC (.int 4))))) (aK (ng (fB (f2 g9 (f2 cG (f2 dj (ah 2) (fC (.int 16))) (fC (.int 8))) (fC (.int 3)))) (aK (bM 4 (f2 AJ (fC (.int 7)) (f2 cG (f2 dj (ah 2) (fC (.int 128))) (fC (.int 3))))) (bM 5 (f2 AJ (fC (.int 8)) (ah 4)))) (cX)) (aK (bM 6 (f2 bq (fR (aL 12) (af (fR (bc aG 1 1) (af (ah 2) (au))) (af (ah 3) (af (fC (.int 0)) (af (ah 4) (af (fC (.int 0)) (af (fC (.int 0)) (au)))))))) (fC (.int 0)))) (aK (bM 7 (f2 bq (jG (af (fC (.int 0)) (af (fC (.int 0)) (af (fC (.int 1)) (af (fC (.int 2)) (au)))))) (f2 cG (f2 dj (ah 2) (fC (.int 1024))) (fC (.int 4))))) (aK (bM 8 (fR (aL 12) (af (f2 bY (fR (bc aG 1 1) (af (ah 2) (au))) (fC (.int 1))) (af (ah 3) (af (fC (.int 8)) (af (ah 5) (af (f2 cG (f2 dj (ah 2) (fC (.int 4096))) (fC (.int 4))) (af (ah 7) (au))))))))) (aK (bM 9 (fR (bc cp 2 7) (af (ah 3) (af (f2 bq (jG (af (fC (.int 16)) (af (fC (.int 8)) (af (fC (.int 23)) (af (fC (.int 17)) (au)))))) (f2 cG (f2 dj (ah 2) (fC (.int 16384))) (fC (.int 4)))) (au))))) (ce (cA (af (ah 6) (af (cA (af (cA (af (ah 9) (af (cA (af (fC (.str "rows")) (af (ah 8) (af (ah 1) (au))))) (au)))) (au))) (au)))))))))))))
abbrev si:QG:=top 30
theorem Hh:bj ["_law_script","_law_x","_law_some","_law_form_here","_law_many","_law_rows_here","_law_view","_law_table_here","_law_fresh","_law_keys","_law_more","_law_brought","_law_kept","_law_due","_law_step","_law_put","_law_bare"] ["_law_script"] (ay si):=‹2›
noncomputable def qT:cB:=aK (bM 1 (fR (bc aG 1 1) (af (fR (bc cF 2 3) (af (ah 0) (af (fC (.int 2)) (au)))) (au)))) (aK (bM 2 (f2 g9 (f2 cG (ah 1) (fC (.int 3))) (fC (.int 1)))) (aK (bM 3 (fR (bc cU 2 10) (af (ah 0) (af (ah 2) (au))))) (aK (bM 4 (fL jp (af (f2 bq (ah 3) (fC (.int 0))) (au)))) (aK (bM 5 (fR (bc fO 5 8) (af (fR (bc dM 1 2) (af (ah 3) (au))) (af (ah 4) (af (ah 0) (af (fC (.int 2)) (af (fC (.int 50)) (au)))))))) (aK (bM 6 (fL cm (af (fY [none,none,some 1] (fH (af (ah 5) (au))) (gT 2 (oH [0,1])) (fB (f2 g9 (f2 nw (f2 o4 (f2 dj (ah 2) (fC (.int 3))) (f2 cG (ah 0) (fC (.int 20)))) (fC (.int 1))) (fC (.int 1)))) (ah 1)) (au)))) (aK (bM 7 (fR (bc eE 2 6) (af (fY [none,none,some 1] (fH (af (ah 5) (au))) (gT 2 (oH [0,1])) (fB (f2 g9 (f2 nw (f2 o4 (f2 dj (ah 2) (fC (.int 5))) (f2 cG (ah 0) (fC (.int 19)))) (fC (.int 1))) (fC (.int 1)))) (ah 1)) (af (ah 4) (au))))) (aK (bM 8 (fR (bc eE 2 6) (af (ah 6) (af (ah 4) (au))))) (aK (ng (nK (dW (ah 2))) (aK (bM 7 (fR (bc de 3 7) (af (ah 3) (af (ah 7) (af (fY [none,some 1] (fN (af (f2 cG (f2 dj (ah 1) (fC (.int 2))) (fC (.int 6))) (au))) (gN 0) (dE) (fR (bc aG 1 1) (af (f2 bY (ah 1) (f2 jR (f2 jR (fC (.int 7)) (ah 0)) (ah 0))) (au)))) (au)))))) (aK (bM 9 (fY [none,some 4] (bw (ah 7)) (gN 0) (dE) (bf (ah 0) (aP) (bH (ah 1))))) (aK (bM 10 (fY [none,some 4,some 9] (bw (bf (ah 8) (bH (f2 cG (f2 dj (ah 1) (fC (.int 7))) (fC (.int 3)))) (aP))) (gN 0) (fB (f2 jh (bf (ah 0) (aP) (bH (ah 1))) (ah 2))) (f2 bY (bf (ah 0) (aP) (bH (ah 1))) (cA (af (cA (au)) (au)))))) (bM 7 (fR (bc aN 2 4) (af (ah 4) (af (f2 bY (fL jS (af (ah 7) (au))) (bf (ah 10) (aP) (bH (fC (.int 2))))) (au)))))))) (cX)) (aK (bM 11 (fY [none,some 4] (bw (ah 8)) (gN 0) (dE) (bf (ah 0) (aP) (bH (ah 1))))) (aK (bM 12 (fY [none,some 4,some 11] (bw (ah 7)) (gN 0) (xJ (fB (f2 g9 (f2 bq (ah 0) (n9 (fC (.int 1)))) (cA (au)))) (fB (f2 jh (bf (ah 0) (aP) (bH (ah 1))) (ah 2)))) (ah 0))) (aK (bM 13 (fR (bc aN 2 4) (af (ah 4) (af (f2 bY (fL jS (af (ah 8) (au))) (ah 12)) (au))))) (aK (bM 14 (fNew "Unnest" ["name"] (af (f2 bq (f2 bq (f2 bq (ah 3) (fC (.int 1))) (fC (.int 0))) (fC (.int 0))) (au)))) (aK (bM 15 (eM "put" [("Step",(bc bS 4 4)),("Unnest",(bc aZ 4 6))] (ah 14) (af (ah 3) (af (ah 7) (af (ah 6) (au)))))) (aK (ng (DM (nK (dW (fR (aA 12) (af (ah 15) (af (ah 13) (au)))))) (nK (dW (fR (aA 12) (af (eM "got" [("Step",(bc dA 3 3)),("Unnest",(bc bW 3 3))] (ah 14) (af (ah 3) (af (ah 15) (au)))) (af (ah 6) (au))))))) (ce (fC (.bl false))) (cX)) (aK (ng (nK (dW (fR (aA 12) (af (eM "put" [("Step",(bc bS 4 4)),("Unnest",(bc aZ 4 6))] (ah 14) (af (ah 3) (af (ah 7) (af (eM "got" [("Step",(bc dA 3 3)),("Unnest",(bc bW 3 3))] (ah 14) (af (ah 3) (af (ah 7) (au)))) (au))))) (af (ah 7) (au)))))) (ce (fC (.bl false))) (cX)) (aK (bM 16 (fY [none] (bw (ah 7)) (gN 0) (fB (f2 g9 (f2 bq (ah 0) (n9 (fC (.int 1)))) (cA (au)))) (ah 0))) (ce (nu (fR (aA 12) (af (eM "put" [("Step",(bc bS 4 4)),("Unnest",(bc aZ 4 6))] (ah 14) (af (ah 3) (af (ah 7) (af (cA (au)) (au))))) (af (fL cm (af (ah 16) (au))) (au)))) (fR (aA 12) (af (eM "put" [("Step",(bc bS 4 4)),("Unnest",(bc aZ 4 6))] (ah 14) (af (ah 3) (af (cA (au)) (af (ah 6) (au))))) (af (ah 8) (au))))))))))))))))))))))
theorem Kf:(["row","many"]:List Str).Nodup:=by decide +kernel
theorem J2:(["row","many","taken"]:List Str).Nodup:=by decide +kernel
theorem Ir:(["key","within"]:List Str).Nodup:=by decide +kernel
theorem DB:(["key","within"]:List Str).Nodup:=by decide +kernel
theorem Kn:(["row","many"]:List Str).Nodup:=by decide +kernel
theorem JY:(["within","row","many"]:List Str).Nodup:=by decide +kernel
theorem La:(["_law_key","_law_found"]:List Str).Nodup:=by decide +kernel
theorem Jb:(["_law_row_here"]:List Str).Nodup:=by decide +kernel
theorem KZ:(["_law_row_here","_law_many","_law_first"]:List Str).Nodup:=by decide +kernel
theorem HE:(["_law_k","_law_row_here","_law_x"]:List Str).Nodup:=by decide +kernel
theorem Fi:(["_law_k","_law_row_here","_law_x"]:List Str).Nodup:=by decide +kernel
theorem IH:(["_law_k","_law_x"]:List Str).Nodup:=by decide +kernel
theorem EV:(["_law_row_here","_law_many"]:List Str).Nodup:=by decide +kernel
theorem Fq:(["_law_row_here","_law_many","_law_keys"]:List Str).Nodup:=by decide +kernel
theorem Fk:(["_law_row_here","_law_many"]:List Str).Nodup:=by decide +kernel
theorem Fj:(["_law_row_here","_law_many","_law_brought"]:List Str).Nodup:=by decide +kernel
theorem EY:(["_law_row_here"]:List Str).Nodup:=by decide +kernel
section
variable {P:Qr} {w:Qq} {K:Pa} {mg:Str->Option Qp} {base:Qu} [aR]
theorem tE {n:Nat} {f:Qs} (bJ:mg "isinstance"=none) (rV:mg "str"=none) (jZ:mg "bool"=none) (gP:mg "int"=none) (aQ:mg "tuple"=none) (bZ:mg "len"=none) (ud:mg "zip"=none) {aA:List D->R D} (cN:Callee P w K mg base (0+n) "_law_alike" ["_law_found","_law_due"] aA) (L__law_alike:Ar 2 aA):dP P w K mg base (0+n) ["_law_found","_law_due","_law_one","_law_other"] "_law_alike" fP f (dU aA) :=
 ⟨fun cdv A outer s H E hr hp=>(ak (dD (eD (ik wZ rfl bJ rfl rV Qd (aa (xv 1)))) (aE (bb (ow (ik wZ rfl bJ rfl rV Qd (aa (xv 0))) (qD (oC (dB hr.units) aw (aa (xv 0)) (aa (xv 1)) (cz _)))))) (bn)) (ak (dD (Ht (vL (eD (ik mE rfl bJ rfl jZ Qe (aa (xv 1)))) (qq (eD (ik mE rfl bJ rfl jZ Qe (aa (xv 0))))))) (aE (bb (ow (ik mE rfl bJ rfl jZ Qe (aa (xv 1))) (ow (ik mE rfl bJ rfl jZ Qe (aa (xv 0))) (qD (oC (dB hr.units) aw (aa (xv 0)) (aa (xv 1)) (cz _))))))) (bn)) (ak (dD (eD (ik xr rfl bJ rfl gP Qf (aa (xv 1)))) (aE (bb (ow (ik xr rfl bJ rfl gP Qf (aa (xv 0))) (qD (oC (dB hr.units) aw (aa (xv 0)) (aa (xv 1)) (cz _)))))) (bn)) (ak (dD (Ht (vL (mU (eD (ik yG rfl bJ rfl aQ Qg (aa (xv 0))))) (qq (bN (GL hr.units) aw (bQ cZ rfl bZ PySem.boot_len (ae (aa (xv 0)) (aj))) (bQ cZ rfl bZ PySem.boot_len (ae (aa (xv 1)) (aj))) (cz _))))) (aE (bb (kW))) (bn)) (ak (eW hp rfl (Eg rfl ud (ae (aa (xv 0)) (ae (aa (xv 1)) (aj)))) (kC (g:=oH [2,3]) rfl (cH (aH (i:=2) tx.nd rfl ‹1›) (cH (aH (i:=3) tx.nd rfl ‹1›) (iS)))) (ak (dD (mU (eD (ax cN L__law_alike hr ‹0› (ae (aa (xv 2)) (ae (aa (xv 3)) (aj)))))) (aE (bb (kW))) (bn)) (cI [2,3] bn))) (aE (bb (kW))))))))⟩
theorem lr {f__law_alike:Qs} {fd__law_alike:Q0} (F__law_alike:vv K "_law_alike" "_law_alike" fP f__law_alike fd__law_alike) (kF:Binds K fd__law_alike ["_law_found","_law_due"] []) (m__law_alike:mg "_law_alike"=some (.ref f__law_alike)) (bJ:mg "isinstance"=none) (rV:mg "str"=none) (jZ:mg "bool"=none) (gP:mg "int"=none) (aQ:mg "tuple"=none) (bZ:mg "len"=none) (ud:mg "zip"=none):∀ n:Nat,Callee P w K mg base (0+n) "_law_alike" ["_law_found","_law_due"] (aA n)
 | 0=>by
  rw [aA]
  exact fI 0 F__law_alike kF m__law_alike
 | n+1=>by
  have ih:=lr F__law_alike kF m__law_alike bJ rV jZ gP aQ bZ ud n
  rw [ja]
  exact bG F__law_alike kF m__law_alike tx (dP.ok (tE bJ rV jZ gP aQ bZ ud ih (cY n)))
theorem vX {f:Qs} :dP P w K mg base 0 ["self","form","table","view"] "Step.put" kG f bS :=
 ⟨fun cdv A outer s H E hr hp=>(aE (bb (aa (xv 3))))⟩
theorem vH {f cL T:Qs} (aQ:mg "tuple"=none) (eB:mg "sorted"=none) (lamB:Aq mg base cL T) (lamC:uH K f (.ref cL)) (lamT:∀ H,aR.tab H->H T=some (.ext (n6 T ⟨6,34,6,56⟩ ((("sorted_by":Str) ++ ".<locals>.") ++ "<lambda>")))):CG P w K mg base 0 ["many","rows"] "sorted_by" i5 f gV :=
 ⟨fun cdv A outer s H E hc hr hp=>by
  obtain rfl:=hc.one lamC
  exact(aE (bb (bx cu rfl aQ Qg (ae (A2 (j:=0) hr rfl eB lamB rfl lamT (aa (xv 1)) rfl rfl (Or.inr (Or.inl rfl)) rfl rfl rfl (fun _ _ _=>rfl) rfl rfl rfl (by decide) rfl rfl rfl rfl rfl) (aj)))))⟩
theorem zU {f:Qs} (pj:mg "dict"=none):dP P w K mg base 0 ["many","rows"] "by_key" oh f li :=
 ⟨fun cdv A outer s H E hr hp=>(aE (bb (bx (ya rfl hr.units) rfl pj Qh (ae (fw (N:=["row","many"]) (ix:=[none,some 0]) rfl (.of rfl) (bP rfl) (bX (aa (xv 1))) ⟨fun _ _ _ _ _ _=>⟨aH (i:=0) Kf rfl (Or.inl rfl),dL,bE (ae (bz (aa (xv 0)) (bL) (bI (aa (xv 1)))) (ae (aa (xv 0)) (aj)))⟩⟩) (aj)))))⟩
theorem wa {f:Qs} (rW:Callee P w K mg base 1 "by_key" ["many","rows"] (bc li 2 2)) (lA:Callee P w K mg base 1 "sorted_by" ["many","rows"] (bc gV 2 2)) (dY:mg "list"=none):dP P w K mg base 1 ["many","rows","others","taken"] "standing" j5 f iG :=
 ⟨fun cdv A outer s H E hr hp=>(ak (aJ (i:=3) vZ.nd rfl ‹1› (ax rW bi hr ‹0› (ae (aa (xv 0)) (ae (aa (xv 1)) (aj))))) (aE (bb (ax lA bi hr ‹0› (ae (aa (xv 0)) (ae (ao bd aw (bx nG rfl dY Qi (ae (aa (xv 1)) (aj))) (fw (N:=["row","many","taken"]) (ix:=[none,some 0,some 3]) rfl (.of rfl) (bP rfl) (bX (aa (xv 2))) ⟨fun _ _ _ _ _ _=>⟨aH (i:=0) J2 rfl (Or.inl rfl),eU (bN (zM hr.units) aw (bz (aa (xv 0)) (bL) (bI (aa (xv 1)))) (aa (xv 2)) rfl),aa (xv 0)⟩⟩)) (aj)))))))⟩
theorem yT {f:Qs} (pj:mg "dict"=none) (aQ:mg "tuple"=none):dP P w K mg base 0 ["many","rows","groups","row"] "grouped" mq f iy :=
 ⟨fun cdv A outer s H E hr hp=>(ak (CP (i:=2) yE.nd rfl ‹1›) (ak (eW hp rfl (bX (aa (xv 1))) (aH (i:=3) yE.nd rfl ‹1›) (ak (D3 hr.units (xv 2) (bz (aa (xv 3)) (bL) (bI (aa (xv 0)))) (bz (aa (xv 3)) (bI (aa (xv 0))) (bL))) (cI [3] bn))) (Bh 2 (aE (bb (bx (xW rfl hr.units) rfl pj Qh (ae (fw (N:=["key","within"]) (ix:=[none,none]) rfl (.of rfl) (iJ rfl) (pH (aa (xv 2))) ⟨fun _ _ _ _ _ _=>⟨kC (g:=oH [0,1]) rfl (cH (aH (i:=0) Ir rfl (Or.inl rfl)) (cH (aH (i:=1) Ir rfl (Or.inl rfl)) (iS))),dL,bE (ae (aa (xv 0)) (ae (bx cu rfl aQ Qg (ae (aa (xv 1)) (aj))) (aj)))⟩⟩) (aj))))))))⟩
theorem sN {f:Qs} (lP:Callee P w K mg base 1 "grouped" ["many","rows"] (bc iy 2 4)) (nB:Callee P w K mg base 2 "standing" ["many","rows","others"] (bc iG 3 4)) (bZ:mg "len"=none):dP P w K mg base 2 ["self","form","table","view","many","rows"] "Unnest.put" ip f aZ :=
 ⟨fun cdv A outer s H E hr hp=>(ak (aJ (i:=4) sS.nd rfl ‹1› (bQ cZ rfl bZ PySem.boot_len (ae (bh (aa (xv 1)) (ai) (fun _ _=>rfl)) (aj)))) (ak (by first | exact oW (i:=5) sS.nd rfl ‹1› (N:=["key","within"]) (ix:=[none,none]) rfl (.of rfl) (iJ rfl) (pH (ax lP bi hr ‹0› (ae (aa (xv 4)) (ae (aa (xv 3)) (aj))))) ⟨fun _ _ _ _ _ _=>⟨kC (g:=oH [0,1]) rfl (cH (aH (i:=0) DB rfl (Or.inl rfl)) (cH (aH (i:=1) DB rfl (Or.inl rfl)) (iS))),dL,ao bd aw (aa (xv 0)) (bE (ae (aa (xv 1)) (aj)))⟩⟩ | exact aJ (i:=5) sS.nd rfl ‹1› (fw (N:=["key","within"]) (ix:=[none,none]) rfl (.of rfl) (iJ rfl) (pH (ax lP bi hr ‹0› (ae (aa (xv 4)) (ae (aa (xv 3)) (aj))))) ⟨fun _ _ _ _ _ _=>⟨kC (g:=oH [0,1]) rfl (cH (aH (i:=0) DB rfl (Or.inl rfl)) (cH (aH (i:=1) DB rfl (Or.inl rfl)) (iS))),dL,ao bd aw (aa (xv 0)) (bE (ae (aa (xv 1)) (aj)))⟩⟩)) (aE (bb (ax nB bi hr ‹0› (ae (aa (xv 4)) (ae (aa (xv 5)) (ae (fw (N:=["row","many"]) (ix:=[none,some 4]) rfl (.of rfl) (bP rfl) (bX (aa (xv 2))) ⟨fun _ _ _ _ _ _=>⟨aH (i:=0) Kn rfl (Or.inl rfl),eU (bN (dB hr.units) aw (bh (aa (xv 0)) (aa (xv 1)) (fun _ _=>rfl)) (bE (aj)) (cz _)),aa (xv 0)⟩⟩) (aj)))))))))⟩
theorem wo {f:Qs} :dP P w K mg base 0 ["self","form","table"] "Step.got" kH f dA :=
 ⟨fun cdv A outer s H E hr hp=>(aE (bb (aa (xv 2))))⟩
theorem wv {f:Qs} (aQ:mg "tuple"=none):dP P w K mg base 0 ["many","table","rows","row"] "unnested" kz f iT :=
 ⟨fun cdv A outer s H E hr hp=>(ak (fg (i:=2) vY.nd rfl ‹1› (kx (aj))) (ak (eW hp rfl (bX (aa (xv 1))) (aH (i:=3) vY.nd rfl ‹1›) (ak (Dz (xv 2) (C7 (N:=["within","row","many"]) (ix:=[none,some 3,some 0]) rfl (.of rfl) (bP rfl) (bX (bh (aa (xv 3)) (aa (xv 0)) (fun _ _=>rfl))) ⟨fun _ _ _ _ _ _=>⟨aH (i:=0) JY rfl (Or.inl rfl),dL,ao bd aw (bz (aa (xv 1)) (bL) (bI (aa (xv 2)))) (aa (xv 0))⟩⟩)) (cI [3] bn))) (eS 2 (aE (bb (bx cu rfl aQ Qg (ae (aa (xv 2)) (aj))))))))⟩
theorem tD {f:Qs} (nR:Callee P w K mg base 1 "unnested" ["many","table"] (bc iT 2 4)) (bZ:mg "len"=none):dP P w K mg base 1 ["self","form","table"] "Unnest.got" ir f bW :=
 ⟨fun cdv A outer s H E hr hp=>(aE (bb (ax nR bi hr ‹0› (ae (bQ cZ rfl bZ PySem.boot_len (ae (bh (aa (xv 1)) (ai) (fun _ _=>rfl)) (aj))) (ae (aa (xv 2)) (aj))))))⟩
theorem sg {f:Qs} (aQ:mg "tuple"=none) (eB:mg "sorted"=none) (dY:mg "list"=none):dP P w K mg base 0 ["_law_many","_law_rows_here","_law_found","_law_row_here"] "_law_sorted" gH f aN :=
 ⟨fun cdv A outer s H E hr hp=>(ak (fg (i:=2) sr.nd rfl ‹1› (oQ)) (ak (eW hp rfl (bX (aa (xv 1))) (aH (i:=3) sr.nd rfl ‹1›) (ak (wU (hr.units) (xv 2) (bz (aa (xv 3)) (bL) (bI (aa (xv 0)))) (aa (xv 3))) (cI [3] bn))) (eS 2 (aE (bb (bx cu rfl aQ Qg (ae (fw (N:=["_law_key","_law_found"]) (ix:=[none,some 2]) rfl (.of rfl) (bP rfl) (bX (bQ kr rfl eB ib (ae (bx (rH rfl) rfl dY Qi (ae (aa (xv 2)) (aj))) (aj)))) ⟨fun _ _ _ _ _ _=>⟨aH (i:=0) La rfl (Or.inl rfl),dL,Ej hr.units (aa (xv 1)) (aa (xv 0)) (fun _ _=>rfl)⟩⟩) (aj))))))))⟩
theorem vc {f:Qs} :dP P w K mg base 0 ["_law_x"] "_law_next" iW f aG :=
 ⟨fun cdv A outer s H E hr hp=>(aE (bb (ao bB bA (ao bd aw (ao bd aw (ao iM iN (aa (xv 0)) (aa (xv 0))) (ao iM iN (ai) (aa (xv 0)))) (ai)) (ai))))⟩
theorem tB {n:Nat} {f:Qs} (aB:Callee P w K mg base 1 "_law_next" ["_law_x"] (bc aG 1 1)) (aV:Callee P w K mg base 1 "_law_sorted" ["_law_many","_law_rows_here"] (bc aN 2 4)) (bZ:mg "len"=none) (jN:mg "max"=none) (gP:mg "int"=none) (aQ:mg "tuple"=none) (bF:mg "range"=none) {az:List D->R D} (fT:Callee P w K mg base (1+n) "_law_value" ["_law_kind_here","_law_x"] az) (L__law_value:Ar 2 az) {aF:List D->R D} (dC:Callee P w K mg base (1+n) "_law_row" ["_law_form_here","_law_many","_law_head","_law_tail"] aF) (L__law_row:Ar 4 aF) {aI:List D->R D} (jf:Callee P w K mg base (1+n) "_law_rows" ["_law_form_here","_law_x","_law_many"] aI) (L__law_rows:Ar 3 aI):dP P w K mg base (1+n) ["_law_kind_here","_law_x"] "_law_value" fW f (fS az aF aI) :=
 ⟨fun cdv A outer s H E hr hp=>(ak (dD (bN (dB hr.units) aw (bh (aa (xv 0)) (ai) (fun _ _=>rfl)) (gI) (cz _)) (aE (bb (ao bd aw (bh (aa (xv 0)) (ai) (fun _ _=>rfl)) (ao bB bA (ao oK o8 (aa (xv 1)) (ai)) (ao bd aw (ao rF rz (bh (aa (xv 0)) (ai) (fun _ _=>rfl)) (bh (aa (xv 0)) (ai) (fun _ _=>rfl))) (ai)))))) (bn)) (ak (dD (bN (dB hr.units) aw (bh (aa (xv 0)) (ai) (fun _ _=>rfl)) (gI) (cz _)) (aE (bb (bh (bh (aa (xv 0)) (ai) (fun _ _=>rfl)) (ao bB bA (aa (xv 1)) (bQ cZ rfl bZ PySem.boot_len (ae (bh (aa (xv 0)) (ai) (fun _ _=>rfl)) (aj)))) (fun _ _=>rfl)))) (bn)) (aE (bb (ax jf L__law_rows hr ‹0› (ae (bh (aa (xv 0)) (ai) (fun _ _=>rfl)) (ae (ao bg bU (aa (xv 1)) (ai)) (ae (bQ (sd rfl) rfl jN Qj (ae (ao bB bA (aa (xv 1)) (ai)) (ae (bx yR rfl gP Qf (ae (bh (aa (xv 0)) (ai) (fun _ _=>rfl)) (aj))) (aj)))) (aj)))))))))⟩
theorem wA {n:Nat} {f:Qs} (aB:Callee P w K mg base 1 "_law_next" ["_law_x"] (bc aG 1 1)) (aV:Callee P w K mg base 1 "_law_sorted" ["_law_many","_law_rows_here"] (bc aN 2 4)) (bZ:mg "len"=none) (jN:mg "max"=none) (gP:mg "int"=none) (aQ:mg "tuple"=none) (bF:mg "range"=none) {az:List D->R D} (fT:Callee P w K mg base (1+n) "_law_value" ["_law_kind_here","_law_x"] az) (L__law_value:Ar 2 az) {aF:List D->R D} (dC:Callee P w K mg base (1+n) "_law_row" ["_law_form_here","_law_many","_law_head","_law_tail"] aF) (L__law_row:Ar 4 aF) {aI:List D->R D} (jf:Callee P w K mg base (1+n) "_law_rows" ["_law_form_here","_law_x","_law_many"] aI) (L__law_rows:Ar 3 aI):dP P w K mg base (1+n) ["_law_form_here","_law_many","_law_head","_law_tail","_law_row_here","_law_name_here","_law_kind_here"] "_law_row" iL f (j6 az aF aI) :=
 ⟨fun cdv A outer s H E hr hp=>(ak (fg (i:=4) wH.nd rfl ‹1› (kx (aj))) (ak (eW hp rfl (bX (ao bd aw (bh (aa (xv 0)) (ai) (fun _ _=>rfl)) (bh (aa (xv 0)) (ai) (fun _ _=>rfl)))) (kC (g:=oH [5,6]) rfl (cH (aH (i:=5) wH.nd rfl ‹1›) (cH (aH (i:=6) wH.nd rfl ‹1›) (iS)))) (ak (dD (rR [4] (bN (sJ hr.units) aw (bQ cZ rfl bZ PySem.boot_len (ae (aa (xv 4)) (aj))) (aa (xv 1)) (cz _))) (ak (aJ (i:=2) wH.nd rfl ‹1› (ax aB bi hr ‹0› (ae (aa (xv 2)) (aj)))) (aE (kB Qn Qo dG eY (xv 4) (ae (ax fT L__law_value hr ‹0› (ae (aa (xv 6)) (ae (aa (xv 2)) (aj)))) (aj))))) (ak (aJ (i:=3) wH.nd rfl ‹1› (ax aB bi hr ‹0› (ae (aa (xv 3)) (aj)))) (aE (kB Qn Qo dG eY (xv 4) (ae (ax fT L__law_value hr ‹0› (ae (aa (xv 6)) (ae (aa (xv 3)) (aj)))) (aj)))))) (cI [5,6] bn))) (eS 4 (aE (bb (bx cu rfl aQ Qg (ae (aa (xv 4)) (aj))))))))⟩
theorem vn {n:Nat} {f:Qs} (aB:Callee P w K mg base 1 "_law_next" ["_law_x"] (bc aG 1 1)) (aV:Callee P w K mg base 1 "_law_sorted" ["_law_many","_law_rows_here"] (bc aN 2 4)) (bZ:mg "len"=none) (jN:mg "max"=none) (gP:mg "int"=none) (aQ:mg "tuple"=none) (bF:mg "range"=none) {az:List D->R D} (fT:Callee P w K mg base (1+n) "_law_value" ["_law_kind_here","_law_x"] az) (L__law_value:Ar 2 az) {aF:List D->R D} (dC:Callee P w K mg base (1+n) "_law_row" ["_law_form_here","_law_many","_law_head","_law_tail"] aF) (L__law_row:Ar 4 aF) {aI:List D->R D} (jf:Callee P w K mg base (1+n) "_law_rows" ["_law_form_here","_law_x","_law_many"] aI) (L__law_rows:Ar 3 aI):dP P w K mg base (1+n) ["_law_form_here","_law_x","_law_many","_law_rows_here","_law_k"] "_law_rows" gQ f (iX az aF aI) :=
 ⟨fun cdv A outer s H E hr hp=>(ak (fg (i:=3) vG.nd rfl ‹1› (kx (aj))) (ak (eW hp rfl (iP rfl bF (ae (aa (xv 2)) (aj))) (aH (i:=4) vG.nd rfl ‹1›) (ak (aJ (i:=1) vG.nd rfl ‹1› (ax aB bi hr ‹0› (ae (aa (xv 1)) (aj)))) (ak (kB Qn Qo dG eY (xv 3) (ae (ax dC L__law_row hr ‹0› (ae (aa (xv 0)) (ae (ai) (ae (ai) (ae (aa (xv 1)) (aj)))))) (aj))) (cI [4] bn)))) (eS 3 (aE (bb (ax aV bi hr ‹0› (ae (bQ cZ rfl bZ PySem.boot_len (ae (bh (aa (xv 0)) (ai) (fun _ _=>rfl)) (aj))) (ae (aa (xv 3)) (aj)))))))))⟩
theorem lj {f__law_value:Qs} {fd__law_value:Q0} (F__law_value:vv K "_law_value" "_law_value" fW f__law_value fd__law_value) (ku:Binds K fd__law_value ["_law_kind_here","_law_x"] []) (m__law_value:mg "_law_value"=some (.ref f__law_value)) {f__law_row:Qs} {fd__law_row:Q0} (F__law_row:vv K "_law_row" "_law_row" iL f__law_row fd__law_row) (nF:Binds K fd__law_row ["_law_form_here","_law_many","_law_head","_law_tail"] []) (m__law_row:mg "_law_row"=some (.ref f__law_row)) {f__law_rows:Qs} {fd__law_rows:Q0} (F__law_rows:vv K "_law_rows" "_law_rows" gQ f__law_rows fd__law_rows) (lu:Binds K fd__law_rows ["_law_form_here","_law_x","_law_many"] []) (m__law_rows:mg "_law_rows"=some (.ref f__law_rows)) (aB:Callee P w K mg base 1 "_law_next" ["_law_x"] (bc aG 1 1)) (aV:Callee P w K mg base 1 "_law_sorted" ["_law_many","_law_rows_here"] (bc aN 2 4)) (bZ:mg "len"=none) (jN:mg "max"=none) (gP:mg "int"=none) (aQ:mg "tuple"=none) (bF:mg "range"=none):∀ n:Nat,Callee P w K mg base (1+n) "_law_value" ["_law_kind_here","_law_x"] (az n)/\Callee P w K mg base (1+n) "_law_row" ["_law_form_here","_law_many","_law_head","_law_tail"] (aF n)/\Callee P w K mg base (1+n) "_law_rows" ["_law_form_here","_law_x","_law_many"] (aI n)
 | 0=>by
  rw [az]; rw [aF]; rw [aI]
  exact⟨fI 1 F__law_value ku m__law_value,fI 1 F__law_row nF m__law_row,fI 1 F__law_rows lu m__law_rows⟩
 | n+1=>by
  have ih:=lj F__law_value ku m__law_value F__law_row nF m__law_row F__law_rows lu m__law_rows aB aV bZ jN gP aQ bF n
  rw [eI]; rw [gW]; rw [gC]
  exact⟨bG F__law_value ku m__law_value sY (dP.ok (tB aB aV bZ jN gP aQ bF ih.1 (hU n) ih.2.1 (e9 n) ih.2.2 (iR n))),bG F__law_row nF m__law_row wH (dP.ok (wA aB aV bZ jN gP aQ bF ih.1 (hU n) ih.2.1 (e9 n) ih.2.2 (iR n))),bG F__law_rows lu m__law_rows vG (dP.ok (vn aB aV bZ jN gP aQ bF ih.1 (hU n) ih.2.1 (e9 n) ih.2.2 (iR n)))⟩
theorem nM {f:Qs} (dC:Callee P w K mg base 13 "_law_row" ["_law_form_here","_law_many","_law_head","_law_tail"] (aF 12)) (aV:Callee P w K mg base 1 "_law_sorted" ["_law_many","_law_rows_here"] (bc aN 2 4)) (dY:mg "list"=none) (bZ:mg "len"=none):dP P w K mg base 13 ["_law_form_here","_law_nested_here","_law_xs","_law_rows_here","_law_keys","_law_x","_law_key"] "_law_with_empty" eG f de :=
 ⟨fun cdv A outer s H E hr hp=>(ak (fg (i:=3) nJ.nd rfl ‹1› (BW rfl dY Qi (ae (aa (xv 1)) (aj)))) (ak (by first | exact Ak (i:=4) nJ.nd rfl ‹1› (N:=["_law_row_here"]) (ix:=[none]) rfl (.of rfl) (bP rfl) (bX (aa (xv 1))) ⟨fun _ _ _ _ _ _=>⟨aH (i:=0) Jb rfl (Or.inl rfl),dL,bz (aa (xv 0)) (bL) (bI (j7 (ai)))⟩⟩ | exact fg (i:=4) nJ.nd rfl ‹1› (C7 (N:=["_law_row_here"]) (ix:=[none]) rfl (.of rfl) (bP rfl) (bX (aa (xv 1))) ⟨fun _ _ _ _ _ _=>⟨aH (i:=0) Jb rfl (Or.inl rfl),dL,bz (aa (xv 0)) (bL) (bI (j7 (ai)))⟩⟩)) (cI [1] (ak (eW hp rfl (bX (aa (xv 2))) (aH (i:=5) nJ.nd rfl ‹1›) (ak (aJ (i:=6) nJ.nd rfl ‹1› (ax dC (e9 12) hr ‹0› (ae (bE (ae (bh (aa (xv 0)) (ai) (fun _ _=>rfl)) (ae (bE (aj)) (aj)))) (ae (ai) (ae (ai) (ae (aa (xv 5)) (aj))))))) (ak (dD (rR [4] (bN (jw hr.units) aw (aa (xv 6)) (aa (xv 4)) rfl)) (ak (kB Qn Qo dG eY (xv 4) (ae (aa (xv 6)) (aj))) (aE (kB Qn Qo dG eY (xv 3) (ae (ao bd aw (aa (xv 6)) (bE (ae (bE (aj)) (aj)))) (aj))))) (bn)) (cI [5,6] bn)))) (eS 3 (aE (bb (ax aV bi hr ‹0› (ae (bQ cZ rfl bZ PySem.boot_len (ae (bh (aa (xv 0)) (ai) (fun _ _=>rfl)) (aj))) (ae (aa (xv 3)) (aj)))))))))))⟩
theorem sI {f:Qs} (eB:mg "sorted"=none) (dY:mg "list"=none) (aQ:mg "tuple"=none):dP P w K mg base 0 ["_law_table_here","_law_many","_law_firsts","_law_row_here","_law_found","_law_first"] "_law_nested" gG f eE :=
 ⟨fun cdv A outer s H E hr hp=>(ak (fg (i:=2) rQ.nd rfl ‹1› (oQ)) (ak (eW hp rfl (bX (aa (xv 0))) (aH (i:=3) rQ.nd rfl ‹1›) (aE (wU (hr.units) (xv 2) (bz (aa (xv 3)) (bL) (bI (aa (xv 1)))) (kW)))) (ak (fg (i:=4) rQ.nd rfl ‹1› (kx (aj))) (eS 2 (ak (eW hp rfl (bX (bQ kr rfl eB ib (ae (bx (rH rfl) rfl dY Qi (ae (aa (xv 2)) (aj))) (aj)))) (aH (i:=5) rQ.nd rfl ‹1›) (ak (kB Qn Qo dG eY (xv 4) (ae (ao bd aw (aa (xv 5)) (bE (ae (bx cu rfl aQ Qg (ae (fw (N:=["_law_row_here","_law_many","_law_first"]) (ix:=[none,some 1,some 5]) rfl (.of rfl) (bP rfl) (bX (aa (xv 0))) ⟨fun _ _ _ _ _ _=>⟨aH (i:=0) KZ rfl (Or.inl rfl),eU (bN (dB hr.units) aw (bz (aa (xv 0)) (bL) (bI (aa (xv 1)))) (aa (xv 2)) (cz _)),bz (aa (xv 0)) (bI (aa (xv 1))) (bL)⟩⟩) (aj))) (aj)))) (aj))) (cI [5] bn))) (eS 4 (aE (bb (bx cu rfl aQ Qg (ae (aa (xv 4)) (aj)))))))))))⟩
theorem qm {f:Qs} (bZ:mg "len"=none):dP P w K mg base 0 ["_law_script","_law_k"] "_law_cell_at" fU f dI :=
 ⟨fun cdv A outer s H E hr hp=>(ak (dD (bN (sJ hr.units) aw (aa (xv 1)) (bQ cZ rfl bZ PySem.boot_len (ae (aa (xv 0)) (aj))) (cz _)) (aE (bb (bh (aa (xv 0)) (aa (xv 1)) (fun _ _=>rfl)))) (bn)) (aE (bb (ai))))⟩
theorem vJ {f:Qs} (dN:Callee P w K mg base 1 "_law_cell_at" ["_law_script","_law_k"] (bc dI 2 2)) (aB:Callee P w K mg base 1 "_law_next" ["_law_x"] (bc aG 1 1)):dP P w K mg base 1 ["_law_script","_law_k","_law_x"] "_law_seed" jd f cF :=
 ⟨fun cdv A outer s H E hr hp=>(ak (aJ (i:=2) vk.nd rfl ‹1› (ao bB bA (ao bd aw (ao bd aw (ao bB bA (ax dN bi hr ‹0› (ae (aa (xv 0)) (ae (aa (xv 1)) (aj)))) (ai)) (ao iM iN (ao iM iN (ai) (aa (xv 1))) (aa (xv 1)))) (ai)) (ai))) (aE (bb (ax aB bi hr ‹0› (ae (ax aB bi hr ‹0› (ae (aa (xv 2)) (aj))) (aj))))))⟩
theorem tH {f:Qs} (dh:Callee P w K mg base 2 "_law_seed" ["_law_script","_law_k"] (bc cF 2 3)) (dC:Callee P w K mg base 13 "_law_row" ["_law_form_here","_law_many","_law_head","_law_tail"] (aF 12)) (aB:Callee P w K mg base 1 "_law_next" ["_law_x"] (bc aG 1 1)) (aV:Callee P w K mg base 1 "_law_sorted" ["_law_many","_law_rows_here"] (bc aN 2 4)) (bF:mg "range"=none) (Cp:mg "min"=none) (jN:mg "max"=none) (bZ:mg "len"=none):dP P w K mg base 13 ["_law_form_here","_law_many","_law_script","_law_start","_law_most","_law_rows_here","_law_k","_law_x"] "_law_table" iq f fO :=
 ⟨fun cdv A outer s H E hr hp=>(ak (fg (i:=5) sP.nd rfl ‹1› (kx (aj))) (ak (eW hp rfl (xQ rfl bF (ae (aa (xv 3)) (ae (bQ (x5 rfl) rfl Cp PyProof.Rows.boot_min (ae (bQ (sd rfl) rfl jN Qj (ae (bQ cZ rfl bZ PySem.boot_len (ae (aa (xv 2)) (aj))) (ae (ao bd aw (aa (xv 3)) (ai)) (aj)))) (ae (ao bd aw (aa (xv 3)) (aa (xv 4))) (aj)))) (aj)))) (aH (i:=6) sP.nd rfl ‹1›) (ak (aJ (i:=7) sP.nd rfl ‹1› (ax dh bi hr ‹0› (ae (aa (xv 2)) (ae (aa (xv 6)) (aj))))) (ak (kB Qn Qo dG eY (xv 5) (ae (ax dC (e9 12) hr ‹0› (ae (aa (xv 0)) (ae (aa (xv 1)) (ae (bh (jY (ae (ao bB bA (ao bg bU (aa (xv 7)) (ai)) (ai)) (ae (ao bg bU (aa (xv 7)) (ai)) (aj)))) (ao bB bA (aa (xv 7)) (ai)) (fun _ _=>rfl)) (ae (ax aB bi hr ‹0› (ae (aa (xv 7)) (aj))) (aj)))))) (aj))) (cI [6,7] bn)))) (eS 5 (aE (bb (ax aV bi hr ‹0› (ae (bQ cZ rfl bZ PySem.boot_len (ae (bh (aa (xv 0)) (ai) (fun _ _=>rfl)) (aj))) (ae (aa (xv 5)) (aj)))))))))⟩
theorem ou {f:Qs} :dP P w K mg base 0 ["_law_form_here","_law_inner"] "_law_flat_form" eV f dM :=
 ⟨fun cdv A outer s H E hr hp=>(ak (aJ (i:=1) oF.nd rfl ‹1› (bh (bh (bh (bh (aa (xv 0)) (ai) (fun _ _=>rfl)) (ai) (fun _ _=>rfl)) (ai) (fun _ _=>rfl)) (ai) (fun _ _=>rfl))) (aE (bb (bE (ae (ao bd aw (bh (aa (xv 0)) (ai) (fun _ _=>rfl)) (bh (aa (xv 1)) (ai) (fun _ _=>rfl))) (ae (bh (aa (xv 1)) (ai) (fun _ _=>rfl)) (aj)))))))⟩
theorem vC {f:Qs} (bF:mg "range"=none):dP P w K mg base 0 ["_law_base","_law_k","_law_letters","_law_size","_law_name_here","_law_j","_law_step"] "_law_name" jg f cp :=
 ⟨fun cdv A outer s H E hr hp=>(ak (aJ (i:=2) vt.nd rfl ‹1› (gI)) (ak (aJ (i:=1) vt.nd rfl ‹1› (ao bB bA (ao bd aw (ao iM iN (aa (xv 1)) (bh (jY (ae (ai) (ae (ai) (ae (ai) (ae (ai) (ae (ai) (ae (ai) (aj)))))))) (ao bB bA (aa (xv 0)) (ai)) (fun _ _=>rfl))) (ao bg bU (aa (xv 0)) (ai))) (ai))) (ak (aJ (i:=0) vt.nd rfl ‹1› (ao bg bU (aa (xv 0)) (ai))) (ak (dD (bN (dB hr.units) aw (ao bB bA (aa (xv 0)) (ai)) (ai) (cz _)) (aE (bb (ao vA aw (bh (aa (xv 2)) (ao bB bA (ao bd aw (ao bg bU (aa (xv 0)) (ai)) (ao bg bU (aa (xv 1)) (ai))) (ai)) (fun _ _=>rfl)) (ao bd aw (ai) (ao bB bA (aa (xv 1)) (ai)))))) (bn)) (ak (aJ (i:=3) vt.nd rfl ‹1› (ao bd aw (ai) (ao bB bA (ao bg bU (aa (xv 0)) (ai)) (ai)))) (ak (aJ (i:=4) vt.nd rfl ‹1› (gI)) (ak (eW hp rfl (iP rfl bF (ae (aa (xv 3)) (aj))) (aH (i:=5) vt.nd rfl ‹1›) (ak (aJ (i:=6) vt.nd rfl ‹1› (ao bg bU (aa (xv 0)) (ao bd aw (ai) (ao iM iN (ao iM iN (ai) (aa (xv 5))) (aa (xv 5)))))) (ak (dD (bN (dB hr.units) aw (aa (xv 5)) (ao bB bA (ao bg bU (aa (xv 0)) (ai)) (aa (xv 3))) (cz _)) (aE (aJ (i:=6) vt.nd rfl ‹1› (ao bd aw (aa (xv 6)) (aa (xv 1))))) (bn)) (ak (aJ (i:=4) vt.nd rfl ‹1› (ao bd aw (aa (xv 4)) (bh (aa (xv 2)) (ao bB bA (aa (xv 6)) (ai)) (fun _ _=>rfl)))) (cI [5,6] bn))))) (aE (bb (aa (xv 4)))))))))))⟩
theorem tJ {f:Qs} (bF:mg "range"=none) (bZ:mg "len"=none) (aQ:mg "tuple"=none) (eB:mg "sorted"=none) (dY:mg "list"=none):dP P w K mg base 0 ["_law_x","_law_low","_law_letters","_law_one","_law_other","_law_some","_law_kept","_law_k"] "_law_plain" il f cP :=
 ⟨fun cdv A outer s H E hr hp=>(ak (dD (bN (sJ hr.units) aw (ao bB bA (aa (xv 0)) (ai)) (ai) (cz _)) (ak (aJ (i:=1) tu.nd rfl ‹1› (bh (jY (ae (ai) (ae (j7 (ai)) (ae (ao rF rz (ai) (ao bB bA (ao oK o8 (aa (xv 0)) (ai)) (ao oK o8 (ai) (ai)))) (ae (ao bB bA (ao oK o8 (aa (xv 0)) (ai)) (ao oK o8 (ai) (ai))) (aj)))))) (ao bB bA (ao bg bU (aa (xv 0)) (ai)) (ai)) (fun _ _=>rfl))) (aE (bb (bE (ae (gI) (ae (aa (xv 1)) (ae (ao bd aw (aa (xv 1)) (bh (jY (ae (ai) (ae (ai) (ae (ai) (ae (ao oK o8 (ai) (ai)) (aj)))))) (ao bB bA (ao bg bU (aa (xv 0)) (ai)) (ai)) (fun _ _=>rfl))) (aj)))))))) (bn)) (ak (aJ (i:=2) tu.nd rfl ‹1› (gI)) (ak (aJ (i:=3) tu.nd rfl ‹1› (bh (aa (xv 2)) (ao bB bA (ao bg bU (aa (xv 0)) (ai)) (ai)) (fun _ _=>rfl))) (ak (aJ (i:=4) tu.nd rfl ‹1› (bh (aa (xv 2)) (ao bB bA (ao bg bU (aa (xv 0)) (ai)) (ai)) (fun _ _=>rfl))) (ak (aJ (i:=5) tu.nd rfl ‹1› (jY (ae (gI) (ae (aa (xv 3)) (ae (aa (xv 4)) (ae (ao bd aw (aa (xv 3)) (aa (xv 4))) (ae (ao bd aw (aa (xv 4)) (aa (xv 3))) (ae (ao vA aw (aa (xv 3)) (ai)) (ae (ao bd aw (aa (xv 3)) (aa (xv 3))) (ae (ao vA aw (aa (xv 4)) (ai)) (aj))))))))))) (ak (fg (i:=6) tu.nd rfl ‹1› (oQ)) (cI [1,2,4] (ak (eW hp rfl (iP rfl bF (ae (ai) (aj))) (aH (i:=7) tu.nd rfl ‹1›) (ak (dD (bN (dB hr.units) aw (ao yk yI (ao yP yF (ao bg bU (aa (xv 0)) (ai)) (aa (xv 7))) (ai)) (ai) (cz _)) (aE (wy (hr.units) (xv 6) (bh (aa (xv 5)) (aa (xv 7)) (fun _ _=>rfl)) (kW))) (bn)) (cI [7] bn))) (ak (dD (rR [6] (bN (dB hr.units) aw (bQ zZ rfl bZ PySem.boot_len (ae (aa (xv 6)) (aj))) (ai) (cz _))) (aE (wy (hr.units) (xv 6) (aa (xv 3)) (kW))) (bn)) (eS 6 (aE (bb (bE (ae (gI) (ae (bx cu rfl aQ Qg (ae (bQ kr rfl eB ib (ae (bx (yN rfl) rfl dY Qi (ae (aa (xv 6)) (aj))) (aj))) (aj))) (aj))))))))))))))))⟩
theorem vd {n:Nat} {f:Qs} (cO:Callee P w K mg base 1 "_law_plain" ["_law_x"] (bc cP 1 8)) (aB:Callee P w K mg base 1 "_law_next" ["_law_x"] (bc aG 1 1)) (cn:Callee P w K mg base 1 "_law_name" ["_law_base","_law_k"] (bc cp 2 7)) (bF:mg "range"=none) (aQ:mg "tuple"=none) {aX:List D->R D} (lx:Callee P w K mg base (1+n) "_law_kind" ["_law_x","_law_base","_law_deep"] aX) (L__law_kind:Ar 3 aX) {aL:List D->R D} (eQ:Callee P w K mg base (1+n) "_law_form" ["_law_x","_law_base","_law_start","_law_many","_law_more","_law_deep"] aL) (L__law_form:Ar 6 aL):dP P w K mg base (1+n) ["_law_x","_law_base","_law_deep","_law_inner"] "_law_kind" gO f (gU aX aL) :=
 ⟨fun cdv A outer s H E hr hp=>(ak (dD (Ht (vL (bN (dB hr.units) aw (aa (xv 2)) (ai) (cz _)) (qq (bN (sJ hr.units) aw (ao bB bA (aa (xv 0)) (ai)) (ai) (cz _))))) (aE (bb (ax cO bi hr ‹0› (ae (ao bg bU (aa (xv 0)) (ai)) (aj))))) (bn)) (ak (aJ (i:=3) vp.nd rfl ‹1› (ax eQ L__law_form hr ‹0› (ae (ao bg bU (aa (xv 0)) (ai)) (ae (aa (xv 1)) (ae (ao bB bA (ao bg bU (aa (xv 0)) (ai)) (ai)) (ae (ao bd aw (ai) (ao bB bA (ao bg bU (aa (xv 0)) (ai)) (ai))) (ae (ao bB bA (ao bg bU (aa (xv 0)) (ai)) (ai)) (ae (ao rF rz (aa (xv 2)) (ai)) (aj))))))))) (aE (bb (bE (ae (gI) (ae (aa (xv 3)) (ae (oC (dB hr.units) aw (ao bB bA (ao bg bU (aa (xv 0)) (ai)) (ai)) (ai) (cz _)) (aj)))))))))⟩
theorem vF {n:Nat} {f:Qs} (cO:Callee P w K mg base 1 "_law_plain" ["_law_x"] (bc cP 1 8)) (aB:Callee P w K mg base 1 "_law_next" ["_law_x"] (bc aG 1 1)) (cn:Callee P w K mg base 1 "_law_name" ["_law_base","_law_k"] (bc cp 2 7)) (bF:mg "range"=none) (aQ:mg "tuple"=none) {aX:List D->R D} (lx:Callee P w K mg base (1+n) "_law_kind" ["_law_x","_law_base","_law_deep"] aX) (L__law_kind:Ar 3 aX) {aL:List D->R D} (eQ:Callee P w K mg base (1+n) "_law_form" ["_law_x","_law_base","_law_start","_law_many","_law_more","_law_deep"] aL) (L__law_form:Ar 6 aL):dP P w K mg base (1+n) ["_law_x","_law_base","_law_start","_law_many","_law_more","_law_deep","_law_key","_law_rest","_law_k"] "_law_form" gK f (jc aX aL) :=
 ⟨fun cdv A outer s H E hr hp=>(ak (fg (i:=6) vh.nd rfl ‹1› (kx (aj))) (ak (fg (i:=7) vh.nd rfl ‹1› (kx (aj))) (ak (eW hp rfl (iP rfl bF (ae (ao bd aw (aa (xv 3)) (aa (xv 4))) (aj))) (aH (i:=8) vh.nd rfl ‹1›) (ak (aJ (i:=0) vh.nd rfl ‹1› (ax aB bi hr ‹0› (ae (aa (xv 0)) (aj)))) (ak (dD (bN (sJ hr.units) aw (aa (xv 8)) (aa (xv 3)) (cz _)) (aE (kB Qn Qo dG eY (xv 6) (ae (bE (ae (ax cn bi hr ‹0› (ae (aa (xv 1)) (ae (ao bd aw (aa (xv 2)) (aa (xv 8))) (aj)))) (ae (ax cO bi hr ‹0› (ae (aa (xv 0)) (aj))) (aj)))) (aj)))) (aE (kB Qn Qo dG eY (xv 7) (ae (bE (ae (ax cn bi hr ‹0› (ae (aa (xv 1)) (ae (ao bd aw (aa (xv 2)) (aa (xv 8))) (aj)))) (ae (ax lx L__law_kind hr ‹0› (ae (aa (xv 0)) (ae (aa (xv 1)) (ae (aa (xv 5)) (aj))))) (aj)))) (aj))))) (cI [8] bn)))) (eS 7 (eS 6 (aE (bb (bE (ae (bx cu rfl aQ Qg (ae (aa (xv 6)) (aj))) (ae (bx cu rfl aQ Qg (ae (aa (xv 7)) (aj))) (aj)))))))))))⟩
theorem nz {f__law_kind:Qs} {fd__law_kind:Q0} (F__law_kind:vv K "_law_kind" "_law_kind" gO f__law_kind fd__law_kind) (ly:Binds K fd__law_kind ["_law_x","_law_base","_law_deep"] []) (m__law_kind:mg "_law_kind"=some (.ref f__law_kind)) {f__law_form:Qs} {fd__law_form:Q0} (F__law_form:vv K "_law_form" "_law_form" gK f__law_form fd__law_form) (lB:Binds K fd__law_form ["_law_x","_law_base","_law_start","_law_many","_law_more","_law_deep"] []) (m__law_form:mg "_law_form"=some (.ref f__law_form)) (cO:Callee P w K mg base 1 "_law_plain" ["_law_x"] (bc cP 1 8)) (aB:Callee P w K mg base 1 "_law_next" ["_law_x"] (bc aG 1 1)) (cn:Callee P w K mg base 1 "_law_name" ["_law_base","_law_k"] (bc cp 2 7)) (bF:mg "range"=none) (aQ:mg "tuple"=none):∀ n:Nat,Callee P w K mg base (1+n) "_law_kind" ["_law_x","_law_base","_law_deep"] (aX n)/\Callee P w K mg base (1+n) "_law_form" ["_law_x","_law_base","_law_start","_law_many","_law_more","_law_deep"] (aL n)
 | 0=>by
  rw [aX]; rw [aL]
  exact⟨fI 1 F__law_kind ly m__law_kind,fI 1 F__law_form lB m__law_form⟩
 | n+1=>by
  have ih:=nz F__law_kind ly m__law_kind F__law_form lB m__law_form cO aB cn bF aQ n
  rw [e6]; rw [gx]
  exact⟨bG F__law_kind ly m__law_kind vp (dP.ok (vd cO aB cn bF aQ ih.1 (kT n) ih.2 (fK n))),bG F__law_form lB m__law_form vh (dP.ok (vF cO aB cn bF aQ ih.1 (kT n) ih.2 (fK n)))⟩
theorem m9 {f:Qs} (dh:Callee P w K mg base 2 "_law_seed" ["_law_script","_law_k"] (bc cF 2 3)) (dN:Callee P w K mg base 1 "_law_cell_at" ["_law_script","_law_k"] (bc dI 2 2)) (eQ:Callee P w K mg base 13 "_law_form" ["_law_x","_law_base","_law_start","_law_many","_law_more","_law_deep"] (aL 12)) (aB:Callee P w K mg base 1 "_law_next" ["_law_x"] (bc aG 1 1)) (cn:Callee P w K mg base 1 "_law_name" ["_law_base","_law_k"] (bc cp 2 7)):dP P w K mg base 13 ["_law_script","_law_some","_law_x","_law_base","_law_many","_law_inside","_law_key","_law_deep","_law_inner","_law_name_here"] "_law_parted_form" dS f cU :=
 ⟨fun cdv A outer s H E hr hp=>(ak (aJ (i:=2) mZ.nd rfl ‹1› (ax dh bi hr ‹0› (ae (aa (xv 0)) (ae (ai) (aj))))) (ak (aJ (i:=3) mZ.nd rfl ‹1› (ao bB bA (ao iM iN (ax dN bi hr ‹0› (ae (aa (xv 0)) (ae (ai) (aj)))) (ai)) (ai))) (ak (aJ (i:=4) mZ.nd rfl ‹1› (ao bd aw (ai) (ao bB bA (aa (xv 2)) (ai)))) (ak (aJ (i:=5) mZ.nd rfl ‹1› (ao bd aw (ai) (ao bB bA (ao bg bU (aa (xv 2)) (ai)) (ai)))) (ak (dD (bN (dB hr.units) aw (ao bB bA (ao bg bU (aa (xv 2)) (ai)) (ai)) (ai) (cz _)) (ak (aJ (i:=4) mZ.nd rfl ‹1› (ao rF rz (ai) (ao bB bA (ao bg bU (aa (xv 2)) (ai)) (ai)))) (aE (aJ (i:=5) mZ.nd rfl ‹1› (ao rF rz (ai) (aa (xv 4)))))) (bn)) (ak (aJ (i:=6) mZ.nd rfl ‹1› (bh (ax eQ (fK 12) hr ‹0› (ae (ax aB bi hr ‹0› (ae (aa (xv 2)) (aj))) (ae (aa (xv 3)) (ae (ai) (ae (aa (xv 4)) (ae (ai) (ae (ai) (aj)))))))) (ai) (fun _ _=>rfl))) (ak (aJ (i:=7) mZ.nd rfl ‹1› (bh (jY (ae (ai) (ae (ai) (ae (ai) (ae (ai) (aj)))))) (ao bB bA (ao bg bU (aa (xv 2)) (ai)) (ai)) (fun _ _=>rfl))) (ak (aJ (i:=8) mZ.nd rfl ‹1› (ax eQ (fK 12) hr ‹0› (ae (ao bd aw (ax aB bi hr ‹0› (ae (aa (xv 2)) (aj))) (ai)) (ae (aa (xv 3)) (ae (ai) (ae (aa (xv 5)) (ae (ao bB bA (ao bg bU (aa (xv 2)) (ai)) (ai)) (ae (aa (xv 7)) (aj))))))))) (ak (aJ (i:=9) mZ.nd rfl ‹1› (ax cn bi hr ‹0› (ae (aa (xv 3)) (ae (bh (jY (ae (ai) (ae (ai) (ae (ai) (ae (ai) (aj)))))) (ao bB bA (ao bg bU (aa (xv 2)) (ai)) (ai)) (fun _ _=>rfl)) (aj))))) (aE (bb (bE (ae (aa (xv 6)) (ae (bE (ae (bE (ae (aa (xv 9)) (ae (bE (ae (gI) (ae (aa (xv 8)) (ae (aa (xv 1)) (aj))))) (aj)))) (aj))) (aj)))))))))))))))⟩
theorem G8 {f:Qs} {fd:Q0} (F:vv K "law" "law" si f fd) (aB:Callee P w K mg base 1 "_law_next" ["_law_x"] (bc aG 1 1)) (dh:Callee P w K mg base 2 "_law_seed" ["_law_script","_law_k"] (bc cF 2 3)) (fF:Callee P w K mg base 14 "_law_parted_form" ["_law_script","_law_some"] (bc cU 2 10)) (jW:Callee P w K mg base 14 "_law_table" ["_law_form_here","_law_many","_law_script","_law_start","_law_most"] (bc fO 5 8)) (gq:Callee P w K mg base 1 "_law_flat_form" ["_law_form_here"] (bc dM 1 2)) (gF:Callee P w K mg base 1 "_law_nested" ["_law_table_here","_law_many"] (bc eE 2 6)) (fQ:Callee P w K mg base 14 "_law_with_empty" ["_law_form_here","_law_nested_here","_law_xs"] (bc de 3 7)) (aV:Callee P w K mg base 1 "_law_sorted" ["_law_many","_law_rows_here"] (bc aN 2 4)) (cN:Callee P w K mg base 12 "_law_alike" ["_law_found","_law_due"] (aA 12)) (dX:nq P w K mg base 14 "put" ["self","form","table","view"] [("Step",(bc bS 4 4)),("Unnest",(bc aZ 4 6))]) (iO:nq P w K mg base 14 "got" ["self","form","table"] [("Step",(bc dA 3 3)),("Unnest",(bc bW 3 3))]) (qY:rZ P w K mg base 1 "Unnest" ["self","name"] ["name"]) (bZ:mg "len"=none) (aQ:mg "tuple"=none) (i3:mg "enumerate"=none) (bF:mg "range"=none) (dY:mg "list"=none):iV P w K mg base (nA P w) 15 f fd ["_law_script"] (Bk K 1 (bc qT 1 17)) :=
 vP (k:=14) F Hh (dP.ok ⟨fun cdv A outer s H E hr hp=>(ak (aJ (i:=1) Hh.nd rfl ‹1› (ax aB bi hr ‹0› (ae (ax dh bi hr ‹0› (ae (aa (xv 0)) (ae (ai) (aj)))) (aj)))) (ak (aJ (i:=2) Hh.nd rfl ‹1› (oC (dB hr.units) aw (ao bB bA (aa (xv 1)) (ai)) (ai) (cz _))) (ak (aJ (i:=3) Hh.nd rfl ‹1› (ax fF bi hr ‹0› (ae (aa (xv 0)) (ae (aa (xv 2)) (aj))))) (ak (aJ (i:=4) Hh.nd rfl ‹1› (bQ cZ rfl bZ PySem.boot_len (ae (bh (aa (xv 3)) (ai) (fun _ _=>rfl)) (aj)))) (ak (aJ (i:=5) Hh.nd rfl ‹1› (ax jW bi hr ‹0› (ae (ax gq bi hr ‹0› (ae (aa (xv 3)) (aj))) (ae (aa (xv 4)) (ae (aa (xv 0)) (ae (ai) (ae (ai) (aj)))))))) (ak (aJ (i:=6) Hh.nd rfl ‹1› (bx cu rfl aQ Qg (ae (fw (N:=["_law_k","_law_row_here","_law_x"]) (ix:=[none,none,some 1]) rfl (.of rfl) (iJ rfl) (nh rfl i3 (ae (aa (xv 5)) (aj))) ⟨fun _ _ _ _ _ _=>⟨kC (g:=oH [0,1]) rfl (cH (aH (i:=0) HE rfl (Or.inl rfl)) (cH (aH (i:=1) HE rfl (Or.inl rfl)) (iS))),eU (bN (dB hr.units) aw (ao yk yI (ao yP yF (ao bg bU (aa (xv 2)) (ai)) (ao bB bA (aa (xv 0)) (ai))) (ai)) (ai) (cz _)),aa (xv 1)⟩⟩) (aj)))) (ak (aJ (i:=7) Hh.nd rfl ‹1› (ax gF bi hr ‹0› (ae (fw (N:=["_law_k","_law_row_here","_law_x"]) (ix:=[none,none,some 1]) rfl (.of rfl) (iJ rfl) (nh rfl i3 (ae (aa (xv 5)) (aj))) ⟨fun _ _ _ _ _ _=>⟨kC (g:=oH [0,1]) rfl (cH (aH (i:=0) Fi rfl (Or.inl rfl)) (cH (aH (i:=1) Fi rfl (Or.inl rfl)) (iS))),eU (bN (dB hr.units) aw (ao yk yI (ao yP yF (ao bg bU (aa (xv 2)) (ai)) (ao bB bA (aa (xv 0)) (ai))) (ai)) (ai) (cz _)),aa (xv 1)⟩⟩) (ae (aa (xv 4)) (aj))))) (ak (aJ (i:=8) Hh.nd rfl ‹1› (ax gF bi hr ‹0› (ae (aa (xv 6)) (ae (aa (xv 4)) (aj))))) (ak (dD (mU (eD (aa (xv 2)))) (ak (aJ (i:=7) Hh.nd rfl ‹1› (ax fQ bi hr ‹0› (ae (aa (xv 3)) (ae (aa (xv 7)) (ae (fw (N:=["_law_k","_law_x"]) (ix:=[none,some 1]) rfl (.of rfl) (bP rfl) (iP rfl bF (ae (ao bB bA (ao bg bU (aa (xv 1)) (ai)) (ai)) (aj))) ⟨fun _ _ _ _ _ _=>⟨aH (i:=0) IH rfl (Or.inl rfl),dL,ax aB bi hr ‹0› (ae (ao bd aw (aa (xv 1)) (ao iM iN (ao iM iN (ai) (aa (xv 0))) (aa (xv 0)))) (aj))⟩⟩) (aj)))))) (ak (by first | exact oW (i:=9) Hh.nd rfl ‹1› (N:=["_law_row_here","_law_many"]) (ix:=[none,some 4]) rfl (.of rfl) (bP rfl) (bX (aa (xv 7))) ⟨fun _ _ _ _ _ _=>⟨aH (i:=0) EV rfl (Or.inl rfl),dL,bz (aa (xv 0)) (bL) (bI (aa (xv 1)))⟩⟩ | exact aJ (i:=9) Hh.nd rfl ‹1› (fw (N:=["_law_row_here","_law_many"]) (ix:=[none,some 4]) rfl (.of rfl) (bP rfl) (bX (aa (xv 7))) ⟨fun _ _ _ _ _ _=>⟨aH (i:=0) EV rfl (Or.inl rfl),dL,bz (aa (xv 0)) (bL) (bI (aa (xv 1)))⟩⟩)) (ak (by first | exact oW (i:=10) Hh.nd rfl ‹1› (N:=["_law_row_here","_law_many","_law_keys"]) (ix:=[none,some 4,some 9]) rfl (.of rfl) (bP rfl) (bX (bz (aa (xv 8)) (bI (ao bB bA (ao bg bU (aa (xv 1)) (ai)) (ai))) (bL))) ⟨fun _ _ _ _ _ _=>⟨aH (i:=0) Fq rfl (Or.inl rfl),eU (bN (jw hr.units) aw (bz (aa (xv 0)) (bL) (bI (aa (xv 1)))) (aa (xv 2)) rfl),ao bd aw (bz (aa (xv 0)) (bL) (bI (aa (xv 1)))) (bE (ae (bE (aj)) (aj)))⟩⟩ | exact aJ (i:=10) Hh.nd rfl ‹1› (fw (N:=["_law_row_here","_law_many","_law_keys"]) (ix:=[none,some 4,some 9]) rfl (.of rfl) (bP rfl) (bX (bz (aa (xv 8)) (bI (ao bB bA (ao bg bU (aa (xv 1)) (ai)) (ai))) (bL))) ⟨fun _ _ _ _ _ _=>⟨aH (i:=0) Fq rfl (Or.inl rfl),eU (bN (jw hr.units) aw (bz (aa (xv 0)) (bL) (bI (aa (xv 1)))) (aa (xv 2)) rfl),ao bd aw (bz (aa (xv 0)) (bL) (bI (aa (xv 1)))) (bE (ae (bE (aj)) (aj)))⟩⟩)) (aE (aJ (i:=7) Hh.nd rfl ‹1› (ax aV bi hr ‹0› (ae (aa (xv 4)) (ae (ao bd aw (bx nG rfl dY Qi (ae (aa (xv 7)) (aj))) (bz (aa (xv 10)) (bL) (bI (ai)))) (aj))))))))) (bn)) (ak (by first | exact oW (i:=11) Hh.nd rfl ‹1› (N:=["_law_row_here","_law_many"]) (ix:=[none,some 4]) rfl (.of rfl) (bP rfl) (bX (aa (xv 8))) ⟨fun _ _ _ _ _ _=>⟨aH (i:=0) Fk rfl (Or.inl rfl),dL,bz (aa (xv 0)) (bL) (bI (aa (xv 1)))⟩⟩ | exact aJ (i:=11) Hh.nd rfl ‹1› (fw (N:=["_law_row_here","_law_many"]) (ix:=[none,some 4]) rfl (.of rfl) (bP rfl) (bX (aa (xv 8))) ⟨fun _ _ _ _ _ _=>⟨aH (i:=0) Fk rfl (Or.inl rfl),dL,bz (aa (xv 0)) (bL) (bI (aa (xv 1)))⟩⟩)) (ak (by first | exact oW (i:=12) Hh.nd rfl ‹1› (N:=["_law_row_here","_law_many","_law_brought"]) (ix:=[none,some 4,some 11]) rfl (.of rfl) (bP rfl) (bX (aa (xv 7))) ⟨fun _ _ _ _ _ _=>⟨aH (i:=0) Fj rfl (Or.inl rfl),eU (Ht (zt (bN (dB hr.units) aw (bh (aa (xv 0)) (j7 (ai)) (fun _ _=>rfl)) (bE (aj)) (cz _)) (xn (bN (jw hr.units) aw (bz (aa (xv 0)) (bL) (bI (aa (xv 1)))) (aa (xv 2)) rfl)))),aa (xv 0)⟩⟩ | exact aJ (i:=12) Hh.nd rfl ‹1› (fw (N:=["_law_row_here","_law_many","_law_brought"]) (ix:=[none,some 4,some 11]) rfl (.of rfl) (bP rfl) (bX (aa (xv 7))) ⟨fun _ _ _ _ _ _=>⟨aH (i:=0) Fj rfl (Or.inl rfl),eU (Ht (zt (bN (dB hr.units) aw (bh (aa (xv 0)) (j7 (ai)) (fun _ _=>rfl)) (bE (aj)) (cz _)) (xn (bN (jw hr.units) aw (bz (aa (xv 0)) (bL) (bI (aa (xv 1)))) (aa (xv 2)) rfl)))),aa (xv 0)⟩⟩)) (ak (aJ (i:=13) Hh.nd rfl ‹1› (ax aV bi hr ‹0› (ae (aa (xv 4)) (ae (ao bd aw (bx nG rfl dY Qi (ae (aa (xv 8)) (aj))) (aa (xv 12))) (aj))))) (ak (aJ (i:=14) Hh.nd rfl ‹1› (D6 qY hr ‹0› rfl (ae (bh (bh (bh (aa (xv 3)) (ai) (fun _ _=>rfl)) (ai) (fun _ _=>rfl)) (ai) (fun _ _=>rfl)) (aj)))) (ak (aJ (i:=15) Hh.nd rfl ‹1› (jl dX hr ‹0› (aa (xv 14)) (ae (aa (xv 3)) (ae (aa (xv 7)) (ae (aa (xv 6)) (aj)))))) (ak (dD (Ht (vL (mU (eD (ax cN (cY 12) hr ‹0› (ae (aa (xv 15)) (ae (aa (xv 13)) (aj)))))) (qq (mU (eD (ax cN (cY 12) hr ‹0› (ae (jl iO hr ‹0› (aa (xv 14)) (ae (aa (xv 3)) (ae (aa (xv 15)) (aj)))) (ae (aa (xv 6)) (aj))))))))) (aE (bb (kW))) (bn)) (ak (dD (mU (eD (ax cN (cY 12) hr ‹0› (ae (jl dX hr ‹0› (aa (xv 14)) (ae (aa (xv 3)) (ae (aa (xv 7)) (ae (jl iO hr ‹0› (aa (xv 14)) (ae (aa (xv 3)) (ae (aa (xv 7)) (aj)))) (aj))))) (ae (aa (xv 7)) (aj)))))) (aE (bb (kW))) (bn)) (ak (by first | exact oW (i:=16) Hh.nd rfl ‹1› (N:=["_law_row_here"]) (ix:=[none]) rfl (.of rfl) (bP rfl) (bX (aa (xv 7))) ⟨fun _ _ _ _ _ _=>⟨aH (i:=0) EY rfl (Or.inl rfl),eU (bN (dB hr.units) aw (bh (aa (xv 0)) (j7 (ai)) (fun _ _=>rfl)) (bE (aj)) (cz _)),aa (xv 0)⟩⟩ | exact aJ (i:=16) Hh.nd rfl ‹1› (fw (N:=["_law_row_here"]) (ix:=[none]) rfl (.of rfl) (bP rfl) (bX (aa (xv 7))) ⟨fun _ _ _ _ _ _=>⟨aH (i:=0) EY rfl (Or.inl rfl),eU (bN (dB hr.units) aw (bh (aa (xv 0)) (j7 (ai)) (fun _ _=>rfl)) (bE (aj)) (cz _)),aa (xv 0)⟩⟩)) (aE (bb (ow (ax cN (cY 12) hr ‹0› (ae (jl dX hr ‹0› (aa (xv 14)) (ae (aa (xv 3)) (ae (aa (xv 7)) (ae (bE (aj)) (aj))))) (ae (bx cu rfl aQ Qg (ae (aa (xv 16)) (aj))) (aj)))) (qD (ax cN (cY 12) hr ‹0› (ae (jl dX hr ‹0› (aa (xv 14)) (ae (aa (xv 3)) (ae (bE (aj)) (ae (aa (xv 6)) (aj))))) (ae (aa (xv 8)) (aj)))))))))))))))))))))))))⟩)
theorem xk {C f:Qs} {fd:Q0} (h1:clsAt K "Unnest" C) (hM:Mk K C f) (cl:Bn K C) (na:∀ g∈(["name"]:List Str),oR K C g) (F:vv K "__init__" "Unnest.__init__" eJ f fd) (b:Binds K fd ["self","name"] []) (hmg:mg "Unnest"=some (.ref C)):rZ P w K mg base 1 "Unnest" ["self","name"] ["name"] :=
 AY (k:=0) h1 hM cl na F b hmg nS rfl (by decide +kernel) (by decide) fun cdv A outer s H E=>(Bg rfl (pv 0) (pv 1) rfl)
end
theorem FJ {us:List Qp} (h:us.length=1):∃ u0,us=[u0]:=match us,h with | [u0],_=>⟨u0,rfl⟩
theorem pR {us:List Qp} (h:us.length=2):∃ u0 u1,us=[u0,u1]:=match us,h with | [u0,u1],_=>⟨u0,u1,rfl⟩
theorem AA {us:List Qp} (h:us.length=3):∃ u0 u1 u2,us=[u0,u1,u2]:=match us,h with | [u0,u1,u2],_=>⟨u0,u1,u2,rfl⟩
theorem GX {us:List Qp} (h:us.length=4):∃ u0 u1 u2 u3,us=[u0,u1,u2,u3]:=match us,h with | [u0,u1,u2,u3],_=>⟨u0,u1,u2,u3,rfl⟩
theorem Ka {us:List Qp} (h:us.length=5):∃ u0 u1 u2 u3 u4,us=[u0,u1,u2,u3,u4]:=match us,h with | [u0,u1,u2,u3,u4],_=>⟨u0,u1,u2,u3,u4,rfl⟩
theorem KC {us:List Qp} (h:us.length=6):∃ u0 u1 u2 u3 u4 u5,us=[u0,u1,u2,u3,u4,u5]:=match us,h with | [u0,u1,u2,u3,u4,u5],_=>⟨u0,u1,u2,u3,u4,u5,rfl⟩
theorem all_mk {l:PJ} {w:Qq} {K:Pa} {h:Qu} {mg:Str->Option Qp} {fa:Qs} (X:K.In h) (G:h.Ns Qx mg) (hfa:mg "law"=some (.ref fa)) {f0 f1 f2 f3 f4 f5 f6 f7 f8 f9 f10 f11 f12 f13 f14 f15 f16 f17 f18 f19 f20 f21 f22 f23 f24 f25 f26 f27 Cl0 Cl1:Qs} {od0 an0 od1 an1 od2 an2 od3 an3 od4 an4 od5 an5 od6 an6 od7 an7 od8 an8 od9 an9 od10 an10 od11 an11 od12 an12 od13 an13 od14 an14 od15 an15 od16 an16 od17 an17 od18 an18 od19 an19 od20 an20 od21 an21 od22 an22 od23 an23 od24 an24 od25 an25 od26 an26 od27 an27:Option Qs} {sl0 sl1 sl2 sl3 sl4 sl5 sl6 sl7 sl8 sl9 sl10 sl11 sl12 sl13 sl14 sl15 sl16 sl17 sl18 sl19 sl20 sl21 sl22 sl23 sl24 sl25 sl26 sl27:Array (Option Qp)} {oc0 kV0 dc0 pm0 cd0 ct0 oc1 kV1 dc1 pm1 cd1 ct1 oc2 kV2 dc2 pm2 cd2 ct2 oc3 kV3 dc3 pm3 cd3 ct3 oc4 kV4 dc4 pm4 cd4 ct4 oc5 kV5 dc5 pm5 cd5 ct5 oc6 kV6 dc6 pm6 cd6 ct6 oc7 kV7 dc7 pm7 cd7 ct7 oc8 kV8 dc8 pm8 cd8 ct8 oc9 kV9 dc9 pm9 cd9 ct9 oc10 kV10 dc10 pm10 cd10 ct10 oc11 kV11 dc11 pm11 cd11 ct11 oc12 kV12 dc12 pm12 cd12 ct12 oc13 kV13 dc13 pm13 cd13 ct13 oc14 kV14 dc14 pm14 cd14 ct14 oc15 kV15 dc15 pm15 cd15 ct15 oc16 kV16 dc16 pm16 cd16 ct16 oc17 kV17 dc17 pm17 cd17 ct17 oc18 kV18 dc18 pm18 cd18 ct18 oc19 kV19 dc19 pm19 cd19 ct19 oc20 kV20 dc20 pm20 cd20 ct20 oc21 kV21 dc21 pm21 cd21 ct21 oc22 kV22 dc22 pm22 cd22 ct22 oc23 kV23 dc23 pm23 cd23 ct23 oc24 kV24 dc24 pm24 cd24 ct24 oc25 kV25 dc25 pm25 cd25 ct25 oc26 kV26 dc26 pm26 cd26 ct26 oc27 kV27 dc27 pm27 cd27 ct27:Qp} {cL T:Qs}
  (ac0:Pz K Qx "Step"=some (some (.ref Cl0)))
  (ac1:Pz K Qx "Unnest"=some (some (.ref Cl1)))
  (a0:Pz K Qx "_law_alike"=some (some (.ref f0)))
  (l0:Lk K f0 "_law_alike" "_law_alike" fP oc0 od0 kV0 dc0 pm0 an0 cd0 ct0 sl0)
  (c0:Py K cd0 "_law_alike"=true)
  (k0:Pt K (.ref f0)=true)
  (a1:Pj K (.ref Cl0) "put"=some (some (.ref f1)))
  (i1:Pk K (.ref f1)=true)
  (l1:Lk K f1 "put" "Step.put" kG oc1 od1 kV1 dc1 pm1 an1 cd1 ct1 sl1)
  (c1:Py K cd1 "Step.put"=true)
  (k1:Pt K (.ref f1)=true)
  (a2:Pz K Qx "sorted_by"=some (some (.ref f2)))
  (l2:Lk K f2 "sorted_by" "sorted_by" i5 oc2 od2 kV2 dc2 pm2 an2 cd2 ct2 sl2)
  (c2:Py K cd2 "sorted_by"=true)
  (k2:Pt K (.ref f2)=true)
  (a3:Pz K Qx "by_key"=some (some (.ref f3)))
  (l3:Lk K f3 "by_key" "by_key" oh oc3 od3 kV3 dc3 pm3 an3 cd3 ct3 sl3)
  (c3:Py K cd3 "by_key"=true)
  (k3:Pt K (.ref f3)=true)
  (a4:Pz K Qx "standing"=some (some (.ref f4)))
  (l4:Lk K f4 "standing" "standing" j5 oc4 od4 kV4 dc4 pm4 an4 cd4 ct4 sl4)
  (c4:Py K cd4 "standing"=true)
  (k4:Pt K (.ref f4)=true)
  (a5:Pz K Qx "grouped"=some (some (.ref f5)))
  (l5:Lk K f5 "grouped" "grouped" mq oc5 od5 kV5 dc5 pm5 an5 cd5 ct5 sl5)
  (c5:Py K cd5 "grouped"=true)
  (k5:Pt K (.ref f5)=true)
  (a6:Pj K (.ref Cl1) "put"=some (some (.ref f6)))
  (i6:Pk K (.ref f6)=true)
  (l6:Lk K f6 "put" "Unnest.put" ip oc6 od6 kV6 dc6 pm6 an6 cd6 ct6 sl6)
  (c6:Py K cd6 "Unnest.put"=true)
  (k6:Pt K (.ref f6)=true)
  (a7:Pj K (.ref Cl0) "got"=some (some (.ref f7)))
  (i7:Pk K (.ref f7)=true)
  (l7:Lk K f7 "got" "Step.got" kH oc7 od7 kV7 dc7 pm7 an7 cd7 ct7 sl7)
  (c7:Py K cd7 "Step.got"=true)
  (k7:Pt K (.ref f7)=true)
  (a8:Pz K Qx "unnested"=some (some (.ref f8)))
  (l8:Lk K f8 "unnested" "unnested" kz oc8 od8 kV8 dc8 pm8 an8 cd8 ct8 sl8)
  (c8:Py K cd8 "unnested"=true)
  (k8:Pt K (.ref f8)=true)
  (a9:Pj K (.ref Cl1) "got"=some (some (.ref f9)))
  (i9:Pk K (.ref f9)=true)
  (l9:Lk K f9 "got" "Unnest.got" ir oc9 od9 kV9 dc9 pm9 an9 cd9 ct9 sl9)
  (c9:Py K cd9 "Unnest.got"=true)
  (k9:Pt K (.ref f9)=true)
  (a10:Pz K Qx "_law_sorted"=some (some (.ref f10)))
  (l10:Lk K f10 "_law_sorted" "_law_sorted" gH oc10 od10 kV10 dc10 pm10 an10 cd10 ct10 sl10)
  (c10:Py K cd10 "_law_sorted"=true)
  (k10:Pt K (.ref f10)=true)
  (a11:Pz K Qx "_law_next"=some (some (.ref f11)))
  (l11:Lk K f11 "_law_next" "_law_next" iW oc11 od11 kV11 dc11 pm11 an11 cd11 ct11 sl11)
  (c11:Py K cd11 "_law_next"=true)
  (k11:Pt K (.ref f11)=true)
  (a12:Pz K Qx "_law_value"=some (some (.ref f12)))
  (l12:Lk K f12 "_law_value" "_law_value" fW oc12 od12 kV12 dc12 pm12 an12 cd12 ct12 sl12)
  (c12:Py K cd12 "_law_value"=true)
  (k12:Pt K (.ref f12)=true)
  (a13:Pz K Qx "_law_row"=some (some (.ref f13)))
  (l13:Lk K f13 "_law_row" "_law_row" iL oc13 od13 kV13 dc13 pm13 an13 cd13 ct13 sl13)
  (c13:Py K cd13 "_law_row"=true)
  (k13:Pt K (.ref f13)=true)
  (a14:Pz K Qx "_law_rows"=some (some (.ref f14)))
  (l14:Lk K f14 "_law_rows" "_law_rows" gQ oc14 od14 kV14 dc14 pm14 an14 cd14 ct14 sl14)
  (c14:Py K cd14 "_law_rows"=true)
  (k14:Pt K (.ref f14)=true)
  (a15:Pz K Qx "_law_with_empty"=some (some (.ref f15)))
  (l15:Lk K f15 "_law_with_empty" "_law_with_empty" eG oc15 od15 kV15 dc15 pm15 an15 cd15 ct15 sl15)
  (c15:Py K cd15 "_law_with_empty"=true)
  (k15:Pt K (.ref f15)=true)
  (a16:Pz K Qx "_law_nested"=some (some (.ref f16)))
  (l16:Lk K f16 "_law_nested" "_law_nested" gG oc16 od16 kV16 dc16 pm16 an16 cd16 ct16 sl16)
  (c16:Py K cd16 "_law_nested"=true)
  (k16:Pt K (.ref f16)=true)
  (a17:Pz K Qx "_law_cell_at"=some (some (.ref f17)))
  (l17:Lk K f17 "_law_cell_at" "_law_cell_at" fU oc17 od17 kV17 dc17 pm17 an17 cd17 ct17 sl17)
  (c17:Py K cd17 "_law_cell_at"=true)
  (k17:Pt K (.ref f17)=true)
  (a18:Pz K Qx "_law_seed"=some (some (.ref f18)))
  (l18:Lk K f18 "_law_seed" "_law_seed" jd oc18 od18 kV18 dc18 pm18 an18 cd18 ct18 sl18)
  (c18:Py K cd18 "_law_seed"=true)
  (k18:Pt K (.ref f18)=true)
  (a19:Pz K Qx "_law_table"=some (some (.ref f19)))
  (l19:Lk K f19 "_law_table" "_law_table" iq oc19 od19 kV19 dc19 pm19 an19 cd19 ct19 sl19)
  (c19:Py K cd19 "_law_table"=true)
  (k19:Pt K (.ref f19)=true)
  (a20:Pz K Qx "_law_flat_form"=some (some (.ref f20)))
  (l20:Lk K f20 "_law_flat_form" "_law_flat_form" eV oc20 od20 kV20 dc20 pm20 an20 cd20 ct20 sl20)
  (c20:Py K cd20 "_law_flat_form"=true)
  (k20:Pt K (.ref f20)=true)
  (a21:Pz K Qx "_law_name"=some (some (.ref f21)))
  (l21:Lk K f21 "_law_name" "_law_name" jg oc21 od21 kV21 dc21 pm21 an21 cd21 ct21 sl21)
  (c21:Py K cd21 "_law_name"=true)
  (k21:Pt K (.ref f21)=true)
  (a22:Pz K Qx "_law_plain"=some (some (.ref f22)))
  (l22:Lk K f22 "_law_plain" "_law_plain" il oc22 od22 kV22 dc22 pm22 an22 cd22 ct22 sl22)
  (c22:Py K cd22 "_law_plain"=true)
  (k22:Pt K (.ref f22)=true)
  (a23:Pz K Qx "_law_kind"=some (some (.ref f23)))
  (l23:Lk K f23 "_law_kind" "_law_kind" gO oc23 od23 kV23 dc23 pm23 an23 cd23 ct23 sl23)
  (c23:Py K cd23 "_law_kind"=true)
  (k23:Pt K (.ref f23)=true)
  (a24:Pz K Qx "_law_form"=some (some (.ref f24)))
  (l24:Lk K f24 "_law_form" "_law_form" gK oc24 od24 kV24 dc24 pm24 an24 cd24 ct24 sl24)
  (c24:Py K cd24 "_law_form"=true)
  (k24:Pt K (.ref f24)=true)
  (a25:Pz K Qx "_law_parted_form"=some (some (.ref f25)))
  (l25:Lk K f25 "_law_parted_form" "_law_parted_form" dS oc25 od25 kV25 dc25 pm25 an25 cd25 ct25 sl25)
  (c25:Py K cd25 "_law_parted_form"=true)
  (k25:Pt K (.ref f25)=true)
  (a26:Pz K Qx "law"=some (some (.ref f26)))
  (l26:Lk K f26 "law" "law" si oc26 od26 kV26 dc26 pm26 an26 cd26 ct26 sl26)
  (c26:Py K cd26 "law"=true)
  (k26:Pt K (.ref f26)=true)
  (a27:Pj K (.ref Cl1) "__init__"=some (some (.ref f27)))
  (i27:Pk K (.ref f27)=true)
  (l27:Lk K f27 "__init__" "Unnest.__init__" eJ oc27 od27 kV27 dc27 pm27 an27 cd27 ct27 sl27)
  (c27:Py K cd27 "Unnest.__init__"=true)
  (k27:Pt K (.ref f27)=true)
  (p0:Ph K Cl0 Str.empty=true)
  (q0:Pp K Cl0=true)
  (r0:Pm K Cl0=true)
  (s0:Pj K (.ref Cl0) "__setattr__"=some (some (.builtin "object.__setattr__")))
  (p1:Ph K Cl1 Str.empty=true)
  (q1:Pp K Cl1=true)
  (r1:Pm K Cl1=true)
  (s1:Pj K (.ref Cl1) "__setattr__"=some (some (.builtin "object.__setattr__")))
  (n1_0:Pj K (.ref Cl1) "name"=some none)
  (m1:Pq K Cl1=true)
  (kp1:Pt K (.ref Cl1)=true)
  (z0:Pz K Qx "isinstance"=some none)
  (z1:Pz K Qx "str"=some none)
  (z2:Pz K Qx "bool"=some none)
  (z3:Pz K Qx "int"=some none)
  (z4:Pz K Qx "tuple"=some none)
  (z5:Pz K Qx "len"=some none)
  (z6:Pz K Qx "zip"=some none)
  (z7:Pz K Qx "sorted"=some none)
  (z8:Pz K Qx "dict"=some none)
  (z9:Pz K Qx "list"=some none)
  (z10:Pz K Qx "max"=some none)
  (z11:Pz K Qx "range"=some none)
  (z12:Pz K Qx "min"=some none)
  (z13:Pz K Qx "enumerate"=some none)
  (lc:cd2=.ref cL)
  (lh:PL K cL T=true)
  (lt:K.lookup T=none) :
  (∃ c,PL K c T=true)/\K.lookup T=none/\∃ fd:Q0,(∀ (s:QB) (v:Qp),Q1 s fd ⟨[v],[]⟩ [("_law_script",v)])/\∀ base:Qu,K.In base->base.Ns Qx mg->yJ mg base->iV l.prog w K mg base (nA l.prog w) 15 fa fd ["_law_script"] (@Bk (vo T ⟨6,34,6,56⟩ ((("sorted_by":Str) ++ ".<locals>.") ++ "<lambda>")) K 1 (bc qT 1 17)):=by
 letI:aR:=vo T ⟨6,34,6,56⟩ ((("sorted_by":Str) ++ ".<locals>.") ++ "<lambda>")
 have e:=hfa.symm.trans (PN X G a26)
 cases e
 have bJ:=PP X G z0
 have rV:=PP X G z1
 have jZ:=PP X G z2
 have gP:=PP X G z3
 have aQ:=PP X G z4
 have bZ:=PP X G z5
 have ud:=PP X G z6
 have eB:=PP X G z7
 have pj:=PP X G z8
 have dY:=PP X G z9
 have jN:=PP X G z10
 have bF:=PP X G z11
 have Cp:=PP X G z12
 have i3:=PP X G z13
 have F0:=cw (st:=fP) l0 c0 k0
 have b0:=F0.binds (ps:=["_law_found","_law_due"]) fun _ _ _ _ _ _ us hl=>by obtain⟨u0,u1,rfl⟩:=pR hl; rfl
 have F1:=cw (st:=kG) l1 c1 k1
 have b1:=F1.binds (ps:=["self","form","table","view"]) fun _ _ _ _ _ _ us hl=>by obtain⟨u0,u1,u2,u3,rfl⟩:=GX hl; rfl
 have F2:=cw (st:=i5) l2 c2 k2
 have b2:=F2.binds (ps:=["many","rows"]) fun _ _ _ _ _ _ us hl=>by obtain⟨u0,u1,rfl⟩:=pR hl; rfl
 have F3:=cw (st:=oh) l3 c3 k3
 have b3:=F3.binds (ps:=["many","rows"]) fun _ _ _ _ _ _ us hl=>by obtain⟨u0,u1,rfl⟩:=pR hl; rfl
 have F4:=cw (st:=j5) l4 c4 k4
 have b4:=F4.binds (ps:=["many","rows","others"]) fun _ _ _ _ _ _ us hl=>by obtain⟨u0,u1,u2,rfl⟩:=AA hl; rfl
 have F5:=cw (st:=mq) l5 c5 k5
 have b5:=F5.binds (ps:=["many","rows"]) fun _ _ _ _ _ _ us hl=>by obtain⟨u0,u1,rfl⟩:=pR hl; rfl
 have F6:=cw (st:=ip) l6 c6 k6
 have b6:=F6.binds (ps:=["self","form","table","view"]) fun _ _ _ _ _ _ us hl=>by obtain⟨u0,u1,u2,u3,rfl⟩:=GX hl; rfl
 have F7:=cw (st:=kH) l7 c7 k7
 have b7:=F7.binds (ps:=["self","form","table"]) fun _ _ _ _ _ _ us hl=>by obtain⟨u0,u1,u2,rfl⟩:=AA hl; rfl
 have F8:=cw (st:=kz) l8 c8 k8
 have b8:=F8.binds (ps:=["many","table"]) fun _ _ _ _ _ _ us hl=>by obtain⟨u0,u1,rfl⟩:=pR hl; rfl
 have F9:=cw (st:=ir) l9 c9 k9
 have b9:=F9.binds (ps:=["self","form","table"]) fun _ _ _ _ _ _ us hl=>by obtain⟨u0,u1,u2,rfl⟩:=AA hl; rfl
 have F10:=cw (st:=gH) l10 c10 k10
 have b10:=F10.binds (ps:=["_law_many","_law_rows_here"]) fun _ _ _ _ _ _ us hl=>by obtain⟨u0,u1,rfl⟩:=pR hl; rfl
 have F11:=cw (st:=iW) l11 c11 k11
 have b11:=F11.binds (ps:=["_law_x"]) fun _ _ _ _ _ _ us hl=>by obtain⟨u0,rfl⟩:=FJ hl; rfl
 have F12:=cw (st:=fW) l12 c12 k12
 have b12:=F12.binds (ps:=["_law_kind_here","_law_x"]) fun _ _ _ _ _ _ us hl=>by obtain⟨u0,u1,rfl⟩:=pR hl; rfl
 have F13:=cw (st:=iL) l13 c13 k13
 have b13:=F13.binds (ps:=["_law_form_here","_law_many","_law_head","_law_tail"]) fun _ _ _ _ _ _ us hl=>by obtain⟨u0,u1,u2,u3,rfl⟩:=GX hl; rfl
 have F14:=cw (st:=gQ) l14 c14 k14
 have b14:=F14.binds (ps:=["_law_form_here","_law_x","_law_many"]) fun _ _ _ _ _ _ us hl=>by obtain⟨u0,u1,u2,rfl⟩:=AA hl; rfl
 have F15:=cw (st:=eG) l15 c15 k15
 have b15:=F15.binds (ps:=["_law_form_here","_law_nested_here","_law_xs"]) fun _ _ _ _ _ _ us hl=>by obtain⟨u0,u1,u2,rfl⟩:=AA hl; rfl
 have F16:=cw (st:=gG) l16 c16 k16
 have b16:=F16.binds (ps:=["_law_table_here","_law_many"]) fun _ _ _ _ _ _ us hl=>by obtain⟨u0,u1,rfl⟩:=pR hl; rfl
 have F17:=cw (st:=fU) l17 c17 k17
 have b17:=F17.binds (ps:=["_law_script","_law_k"]) fun _ _ _ _ _ _ us hl=>by obtain⟨u0,u1,rfl⟩:=pR hl; rfl
 have F18:=cw (st:=jd) l18 c18 k18
 have b18:=F18.binds (ps:=["_law_script","_law_k"]) fun _ _ _ _ _ _ us hl=>by obtain⟨u0,u1,rfl⟩:=pR hl; rfl
 have F19:=cw (st:=iq) l19 c19 k19
 have b19:=F19.binds (ps:=["_law_form_here","_law_many","_law_script","_law_start","_law_most"]) fun _ _ _ _ _ _ us hl=>by obtain⟨u0,u1,u2,u3,u4,rfl⟩:=Ka hl; rfl
 have F20:=cw (st:=eV) l20 c20 k20
 have b20:=F20.binds (ps:=["_law_form_here"]) fun _ _ _ _ _ _ us hl=>by obtain⟨u0,rfl⟩:=FJ hl; rfl
 have F21:=cw (st:=jg) l21 c21 k21
 have b21:=F21.binds (ps:=["_law_base","_law_k"]) fun _ _ _ _ _ _ us hl=>by obtain⟨u0,u1,rfl⟩:=pR hl; rfl
 have F22:=cw (st:=il) l22 c22 k22
 have b22:=F22.binds (ps:=["_law_x"]) fun _ _ _ _ _ _ us hl=>by obtain⟨u0,rfl⟩:=FJ hl; rfl
 have F23:=cw (st:=gO) l23 c23 k23
 have b23:=F23.binds (ps:=["_law_x","_law_base","_law_deep"]) fun _ _ _ _ _ _ us hl=>by obtain⟨u0,u1,u2,rfl⟩:=AA hl; rfl
 have F24:=cw (st:=gK) l24 c24 k24
 have b24:=F24.binds (ps:=["_law_x","_law_base","_law_start","_law_many","_law_more","_law_deep"]) fun _ _ _ _ _ _ us hl=>by obtain⟨u0,u1,u2,u3,u4,u5,rfl⟩:=KC hl; rfl
 have F25:=cw (st:=dS) l25 c25 k25
 have b25:=F25.binds (ps:=["_law_script","_law_some"]) fun _ _ _ _ _ _ us hl=>by obtain⟨u0,u1,rfl⟩:=pR hl; rfl
 have F26:=cw (st:=si) l26 c26 k26
 have F27:=cw (st:=eJ) l27 c27 k27
 have b27:=F27.binds (ps:=["self","name"]) fun _ _ _ _ _ _ us hl=>by obtain⟨u0,u1,rfl⟩:=pR hl; rfl
 have cl0:Bn K Cl0:=⟨p0,q0,r0,s0⟩
 have cl1:Bn K Cl1:=⟨p1,q1,r1,s1⟩
 have lC:uH K f2 (.ref cL):=⟨_,_,_,_,l2,lc⟩
 refine⟨⟨cL,lh⟩,lt,Px "law" "law" (mh si) (e7 si) (ay si) .none kV26 dc26 pm26 an26 cd26 ct26,fun s v=>.of_eq rfl,fun base kb _ bm=>?_⟩
 have qY:=xk (P:=l.prog) (w:=w) (base:=base) ac1 ⟨m1,a27,i27,kp1⟩ cl1 (by intro g hg; simp only [NM,OY,or_false] at hg; rcases hg with rfl; exact n1_0) F27 b27 (PN X G ac1)
 have fam:=lr (P:=l.prog) (w:=w) (base:=base) F0 b0 (PN X G a0) bJ rV jZ gP aQ bZ ud 12
 have cN:=fam
 have okb_Step_put:=vX (P:=l.prog) (w:=w) (base:=base) (K:=K) (mg:=mg) (f:=f1)
 have lA:=xU F2 b2 (PN X G a2) vg (CG.ok (vH (P:=l.prog) (w:=w) (base:=base) (f:=f2) aQ eB (Ei kb lh bm) lC fun _ z=>z))
 have rW:=bG F3 b3 (PN X G a3) Af (dP.ok (zU (P:=l.prog) (w:=w) (base:=base) (f:=f3) pj))
 have nB:=bG F4 b4 (PN X G a4) vZ (dP.ok (wa (P:=l.prog) (w:=w) (base:=base) (f:=f4) rW lA dY))
 have lP:=bG F5 b5 (PN X G a5) yE (dP.ok (yT (P:=l.prog) (w:=w) (base:=base) (f:=f5) pj aQ))
 have okb_Unnest_put:=sN (P:=l.prog) (w:=w) (base:=base) (K:=K) (mg:=mg) (f:=f6) lP nB bZ
 have okb_Step_got:=wo (P:=l.prog) (w:=w) (base:=base) (K:=K) (mg:=mg) (f:=f7)
 have nR:=bG F8 b8 (PN X G a8) vY (dP.ok (wv (P:=l.prog) (w:=w) (base:=base) (f:=f8) aQ))
 have okb_Unnest_got:=tD (P:=l.prog) (w:=w) (base:=base) (K:=K) (mg:=mg) (f:=f9) nR bZ
 have aV:=bG F10 b10 (PN X G a10) sr (dP.ok (sg (P:=l.prog) (w:=w) (base:=base) (f:=f10) aQ eB dY))
 have aB:=bG F11 b11 (PN X G a11) uW (dP.ok (vc (P:=l.prog) (w:=w) (base:=base) (f:=f11) ))
 have fam:=lj (P:=l.prog) (w:=w) (base:=base) F12 b12 (PN X G a12) F13 b13 (PN X G a13) F14 b14 (PN X G a14) aB aV bZ jN gP aQ bF 12
 have fT:=fam.1
 have dC:=fam.2.1
 have jf:=fam.2.2
 have fQ:=bG F15 b15 (PN X G a15) nJ (dP.ok (nM (P:=l.prog) (w:=w) (base:=base) (f:=f15) dC aV dY bZ))
 have gF:=bG F16 b16 (PN X G a16) rQ (dP.ok (sI (P:=l.prog) (w:=w) (base:=base) (f:=f16) eB dY aQ))
 have dN:=bG F17 b17 (PN X G a17) qo (dP.ok (qm (P:=l.prog) (w:=w) (base:=base) (f:=f17) bZ))
 have dh:=bG F18 b18 (PN X G a18) vk (dP.ok (vJ (P:=l.prog) (w:=w) (base:=base) (f:=f18) dN aB))
 have jW:=bG F19 b19 (PN X G a19) sP (dP.ok (tH (P:=l.prog) (w:=w) (base:=base) (f:=f19) dh dC aB aV bF Cp jN bZ))
 have gq:=bG F20 b20 (PN X G a20) oF (dP.ok (ou (P:=l.prog) (w:=w) (base:=base) (f:=f20) ))
 have cn:=bG F21 b21 (PN X G a21) vt (dP.ok (vC (P:=l.prog) (w:=w) (base:=base) (f:=f21) bF))
 have cO:=bG F22 b22 (PN X G a22) tu (dP.ok (tJ (P:=l.prog) (w:=w) (base:=base) (f:=f22) bF bZ aQ eB dY))
 have fam:=nz (P:=l.prog) (w:=w) (base:=base) F23 b23 (PN X G a23) F24 b24 (PN X G a24) cO aB cn bF aQ 12
 have lx:=fam.1
 have eQ:=fam.2
 have fF:=bG F25 b25 (PN X G a25) mZ (dP.ok (m9 (P:=l.prog) (w:=w) (base:=base) (f:=f25) dh dN eQ aB cn))
 have kn:nq l.prog w K mg base 14 "put" ["self","form","table","view"] [("Step",(bc bS 4 4)),("Unnest",(bc aZ 4 6))]:=oj (MethAt.mono (mC (c := "Step") (m := "put") ac0 cl0 ⟨a1,i1,k1⟩ F1 b1 wN (dP.ok okb_Step_put)) (by decide)) bi (oj (MethAt.mono (mC (c := "Unnest") (m := "put") ac1 cl1 ⟨a6,i6,k6⟩ F6 b6 sS (dP.ok okb_Unnest_put)) (by decide)) bi (yY))
 have jX:nq l.prog w K mg base 14 "got" ["self","form","table"] [("Step",(bc dA 3 3)),("Unnest",(bc bW 3 3))]:=oj (MethAt.mono (mC (c := "Step") (m := "got") ac0 cl0 ⟨a7,i7,k7⟩ F7 b7 v8 (dP.ok okb_Step_got)) (by decide)) bi (oj (MethAt.mono (mC (c := "Unnest") (m := "got") ac1 cl1 ⟨a9,i9,k9⟩ F9 b9 tG (dP.ok okb_Unnest_got)) (by decide)) bi (yY))
 exact G8 (P:=l.prog) (w:=w) (base:=base) F26 aB dh fF jW gq gF fQ aV cN kn jX qY bZ aQ i3 bF dY
theorem walk {l:PJ} {q:Qr} {loose:List Str} {XP:(Str->Option Qp)->Qu->Prop} {YP:Qq->Qu->Prop} {d:DefRec} {K:Params->Pa} {T:Qs} (hn:l.most=some 63) (hdf:d.params.defaults=[])
  (hY:∀ (w:Qq) (h:Qu),YP w h->(K w.params).In h/\h.get? T=some (PF #[]))
  (F:∀ (w:Qq) (mg:Str->Option Qp) (fa:Qs) (h:Qu),(K w.params).In h->h.Ns Qx mg->mg d.name=some (.ref fa) ->
   (∃ c,PL (K w.params) c T=true)/\(K w.params).lookup T=none/\∃ fd:Q0,(∀ (s:QB) (u:Qp),Q1 s fd ⟨[u],[]⟩ [("_law_script",u)])/\∀ base:Qu,(K w.params).In base->base.Ns Qx mg->yJ mg base->iV l.prog w (K w.params) mg base (nA l.prog w) 15 fa fd ["_law_script"] (@Bk (vo T ⟨6,34,6,56⟩ ((("sorted_by":Str) ++ ".<locals>.") ++ "<lambda>")) (K w.params) 1 (bc qT 1 17)))
  (math:∀ ns:List Int,ns.length<=63->bc qT 1 17 [.lst (ns.map .int)]=.ok (.bl true)):PySem.W.WalkO q loose XP YP l.row.toRowW d [] (fun f vs=>PySem.call f vs) :=
 BK (n:=63) (k:=15) (x := "_law_script") (T:=T) (CX:=fun w=>nA l.prog w) (sp:=fun w=>@Bk (vo T ⟨6,34,6,56⟩ ((("sorted_by":Str) ++ ".<locals>.") ++ "<lambda>")) (K w.params) 1 (bc qT 1 17)) hn (by decide) hdf ⟨rfl,by decide,by decide⟩ hY F
  (fun w H a ns hl hT hS=>⟨[],[.lst (ns.map .int)],rfl,⟨hT,fun a h=>nomatch h⟩,by rw [D8]; exact bC.mpr ⟨.ref a,[],rfl,cD.mpr ⟨a,_,rfl,hS,tL ns⟩,cT.mpr rfl⟩,by rw [math ns hl]; exact fun v H' sm d=>⟨lF.mp d,sm⟩⟩) fun _ _ _ _ _ z=>by obtain⟨_,_,_,_,_,_,_,_,_,_,_,_,_,z⟩:=z; exact z
end Tk43
namespace Tk43
open PySem PySem.Spec L2 TG TD T4
local macro_rules
 | `(tactic| simp! only [$xs,*])=>`(tactic| simp only [cR,uP,p6,uB,fZ,eX,ge_0,zT,o9,Ac,oT,me,ph,pB,AD,AH,Ax,Ah,Ag,pF,o7,tX,jA,mw,pA,mz,tN,oU,oX,lZ,pW,jz,pL,jI,jD,iD,iA,pp,mX,iC,mK,jP,my,lV,ia,mQ,js,nQ,mS,jE,je,mB,lT,Bf,ut,Ao,A7,Am,pN,md,pU,mF,mL,AO,As,OA,OB,MH,M3,Nh,Nx,K0,env0,List.replicate,N3,ML,NV,Nat.reduceAdd,Nat.reduceSub,MG,M6,o6,pP,uy,oJ,o3,oI,iw,oV,uI,uV,tT,oP,jK,jF,jM,jm,jn,jt,t7,ux,uM,uK,uG,uw,ju,jr,gh,gf,pI,iz,gw,gD,gA,kL,lG,gb,gg,jC,jQ,lR,mi,jk,lU,pV,pK,lQ,mM,gN,if_true,if_false,OC,OD,Nf,$xs,*])
inductive Kd where
 | num (lo hi:Int) | wrd (ws:List Str)
def Kd.d:Kd->D
 | .num lo hi=>.tup [.str "number",.int lo,.int hi]
 | .wrd ws=>.tup [.str "word",.tup (ws.map .str)]
def Kd.gd:Kd->Prop
 | .num lo hi=>lo<=hi
 | .wrd ws=>ws≠[]/\ws.length<=100
def Kd.b:Kd->Bool
 | .num _ _=>true
 | .wrd _=>false
abbrev KL:=List (Str×Kd)
def kf (p:Str×Kd):D:=.tup [.str p.1,p.2.d]
abbrev fr (k:KL) (r:List (Str×D)):D:=.tup [.tup (k.map kf),.tup (r.map fld)]
def toD (p:Str×Kd):Str×D:=(p.1,p.2.d)
theorem Hj (k:KL):k.map kf=(k.map toD).map fld:=by rw [Oh]; rfl
theorem FQ:(("number":Str)==("number":Str))=true:=by decide +kernel
theorem DS:(("word":Str)==("word":Str))=true:=by decide +kernel
theorem GO:(("word":Str)==("number":Str))=false:=by decide +kernel
theorem G9:(("rows":Str)==("number":Str))=false:=by decide +kernel
theorem ED:(("rows":Str)==("word":Str))=false:=by decide +kernel
def KG:Nat->D->Prop
 | 0,d=>∃ c:Kd,c.gd/\d=c.d
 | n+1,d=>(∃ c:Kd,c.gd/\d=c.d)\/∃ (ks:KL) (qs:List (Str×D)) (b:Bool),d=.tup [.str "rows",fr ks qs,.bl b]/\1<=ks.length/\ks.length<=8/\(∀ p∈ks,p.2.gd)/\qs.length<=8/\∀ q∈qs,KG n q.2
theorem EK (ws:List Str) (w:Str):sV ws w≠[]:=by
 unfold sV
 split
 ·rename_i h
  intro z
  rw [z] at h
  simp at h
 ·simp
theorem HW (ws:List Str) (h:ws.Nodup) (hl:ws.length < 64):∃ us:List Str,fh [.lst (ws.map .str)]=some (.lst (us.map .str))/\us.Perm ws:=by
 have pz:∀ zs:List D,zs.Perm (ws.map D.str)->∃ us:List Str,zs=us.map .str/\us.Perm ws:=fun zs p=>by
  have e:zs=(zs.map fun z=>match z with | .str w=>w | _ => "").map .str:=by
   rw [Oh]
   conv=>lhs; rw [<- OZ zs]
   refine Ny fun z hz=>?_
   obtain⟨w,_,rfl⟩:=List.mem_map.mp (p.mem_iff.mp hz)
   rfl
  refine⟨_,e,?_⟩
  have q:=p.map fun z:D=>match z with | .str w=>w | _=>("":Str)
  rw [Oh] at q
  have e2:ws.map ((fun z:D=>match z with | .str w=>w | _=>("":Str)) ∘ D.str)=ws:=by
   conv=>rhs; rw [<- OZ ws]
   exact Ny fun _ _=>rfl
  rw [e2] at q
  exact q
 have fin:∀ key:D->List D,∃ us:List Str,some (D.lst (hV key (ws.map .str)))=some (.lst (us.map .str))/\us.Perm ws:=fun key=>by
  obtain⟨us,e,q⟩:=pz _ (fG key (ws.map .str))
  exact⟨us,by rw [e],q⟩
 show ∃ us,pZ (ws.map .str)=_/\_
 unfold pZ
 by_cases a:Gc (ws.map .str)
 ·rw [if_pos a]; exact fin _
 ·have b:Il (ws.map .str):=by
   refine⟨by rw [MI]; exact hl,false,fun x hx=>?_,?_⟩
   ·obtain⟨w,_,rfl⟩:=List.mem_map.mp hx
    exact .str w .nil
   ·rw [Of]
    refine h.imp fun hne e=>hne ?_
    have e:[D.str _]=[D.str _]:=e
    injection e with e _
    injection e
  rw [if_neg a,if_pos b]; exact fin _
theorem qN (x:Int) (h0:0<=x) (h1:x < 2147483700):∃ c:Kd,bc cP 1 8 [.int x]=.ok c.d/\c.gd:=by
 have g3:=fun i=>cj (i:=i) (show (0:Int) < 3 by decide)
 have g4:=fun i=>cj (i:=i) (show (0:Int) < 4 by decide)
 have g26:=fun i=>cj (i:=i) (show (0:Int) < 26 by decide)
 have d3:=fun i=>cy (i:=i) (show (0:Int) < 3 by decide) (show (3:Int) < 10 ^ 200 by decide)
 have d12:=fun i=>cy (i:=i) (show (0:Int) < 12 by decide) (show (12:Int) < 10 ^ 200 by decide)
 have d78:=fun i=>cy (i:=i) (show (0:Int) < 78 by decide) (show (78:Int) < 10 ^ 200 by decide)
 have d2028:=fun i=>cy (i:=i) (show (0:Int) < 2028 by decide) (show (2028:Int) < 10 ^ 200 by decide)
 have p7:ql (.int x) (.int 7)=some (.int (x ^ 7)):=yB x 7 (by decide) ‹0›
 have pb:=HU
 have gp:=fun i=>cj (i:=i) (show (0:Int) < Fa by omega)
 rw [rY]; unfold cP
 by_cases h:x%3 < 2
 ·have h':decide (x%3 < 2)=true:=decide_eq_true h
  obtain⟨v,hv,e1⟩:=L6 (.int 0) (.int (-3)) (.int (0 - x ^ 7%Fa)) (.int (x ^ 7%Fa)) (x / 3%4) ‹0› ‹0›
  obtain⟨lo,rfl⟩:∃ lo:Int,v=.int lo:=by
   simp only [NM,OY,or_false] at hv
   rcases hv with rfl | rfl | rfl | rfl <;> exact⟨_,rfl⟩
  obtain⟨w,w0,e2⟩:∃ w:Int,0<=w/\bq (.lst [.int 0,.int 1,.int 6,.int Fa]) (.int (x / 12%4))=some (.int w):=by
   rcases(show x / 12%4=0\/x / 12%4=1\/x / 12%4=2\/x / 12%4=3 by omega) with z | z | z | z <;> rw [z]
   ·exact⟨0,by decide,rfl⟩
   ·exact⟨1,by decide,rfl⟩
   ·exact⟨6,by decide,rfl⟩
   ·exact⟨Fa,by omega,rfl⟩
  refine⟨.num lo (lo+w),?_,by show lo<=lo+w; omega⟩
  unfold Kd.d
  simp! only [g3,h',p7,Gx,gp,K3,d3,g4,e1,d12,e2,Jv]
 ·have h':decide (x%3 < 2)=false:=decide_eq_false h
  have LL:(("abcdefghijklmnopqrstuvwxyz":Str)).length=26:=by decide +kernel
  have L0:(("":Str)).length<=1000:=by decide +kernel
  generalize hL:("abcdefghijklmnopqrstuvwxyz":Str)=L at LL
  obtain⟨one,ho,e1⟩:=nW L ‹0› (x / 3%26) ‹0› ‹0›
  obtain⟨oth,hq,e2⟩:=nW L ‹0› (x / 78%26) ‹0› ‹0›
  have a1:=lL one oth ‹0› ‹0›
  have a2:=lL oth one ‹0› ‹0›
  have a3:=lL one one ‹0› ‹0›
  have m1:=GP (x:=one) (n:=8) (by decide) (by decide) ‹0›
  have m2:=GP (x:=oth) (n:=3) (by decide) (by decide) ‹0›
  have r8:mH [.int 8]=some (eP 0 8):=jH 8 (by decide)
  generalize hW:[D.str "",.str one,.str oth,.str (one++oth),.str (oth++one),.str (mY one 8),.str (one++one),.str (mY oth 3)]=W
  have W8:W.length=8:=by rw [<- hW]; rfl
  have Ws:∀ d∈W,∃ w:Str,d=.str w:=by
   rw [<- hW]
   intro d hd
   simp only [NM,OY,or_false] at hd
   rcases hd with rfl | rfl | rfl | rfl | rfl | rfl | rfl | rfl <;> exact⟨_,rfl⟩
  obtain⟨T,hT⟩:∃ T:cB,T=(aK (ky (fN (af (fC (.int 8)) (au))) (gN 7) (aK (ng (fB (f2 g9 (f2 nw (f2 o4 (f2 dj (ah 0) (fC (.int 2028))) (ah 7)) (fC (.int 1))) (fC (.int 1)))) (oo 6 (f2 bq (ah 5) (ah 7)) (fC (.bl true))) (cX)) (fJ [7] cX))) (aK (ng (kI [6] (fB (f2 g9 (fL uc (af (ah 6) (au))) (fC (.int 0))))) (oo 6 (ah 3) (fC (.bl true))) (cX)) (hJ 6 (ce (cA (af (fC (.str "word")) (af (fL cm (af (fL fh (af (fL pQ (af (ah 6) (au))) (au))) (au))) (au)))))))):=⟨_,rfl⟩
  have fin:∀ ws:List Str,ws.Nodup->ws.length<=10->ws≠[]->∃ c:Kd,hJ 6 (ce (cA (af (fC (.str "word")) (af (fL cm (af (fL fh (af (fL pQ (af (ah 6) (au))) (au))) (au))) (au))))) K0 [some (.val (.int x)),none,none,some (.val (.str one)),none,some (.val (.lst W)),some (.own (wd ws)),none]=.ok c.d/\c.gd:=fun ws nd hl wn=>by
   obtain⟨us,ez,pz⟩:=HW ws nd ‹0›
   refine⟨.wrd us,?_,⟨fun z=>wn (by rw [z] at pz; exact pz.symm.eq_nil),by rw [pz.length_eq]; omega⟩⟩
   unfold Kd.d
   simp! only [Br,ez,Dj]
  have key:∃ c:Kd,T K0 [some (.val (.int x)),none,none,some (.val (.str one)),none,some (.val (.lst W)),some (.own (.dct [] [])),none]=.ok c.d/\c.gd:=by
   rw [hT,ia,je]
   simp! only [r8]
   refine eZ (Q:=fun z=>∃ c:Kd,z=.ok c.d/\c.gd) (fun i ρ=>∃ ws:List Str,ws.Nodup/\ws.length<=i/\ρ=[some (.val (.int x)),none,none,some (.val (.str one)),none,some (.val (.lst W)),some (.own (wd ws)),none]) ?_ ⟨[],M9,MA _,rfl⟩ ?_
   ·rintro i d ρ kk hd ⟨ws,nd,hl,rfl⟩
    have hi:=cS hd
    rw [cV] at hi
    have hdi:d=.int (i:Int):=by
     rw [jv,MS,ND hi] at hd
     cases hd; simp
    subst hdi
    obtain⟨w,ew⟩:=Ws (W[i]'‹0›) (Oe _)
    have ix:bq (.lst W) (.int (i:Int))=some (.str w):=by
     rw [Ld,rX ‹0›,ew]
    have sh:=CD (x / 2028) i
    cases hb:(Builtin.bitAnd (x / 2028 / 2 ^ i) 1==1) with
    | false =>
     refine⟨_,_,rfl,⟨ws,nd,by omega,rfl⟩,?_⟩
     simp! only [d2028,sh,qJ,hb]
    | true =>
     refine⟨_,_,rfl,⟨sV ws w,zE w nd,by have:=xj ws w; omega,rfl⟩,?_⟩
     have pk:=fun k:Ks=>zx (i:=6) (fk:=f2 bq (ah 5) (ah 7)) (fv:=fC (.bl true)) (k:=k) (ρ:=[some (.val (.int x)),none,none,some (.val (.str one)),none,some (.val (.lst W)),some (.own (wd ws)),some (.val (.int (i:Int)))]) (al:=AU ws) (q:=.inr w) (d:=.str w) (v:=.bl true) rfl (by simp! only [ix]) rfl rfl (by simp; omega)
     simp! only [d2028,sh,qJ,hb,pk,BR]
   ·rintro ρ' ⟨ws,nd,hl,rfl⟩
    rw [cV] at hl
    have pt:kI [6] (fB (f2 g9 (fL uc (af (ah 6) (au))) (fC (.int 0)))) [some (.val (.int x)),none,none,some (.val (.str one)),none,some (.val (.lst W)),some (.own (wd ws)),none]=.ok (((ws.length:Int))==0):=by
     simp! only [lI,BI,D4]
    dsimp only
    rw [ia,nQ,pt,p6]
    cases hb:((ws.length:Int)==0) with
    | false=>exact fin ws nd ‹0› fun z=>by rw [z] at hb; cases hb
    | true =>
     have pk:=fun k:Ks=>zx (i:=6) (fk:=ah 3) (fv:=fC (.bl true)) (k:=k) (ρ:=[some (.val (.int x)),none,none,some (.val (.str one)),none,some (.val (.lst W)),some (.own (wd ws)),none]) (al:=AU ws) (q:=.inr one) (d:=.str one) (v:=.bl true) rfl rfl rfl rfl (by simp; omega)
     rw [if_pos rfl,pk,BR]
     exact fin (sV ws one) (zE one nd) (by have:=xj ws one; omega) (EK ws one)
  obtain⟨d,ed,fd⟩:=key
  have mW:oG W=some (.lst W):=Gq ‹0›
  refine⟨d,?_,fd⟩
  rw [<- hT]
  simp only [K0] at ed
  simp! only [hL,g3,h',d3,g26,e1,d78,e2,a1,a2,a3,m1,m2,hW,mW,vO,ed]
theorem zf (dp g:Nat) (hk:∀ x b:Int,0<=x->x < 2147483700->0<=b->∃ d,aX g [.int x,.int b,.int dp]=.ok d/\KG dp d) (x b st:Int) (m r:Nat) (h0:0<=x) (h1:x < 2147483700) (hb:0<=b) (hs:0<=st) (hm:m<=8) (hr:r<=8) :
  ∃ (ks:KL) (qs:List (Str×D)),aL (g+1) [.int x,.int b,.int st,.int m,.int r,.int dp]=.ok (fr ks qs)/\ks.length=m/\qs.length=r/\(∀ p∈ks,p.2.gd)/\∀ q∈qs,KG dp q.2:=by
 rw [gx,FV]; unfold jc
 have rn:mH [.int ((m:Int)+(r:Int))]=some (eP 0 (m+r)):=by
  rw [show ((m:Int)+(r:Int))=((m+r:Nat):Int) by omega]
  exact jH (m+r) ‹0›
 obtain⟨T,hT⟩:∃ T:cB,T=hJ 7 (hJ 6 (ce (cA (af (fL cm (af (ah 6) (au))) (af (fL cm (af (ah 7) (au))) (au)))))):=⟨_,rfl⟩
 rw [<- hT]
 simp! only [Hq,rn]
 refine eZ (Q:=fun z=>∃ (ks:KL) (qs:List (Str×D)),z=.ok (fr ks qs)/\ks.length=m/\qs.length=r/\(∀ p∈ks,p.2.gd)/\∀ q∈qs,KG dp q.2)
  (fun i ρ=>∃ (y:Int) (ks:KL) (qs:List (Str×D)),0<=y/\y < 2147483700/\ks.length=min i m/\qs.length=i - m/\(∀ p∈ks,p.2.gd)/\(∀ q∈qs,KG dp q.2) /\
   ρ=[some (.val (.int y)),some (.val (.int b)),some (.val (.int st)),some (.val (.int m)),some (.val (.int r)),some (.val (.int dp)),some (.own (.lst (ks.map kf))),some (.own (.lst (qs.map fld))),none]) ?_ ⟨x,[],[],h0,h1,by simp,by simp,(fun _ h=>nomatch h),(fun _ h=>nomatch h),rfl⟩ ?_
 ·rintro i d ρ kk hd ⟨y,ps,qs,y0,y1,lp,lq,fp,fq,rfl⟩
  have hi:=cS hd
  rw [cV] at hi
  have hdi:d=.int (i:Int):=by
   rw [jv,MS,ND hi] at hd
   cases hd; simp
  subst hdi
  obtain⟨y',y0',y1',ey⟩:=iu y y0 y1
  obtain⟨nm,en⟩:=zG b (st+(i:Int)) hb ‹0›
  by_cases h:i < m
  ·have h':decide ((i:Int) < (m:Int))=true:=decide_eq_true ‹0›
   obtain⟨c,ek,ck⟩:=qN y' y0' ‹0›
   refine⟨_,_,rfl,⟨y',ps++[(nm,c)],qs,y0',by omega,by rw [MV,M1]; omega,by omega,fun p hp=>?_,fq,rfl⟩,?_⟩
   ·rcases List.mem_append.mp hp with z | z
    ·exact fp p z
    ·rw [Oq] at z; subst z; exact ck
   ·have ap:fD (ps.map kf) [.tup [.str nm,c.d]]=some ((ps++[(nm,c)]).map kf):=by
     rw [ko (by rw [MI]; omega),Nz]; rfl
    have sm:=fun K:Ks=>kE 6 fD (af (cA (af (fR (bc cp 2 7) (af (ah 1) (af (f2 bY (ah 2) (ah 8)) (au)))) (af (fR (bc cP 1 8) (af (ah 0) (au))) (au)))) (au)) K [some (.val (.int y')),some (.val (.int b)),some (.val (.int st)),some (.val (.int m)),some (.val (.int r)),some (.val (.int dp)),some (.own (.lst (ps.map kf))),some (.own (.lst (qs.map fld))),some (.val (.int i))] (xs:=ps.map kf) rfl
    generalize (ps++[(nm,c)]).map kf=Y at ap ⊢
    simp! only [ey,h',sm,en,ek,Dj,ap]
  ·have h':decide ((i:Int) < (m:Int))=false:=decide_eq_false ‹0›
   obtain⟨k,ek,fk⟩:=hk y' b y0' ‹0› hb
   refine⟨_,_,rfl,⟨y',ps,qs++[(nm,k)],y0',by omega,by omega,by rw [MV,M1]; omega,fp,fun p hp=>?_,rfl⟩,?_⟩
   ·rcases List.mem_append.mp hp with z | z
    ·exact fq p z
    ·rw [Oq] at z; subst z; exact fk
   ·have ap:fD (qs.map fld) [.tup [.str nm,k]]=some ((qs++[(nm,k)]).map fld):=by
     rw [ko (by rw [MI]; omega),Nz]; rfl
    have sm:=fun K:Ks=>kE 7 fD (af (cA (af (fR (bc cp 2 7) (af (ah 1) (af (f2 bY (ah 2) (ah 8)) (au)))) (af (fR (aX g) (af (ah 0) (af (ah 1) (af (ah 5) (au))))) (au)))) (au)) K [some (.val (.int y')),some (.val (.int b)),some (.val (.int st)),some (.val (.int m)),some (.val (.int r)),some (.val (.int dp)),some (.own (.lst (ps.map kf))),some (.own (.lst (qs.map fld))),some (.val (.int i))] (xs:=qs.map fld) rfl
    generalize (qs++[(nm,k)]).map fld=Y at ap ⊢
    simp! only [ey,h',sm,en,ek,Dj,ap]
 ·rintro ρ' ⟨y,ps,qs,y0,y1,lp,lq,fp,fq,rfl⟩
  rw [cV] at lp lq
  refine⟨ps,qs,?_,by omega,by omega,fp,fq⟩
  rw [hT]
  simp! only [Dj]
theorem Em:∀ (dp g:Nat),2*dp+1<=g->∀ x b:Int,0<=x->x < 2147483700->0<=b->∃ d,aX g [.int x,.int b,.int dp]=.ok d/\KG dp d:=by
 intro dp
 induction dp with
 | zero =>
  intro g hg x b h0 h1 hb
  obtain⟨g,rfl⟩:∃ g',g=g'+1:=⟨g - 1,by omega⟩
  have d3:=fun i=>cy (i:=i) (show (0:Int) < 3 by decide) (show (3:Int) < 10 ^ 200 by decide)
  obtain⟨c,e,f⟩:=qN (x / 3) ‹0› ‹0›
  refine⟨c.d,?_,c,f,rfl⟩
  rw [e6,pJ]; unfold gU
  have z:(((0:Nat):Int)==0)=true:=rfl
  simp! only [z,d3,e]
 | succ dp ih =>
  intro g hg x b h0 h1 hb
  obtain⟨g,rfl⟩:∃ g',g=g'+1+1:=⟨g - 2,by omega⟩
  have g2:=fun i=>cj (i:=i) (show (0:Int) < 2 by decide)
  have g3:=fun i=>cj (i:=i) (show (0:Int) < 3 by decide)
  have g12:=fun i=>cj (i:=i) (show (0:Int) < 12 by decide)
  have d3:=fun i=>cy (i:=i) (show (0:Int) < 3 by decide) (show (3:Int) < 10 ^ 200 by decide)
  have d6:=fun i=>cy (i:=i) (show (0:Int) < 6 by decide) (show (6:Int) < 10 ^ 200 by decide)
  have d18:=fun i=>cy (i:=i) (show (0:Int) < 18 by decide) (show (18:Int) < 10 ^ 200 by decide)
  have d36:=fun i=>cy (i:=i) (show (0:Int) < 36 by decide) (show (36:Int) < 10 ^ 200 by decide)
  have z:(((dp+1:Nat):Int)==0)=false:=by simp; omega
  rw [e6,pJ]; unfold gU
  by_cases h:x%3 < 2
  ·have h':decide (x%3 < 2)=true:=decide_eq_true h
   obtain⟨c,e,f⟩:=qN (x / 3) ‹0› ‹0›
   refine⟨c.d,?_,.inl ⟨c,f,rfl⟩⟩
   simp! only [z,g3,h',d3,e]
  ·have h':decide (x%3 < 2)=false:=decide_eq_false h
   obtain⟨m,hm,hm8,m1⟩:∃ m:Nat,1+x / 3%2=(m:Int)/\m<=8/\1<=m:=⟨(1+x / 3%2).toNat,by omega,by omega,by omega⟩
   obtain⟨r,hr,hr8⟩:∃ m:Nat,x / 6%3=(m:Int)/\m<=8:=⟨(x / 6%3).toNat,by omega,by omega⟩
   have hd:((dp+1:Nat):Int) - 1=(dp:Int):=by omega
   obtain⟨ps,qs,e,l1,l2,F1,F2⟩:=zf dp g (ih g ‹0›) (x / 3) b (x / 36%12) m r ‹0› ‹0› hb ‹0› hm8 hr8
   refine⟨.tup [.str "rows",fr ps qs,.bl (x / 18%2==1)],?_,.inr ⟨ps,qs,_,rfl,by omega,by omega,F1,by omega,F2⟩⟩
   simp! only [z,g3,h',d3,d36,g12,g2,d6,hm,hr,hd,e,d18,Jv]
theorem qt (dp:Nat) (hd:dp<=3) (x b st:Int) (m r:Nat) (h0:0<=x) (h1:x < 2147483700) (hb:0<=b) (hs:0<=st) (hm:m<=8) (hr:r<=8) :
  ∃ (ks:KL) (qs:List (Str×D)),aL 12 [.int x,.int b,.int st,.int m,.int r,.int dp]=.ok (fr ks qs)/\ks.length=m/\qs.length=r/\(∀ p∈ks,p.2.gd)/\∀ q∈qs,KG dp q.2 :=
 zf dp 11 (Em dp 11 ‹0›) x b st m r h0 h1 hb hs hm hr
theorem pD {σ:List Bool} {kl:Nat} (h0:σ≠[]) (hl:kl=σ.length) (rows:List (List D)) (hs:∀ r∈rows,Sh σ (r.take kl)) (hn:rows.length < 64):∃ t:List (List D),bc aN 2 4 [.int kl,.lst (rows.map .tup)]=.ok (.tup (t.map .tup))/\xP kl t/\(∀ r∈t,r∈rows)/\t.length<=rows.length/\∀ r∈rows,∃ r'∈t,r'.take kl=r.take kl:=by
 obtain⟨T,hT⟩:∃ T:cB,T=(hJ 2 (ce (fL cm (af (fY [none,some 2] (bw (fL fh (af (fL lD (af (ah 2) (au))) (au)))) (gN 0) (dE) (f2 yo (ah 1) (ah 0))) (au))))):=⟨_,rfl⟩
 rw [gB]; unfold aN
 rw [<- hT]
 simp! only [vO]
 refine eZ (Q:=fun z=>∃ t:List (List D),z=.ok (.tup (t.map .tup))/\xP kl t/\(∀ r∈t,r∈rows)/\t.length<=rows.length/\∀ r∈rows,∃ r'∈t,r'.take kl=r.take kl) (fun i ρ=>∃ al:List (List Key×D),(al.map (·.1)).Nodup/\al.length<=i/\(∀ r∈rows.take i,∃ q∈al.map (·.1),q.map bu=r.take kl)/\(∀ p∈al,∃ r∈rows,p.2=.tup r/\r.take kl=p.1.map bu)/\ρ=[some (.val (.int kl)),some (.val (.lst (rows.map .tup))),some (.own (cJ al)),none]) ?_ ⟨[],M9,MA _,(fun r h=>by rw [Ni] at h; cases h),(fun _ h=>nomatch h),rfl⟩ ?_
 ·rintro i d ρ kk hd ⟨al,nd,ll,cv,hp,rfl⟩
  have hi:=cS hd
  rw [MI] at hi
  rw [MS,Nr hi] at hd
  cases hd
  have rm:rows[i]∈rows:=Oe hi
  obtain⟨q,eq⟩:=qF (hs _ rm)
  have ct:cutD rows[i] none (some (kl:Int))=q.map bu:=by rw [gX,eq]
  refine⟨_,_,rfl,⟨gu al q (.tup rows[i]),Ed _ _ nd,by have:=B6 al q (.tup rows[i]); omega,fun r hr=>?_,fun p h=>?_,rfl⟩,?_⟩
  ·rw [pE]
   rw [O0 hi] at hr
   rcases List.mem_append.mp hr with z | z
   ·obtain⟨q',h1,h2⟩:=cv r z
    refine⟨q',?_,h2⟩
    split
    ·exact h1
    ·exact Mw _ h1
   ·rw [List.mem_singleton.mp z]
    refine⟨q,?_,eq.symm⟩
    split
    ·rename_i h; exact h
    ·exact MB _ Mu
  ·rcases De h with z | z
   ·exact hp p z
   ·subst z; exact⟨_,rm,rfl,eq⟩
  ·have pd:=fun K:Ks=>yU (i:=2) (fk:=bf (ah 3) (aP) (bH (ah 0))) (fv:=ah 3) (k:=K) (ρ:=[some (.val (.int kl)),some (.val (.lst (rows.map .tup))),some (.own (cJ al)),some (.val (.tup rows[i]))]) (al:=al) (q:=q) (v:=.tup rows[i]) rfl (by simp! only [ct]) rfl ‹0›
   generalize cJ (gu al q (.tup rows[i]))=Y at pd ⊢
   generalize cJ al=Z at pd ⊢
   simp! only [pd]
 ·rintro ρ' ⟨al,nd,ll,cv,hp,rfl⟩
  rw [MI] at ll
  have hsk:∀ p∈al,Sh σ (p.1.map bu):=fun p h=>by
   obtain⟨r,hr,_,e⟩:=hp p h
   rw [<- e]; exact hs r hr
  obtain⟨es,ri⟩:=y4 nd hsk h0 ‹0›
  have pm:=fG dQ (encK al)
  have lt:=wj al
  generalize hV dQ (encK al)=W at es ri pm
  have wl:W.length=al.length:=by rw [pm.length_eq,MI]
  have mem:∀ x∈W,∃ p∈al,x=.tup (p.1.map bu):=fun x hx=>by
   obtain⟨p,h1,h2⟩:=List.mem_map.mp (pm.mem_iff.mp hx)
   exact⟨p,h1,h2.symm⟩
  obtain⟨vs,v1,v2,v3⟩:=BJ (ρ:=[none,some (.val (cJ al))]) (g:=gN 0) (C:=dE) (Fe:=f2 yo (ah 1) (ah 0)) W (fun i v=>∃ r∈rows,v=.tup r/\W[i]?=some (.tup (r.take kl))) fun i d hd=>by
   obtain⟨p,h1,h2⟩:=mem d (MU hd)
   obtain⟨r,hr,e1,e2⟩:=hp p h1
   have dx:=GQ al p.1
   rw [xc nd h1,e1] at dx
   refine⟨[some (.val d),some (.val (cJ al))],.tup r,rfl,rfl,?_,r,hr,rfl,by rw [hd,h2,e2]⟩
   subst h2
   generalize cJ al=Z at dx
   simp! only [dx]
  obtain⟨t,rfl⟩:=yV vs fun v hv=>by
   obtain⟨i,hi,ei⟩:=Nw hv
   obtain⟨r,_,e,_⟩:=v2 i v (by rw [Nr hi,ei])
   exact⟨r,e⟩
  rw [MI] at v1
  have at_:∀ (i:Nat) (h:i < t.length),t[i]∈rows/\W[i]?=some (.tup (t[i].take kl)):=fun i h=>by
   obtain⟨r,hr,e,w⟩:=v2 i (.tup t[i]) (by rw [MS,Nr h]; rfl)
   injection e with e
   rw [e]; exact⟨hr,w⟩
  refine⟨t,?_,?_,fun r hr=>?_,by omega,fun r hr=>?_⟩
  ·have lc:fY [none,some 2] (bw (fL fh (af (fL lD (af (ah 2) (au))) (au)))) (gN 0) (dE) (f2 yo (ah 1) (ah 0)) [some (.val (.int kl)),some (.val (.lst (rows.map .tup))),some (.val (cJ al)),none]=.ok (.lst (t.map .tup)):=by
    refine dF (ds:=W) ?_ ‹0› v3
    generalize cJ al=Z at lt
    simp! only [lt,es]
   rw [hT]
   generalize cJ al=Z at lc
   simp! only [lc]
  ·refine List.pairwise_iff_getElem.mpr fun i j hi hj hij=>?_
   have a:=(at_ i hi).2
   have b:=(at_ j hj).2
   rw [Nr ‹0›] at a b
   have:=List.pairwise_iff_getElem.mp ri i j ‹0› ‹0› hij
   rw [Option.some.inj a,Option.some.inj b] at this
   exact this
  ·obtain⟨i,hi,ei⟩:=Nw hr
   rw [<- ei]; exact(at_ i hi).1
  ·rw [MI,NB] at cv
   obtain⟨q,hq,eq⟩:=cv r hr
   obtain⟨p,hp',rfl⟩:=List.mem_map.mp hq
   have:D.tup (p.1.map bu)∈W:=pm.mem_iff.mpr (List.mem_map.mpr ⟨p,hp',rfl⟩)
   obtain⟨i,hi,ei⟩:=Nw this
   have a:=(at_ i ‹0›).2
   rw [Nr hi,ei] at a
   injection a with a
   injection a with a
   exact⟨t[i]'‹0›,Oe _,by rw [<- a,eq]⟩
theorem qQ (c:Kd) (hg:c.gd) (g:Nat) (x:Int) (h0:0<=x) (h1:x < 2147483700):∃ v,az (g+1) [c.d,.int x]=.ok v/\Sh [c.b] [v]:=by
 rw [eI,gB]; unfold fS
 cases c with
 | num lo hi =>
  have hg:lo<=hi:=hg
  have p7:ql (.int x) (.int 7)=some (.int (x ^ 7)):=yB x 7 (by decide) ‹0›
  have gm:=fun i=>cj (i:=i) (show (0:Int) < hi - lo+1 by omega)
  refine⟨.int (lo+x ^ 7%(hi - lo+1)),?_,.int _ .nil⟩
  simp! only [Kd.d,FQ,p7,gm]
 | wrd ws =>
  obtain⟨wn,_⟩:=(show ws≠[]/\ws.length<=100 from hg)
  have ul:0 < ws.length:=List.length_pos_iff.mpr wn
  have q1:=OG x (show (ws.length:Int)≠0 by omega)
  have q2:=OH x (show (0:Int) < (ws.length:Int) by omega)
  have gm:=fun i=>cj (i:=i) (show (0:Int) < (ws.length:Int) by omega)
  have ix:bq (.tup (ws.map .str)) (.int (x%(ws.length:Int)))=some (.str (ws[(x%(ws.length:Int)).toNat]'‹0›)):=by
   rw [GN,zc,uX q1 q2]; rfl
  refine⟨_,?_,.str (ws[(x%(ws.length:Int)).toNat]'‹0›) .nil⟩
  simp! only [Kd.d,GO,DS,MI,gm,ix]
theorem xN (n g:Nat) (hv:∀ (d:D) (x:Int),KG n d->0<=x->x < 2147483700->∃ v,az (g+1) [d,.int x]=.ok v/\AL (2*n) v) (ks:KL) (qs:List (Str×D)) (k8:ks.length<=8) (q8:qs.length<=8) (hk:∀ p∈ks,p.2.gd) (hq:∀ q∈qs,KG n q.2) (mn hd tl:Int) (h0:0<=hd) (h1:hd < 2147483700) (t0:0<=tl) (t1:tl < 2147483700) :
  ∃ vs:List D,aF (g+2) [fr ks qs,.int mn,.int hd,.int tl]=.ok (.tup vs)/\vs.length=ks.length+qs.length/\Sh (ks.map (·.2.b)) (vs.take ks.length)/\∀ v∈vs,AL (2*n) v:=by
 rw [gW,Dk]; unfold j6
 have ad:=iI (ks.map kf) (qs.map fld) (by rw [MI,MI]; omega)
 have em:ks.map kf++qs.map fld=(ks.map toD++qs).map fld:=by rw [Nz,Hj]
 rw [em] at ad
 have fl:(ks.map toD++qs).length=ks.length+qs.length:=by rw [MV,MI]
 obtain⟨T,hT⟩:∃ T:cB,T=(hJ 4 (ce (fL cm (af (ah 4) (au))))):=⟨_,rfl⟩
 rw [<- hT]
 simp! only [Hq,ad]
 refine eZ (Q:=fun z=>∃ vs:List D,z=.ok (.tup vs)/\vs.length=ks.length+qs.length/\Sh (ks.map (·.2.b)) (vs.take ks.length)/\∀ v∈vs,AL (2*n) v)
  (fun i ρ=>∃ (y z:Int) (ka va:List D),0<=y/\y < 2147483700/\0<=z/\z < 2147483700/\Sh ((ks.take i).map (·.2.b)) ka/\va.length=i - ks.length/\(∀ v∈va,AL (2*n) v)/\ρ=[some (.val (fr ks qs)),some (.val (.int mn)),some (.val (.int y)),some (.val (.int z)),some (.own (.lst (ka++va))),none,none]) ?_ ⟨hd,tl,[],[],h0,h1,t0,t1,.nil,by simp,(fun _ h=>nomatch h),rfl⟩ ?_
 ·rintro i d ρ kk hd ⟨y,z,ka,va,y0,y1,z0,z1,hka,lva,hva,rfl⟩
  have hi:=cS hd
  rw [MI,fl] at hi
  rw [MS,Nr ‹0›] at hd
  cases hd
  have kal:ka.length=min i ks.length:=by rw [hka.length,MI,MO]
  obtain⟨y',y0',y1',ey⟩:=iu y y0 y1
  obtain⟨z',z0',z1',ez⟩:=iu z z0 z1
  have step:∀ x:Int,0<=x->x < 2147483700->∃ v,az (g+1) [((ks.map toD++qs)[i]'‹0›).2,.int x]=.ok v/\∃ ka' va',ka++va++[v]=ka'++va'/\Sh ((ks.take (i+1)).map (·.2.b)) ka'/\va'.length=i+1 - ks.length/\∀ v∈va',AL (2*n) v:=fun x x0 x1=>by
   by_cases h:i < ks.length
   ·have e:(ks.map toD++qs)[i]'‹0›=toD ks[i]:=by rw [List.getElem_append_left (by rw [MI]; exact h),List.getElem_map]
    obtain⟨v,ev,sv⟩:=qQ ks[i].2 (hk _ (Oe h)) g x x0 x1
    have v0:va=[]:=List.length_eq_zero_iff.mp ‹0›
    subst v0
    refine⟨v,by rw [e]; exact ev,ka++[v],[],by simp,?_,by simp; omega,fun _ h=>nomatch h⟩
    rw [O0 h,Nz]
    exact yK hka sv
   ·have e:(ks.map toD++qs)[i]'‹0›=qs[i - ks.length]'‹0›:=by rw [List.getElem_append_right (by rw [MI]; omega)]; simp
    obtain⟨v,ev,sv⟩:=hv _ x (hq _ (Oe (show i - ks.length < qs.length by omega))) x0 x1
    refine⟨v,by rw [e]; exact ev,ka,va++[v],by rw [NI],?_,by rw [MV,M1]; omega,fun w hw=>?_⟩
    ·rw [Oo ‹0›] at hka ⊢; exact hka
    ·rcases List.mem_append.mp hw with z | z
     ·exact hva w z
     ·rw [List.mem_singleton.mp z]; exact sv
  have gt:gT 2 (oH [5,6]) (fld ((ks.map toD++qs)[i]'‹0›)) [some (.val (fr ks qs)),some (.val (.int mn)),some (.val (.int y)),some (.val (.int z)),some (.own (.lst (ka++va))),none,none]=some [some (.val (fr ks qs)),some (.val (.int mn)),some (.val (.int y)),some (.val (.int z)),some (.own (.lst (ka++va))),some (.val (.str ((ks.map toD++qs)[i]'‹0›).1)),some (.val ((ks.map toD++qs)[i]'‹0›).2)]:=rfl
  have alen:(ka++va).length < 1000:=by rw [MV]; omega
  generalize (ks.map toD++qs)[i]'‹0›=p at step gt
  cases hb:decide (((ka++va).length:Int) < mn) with
  | true =>
   obtain⟨v,ev,ka',va',e1,e2,e3,e4⟩:=step y' y0' ‹0›
   refine⟨_,_,gt,⟨y',z,ka',va',y0',by omega,z0,z1,e2,e3,e4,rfl⟩,?_⟩
   have ap:fD (ka++va) [v]=some (ka'++va'):=by rw [ko ‹0›,e1]
   have sm:=fun K:Ks=>kE 4 fD (af (fR (az (g+1)) (af (ah 6) (af (ah 2) (au)))) (au)) K [some (.val (fr ks qs)),some (.val (.int mn)),some (.val (.int y')),some (.val (.int z)),some (.own (.lst (ka++va))),some (.val (.str p.1)),some (.val p.2)] (xs:=ka++va) rfl
   generalize ka++va=A at hb ap sm alen
   generalize ka'++va'=B at ap
   simp! only [lI,BI,hb,ey,sm,ev,ap]
  | false =>
   obtain⟨v,ev,ka',va',e1,e2,e3,e4⟩:=step z' z0' ‹0›
   refine⟨_,_,gt,⟨y,z',ka',va',y0,y1,z0',by omega,e2,e3,e4,rfl⟩,?_⟩
   have ap:fD (ka++va) [v]=some (ka'++va'):=by rw [ko ‹0›,e1]
   have sm:=fun K:Ks=>kE 4 fD (af (fR (az (g+1)) (af (ah 6) (af (ah 3) (au)))) (au)) K [some (.val (fr ks qs)),some (.val (.int mn)),some (.val (.int y)),some (.val (.int z')),some (.own (.lst (ka++va))),some (.val (.str p.1)),some (.val p.2)] (xs:=ka++va) rfl
   generalize ka++va=A at hb ap sm alen
   generalize ka'++va'=B at ap
   simp! only [lI,BI,hb,ez,sm,ev,ap]
 ·rintro ρ' ⟨y,z,ka,va,y0,y1,z0,z1,hka,lva,hva,rfl⟩
  rw [MI,fl] at hka lva
  rw [Oo ‹0›] at hka
  have kal:ka.length=ks.length:=by rw [hka.length,MI]
  refine⟨ka++va,?_,by rw [MV]; omega,by rw [<- kal,Oz]; exact hka,fun v hv=>?_⟩
  ·rw [hT]
   generalize ka++va=A
   simp! only []
  ·rcases List.mem_append.mp hv with w | w
   ·exact(uo hka v w).of0 _
   ·exact hva v w
theorem Eh (n g:Nat) (hv:∀ (d:D) (x:Int),KG n d->0<=x->x < 2147483700->∃ v,az (g+1) [d,.int x]=.ok v/\AL (2*n) v) (ks:KL) (qs:List (Str×D)) (k1:1<=ks.length) (k8:ks.length<=8) (q8:qs.length<=8) (hk:∀ p∈ks,p.2.gd) (hq:∀ q∈qs,KG n q.2) (x:Int) (m:Nat) (h0:0<=x) (h1:x < 2147483700) (hm:m<=3) :
  ∃ v:D,aI (g+3) [fr ks qs,.int x,.int m]=.ok v/\AL (2*n+2) v:=by
 have rn:=jH m ‹0›
 obtain⟨T,hT⟩:∃ T:cB,T=(hJ 3 (ce (fR (bc aN 2 4) (af (fL jp (af (f2 bq (ah 0) (fC (.int 0))) (au))) (af (ah 3) (au)))))):=⟨_,rfl⟩
 rw [gC,pJ]; unfold iX
 rw [<- hT]
 simp! only [Hq,rn]
 refine eZ (Q:=fun z=>∃ v:D,z=.ok v/\AL (2*n+2) v)
  (fun i ρ=>∃ (y:Int) (rs:List (List D)),0<=y/\y < 2147483700/\rs.length=i/\(∀ r∈rs,r.length<=16/\Sh (ks.map (·.2.b)) (r.take ks.length)/\∀ v∈r,AL (2*n) v)/\ρ=[some (.val (fr ks qs)),some (.val (.int y)),some (.val (.int m)),some (.own (.lst (rs.map .tup))),none]) ?_ ⟨x,[],h0,h1,rfl,(fun _ h=>nomatch h),rfl⟩ ?_
 ·rintro i d ρ kk hd ⟨y,rs,y0,y1,rl,hr,rfl⟩
  have hi:=cS hd
  rw [cV] at hi
  obtain⟨y',y0',y1',ey⟩:=iu y y0 y1
  obtain⟨vs,ev,v1,v2,v3⟩:=xN n g hv ks qs k8 q8 hk hq 0 0 y' (by decide) (by decide) y0' ‹0›
  refine⟨_,_,rfl,⟨y',rs++[vs],y0',by omega,by rw [MV,M1,rl],fun r h=>?_,rfl⟩,?_⟩
  ·rcases List.mem_append.mp h with z | z
   ·exact hr r z
   ·rw [List.mem_singleton.mp z]; exact⟨by omega,v2,v3⟩
  ·have ap:fD (rs.map .tup) [.tup vs]=some ((rs++[vs]).map .tup):=by
    rw [ko (by rw [MI]; omega),Nz]; rfl
   have sm:=fun K:Ks=>kE 3 fD (af (fR (aF (g+2)) (af (ah 0) (af (fC (.int 0)) (af (fC (.int 0)) (af (ah 1) (au)))))) (au)) K [some (.val (fr ks qs)),some (.val (.int y')),some (.val (.int m)),some (.own (.lst (rs.map .tup))),some (.val d)] (xs:=rs.map .tup) rfl
   generalize (rs++[vs]).map D.tup=Y at ap ⊢
   generalize rs.map D.tup=Z at ap sm ⊢
   simp! only [ey,sm,ev,ap]
 ·rintro ρ' ⟨y,rs,y0,y1,rl,hr,rfl⟩
  rw [cV] at rl
  obtain⟨t,et,_,tm,tl,_⟩:=pD (σ:=ks.map (·.2.b)) (kl:=ks.length) (fun z=>by have:=congrArg List.length z; rw [MI,M6] at this; omega) (by rw [MI]) rs (fun r h=>(hr r h).2.1) ‹0›
  refine⟨.tup (t.map .tup),?_,AL.tup (by rw [MI]; omega) fun v hv=>?_⟩
  ·rw [hT]
   simp! only [MI,et]
  ·obtain⟨r,h1,rfl⟩:=List.mem_map.mp hv
   obtain⟨w1,_,w3⟩:=hr r (tm r h1)
   exact AL.tup ‹0› w3
theorem wB:∀ (n g:Nat),3*n+1<=g->∀ (d:D) (x:Int),KG n d->0<=x->x < 2147483700->∃ v,az g [d,.int x]=.ok v/\AL (2*n) v:=by
 intro n
 induction n with
 | zero =>
  intro g hg d x hd h0 h1
  obtain⟨g,rfl⟩:∃ g',g=g'+1:=⟨g - 1,by omega⟩
  obtain⟨c,cg,rfl⟩:=hd
  obtain⟨v,ev,sv⟩:=qQ c cg g x h0 h1
  exact⟨v,ev,uo sv v Mu⟩
 | succ n ih =>
  intro g hg d x hd h0 h1
  obtain⟨g,rfl⟩:∃ g',g=g'+3+1:=⟨g - 4,by omega⟩
  rcases hd with ⟨c,cg,rfl⟩ | ⟨ks,qs,b,rfl,k1,k8,hk,q8,hq⟩
  ·obtain⟨v,ev,sv⟩:=qQ c cg (g+3) x h0 h1
   exact⟨v,ev,(uo sv v Mu).of0 _⟩
  ·have d3:=fun i=>cy (i:=i) (show (0:Int) < 3 by decide) (show (3:Int) < 10 ^ 200 by decide)
   have g3:=fun i=>cj (i:=i) (show (0:Int) < 3 by decide)
   obtain⟨m,hm,em⟩:∃ m:Nat,m<=3/\ra [.int (x%3),.int (if b then 1 else 0)]=some (.int (m:Int)):=by
    refine⟨(if (if b then (1:Int) else 0) > x%3 then (if b then (1:Int) else 0) else x%3).toNat,?_,?_⟩
    ·cases b <;> simp <;> split <;> omega
    ·rw [kL]
     congr 2
     cases b <;> simp <;> split <;> omega
   obtain⟨v,ev,av⟩:=Eh n g (ih (g+1) ‹0›) ks qs k1 k8 q8 hk hq (x / 3) m ‹0› ‹0› hm
   refine⟨v,?_,av⟩
   rw [eI,gB]; unfold fS
   simp! only [G9,ED,d3,g3,Cv,em,ev]
structure Tab (σ:List Bool) (t:List (List D)):Prop where
 sh:∀ r∈t,Sh σ (r.take σ.length)
 ri:xP σ.length t
 ln:t.length < 51
 rl:∀ r∈t,r.length<=16/\σ.length<=r.length
 al:∀ r∈t,∀ v∈r,AL 4 v
theorem C8 (ks:KL) (qs:List (Str×D)) (n:Nat) (hn:n<=2) (k1:1<=ks.length) (k8:ks.length<=8) (q8:qs.length<=8) (hk:∀ p∈ks,p.2.gd) (hq:∀ q∈qs,KG n q.2) (m:Int) (ns:List Int) (hl:ns.length<=63) :
  ∃ t:List (List D),Tab (ks.map (·.2.b)) t/\bc fO 5 8 [fr ks qs,.int m,.lst (ns.map .int),.int 2,.int 50]=.ok (.tup (t.map .tup)):=by
 have g2:=fun i=>cj (i:=i) (show (0:Int) < 2 by decide)
 have g4:=fun i=>cj (i:=i) (show (0:Int) < 4 by decide)
 have d2:=fun i=>cy (i:=i) (show (0:Int) < 2 by decide) (show (2:Int) < 10 ^ 200 by decide)
 have l2:∀ a b:D,oG [a,b]=some (.lst [a,b]):=fun _ _=>nr rfl
 obtain⟨N,hN,rn⟩:∃ N:Nat,N<=50/\∀ e1 e2:Int,ra [.int (ns.length:Int),.int 7]=some (.int e1)->wI [.int e1,.int 52]=some (.int e2)->qK [.int 2,.int e2]=some (eP 2 N):=by
  refine⟨((if (52:Int) < (if (7:Int) > (ns.length:Int) then 7 else (ns.length:Int)) then 52 else (if (7:Int) > (ns.length:Int) then 7 else (ns.length:Int))) - 2).toNat,?_,fun e1 e2 h1 h2=>?_⟩
  ·split <;> split <;> omega
  ·rw [kL] at h1
   cases h1
   rw [lG] at h2
   cases h2
   generalize he:(if (52:Int) < (if (7:Int) > (ns.length:Int) then 7 else (ns.length:Int)) then 52 else (if (7:Int) > (ns.length:Int) then 7 else (ns.length:Int)))=e
   have e2:2<=e/\e<=52:=by rw [<- he]; split <;> split <;> omega
   show (if okR 2 && okR e then some (eP 2 ((e - 2).toNat)) else none)=_
   have o1:okR 2=true:=decide_eq_true ⟨by decide,by decide⟩
   have o2:okR e=true:=decide_eq_true ⟨by omega,by omega⟩
   rw [o1,o2]; rfl
 have mx:=kL (ns.length:Int) 7
 have rn:=rn _ _ mx (lG _ _)
 obtain⟨T,hT⟩:∃ T:cB,T=(hJ 5 (ce (fR (bc aN 2 4) (af (fL jp (af (f2 bq (ah 0) (fC (.int 0))) (au))) (af (ah 5) (au)))))):=⟨_,rfl⟩
 rw [Gb]; unfold fO
 rw [<- hT]
 have p7:(2:Int)+5=7:=rfl
 have p62:(2:Int)+50=52:=rfl
 simp! only [Hq,MI,p7,p62,rn]
 refine eZ (Q:=fun z=>∃ t:List (List D),Tab (ks.map (·.2.b)) t/\z=.ok (.tup (t.map .tup)))
  (fun i ρ=>∃ rs:List (List D),rs.length=i/\(∀ r∈rs,r.length=ks.length+qs.length/\Sh (ks.map (·.2.b)) (r.take ks.length)/\∀ v∈r,AL 4 v)/\ρ=[some (.val (fr ks qs)),some (.val (.int m)),some (.val (.lst (ns.map .int))),some (.val (.int 2)),some (.val (.int 50)),some (.own (.lst (rs.map .tup))),none,none]) ?_ ⟨[],rfl,(fun _ h=>nomatch h),rfl⟩ ?_
 ·rintro i d ρ kk hd ⟨rs,rl,hr,rfl⟩
  have hi:=cS hd
  rw [cV] at hi
  have hdi:d=.int ((2+i:Nat):Int):=by
   rw [jv,MS,ND hi] at hd
   cases hd; simp
  subst hdi
  obtain⟨x,x0,x1,ex⟩:=vB ns (2+i) ‹0›
  obtain⟨y,y0,y1,ey⟩:=iu x x0 ‹0›
  obtain⟨h,h0,h1,eh⟩:∃ h:Int,0<=h/\h < 2147483700/\bq (.lst [.int (x / 2%4),.int (x / 2)]) (.int (x%2))=some (.int h):=by
   rcases(show x%2=0\/x%2=1 by omega) with z | z <;> rw [z]
   ·exact⟨x / 2%4,by omega,by omega,rfl⟩
   ·exact⟨x / 2,by omega,by omega,rfl⟩
  obtain⟨vs,ev,v1,v2,v3⟩:=xN n 10 (wB n 11 ‹0›) ks qs k8 q8 hk hq m h y h0 h1 y0 ‹0›
  have ev:aF 12 [fr ks qs,.int m,.int h,.int y]=.ok (.tup vs):=ev
  refine⟨_,_,rfl,⟨rs++[vs],by rw [MV,M1,rl],fun r h=>?_,rfl⟩,?_⟩
  ·rcases List.mem_append.mp h with z | z
   ·exact hr r z
   ·rw [List.mem_singleton.mp z]; exact⟨v1,v2,fun v hv=>AL.le ‹0› (v3 v hv)⟩
  ·have ap:fD (rs.map .tup) [.tup vs]=some ((rs++[vs]).map .tup):=by
    rw [ko (by rw [MI]; omega),Nz]; rfl
   have sm:=fun K:Ks=>kE 5 fD (af (fR (aF 12) (af (ah 0) (af (ah 1) (af (f2 bq (jG (af (f2 cG (f2 dj (ah 7) (fC (.int 2))) (fC (.int 4))) (af (f2 dj (ah 7) (fC (.int 2))) (au)))) (f2 cG (ah 7) (fC (.int 2)))) (af (fR (bc aG 1 1) (af (ah 7) (au))) (au)))))) (au)) K [some (.val (fr ks qs)),some (.val (.int m)),some (.val (.lst (ns.map .int))),some (.val (.int 2)),some (.val (.int 50)),some (.own (.lst (rs.map .tup))),some (.val (.int ((2+i:Nat):Int))),some (.val (.int x))] (xs:=rs.map .tup) rfl
   generalize (rs++[vs]).map D.tup=Y at ap ⊢
   generalize rs.map D.tup=Z at ap sm ⊢
   simp! only [ex,sm,d2,g4,l2,g2,eh,ey,ev,ap]
 ·rintro ρ' ⟨rs,rl,hr,rfl⟩
  rw [cV] at rl
  have sl:(ks.map (·.2.b)).length=ks.length:=by rw [MI]
  obtain⟨t,et,ri,tm,tl,_⟩:=pD (σ:=ks.map (·.2.b)) (kl:=ks.length) (fun z=>by have:=congrArg List.length z; rw [MI,M6] at this; omega) sl.symm rs (fun r h=>(hr r h).2.1) ‹0›
  refine⟨t,⟨fun r h=>by rw [sl]; exact(hr r (tm r h)).2.1,by rw [sl]; exact ri,by omega,fun r h=>by have:=(hr r (tm r h)).1; rw [sl]; omega,fun r h=>(hr r (tm r h)).2.2⟩,?_⟩
  rw [hT]
  simp! only [MI,et]
abbrev pf (ks is:KL) (jq:List (Str×D)) (nm:Str) (sm:Bool):D:=.tup [.tup (ks.map kf),.tup [.tup [.str nm,.tup [.str "rows",fr is jq,.bl sm]]]]
theorem Bi (ns:List Int) (sm:Bool):∃ (ks is:KL) (jq:List (Str×D)) (nm:Str) (n:Nat),n<=2/\1<=ks.length/\1<=is.length/\ks.length+is.length<=8/\jq.length<=8/\(∀ p∈ks,p.2.gd)/\(∀ p∈is,p.2.gd)/\(∀ q∈jq,KG n q.2)/\bc cU 2 10 [.lst (ns.map .int),.bl sm]=.ok (pf ks is jq nm sm):=by
 obtain⟨x,x0,x1,ex⟩:=vB ns 0 ‹0›
 have ex:bc cF 2 3 [.lst (ns.map .int),.int 0]=.ok (.int x):=ex
 obtain⟨c1,e1⟩:=TD.JP ns 1 (by decide)
 obtain⟨y,y0,y1,ey⟩:=iu x x0 ‹0›
 have mm:=fun i=>qE (i:=i) (j:=48271) (by decide) (by decide)
 have gM:=fun i=>cj (i:=i) (show (0:Int) < 2147483647 by decide)
 have g3:=fun i=>cj (i:=i) (show (0:Int) < 3 by decide)
 have g4:=fun i=>cj (i:=i) (show (0:Int) < 4 by decide)
 have g8:=fun i=>cj (i:=i) (show (0:Int) < 8 by decide)
 have d4:=fun i=>cy (i:=i) (show (0:Int) < 4 by decide) (show (4:Int) < 10 ^ 200 by decide)
 have d16:=fun i=>cy (i:=i) (show (0:Int) < 16 by decide) (show (16:Int) < 10 ^ 200 by decide)
 have d128:=fun i=>cy (i:=i) (show (0:Int) < 128 by decide) (show (128:Int) < 10 ^ 200 by decide)
 have d1024:=fun i=>cy (i:=i) (show (0:Int) < 1024 by decide) (show (1024:Int) < 10 ^ 200 by decide)
 have d4096:=fun i=>cy (i:=i) (show (0:Int) < 4096 by decide) (show (4096:Int) < 10 ^ 200 by decide)
 have d16384:=fun i=>cy (i:=i) (show (0:Int) < 16384 by decide) (show (16384:Int) < 10 ^ 200 by decide)
 obtain⟨b,hb,b0⟩:∃ b:Int,c1*48271%2147483647=b/\0<=b:=⟨_,rfl,OG _ (by decide)⟩
 obtain⟨dp,dp2,ed⟩:∃ dp:Nat,dp<=2/\bq (.lst [.int 0,.int 0,.int 1,.int 2]) (.int (x / 1024%4))=some (.int (dp:Int)):=by
  rcases(show x / 1024%4=0\/x / 1024%4=1\/x / 1024%4=2\/x / 1024%4=3 by omega) with z | z | z | z <;> rw [z]
  ·exact⟨0,by decide,rfl⟩
  ·exact⟨0,by decide,rfl⟩
  ·exact⟨1,by decide,rfl⟩
  ·exact⟨2,by decide,rfl⟩
 obtain⟨k,k0,ek⟩:∃ k:Int,0<=k/\bq (.lst [.int 16,.int 8,.int 23,.int 17]) (.int (x / 16384%4))=some (.int k):=by
  rcases(show x / 16384%4=0\/x / 16384%4=1\/x / 16384%4=2\/x / 16384%4=3 by omega) with z | z | z | z <;> rw [z]
  ·exact⟨16,by decide,rfl⟩
  ·exact⟨8,by decide,rfl⟩
  ·exact⟨23,by decide,rfl⟩
  ·exact⟨17,by decide,rfl⟩
 obtain⟨nm,en⟩:=zG b k b0 k0
 rw [gB]; unfold cU
 cases h3:(x / 16%8==3) with
 | true =>
  obtain⟨ks,q0,ef,l1,l2,f1,f2⟩:=qt 0 (by decide) y b 0 (7 - x / 128%3).toNat 0 y0 ‹0› b0 (by decide) ‹0› ‹0›
  rw [O1 ‹0›] at ef
  obtain⟨is,jq,eg,m1,m2,i1,i2⟩:=qt dp ‹0› (y+1) b 8 (8 - (7 - x / 128%3)).toNat (x / 4096%4).toNat ‹0› ‹0› b0 (by decide) ‹0› ‹0›
  rw [O1 ‹0›,O1 ‹0›] at eg
  refine⟨ks,is,jq,nm,dp,dp2,by omega,by omega,by omega,by omega,f1,i1,i2,?_⟩
  have ef:aL 12 [.int y,.int b,.int 0,.int (7 - x / 128%3),.int 0,.int 0]=.ok (fr ks q0):=ef
  simp! only [ex,e1,mm,gM,hb,g3,g4,g8,d4,d16,h3,d128,ey,ef,K3,d1024,ed,d4096,eg,d16384,ek,en,Hr,Dj,Jv]
 | false =>
  obtain⟨ks,q0,ef,l1,l2,f1,f2⟩:=qt 0 (by decide) y b 0 (1+x%4).toNat 0 y0 ‹0› b0 (by decide) ‹0› ‹0›
  rw [O1 ‹0›] at ef
  obtain⟨is,jq,eg,m1,m2,i1,i2⟩:=qt dp ‹0› (y+1) b 8 (1+x / 4%4).toNat (x / 4096%4).toNat ‹0› ‹0› b0 (by decide) ‹0› ‹0›
  rw [O1 ‹0›,O1 ‹0›] at eg
  refine⟨ks,is,jq,nm,dp,dp2,by omega,by omega,by omega,by omega,f1,i1,i2,?_⟩
  have ef:aL 12 [.int y,.int b,.int 0,.int (1+x%4),.int 0,.int 0]=.ok (fr ks q0):=ef
  simp! only [ex,e1,mm,gM,hb,g3,g4,g8,d4,d16,h3,d128,ey,ef,K3,d1024,ed,d4096,eg,d16384,ek,en,Hr,Dj,Jv]
theorem Eo (ks is:KL) (jq:List (Str×D)) (nm:Str) (sm:Bool) (h:ks.length+is.length<=8):bc dM 1 2 [pf ks is jq nm sm]=.ok (fr (ks++is) jq):=by
 have ad:=iI (ks.map kf) (is.map kf) (by rw [MI,MI]; omega)
 rw [<- Nz] at ad
 rw [rY]; unfold dM
 simp! only [ad,Dj]
theorem zip_get:∀ (xs:List D) (i:Nat) (d:D),(oA xs xs)[i]?=some d->∃ x∈xs,d=.tup [x,x]
 | x::xs,0,d,h=>by cases h; exact⟨x,Mu,rfl⟩
 | x::xs,i+1,d,h=>by
  obtain⟨y,h1,h2⟩:=zip_get xs i d h
  exact⟨y,Mv _ h1,h2⟩
theorem iH:∀ (n g:Nat) (d:D),n < g->AL n d->aA g [d,d]=.ok (.bl true):=by
 intro n
 induction n with
 | zero =>
  intro g d hg hd
  obtain⟨g,rfl⟩:∃ g',g=g'+1:=⟨g - 1,by omega⟩
  show bc (dU (aA g)) 2 4 [d,d]=_
  rw [gB]; unfold dU
  rcases hd with ⟨i,rfl⟩ | ⟨x,rfl⟩
  ·have t2:oz "str" (.int i)=some (.bl false):=rfl
   have t3:oz "int" (.int i)=some (.bl true):=rfl
   have t4:oz "bool" (.int i)=some (.bl false):=rfl
   simp! only [t2,t3,t4,beq_self_eq_true,Nu]
  ·have t2:oz "str" (.str x)=some (.bl true):=rfl
   simp! only [t2,beq_self_eq_true,Nu]
 | succ n ih =>
  intro g d hg hd
  obtain⟨g,rfl⟩:∃ g',g=g'+1:=⟨g - 1,by omega⟩
  show bc (dU (aA g)) 2 4 [d,d]=_
  rw [gB]; unfold dU
  rcases hd with (⟨i,rfl⟩ | ⟨x,rfl⟩) | ⟨ds,rfl,dl,hds⟩
  ·have t2:oz "str" (.int i)=some (.bl false):=rfl
   have t3:oz "int" (.int i)=some (.bl true):=rfl
   have t4:oz "bool" (.int i)=some (.bl false):=rfl
   simp! only [t2,t3,t4,beq_self_eq_true,Nu]
  ·have t2:oz "str" (.str x)=some (.bl true):=rfl
   simp! only [t2,beq_self_eq_true,Nu]
  ·have t1:oz "tuple" (.tup ds)=some (.bl true):=rfl
   have t2:oz "str" (.tup ds)=some (.bl false):=rfl
   have t3:oz "int" (.tup ds)=some (.bl false):=rfl
   have t4:oz "bool" (.tup ds)=some (.bl false):=rfl
   simp! only [t1,t2,t3,t4,beq_self_eq_true,A1]
   refine eZ (Q:=fun z=>z=.ok (.bl true)) (fun i ρ=>ρ=[some (.val (.tup ds)),some (.val (.tup ds)),none,none]) ?_ rfl ?_
   ·rintro i d ρ kk hd rfl
    obtain⟨x,hx,rfl⟩:=zip_get ds i d hd
    have ea:=ih g x ‹0› (hds x hx)
    refine⟨[some (.val (.tup ds)),some (.val (.tup ds)),some (.val x),some (.val x)],_,rfl,rfl,?_⟩
    simp! only [ea]
   ·rintro ρ' rfl
    rfl
noncomputable def kq (f:List D):List Key:=(keysOf f).getD []
theorem HR (q:List Key):kq (q.map bu)=q:=by unfold kq; rw [cq]; rfl
theorem n8 {σ:List Bool} {f:List D} (h:Sh σ f):(kq f).map bu=f:=by
 obtain⟨q,e⟩:=qF h
 rw [e,HR]
theorem su {σ:List Bool} {f f':List D} (h:Sh σ f) (h':Sh σ f') (e:kq f=kq f'):f=f':=by
 rw [<- n8 h,e,n8 h']
section
open Classical
theorem GA {σ:List Bool} (L:List (List D)) (k:List D) (v:D) (hL:∀ f∈L,Sh σ f) (hk:Sh σ k) :
  gu (L.map fun f=>(kq f,v)) (kq k) v=(if k∈L then L else L++[k]).map fun f=>(kq f,v):=by
 have e:((L.map fun f=>(kq f,v)).any fun p=>decide (p.1=kq k))=true↔k∈L:=by
  rw [OX]
  constructor
  ·rintro⟨p,hp,hq⟩
   obtain⟨f,hf,rfl⟩:=List.mem_map.mp hp
   rw [<- su (hL f hf) hk (of_decide_eq_true hq)]; exact hf
  ·intro h
   exact⟨_,List.mem_map.mpr ⟨k,h,rfl⟩,decide_eq_true rfl⟩
 unfold gu
 by_cases h:k∈L
 ·rw [if_pos (e.mpr h),if_pos h,Oh]
  refine Ny fun f _=>?_
  show (if kq f=kq k then (kq f,v) else (kq f,v))=(kq f,v)
  split <;> rfl
 ·rw [if_neg fun z=>h (e.mp z),if_neg h,Nz]; rfl
theorem Ci {σ:List Bool} (k:List D) (v:D) (hk:Sh σ k) (ψ:List D->List D):∀ L:List (List D),(∀ f∈L,Sh σ f)->L.Nodup->(∀ f∈L,(ψ f).length < 1000)->(k∉L->ψ k=[]) ->
  sU (L.map fun f=>(kq f,.lst (ψ f))) (kq k) v=some ((if k∈L then L else L++[k]).map fun f=>(kq f,.lst (ψ f++if k=f then [v] else [])))
 | [],_,_,_,h0=>by
  rw [if_neg (by simp)]
  show some [(kq k,D.lst [v])]=some [(kq k,.lst (ψ k++if k=k then [v] else []))]
  rw [h0 (by simp),if_pos rfl]; rfl
 | f::L,hL,nd,hl,h0=>by
  obtain⟨n1,n2⟩:=List.nodup_cons.mp nd
  show (if kq f=kq k then _ else _)=_
  by_cases h:f=k
  ·subst h
   rw [if_pos rfl,if_pos Mu]
   show (if small ((ψ f).length+1) then some ((kq f,D.lst (ψ f++[v]))::L.map fun f=>(kq f,.lst (ψ f))) else none)=_
   have hl0:=hl f Mu
   rw [if_pos (show small ((ψ f).length+1)=true from decide_eq_true ‹0›),MH,if_pos rfl]
   congr 2
   refine Ny fun x hx=>?_
   rw [if_neg (fun z=>n1 (by rw [z]; exact hx)),ML]
  ·rw [if_neg (fun z=>h (su (hL f Mu) hk z))]
   have ih:=Ci k v hk ψ L (fun x hx=>hL x (Mv _ hx)) n2 (fun x hx=>hl x (Mv _ hx)) (fun z=>h0 fun y=>by
    rcases List.mem_cons.mp y with y | y
    ·exact h y.symm
    ·exact z y)
   rw [show sU (List.map (fun f=>(kq f,D.lst (ψ f))) L) (kq k) v=_ from ih]
   have em:k∈f::L↔k∈L:=by
    rw [NM]; exact⟨fun z=>z.resolve_left fun y=>h y.symm,.inr⟩
   by_cases hm:k∈L
   ·rw [if_pos hm,if_pos (em.mpr hm),MH,if_neg (fun z=>h z.symm),ML]; rfl
   ·rw [if_neg hm,if_neg (fun z=>hm (em.mp z)),Nh,MH,if_neg (fun z=>h z.symm),ML]; rfl
theorem vM:∀ (ps al:List (List Key×D)),((al++ps).map (·.1)).Nodup->ps.foldl (fun al p=>gu al p.1 p.2) al=al++ps
 | [],al,_=>by rw [ML]; rfl
 | p::ps,al,h=>by
  rw [N5]
  have e:gu al p.1 p.2=al++[p]:=by
   unfold gu
   rw [if_neg]
   intro z
   obtain⟨a,ha,e⟩:=List.any_eq_true.mp z
   rw [Nz,MH] at h
   exact(List.nodup_append.mp h).2.2 a.1 (List.mem_map.mpr ⟨a,ha,rfl⟩) p.1 Mu (of_decide_eq_true e)
  rw [e,vM ps (al++[p]) (by rw [NI]; exact h),NI]; rfl
theorem sq:∀ ps:List (List Key×D),gY (ps.map kM)=some ps
 | []=>rfl
 | p::ps=>by
  show (wQ (kM p)).bind (fun q=>(gY (ps.map kM)).map (q::·))=_
  rw [sq ps]
  show ((ig (.tup (p.1.map bu))).map _).bind _=_
  rw [n0]; rfl
end
theorem FH {σ:List Bool} {a b:List D} (h:Sh σ a) (h':Sh σ b):g9 (.tup a) (.tup b)=some (.bl (gS a b)):=by
 have e:g9 (.tup a) (.tup b)=if (pl (.tup a) && pl (.tup b)) && (eL 8 (.tup a) || eL 8 (.tup b)) then some (.bl (pyEq (.tup a) (.tup b))) else none:=rfl
 have d:eL 8 (.tup a)=true:=by show a.all (eL 7)=true; exact uY 6 h
 rw [e,cM,cM,ub h,ub h',d]
 show some (D.bl (pyEq (.tup a) (.tup b)))=_
 rw [pyEq]
section
open Classical
theorem Dv {σ:List Bool} {a b:List D} (h:Sh σ a) (h':Sh σ b):g9 (.tup a) (.tup b)=some (.bl (decide (a=b))):=by
 rw [FH h h']
 congr 2
 by_cases e:a=b
 ·rw [decide_eq_true e]; exact(qR h h').mpr e
 ·rw [decide_eq_false e]
  cases z:gS a b with
  | false=>rfl
  | true=>exact absurd ((qR h h').mp z) e
noncomputable def gZ (m:Nat) (t:List (List D)) (f:List D):List D:=f++[.tup ((gp m t f).map .tup)]
noncomputable def vw (m:Nat) (t:List (List D)):D:=.tup ((fs m t).map fun f=>.tup (gZ m t f))
theorem BH (m:Nat) (t:List (List D)) (f:List D):(gp m t f).length<=t.length:=by
 unfold gp; rw [MI]; exact O2 _ _
section
variable {σ:List Bool} {t:List (List D)} {m:Nat}
theorem Tab.fsh (T:Tab σ t) (hm:m<=σ.length):∀ r∈t,Sh (σ.take m) (r.take m):=fun r h=>by
 have:=qB m (T.sh r h)
 rw [OI,Ou hm] at this
 exact this
theorem om (s:List (List D)) (h:∀ r∈s,Sh (σ.take m) (r.take m)):∀ f∈fs m s,Sh (σ.take m) f:=fun f hf=>by
 obtain⟨r,hr,rfl⟩:=(lH m).mp hf
 exact h r hr
theorem CO (T:Tab σ t) (f:List D) (h:f∈fs m t):f.length<=16:=by
 obtain⟨r,hr,rfl⟩:=(lH m).mp h
 have:=(T.rl r hr).1
 rw [MO]; omega
theorem G0 (T:Tab σ t) (hm:m<=σ.length) (f:List D) (h:f∈fs m t):f.length=m:=by
 obtain⟨r,hr,rfl⟩:=(lH m).mp h
 have:=(T.rl r hr).2
 rw [MO]; omega
theorem Tab.sub {s:List (List D)} (T:Tab σ t) (h:s.Sublist t):Tab σ s :=
 ⟨fun r hr=>T.sh r (h.subset hr),T.ri.sublist h,NF h.length_le T.ln,fun r hr=>T.rl r (h.subset hr),fun r hr=>T.al r (h.subset hr)⟩
theorem ro {i:Nat} (h:i < t.length):t.take (i+1)=t.take i++[t[i]]:=O0 h
theorem zb (L:List (List D)) (nd:L.Nodup) (h:∀ f∈L,Sh (σ.take m) f) (v:List D->D):((L.map fun f=>(kq f,v f)).map (·.1)).Nodup:=by
 rw [Oh]
 refine List.pairwise_map.mpr (List.Pairwise.imp_of_mem (fun {a b} ha hb ne e=>ne ?_) nd)
 exact su (h a ha) (h b hb) e
theorem EH (L:List (List D)) (h:∀ f∈L,Sh (σ.take m) f) (v:List D->D):encK (L.map fun f=>(kq f,v f))=L.map .tup:=by
 show (L.map fun f=>(kq f,v f)).map _=_
 rw [Oh]
 refine Ny fun f hf=>?_
 show D.tup ((kq f).map bu)=.tup f
 rw [n8 (h f hf)]
theorem tU (T:Tab σ t) (m1:1<=m) (hm:m<=σ.length) {d0:D} (hd0:pq d0=some (t.map .tup)):bc eE 2 6 [d0,.int m]=.ok (vw m t):=by
 have fsh:=T.fsh hm
 have tl:=T.ln
 obtain⟨TT,hT⟩:∃ TT:cB,TT=(hJ 2 (aK (ky (bw (fL fh (af (fL lD (af (ah 2) (au))) (au)))) (gN 5) (aK (yL 4 fD (af (f2 bY (ah 5) (cA (af (fL cm (af (fY [none,some 1,some 5] (bw (ah 0)) (gN 0) (fB (f2 g9 (bf (ah 0) (aP) (bH (ah 1))) (ah 2))) (bf (ah 0) (bH (ah 1)) (aP))) (au))) (au)))) (au))) (fJ [5] cX))) (hJ 4 (ce (fL cm (af (ah 4) (au))))))):=⟨_,rfl⟩
 rw [gB]; unfold eE
 rw [<- hT]
 simp! only [vO,hd0]
 refine eZ (Q:=fun z=>z=.ok (vw m t)) (fun i ρ=>∃ x,ρ=[some (.val d0),some (.val (.int m)),some (.own (cJ ((fs m (t.take i)).map fun f=>(kq f,.bl true)))),x,none,none]) ?_ ⟨none,rfl⟩ ?_
 ·rintro i d ρ kk hd ⟨x,rfl⟩
  have hi:=cS hd
  rw [MI] at hi
  rw [MS,Nr hi] at hd
  cases hd
  have rm:t[i]∈t:=Oe hi
  have ct:cutD t[i] none (some (m:Int))=(kq (t[i].take m)).map bu:=by rw [gX,n8 (fsh _ rm)]
  refine⟨_,_,rfl,⟨some (.val (.tup t[i])),rfl⟩,?_⟩
  have pi:=GA (σ:=σ.take m) (fs m (t.take i)) (t[i].take m) (.bl true) (om _ fun r hr=>fsh r (O3 hr)) (fsh _ rm)
  have fe:fs m (t.take (i+1))=if t[i].take m∈fs m (t.take i) then fs m (t.take i) else fs m (t.take i)++[t[i].take m]:=by
   rw [ro hi,kc]; rfl
  have fl:=nO m (t.take i)
  rw [MO] at fl
  have pd:=fun K:Ks=>yU (i:=2) (fk:=bf (ah 3) (aP) (bH (ah 1))) (fv:=fC (.bl true)) (k:=K) (ρ:=[some (.val d0),some (.val (.int m)),some (.own (cJ ((fs m (t.take i)).map fun f=>(kq f,.bl true)))),some (.val (.tup t[i])),none,none]) (al:=(fs m (t.take i)).map fun f=>(kq f,.bl true)) (q:=kq (t[i].take m)) (v:=.bl true) rfl (by simp! only [ct]) rfl (by rw [MI]; omega)
  rw [pi,<- fe] at pd
  generalize cJ ((fs m (t.take (i+1))).map fun f=>(kq f,.bl true))=Y at pd ⊢
  generalize cJ ((fs m (t.take i)).map fun f=>(kq f,.bl true))=Z at pd ⊢
  simp! only [pd]
 ·rintro ρ' ⟨x,rfl⟩
  rw [MI,NB]
  have fl:=nO m t
  have fsL:=om t fsh
  have en:=EH (m:=m) (σ:=σ) (fs m t) fsL (fun _=>.bl true)
  have knd:=zb (m:=m) (σ:=σ) (fs m t) (uR m t) fsL (fun _=>.bl true)
  have s0:σ.take m≠[]:=fun z=>by
   have:=congrArg List.length z
   rw [MO,M6] at this; omega
  obtain⟨es,_⟩:=y4 (σ:=σ.take m) knd (fun p hp=>by
   obtain⟨f,hf,rfl⟩:=List.mem_map.mp hp
   show Sh _ ((kq f).map bu)
   rw [n8 (fsL f hf)]; exact fsL f hf) s0 (by rw [MI]; omega)
  have lt:=wj ((fs m t).map fun f=>(kq f,.bl true))
  rw [en] at es lt
  have so:hV dQ ((fs m t).map .tup)=(fs m t).map .tup:=by
   refine lN (σ:=σ.take m) (fun x hx=>?_) ?_ ?_ (List.Perm.refl _)
   ·obtain⟨f,hf,rfl⟩:=List.mem_map.mp hx
    exact fsL f hf
   ·exact List.pairwise_map.mpr ((uR m t).imp fun {a b} ne e=>ne e)
   ·exact List.pairwise_map.mpr (xI m rfl T.sh hm T.ri).1
  rw [so] at es
  rw [hT]
  generalize cJ ((fs m t).map fun f=>(kq f,.bl true))=Z at lt ⊢
  simp! only [Hq,lt,es]
  refine eZ (Q:=fun z=>z=.ok (vw m t)) (fun i ρ=>ρ=[some (.val d0),some (.val (.int m)),some (.val Z),x,some (.own (.lst (((fs m t).take i).map fun f=>.tup (gZ m t f)))),none]) ?_ rfl ?_
  ·rintro i d ρ kk hd rfl
   have hi:=cS hd
   rw [MI] at hi
   rw [MS,Nr hi] at hd
   cases hd
   obtain⟨f,ef⟩:∃ f,f=(fs m t)[i]:=⟨_,rfl⟩
   have fm:f∈fs m t:=by rw [ef]; exact Oe hi
   have ap:fD (((fs m t).take i).map fun f=>.tup (gZ m t f)) [.tup (gZ m t f)]=some (((fs m t).take (i+1)).map fun f=>.tup (gZ m t f)):=by
    rw [ko (by rw [MI,MO]; omega),O0 hi,<- ef,Nz]; rfl
   rw [<- ef]
   have lc:fY [none,some 1,some 5] (bw (ah 0)) (gN 0) (fB (f2 g9 (bf (ah 0) (aP) (bH (ah 1))) (ah 2))) (bf (ah 0) (bH (ah 1)) (aP)) [some (.val d0),some (.val (.int m)),some (.val Z),x,some (.own (.lst (((fs m t).take i).map fun f=>.tup (gZ m t f)))),some (.val (.tup f))]=.ok (.lst ((gp m t f).map .tup)):=by
    refine dF (ds:=t.map .tup) (by generalize (((fs m t).take i).map fun f=>D.tup (gZ m t f))=A; simp! only [hd0]) (by rw [MI]; omega) ?_
    have:=j9 (ρ:=inB [none,some 1,some 5] [some (.val d0),some (.val (.int m)),some (.val Z),x,some (.own (.lst (((fs m t).take i).map fun f=>.tup (gZ m t f)))),some (.val (.tup f))]) (g:=gN 0) (C:=fB (f2 g9 (bf (ah 0) (aP) (bH (ah 1))) (ah 2))) (Fe:=bf (ah 0) (bH (ah 1)) (aP)) D.tup (fun r=>decide (r.take m=f)) (fun r=>.tup (r.drop m)) t fun r hr=>by
     have eq:=Dv (fsh r hr) (fsL f fm)
     refine⟨[some (.val (.tup r)),some (.val (.int m)),some (.val (.tup f))],rfl,?_,fun _=>?_⟩
     ·simp! only [gX,eq]
     ·simp! only [sC]
    rw [this]
    unfold gp
    rw [Oh]; rfl
   have ad:bY (.tup f) (.tup [.tup ((gp m t f).map .tup)])=some (.tup (gZ m t f)):=by
    have:=CO T f fm
    exact iI f _ (by rw [M1]; omega)
   have sm:=fun K:Ks=>kE 4 fD (af (f2 bY (ah 5) (cA (af (fL cm (af (fY [none,some 1,some 5] (bw (ah 0)) (gN 0) (fB (f2 g9 (bf (ah 0) (aP) (bH (ah 1))) (ah 2))) (bf (ah 0) (bH (ah 1)) (aP))) (au))) (au)))) (au)) K [some (.val d0),some (.val (.int m)),some (.val Z),x,some (.own (.lst (((fs m t).take i).map fun f=>.tup (gZ m t f)))),some (.val (.tup f))] (xs:=((fs m t).take i).map fun f=>.tup (gZ m t f)) rfl
   refine⟨_,_,rfl,rfl,?_⟩
   generalize (((fs m t).take (i+1)).map fun f=>D.tup (gZ m t f))=Y at ap ⊢
   generalize (((fs m t).take i).map fun f=>D.tup (gZ m t f))=A at ap sm lc ⊢
   simp! only [sm,lc,Hr,ad,ap]
  ·rintro ρ' rfl
   rw [MI,NB]
   unfold vw
   generalize ((fs m t).map fun f=>D.tup (gZ m t f))=A
   simp! only []
theorem yO (T:Tab σ t) (hm:m<=σ.length):bc iy 2 4 [.int m,.tup (t.map .tup)]=.ok (nI ((fs m t).map fun f=>(kq f,.tup ((gp m t f).map .tup)))):=by
 have fsh:=T.fsh hm
 have fl:=nO m t
 have tl:=T.ln
 have fsL:=om t fsh
 obtain⟨TT,hT⟩:∃ TT:cB,TT=(ue 2 (ce (fL sE (af (fY [none,none] (kK (ah 2)) (gT 2 (oH [0,1])) (dE) (cA (af (ah 0) (af (fL cm (af (ah 1) (au))) (au))))) (au))))):=⟨_,rfl⟩
 rw [gB]; unfold iy
 rw [<- hT]
 have nn:∀ K:Ks,ww 2 K [some (.val (.int m)),some (.val (.tup (t.map .tup))),none,none]=K.nx [some (.val (.int m)),some (.val (.tup (t.map .tup))),some (.nest (cJ [])),none]:=fun K=>rfl
 simp! only [nn]
 refine eZ (Q:=fun z=>z=.ok (nI ((fs m t).map fun f=>(kq f,.tup ((gp m t f).map .tup))))) (fun i ρ=>ρ=[some (.val (.int m)),some (.val (.tup (t.map .tup))),some (.nest (cJ ((fs m (t.take i)).map fun f=>(kq f,.lst ((gp m (t.take i) f).map .tup))))),none]) ?_ rfl ?_
 ·rintro i d ρ kk hd rfl
  have hi:=cS hd
  rw [MI] at hi
  rw [MS,Nr hi] at hd
  cases hd
  have rm:t[i]∈t:=Oe hi
  have fi:=nO m (t.take i)
  rw [MO] at fi
  have gi:=Ci (σ:=σ.take m) (t[i].take m) (.tup (t[i].drop m)) (fsh _ rm) (fun f=>(gp m (t.take i) f).map .tup) (fs m (t.take i)) (om _ fun r hr=>fsh r (O3 hr)) (uR m _) (fun f _=>by
   have:=BH m (t.take i) f
   rw [MO] at this
   rw [MI]; omega) (fun z=>by
    unfold gp
    rw [List.filter_eq_nil_iff.mpr]
    ·rfl
    ·intro x hx y
     exact z ((lH m).mpr ⟨x,hx,by simpa using y⟩))
  have ge:∀ f,((gp m (t.take i) f).map D.tup++if t[i].take m=f then [.tup (t[i].drop m)] else [])=(gp m (t.take (i+1)) f).map .tup:=fun f=>by
   rw [ro hi,qA,Nz]
   by_cases h:t[i].take m=f
   ·rw [if_pos h,if_pos h]; rfl
   ·rw [if_neg h,if_neg h]; rfl
  have fe:fs m (t.take (i+1))=if t[i].take m∈fs m (t.take i) then fs m (t.take i) else fs m (t.take i)++[t[i].take m]:=by
   rw [ro hi,kc]; rfl
  rw [<- fe] at gi
  simp only [ge] at gi
  refine⟨_,_,rfl,rfl,?_⟩
  have gr:∀ K:Ks,AX 2 (bf (ah 3) (aP) (bH (ah 0))) (bf (ah 3) (bH (ah 0)) (aP)) K [some (.val (.int m)),some (.val (.tup (t.map .tup))),some (.nest (cJ ((fs m (t.take i)).map fun f=>(kq f,.lst ((gp m (t.take i) f).map .tup))))),some (.val (.tup t[i]))]=K.nx [some (.val (.int m)),some (.val (.tup (t.map .tup))),some (.nest (cJ ((fs m (t.take (i+1))).map fun f=>(kq f,.lst ((gp m (t.take (i+1)) f).map .tup))))),some (.val (.tup t[i]))]:=fun K=>by
   generalize hal:((fs m (t.take i)).map fun f=>(kq f,D.lst ((gp m (t.take i) f).map .tup)))=al at gi
   have all:al.length<=t.length:=by rw [<- hal,MI]; omega
   have g2:wK (encK al) (al.map (·.2)) (.tup (t[i].take m)) (.tup (t[i].drop m))=some ((fs m (t.take (i+1))).map fun f=>(kq f,.lst ((gp m (t.take (i+1)) f).map .tup))):=by
    unfold wK
    rw [iQ]
    show (ig (.tup (t[i].take m))).bind _=_
    have:t[i].take m=(kq (t[i].take m)).map bu:=(n8 (fsh _ rm)).symm
    rw [this,n0]
    show (if small al.length then _ else _)=_
    rw [if_pos (dH ‹0›)]
    exact gi
   have k1:bf (ah 3) (aP) (bH (ah 0)) [some (.val (.int m)),some (.val (.tup (t.map .tup))),some (.nest (cJ al)),some (.val (.tup t[i]))]=.ok (.tup (t[i].take m)):=by
    generalize cJ al=Z
    simp! only [gX]
   have k2:bf (ah 3) (bH (ah 0)) (aP) [some (.val (.int m)),some (.val (.tup (t.map .tup))),some (.nest (cJ al)),some (.val (.tup t[i]))]=.ok (.tup (t[i].drop m)):=by
    generalize cJ al=Z
    simp! only [sC]
   show (((AI _).bind fun q=>(AI _).bind fun v=>rO (wK (encK al) (al.map (·.2)) q v)).bind _)=_
   rw [k1,k2,fZ,cR,fZ,cR,g2,eX,cR]; rfl
  generalize cJ ((fs m (t.take (i+1))).map fun f=>(kq f,.lst ((gp m (t.take (i+1)) f).map .tup)))=Y at gr ⊢
  generalize cJ ((fs m (t.take i)).map fun f=>(kq f,.lst ((gp m (t.take i) f).map .tup)))=Z at gr ⊢
  simp! only [gr]
 ·rintro ρ' rfl
  rw [MI,NB,hT]
  generalize hal:((fs m t).map fun f=>(kq f,D.lst ((gp m t f).map .tup)))=al
  have all:al.length<=t.length:=by rw [<- hal,MI]; omega
  have fz:∀ (F:cB) (K:Ks),ue 2 F K [some (.val (.int m)),some (.val (.tup (t.map .tup))),some (.nest (cJ al)),none]=F K [some (.val (.int m)),some (.val (.tup (t.map .tup))),some (.val (nI al)),none]:=fun F K=>by
   show F K (match jL (encK al) (al.map (·.2)) with | some al=>setV 2 (nI al) _ | none=>_)=_
   rw [iQ]; rfl
  have knd:=zb (m:=m) (σ:=σ) (fs m t) (uR m t) fsL (fun f=>.tup ((gp m t f).map .tup))
  have pr:=sq ((fs m t).map fun f=>(kq f,D.tup ((gp m t f).map .tup)))
  have df:sE [.lst (((fs m t).map fun f=>(kq f,D.tup ((gp m t f).map .tup))).map kM)]=some (nI ((fs m t).map fun f=>(kq f,.tup ((gp m t f).map .tup)))):=by
   show (gY _).bind _=_
   rw [pr]
   show (if small _ then _ else _)=_
   rw [if_pos (dH (by rw [MI]; omega))]
   have:=vM ((fs m t).map fun f=>(kq f,D.tup ((gp m t f).map .tup))) [] knd
   unfold uN
   rw [this]; rfl
  have it:=xC al
  have lc:fY [none,none] (kK (ah 2)) (gT 2 (oH [0,1])) (dE) (cA (af (ah 0) (af (fL cm (af (ah 1) (au))) (au)))) [some (.val (.int m)),some (.val (.tup (t.map .tup))),some (.val (nI al)),none]=.ok (.lst (((fs m t).map fun f=>(kq f,D.tup ((gp m t f).map .tup))).map kM)):=by
   refine dF (ds:=al.map kM) ?_ (by rw [MI]; omega) ?_
   ·show ((ah 2 _).bind _)=_
    generalize nI al=Z at it
    simp! only [it]
   ·rw [<- hal,Oh,Oh]
    refine mI _ _ (fs m t) fun f hf=>?_
    refine⟨[some (.val (.tup ((kq f).map bu))),some (.val (.lst ((gp m t f).map .tup)))],rfl,rfl,?_⟩
    simp! only [Dj]
    rfl
  generalize nI al=Z at lc fz
  generalize cJ al=Z0 at fz ⊢
  generalize nI ((fs m t).map fun f=>(kq f,D.tup ((gp m t f).map .tup)))=Y at df ⊢
  simp! only [fz,lc,df]
theorem Tab.ALt (T:Tab σ t):AL 6 (.tup (t.map .tup)):=by
 have:=T.ln
 refine AL.tup (by rw [MI]; omega) fun v hv=>?_
 obtain⟨r,hr,rfl⟩:=List.mem_map.mp hv
 have:=(T.rl r hr).1
 exact AL.tup ‹0› (T.al r hr)
theorem uf {ρ:aq} {C:aq->R Bool} (t:List (List D)) (o:Nat) (hC:∀ (i:Nat) (r:List D),∃ ρ1 b,gT 2 (oH [0,1]) (.tup [.int i,.tup r]) ρ=some ρ1/\C ρ1=.ok b/\ah 1 ρ1=.ok (.tup r)):∃ s:List (List D),s.Sublist t/\xH ρ (gT 2 (oH [0,1])) C (ah 1) (iZ o (t.map .tup))=.ok (s.map .tup):=by
 induction t generalizing o with
 | nil=>exact⟨[],List.Sublist.refl _,rfl⟩
 | cons r t ih =>
  obtain⟨s,h1,h2⟩:=ih (o+1)
  obtain⟨ρ1,b,e1,e2,e3⟩:=hC o r
  show ∃ s,_/\xH ρ _ C (ah 1) (D.tup [.int o,.tup r]::iZ (o+1) (t.map .tup))=_
  rw [jT,e1,eX,cR,e2,fZ,cR,h2]
  cases b with
  | false=>exact⟨s,h1.cons _,rfl⟩
  | true =>
   refine⟨r::s,h1.cons₂ _,?_⟩
   rw [if_pos rfl,e3,fZ,cR,cR]; rfl
end
end
section
open Classical
variable {σ τ:List Bool} {t:List (List D)} {m:Nat}
theorem nD {T:List (List D)} (hs:∀ r∈T,Sh τ (r.take m)) (h:xP m T):T.Pairwise fun a b=>a.take m≠b.take m :=
 List.Pairwise.imp_of_mem (fun {a b} ha hb e z=>by rw [z,jU (hs b hb)] at e; cases e) h
structure So (τ:List Bool) (m:Nat) (L:List (List D)):Prop where
 t0:τ≠[]
 hm:m=τ.length
 sh:∀ r∈L,Sh τ (r.take m)
 pw:L.Pairwise fun a b=>a.take m≠b.take m
 ln:L.length < 64
theorem So.nd {L:List (List D)} (h:So τ m L):L.Nodup:=h.pw.imp fun {a b} ne e=>ne (by rw [e])
theorem So.srt {L:List (List D)} (h:So τ m L):∃ T:List (List D),xP m T/\T.Perm L :=
 ⟨hV (fun r=>r.take m) L,mD (key:=fun r:List D=>r.take m) (σ:=τ) h.sh h.pw,fG _ _⟩
theorem rk {A B:List (List D)} (hA:∀ r∈A,Sh τ (r.take m)) (a:xP m A) (b:xP m B) (p:B.Perm A):A=B:=by
 have h1:=lN (key:=fun r:List D=>r.take m) (σ:=τ) hA (nD hA a) a (List.Perm.refl _)
 have h2:=lN (key:=fun r:List D=>r.take m) (σ:=τ) hA (nD hA a) b p
 exact h1.symm.trans h2
theorem So.law {L T:List (List D)} (h:So τ m L) (r:xP m T) (p:T.Perm L):bc aN 2 4 [.int m,.lst (L.map .tup)]=.ok (.tup (T.map .tup)):=by
 obtain⟨t,et,ri,t1,t2,t3⟩:=pD h.t0 h.hm L h.sh h.ln
 have tsh:∀ r∈t,Sh τ (r.take m):=fun r hr=>h.sh r (t1 r hr)
 have inj:∀ a∈L,∀ b∈L,a.take m=b.take m->a=b:=fun a ha b hb e=>by
  by_cases z:a=b
  ·exact z
  ·have:=h.pw
   rw [List.pairwise_iff_forall_sublist] at this
   obtain⟨i,hi,rfl⟩:=Nw ha
   obtain⟨j,hj,rfl⟩:=Nw hb
   rcases N9 i j with q | q | q
   ·exact absurd e (List.pairwise_iff_getElem.mp h.pw i j hi hj q)
   ·subst q; rfl
   ·exact absurd e.symm (List.pairwise_iff_getElem.mp h.pw j i hj hi q)
 have pe:t.Perm L:=(List.perm_ext_iff_of_nodup ((nD tsh ri).imp fun {a b} ne e=>ne (by rw [e])) h.nd).mpr fun a=>⟨t1 a,fun ha=>by
  obtain⟨b,hb,e⟩:=t3 a ha
  rw [<- inj b (t1 b hb) a ha e]; exact hb⟩
 rw [et,rk tsh ri r (p.trans pe.symm)]
theorem So.prog {L T:List (List D)} (h:So τ m L) (r:xP m T) (p:T.Perm L):bc gV 2 2 [.int m,.lst (L.map .tup)]=.ok (.tup (T.map .tup)):=by
 have k:IY m (L.map .tup):=⟨by rw [MI]; exact h.ln,τ,h.t0,fun x hx=>by
  obtain⟨r,hr,rfl⟩:=List.mem_map.mp hx
  exact⟨r,rfl,h.sh r hr⟩,List.pairwise_map.mpr h.pw⟩
 have so:hV (sW m) (L.map .tup)=T.map .tup:=by
  refine lN (σ:=τ) (fun x hx=>?_) ?_ ?_ (p.map _)
  ·obtain⟨r,hr,rfl⟩:=List.mem_map.mp hx
   exact h.sh r hr
  ·exact List.pairwise_map.mpr h.pw
  ·exact List.pairwise_map.mpr r
 have e:pc (.lst (L.map .tup)) (.int m)=some (.lst (T.map .tup)):=by
  show (if (0:Int)<=(m:Int) then qM ((m:Int)).toNat (L.map .tup) else none)=_
  rw [if_pos ‹0›,MX]
  unfold qM
  rw [if_pos k,so]
 rw [gB]
 unfold gV
 simp! only [e]
abbrev kQ (k:List D):List D:=k++[.tup []]
noncomputable def Nn (m:Nat) (s:List (List D)):List (List D):=(fs m s).map (gZ m s)
theorem HH (m:Nat) (s:List (List D)):vw m s=.tup ((Nn m s).map .tup):=by unfold vw Nn; rw [Oh]; rfl
noncomputable def isE (m:Nat) (r:List D):Bool:=decide (r[m]?=some (.tup []))
theorem BO {k:List D} (h:Sh τ k) (hm:m=τ.length):isE m (kQ k)=true:=by
 have:=h.length
 exact decide_eq_true (by rw [show m=k.length by omega,MP (MA _),N0]; rfl)
theorem jo {k:List D} (h:Sh τ k) (hm:m=τ.length):(kQ k).take m=k:=by
 have:=h.length
 rw [show m=k.length by omega,Oz]
theorem u9 {f:List D} (h:f.length=m) (s:List (List D)):(gZ m s f)[m]?=some (.tup ((gp m s f).map .tup)):=by
 unfold gZ
 rw [MP ‹0›,show m - f.length=0 by omega]; rfl
theorem mO {f:List D} (h:f.length=m) (s:List (List D)):(gZ m s f).take m=f:=by
 unfold gZ
 rw [<- h,Oz]
noncomputable def un (m:Nat) (r:List D):List (List D):=match r[m]? with
 | some (.tup w)=>w.map fun d=>r.take m++dQ d
 | _=>[]
structure NT (τ:List Bool) (m c:Nat) (s T:List (List D)):Prop where
 ri:xP m T
 row:∀ r∈T,r∈Nn m s\/∃ k,Sh τ k/\r=kQ k
 fl:T.filter (fun r=>!isE m r)=Nn m s
 el:(T.filter (isE m)).length<=c
section
variable {s:List (List D)} {c:Nat}
theorem C3 (T:Tab σ s) (hm:m<=σ.length) {r:List D} (h:r∈Nn m s):∃ f∈fs m s,f.length=m/\Sh (σ.take m) f/\r=gZ m s f/\gp m s f≠[]:=by
 obtain⟨f,hf,rfl⟩:=List.mem_map.mp h
 refine⟨f,hf,G0 T hm f hf,om s (T.fsh hm) f hf,rfl,fun z=>?_⟩
 obtain⟨r,hr,e⟩:=(lH m).mp hf
 unfold gp at z
 have:=List.map_eq_nil_iff.mp z
 exact List.filter_eq_nil_iff.mp this r hr (decide_eq_true e)
theorem xo (T:Tab σ s) (hm:m<=σ.length) {r:List D} (h:r∈Nn m s):isE m r=false:=by
 obtain⟨f,hf,fl,_,rfl,g0⟩:=C3 T hm h
 refine decide_eq_false fun z=>?_
 rw [u9 fl] at z
 injection z with z
 injection z with z
 exact g0 (List.map_eq_nil_iff.mp z)
theorem xL (T:Tab σ s) (hm:m<=σ.length) {r:List D} (h:r∈Nn m s):Sh (σ.take m) (r.take m):=by
 obtain⟨f,hf,fl,sh,rfl,g0⟩:=C3 T hm h
 rw [mO fl]; exact sh
theorem lw (T:Tab σ s) (hm:m<=σ.length):(Nn m s).map (fun r=>r.take m)=fs m s:=by
 unfold Nn
 rw [Oh]
 conv=>rhs; rw [<- OZ (fs m s)]
 exact Ny fun f hf=>mO (G0 T hm f hf) s
theorem Au (T:Tab σ s) (hm:m<=σ.length):xP m (Nn m s):=by
 have h:=(xI m rfl T.sh hm T.ri).1
 rw [<- lw T hm] at h
 exact List.pairwise_map.mp h
theorem tW (T:Tab σ s):(Nn m s).length<=50:=by
 have:=nO m s
 have:=T.ln
 unfold Nn; rw [MI]; omega
theorem NT.new (T:Tab σ s) (hm:m<=σ.length):NT (σ.take m) m 0 s (Nn m s) :=
 ⟨Au T hm,fun r h=>.inl h,List.filter_eq_self.mpr fun r h=>by rw [xo T hm h]; rfl,by
  rw [List.filter_eq_nil_iff.mpr fun r h=>by rw [xo T hm h]; simp]; exact MK _⟩
variable {TT:List (List D)}
theorem NT.sh (N:NT (σ.take m) m c s TT) (T:Tab σ s) (hm:m<=σ.length):∀ r∈TT,Sh (σ.take m) (r.take m):=fun r h=>by
 rcases N.row r h with z | ⟨k,sk,rfl⟩
 ·exact xL T hm z
 ·rw [jo sk (by rw [MO]; omega)]; exact sk
theorem NT.len (N:NT (σ.take m) m c s TT) (T:Tab σ s):TT.length<=50+c:=by
 have p:=(O5 (isE m) TT).length_eq
 rw [MV,N.fl] at p
 have:=N.el
 have:=tW (m:=m) T
 omega
theorem NT.so (N:NT (σ.take m) m c s TT) (T:Tab σ s) (m1:1<=m) (hm:m<=σ.length) (hc:c<=7):So (σ.take m) m TT :=
 ⟨fun z=>by have:=congrArg List.length z; rw [MO,M6] at this; omega,by rw [MO]; omega,N.sh T hm,nD (N.sh T hm) N.ri,by have:=N.len T; omega⟩
theorem NT.add (N:NT (σ.take m) m c s TT) (T:Tab σ s) (m1:1<=m) (hm:m<=σ.length) (es:List (List D)) (he:∀ k∈es,Sh (σ.take m) k) (nd:es.Nodup) (hn:∀ k∈es,∀ r∈TT,r.take m≠k) (hc:c+es.length<=7):∃ T',NT (σ.take m) m (c+es.length) s T'/\bc aN 2 4 [.int m,.lst ((TT++es.map kQ).map .tup)]=.ok (.tup (T'.map .tup)):=by
 have ml:m=(σ.take m).length:=by rw [MO]; omega
 have so:=N.so T m1 hm ‹0›
 have sh':∀ r∈TT++es.map kQ,Sh (σ.take m) (r.take m):=fun r h=>by
  rcases List.mem_append.mp h with z | z
  ·exact so.sh r z
  ·obtain⟨k,hk,rfl⟩:=List.mem_map.mp z
   rw [jo (he k hk) ml]; exact he k hk
 have S:So (σ.take m) m (TT++es.map kQ):=⟨so.t0,ml,sh',List.pairwise_append.mpr ⟨so.pw,List.pairwise_map.mpr (List.Pairwise.imp_of_mem (fun {a b} ha hb ne=>by rw [jo (he a ha) ml,jo (he b hb) ml]; exact ne) nd),fun a ha b hb=>by
  obtain⟨k,hk,rfl⟩:=List.mem_map.mp hb
  rw [jo (he k hk) ml]; exact hn k hk a ha⟩,by rw [MV,MI]; have:=N.len T; omega⟩
 obtain⟨T',r,p⟩:=S.srt
 have emE:∀ x∈es.map kQ,isE m x=true:=fun x hx=>by
  obtain⟨k,hk,rfl⟩:=List.mem_map.mp hx
  exact BO (he k hk) ml
 refine⟨T',⟨r,fun x hx=>?_,?_,?_⟩,S.law r p⟩
 ·rcases List.mem_append.mp (p.mem_iff.mp hx) with z | z
  ·exact N.row x z
  ·obtain⟨k,hk,rfl⟩:=List.mem_map.mp z
   exact .inr ⟨k,he k hk,rfl⟩
 ·have q:=p.filter (fun r=>!isE m r)
  have e0:(es.map kQ).filter (fun r=>!isE m r)=[]:=List.filter_eq_nil_iff.mpr fun x hx=>by rw [emE x hx]; simp
  rw [OQ,N.fl,e0,ML] at q
  exact(rk (fun r h=>xL T hm h) (Au T hm) (r.filter _) q).symm
 ·have q:=(p.filter (isE m)).length_eq
  rw [OQ,MV] at q
  have:=N.el
  have:=O2 (isE m) (es.map kQ)
  rw [MI] at this
  omega
theorem Et (N:NT (σ.take m) m c s TT) (T:Tab σ s) (hm:m<=σ.length):TT.flatMap (un m)=s:=by
 have ml:m=(σ.take m).length:=by rw [MO]; omega
 have h1:∀ L:List (List D),(∀ r∈L,r∈TT)->L.flatMap (un m)=(L.filter fun r=>!isE m r).flatMap (un m):=fun L=>by
  induction L with
  | nil=>intro _; rfl
  | cons r L ih =>
   intro hL
   have i:=ih fun x hx=>hL x (Mv _ hx)
   rw [OS,i]
   cases e:isE m r with
   | false=>rw [Oc (by rw [e]; rfl),OS]
   | true =>
    rw [Od (by rw [e]; simp)]
    have:un m r=[]:=by
     unfold un
     rw [of_decide_eq_true e]; rfl
    rw [this]; rfl
 rw [h1 TT fun _ h=>h,N.fl]
 have fi:=EQ m rfl T.sh hm T.ri
 unfold flat at fi
 conv=>rhs; rw [<- fi]
 unfold Nn
 rw [List.flatMap_map]
 have:∀ L:List (List D),(∀ f∈L,f∈fs m s)->(L.flatMap fun f=>un m (gZ m s f))=L.flatMap fun f=>(gp m s f).map (f++·):=fun L=>by
  induction L with
  | nil=>intro _; rfl
  | cons f L ih =>
   intro hL
   rw [OS,OS,ih fun x hx=>hL x (Mv _ hx)]
   congr 1
   have fl:=G0 T hm f (hL f Mu)
   unfold un
   rw [u9 fl,mO fl]
   show ((gp m s f).map D.tup).map _=_
   rw [Oh]; rfl
 exact this _ fun _ h=>h
end
end
theorem CF (x:Int) (h0:0<=x) (h1:x < 2147490000):∃ y:Int,0<=y/\y < 2147483647/\bc aG 1 1 [.int x]=.ok (.int y):=by
 have m1:=kA (i:=x) (j:=x) ‹0› ‹0›
 have m2:=kA (i:=48271) (j:=x) (by decide) (by decide)
 have g:=fun i=>cj (i:=i) (show (0:Int) < 2147483647 by decide)
 refine⟨(x*x+48271*x+11)%2147483647,OG _ (by decide),OH _ (by decide),?_⟩
 rw [rY]; unfold aG
 simp! only [m1,m2,g]
theorem G3 (xs:List D):jS [.lst xs]=some (.lst xs):=nr rfl
theorem yg (xs:List D):jS [.tup xs]=some (.lst xs):=nr rfl
theorem IT {r:List D} {m:Nat} {d:D} (h:r[m]?=some d):bq (.tup r) (.int m)=some d:=by
 have hl:=cS h
 rw [GN,uX (MC _) ‹0›]
 rw [Nr hl] at h
 exact h
theorem Ez {r:List D} {m:Nat} {d:D} (hl:r.length=m+1) (h:r[m]?=some d):bq (.tup r) (.int (-1))=some d:=by
 rw [GN]
 have e:r=r.take m++[r[m]]:=by
  conv=>lhs; rw [<- OW m r]
  congr 1
  rw [NE ‹0›,Oy ‹0›]
 rw [Nr ‹0›] at h
 rw [e,CM]
 exact h
section
open Classical
variable {σ τ:List Bool} {s v TT:List (List D)} {m c:Nat}
theorem CH {w:List D} (h:nU w=true):g9 (.tup w) (.tup [])=some (.bl (decide (w=[]))):=by
 have e:g9 (.tup w) (.tup [])=if (pl (.tup w) && pl (.tup [])) && (eL 8 (.tup w) || eL 8 (.tup [])) then some (.bl (pyEq (.tup w) (.tup []))) else none:=rfl
 have d:eL 8 (.tup [])=true:=rfl
 have p:pl (.tup ([]:List D))=true:=rfl
 rw [e,cM,h,d,p,Bool.or_true,Nu,Nu,if_pos rfl]
 cases w with
 | nil=>rw [decide_eq_true rfl,pyEq]; rfl
 | cons a w=>rw [decide_eq_false (by simp),pyEq]; rfl
theorem sj {k:List D} {ks:List (List D)} (hk:Sh τ k) (hs:∀ x∈ks,Sh τ x):jh (.tup k) (.lst (ks.map .tup))=some (.bl (decide (k∉ks))):=by
 have e:jh (.tup k) (.lst (ks.map .tup))=if (pl (.tup k) && nU (ks.map .tup)) && eL 8 (.tup k) then some (.bl (!inD (.tup k) (ks.map .tup))) else none:=rfl
 have d:eL 8 (.tup k)=true:=by show k.all (eL 7)=true; exact uY 6 hk
 have p:nU (ks.map .tup)=true:=nT fun x hx=>by
  obtain⟨r,hr,rfl⟩:=List.mem_map.mp hx
  rw [cM]; exact ub (hs r hr)
 rw [e,cM,ub hk,d,p,Nu,Nu,if_pos rfl]
 congr 2
 have q:inD (.tup k) (ks.map .tup)=true↔k∈ks:=by
  unfold inD
  rw [OX]
  constructor
  ·rintro⟨x,hx,ex⟩
   obtain⟨r,hr,rfl⟩:=List.mem_map.mp hx
   rw [pyEq] at ex
   rw [<- (qR (hs r hr) hk).mp ex]; exact hr
  ·intro h
   exact⟨.tup k,List.mem_map.mpr ⟨k,h,rfl⟩,lY _⟩
 by_cases h:k∈ks
 ·rw [q.mpr h,decide_eq_false (fun z=>z h)]; rfl
 ·rw [decide_eq_true h]
  cases z:inD (.tup k) (ks.map .tup) with
  | false=>rfl
  | true=>exact absurd (q.mp z) h
theorem NT.w (N:NT (σ.take m) m c s TT) (T:Tab σ s) (hm:m<=σ.length):∀ r∈TT,r.length=m+1/\r.take m++r.drop m=r/\(r.take m).length=m/\∃ ws:List (List D),r[m]?=some (.tup (ws.map .tup))/\un m r=ws.map (r.take m++·)/\ws.length<=50/\(∀ w∈ws,w.length<=16)/\(∀ w∈ws,∀ x∈w,AL 4 x)/\isE m r=decide (ws.map D.tup=[]):=fun r hr=>by
 have ml:m=(σ.take m).length:=by rw [MO]; omega
 have key:∀ ws:List (List D),r[m]?=some (.tup (ws.map .tup))->un m r=ws.map (r.take m++·)/\isE m r=decide (ws.map D.tup=[]):=fun ws h=>by
  constructor
  ·unfold un
   rw [h]
   show (ws.map D.tup).map _=_
   rw [Oh]; rfl
  ·unfold isE
   rw [h]
   by_cases z:ws.map D.tup=[]
   ·rw [z,decide_eq_true rfl,decide_eq_true rfl]
   ·rw [decide_eq_false z,decide_eq_false fun y=>z (by injection y with y; injection y)]
 rcases N.row r hr with z | ⟨k,sk,rfl⟩
 ·obtain⟨f,hf,fl,fsh,rfl,g0⟩:=C3 T hm z
  have f16:=CO T f hf
  have at_:=u9 fl s
  obtain⟨k1,k2⟩:=key _ at_
  refine⟨by unfold gZ; rw [MV,M1,fl],OW _ _,by rw [mO fl,fl],gp m s f,at_,k1,?_,fun w hw=>?_,fun w hw=>?_,k2⟩
  ·have:=BH m s f
   have:=T.ln
   omega
  ·unfold gp at hw
   obtain⟨r,hr,rfl⟩:=List.mem_map.mp hw
   have:=(T.rl r (List.mem_filter.mp hr).1).1
   rw [MY]; omega
  ·unfold gp at hw
   obtain⟨r,hr,rfl⟩:=List.mem_map.mp hw
   exact fun x hx=>T.al r (List.mem_filter.mp hr).1 x (O6 hx)
 ·have kl:=sk.length
  have at_:(kQ k)[m]?=some (.tup (([]:List (List D)).map .tup)):=of_decide_eq_true (BO sk ml)
  obtain⟨k1,k2⟩:=key [] at_
  exact⟨by rw [MV,M1]; omega,OW _ _,by rw [jo sk ml]; omega,[],at_,k1,by decide,(fun _ h=>nomatch h),(fun _ h=>nomatch h),k2⟩
theorem vS (N:NT (σ.take m) m c s TT) (T:Tab σ s) (hm:m<=σ.length) (m8:m<=8) (hc:c<=7):bc iT 2 4 [.int m,.tup (TT.map .tup)]=.ok (.tup (s.map .tup)):=by
 have fl:=N.len T
 have tl:=T.ln
 have fi:=Et N T hm
 rw [gB]; unfold iT
 simp! only [Hq]
 refine eZ (Q:=fun z=>z=.ok (.tup (s.map .tup))) (fun i ρ=>ρ=[some (.val (.int m)),some (.val (.tup (TT.map .tup))),some (.own (.lst (((TT.take i).flatMap (un m)).map .tup))),none]) ?_ rfl ?_
 ·rintro i d ρ kk hd rfl
  have hi:=cS hd
  rw [MI] at hi
  rw [MS,Nr hi] at hd
  cases hd
  obtain⟨r,er⟩:∃ r,r=TT[i]:=⟨_,rfl⟩
  have rm:r∈TT:=by rw [er]; exact Oe hi
  rw [<- er]
  obtain⟨w1,w2,w3,ws,w4,w5,w6,w7,w8,w9⟩:=N.w T hm r rm
  have ix:=IT w4
  have ct:cutD r none (some (m:Int))=r.take m:=gX _ _
  generalize hA:(((TT.take i).flatMap (un m)).map D.tup)=A
  have al:A.length<=s.length:=by
   rw [<- hA,MI]
   conv=>rhs; rw [<- fi,<- OW i TT,OT,MV]
   omega
  have lc:fY [none,some 3,some 0] (bw (f2 bq (ah 3) (ah 0))) (gN 0) (dE) (f2 bY (bf (ah 1) (aP) (bH (ah 2))) (ah 0)) [some (.val (.int m)),some (.val (.tup (TT.map .tup))),some (.own (.lst A)),some (.val (.tup r))]=.ok (.lst ((un m r).map .tup)):=by
   refine dF (ds:=ws.map .tup) (by simp! only [ix]) (by rw [MI]; omega) ?_
   have:=mI (ρ:=inB [none,some 3,some 0] [some (.val (.int m)),some (.val (.tup (TT.map .tup))),some (.own (.lst A)),some (.val (.tup r))]) (g:=gN 0) (C:=dE) (Fe:=f2 bY (bf (ah 1) (aP) (bH (ah 2))) (ah 0)) D.tup (fun w=>.tup (r.take m++w)) ws fun w hw=>by
    have ad:=iI (r.take m) w (by have:=w7 w hw; omega)
    refine⟨[some (.val (.tup w)),some (.val (.tup r)),some (.val (.int m))],rfl,rfl,?_⟩
    simp! only [ct,ad]
   rw [this,w5,Oh]; rfl
  refine⟨_,_,rfl,rfl,?_⟩
  have ul:(un m r).length<=50:=by rw [w5,MI]; exact w6
  have e1:((TT.take (i+1)).flatMap (un m)).map D.tup=A++(un m r).map .tup:=by
   rw [O0 hi,<- er,OT,Nz,hA,OU]
  rw [e1]
  have ex:∀ K:Ks,C5 2 (fY [none,some 3,some 0] (bw (f2 bq (ah 3) (ah 0))) (gN 0) (dE) (f2 bY (bf (ah 1) (aP) (bH (ah 2))) (ah 0))) K [some (.val (.int m)),some (.val (.tup (TT.map .tup))),some (.own (.lst A)),some (.val (.tup r))]=K.nx [some (.val (.int m)),some (.val (.tup (TT.map .tup))),some (.own (.lst (A++(un m r).map .tup))),some (.val (.tup r))]:=fun K=>by
   show sM _ K _ _=_
   rw [lc,p6]
   show (if small _ then _ else _)=_
   rw [if_pos (dH (by rw [MI]; omega))]; rfl
  generalize A++(un m r).map .tup=Y at ex ⊢
  simp! only [ex]
 ·rintro ρ' rfl
  rw [MI,NB,fi]
  simp! only []
noncomputable def kp (m:Nat) (v TT:List (List D)):List (List D):=(TT.filter (isE m)).filter fun r=>decide (r.take m∉fs m v)
theorem vN {r:List D} (h:r∈kp m v TT):r∈TT/\isE m r=true/\r.take m∉fs m v:=by
 obtain⟨h1,h2⟩:=List.mem_filter.mp h
 obtain⟨h3,h4⟩:=List.mem_filter.mp h1
 exact⟨h3,h4,of_decide_eq_true h2⟩
theorem xO (N:NT (σ.take m) m c s TT) (T:Tab σ s) (V:Tab σ v) (m1:1<=m) (hm:m<=σ.length) (hc:c<=7):So (σ.take m) m (Nn m v++kp m v TT):=by
 have so:=N.so T m1 hm hc
 refine⟨so.t0,so.hm,fun r h=>?_,List.pairwise_append.mpr ⟨nD (fun r h=>xL V hm h) (Au V hm),(so.pw.filter _).filter _,fun a ha b hb e=>?_⟩,?_⟩
 ·rcases List.mem_append.mp h with z | z
  ·exact xL V hm z
  ·exact so.sh r (vN z).1
 ·have:=(vN hb).2.2
  rw [<- e,<- lw V hm] at this
  exact this (List.mem_map.mpr ⟨a,ha,rfl⟩)
 ·rw [MV]
  have h1:=tW (m:=m) V
  have h2:(kp m v TT).length<=c:=Mr (O2 _ _) N.el
  omega
theorem GK (N:NT (σ.take m) m c s TT) (T:Tab σ s) (V:Tab σ v) (m1:1<=m) (hm:m<=σ.length) (hc:c<=7) {T':List (List D)} (r:xP m T') (p:T'.Perm (Nn m v++kp m v TT)):NT (σ.take m) m 7 v T':=by
 refine⟨r,fun x hx=>?_,?_,?_⟩
 ·rcases List.mem_append.mp (p.mem_iff.mp hx) with z | z
  ·exact .inl z
  ·obtain⟨h1,h2,h3⟩:=vN z
   rcases N.row x h1 with y | y
   ·rw [xo T hm y] at h2; cases h2
   ·exact .inr y
 ·have q:=p.filter (fun r=>!isE m r)
  have e0:(kp m v TT).filter (fun r=>!isE m r)=[]:=List.filter_eq_nil_iff.mpr fun x hx=>by rw [(vN hx).2.1]; simp
  have e1:(Nn m v).filter (fun r=>!isE m r)=Nn m v:=(NT.new V hm).fl
  rw [OQ,e0,e1,ML] at q
  exact(rk (fun r h=>xL V hm h) (Au V hm) (r.filter _) q).symm
 ·have q:=(p.filter (isE m)).length_eq
  have e1:(Nn m v).filter (isE m)=[]:=List.filter_eq_nil_iff.mpr fun r h=>by rw [xo V hm h]; simp
  rw [OQ,e1,Nx] at q
  have h2:(kp m v TT).length<=c:=Mr (O2 _ _) N.el
  have h3:=O2 (isE m) (kp m v TT)
  omega
theorem EC (N:NT (σ.take m) m c s TT) (T:Tab σ s) (hm:m<=σ.length):TT.Perm (Nn m s++kp m s TT):=by
 have e:kp m s TT=TT.filter (isE m):=by
  unfold kp
  refine List.filter_eq_self.mpr fun r h=>decide_eq_true fun z=>?_
  obtain⟨h1,h2⟩:=List.mem_filter.mp h
  rw [<- lw T hm] at z
  obtain⟨a,ha,e⟩:=List.mem_map.mp z
  have ha':a∈TT:=by rw [<- N.fl] at ha; exact(List.mem_filter.mp ha).1
  have pw:=nD (N.sh T hm) N.ri
  obtain⟨i,hi,rfl⟩:=Nw h1
  obtain⟨j,hj,rfl⟩:=Nw ha'
  rcases N9 i j with q | q | q
  ·exact(List.pairwise_iff_getElem.mp pw i j hi hj q) e.symm
  ·subst q; rw [xo T hm ha] at h2; cases h2
  ·exact(List.pairwise_iff_getElem.mp pw j i hj hi q) e
 rw [e,<- N.fl]
 have:=O5 (fun r=>!isE m r) TT
 simp only [Bool.not_not] at this
 exact this.symm
theorem vz (N:NT (σ.take m) m c s TT) (T:Tab σ s) (V:Tab σ v) (m1:1<=m) (hm:m<=σ.length) (m8:m<=8) (hc:c<=7) {T':List (List D)} (r:xP m T') (p:T'.Perm (Nn m v++kp m v TT)) (o f0:D) (kk:List D) (f1:D) (hk:kk.length=m) (hf:f0=.tup [.tup kk,f1]) :
  bc aZ 4 6 [o,f0,.tup (TT.map .tup),.tup (v.map .tup)]=.ok (.tup (T'.map .tup)):=by
 have so:=N.so T m1 hm hc
 have S:=xO N T V m1 hm hc
 have sp:=S.prog r p
 have gi:=yO V hm
 have fl:=nO m v
 have tl:=V.ln
 have TL:=N.len T
 have fsL:=om v (V.fsh hm)
 have it:=xC ((fs m v).map fun f=>(kq f,D.tup ((gp m v f).map .tup)))
 have nl:=tW (m:=m) V
 have lc1:∀ a5,fY [none,none] (kK (fR (bc iy 2 4) (af (ah 4) (af (ah 3) (au))))) (gT 2 (oH [0,1])) (dE) (f2 bY (ah 0) (cA (af (ah 1) (au)))) [some (.val o),some (.val f0),some (.val (.tup (TT.map .tup))),some (.val (.tup (v.map .tup))),some (.val (.int m)),a5]=.ok (.lst ((Nn m v).map .tup)):=fun a5=>by
  refine dF (ds:=((fs m v).map fun f=>(kq f,D.tup ((gp m v f).map .tup))).map kM) ?_ (by rw [MI,MI]; omega) ?_
  ·show (Except.bind _ _)=_
   generalize nI ((fs m v).map fun f=>(kq f,D.tup ((gp m v f).map .tup)))=Z at gi it
   simp! only [gi,it]
  ·unfold Nn
   rw [Oh,Oh]
   refine mI _ _ (fs m v) fun f hf=>?_
   have ad:bY (.tup ((kq f).map bu)) (.tup [.tup ((gp m v f).map .tup)])=some (.tup (gZ m v f)):=by
    have:=CO V f hf
    rw [n8 (fsL f hf)]
    exact iI f _ (by rw [M1]; omega)
   refine⟨[some (.val (.tup ((kq f).map bu))),some (.val (.tup ((gp m v f).map .tup)))],rfl,rfl,?_⟩
   simp! only [Hr,ad]
   rfl
 have lc2:∀ a3,fY [none,some 4] (bw (ah 2)) (gN 0) (fB (f2 g9 (f2 bq (ah 0) (ah 1)) (cA (au)))) (ah 0) [some (.val o),some (.val f0),some (.val (.tup (TT.map .tup))),a3,some (.val (.int m)),some (.val (.lst ((Nn m v).map .tup)))]=.ok (.lst ((TT.filter (isE m)).map .tup)):=fun a3=>by
  refine dF (ds:=TT.map .tup) (by simp! only []) (by rw [MI]; omega) ?_
  refine j9 D.tup (isE m) D.tup TT fun r hr=>?_
  obtain⟨w1,w2,w3,ws,w4,w5,w6,w7,w8,w9⟩:=N.w T hm r hr
  have ix:=IT w4
  have eq:=CH (w:=ws.map .tup) (nT fun x hx=>by
   obtain⟨w,hw,rfl⟩:=List.mem_map.mp hx
   rw [cM]; exact nT fun y hy=>Dl (w8 w hw y hy))
  refine⟨[some (.val (.tup r)),some (.val (.int m))],rfl,?_,fun _=>rfl⟩
  rw [w9]
  generalize ws.map D.tup=W at ix eq
  simp! only [ix,Fm,eq]
 have vr:∀ r∈Nn m v,Sh (σ.take m) (r.take m):=fun r h=>xL V hm h
 have f2':fY [none,some 0] (bw (ah 1)) (gN 0) (dE) (cA (af (bf (ah 0) (aP) (bH (ah 1))) (af (ah 0) (au)))) [some (.val (.int m)),some (.val (.lst ((Nn m v).map .tup)))]=.ok (.lst (((Nn m v).map fun r=>(kq (r.take m),D.tup r)).map kM)):=by
  refine dF (ds:=(Nn m v).map .tup) (by simp! only []) (by rw [MI]; omega) ?_
  rw [Oh]
  refine mI D.tup _ (Nn m v) fun r hr=>⟨[some (.val (.tup r)),some (.val (.int m))],rfl,rfl,?_⟩
  simp! only [gX,Dj]
  show _=Except.ok (D.tup [.tup ((kq (r.take m)).map bu),.tup r])
  rw [n8 (vr r hr)]
 have knd:(((Nn m v).map fun r=>(kq (r.take m),D.tup r)).map (·.1)).Nodup:=by
  rw [Oh]
  refine List.pairwise_map.mpr (List.Pairwise.imp_of_mem (fun {a b} ha hb ne e=>ne ?_) (nD vr (Au V hm)))
  exact su (vr a ha) (vr b hb) e
 have gd:vx [.lst (((Nn m v).map fun r=>(kq (r.take m),D.tup r)).map kM)]=some (cJ ((Nn m v).map fun r=>(kq (r.take m),D.tup r))):=by
  show (gY _).bind _=_
  rw [sq]
  show (if small _ then _ else _)=_
  rw [if_pos (dH (by rw [MI]; omega))]
  unfold uN
  rw [vM _ [] knd]; rfl
 have bk:bc li 2 2 [.int m,.lst ((Nn m v).map .tup)]=.ok (cJ ((Nn m v).map fun r=>(kq (r.take m),D.tup r))):=by
  rw [gB]; unfold li
  generalize cJ ((Nn m v).map fun r=>(kq (r.take m),D.tup r))=Z at gd
  simp! only [f2',gd]
 have ni:∀ r∈TT,qu (.tup (r.take m)) (cJ ((Nn m v).map fun r=>(kq (r.take m),D.tup r)))=some (.bl (decide (r.take m∉fs m v))):=fun r hr=>by
  have zs:=so.sh r hr
  show (qb (encK _) (((Nn m v).map fun r=>(kq (r.take m),D.tup r)).map (·.2)) (.tup (r.take m))).bind yn=_
  unfold qb
  rw [iQ]
  show ((ig (.tup (r.take m))).bind fun k=>some (D.bl (((Nn m v).map fun r=>(kq (r.take m),D.tup r)).any fun p=>decide (p.1=k)))).bind yn=_
  have e:ig (.tup (r.take m))=some (kq (r.take m)):=by
   conv=>lhs; rw [<- n8 zs]
   exact cq _
  rw [e]
  show some (D.bl (!(((Nn m v).map fun r=>(kq (r.take m),D.tup r)).any fun p=>decide (p.1=kq (r.take m)))))=_
  congr 2
  have q:(((Nn m v).map fun r=>(kq (r.take m),D.tup r)).any fun p=>decide (p.1=kq (r.take m)))=true↔r.take m∈fs m v:=by
   rw [OX,<- lw V hm]
   constructor
   ·rintro⟨p,hp,e⟩
    obtain⟨a,ha,rfl⟩:=List.mem_map.mp hp
    exact List.mem_map.mpr ⟨a,ha,su (vr a ha) zs (of_decide_eq_true e)⟩
   ·intro h
    obtain⟨a,ha,e⟩:=List.mem_map.mp h
    exact⟨_,List.mem_map.mpr ⟨a,ha,rfl⟩,decide_eq_true (by show kq (a.take m)=_; rw [show a.take m=r.take m from e])⟩
  by_cases h:r.take m∈fs m v
  ·rw [q.mpr h,decide_eq_false (fun z=>z h)]; rfl
  ·rw [decide_eq_true h]
   cases z:(((Nn m v).map fun r=>(kq (r.take m),D.tup r)).any fun p=>decide (p.1=kq (r.take m))) with
   | false=>rfl
   | true=>exact absurd (q.mp z) h
 have st:bc iG 3 4 [.int m,.lst ((Nn m v).map .tup),.lst ((TT.filter (isE m)).map .tup)]=.ok (.tup (T'.map .tup)):=by
  generalize cJ ((Nn m v).map fun r=>(kq (r.take m),D.tup r))=Z at bk ni
  have fl2:=O2 (isE m) TT
  have lc3:fY [none,some 0,some 3] (bw (ah 2)) (gN 0) (fB (f2 qu (bf (ah 0) (aP) (bH (ah 1))) (ah 2))) (ah 0) [some (.val (.int m)),some (.val (.lst ((Nn m v).map .tup))),some (.val (.lst ((TT.filter (isE m)).map .tup))),some (.val Z)]=.ok (.lst ((kp m v TT).map .tup)):=by
   refine dF (ds:=(TT.filter (isE m)).map .tup) (by simp! only []) (by rw [MI]; omega) ?_
   refine j9 D.tup (fun r=>decide (r.take m∉fs m v)) D.tup _ fun r hr=>⟨[some (.val (.tup r)),some (.val (.int m)),some (.val Z)],rfl,?_,fun _=>rfl⟩
   have:=ni r (List.mem_filter.mp hr).1
   simp! only [gX,this]
  have kl:(kp m v TT).length<=TT.length:=Mr (O2 _ _) fl2
  have ad:=qU ((Nn m v).map .tup) ((kp m v TT).map .tup) (by rw [MI,MI]; omega)
  rw [<- Nz] at ad
  rw [pJ]; unfold iG
  simp! only [bk,lc3,G3,ad,sp]
 rw [Dk]; unfold aZ
 subst hf
 simp! only [hk,lc1,lc2,st]
end
abbrev Bl (nm:Str):D:=.obj "Unnest" ["name"] [.str nm]
theorem Fd {nm:Str} (w:Str) (g1 g2:List D->R D) (fo:FX) (fas:aq->R (List D)) (ρ:aq) (h:fo ρ=.ok (Bl nm)) (hm:(["name"]:List Str).contains w=false):eM w [("Step",g1),("Unnest",g2)] fo fas ρ=(fas ρ).bind fun as=>g2 (Bl nm::as):=by
 unfold eM
 rw [h,cR]
 have h1:(("Unnest":Str)==("Step":Str))=false:=by decide +kernel
 have:List.lookup ("Unnest":Str) [(("Step":Str),g1),(("Unnest":Str),g2)]=some g2:=by
  rw [Nb,h1,Nb,BEq.rfl]
 simp only [this,hm]
 rfl
theorem Ls:(["name"]:List Str).contains "put"=false:=by decide +kernel
theorem J1:(["name"]:List Str).contains "got"=false:=by decide +kernel
theorem Ew (c:Str) (a:Str) (fas:aq->R (List D)) (ρ:aq):fNew c [a] fas ρ=(fas ρ).bind fun as=>if as.length=1 then .ok (.obj c [a] as) else TG.un:=nr rfl
section
open Classical
variable {σ τ:List Bool} {s v TT:List (List D)} {m c:Nat}
theorem NT.le {c':Nat} (N:NT τ m c s TT) (h:c<=c'):NT τ m c' s TT:=⟨N.ri,N.row,N.fl,Mr N.el h⟩
theorem NT.AL (N:NT (σ.take m) m c s TT) (T:Tab σ s) (hm:m<=σ.length) (m8:m<=8) (hc:c<=7):T4.AL 8 (.tup (TT.map .tup)):=by
 have:=N.len T
 refine AL.tup (by rw [MI]; omega) fun x hx=>?_
 obtain⟨r,hr,rfl⟩:=List.mem_map.mp hx
 obtain⟨w1,w2,w3,ws,w4,w5,w6,w7,w8,w9⟩:=N.w T hm r hr
 refine AL.tup ‹0› fun x hx=>?_
 have e:r=r.take m++[.tup (ws.map .tup)]:=by
  conv=>lhs; rw [<- OW m r]
  congr 1
  rw [NE ‹0›,Oy ‹0›]
  rw [Nr ‹0›] at w4
  rw [Option.some.inj w4]
 rw [e] at hx
 rcases List.mem_append.mp hx with z | z
 ·exact AL.of0 (uo (N.sh T hm r hr) x z) _
 ·rw [List.mem_singleton.mp z]
  refine AL.tup (by rw [MI]; omega) fun y hy=>?_
  obtain⟨w,hw,rfl⟩:=List.mem_map.mp hy
  exact AL.tup (by have:=w7 w hw; omega) (w8 w hw)
theorem zC:Tab σ []:=⟨(fun _ h=>nomatch h),List.Pairwise.nil,by decide,(fun _ h=>nomatch h),(fun _ h=>nomatch h)⟩
theorem Gj:NT (σ.take m) m 0 [] []:=⟨List.Pairwise.nil,(fun _ h=>nomatch h),rfl,MA _⟩
theorem CN (N:NT (σ.take m) m c s TT) (T:Tab σ s) (hm:m<=σ.length) (m8:m<=8) (hc:c<=7) (o f0:D) (kk:List D) (f1:D) (hk:kk.length=m) (hf:f0=.tup [.tup kk,f1]):bc bW 3 3 [o,f0,.tup (TT.map .tup)]=.ok (.tup (s.map .tup)):=by
 have u:=vS N T hm m8 hc
 rw [pJ]; unfold bW
 subst hf
 simp! only [hk,u]
theorem zF (L:List (List D)) (hl:L.length<=1000) {G:aq->R (List D)} {ρ:aq} (hG:G ρ=.ok (L.map .tup)) (hr:ρ[4]?=some (some (.val (.int m)))):fY [none,some 4] G (gN 0) (dE) (bf (ah 0) (aP) (bH (ah 1))) ρ=.ok (.lst ((L.map fun r=>r.take m).map .tup)):=by
 refine dF (ds:=L.map .tup) hG (by rw [MI]; omega) ?_
 rw [Oh]
 have hi:inB [none,some 4] ρ=[none,some (.val (.int m))]:=by
  show [none,pick ρ 4]=_
  unfold pick
  rw [hr]
 rw [hi]
 refine mI D.tup _ L fun r hr=>⟨[some (.val (.tup r)),some (.val (.int m))],rfl,rfl,?_⟩
 simp! only [gX]
 rfl
theorem y6 (N:NT (σ.take m) m c s TT) (T:Tab σ s) (V:Tab σ v) (m1:1<=m) (hm:m<=σ.length) (m8:m<=8) (hc:c<=7) (ks is:KL) (jq:List (Str×D)) (nm:Str) (b:Bool) (hk:ks.length=m) (sc y Rr:D) (a9 a10:Option S) :
  (aK (bM 11 (fY [none,some 4] (bw (ah 8)) (gN 0) (dE) (bf (ah 0) (aP) (bH (ah 1))))) (aK (bM 12 (fY [none,some 4,some 11] (bw (ah 7)) (gN 0) (xJ (fB (f2 g9 (f2 bq (ah 0) (n9 (fC (.int 1)))) (cA (au)))) (fB (f2 jh (bf (ah 0) (aP) (bH (ah 1))) (ah 2)))) (ah 0))) (aK (bM 13 (fR (bc aN 2 4) (af (ah 4) (af (f2 bY (fL jS (af (ah 8) (au))) (ah 12)) (au))))) (aK (bM 14 (fNew "Unnest" ["name"] (af (f2 bq (f2 bq (f2 bq (ah 3) (fC (.int 1))) (fC (.int 0))) (fC (.int 0))) (au)))) (aK (bM 15 (eM "put" [("Step",(bc bS 4 4)),("Unnest",(bc aZ 4 6))] (ah 14) (af (ah 3) (af (ah 7) (af (ah 6) (au)))))) (aK (ng (DM (nK (dW (fR (aA 12) (af (ah 15) (af (ah 13) (au)))))) (nK (dW (fR (aA 12) (af (eM "got" [("Step",(bc dA 3 3)),("Unnest",(bc bW 3 3))] (ah 14) (af (ah 3) (af (ah 15) (au)))) (af (ah 6) (au))))))) (ce (fC (.bl false))) (cX)) (aK (ng (nK (dW (fR (aA 12) (af (eM "put" [("Step",(bc bS 4 4)),("Unnest",(bc aZ 4 6))] (ah 14) (af (ah 3) (af (ah 7) (af (eM "got" [("Step",(bc dA 3 3)),("Unnest",(bc bW 3 3))] (ah 14) (af (ah 3) (af (ah 7) (au)))) (au))))) (af (ah 7) (au)))))) (ce (fC (.bl false))) (cX)) (aK (bM 16 (fY [none] (bw (ah 7)) (gN 0) (fB (f2 g9 (f2 bq (ah 0) (n9 (fC (.int 1)))) (cA (au)))) (ah 0))) (ce (nu (fR (aA 12) (af (eM "put" [("Step",(bc bS 4 4)),("Unnest",(bc aZ 4 6))] (ah 14) (af (ah 3) (af (ah 7) (af (cA (au)) (au))))) (af (fL cm (af (ah 16) (au))) (au)))) (fR (aA 12) (af (eM "put" [("Step",(bc bS 4 4)),("Unnest",(bc aZ 4 6))] (ah 14) (af (ah 3) (af (cA (au)) (af (ah 6) (au))))) (af (ah 8) (au)))))))))))))) K0 [some (.val sc),some (.val y),some (.val (.bl b)),some (.val (pf ks is jq nm b)),some (.val (.int m)),some (.val Rr),some (.val (.tup (v.map .tup))),some (.val (.tup (TT.map .tup))),some (.val (.tup ((Nn m v).map .tup))),a9,a10,none,none,none,none,none,none]=.ok (.bl true):=by
 have TL:=N.len T
 have nl:=tW (m:=m) V
 have kl:(ks.map kf).length=m:=by rw [MI]; exact hk
 have fsL:=om v (V.fsh hm)
 have so:=N.so T m1 hm hc
 have lb:=fun ρ h4 h8=>zF (m:=m) (Nn m v) ‹0› (G:=bw (ah 8)) (ρ:=ρ) h8 h4
 rw [lw V hm] at lb
 have lb1:=lb [some (.val sc),some (.val y),some (.val (.bl b)),some (.val (pf ks is jq nm b)),some (.val (.int m)),some (.val Rr),some (.val (.tup (v.map .tup))),some (.val (.tup (TT.map .tup))),some (.val (.tup ((Nn m v).map .tup))),a9,a10,none,none,none,none,none,none] rfl rfl
 have eqE:∀ r∈TT,∃ w,bq (.tup r) (.int (-1))=some w/\g9 w (.tup [])=some (.bl (isE m r)):=fun r hr=>by
  obtain⟨w1,w2,w3,ws,w4,w5,w6,w7,w8,w9⟩:=N.w T hm r hr
  refine⟨_,Ez w1 w4,?_⟩
  rw [w9]
  exact CH (nT fun x hx=>by
   obtain⟨w,hw,rfl⟩:=List.mem_map.mp hx
   rw [cM]; exact nT fun y hy=>Dl (w8 w hw y hy))
 have lk:∀ a11 a12 a13 a14 a15 a16,a11=some (.val (.lst ((fs m v).map .tup)))->fY [none,some 4,some 11] (bw (ah 7)) (gN 0) (xJ (fB (f2 g9 (f2 bq (ah 0) (n9 (fC (.int 1)))) (cA (au)))) (fB (f2 jh (bf (ah 0) (aP) (bH (ah 1))) (ah 2)))) (ah 0) [some (.val sc),some (.val y),some (.val (.bl b)),some (.val (pf ks is jq nm b)),some (.val (.int m)),some (.val Rr),some (.val (.tup (v.map .tup))),some (.val (.tup (TT.map .tup))),some (.val (.tup ((Nn m v).map .tup))),a9,a10,a11,a12,a13,a14,a15,a16]=.ok (.lst ((kp m v TT).map .tup)):=by
  rintro a11 a12 a13 a14 a15 a16 rfl
  refine dF (ds:=TT.map .tup) (by simp! only []) (by rw [MI]; omega) ?_
  have e:kp m v TT=TT.filter fun r=>(isE m r && decide (r.take m∉fs m v)):=by
   unfold kp
   rw [List.filter_filter]
   congr 1
   funext r
   rw [Bool.and_comm]
  rw [e]
  refine j9 D.tup _ D.tup TT fun r hr=>⟨[some (.val (.tup r)),some (.val (.int m)),some (.val (.lst ((fs m v).map .tup)))],rfl,?_,fun _=>rfl⟩
  obtain⟨w,e1,e2⟩:=eqE r hr
  have e3:=sj (so.sh r hr) fsL
  cases h:isE m r with
  | false =>
   rw [h] at e2
   simp! only [e1,Fm,e2,Bool.false_and]
  | true =>
   rw [h] at e2
   simp! only [e1,Fm,e2,gX,e3,Bool.true_and]
 have lb2:∀ a11 a12 a13 a14 a15 a16,fY [none] (bw (ah 7)) (gN 0) (fB (f2 g9 (f2 bq (ah 0) (n9 (fC (.int 1)))) (cA (au)))) (ah 0) [some (.val sc),some (.val y),some (.val (.bl b)),some (.val (pf ks is jq nm b)),some (.val (.int m)),some (.val Rr),some (.val (.tup (v.map .tup))),some (.val (.tup (TT.map .tup))),some (.val (.tup ((Nn m v).map .tup))),a9,a10,a11,a12,a13,a14,a15,a16]=.ok (.lst ((TT.filter (isE m)).map .tup)):=by
  intro a11 a12 a13 a14 a15 a16
  refine dF (ds:=TT.map .tup) (by simp! only []) (by rw [MI]; omega) ?_
  refine j9 D.tup (isE m) D.tup TT fun r hr=>⟨[some (.val (.tup r))],rfl,?_,fun _=>rfl⟩
  obtain⟨w,e1,e2⟩:=eqE r hr
  simp! only [e1,Fm,e2]
 have kpl:(kp m v TT).length<=TT.length:=Mr (O2 _ _) (O2 _ _)
 have ad:=qU ((Nn m v).map .tup) ((kp m v TT).map .tup) (by rw [MI,MI]; omega)
 rw [<- Nz] at ad
 obtain⟨T',r,p⟩:=(xO N T V m1 hm hc).srt
 have du:=(xO N T V m1 hm hc).law r p
 have N':=GK N T V m1 hm hc r p
 have pu:=vz N T V m1 hm m8 hc r p (Bl nm) (pf ks is jq nm b) (ks.map kf) _ kl rfl
 have gp':=CN N' V hm m8 (by decide) (Bl nm) (pf ks is jq nm b) (ks.map kf) _ kl rfl
 have gs:=CN N T hm m8 hc (Bl nm) (pf ks is jq nm b) (ks.map kf) _ kl rfl
 have pb:=vz N T T m1 hm m8 hc N.ri (EC N T hm) (Bl nm) (pf ks is jq nm b) (ks.map kf) _ kl rfl
 have p0:=vz N T (zC (σ:=σ)) m1 hm m8 hc (T':=TT.filter (isE m)) (N.ri.filter _) (by
  have:kp m [] TT=TT.filter (isE m):=by
   unfold kp
   exact List.filter_eq_self.mpr fun r h=>decide_eq_true (by unfold fs; simp)
  rw [this]; exact List.Perm.refl _) (Bl nm) (pf ks is jq nm b) (ks.map kf) _ kl rfl
 have p1:=vz (Gj (σ:=σ) (m:=m)) (zC (σ:=σ)) V m1 hm m8 (by decide) (T':=Nn m v) (Au V hm) (by
  show (Nn m v).Perm (Nn m v++[])
  rw [ML]) (Bl nm) (pf ks is jq nm b) (ks.map kf) _ kl rfl
 have p0:bc aZ 4 6 [Bl nm,pf ks is jq nm b,.tup (TT.map .tup),.tup []]=.ok (.tup ((TT.filter (isE m)).map .tup)):=p0
 have p1:bc aZ 4 6 [Bl nm,pf ks is jq nm b,.tup [],.tup (v.map .tup)]=.ok (.tup ((Nn m v).map .tup)):=p1
 have a1:=iH 8 12 _ (by decide) (N'.AL V hm m8 (by decide))
 have a2:=iH 6 12 _ (by decide) V.ALt
 have a3:=iH 8 12 _ (by decide) (N.AL T hm m8 hc)
 have a4:=iH 8 12 _ (by decide) ((NT.new V hm).AL V hm m8 (by decide))
 have a5:aA 12 [.tup ((TT.filter (isE m)).map .tup),.tup ((TT.filter (isE m)).map .tup)]=.ok (.bl true):=by
  refine iH 8 12 _ (by decide) ?_
  have fl:=O2 (isE m) TT
  have h:=N.AL T hm m8 hc
  rcases h with (⟨_,h⟩ | ⟨_,h⟩) | ⟨ds,h,_,h2⟩
  ·cases h
  ·cases h
  ·injection h with h
   subst h
   exact AL.tup (by rw [MI]; omega) fun x hx=>h2 x (by
    obtain⟨r,hr,rfl⟩:=List.mem_map.mp hx
    exact List.mem_map.mpr ⟨r,(List.mem_filter.mp hr).1,rfl⟩)
 have mp:=fun (fas:aq->R (List D)) (ρ:aq) (h:ah 14 ρ=.ok (Bl nm))=>Fd (nm:=nm) "put" (bc bS 4 4) (bc aZ 4 6) (ah 14) fas ρ h Ls
 have mg:=fun (fas:aq->R (List D)) (ρ:aq) (h:ah 14 ρ=.ok (Bl nm))=>Fd (nm:=nm) "got" (bc dA 3 3) (bc bW 3 3) (ah 14) fas ρ h J1
 generalize (TT.filter (isE m)).map D.tup=E0 at lb2 p0 a5
 generalize T'.map D.tup=E1 at du pu gp' a1
 generalize (kp m v TT).map D.tup=E2 at lk ad
 generalize (Nn m v++kp m v TT).map D.tup=E3 at ad du
 generalize (fs m v).map D.tup=E4 at lb1 lk
 simp! only [lb1,lk,yg,ad,du,Ew,mp,mg,pu,gp',gs,pb,p0,p1,a1,a2,a3,a4,a5,lb2,Fm,Nu]
end
section
open Classical
variable {σ τ:List Bool} {s v TT:List (List D)} {m c:Nat}
theorem DL (T:Tab σ s) (m1:1<=m) (hm:m<=σ.length) (ks:KL) (k8:ks.length<=8) (hk:∀ p∈ks,p.2.gd) (hs:σ.take m=ks.map (·.2.b)) (km:ks.length=m) (f1:D) (xs:List Int) (hx:∀ x∈xs,0<=x/\x < 2147483700) (xl:xs.length<=5) :
  ∃ T',NT (σ.take m) m 5 s T'/\bc de 3 7 [.tup [.tup (ks.map kf),f1],.tup ((Nn m s).map .tup),.lst (xs.map .int)]=.ok (.tup (T'.map .tup)):=by
 have nl:=tW (m:=m) T
 have fsL:=om s (T.fsh hm)
 have fl:=nO m s
 have tl:=T.ln
 have kl:(ks.map kf).length=m:=by rw [MI]; exact km
 have N:=NT.new T hm
 have lc:∀ a2 a3 a4 a5 a6:Option S,fY [none] (bw (ah 1)) (gN 0) (dE) (bf (ah 0) (aP) (bH (n9 (fC (.int 1))))) [some (.val (.tup [.tup (ks.map kf),f1])),some (.val (.tup ((Nn m s).map .tup))),a2,a3,a4,a5,a6]=.ok (.lst ((fs m s).map .tup)):=fun a2 a3 a4 a5 a6=>by
  refine dF (ds:=(Nn m s).map .tup) (by simp! only []) (by rw [MI]; omega) ?_
  unfold Nn
  rw [Oh]
  refine mI _ D.tup (fs m s) fun f hf=>⟨[some (.val (.tup (gZ m s f)))],rfl,rfl,?_⟩
  have ct:cutD (gZ m s f) none (some (-1))=f:=CY _ _
  simp! only [ct]
 obtain⟨REST,hR⟩:∃ F:cB,F=(hJ 3 (ce (fR (bc aN 2 4) (af (fL jp (af (f2 bq (ah 0) (fC (.int 0))) (au))) (af (ah 3) (au)))))):=⟨_,rfl⟩
 rw [pJ]; unfold de
 rw [<- hR]
 simp! only [yg,lc]
 refine eZ (Q:=fun z=>∃ T',NT (σ.take m) m 5 s T'/\z=.ok (.tup (T'.map .tup))) (fun i ρ=>∃ es:List (List D),es.length<=i/\es.Nodup/\(∀ k∈es,Sh (σ.take m) k/\k∉fs m s)/\ρ=[some (.val (.tup [.tup (ks.map kf),f1])),none,some (.val (.lst (xs.map .int))),some (.own (.lst ((Nn m s++es.map kQ).map .tup))),some (.own (.lst ((fs m s++es).map .tup))),none,none]) ?_ ⟨[],MA _,M9,(fun _ h=>nomatch h),by rw [M3,ML,ML]⟩ ?_
 ·rintro i d ρ kk hd ⟨es,el,nd,he,rfl⟩
  have hi:=cS hd
  rw [MI] at hi
  rw [MS,Nr hi] at hd
  cases hd
  obtain⟨x0,x1⟩:=hx _ (Oe hi)
  generalize xs[i]=x at x0 x1
  obtain⟨vs,ev,v1,v2,v3⟩:=xN 0 10 (wB 0 11 ‹0›) ks [] k8 (by simp) hk (fun _ h=>nomatch h) 0 0 x (by decide) (by decide) x0 x1
  have ev:aF 12 [.tup [.tup (ks.map kf),.tup []],.int 0,.int 0,.int x]=.ok (.tup vs):=ev
  have vl:vs.length=ks.length:=by rw [v1]; rfl
  have vsh:Sh (σ.take m) vs:=by
   rw [Oo ‹0›] at v2
   rw [hs]; exact v2
  have ni:=sj vsh (ks:=fs m s++es) fun k h=>by
   rcases List.mem_append.mp h with z | z
   ·exact fsL k z
   ·exact(he k z).1
  by_cases h:vs∈fs m s++es
  ·rw [decide_eq_false (fun z=>z h)] at ni
   refine⟨_,_,rfl,⟨es,by omega,nd,he,rfl⟩,?_⟩
   generalize (Nn m s++es.map kQ).map D.tup=A
   generalize (fs m s++es).map D.tup=B at ni
   simp! only [Fm,Dj,ev,lI,BI,ni]
  ·rw [decide_eq_true h] at ni
   refine⟨_,_,rfl,⟨es++[vs],by rw [MV,M1]; omega,List.nodup_append.mpr ⟨nd,by simp,fun a ha b hb e=>?_⟩,fun k hk=>?_,rfl⟩,?_⟩
   ·rw [List.mem_singleton.mp hb] at e
    exact h (MB _ (by rw [<- e]; exact ha))
   ·rcases List.mem_append.mp hk with z | z
    ·exact he k z
    ·rw [List.mem_singleton.mp z]
     exact⟨vsh,fun y=>h (Mw _ y)⟩
   ·have ap1:fD ((fs m s++es).map .tup) [.tup vs]=some ((fs m s++(es++[vs])).map .tup):=by
     rw [ko (by rw [MI,MV]; omega),<- NI,Nz (l₂:=[vs])]; rfl
    have ap2:fD ((Nn m s++es.map kQ).map .tup) [.tup (kQ vs)]=some ((Nn m s++(es++[vs]).map kQ).map .tup):=by
     rw [ko (by rw [MI,MV,MI]; omega),Nz (l₁:=es),<- NI,Nz (l₂:=[vs].map kQ)]; rfl
    have ad:bY (.tup vs) (.tup [.tup []])=some (.tup (kQ vs)):=iI vs _ (by rw [M1]; omega)
    have sm1:=fun K:Ks=>kE 4 fD (af (ah 6) (au)) K [some (.val (.tup [.tup (ks.map kf),f1])),none,some (.val (.lst (xs.map .int))),some (.own (.lst ((Nn m s++es.map kQ).map .tup))),some (.own (.lst ((fs m s++es).map .tup))),some (.val (.int x)),some (.val (.tup vs))] (xs:=(fs m s++es).map .tup) rfl
    have sm2:=fun K:Ks=>kE 3 fD (af (f2 bY (ah 6) (cA (af (cA (au)) (au)))) (au)) K [some (.val (.tup [.tup (ks.map kf),f1])),none,some (.val (.lst (xs.map .int))),some (.own (.lst ((Nn m s++es.map kQ).map .tup))),some (.own (.lst ((fs m s++(es++[vs])).map .tup))),some (.val (.int x)),some (.val (.tup vs))] (xs:=(Nn m s++es.map kQ).map .tup) rfl
    generalize (Nn m s++es.map kQ).map D.tup=A at ap2 sm1 sm2
    generalize (Nn m s++(es++[vs]).map kQ).map D.tup=A' at ap2
    generalize (fs m s++es).map D.tup=B at ni ap1 sm1
    generalize (fs m s++(es++[vs])).map D.tup=B' at ap1 sm2
    generalize kQ vs=Ev at ap2 ad
    simp! only [Fm,Hr,Dj,ev,lI,BI,ni,sm1,sm2,ap1,ad,ap2]
 ·rintro ρ' ⟨es,el,nd,he,rfl⟩
  rw [MI] at el
  obtain⟨T',N',eT⟩:=N.add T m1 hm es (fun k h=>(he k h).1) nd (fun k h r hr e=>(he k h).2 (by
   rw [<- lw T hm]
   exact List.mem_map.mpr ⟨r,hr,e⟩)) ‹0›
  refine⟨T',N'.le ‹0›,?_⟩
  rw [hR]
  generalize (Nn m s++es.map kQ).map D.tup=A at eT
  generalize (fs m s++es).map D.tup=B
  simp! only [kl,eT]
end
theorem yW (z:Int) (i n:Nat):o4 (.int z) (.int ((i:Int)%(n:Int)))=some (.int (z / 2 ^ (i%n))):=by
 rw [<- Int.natCast_emod]; exact CD z (i%n)
open Classical in
theorem math (ns:List Int) (hl:ns.length<=63):bc qT 1 17 [.lst (ns.map .int)]=.ok (.bl true):=by
 obtain⟨x,x0,x1,ex⟩:=vB ns 2 (by decide)
 have ex:bc cF 2 3 [.lst (ns.map .int),.int 2]=.ok (.int x):=ex
 obtain⟨y,y0,y1,ey⟩:=iu x x0 ‹0›
 obtain⟨ks,is,jq,nm,n,hn,k1,i1,ki,j8,hk,hi,hq,ef⟩:=Bi ns (y%3==1)
 have fo:=Eo ks is jq nm (y%3==1) ki
 obtain⟨t,T,et⟩:=C8 (ks++is) jq n hn (by rw [MV]; omega) (by rw [MV]; omega) j8 (fun p h=>by
  rcases List.mem_append.mp h with z | z
  ·exact hk p z
  ·exact hi p z) hq (ks.length:Int) ns hl
 have sl:((ks++is).map (·.2.b)).length=ks.length+is.length:=by rw [MI,MV]
 have hs:((ks++is).map (·.2.b)).take ks.length=ks.map (·.2.b):=by
  rw [Nz]
  exact List.take_left' (by rw [MI])
 generalize (ks++is).map (·.2.b)=σ at T sl hs
 obtain⟨m,km⟩:∃ m,ks.length=m:=⟨_,rfl⟩
 rw [km] at et hs sl k1 ki
 have hm:m<=σ.length:=by omega
 have tl:=T.ln
 have g2:=fun i=>cj (i:=i) (show (0:Int) < 2 by decide)
 have g3:=fun i=>cj (i:=i) (show (0:Int) < 3 by decide)
 have g6:=fun i=>cj (i:=i) (show (0:Int) < 6 by decide)
 have g19:=fun i=>cj (i:=i) (show (0:Int) < 19 by decide)
 have g20:=fun i=>cj (i:=i) (show (0:Int) < 20 by decide)
 have d2:=fun i=>cy (i:=i) (show (0:Int) < 2 by decide) (show (2:Int) < 10 ^ 200 by decide)
 have d3:=fun i=>cy (i:=i) (show (0:Int) < 3 by decide) (show (3:Int) < 10 ^ 200 by decide)
 have d5:=fun i=>cy (i:=i) (show (0:Int) < 5 by decide) (show (5:Int) < 10 ^ 200 by decide)
 have d7:=fun i=>cy (i:=i) (show (0:Int) < 7 by decide) (show (7:Int) < 10 ^ 200 by decide)
 have s20:=fun (z:Int) (i:Nat)=>yW z i 20
 have s19:=fun (z:Int) (i:Nat)=>yW z i 19
 have s20:∀ (z:Int) (i:Nat),o4 (.int z) (.int ((i:Int)%20))=some (.int (z / 2 ^ (i%20))):=s20
 have s19:∀ (z:Int) (i:Nat),o4 (.int z) (.int ((i:Int)%19))=some (.int (z / 2 ^ (i%19))):=s19
 obtain⟨v,bv,cv⟩:=uf (ρ:=[none,none,some (.val (.int y))]) (C:=fB (f2 g9 (f2 nw (f2 o4 (f2 dj (ah 2) (fC (.int 3))) (f2 cG (ah 0) (fC (.int 20)))) (fC (.int 1))) (fC (.int 1)))) t 0 fun i r=>⟨[some (.val (.int i)),some (.val (.tup r)),some (.val (.int y))],_,rfl,by simp! only [g20,d3,s20,qJ]; rfl,rfl⟩
 obtain⟨s,bs,cs⟩:=uf (ρ:=[none,none,some (.val (.int y))]) (C:=fB (f2 g9 (f2 nw (f2 o4 (f2 dj (ah 2) (fC (.int 5))) (f2 cG (ah 0) (fC (.int 19)))) (fC (.int 1))) (fC (.int 1)))) t 0 fun i r=>⟨[some (.val (.int i)),some (.val (.tup r)),some (.val (.int y))],_,rfl,by simp! only [g19,d5,s19,qJ]; rfl,rfl⟩
 have V:=T.sub bv
 have Sb:=T.sub bs
 have lc1:∀ a2 a3 a4 a6 a7 a8 a9 a10 a11 a12 a13 a14 a15 a16:Option S,fY [none,none,some 1] (fH (af (ah 5) (au))) (gT 2 (oH [0,1])) (fB (f2 g9 (f2 nw (f2 o4 (f2 dj (ah 2) (fC (.int 3))) (f2 cG (ah 0) (fC (.int 20)))) (fC (.int 1))) (fC (.int 1)))) (ah 1) [some (.val (.lst (ns.map .int))),some (.val (.int y)),a2,a3,a4,some (.val (.tup (t.map .tup))),a6,a7,a8,a9,a10,a11,a12,a13,a14,a15,a16]=.ok (.lst (v.map .tup)):=fun _ _ _ _ _ _ _ _ _ _ _ _ _ _ =>
  dF (ds:=iZ 0 (t.map .tup)) (by simp! only [tZ]) (by rw [hZ,MI]; omega) cv
 have lc2:∀ a2 a3 a4 a6 a7 a8 a9 a10 a11 a12 a13 a14 a15 a16:Option S,fY [none,none,some 1] (fH (af (ah 5) (au))) (gT 2 (oH [0,1])) (fB (f2 g9 (f2 nw (f2 o4 (f2 dj (ah 2) (fC (.int 5))) (f2 cG (ah 0) (fC (.int 19)))) (fC (.int 1))) (fC (.int 1)))) (ah 1) [some (.val (.lst (ns.map .int))),some (.val (.int y)),a2,a3,a4,some (.val (.tup (t.map .tup))),a6,a7,a8,a9,a10,a11,a12,a13,a14,a15,a16]=.ok (.lst (s.map .tup)):=fun _ _ _ _ _ _ _ _ _ _ _ _ _ _ =>
  dF (ds:=iZ 0 (t.map .tup)) (by simp! only [tZ]) (by rw [hZ,MI]; omega) cs
 have n1:=tU V k1 hm (d0:=.tup (v.map .tup)) rfl
 have n2:=tU Sb k1 hm (d0:=.lst (s.map .tup)) rfl
 rw [HH] at n1 n2
 have nv:=tW (m:=m) V
 have fv:=om v (V.fsh hm)
 obtain⟨RR,hR⟩:∃ F:cB,F=(aK (bM 11 (fY [none,some 4] (bw (ah 8)) (gN 0) (dE) (bf (ah 0) (aP) (bH (ah 1))))) (aK (bM 12 (fY [none,some 4,some 11] (bw (ah 7)) (gN 0) (xJ (fB (f2 g9 (f2 bq (ah 0) (n9 (fC (.int 1)))) (cA (au)))) (fB (f2 jh (bf (ah 0) (aP) (bH (ah 1))) (ah 2)))) (ah 0))) (aK (bM 13 (fR (bc aN 2 4) (af (ah 4) (af (f2 bY (fL jS (af (ah 8) (au))) (ah 12)) (au))))) (aK (bM 14 (fNew "Unnest" ["name"] (af (f2 bq (f2 bq (f2 bq (ah 3) (fC (.int 1))) (fC (.int 0))) (fC (.int 0))) (au)))) (aK (bM 15 (eM "put" [("Step",(bc bS 4 4)),("Unnest",(bc aZ 4 6))] (ah 14) (af (ah 3) (af (ah 7) (af (ah 6) (au)))))) (aK (ng (DM (nK (dW (fR (aA 12) (af (ah 15) (af (ah 13) (au)))))) (nK (dW (fR (aA 12) (af (eM "got" [("Step",(bc dA 3 3)),("Unnest",(bc bW 3 3))] (ah 14) (af (ah 3) (af (ah 15) (au)))) (af (ah 6) (au))))))) (ce (fC (.bl false))) (cX)) (aK (ng (nK (dW (fR (aA 12) (af (eM "put" [("Step",(bc bS 4 4)),("Unnest",(bc aZ 4 6))] (ah 14) (af (ah 3) (af (ah 7) (af (eM "got" [("Step",(bc dA 3 3)),("Unnest",(bc bW 3 3))] (ah 14) (af (ah 3) (af (ah 7) (au)))) (au))))) (af (ah 7) (au)))))) (ce (fC (.bl false))) (cX)) (aK (bM 16 (fY [none] (bw (ah 7)) (gN 0) (fB (f2 g9 (f2 bq (ah 0) (n9 (fC (.int 1)))) (cA (au)))) (ah 0))) (ce (nu (fR (aA 12) (af (eM "put" [("Step",(bc bS 4 4)),("Unnest",(bc aZ 4 6))] (ah 14) (af (ah 3) (af (ah 7) (af (cA (au)) (au))))) (af (fL cm (af (ah 16) (au))) (au)))) (fR (aA 12) (af (eM "put" [("Step",(bc bS 4 4)),("Unnest",(bc aZ 4 6))] (ah 14) (af (ah 3) (af (cA (au)) (af (ah 6) (au))))) (af (ah 8) (au)))))))))))))):=⟨_,rfl⟩
 rw [rY]; unfold qT
 rw [<- hR]
 cases hb:(y%3==1) with
 | true =>
  rw [hb] at ef fo
  have rs:=y6 (NT.new Sb hm) Sb V k1 hm ‹0› (by decide) ks is jq nm true km (.lst (ns.map .int)) (.int y) (.tup (t.map .tup)) none none
  rw [<- hR] at rs
  simp! only [ex,ey,g3,hb,ef,fo,MI,km,et,lc1,lc2,n1,n2]
  exact rs
 | false =>
  rw [hb] at ef fo
  obtain⟨q,q5,eq⟩:∃ q:Nat,q<=5/\y / 2%6=(q:Int):=⟨(y / 2%6).toNat,by omega,by omega⟩
  have rq:=jH q ‹0›
  have mm:=fun (i j:Int) (h:-(2 ^ 64) < i) (h':i < 2 ^ 64)=>kA (i:=i) (j:=j) h h'
  obtain⟨xs,xl,xp,xe⟩:=v5 (ρ:=[none,some (.val (.int y))]) (g:=gN 0) (C:=dE) (Fe:=fR (bc aG 1 1) (af (f2 bY (ah 1) (f2 jR (f2 jR (fC (.int 7)) (ah 0)) (ah 0))) (au))) (fun d=>∃ z:Int,d=.int z/\0<=z/\z < 2147483700) (eP 0 q) fun d hd=>by
   obtain⟨k,hk,rfl⟩:∃ k:Nat,k < q/\d=.int (k:Int):=by
    rw [jv] at hd
    obtain⟨k,hk,rfl⟩:=List.mem_map.mp hd
    exact⟨k,List.mem_range.mp hk,by simp⟩
   have k5:k*k<=25:=Nat.mul_le_mul (show k<=5 by omega) (show k<=5 by omega)
   have k5':(7*(k:Int))*(k:Int)<=175/\0<=(7*(k:Int))*(k:Int):=by
    rw [Int.mul_assoc,<- Int.natCast_mul]; omega
   obtain⟨z,z0,z1,ez⟩:=CF (y+7*(k:Int)*(k:Int)) ‹0› ‹0›
   have m7:=mm 7 (k:Int) (by decide) (by decide)
   have m8:=mm (7*(k:Int)) (k:Int) ‹0› ‹0›
   refine⟨[some (.val (.int k)),some (.val (.int y))],.int z,rfl,rfl,?_,z,rfl,z0,by omega⟩
   simp! only [m7,m8,ez]
  obtain⟨zs,rfl⟩:∃ zs:List Int,xs=zs.map .int:=by
   clear xe xl
   induction xs with
   | nil=>exact⟨[],rfl⟩
   | cons a xs ih =>
    obtain⟨z,rfl,_⟩:=xp a Mu
    obtain⟨zs,e⟩:=ih fun v hv=>xp v (Mv _ hv)
    exact⟨z::zs,by rw [e]; rfl⟩
  rw [MI,cV] at xl
  have lc3:∀ a2 a3 a4 a5 a6 a7 a8 a9 a10 a11 a12 a13 a14 a15 a16:Option S,fY [none,some 1] (fN (af (f2 cG (f2 dj (ah 1) (fC (.int 2))) (fC (.int 6))) (au))) (gN 0) (dE) (fR (bc aG 1 1) (af (f2 bY (ah 1) (f2 jR (f2 jR (fC (.int 7)) (ah 0)) (ah 0))) (au))) [some (.val (.lst (ns.map .int))),some (.val (.int y)),a2,a3,a4,a5,a6,a7,a8,a9,a10,a11,a12,a13,a14,a15,a16]=.ok (.lst (zs.map .int)):=fun _ _ _ _ _ _ _ _ _ _ _ _ _ _ _ =>
   dF (ds:=eP 0 q) (by simp! only [d2,g6,eq,rq]) (by rw [cV]; omega) xe
  obtain⟨T1,N1,e1⟩:=DL Sb k1 hm ks ‹0› hk hs km (.tup [.tup [.str nm,.tup [.str "rows",fr is jq,.bl false]]]) zs (fun z hz=>by
   obtain⟨z',h1,h2,h3⟩:=xp (.int z) (List.mem_map.mpr ⟨z,hz,rfl⟩)
   injection h1 with h1
   rw [h1]; exact⟨h2,h3⟩) ‹0›
  have T1l:=N1.len Sb
  have T1s:=N1.sh Sb hm
  have lk:=fun ρ h4 h7=>zF (m:=m) T1 ‹0› (G:=bw (ah 7)) (ρ:=ρ) h7 h4
  obtain⟨j,j3,ej⟩:∃ j:Nat,j<=2/\y / 7%3=(j:Int):=⟨(y / 7%3).toNat,by omega,by omega⟩
  obtain⟨es0,he0⟩:∃ es0,es0=((((Nn m v).drop j).filter fun r=>decide (r.take m∉T1.map fun r=>r.take m)).map fun r=>r.take m):=⟨_,rfl⟩
  have cf:cutD ((Nn m v).map D.tup) (some ((j:Nat):Int)) none=((Nn m v).drop j).map .tup:=by
   rw [sC,List.map_drop]
  have dl:((Nn m v).drop j).length<=50:=by rw [MY]; omega
  have lm:∀ a5 a6 a7 a10 a11 a12 a13 a14 a15 a16:Option S,fY [none,some 4,some 9] (bw (bf (ah 8) (bH (f2 cG (f2 dj (ah 1) (fC (.int 7))) (fC (.int 3)))) (aP))) (gN 0) (fB (f2 jh (bf (ah 0) (aP) (bH (ah 1))) (ah 2))) (f2 bY (bf (ah 0) (aP) (bH (ah 1))) (cA (af (cA (au)) (au)))) [some (.val (.lst (ns.map .int))),some (.val (.int y)),some (.val (.bl false)),some (.val (pf ks is jq nm false)),some (.val (.int m)),a5,a6,a7,some (.val (.tup ((Nn m v).map .tup))),some (.val (.lst ((T1.map fun r=>r.take m).map .tup))),a10,a11,a12,a13,a14,a15,a16]=.ok (.lst ((es0.map kQ).map .tup)):=fun _ _ _ _ _ _ _ _ _ _=>by
   refine dF (ds:=((Nn m v).drop j).map .tup) (by simp! only [d7,g3,ej,cf]) (by rw [MI]; omega) ?_
   have em:(es0.map kQ).map D.tup=(((Nn m v).drop j).filter fun r=>decide (r.take m∉T1.map fun r=>r.take m)).map fun r=>.tup (kQ (r.take m)):=by
    rw [he0,Oh,Oh]; rfl
   rw [em]
   refine j9 D.tup _ (fun r=>.tup (kQ (r.take m))) _ fun r hr=>?_
   have hr:=O6 hr
   have ni:=sj (xL V hm hr) (ks:=T1.map fun r=>r.take m) fun k h=>by
    obtain⟨r,hr,rfl⟩:=List.mem_map.mp h
    exact T1s r hr
   have rl:(r.take m).length<=m:=O7 _ _
   have ad:bY (.tup (r.take m)) (.tup [.tup []])=some (.tup (kQ (r.take m))):=iI _ _ (by rw [M1]; omega)
   refine⟨[some (.val (.tup r)),some (.val (.int m)),some (.val (.lst ((T1.map fun r=>r.take m).map .tup)))],rfl,?_,fun _=>?_⟩
   ·generalize (T1.map fun r=>r.take m).map D.tup=A at ni
    simp! only [gX,ni]
   ·generalize (T1.map fun r=>r.take m).map D.tup=A
    simp! only [gX,Fm,Hr,ad]
  have ct2:cutD ((es0.map kQ).map D.tup) none (some 2)=((es0.take 2).map kQ).map .tup:=by
   rw [show (2:Int)=((2:Nat):Int) from rfl,gX,List.map_take,List.map_take]
  have e0m:∀ k∈es0,k∈fs m v/\k∉T1.map fun r=>r.take m:=fun k h=>by
   rw [he0] at h
   obtain⟨r,hr,rfl⟩:=List.mem_map.mp h
   obtain⟨h1,h2⟩:=List.mem_filter.mp hr
   refine⟨?_,of_decide_eq_true h2⟩
   rw [<- lw V hm]
   exact List.mem_map.mpr ⟨r,O6 h1,rfl⟩
  have e0n:es0.Nodup:=by
   have h:=uR m v
   rw [<- lw V hm] at h
   rw [he0]
   exact List.Nodup.sublist (((List.filter_sublist (l:=(Nn m v).drop j)).trans (List.drop_sublist _ _)).map _) h
  obtain⟨T2,N2,e2⟩:=N1.add Sb k1 hm (es0.take 2) (fun k h=>fv k (e0m k (O3 h)).1) (e0n.sublist (MT _ _)) (fun k h r hr e=>(e0m k (O3 h)).2 (List.mem_map.mpr ⟨r,hr,e⟩)) (by have:=O7 2 es0; omega)
  have ad2:=qU (T1.map .tup) (((es0.take 2).map kQ).map .tup) (by
   have:=O7 2 es0
   rw [MI,MI,MI]; omega)
  rw [<- Nz] at ad2
  have c7:5+(es0.take 2).length<=7:=by have:=O7 2 es0; omega
  have rs:=y6 N2 Sb V k1 hm ‹0› c7 ks is jq nm false km (.lst (ns.map .int)) (.int y) (.tup (t.map .tup)) (some (.val (.lst ((T1.map fun r=>r.take m).map .tup)))) (some (.val (.lst ((es0.map kQ).map .tup))))
  rw [<- hR] at rs
  have lk1:=lk [some (.val (.lst (ns.map .int))),some (.val (.int y)),some (.val (.bl false)),some (.val (pf ks is jq nm false)),some (.val (.int m)),some (.val (.tup (t.map .tup))),some (.val (.tup (v.map .tup))),some (.val (.tup (T1.map .tup))),some (.val (.tup ((Nn m v).map .tup))),none,none,none,none,none,none,none,none] rfl rfl
  generalize ((es0.take 2).map kQ).map D.tup=E0 at ct2 ad2
  generalize (es0.map kQ).map D.tup=E1 at lm ct2 rs
  generalize (T1++(es0.take 2).map kQ).map D.tup=E2 at ad2 e2
  generalize (T1.map fun r=>r.take m).map D.tup=E3 at lk1 lm rs
  simp! only [ex,ey,g3,hb,ef,fo,MI,km,et,lc1,lc2,n1,n2,lc3,e1,lk1,lm,yg,ct2,ad2,e2]
  exact rs
end Tk43
open PySem PySem.W PyProof.Rows
theorem PySem.W.Fast.tw5797772048638328595 : True := trivial
theorem PySem.W.Fast.tw8701931208335259362 : True := trivial
theorem PySem.W.Fast.tw14418757951385139749 : True := trivial
theorem PySem.W.Fast.tw11250714645580425042 : True := trivial
theorem PySem.W.Fast.tw16822152106484473696 : True := trivial
theorem PySem.W.Fast.tw14474381942598339720 : True := trivial
theorem PySem.W.Fast.tw3489065371922160011 : True := trivial
theorem PySem.W.Fast.tw5441836416669039193 : True := trivial
theorem PySem.W.Fast.tw8708998167268583529 : True := trivial
theorem PySem.W.Fast.tw15278025604028222533 : True := trivial
theorem PySem.W.Fast.tw4395820804919370907 : True := trivial
theorem PySem.W.Fast.tw2802230738712380243 : True := trivial
theorem PySem.W.Fast.tw16555604024034655444 : True := trivial
theorem PySem.W.Fast.tw1991746682639670716 : True := trivial
theorem PySem.W.Fast.tw7783042862818516453 : True := trivial
theorem PySem.W.Fast.tw6811934622365967780 : True := trivial
theorem PySem.W.Fast.tw17057209260116563179 : True := trivial
theorem PySem.W.Fast.tw12152261177628339875 : True := trivial
theorem PySem.W.Fast.tw929161481135894092 : True := trivial
theorem PySem.W.Fast.tw15027652492395223096 : True := trivial
theorem PySem.W.Fast.tw12658682195879837051 : True := trivial
theorem PySem.W.Fast.tw10447777290662075806 : True := trivial
theorem PySem.W.Fast.tw2043241617624208609 : True := trivial
theorem PySem.W.Fast.tw1878059323105465897 : True := trivial
theorem PySem.W.Fast.tw13323614759118537042 : True := trivial
theorem PySem.W.Fast.tw9325494032075365147 : True := trivial
theorem PySem.W.Fast.tw6027470266341743741 : True := trivial
theorem PySem.W.Fast.tw11344034173830471314 : True := trivial
theorem PySem.W.Fast.tw10052084363199334435 : True := trivial
theorem PySem.W.Fast.tw18307501991681328876 : True := trivial
theorem PySem.W.Fast.tw2461045687390851361 : True := trivial
theorem PySem.W.Fast.tw4426748650874911161 : True := trivial
theorem PySem.W.Fast.tw3254036281723204344 : True := trivial
theorem PySem.W.Fast.tw6810379206114760881 : True := trivial
theorem PySem.W.Fast.tw4947631057068207308 : True := trivial
theorem PySem.W.Fast.tw4726772421472202683 : True := trivial
theorem PySem.W.Fast.tw5884741466110435889 : True := trivial
theorem PySem.W.Fast.tw17010178720649481926 : True := trivial
theorem PySem.W.Fast.tw14383024702714616669 : True := trivial
theorem PySem.W.Fast.tw8310358650856861434 : True := trivial
theorem PySem.W.Fast.tw13379539378072908272 : True := trivial
theorem PySem.W.Fast.tw13516083086018176863 : True := trivial
theorem PySem.W.Fast.tw3902161269295696080 : True := trivial
theorem PySem.W.Fast.tw16185483350600261437 : True := trivial
theorem PySem.W.Fast.tw17456887643868838373 : True := trivial
theorem PySem.W.Fast.tw11096061234734345766 : True := trivial
theorem PySem.W.Fast.tw8274063484689774759 : True := trivial
theorem PySem.W.Fast.tw11324471519996829804 : True := trivial
theorem PySem.W.Fast.tw6098636633983380120 : True := trivial
theorem PySem.W.Fast.tw6495026952406240897 : True := trivial
theorem PySem.W.Fast.tw9390591739278447360 : True := trivial
theorem PySem.W.Fast.tw14456297333027057636 : True := trivial
theorem PySem.W.Fast.tw1742945473445541733 : True := trivial
theorem PySem.W.Fast.tw468355976583450385 : True := trivial
theorem PySem.W.Fast.tw12222754282093424839 : True := trivial
theorem PySem.W.Fast.tw3330697148908290795 : True := trivial
theorem PySem.W.Fast.tw15036019428146085423 : True := trivial
theorem PySem.W.Fast.tw10738782606377358470 : True := trivial
theorem PySem.W.Fast.tw6936977911647288882 : True := trivial
theorem PySem.W.Fast.tw8081943005984535340 : True := trivial
theorem PySem.W.Fast.tw4498853277144830089 : True := trivial
theorem PySem.W.Fast.tw1332772034038193923 : True := trivial
theorem PySem.W.Fast.tw4740033871740350387 : True := trivial
theorem PySem.W.Fast.tw11717246119156627223 : True := trivial
theorem PySem.W.Fast.tw17845100131046954679 : True := trivial
theorem PySem.W.Fast.tw12378906189474509719 : True := trivial
theorem PySem.W.Fast.tw17213112916953359563 : True := trivial
set_option maxRecDepth 100000 in
set_option maxHeartbeats 0 in
theorem PySem.Challenge.cw_twoglass_k43_unnests_put_holds : PySem.Challenge.rw_twoglass_k43_unnests_put.Holds := by
  w_on; o_law; k_head; (case hw => w_witness2)
  k_fill
  refine Tk43.walk (l := PySem.Challenge.rw_twoglass_k43_unnests_put) rfl rfl (fun w h Y => ⟨PySem.W.km_in_of Y, PySem.W.km_tabs_of Y _ (List.Mem.head _)⟩) ?F Tk43.math
  case F =>
    intro w mg fa h KX G hmg
    refine' Tk43.all_mk KX G hmg ?ac0 ?ac1 ?a0 ?l0 ?c0 ?k0 ?a1 ?i1 ?l1 ?c1 ?k1 ?a2 ?l2 ?c2 ?k2 ?a3 ?l3 ?c3 ?k3 ?a4 ?l4 ?c4 ?k4 ?a5 ?l5 ?c5 ?k5 ?a6 ?i6 ?l6 ?c6 ?k6 ?a7 ?i7 ?l7 ?c7 ?k7 ?a8 ?l8 ?c8 ?k8 ?a9 ?i9 ?l9 ?c9 ?k9 ?a10 ?l10 ?c10 ?k10 ?a11 ?l11 ?c11 ?k11 ?a12 ?l12 ?c12 ?k12 ?a13 ?l13 ?c13 ?k13 ?a14 ?l14 ?c14 ?k14 ?a15 ?l15 ?c15 ?k15 ?a16 ?l16 ?c16 ?k16 ?a17 ?l17 ?c17 ?k17 ?a18 ?l18 ?c18 ?k18 ?a19 ?l19 ?c19 ?k19 ?a20 ?l20 ?c20 ?k20 ?a21 ?l21 ?c21 ?k21 ?a22 ?l22 ?c22 ?k22 ?a23 ?l23 ?c23 ?k23 ?a24 ?l24 ?c24 ?k24 ?a25 ?l25 ?c25 ?k25 ?a26 ?l26 ?c26 ?k26 ?a27 ?i27 ?l27 ?c27 ?k27 ?p0 ?q0 ?r0 ?s0 ?p1 ?q1 ?r1 ?s1 ?n1_0 ?m1 ?kp1 ?z0 ?z1 ?z2 ?z3 ?z4 ?z5 ?z6 ?z7 ?z8 ?z9 ?z10 ?z11 ?z12 ?z13 ?lc ?lh ?lt
    (case ac0 => k_is)
    (case ac1 => k_is)
    (case a0 => k_is)
    (case l0 => delta TX.Lk; k_is)
    (case c0 => k_is)
    (case k0 => k_is)
    (case a1 => k_is)
    (case i1 => k_is)
    (case l1 => delta TX.Lk; k_is)
    (case c1 => k_is)
    (case k1 => k_is)
    (case a2 => k_is)
    (case l2 => delta TX.Lk; k_is)
    (case c2 => k_is)
    (case k2 => k_is)
    (case a3 => k_is)
    (case l3 => delta TX.Lk; k_is)
    (case c3 => k_is)
    (case k3 => k_is)
    (case a4 => k_is)
    (case l4 => delta TX.Lk; k_is)
    (case c4 => k_is)
    (case k4 => k_is)
    (case a5 => k_is)
    (case l5 => delta TX.Lk; k_is)
    (case c5 => k_is)
    (case k5 => k_is)
    (case a6 => k_is)
    (case i6 => k_is)
    (case l6 => delta TX.Lk; k_is)
    (case c6 => k_is)
    (case k6 => k_is)
    (case a7 => k_is)
    (case i7 => k_is)
    (case l7 => delta TX.Lk; k_is)
    (case c7 => k_is)
    (case k7 => k_is)
    (case a8 => k_is)
    (case l8 => delta TX.Lk; k_is)
    (case c8 => k_is)
    (case k8 => k_is)
    (case a9 => k_is)
    (case i9 => k_is)
    (case l9 => delta TX.Lk; k_is)
    (case c9 => k_is)
    (case k9 => k_is)
    (case a10 => k_is)
    (case l10 => delta TX.Lk; k_is)
    (case c10 => k_is)
    (case k10 => k_is)
    (case a11 => k_is)
    (case l11 => delta TX.Lk; k_is)
    (case c11 => k_is)
    (case k11 => k_is)
    (case a12 => k_is)
    (case l12 => delta TX.Lk; k_is)
    (case c12 => k_is)
    (case k12 => k_is)
    (case a13 => k_is)
    (case l13 => delta TX.Lk; k_is)
    (case c13 => k_is)
    (case k13 => k_is)
    (case a14 => k_is)
    (case l14 => delta TX.Lk; k_is)
    (case c14 => k_is)
    (case k14 => k_is)
    (case a15 => k_is)
    (case l15 => delta TX.Lk; k_is)
    (case c15 => k_is)
    (case k15 => k_is)
    (case a16 => k_is)
    (case l16 => delta TX.Lk; k_is)
    (case c16 => k_is)
    (case k16 => k_is)
    (case a17 => k_is)
    (case l17 => delta TX.Lk; k_is)
    (case c17 => k_is)
    (case k17 => k_is)
    (case a18 => k_is)
    (case l18 => delta TX.Lk; k_is)
    (case c18 => k_is)
    (case k18 => k_is)
    (case a19 => k_is)
    (case l19 => delta TX.Lk; k_is)
    (case c19 => k_is)
    (case k19 => k_is)
    (case a20 => k_is)
    (case l20 => delta TX.Lk; k_is)
    (case c20 => k_is)
    (case k20 => k_is)
    (case a21 => k_is)
    (case l21 => delta TX.Lk; k_is)
    (case c21 => k_is)
    (case k21 => k_is)
    (case a22 => k_is)
    (case l22 => delta TX.Lk; k_is)
    (case c22 => k_is)
    (case k22 => k_is)
    (case a23 => k_is)
    (case l23 => delta TX.Lk; k_is)
    (case c23 => k_is)
    (case k23 => k_is)
    (case a24 => k_is)
    (case l24 => delta TX.Lk; k_is)
    (case c24 => k_is)
    (case k24 => k_is)
    (case a25 => k_is)
    (case l25 => delta TX.Lk; k_is)
    (case c25 => k_is)
    (case k25 => k_is)
    (case a26 => k_is)
    (case l26 => delta TX.Lk; k_is)
    (case c26 => k_is)
    (case k26 => k_is)
    (case a27 => k_is)
    (case i27 => k_is)
    (case l27 => delta TX.Lk; k_is)
    (case c27 => k_is)
    (case k27 => k_is)
    (case p0 => k_is)
    (case q0 => k_is)
    (case r0 => k_is)
    (case s0 => k_is)
    (case p1 => k_is)
    (case q1 => k_is)
    (case r1 => k_is)
    (case s1 => k_is)
    (case n1_0 => k_is)
    (case m1 => k_is)
    (case kp1 => k_is)
    (case z0 => k_is)
    (case z1 => k_is)
    (case z2 => k_is)
    (case z3 => k_is)
    (case z4 => k_is)
    (case z5 => k_is)
    (case z6 => k_is)
    (case z7 => k_is)
    (case z8 => k_is)
    (case z9 => k_is)
    (case z10 => k_is)
    (case z11 => k_is)
    (case z12 => k_is)
    (case z13 => k_is)
    (case lc => rfl)
    (case lh => kernel_rfl)
    (case lt => kernel_rfl)

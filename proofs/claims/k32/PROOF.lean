import PyProof.Rows.All
import Wide.All
import OpenK.AllK
import Wide.FinOn
import Lean
import PyProof.EqAt
import PyProof.EqKinds
import PyProof.TupleCall
import PyProof.NeKinds
import PyProof.ZipIter
import PyProof.Draws
import PyProof.FactsAll.zip
import KE.KSortTup
import KE.KDictSum
import PyProof.TupleOfSeq
import PyProof.StrWalks
import PyProof.Rows.SetFrom
import KE.KRevIter
import PyProof.Rows.Range3
import KE.KTryMore
import KE.KIsNot
import PyProof.ExcArgsOwn
import PyProof.ExcAttrAll.ValueError
import PyProof.ExcBaseAll.ValueError
import PyProof.NsDelKeeps
import PyProof.Rows.CallKwBuiltin
import PyProof.WalkInts
import PyProof.Rows.Catch
import KE.KLam
import KE.KNestM
import PyProof.FactsAll.list_3
import KE.KDictList
import PyProof.Rows.CountFlat
import KE.KDictOf
import PyProof.AttrMissHeap
import PyProof.DictFindH
import PySem.Challenge.RW_twoglass_k32_rows_sieved
set_option Elab.async false
set_option linter.all false
set_option maxRecDepth 100000
open List renaming filterMap_cons→Oi, mem_cons_self→Oj, mem_cons_of_mem→Ol, mem_append_left→Om, getElem?_set_self→Oo, getElem?_set_ne→Oq, mem_append_right→Ox, size_toArray→Oy, any_eq_false→Oz, length_cons→OA, map_cons→OB, length_map→OC, append_nil→OI, of_mem_zip→OJ, length_take→OL, getElem?_append_right→OM, getElem?_replicate→OO, getElem?_append_left→OQ, getElem?_map→OS, getElem?_take_of_lt→OT, take_sublist→OU, mem_of_getElem?→OV, length_append→OW, filterMap_map→OZ, length_drop→O0, length_set→O2, reverse_cons→O5, length_singleton→O6, map_nil→O7, find?_cons→O8, any_cons→O9, length_nil→Ph, lookup_cons→Pm, forIn_cons→Pn, cons_append→Pr, take_zero→Pt, take_nil→Pw, take_succ_cons→Px, drop_zero→Py, drop_nil→Pz, drop_succ_cons→PB, all_cons→PD, range_succ_eq_map→PF, all_map→PH, getElem?_eq_getElem→PJ, getElem_of_mem→PQ, nil_append→PR, map_congr_left→PV, map_append→PX, filterMap_append→PY, take_add_one→PZ, getElem?_drop→P0, length_range→P4, take_length→P5, getElem?_range→P7, drop_eq_getElem_cons→P8, append_assoc→P9, drop_length→Qa, take_of_length_le→Qb, getElem?_reverse→Qc, length_reverse→Qd, mem_cons→Qf, not_mem_nil→Qg, getElem?_cons_zero→Qh, getElem?_cons_succ→Qi, zip_cons_cons→Qn, contains_cons→Qo, nodup_append→Qq, replicate_zero→Qs, zip_nil_right→Qt, not_lt_nil→Qu, nil_lt_cons→Qv, cons_lt_cons_iff→Qw, pairwise_singleton→Qx, filter_cons_of_pos→Qy, filter_cons_of_neg→Qz, getElem_mem→QA, pairwise_map→QB, getD_eq_getElem?_getD→QC, any_map→QE, map_map→QF, toList_toArray→QG, getElem?_eq_none→QI, mem_singleton→QJ, foldl_cons→QN, mem_of_mem_drop→QP, mem_of_mem_take→QQ, map_drop→QR, map_take→QS, sum_cons→QT, drop_eq_nil_of_le→QU, set_cons_zero→QV, set_cons_succ→QW, take_left'→Q4, mem_nil_iff→Q5, length_filter_le→Q6, take_append_drop→Q7, filter_sublist→Q8, length_take_le→Q9, reverse_perm→Ra
open Int renaming toNat_natCast→OX, ediv_one→OY, emod_nonneg→QZ, emod_lt_of_pos→Q1
open Nat renaming lt_of_lt_of_le→Od, lt_irrefl→Oe, ne_of_lt→Of, le_trans→Og, le_of_lt→Oh, ne_of_gt→Ou, le_refl→Ow, le_of_eq→OD, lt_succ_self→OG, zero_le→OH, lt_trans→Pl, lt_succ_of_lt→Pq, min_self→PK, sub_zero→P6, le_add_right→Qj, add_lt_add_left→Qk, lt_add_of_pos_right→Ql, zero_add→Qm, sub_self→Qr, lt_or_gt_of_ne→QD, lt_or_ge→QH, le_total→QK, min_eq_left→QL, min_eq_right→QM, add_zero→Q3
open Bool renaming false_ne_true→Ot, false_and→Ov, and_eq_true→O1, true_or→Pa, false_or→Pb, false_eq_true→Pp, and_true→PL, and_false→PN, or_eq_true→PP, or_eq_false_iff→Qp, not_true→QX, not_false→QY, and_self→Q0, true_and→Q2
open Option renaming getD_none→O3, isSome_map→Pj, getD_some→Qe, map_some→QO
open PySem renaming Value→Sq, World→Sr, Program→Ss, Addr→Su, Heap→Sw, sizeLine→Sx, mainGlobals→Sz, builtinsNs→SA, bootBuiltins→SD, Around→SE, Shared→SF, Scope→SG, wpAny→SH, Expr→SJ, starEach→SK, Stmt→SL, wpAny_mono→SM, wpAny_Name→SN, CmpOp→SR, compareOp→SU, behindInMarks→SV, wpAny_truthy_bool→SW, wpAny_execs_nil→SY, wpAny_bind→SZ, wpAny_holding→S0, wpAny_standAt→S3, PassesOwn→S4, wpAny_passesOwn→S5, wpAny_pure→S6, wpAny_pyIter_list→S7, foldedSetIterable→S8, binaryOp→S9, sizeLine_eq→Ta, codeAny→Tb, attributeBase→Tc, callWith→Td, keywordEach→Te, recursionLimit→Tf, cLine→Tg, FuncData→Th, BindsTo→Ti, codeAny_mono→Tj, wpAny_Call_Name_kw→Tl, NameKind→Tn, Arguments→To, concat_meets→Tp, noFill_tuple_add→Tq, seq_tuple_add→Tr, IsPart→Ts, wpAny_field→Tt, wpAny_sequenceKey→Tu, wpAny_callSpecial?_slot→Tv, wpAny_call_entry→Tw, wpAny_typeOf→Tx, wpAny_newObj_type→Tz, evalPart_none→TB, evalPart_some→TC, wpAny_Slice→TF, wpAny_getItem_list_slice→TH, Keyword→TJ, wpAny_comprehension_free→TK, wpAny_rule→TL, wpAny_getItem_str_slice→TN, post_val_or_str→TQ, wpAny_seqItems→TR, IsZip→TU, IsPair→TV, wpAny_setField_rec→TY, wpAny_onRaise→TZ, wpAny_updateSeq_pair→T1, wpAny_letGo→T2, wpAny_newTuple→T3, wpAny_attempt→T4, wpAny_newList→Ua, wpAny_collect_seq→Ub
open PySem.W renaming instObj→Rb, methodObj→Rc, Frag→Rf, lookIn→Rg, plainGet→Rh, hasDictIn→Ri, findIn→Rj, handedIn→Rl, plainGet_of→Rm, isFn→Rn, plainOver→Ro, takerIn→Rp, makesIn→Rq, emptyDict→Rr, keepIn→Rt, callWith_K→Ru, cellsFrom_some→Rv, fnOf→Rw, codeIn→Rx, nsIn→Ry, kitOne→Rz, kia_one→RA, isIn→RB, BoolBack→RC, tabObj→RD, kla_fn→RE, OpenLaw→RF, codeHdIn→RG, mg_of→RH, mg_none_of→RJ, kas_ask→T6, kla_obj→Uc
open PySem.Heap renaming lt_size→RK, get?_none_of_le→RL, SameBut→RM, get?_push_of_some→RN, get?_push_size→RO, size_push→RP, get?_update_self→RQ, get?_update_other→RT, get?_push_ne→RU, size_update→RV, get?_update_ne→RW
open PyProof.Rows renaming callWith_type1→RX, slot_tuple_getitem→RY, envOfC→RZ, IsTup→R0, subscriptTail→R1, tail_any→R3, Call_→R4, boot_tuple→R5, boot_all→R6, boot_str→R7, boot_bool→R8, boot_int→R9, boot_list→Sa, boot_max→Sb, boot_min→Sd, IsTup→Sy, SortKind→T5, listUpdate_at→T7, get?_update_seq→T8, seqEpoch_at→T9
open PySem.F renaming slot_tuple_add→Se, entry_tuple_add→Sf, args_tuple_add_2→Sg, slot_list_insert→Si, type_list_insert→Sj, slot_list_append→Sl, type_list_append→Sn
set_option maxHeartbeats 1000000
local macro_rules | `(‹1›)=>`(by first | exact Or.inl rfl | exact Or.inr rfl)
local macro_rules | `(‹2›)=>`(⟨rfl, rfl, rfl, by decide +kernel, rfl, by decide +kernel, by decide +kernel⟩)
local macro_rules | `(‹0›)=>`(by omega)
namespace L2
open PySem PySem.Spec PyProof.Rows

abbrev Key:=Sum Int Str
def uU:Key->Sq->Bool
 | .inl k,v=>Value.isInt k v
 | .inr x,v=>Value.isStrOf x v
def MX (w:Sr):Key->Int
 | .inl k=>hashInt k
 | .inr x=>hashStr w x
theorem dQ:∀ {k:Key} {v:Sq},uU k v=true->(∃ i t,k=Sum.inl i/\v=Value.int i t)\/(∃ x t,k=Sum.inr x/\v=Value.str x t)
 | .inl i,v,h=>by
  obtain⟨t,e⟩:=Value.isInt_shape (k:=i) (v:=v) h
  exact .inl ⟨i,t,rfl,e⟩
 | .inr x,v,h=>by
  obtain⟨t,e⟩:=Value.isStrOf_shape (x:=x) (v:=v) h
  exact .inr ⟨x,t,rfl,e⟩
theorem B1 (i:Int) (t:Tok):uU (.inl i) (.int i t)=true:=by simp [uU,Value.isInt]
theorem CW (x:Str) (t:Tok):uU (.inr x) (.str x t)=true:=by simp [uU,Value.isStrOf]
theorem Jk (a b:Int):decide ((Sum.inl a:Key)=Sum.inl b)=(a==b):=by
 by_cases e:a=b
 ·subst e; simp
 ·have h:¬ (Sum.inl a:Key)=Sum.inl b:=fun q=>e (Sum.inl.inj q)
  rw [decide_eq_false h]
  exact(beq_eq_false_iff_ne.mpr e).symm
theorem IE (a b:Str):decide ((Sum.inr a:Key)=Sum.inr b)=decide (a=b):=by
 by_cases e:a=b
 ·subst e; simp
 ·have h:¬ (Sum.inr a:Key)=Sum.inr b:=fun q=>e (Sum.inr.inj q)
  rw [decide_eq_false h,decide_eq_false e]
theorem Je (a:Int) (b:Str):decide ((Sum.inl a:Key)=Sum.inr b)=false:=decide_eq_false (fun q=>nomatch q)
theorem IK (a:Str) (b:Int):decide ((Sum.inr a:Key)=Sum.inl b)=false:=decide_eq_false (fun q=>nomatch q)

def fq (prog:Ss) (w:Sr):PySem.KeyKind prog w Key where
 is:=uU
 hash:=MX w
 inj:=fun v a b ha hb=>by
  rcases dQ ha with ⟨i,t,rfl,rfl⟩ | ⟨x,t,rfl,rfl⟩
  ·rcases dQ hb with ⟨j,u,rfl,e⟩ | ⟨y,u,rfl,e⟩
   ·injection e with e1 _; rw [e1]
   ·exact nomatch e
  ·rcases dQ hb with ⟨j,u,rfl,e⟩ | ⟨y,u,rfl,e⟩
   ·exact nomatch e
   ·injection e with e1 _; rw [e1]
 byValue:=fun k v h=>by
  rcases dQ h with ⟨i,t,rfl,rfl⟩ | ⟨x,t,rfl,rfl⟩ <;> rfl
 pyHash:=fun hv h=>by
  rcases dQ hv with ⟨i,t,rfl,rfl⟩ | ⟨x,t,rfl,rfl⟩
  ·exact wpAny_pyHash_int h
  ·exact wpAny_pyHash_str h
 eqBool:=fun hu hv h=>by
  rcases dQ hu with ⟨i,t,rfl,rfl⟩ | ⟨x,t,rfl,rfl⟩
  ·rcases dQ hv with ⟨j,u,rfl,rfl⟩ | ⟨y,u,rfl,rfl⟩
   ·rw [Jk] at h; exact wpAny_eqBool_int h
   ·rw [Je] at h; exact SeqAt.EqAt.int_str i t y u _ _ _ _ h
  ·rcases dQ hv with ⟨j,u,rfl,rfl⟩ | ⟨y,u,rfl,rfl⟩
   ·rw [IK] at h; exact SeqAt.EqAt.str_int x t j u _ _ _ _ h
   ·rw [IE] at h; exact wpAny_eqBool_str h
 «strs»:=fun k x t v h=>by
  rcases dQ h with ⟨i,u,rfl,e⟩ | ⟨y,u,rfl,e⟩
  ·exact nomatch e
  ·injection e with e1 _
   subst e1
   cases v <;> rfl

theorem yO (prog:Ss) (w:Sr) (i:Int) (t:Tok):(fq prog w).is (.inl i) (.int i t)=true:=B1 i t
theorem yp (prog:Ss) (w:Sr) (x:Str) (t:Tok):(fq prog w).is (.inr x) (.str x t)=true:=CW x t
end L2

namespace L2
open PySem PySem.Spec PyProof.Rows

inductive V where
 | non | bl (b:Bool) | int (i:Int) | str (x:Str) | byt (b:Array UInt8) | flt (b:UInt64) | ref (a:Su) | ty (n:String)
 deriving DecidableEq

def RelV:V->Sq->Prop
 | .non,u=>u=Value.none
 | .bl b,u=>u=Value.bool b
 | .int i,u=>∃ t,u=Value.int i t
 | .str x,u=>∃ t,u=Value.str x t
 | .byt b,u=>∃ t,u=Value.bytes b t
 | .flt b,u=>∃ t,u=Value.float b t
 | .ref a,u=>u=Value.ref a
 | .ty n,u=>u=Value.type n

abbrev Vals:List V->List Sq->Prop:=Paired RelV
theorem Vals.length {xs:List V} {us:List Sq} (r:Vals xs us):xs.length=us.length:=Paired.length r
theorem Vals.get:∀ {xs:List V} {us:List Sq} {i:Nat} {x:V},Vals xs us->xs[i]?=some x->∃ u,us[i]?=some u/\RelV x u
 | _,_,_,_,.nil,e=>by simp at e
 | _,_,0,_,.cons r _,e=>by simp at e; subst e; exact⟨_,rfl,r⟩
 | _,_,i+1,x,.cons _ t,e=>by
  obtain⟨u,h1,h2⟩:=Vals.get (i:=i) (x:=x) t (by simpa using e)
  exact⟨u,by simpa using h1,h2⟩
theorem Vals.set {x:V} {u:Sq} (r:RelV x u):∀ {xs:List V} {us:List Sq} (i:Nat),Vals xs us->Vals (xs.set i x) (us.set i u)
 | _,_,_,.nil=>.nil
 | _,_,0,.cons _ t=>.cons r t
 | _,_,i+1,.cons q t=>.cons q (Vals.set r i t)
theorem Vals.append:∀ {xs ys:List V} {us ws:List Sq},Vals xs us->Vals ys ws->Vals (xs++ys) (us++ws)
 | _,_,_,_,.nil,s=>s
 | _,_,_,_,.cons r t,s=>.cons r (Vals.append t s)
theorem Vals.take:∀ {xs:List V} {us:List Sq} (n:Nat),Vals xs us->Vals (xs.take n) (us.take n)
 | _,_,0,_=>.nil
 | _,_,_+1,.nil=>.nil
 | _,_,n+1,.cons r t=>.cons r (Vals.take n t)
theorem Vals.drop:∀ {xs:List V} {us:List Sq} (n:Nat),Vals xs us->Vals (xs.drop n) (us.drop n)
 | _,_,0,r=>r
 | _,_,_+1,.nil=>.nil
 | _,_,n+1,.cons _ t=>Vals.drop n t
def xF:Option V->Option Sq->Prop
 | some v,some u=>RelV v u
 | none,none=>True
 | _,_=>False
def KV {κ:Type}:List (κ×V)->List (κ×Sq)->Prop:=Paired fun (p:κ×V) (q:κ×Sq)=>p.1=q.1/\RelV p.2 q.2

def kV:Key->V
 | .inl i=>.int i
 | .inr x=>.str x

inductive HO where
  | lst (xs:List V)
  | tup (xs:List V)
  | dK (kvs:List (Key×V)) | dT (kvs:List (List Key×V))
  | set (S:Int->Bool) (n:Nat)
  | ins (C dx:Su) (fs:List (Str×V))
  | own (x:Su)
  | xd (fs:List (Str×V))
  | met (f x:Su)
  | rng (lo hi:Int)
  | frz (o:Obj) (u:HO)
  | tbl (ps:Array Sq)
  | ext (φ:(Su->Prop)->Sw->Prop)

abbrev Hp:=Su->Option HO
def upd (H:Hp) (a:Su) (o:HO):Hp:=fun b=>if b=a then some o else H b
theorem cg {H:Hp} {a:Su} {o:HO}:upd H a o a=some o:=by unfold upd; rw [if_pos rfl]
theorem bF {H:Hp} {a b:Su} {o:HO} (h:b≠a):upd H a o b=H b:=by unfold upd; rw [if_neg h]
theorem GK {H:Hp} {a:Su} {o u:HO}:upd (upd H a o) a u=upd H a u:=by
 funext b; unfold upd; split <;> rfl
theorem bK {H:Hp} {a b:Su} {o:HO} (h:H a=some o) (h':H b=none):a≠b:=by
 intro e; subst e; rw [h] at h'; cases h'

section
variable (P:Ss) (w:Sr)
def dG (H:Hp) (h:Sw) (a:Su):HO->Prop
 | .lst xs=>xs.length<=Sx/\∃ (its:List Sq) (n:Nat),Vals xs its/\h.get? a=some { cls:=.type "list",data:=.seq its.toArray n }
 | .tup xs=>xs.length<=Sx/\∃ its:List Sq,Vals xs its/\Sy h a its.toArray
 | .dK kvs=>kvs.length<=Sx/\(a==sysModules)=false/\∃ vs,KV kvs vs/\h.DictOf (fq P w) a vs
 | .dT kvs=>kvs.length<=Sx/\(a==sysModules)=false/\∃ xs:List (List Key×Su×Sq),
   Paired (fun (p:List Key×V) (q:List Key×Su×Sq)=>p.1=q.1/\H q.2.1=some (.tup (p.1.map kV))/\RelV p.2 q.2.2) kvs xs /\
   ∃ o es ep,h.get? a=some o/\o.ExactDict/\o.data=.dict es ep/\es.toList=xs.map (entryOfKey (tupleKind (fq P w)))/\(xs.map (·.1)).Nodup
 | .set S n=>h.SetOf (intKind P w) a S n
 | .ins C dx fs=>H dx=some (.own a)/\fs.length<=1000/\dx≠a/\h.get? a=some (Rb C dx) /\
   ∃ mA,h.Ns1 dx mA/\(∀ f,xF (fs.lookup f) (mA f))/\PySem.Within mA (fs.map (·.1))
 | .own _=>∃ o,h.get? a=some o
 | .xd fs=>∃ mA,h.Ns1 a mA/\∀ f,xF (fs.lookup f) (mA f)
 | .rng lo hi=>∃ t u v,h.get? a=some { cls:=.type "range",data:=.fields #[.int lo t,.int hi u,.int 1 v] }
 | .frz o u=>h.get? a=some o/\dG H h a u
 | .tbl ps=>h.get? a=some { cls:=.none,data:=.fields ps }
 | .met f x=>h.get? a=some (Rc (.ref f) (.ref x))
 | .ext φ=>φ (fun b=>H b=some (.own a)) h/\(∃ o,h.get? a=some o)/\∀ (S1 S2:Su->Prop) (h1 h2:Sw),φ S1 h1->(∀ b,S1 b->S2 b)->(∀ b o,(b=a\/S1 b)->h1.get? b=some o->h2.get? b=some o)->φ S2 h2
def pS (H:Hp) (h:Sw):Prop:=∀ a o,H a=some o->dG P w H h a o
end

section
variable {P:Ss} {w:Sr} {H H':Hp} {h h':Sw} {a:Su} {o:HO}
theorem dG.lt (x:dG P w H h a o):a < h.objs.size:=by
 cases o with
 | lst xs=>obtain⟨_,_,_,_,e⟩:=x; exact RK e
 | tup xs=>obtain⟨_,_,_,p⟩:=x; exact p.lt
 | dK kvs=>obtain⟨_,_,_,_,o,_,_,e,_⟩:=x; exact RK e
 | dT kvs=>obtain⟨_,_,_,_,o,_,_,e,_⟩:=x; exact RK e
 | set S n=>obtain⟨o,_,_,_,e,_⟩:=x; exact RK e
 | ins C dx fs=>obtain⟨_,_,_,e,_⟩:=x; exact RK e
 | own y=>obtain⟨_,e⟩:=x; exact RK e
 | xd fs=>obtain⟨_,⟨_,_,_,e,_⟩,_⟩:=x; exact RK e
 | rng lo hi=>obtain⟨_,_,_,e⟩:=x; exact RK e
 | frz ob u=>obtain⟨e,_⟩:=x; exact RK e
 | tbl ps=>exact RK (show h.get? a=some _ from x)
 | met f y=>exact RK (show h.get? a=some _ from x)
 | ext φ=>obtain⟨_,⟨_,e⟩,_⟩:=x; exact RK e
theorem Paired.mapP {α β:Type} {F G:α->β->Prop}:∀ {l₁:List α} {l₂:List β},Paired F l₁ l₂->(∀ a b,F a b->G a b)->Paired G l₁ l₂
 | _,_,.nil,_=>.nil
 | _,_,.cons r t,f=>.cons (f _ _ r) (Paired.mapP t f)
theorem dG.stay (x:dG P w H h a o) (k:∀ b u,(b=a\/H b=some (.own a))->h.get? b=some u->h'.get? b=some u)
  (ho:∀ b,H b=some (.own a)->H' b=some (.own a)) (ht:∀ b xs,H b=some (.tup xs)->H' b=some (.tup xs)):dG P w H' h' a o:=by
 induction o with
 | lst xs=>obtain⟨z,its,n,r,e⟩:=x; exact⟨z,its,n,r,k _ _ (.inl rfl) e⟩
 | tup xs=>obtain⟨z,its,r,ob,e,c⟩:=x; exact⟨z,its,r,ob,k _ _ (.inl rfl) e,c⟩
 | dK kvs=>obtain⟨z,y,vs,r,ob,es,ep,e,c⟩:=x; exact⟨z,y,vs,r,ob,es,ep,k _ _ (.inl rfl) e,c⟩
 | dT kvs =>
  obtain⟨z,y,xs,r,ob,es,ep,e,c⟩:=x
  exact⟨z,y,xs,Paired.mapP r fun p q z=>⟨z.1,ht _ _ z.2.1,z.2.2⟩,ob,es,ep,k _ _ (.inl rfl) e,c⟩
 | set S n=>obtain⟨ob,es,ep,t,e,c⟩:=x; exact⟨ob,es,ep,t,k _ _ (.inl rfl) e,c⟩
 | ins C dx fs =>
  obtain⟨d,z,ne,e,mA,⟨od,es,ep,e2,c⟩,r⟩:=x
  exact⟨ho _ d,z,ne,k _ _ (.inl rfl) e,mA,⟨od,es,ep,k _ _ (.inr d) e2,c⟩,r⟩
 | own y=>obtain⟨ob,e⟩:=x; exact⟨ob,k _ _ (.inl rfl) e⟩
 | xd fs=>obtain⟨mA,⟨od,es,ep,e,c⟩,r⟩:=x; exact⟨mA,⟨od,es,ep,k _ _ (.inl rfl) e,c⟩,r⟩
 | rng lo hi=>obtain⟨t,u,v,e⟩:=x; exact⟨t,u,v,k _ _ (.inl rfl) e⟩
 | frz ob u ih=>obtain⟨e,q⟩:=x; exact⟨k _ _ (.inl rfl) e,ih q⟩
 | tbl ps =>
  have e:h.get? a=some { cls:=.none,data:=.fields ps }:=x
  show h'.get? a=some { cls:=.none,data:=.fields ps }
  exact k a _ (.inl rfl) e
 | met f y =>
  have e:h.get? a=some (Rc (.ref f) (.ref y)):=x
  show h'.get? a=some (Rc (.ref f) (.ref y))
  exact k a _ (.inl rfl) e
 | ext φ=>obtain⟨p,⟨o,e⟩,st⟩:=x; exact⟨st _ _ _ _ p ho k,⟨o,k _ _ (.inl rfl) e⟩,st⟩
theorem pS.lt (x:pS P w H h) (e:H a=some o):a < h.objs.size:=(x a o e).lt
theorem pS.fresh (x:pS P w H h) (e:h.objs.size<=a):H a=none:=by
 cases q:H a with
 | none=>rfl
 | some u=>exact absurd (Od (x.lt q) e) (Oe _)
theorem pS.kept (x:pS P w H h) (k:∀ b u,h.get? b=some u->h'.get? b=some u):pS P w H h':=fun a o e =>
 (x a o e).stay (fun b u _ q=>k b u q) (fun _ q=>q) fun _ _ q=>q
theorem pS.laid (x:pS P w H h) (k:∀ b u,h.get? b=some u->h'.get? b=some u) (hp:h.objs.size<=a) (new:dG P w (upd H a o) h' a o):pS P w (upd H a o) h':=fun b u e=>by
 have hn:=x.fresh hp
 by_cases hb:b=a
 ·subst hb; rw [cg] at e; cases e; exact new
 ·rw [bF hb] at e
  exact(x b u e).stay (fun c v _ q=>k c v q) (fun c q=>by rw [bF (bK q hn)]; exact q) fun c xs q=>by rw [bF (bK q hn)]; exact q
end

def Rd (H:Hp) (a:Su) (u:HO):Prop:=H a=some u\/∃ o,H a=some (.frz o u)
theorem Rd.ok {P:Ss} {w:Sr} {H:Hp} {h:Sw} {a:Su} {u:HO} (r:Rd H a u) (x:pS P w H h):dG P w H h a u:=by
 rcases r with r | ⟨o,r⟩
 ·exact x a u r
 ·obtain⟨_,q⟩:=x a _ r
  exact q
def Kw:Option HO->Prop
 | some (.lst _)=>True
 | some (.dK _)=>True
 | some (.dT _)=>True
 | some (.set _ _)=>True
 | some (.ins _ _ _)=>True
 | some (.ext _)=>True
 | _=>False
section
variable {P:Ss} {w:Sr} {H:Hp} {h h':Sw} {x e:Su} {o':HO}
theorem pS.write (ok:pS P w H h) (mu:Kw (H x)) (he:e=x\/H e=some (.own x)) (k:∀ b u,b≠e->h.get? b=some u->h'.get? b=some u) (heo:∃ u,h'.get? e=some u)
  (new:dG P w (upd H x o') h' x o'):pS P w (upd H x o') h':=fun b u q=>by
 have nown:∀ c y,H c=some (.own y)->c≠x:=fun c y r z=>by subst z; rw [r] at mu; exact mu
 have ntup:∀ c xs,H c=some (.tup xs)->c≠x:=fun c xs r z=>by subst z; rw [r] at mu; exact mu
 by_cases hb:b=x
 ·subst hb; rw [cg] at q; cases q; exact new
 ·rw [bF hb] at q
  by_cases hbe:b=e
  ·have q':H b=some (.own x):=by
    rcases he with z | z
    ·exact absurd (hbe.trans z) hb
    ·rw [hbe]; exact z
   rw [q] at q'; cases q'
   obtain⟨v,hv⟩:=heo
   exact⟨v,by rw [hbe]; exact hv⟩
  ·refine(ok b u q).stay (fun c v hc r=>k c v ?_ r) (fun c r=>by rw [bF (nown c b r)]; exact r) fun c xs r=>by rw [bF (ntup c xs r)]; exact r
   rcases hc with rfl | hc
   ·exact hbe
   ·rintro rfl
    rcases he with z | z
    ·exact nown c b hc z
    ·rw [hc] at z; cases z; exact hb rfl
end

structure Un (fs ex:List Su) (H H':Hp) (h h':Sw):Prop where
 keep:∀ b o,h.get? b=some o->H b=none->b∉fs->b∉ex->h'.get? b=some o
 slot:∀ b o,h.get? b=some o->H b=none->b∈fs->b∉ex->∃ sl,h'.get? b=some { o with slots:=sl }
 free:∀ b o,h.get? b=some o->H b=none->b∉ex->H' b=none
 there:∀ b o,h.get? b=some o->b∉ex->∃ o',h'.get? b=some o'
 tups:∀ b xs,H b=some (.tup xs)->H' b=some (.tup xs)
 frzs:∀ b o u,H b=some (.frz o u)->H' b=some (.frz o u)
 tbls:∀ b ps,H b=some (.tbl ps)->∃ more,H' b=some (.tbl (ps++more))
section
variable {fs fs' ex ex':List Su} {H H1 H2:Hp} {h h1 h2 h':Sw} {a x e:Su} {o:HO}
theorem Un.any (u:Un fs ex H H1 h h1) {b:Su} {ob:Obj} (q:h.get? b=some ob) (n:H b=none) (hx:b∉ex):∃ sl,h1.get? b=some { ob with slots:=sl }:=by
 by_cases hb:b∈fs
 ·exact u.slot b ob q n hb hx
 ·exact⟨ob.slots,u.keep b ob q n hb hx⟩
theorem Un.kept (k:∀ b u,h.get? b=some u->h'.get? b=some u):Un fs ex H H h h' :=
 ⟨fun b ob q _ _ _=>k b ob q,fun b ob q _ _ _=>⟨ob.slots,k b ob q⟩,fun _ _ _ n _=>n,fun b ob q _=>⟨ob,k b ob q⟩,fun _ _ q=>q,fun _ _ _ q=>q,fun _ ps q=>⟨#[],by rw [q]; simp⟩⟩
theorem Un.refl:Un fs ex H H h h:=Un.kept fun _ _ q=>q
theorem Un.laid (k:∀ b u,h.get? b=some u->h'.get? b=some u) (hp:h.objs.size<=a) (hn:H a=none):Un fs ex H (upd H a o) h h' where
 keep:=fun b u q _ _ _=>k b u q
 slot:=fun b u q _ _ _=>⟨u.slots,k b u q⟩
 free:=fun b u q n _=>by rw [bF (Of (Od (RK q) hp))]; exact n
 there:=fun b u q _=>⟨u,k b u q⟩
 tups:=fun b xs q=>by rw [bF (bK q hn)]; exact q
 frzs:=fun b u xs q=>by rw [bF (bK q hn)]; exact q
 tbls:=fun b ps q=>⟨#[],by rw [bF (bK q hn),q]; simp⟩
theorem Un.write (mu:Kw (H x)) (he:e=x\/H e=some (.own x)) (k:∀ b u,b≠e->h.get? b=some u->h'.get? b=some u) (heo:∃ u,h'.get? e=some u):Un fs ex H (upd H x o) h h':=by
 have hx:∀ b,H b=none->b≠x:=fun b n z=>by subst z; rw [n] at mu; exact mu
 have hb:∀ b,H b=none->b≠e:=fun b n z=>by
  subst z
  rcases he with r | r
  ·exact hx b n r
  ·rw [n] at r; cases r
 have hm:∀ b u,H b=some u->¬ Kw (some u)->b≠x:=fun b u q nm z=>by subst z; rw [q] at mu; exact nm mu
 refine⟨fun b u q n _ _=>k b u (hb b n) q,fun b u q n _ _=>⟨u.slots,k b u (hb b n) q⟩,fun b u q n _=>by rw [bF (hx b n)]; exact n,fun b u q _=>?_,
  fun b xs q=>by rw [bF (hm b _ q fun z=>z)]; exact q,fun b u xs q=>by rw [bF (hm b _ q fun z=>z)]; exact q,fun b ps q=>⟨#[],by rw [bF (hm b _ q fun z=>z),q]; simp⟩⟩
 by_cases hbe:b=e
 ·subst hbe; exact heo
 ·exact⟨u,k b u hbe q⟩
end

def LI (h:Sw) (H:Hp):List Su:=(List.range h.objs.size).filter fun a=>(H a).isSome
def xX (h:Sw) (H:Hp):Sw:=PySem.W.hideAll h (LI h H)
theorem B3 (h:Sw) (H:Hp):(xX h H).objs.size=h.objs.size:=PySem.W.hideAll_size _ _
theorem sd {h:Sw} {H:Hp} {b:Su} {o:Obj} (e:h.get? b=some o) (n:H b=none):(xX h H).get? b=some o :=
 PySem.W.hideAll_get _ e fun hm=>by
  have q:(H b).isSome=true:=(List.mem_filter.mp hm).2
  rw [n] at q; simp at q
theorem Hf {h:Sw} {H:Hp} {b:Su} {o:Obj} (e:(xX h H).get? b=some o):h.get? b=some o/\H b=none:=by
 have e':h.get? b=some o:=PySem.W.of_hideAll (LI h H) e
 refine⟨e',?_⟩
 cases q:H b with
 | none=>rfl
 | some x =>
  have hm:b∈LI h H:=List.mem_filter.mpr ⟨List.mem_range.mpr (RK e'),by simp [q]⟩
  have z:(xX h H).get? b=none:=PySem.W.hideAll_none (LI h H) hm
  rw [z] at e; cases e

def Fx (g h:Sw) (L:Su):List (Su×Obj):=(List.range h.objs.size).filterMap fun a=>if a=L\/(g.get? a).isSome=true then none else (h.get? a).map fun o=>(a,o)
def rest (g h:Sw) (L d:Su):List (Su×Obj):=(Fx g h L).filter fun p=>decide (p.1≠d)
end L2

namespace L2
open PySem PySem.Spec PyProof.Rows

structure Mod (K:Rf) (mg:Str->Option Sq) (base:Sw):Prop where
 kin:K.In base
 glob:base.Ns Sz mg
 blt:∃ mb,base.Ns SA mb/\∀ x:Str,x ≠ "__name__"->mb x=SD x
 nolimit:base.NoLimit

structure Cx where
 prog:Ss
 w:Sr
 K:Rf
 mg:Str->Option Sq
 base:Sw
 A:SE
 N:List Str
 s₀:SF
 H₀:Hp
 env:Env
 outer:List Env
 stack:List Env
 ex:List Su
 fn:Str->Bool
 calm:Bool
 pn:List (Su×Obj)
 xe:Sq->SF->Prop
def frs (l:List Env):List Su:=l.filterMap (·.frame)
abbrev Cx.fs (X:Cx):List Su:=frs X.outer

def IC (sc:SG) (x:Str):Prop:=sc.names.lookup x=some .local\/sc.names.lookup x=some .cell\/sc.names.lookup x=some .free
def Loc (sc:SG) (x:Str):Prop:=sc.names.lookup x=some .local\/sc.names.lookup x=some .cell
def Look (env:Env) (h:Sw) (m:Str->Option Sq) (x:Str) (u:Sq):Prop :=
 (env.kindOf x=some .local/\m x=some u)\/((env.kindOf x=some .cell\/env.kindOf x=some .free)/\∃ c,env.cells.lookup x=some c/\h.IsCell c (some u))

structure Cx.Ok (X:Cx):Prop where
 mod:Mod X.K X.mg X.base
 kind:X.env.scope.kind=.function
 glob:X.env.globals=Sz
 blt:X.env.builtins=SA
 above:X.s₀.heap.objs.size<=X.env.locals
 inj:∀ x y c,X.env.cells.lookup x=some c->X.env.cells.lookup y=some c->x=y
 has:∀ x,(X.env.kindOf x=some .cell\/X.env.kindOf x=some .free)->∃ c,X.env.cells.lookup x=some c
 cab:∀ x c,X.fn x=true->X.env.cells.lookup x=some c->X.s₀.heap.objs.size<=c
 hd:X.calm=true->X.A.handled=none
 frames:X.A.frames=some X.stack
 stk:X.stack=X.outer\/(X.stack=X.env::X.outer/\X.env.frame=some X.env.locals)
 exf:∀ b∈X.ex,b≠X.env.locals/\∀ x c,X.env.cells.lookup x=some c->c≠b
 bs:∀ b o,X.base.get? b=some o->X.s₀.heap.get? b=some o/\X.H₀ b=none
 bsz:X.base.objs.size<=X.s₀.heap.objs.size
 noex:∀ b o,X.base.get? b=some o->b∉X.ex
 exfs:∀ b∈X.ex,b∉X.fs
 funs:X.s₀.heap.FunFrames X.base X.outer
 frf:∀ b∈X.fs,X.H₀ b=none

structure Inv (X:Cx) (pins:List (Su×Obj)) (σ:List (Option V)) (H:Hp) (s:SF):Prop where
 ok:X.Ok
 os:s.os=X.s₀.os
 bare:AllBare s.gens
 base:Un X.fs X.ex X.H₀ H X.s₀.heap s.heap
 loc:∃ m,s.heap.Ns X.env.locals m/\∀ (i:Nat) (x:Str) (v:V),X.N[i]?=some x->σ[i]?=some (some v)->IC X.env.scope x->∃ u,RelV v u/\Look X.env s.heap m x u
 cell:∀ x c,X.env.cells.lookup x=some c->∃ v,s.heap.IsCell c v
 free:H X.env.locals=none
 freeC:∀ x c,X.env.cells.lookup x=some c->H c=none
 pin:∀ p∈X.pn++pins,s.heap.get? p.1=some p.2/\H p.1=none/\p.1≠X.env.locals/\p.1∉X.fs/\∀ v,p.2.data≠.cell v
 hok:pS X.prog X.w H s.heap
 len:σ.length=X.N.length

section
variable {X:Cx} {pins:List (Su×Obj)} {σ:List (Option V)} {H H':Hp} {s:SF} {h':Sw}

theorem Cx.Ok.nofr (ok:X.Ok) {b:Su} {o:Obj} (e:X.base.get? b=some o):b∉X.fs:=fun hb=>by
 have:=(ok.funs.mem hb).1
 rw [e] at this; cases this
theorem Inv.bs (I:Inv X pins σ H s):∀ b o,X.base.get? b=some o->s.heap.get? b=some o/\H b=none:=fun b o e =>
 ⟨I.base.keep b o (I.ok.bs b o e).1 (I.ok.bs b o e).2 (I.ok.nofr e) (I.ok.noex b o e),I.base.free b o (I.ok.bs b o e).1 (I.ok.bs b o e).2 (I.ok.noex b o e)⟩
theorem Inv.bk (I:Inv X pins σ H s):∀ b o,X.base.get? b=some o->s.heap.get? b=some o:=fun b o e=>(I.bs b o e).1
theorem Inv.mod (I:Inv X pins σ H s):Mod X.K X.mg X.base:=I.ok.mod
theorem Inv.kIn (I:Inv X pins σ H s):X.K.In s.heap:=I.ok.mod.kin.keeps I.bk
theorem Inv.nolimit (I:Inv X pins σ H s):s.heap.NoLimit:=I.ok.mod.nolimit.keeps I.bk
theorem Inv.lt (I:Inv X pins σ H s):X.env.locals < s.heap.objs.size:=let ⟨_,hn,_⟩:=I.loc; hn.lt
theorem Inv.sz (I:Inv X pins σ H s):X.s₀.heap.objs.size<=s.heap.objs.size:=Og I.ok.above (Oh I.lt)
theorem Inv.nofs (I:Inv X pins σ H s) {a:Su} (h:s.heap.objs.size<=a):a∉X.fs:=fun hb=>by
 obtain⟨_,o,ho,_⟩:=I.ok.funs.mem hb
 exact absurd (Od (RK ho) (Og I.sz h)) (Oe _)
theorem Inv.cne (I:Inv X pins σ H s):∀ x c,X.env.cells.lookup x=some c->c≠X.env.locals:=fun x c e z=>by
 obtain⟨v,o,ho,hd⟩:=I.cell x c e
 obtain⟨m,⟨o',es,ep,ho',hd',_⟩,_⟩:=I.loc
 rw [z,ho'] at ho; cases ho; rw [hd'] at hd; cases hd
theorem Inv.funs (I:Inv X pins σ H s):s.heap.FunFrames X.base X.outer:=by
 have all:∀ (l:List Env),(∀ b∈frs l,b∈X.fs)->X.s₀.heap.FunFrames X.base l->s.heap.FunFrames X.base l:=by
  intro l
  induction l with
  | nil=>intro _ _; trivial
  | cons env r ih =>
   intro hs hl
   obtain⟨hk,⟨L,o,hf,hn,ho,hd⟩,hr⟩:=hl
   have hL:L∈X.fs:=hs L (by unfold frs; rw [Oi,hf]; exact Oj)
   obtain⟨sl,e⟩:=I.base.slot L o ho (I.ok.frf L hL) hL fun z=>I.ok.exfs L z hL
   exact⟨hk,⟨L,_,hf,hn,e,hd⟩,ih (fun b hb=>hs b (by unfold frs; rw [Oi,hf]; exact Ol _ hb)) hr⟩
 exact all X.outer (fun _ hb=>hb) I.ok.funs

theorem Inv.stack (I:Inv X pins σ H s):s.heap.FunFrames X.base X.stack:=by
 rcases I.ok.stk with e | ⟨e,hf⟩
 ·rw [e]; exact I.funs
 ·rw [e]
  obtain⟨m,hn,_⟩:=I.loc
  refine .cons (by rw [I.ok.kind]; decide) hf hn ?_ I.funs
  exact RL (Og I.ok.bsz I.ok.above)
theorem Inv.stkSub (I:Inv X pins σ H s):∀ b∈frs X.stack,b∈X.env.locals::X.fs:=fun b hb=>by
 rcases I.ok.stk with e | ⟨e,hf⟩
 ·rw [e] at hb; exact Ol _ hb
 ·rw [e] at hb
  unfold frs at hb
  rw [Oi,hf] at hb
  exact hb
theorem Inv.stkFree (I:Inv X pins σ H s):∀ b∈frs X.stack,H b=none:=fun b hb=>by
 rcases List.mem_cons.mp (I.stkSub b hb) with e | hb
 ·rw [e]; exact I.free
 ·obtain⟨_,o,ho,_⟩:=I.ok.funs.mem hb
  exact I.base.free b o ho (I.ok.frf b hb) fun z=>I.ok.exfs b z hb

theorem Inv.step {g':Array GenState} {t':Nat} {d':Drawn} {ch:List Su} (I:Inv X pins σ H s)
  (hch:∀ b∈ch,(b∈X.ex\/X.s₀.heap.objs.size<=b)/\b≠X.env.locals/\(∀ x c,X.env.cells.lookup x=some c->c≠b)/\∀ p∈X.pn++pins,p.1≠b)
  (keep:∀ b o,b≠X.env.locals->b∉X.fs->b∉ch->s.heap.get? b=some o->H b=none->h'.get? b=some o)
  (slot:∀ b o,b≠X.env.locals->b∈X.fs->b∉ch->s.heap.get? b=some o->H b=none->∃ sl,h'.get? b=some { o with slots:=sl }) (free:∀ b o,b∉ch->s.heap.get? b=some o->H b=none->H' b=none)
  (there:∀ b o,b∉ch->s.heap.get? b=some o->∃ o',h'.get? b=some o')
  (tups:∀ b xs,H b=some (.tup xs)->H' b=some (.tup xs)) (frzs:∀ b o u,H b=some (.frz o u)->H' b=some (.frz o u)) (tbls:∀ b ps,H b=some (.tbl ps)->∃ more,H' b=some (.tbl (ps++more)))
  (ns:∀ m,s.heap.Ns X.env.locals m->h'.Ns X.env.locals m) (hok:pS X.prog X.w H' h') (hg:AllBare g') :
  Inv X pins σ H' { s with heap:=h',gens:=g',drawn:=d',toks:=t' }:=by
 have neL:∀ b o,X.s₀.heap.get? b=some o->b≠X.env.locals:=fun b o e=>Of (Od (RK e) I.ok.above)
 have neC:∀ b o,X.s₀.heap.get? b=some o->b∉X.ex->b∉ch:=fun b o e hx hb=>by
  rcases(hch b hb).1 with z | z
  ·exact hx z
  ·exact absurd (Od (RK e) z) (Oe _)
 have cellK:∀ x c,X.env.cells.lookup x=some c->∀ v,s.heap.IsCell c v->h'.IsCell c v:=fun x c e v ⟨o,ho,hd⟩=>by
  have nch:c∉ch:=fun z=>(hch c z).2.2.1 x c e rfl
  by_cases hc:c∈X.fs
  ·obtain⟨sl,q⟩:=slot c o (I.cne x c e) hc nch ho (I.freeC x c e)
   exact⟨_,q,hd⟩
  ·exact⟨o,keep c o (I.cne x c e) hc nch ho (I.freeC x c e),hd⟩
 refine⟨I.ok,I.os,hg,⟨fun b o e n hb hx=>?_,fun b o e n hb hx=>?_,fun b o e n hx=>?_,fun b o e hx=>?_,fun b xs e=>tups b xs (I.base.tups b xs e),fun b o xs e=>frzs b o xs (I.base.frzs b o xs e),fun b ps e=>?_⟩,?_,fun x c e=>?_,?_,fun x c e=>?_,fun p hp=>?_,hok,I.len⟩
 ·exact keep b o (neL b o e) hb (neC b o e hx) (I.base.keep b o e n hb hx) (I.base.free b o e n hx)
 ·obtain⟨sl,e1⟩:=I.base.slot b o e n hb hx
  obtain⟨sl',e2⟩:=slot b _ (neL b o e) hb (neC b o e hx) e1 (I.base.free b o e n hx)
  exact⟨sl',e2⟩
 ·obtain⟨o',e1⟩:=I.base.there b o e hx
  exact free b o' (neC b o e hx) e1 (I.base.free b o e n hx)
 ·obtain⟨o',e1⟩:=I.base.there b o e hx
  exact there b o' (neC b o e hx) e1
 ·obtain⟨m1,e1⟩:=I.base.tbls b ps e
  obtain⟨m2,e2⟩:=tbls b _ e1
  exact⟨m1++m2,by rw [e2,Array.append_assoc]⟩
 ·obtain⟨m,hn,hl⟩:=I.loc
  refine⟨m,ns m hn,fun i x v e1 e2 e3=>?_⟩
  obtain⟨u,r,l⟩:=hl i x v e1 e2 e3
  refine⟨u,r,?_⟩
  rcases l with l | ⟨k,c,e,z⟩
  ·exact .inl l
  ·exact .inr ⟨k,c,e,cellK x c e _ z⟩
 ·obtain⟨v,z⟩:=I.cell x c e
  exact⟨v,cellK x c e v z⟩
 ·obtain⟨m,⟨o,_,_,ho,_⟩,_⟩:=I.loc
  exact free _ o (fun z=>(hch _ z).2.1 rfl) ho I.free
 ·obtain⟨v,o,ho,hd⟩:=I.cell x c e
  exact free c o (fun z=>(hch c z).2.2.1 x c e rfl) ho (I.freeC x c e)
 ·obtain⟨e,n,ne,nf,d⟩:=I.pin p hp
  have nch:p.1∉ch:=fun z=>(hch p.1 z).2.2.2 p hp rfl
  exact⟨keep p.1 p.2 ne nf nch e n,free p.1 p.2 nch e n,ne,nf,d⟩
theorem Inv.un {t':Nat} (I:Inv X pins σ H s) (u:Un X.fs [] H H' s.heap h') (hok:pS X.prog X.w H' h'):Inv X pins σ H' { s with heap:=h',toks:=t' }:=by
 obtain⟨m,⟨o,es,ep,ho,r⟩,_⟩:=id I.loc
 obtain⟨sl,hL⟩:=u.any ho I.free (by simp)
 exact I.step (g':=s.gens) (d':=s.drawn) (ch:=[]) (fun _ z=>nomatch z) (fun b o _ hb _ e n=>u.keep b o e n hb (by simp)) (fun b o _ hb _ e n=>u.slot b o e n hb (by simp)) (fun b o _ e n=>u.free b o e n (by simp)) (fun b o _ e=>u.there b o e (by simp)) u.tups u.frzs u.tbls (fun m' hm=>by
  obtain⟨o',es',ep',ho',r'⟩:=hm
  rw [ho] at ho'; cases ho'
  exact⟨_,es',ep',hL,r'⟩) hok I.bare
theorem Inv.call {g':Array GenState} {t':Nat} {d':Drawn} {ch:List Su} (I:Inv X pins σ H s) (u:Un (frs X.stack) ch H H' s.heap h') (hok:pS X.prog X.w H' h') (hg:AllBare g')
  (hch:∀ b∈ch,(b∈X.ex\/X.s₀.heap.objs.size<=b)/\b≠X.env.locals/\(∀ x c,X.env.cells.lookup x=some c->c≠b)/\∀ p∈X.pn++pins,p.1≠b) :
  Inv X pins σ H' { s with heap:=h',gens:=g',drawn:=d',toks:=t' }:=by
 obtain⟨m,⟨o,es,ep,ho,r⟩,_⟩:=id I.loc
 obtain⟨sl,hL⟩:=u.any ho I.free fun z=>(hch _ z).2.1 rfl
 exact I.step (ch:=ch) hch (fun b o hL hb hc e n=>u.keep b o e n (fun z=>(List.mem_cons.mp (I.stkSub b z)).elim hL hb) hc) (fun b o _ _ hc e n=>u.any e n hc) (fun b o hc e n=>u.free b o e n hc) (fun b o hc e=>u.there b o e hc) u.tups u.frzs u.tbls (fun m' hm=>by
  obtain⟨o',es',ep',ho',r'⟩:=hm
  rw [ho] at ho'; cases ho'
  exact⟨_,es',ep',hL,r'⟩) hok hg
theorem Inv.turned {t':Nat} {it:Su} (I:Inv X pins σ H s) (k:∀ b o,b≠it->s.heap.get? b=some o->h'.get? b=some o) (hn:H it=none) (hL:it≠X.env.locals)
  (h1:it∈X.ex\/X.s₀.heap.objs.size<=it) (h2:∀ x c,X.env.cells.lookup x=some c->c≠it) (h3:∀ p∈X.pn++pins,p.1≠it):Inv X pins σ H { s with heap:=h',toks:=t' }:=by
 have nit:∀ b u,H b=some u->b≠it:=fun b u e z=>by rw [z,hn] at e; cases e
 refine I.step (g':=s.gens) (d':=s.drawn) (ch:=[it]) (fun b hb=>?_) (fun b o _ _ hc e _=>k b o (fun z=>hc (by simp [z])) e) (fun b o _ _ hc e _=>⟨o.slots,k b o (fun z=>hc (by simp [z])) e⟩) (fun _ _ _ _ n=>n)
  (fun b o hc e=>⟨o,k b o (fun z=>hc (by simp [z])) e⟩) (fun _ _ e=>e) (fun _ _ _ e=>e) (fun b ps e=>⟨#[],by rw [e]; simp⟩) (fun m hm=>?_) (fun b u e=>?_) I.bare
 ·have e:b=it:=by simpa using hb
  subst e
  exact⟨h1,hL,h2,h3⟩
 ·obtain⟨o,es,ep,ho,r⟩:=hm
  exact⟨o,es,ep,k _ o (Ne.symm hL) ho,r⟩
 ·refine(I.hok b u e).stay (fun c v hc q=>k c v ?_ q) (fun _ q=>q) fun _ _ q=>q
  rcases hc with z | z
  ·rw [z]; exact nit b u e
  ·exact nit c _ z
theorem Inv.tok (I:Inv X pins σ H s) (t:Nat):Inv X pins σ H { s with toks:=t }:=I.un (h':=s.heap) (t':=t) Un.refl I.hok
theorem Inv.kept {t':Nat} (I:Inv X pins σ H s) (k:∀ b u,s.heap.get? b=some u->h'.get? b=some u):Inv X pins σ H { s with heap:=h',toks:=t' }:=I.un (Un.kept k) (I.hok.kept k)
theorem Inv.laid {a:Su} {o:HO} {t':Nat} (I:Inv X pins σ H s) (k:∀ b u,s.heap.get? b=some u->h'.get? b=some u) (hp:s.heap.objs.size<=a) (new:dG X.prog X.w (upd H a o) h' a o) :
  Inv X pins σ (upd H a o) { s with heap:=h',toks:=t' }:=I.un (Un.laid k hp (I.hok.fresh hp)) (I.hok.laid k hp new)
theorem Inv.write {x e:Su} {o:HO} {t':Nat} (I:Inv X pins σ H s) (mu:Kw (H x)) (he:e=x\/H e=some (.own x)) (k:∀ b u,b≠e->s.heap.get? b=some u->h'.get? b=some u) (heo:∃ u,h'.get? e=some u)
  (new:dG X.prog X.w (upd H x o) h' x o):Inv X pins σ (upd H x o) { s with heap:=h',toks:=t' }:=I.un (Un.write mu he k heo) (I.hok.write mu he k heo new)
theorem Inv.pins_of {pins':List (Su×Obj)} (I:Inv X pins σ H s) (h:∀ p∈pins',s.heap.get? p.1=some p.2/\H p.1=none/\p.1≠X.env.locals/\p.1∉X.fs/\∀ v,p.2.data≠.cell v):Inv X pins' σ H s :=
 ⟨I.ok,I.os,I.bare,I.base,I.loc,I.cell,I.free,I.freeC,fun p hp=>(List.mem_append.mp hp).elim (fun z=>I.pin p (Om _ z)) (h p),I.hok,I.len⟩

theorem zb {N:List Str} (hN:N.Nodup) {i j:Nat} {x:Str} (a:N[i]?=some x) (b:N[j]?=some x):i=j:=by
 obtain⟨h1,e1⟩:=List.getElem?_eq_some_iff.mp a
 obtain⟨h2,e2⟩:=List.getElem?_eq_some_iff.mp b
 exact(List.getElem_inj hN).mp (e1.trans e2.symm)

theorem vh {M:Model} {A:SE} {E:Sq->SF->Prop} {i:Nat} {x:Str} {v:V} {u:Sq} {Q:Unit->SF->Prop} (I:Inv X pins σ H s) (hN:X.N.Nodup) (hi:X.N[i]?=some x) (hx:Loc X.env.scope x) (r:RelV v u)
  (h:∀ s',Inv X pins (σ.set i (some v)) H s'->(∃ a,RM a s.heap s'.heap/\(a=X.env.locals\/X.env.cells.lookup x=some a))->Q () s') (hf:X.fn x=true\/X.env.scope.names.lookup x=some .local:=by first | exact .inl rfl | exact .inr rfl | assumption):SH M A (storeName X.env x u) Q E s:=by
 obtain⟨m,hn,hl⟩:=id I.loc
 have hcls:(X.env.scope.kind==.class || (X.env.scope.kind==.module && X.env.locals != X.env.globals))=false:=by rw [I.ok.kind]; rfl
 have hiσ:i < σ.length:=by rw [I.len]; exact(List.getElem?_eq_some_iff.mp hi).1
 have cne:=I.cne
 have tracked:∀ {a:Su} {h':Sw},(∃ o,s.heap.get? a=some o/\H a=none)->RM a s.heap h'->pS X.prog X.w H h':=fun {a h'} ha hs b ob e=>by
  obtain⟨_,_,hfree⟩:=ha
  refine(I.hok b ob e).stay (fun c w' hc q=>(hs.2 c ?_).trans q) (fun _ q=>q) fun _ _ q=>q
  rintro rfl
  rcases hc with rfl | hc
  ·rw [hfree] at e; cases e
  ·rw [hfree] at hc; cases hc
 rcases hx with hk | hk
 ·refine wpAny_storeName_local hk hn (fun h' hn' hs=>?_) hcls
  obtain⟨oL,_,_,hoL,_⟩:=id hn
  refine h _ ⟨I.ok,I.os,I.bare,⟨fun b o e n hb hx=>?_,fun b o e n hb hx=>?_,I.base.free,fun b o e hx=>?_,I.base.tups,I.base.frzs,I.base.tbls⟩,⟨_,hn',fun j y v' e1 e2 e3=>?_⟩,fun y c e=>?_,I.free,I.freeC,fun p hp=>?_,tracked ⟨oL,hoL,I.free⟩ hs,by simpa using I.len⟩ ⟨_,hs,.inl rfl⟩
  ·exact(hs.2 b (Of (Od (RK e) I.ok.above))).trans (I.base.keep b o e n hb hx)
  ·obtain⟨sl,e1⟩:=I.base.slot b o e n hb hx
   exact⟨sl,(hs.2 b (Of (Od (RK e) I.ok.above))).trans e1⟩
  ·obtain⟨o',e1⟩:=I.base.there b o e hx
   exact⟨o',(hs.2 b (Of (Od (RK e) I.ok.above))).trans e1⟩
  ·by_cases hj:j=i
   ·subst hj
    rw [hi] at e1; cases e1
    rw [Oo hiσ] at e2
    cases e2
    exact⟨u,r,.inl ⟨hk,by simp⟩⟩
   ·rw [Oq (Ne.symm hj)] at e2
    obtain⟨u',r',q⟩:=hl j y v' e1 e2 e3
    refine⟨u',r',?_⟩
    rcases q with ⟨k,e⟩ | ⟨k,c,e,z⟩
    ·refine .inl ⟨k,?_⟩
     have:y≠x:=fun e=>hj (zb hN e1 (e ▸ hi))
     simp [this,e]
    ·exact .inr ⟨k,c,e,z.sameBut hs (cne y c e)⟩
  ·obtain⟨w',z⟩:=I.cell y c e
   exact⟨w',z.sameBut hs (cne y c e)⟩
  ·obtain⟨e,n,ne,nf,d⟩:=I.pin p hp
   exact⟨(hs.2 p.1 ne).trans e,n,ne,nf,d⟩
 ·have hfn:X.fn x=true:=by
   rcases hf with z | z
   ·exact z
   ·rw [z] at hk; cases hk
  obtain⟨c,hc⟩:=I.ok.has x (.inl hk)
  obtain⟨w',z⟩:=I.cell x c hc
  refine wpAny_storeName_cell I.ok.kind hk hc z (fun h' hc' hs=>?_)
  obtain⟨oc,hoc,hocd⟩:=id z
  refine h { s with heap:=h' } ⟨I.ok,I.os,I.bare,⟨fun b o e n hb hx=>?_,fun b o e n hb hx=>?_,I.base.free,fun b o e hx=>?_,I.base.tups,I.base.frzs,I.base.tbls⟩,⟨m,hn.sameBut hs (Ne.symm (cne x c hc)),fun j y v' e1 e2 e3=>?_⟩,fun y c' e=>?_,I.free,I.freeC,fun p hp=>?_,tracked ⟨oc,hoc,I.freeC x c hc⟩ hs,by simpa using I.len⟩ ⟨c,hs,.inr hc⟩
  ·exact(hs.2 b (Of (Od (RK e) (I.ok.cab x c hfn hc)))).trans (I.base.keep b o e n hb hx)
  ·obtain⟨sl,e1⟩:=I.base.slot b o e n hb hx
   exact⟨sl,(hs.2 b (Of (Od (RK e) (I.ok.cab x c hfn hc)))).trans e1⟩
  ·obtain⟨o',e1⟩:=I.base.there b o e hx
   exact⟨o',(hs.2 b (Of (Od (RK e) (I.ok.cab x c hfn hc)))).trans e1⟩
  ·by_cases hj:j=i
   ·subst hj
    rw [hi] at e1; cases e1
    rw [Oo hiσ] at e2
    cases e2
    exact⟨u,r,.inr ⟨.inl hk,c,hc,hc'⟩⟩
   ·rw [Oq (Ne.symm hj)] at e2
    obtain⟨u',r',q⟩:=hl j y v' e1 e2 e3
    refine⟨u',r',?_⟩
    rcases q with q | ⟨k,c',e,z'⟩
    ·exact .inl q
    ·refine .inr ⟨k,c',e,z'.sameBut hs ?_⟩
     rintro rfl
     exact hj (zb hN e1 (I.ok.inj _ _ _ e hc ▸ hi))
  ·by_cases hcc:c'=c
   ·subst hcc; exact⟨_,hc'⟩
   ·obtain⟨w2,z2⟩:=I.cell y c' e
    exact⟨w2,z2.sameBut hs hcc⟩
  ·obtain⟨e,n,ne,nf,d⟩:=I.pin p hp
   refine⟨(hs.2 p.1 ?_).trans e,n,ne,nf,d⟩
   intro q
   rw [q,hoc] at e
   have q':oc=p.2:=Option.some.inj e
   exact d w' (by rw [<- q']; exact hocd)
theorem yj {M:Model} {A:SE} {E:Sq->SF->Prop} {i:Nat} {x:Str} {v:V} {u:Sq} {Q:Unit->SF->Prop} (I:Inv X pins σ H s) (hN:X.N.Nodup) (hi:X.N[i]?=some x) (hx:Loc X.env.scope x) (r:RelV v u)
  (h:∀ s',Inv X pins (σ.set i (some v)) H s'->Q () s') (hf:X.fn x=true\/X.env.scope.names.lookup x=some .local:=by first | exact .inl rfl | exact .inr rfl | assumption):SH M A (storeName X.env x u) Q E s :=
 vh I hN hi hx r (fun s' I' _=>h s' I') hf
theorem Inv.call' {s':SF} {ch:List Su} (I:Inv X pins σ H s) (ho:s'.os=s.os) (u:Un (frs X.stack) ch H H' s.heap s'.heap) (hok:pS X.prog X.w H' s'.heap) (hg:AllBare s'.gens)
  (hch:∀ b∈ch,(b∈X.ex\/X.s₀.heap.objs.size<=b)/\b≠X.env.locals/\(∀ x c,X.env.cells.lookup x=some c->c≠b)/\∀ p∈X.pn++pins,p.1≠b):Inv X pins σ H' s':=by
 obtain⟨h',g',d',t',o'⟩:=s'
 have e:o'=s.os:=ho
 subst e
 exact I.call (g':=g') (t':=t') (d':=d') u hok hg hch
end

abbrev XK:=Sq->Option Su->Hp->Prop
abbrev St:=List (Option V)
abbrev VK:=V->Hp->Prop
abbrev TE:=St->Hp->VK->Prop
abbrev TT:=St->Hp->(Bool->Hp->Prop)->Prop
abbrev TA:=St->Hp->(List V->Hp->Prop)->Prop
structure Ends where
 nx:St->Hp->Prop
 rt:VK
 bk:St->Hp->Prop:=fun _ _=>False
 ct:St->Hp->Prop:=fun _ _=>False
abbrev TS:=Ends->St->Hp->Prop

def EP (X:Cx) (pins:List (Su×Obj)) (σ:St) (Q:VK) (u:Sq) (s':SF):Prop:=∃ v H',Inv X pins σ H' s'/\RelV v u/\Q v H'
def TP (X:Cx) (pins:List (Su×Obj)) (σ:St) (Q:Bool->Hp->Prop) (b:Bool) (s':SF):Prop:=∃ H',Inv X pins σ H' s'/\Q b H'
def AP (X:Cx) (pins:List (Su×Obj)) (σ:St) (Q:List V->Hp->Prop) (us:List Sq) (s':SF):Prop:=∃ vs H',Inv X pins σ H' s'/\Vals vs us/\Q vs H'
def SP (X:Cx) (pins:List (Su×Obj)) (D:Ends) (f:Flow) (s':SF):Prop :=
 match f with
 | .next=>∃ σ' H',Inv X pins σ' H' s'/\D.nx σ' H'
 | .brk=>∃ σ' H',Inv X pins σ' H' s'/\D.bk σ' H'
 | .cont=>∃ σ' H',Inv X pins σ' H' s'/\D.ct σ' H'
 | .ret u=>∃ v σ' H',Inv X pins σ' H' s'/\RelV v u/\D.rt v H'

def PE (X:Cx) (e:SJ) (t:TE):Prop :=
 ∀ (pins:List (Su×Obj)) (s:SF) (σ:St) (H:Hp) (Q:VK),Inv X pins σ H s->t σ H Q->SH (model X.prog X.w) X.A (eval e X.env) (EP X pins σ Q) X.xe s
def PT (X:Cx) (e:SJ) (t:TT):Prop :=
 ∀ (pins:List (Su×Obj)) (s:SF) (σ:St) (H:Hp) (Q:Bool->Hp->Prop),Inv X pins σ H s->t σ H Q->SH (model X.prog X.w) X.A (isTrue e X.env (eval e X.env)) (TP X pins σ Q) X.xe s
def PW (X:Cx) (e:SJ) (t:TT):Prop :=
 ∀ (whole:Sem Sq) (pins:List (Su×Obj)) (s:SF) (σ:St) (H:Hp) (Q:Bool->Hp->Prop),Inv X pins σ H s->t σ H Q->SH (model X.prog X.w) X.A (isTrue e X.env whole) (TP X pins σ Q) X.xe s
theorem PW.pt {X:Cx} {e:SJ} {t:TT} (h:PW X e t):PT X e t:=h _
def PA (X:Cx) (es:List SJ) (t:TA):Prop :=
 ∀ (pos:Pos) (pins:List (Su×Obj)) (s:SF) (σ:St) (H:Hp) (Q:List V->Hp->Prop),Inv X pins σ H s->t σ H Q->SH (model X.prog X.w) X.A (spliced (backTo pos (SK es X.env))) (AP X pins σ Q) X.xe s
def PS (X:Cx) (st:SL) (t:TS):Prop :=
 ∀ (pins:List (Su×Obj)) (s:SF) (σ:St) (H:Hp) (D:Ends),Inv X pins σ H s->t D σ H->SH (model X.prog X.w) X.A (exec st X.env) (SP X pins D) X.xe s
def xx (X:Cx) (st:List SL) (t:TS):Prop :=
 ∀ (pins:List (Su×Obj)) (s:SF) (σ:St) (H:Hp) (D:Ends),Inv X pins σ H s->t D σ H->SH (model X.prog X.w) X.A (execs st X.env) (SP X pins D) X.xe s
theorem dX {α:Type} {t:Sem α} {Q Q':α->SF->Prop} {M:Model} {A:SE} {E:Sq->SF->Prop} {s:SF} (h:SH M A t Q E s) (hQ:∀ a s,Q a s->Q' a s):SH M A t Q' E s:=SM h hQ fun _ _ x=>x
end L2

namespace L2
open PySem PySem.Spec PyProof.Rows
section
variable {X:Cx}

def qy (i:Nat):TE:=fun σ H Q=>∃ v,σ[i]?=some (some v)/\Q v H
def tC (v:V):TE:=fun _ H Q=>Q v H
theorem Jb {i:Nat} {x:Str} {pos:Pos} (hN:X.N[i]?=some x) (hv:IC X.env.scope x) (hd:(x==("__debug__":Str))=false:=by decide) (hcd:(x==("__classdict__":Str))=false:=by decide):PE X (.Name x pos) (qy i):=by
 intro pins s σ H Q I h
 obtain⟨v,e,h⟩:=h
 obtain⟨m,hn,hl⟩:=I.loc
 obtain⟨u,r,l⟩:=hl i x v hN e hv
 have fin:EP X pins σ Q u s:=⟨v,H,I,r,h⟩
 rcases l with ⟨hk,hm⟩ | ⟨hk,c,hc,hcell⟩
 ·exact SN (wpAny_loadName_local I.ok.kind hk hn hm fin) hd
 ·rcases hk with hk | hk
  ·exact SN (wpAny_loadName_cell I.ok.kind hk hc hcell fin) hd
  ·exact SN (wpAny_loadName_free I.ok.kind hk hc hcell fin hcd) hd
theorem zZ {i j pos}:PE X (.Constant (.int i) j pos) (tC (.int i)):=fun _ _ _ H _ I h=>wpAny_Constant_int ⟨.int i,H,I.tok _,⟨_,rfl⟩,h⟩
theorem KL {b j pos}:PE X (.Constant (.bool b) j pos) (tC (.bl b)):=fun _ _ _ H _ I h=>Constant_bool ⟨.bl b,H,I,rfl,h⟩
theorem Iu {j pos}:PE X (.Constant .none j pos) (tC .non):=fun _ _ _ H _ I h=>Constant_none ⟨.non,H,I,rfl,h⟩
theorem IU {x j pos}:PE X (.Constant (.str x) j pos) (tC (.str x)):=fun _ _ _ H _ I h=>Calls.Constant_str ⟨.str x,H,I.tok _,⟨_,rfl⟩,h⟩

def Gl (X:Cx) (x:Str):Prop:=X.env.kindOf x=some .globalImplicit
theorem xj {E:Sq->SF->Prop} {pins:List (Su×Obj)} {s:SF} {σ:St} {H:Hp} {x:Str} {u:Sq} {pos:Pos} {Q:Sq->SF->Prop} (I:Inv X pins σ H s) (hg:Gl X x) (hm:X.mg x=some u) (h:Q u s)
  (hd:(x==("__debug__":Str))=false:=by decide):SH (model X.prog X.w) X.A (eval (.Name x pos) X.env) Q E s :=
 Calls.Name_function_global I.ok.kind hg (Calls.loadGlobal_global (by rw [I.ok.glob]; exact I.mod.glob.keeps I.bk) hm h) hd
theorem n9 {E:Sq->SF->Prop} {pins:List (Su×Obj)} {s:SF} {σ:St} {H:Hp} {x:Str} {u:Sq} {pos:Pos} {Q:Sq->SF->Prop} (I:Inv X pins σ H s) (hg:Gl X x) (hm:X.mg x=none) (hv:SD x=some u) (h:Q u s)
  (hn:x ≠ "__name__":=by decide) (hd:(x==("__debug__":Str))=false:=by decide):SH (model X.prog X.w) X.A (eval (.Name x pos) X.env) Q E s:=by
 obtain⟨mb,h1,h2⟩:=I.mod.blt
 exact Calls.Name_function_global I.ok.kind hg (Calls.loadGlobal_builtin (by rw [I.ok.glob]; exact I.mod.glob.keeps I.bk) hm (by rw [I.ok.blt]; exact h1.keeps I.bk) ((h2 x hn).trans hv) h) hd
theorem Hg {x:Str} {v:V} {u:Sq} {pos:Pos} (hg:Gl X x) (hm:X.mg x=some u) (r:RelV v u) (hd:(x==("__debug__":Str))=false:=by decide):PE X (.Name x pos) (tC v) :=
 fun _ _ _ H _ I h=>xj I hg hm ⟨v,H,I,r,h⟩ hd
theorem G7 {x:Str} {v:V} {u:Sq} {pos:Pos} (hg:Gl X x) (hm:X.mg x=none) (hv:SD x=some u) (r:RelV v u) (hn:x ≠ "__name__":=by decide) (hd:(x==("__debug__":Str))=false:=by decide):PE X (.Name x pos) (tC v) :=
 fun _ _ _ H _ I h=>n9 I hg hm hv ⟨v,H,I,r,h⟩ hn hd

variable {a b:SJ} {ta tb:TE} {pos:Pos}
def PC (X:Cx) (op:SR) (a b:SJ) (t:TE):Prop :=
 ∀ (pins:List (Su×Obj)) (s:SF) (σ:St) (H:Hp) (Q:VK),Inv X pins σ H s->t σ H Q ->
  SH (model X.prog X.w) X.A (eval a X.env) (fun v s₁=>SH (model X.prog X.w) X.A (eval b X.env) (fun u s₂=>SH (model X.prog X.w) X.A (SU op v u) (EP X pins σ Q) X.xe s₂) X.xe s₁) X.xe s
theorem DG (b:SJ) {op:SR} (h:op≠.In) (h2:op≠.NotIn):SV op b=false:=by
 have e1:(op==CmpOp.In)=false:=by cases op <;> first | rfl | exact absurd rfl h
 have e2:(op==CmpOp.NotIn)=false:=by cases op <;> first | rfl | exact absurd rfl h2
 cases b <;> simp [SV,e1,e2]
def NA (ta:TE):TE:=fun σ H Q=>ta σ H fun x H1=>Q (.bl (decide (x=.non))) H1
theorem RelV.none_iff {x:V} {v:Sq} (r:RelV x v):(v==Value.none)=decide (x=.non):=by
 cases x with
 | non=>cases r; rfl
 | bl _=>cases r; rfl
 | int _=>obtain⟨t,rfl⟩:=r; rfl
 | str _=>obtain⟨t,rfl⟩:=r; rfl
 | byt _=>obtain⟨t,rfl⟩:=r; rfl
 | flt _=>obtain⟨t,rfl⟩:=r; rfl
 | ref _=>cases r; rfl
 | ty _=>cases r; rfl
theorem Ie {j pos'} (ha:PE X a ta):PC X .Is a (.Constant .none j pos') (NA ta):=by
 intro pins s σ H Q I h
 refine dX (ha pins s σ H _ I h) fun v s1 ⟨x,H1,I1,r1,q1⟩=>?_
 exact Constant_none (is_none_gen ⟨.bl _,H1,I1,by rw [r1.none_iff]; rfl,q1⟩)
def tB (t:TE):TT:=fun σ H Q=>t σ H fun x H1=>∃ c,x=.bl c/\Q c H1
theorem Ip {op:SR} {t:TE} (h:PC X op a b t) (h1:SV op b=false:=by first | exact DG _ (by decide) (by decide) | rfl):PT X (.Compare a [op] [b] pos) (tB t):=by
 intro pins s σ H Q I hw
 refine wpAny_isTrue_Compare1 (dX (h pins s σ H _ I hw) fun v s1 h1=>dX h1 fun u s2 h2=>dX h2 fun c s3 ⟨x,H1,I1,r1,q1⟩=>?_) h1
 obtain⟨d,rfl,q⟩:=q1
 cases r1
 exact SW ⟨H1,I1,q⟩
variable {tA tB':TT} {rest:List SJ}
def Nh (t u:TT):TT:=fun σ H Q=>t σ H fun c H1=>if c=true then u σ H1 Q else Q false H1
def N8 (t u:TT):TT:=fun σ H Q=>t σ H fun c H1=>if c=true then Q true H1 else u σ H1 Q
def Mx (t:TT):TT:=fun σ H Q=>t σ H fun c H1=>Q (!c) H1
theorem Fp (ha:PT X a tA):PW X (.BoolOp .And [a] pos) tA:=by
 intro wh pins s σ H Q I h
 refine isTrue_and (dX (ha pins s σ H Q I h) fun c s1 e=>?_)
 cases c with
 | true=>exact isTrue_and_nil e
 | false=>exact e
theorem Ir (ha:PT X a tA):PW X (.BoolOp .Or [a] pos) tA:=by
 intro wh pins s σ H Q I h
 refine isTrue_or (dX (ha pins s σ H Q I h) fun c s1 e=>?_)
 cases c with
 | false=>exact isTrue_or_nil e
 | true=>exact e
theorem Jd (ha:PT X a tA) (hb:PW X (.BoolOp .And (b::rest) pos) tB'):PW X (.BoolOp .And (a::b::rest) pos) (Nh tA tB'):=by
 intro wh pins s σ H Q I h
 refine isTrue_and (dX (ha pins s σ H _ I h) fun c s1 ⟨H1,I1,q1⟩=>?_)
 cases c with
 | true=>exact hb wh pins s1 σ H1 Q I1 q1
 | false=>exact⟨H1,I1,q1⟩
theorem KJ (ha:PT X a tA) (hb:PW X (.BoolOp .Or (b::rest) pos) tB'):PW X (.BoolOp .Or (a::b::rest) pos) (N8 tA tB'):=by
 intro wh pins s σ H Q I h
 refine isTrue_or (dX (ha pins s σ H _ I h) fun c s1 ⟨H1,I1,q1⟩=>?_)
 cases c with
 | true=>exact⟨H1,I1,q1⟩
 | false=>exact hb wh pins s1 σ H1 Q I1 q1
theorem Iy (ha:PT X a tA):PT X (.UnaryOp .Not a pos) (Mx tA):=by
 intro pins s σ H Q I h
 exact isTrue_not (ha pins s σ H (fun c H1=>Q (!c) H1) I h)
def Jx (ta tb:TE):TE:=fun σ H Q=>ta σ H fun x H1=>∃ c,x=.bl c/\if c=true then tb σ H1 Q else Q (.bl false) H1
def Nf (ta tb:TE):TE:=fun σ H Q=>ta σ H fun x H1=>∃ c,x=.bl c/\if c=true then Q (.bl true) H1 else tb σ H1 Q
def Jv (ta:TE):TE:=fun σ H Q=>ta σ H fun x H1=>∃ c,x=.bl c/\Q (.bl (!c)) H1
theorem HX {op} {t:TE} (h:PE X a t):PE X (.BoolOp op [a] pos) t:=fun pins s σ H Q I hw=>BoolOp_one (h pins s σ H Q I hw)
theorem IJ (ha:PE X a ta) (hb:PE X (.BoolOp .And (b::rest) pos) tb):PE X (.BoolOp .And (a::b::rest) pos) (Jx ta tb):=by
 intro pins s σ H Q I h
 refine BoolOp_and (dX (ha pins s σ H _ I h) fun v s1 ⟨x,H1,I1,r1,q1⟩=>?_)
 obtain⟨c,rfl,q1⟩:=q1
 cases r1
 refine SW ?_
 cases c with
 | true=>exact hb pins s1 σ H1 Q I1 q1
 | false=>exact⟨.bl false,H1,I1,rfl,q1⟩
theorem KC (ha:PE X a ta) (hb:PE X (.BoolOp .Or (b::rest) pos) tb):PE X (.BoolOp .Or (a::b::rest) pos) (Nf ta tb):=by
 intro pins s σ H Q I h
 refine BoolOp_or (dX (ha pins s σ H _ I h) fun v s1 ⟨x,H1,I1,r1,q1⟩=>?_)
 obtain⟨c,rfl,q1⟩:=q1
 cases r1
 refine SW ?_
 cases c with
 | false=>exact hb pins s1 σ H1 Q I1 q1
 | true=>exact⟨.bl true,H1,I1,rfl,q1⟩
theorem Iz (ha:PE X a ta):PE X (.UnaryOp .Not a pos) (Jv ta):=by
 intro pins s σ H Q I h
 refine UnaryOp_ (dX (ha pins s σ H _ I h) fun v s1 ⟨x,H1,I1,r1,q1⟩=>?_)
 obtain⟨c,rfl,q1⟩:=q1
 cases r1
 exact not_of (SW ⟨.bl (!c),H1,I1,rfl,q1⟩)
def N2 (t:TT) (ta tb:TE):TE:=fun σ H Q=>t σ H fun c H1=>if c=true then ta σ H1 Q else tb σ H1 Q
theorem ER {c:SJ} (hc:PT X c tA) (ha:PE X a ta) (hb:PE X b tb):PE X (.IfExp c a b pos) (N2 tA ta tb):=by
 intro pins s σ H Q I h
 refine wpAny_IfExp (dX (hc pins s σ H _ I h) fun d s1 ⟨H1,I1,q1⟩=>?_)
 cases d with
 | true=>exact ha pins s1 σ H1 Q I1 q1
 | false=>exact hb pins s1 σ H1 Q I1 q1
end
end L2

namespace L2
open PySem PySem.Spec PyProof.Rows

def nN (K:Rf) (H:Hp) (a:Su) (xs:List V):Prop :=
 Rd H a (.lst xs) \/
  ∃ (o:Obj) (its:Array Sq) (n:Nat),K.lookup a=some o/\o.cls=.type "list"/\o.dict=none/\o.data=.seq its n/\its.size<=Sx/\Vals xs its.toList
def pY (K:Rf) (H:Hp) (a:Su) (xs:List V):Prop :=
 Rd H a (.tup xs) \/
  ∃ (o:Obj) (its:Array Sq) (n:Nat),K.lookup a=some o/\o.cls=.type "tuple"/\o.data=.seq its n/\its.size<=Sx/\Vals xs its.toList
def MJ:Sq->Option V
 | .none=>some .non
 | .bool b=>some (.bl b)
 | .int i _=>some (.int i)
 | .str x _=>some (.str x)
 | .bytes b _=>some (.byt b)
 | .float b _=>some (.flt b)
 | .ref a=>some (.ref a)
 | .type n=>some (.ty n)
 | _=>none
theorem RelV.abs {x:V} {u:Sq} (r:RelV x u):MJ u=some x:=by
 cases x with
 | non=>cases r; rfl
 | bl _=>cases r; rfl
 | int _=>obtain⟨t,rfl⟩:=r; rfl
 | str _=>obtain⟨t,rfl⟩:=r; rfl
 | byt _=>obtain⟨t,rfl⟩:=r; rfl
 | flt _=>obtain⟨t,rfl⟩:=r; rfl
 | ref _=>cases r; rfl
 | ty _=>cases r; rfl
theorem RelV.inj {x y:V} {u:Sq} (r:RelV x u) (q:RelV y u):x=y:=Option.some.inj (r.abs.symm.trans q.abs)
theorem Vals.inj:∀ {xs ys:List V} {us:List Sq},Vals xs us->Vals ys us->xs=ys
 | _,_,_,.nil,.nil=>rfl
 | _,_,_,.cons r t,.cons r' t'=>by rw [r.inj r',Vals.inj t t']
section
variable {X:Cx} {pins:List (Su×Obj)} {σ:St} {H:Hp} {s:SF} {a:Su} {xs ys:List V}
theorem nN.of {K:Rf} (h:H a=some (.lst xs)):nN K H a xs:=.inl (.inl h)
theorem pY.of {K:Rf} (h:H a=some (.tup xs)):pY K H a xs:=.inl (.inl h)
theorem Inv.list (I:Inv X pins σ H s) (h:nN X.K H a xs):∃ its:List Sq,Vals xs its/\PlainL s.heap a its.toArray/\xs.length<=Sx:=by
 rcases h with h | ⟨o,its,n,hk,hc,hd,hs,hz,r⟩
 ·obtain⟨z,its,n,r,e⟩:=h.ok I.hok
  exact⟨its,r,⟨_,n,e,rfl,rfl,rfl⟩,z⟩
 ·refine⟨its.toList,r,⟨o,n,I.kIn a o hk,hc,hd,by simpa using hs⟩,?_⟩
  have e:=r.length
  simp only [Array.length_toList] at e
  omega
theorem Inv.tuple (I:Inv X pins σ H s) (h:pY X.K H a xs):∃ its:List Sq,Vals xs its/\Sy s.heap a its.toArray/\xs.length<=Sx:=by
 rcases h with h | ⟨o,its,n,hk,hc,hs,hz,r⟩
 ·obtain⟨z,its,r,p⟩:=h.ok I.hok
  exact⟨its,r,p,z⟩
 ·refine⟨its.toList,r,⟨o,I.kIn a o hk,hc,n,by simpa using hs⟩,?_⟩
  have e:=r.length
  simp only [Array.length_toList] at e
  omega
theorem Inv.list_inj (I:Inv X pins σ H s) (h:nN X.K H a xs) (h':nN X.K H a ys):xs=ys:=by
 obtain⟨its,r,⟨o,n,e,_,_,d⟩,_⟩:=I.list h
 obtain⟨its',r',⟨o',n',e',_,_,d'⟩,_⟩:=I.list h'
 rw [e] at e'; cases e'
 rw [d] at d'
 injection d' with d1 _
 have:its=its':=by simpa using congrArg Array.toList d1
 subst this
 exact r.inj r'
theorem Inv.tuple_inj (I:Inv X pins σ H s) (h:pY X.K H a xs) (h':pY X.K H a ys):xs=ys:=by
 obtain⟨its,r,⟨o,e,_,n,d⟩,_⟩:=I.tuple h
 obtain⟨its',r',⟨o',e',_,n',d'⟩,_⟩:=I.tuple h'
 rw [e] at e'; cases e'
 rw [d] at d'
 injection d' with d1 _
 have:its=its':=by simpa using congrArg Array.toList d1
 subst this
 exact r.inj r'
end

abbrev Cx.wish (X:Cx) (E:Sq->SF->Prop):Cx:={ X with xe:=E }
abbrev Cx.nox (X:Cx):Cx:=X.wish fun _ _=>False
theorem Cx.Ok.wish {X:Cx} (ok:X.Ok) (E:Sq->SF->Prop):(X.wish E).Ok :=
 ⟨ok.mod,ok.kind,ok.glob,ok.blt,ok.above,ok.inj,ok.has,ok.cab,ok.hd,ok.frames,ok.stk,ok.exf,ok.bs,ok.bsz,ok.noex,ok.exfs,ok.funs,ok.frf⟩
theorem Cx.Ok.unwish {X:Cx} {E:Sq->SF->Prop} (ok:(X.wish E).Ok):X.Ok :=
 ⟨ok.mod,ok.kind,ok.glob,ok.blt,ok.above,ok.inj,ok.has,ok.cab,ok.hd,ok.frames,ok.stk,ok.exf,ok.bs,ok.bsz,ok.noex,ok.exfs,ok.funs,ok.frf⟩
section
variable {X:Cx} {pins:List (Su×Obj)} {σ:St} {H:Hp} {s:SF} {E:Sq->SF->Prop}
theorem Inv.wish (I:Inv X pins σ H s) (E:Sq->SF->Prop):Inv (X.wish E) pins σ H s:=⟨I.ok.wish E,I.os,I.bare,I.base,I.loc,I.cell,I.free,I.freeC,I.pin,I.hok,I.len⟩
theorem Inv.unwish (I:Inv (X.wish E) pins σ H s):Inv X pins σ H s:=⟨I.ok.unwish,I.os,I.bare,I.base,I.loc,I.cell,I.free,I.freeC,I.pin,I.hok,I.len⟩
theorem SP.unwish {D:Ends} {f:Flow} {s':SF} (h:SP (X.wish E) pins D f s'):SP X pins D f s':=by
 cases f with
 | next=>obtain⟨σ',H',I,q⟩:=h; exact⟨σ',H',I.unwish,q⟩
 | brk=>obtain⟨σ',H',I,q⟩:=h; exact⟨σ',H',I.unwish,q⟩
 | cont=>obtain⟨σ',H',I,q⟩:=h; exact⟨σ',H',I.unwish,q⟩
 | ret u=>obtain⟨v,σ',H',I,r,q⟩:=h; exact⟨v,σ',H',I.unwish,r,q⟩
theorem xx.nox {st:List SL} {t:TS} (h:xx X.nox st t):xx X st t:=fun pins s σ H D I hw =>
 SM (h pins s σ H D (I.wish _) hw) (fun _ _ q=>q.unwish) fun _ _ z=>False.elim z
end

section
variable {X:Cx} {st:SL} {rest:List SL} {t u:TS} {e:SJ} {te:TE} {pos:Pos}
def KR:TS:=fun D σ H=>D.nx σ H
def MU (t u:TS):TS:=fun D σ H=>t { D with nx:=u D } σ H
theorem Fj:xx X [] KR:=fun _ _ σ H _ I h=>SY ⟨σ,H,I,h⟩
theorem zC (h1:PS X st t) (h2:xx X rest u):xx X (st::rest) (MU t u):=by
 intro pins s σ H D I h
 refine wpAny_execs_cons (dX (h1 pins s σ H { D with nx:=u D } I h) fun f s1 q=>?_)
 cases f with
 | next =>
  obtain⟨σ',H',I',q⟩:=q
  exact h2 pins s1 σ' H' D I' q
 | ret v=>exact q
 | brk=>exact q
 | cont=>exact q
theorem Bu (h1:PS X st t):xx X [st] t:=by
 intro pins s σ H D I h
 refine wpAny_execs_cons (dX (h1 pins s σ H D I h) fun f s1 q=>?_)
 cases f with
 | next=>exact SY q
 | ret v=>exact q
 | brk=>exact q
 | cont=>exact q
theorem Inv.quiet {pins:List (Su×Obj)} {σ:St} {H:Hp} {s:SF} (I:Inv X pins σ H s):interactive X.env=false:=by simp [interactive,I.ok.kind]
def Jz (te:TE):TS:=fun D σ H=>te σ H fun _ H1=>D.nx σ H1
theorem Fo (he:PE X e te) (hs:swapsWith e none pos.line X.env=pure false:=by rfl):PS X (.Expr e pos) (Jz te):=by
 intro pins s σ H D I h
 exact wpAny_Expr_any (dX (he pins s σ H _ I h) fun v s1 ⟨x,H1,I1,r1,q1⟩=>⟨σ,H1,I1,q1⟩) I.quiet hs
def MS (te:TE):TS:=fun D σ H=>te σ H D.rt
theorem Jc (he:PE X e te):PS X (.Return (some e) pos) (MS te):=by
 intro pins s σ H D I h
 exact wpAny_Return_some (dX (he pins s σ H _ I h) fun v s1 ⟨x,H1,I1,r1,q1⟩=>⟨x,σ,H1,I1,r1,q1⟩)
def M8 (c:TT) (t u:TS):TS:=fun D σ H=>c σ H fun b H1=>if b=true then t D σ H1 else u D σ H1
theorem K2 {c:SJ} {a b:List SL} {tc:TT} (hc:PT X c tc) (ha:xx X a t) (hb:xx X b u):PS X (.If c a b pos) (M8 tc t u):=by
 intro pins s σ H D I h
 refine wpAny_If (dX (hc pins s σ H _ I h) fun d s1 ⟨H1,I1,q1⟩=>?_)
 cases d with
 | true=>exact ha pins s1 σ H1 D I1 q1
 | false=>exact hb pins s1 σ H1 D I1 q1
end

abbrev TG:=V->St->Hp->(St->Hp->Prop)->Prop
abbrev Hy:=List V->St->Hp->(St->Hp->Prop)->Prop
def PG (X:Cx) (target:SJ) (t:TG):Prop :=
 ∀ (pins:List (Su×Obj)) (s:SF) (σ:St) (H:Hp) (v:V) (u:Sq) (Q:St->Hp->Prop),Inv X pins σ H s->RelV v u->t v σ H Q ->
  SH (model X.prog X.w) X.A (assign target X.env u) (fun _ s'=>∃ σ' H',Inv X pins σ' H' s'/\Q σ' H') X.xe s
def JK (X:Cx) (ts:List SJ) (t:Hy):Prop :=
 ∀ (pins:List (Su×Obj)) (s:SF) (σ:St) (H:Hp) (vs:List V) (us:List Sq) (Q:St->Hp->Prop),Inv X pins σ H s->Vals vs us->t vs σ H Q ->
  SH (model X.prog X.w) X.A (assignInOrder ((assignEach ts X.env).map (·.2)) us) (fun _ s'=>∃ σ' H',Inv X pins σ' H' s'/\Q σ' H') X.xe s
abbrev Ih:=V->V->V->Hp->(Hp->Prop)->Prop
def Kz (X:Cx) (t:Ih):Prop :=
 ∀ (pins:List (Su×Obj)) (s:SF) (σ:St) (H:Hp) (o i v:V) (ov iv u:Sq) (Q:Hp->Prop),Inv X pins σ H s->RelV o ov->RelV i iv->RelV v u->t o i v H Q ->
  SH (model X.prog X.w) X.A (setItem ov iv u) (fun _ s'=>∃ H',Inv X pins σ H' s'/\Q H') X.xe s
section
variable {X:Cx} {pos:Pos}
def uI (i:Nat):TG:=fun v σ H Q=>Q (σ.set i (some v)) H
theorem Fw {i:Nat} {x:Str} (hN:X.N.Nodup) (hi:X.N[i]?=some x) (hx:Loc X.env.scope x) (hf:X.fn x=true\/X.env.scope.names.lookup x=some .local:=by first | exact .inl rfl | exact .inr rfl | assumption):PG X (.Name x pos) (uI i):=by
 intro pins s σ H v u Q I r h
 exact wpAny_assign_Name (yj I hN hi hx r (fun s' I'=>⟨_,H,I',h⟩) hf)
def Np:Hy:=fun vs σ H Q=>vs=[]/\Q σ H
def KZ (t:TG) (u:Hy):Hy:=fun vs σ H Q=>∃ v r,vs=v::r/\t v σ H fun σ' H'=>u r σ' H' Q
theorem FV:JK X [] Np:=by
 intro pins s σ H vs us Q I r h
 obtain⟨e,h⟩:=h
 subst e
 cases r
 exact assignInOrder_nil ⟨σ,H,I,h⟩
theorem Ed {e:SJ} {es:List SJ} {t:TG} {u:Hy} (h1:PG X e t) (h2:JK X es u)
  (hs:(assignEach (e::es) X.env).map (·.2)=assign e X.env::(assignEach es X.env).map (·.2):=by rfl):JK X (e::es) (KZ t u):=by
 intro pins s σ H vs us Q I r h
 obtain⟨v,vr,e1,h⟩:=h
 subst e1
 cases r with
 | cons r rr =>
  rw [hs]
  refine assignInOrder_cons (dX (h1 pins s σ H _ _ _ I r h) fun _ s1 ⟨σ1,H1,I1,q1⟩=>?_)
  exact h2 pins s1 σ1 H1 _ _ Q I1 rr q1
def Nr (K:Rf) (n:Nat) (t:Hy):TG:=fun v σ H Q=>∃ a xs,v=.ref a/\pY K H a xs/\xs.length=n/\t xs σ H Q
theorem IM {es:List SJ} {k:Nat} {t:Hy} {n:Nat} (hc:X.calm=true) (h:JK X es t)
  (hn:(assignEach es X.env).length=n:=by rfl) (hst:(assignEach es X.env).findIdx? (·.1)=none:=by rfl):PG X (.Tuple es k pos) (Nr X.K n t):=by
 intro pins s σ H v u Q I r hw
 obtain⟨a,xs,e1,hq,hl,hw⟩:=hw
 subst e1
 cases r
 obtain⟨its,rv,ht,hz⟩:=I.tuple hq
 refine assign_Tuple_tuple (I.ok.hd hc) ht (by simp [hn,<- hl,rv.length]) hst fun h' hx=>?_
 have I1:Inv X pins σ H { s with heap:=h' }:=I.kept (t':=s.toks) fun b o e=>hx b o (Of (RK e)) e
 exact h pins _ σ H xs _ Q I1 (by simpa using rv) hw
def jt (to ti:TE) (t:Ih):TG:=fun v σ H Q=>to σ H fun o H1=>ti σ H1 fun i H2=>t o i v H2 fun H3=>Q σ H3
theorem IL {o i:SJ} {to ti:TE} {t:Ih} (ho:PE X o to) (hi:PE X i ti) (hs:Kz X t)
  (ha:∀ v,assign (.Subscript o i pos) X.env v=(do
   let ov <- holding [v] (eval o X.env)
   let iv <- holding [v,ov] (eval i X.env)
   standAt pos
   holding [v,ov,iv] (setItem ov iv v)
   release [v,ov,iv] []):=by intro _; rfl):PG X (.Subscript o i pos) (jt to ti t):=by
 intro pins s σ H v u Q I r h
 rw [ha]
 refine SZ (S0 (dX (ho pins s σ H _ I h) fun ov s1 ⟨x,H1,I1,r1,q1⟩=>?_))
 refine SZ (S0 (dX (hi pins s1 σ H1 _ I1 q1) fun iv s2 ⟨y,H2,I2,r2,q2⟩=>?_))
 refine SZ (S3 (SZ (S0 (dX (hs pins s2 σ H2 x y v ov iv u _ I2 r1 r2 r q2) fun _ s3 ⟨H3,I3,q3⟩=>?_))))
 exact wpAny_release ⟨σ,H3,I3,q3⟩
def Di (te:TE) (g:TG):TS:=fun D σ H=>te σ H fun x H1=>g x σ H1 D.nx
theorem DK {tg e:SJ} {te:TE} {g:TG} (he:PE X e te) (hg:PG X tg g) (hs:swapsWithSole [tg] e pos.line X.env=pure false:=by rfl) (hw:swappedStores [tg] e X.env=pure none:=by rfl)
  (h1:(assignEach [tg] X.env).map (·.2)=[assign tg X.env]:=by rfl):PS X (.Assign [tg] e pos) (Di te g):=by
 intro pins s σ H D I h
 refine wpAny_Assign_stores (dX (he pins s σ H _ I h) fun v s1 ⟨x,H1,I1,r1,q1⟩=>?_) hs hw
 rw [h1]
 exact dX (hg pins s1 σ H1 x v _ I1 r1 q1) fun _ s2 q=>q
theorem Dz {i:Nat} {x:Str} {e:SJ} {te:TE} {pos':Pos} (hN:X.N.Nodup) (hi:X.N[i]?=some x) (hx:Loc X.env.scope x) (he:PE X e te) (hs:swapsWith e (some (.Name x pos')) pos.line X.env=pure false:=by rfl) (hf:X.fn x=true\/X.env.scope.names.lookup x=some .local:=by first | exact .inl rfl | exact .inr rfl | assumption) :
  PS X (.Assign [.Name x pos'] e pos) (Di te (uI i)):=by
 intro pins s σ H D I h
 refine wpAny_Assign_Name (dX (he pins s σ H _ I h) fun v s1 ⟨y,H1,I1,r1,q1⟩=>?_) hs
 exact yj I1 hN hi hx r1 (fun s2 I2=>⟨_,H1,I2,q1⟩) hf
end

section
variable {X:Cx} {pos:Pos}
def Ja (c:TT) (tb:TS):TS:=fun D σ H=>∃ W:Nat->St->Hp->Prop,(∃ m,W m σ H)/\∀ m σ H,W m σ H ->
 c σ H fun b H1=>if b=true then ∃ N:St->Hp->Prop,(∀ σ' H',N σ' H'->∃ m',m' < m/\W m' σ' H')/\tb { D with nx:=N,ct:=N,bk:=D.nx } σ H1 else D.nx σ H1
theorem E7 {c:SJ} {body:List SL} {tc:TT} {tb:TS} (hp:S4 (model X.prog X.w) X.A X.env X.xe) (hc:PT X c tc) (hb:xx X body tb):PS X (.While c body [] pos) (Ja tc tb):=by
 intro pins s σ H D I h
 obtain⟨W,⟨m0,w0⟩,turn⟩:=h
 refine wpAny_While (codeAny_whileLoop (fun n s'=>∃ σ' H',Inv X pins σ' H' s'/\W n σ' H') ?_ m0 ⟨σ,H,I,w0⟩)
 rintro n s1 ⟨σ1,H1,I1,w1⟩
 refine S5 hp (dX (hc pins s1 σ1 H1 _ I1 (turn n σ1 H1 w1)) fun b s2 ⟨H2,I2,q2⟩=>?_)
 cases b with
 | true =>
  obtain⟨N,hN,q2⟩:=q2
  rw [if_pos rfl]
  refine S5 hp (dX (hb pins s2 σ1 H2 _ I2 q2) fun f s3 q3=>?_)
  cases f with
  | next =>
   obtain⟨σ3,H3,I3,n3⟩:=q3
   obtain⟨m',hm,w3⟩:=hN σ3 H3 n3
   exact⟨m',hm,σ3,H3,I3,w3⟩
  | cont =>
   obtain⟨σ3,H3,I3,n3⟩:=q3
   obtain⟨m',hm,w3⟩:=hN σ3 H3 n3
   exact⟨m',hm,σ3,H3,I3,w3⟩
  | brk=>exact q3
  | ret v=>exact q3
 | false =>
  rw [if_neg Ot]
  exact SY ⟨σ1,H2,I2,q2⟩
end

structure It where
 go:Nat->Hp->Prop
 yld:Nat->Hp->V->Hp->Prop
 stop:Nat->Hp->Prop
def ud (X:Cx) (pins:List (Su×Obj)) (H:Hp) (b:Su):Prop :=
 H b=none/\b≠X.env.locals/\b∉X.fs/\(b∈X.ex\/X.s₀.heap.objs.size<=b)/\(∀ x c,X.env.cells.lookup x=some c->c≠b)/\∀ p∈X.pn++pins,p.1≠b
theorem Inv.fpOk {X:Cx} {pins:List (Su×Obj)} {σ:St} {H H':Hp} {s:SF} {b:Su} (I:Inv X pins σ H s) (hb:s.heap.objs.size<=b) (hn:H' b=none):ud X pins H' b:=by
 refine⟨hn,Ou (Od I.lt hb),I.nofs hb,.inr (Og I.sz hb),fun x c e z=>?_,fun p hp z=>?_⟩
 ·obtain⟨v,q⟩:=I.cell x c e
  exact absurd (Od q.lt (by rw [z]; exact hb)) (Oe _)
 ·exact absurd (Od (RK (I.pin p hp).1) (by rw [z]; exact hb)) (Oe _)
structure Turn (P:Ss) (w:Sr) (K:Rf) (tg:SJ) (J:It) (fp:List Su) (it:Su) (tn:Nat->Sw->Prop):Prop where
 mem:it∈fp
 obj:∀ i h,tn i h->∀ b∈fp,∃ o,h.get? b=some o/\∀ v,o.data≠.cell v
 keep:∀ i h h',tn i h->(∀ b∈fp,∀ o,h.get? b=some o->h'.get? b=some o)->tn i h'
 item:∀ (X:Cx),X.prog=P->X.w=w->X.K=K->X.calm=true->∀ (i:Nat) (pins:List (Su×Obj)) (s:SF) (σ:St) (H:Hp) (E:Sq->SF->Prop),Inv X pins σ H s->(∀ b∈fp,ud X pins H b)->tn i s.heap->J.go i H ->
  SH (model P w) X.A (pyNext (.ref it)) (fun r s1=>∃ u,r=some u /\
   SH (model P w) X.A (letOwnedTupleGo tg (.ref it) u) (fun _ s2=>∃ x H',Inv X pins σ H' s2/\RelV x u/\J.yld i H x H'/\tn (i+1) s2.heap/\∀ b∈fp,H' b=none) E s1) E s
 done:∀ (X:Cx),X.prog=P->X.w=w->X.K=K->X.calm=true->∀ (i:Nat) (pins:List (Su×Obj)) (s:SF) (σ:St) (H:Hp) (E:Sq->SF->Prop),Inv X pins σ H s->(∀ b∈fp,ud X pins H b)->tn i s.heap->J.stop i H ->
  SH (model P w) X.A (pyNext (.ref it)) (fun r s1=>r=none/\Inv X pins σ H s1) E s
 self:∀ (A:SE) (i:Nat) (s:SF) (Q:Sq->SF->Prop) (E:Sq->SF->Prop),tn i s.heap->Q (.ref it) s->SH (model P w) A (pyIter (.ref it)) Q E s
abbrev TI:=St->Hp->(It->Hp->Prop)->Prop
def PIE (X:Cx) (pins:List (Su×Obj)) (σ:St) (tg:SJ) (R:It->Hp->Prop) (itv:Sq) (s2:SF):Prop :=
 ∃ (it:Su) (fp:List Su) (tn:Nat->Sw->Prop) (J:It) (H':Hp),itv=.ref it/\Inv X pins σ H' s2/\Turn X.prog X.w X.K tg J fp it tn/\tn 0 s2.heap/\(∀ b∈fp,ud X pins H' b)/\R J H'
def PI (X:Cx) (tg iter:SJ) (wi:TI):Prop :=
 ∀ (pins:List (Su×Obj)) (s:SF) (σ:St) (H:Hp) (R:It->Hp->Prop),Inv X pins σ H s->wi σ H R ->
  SH (model X.prog X.w) X.A (eval iter X.env) (fun v s1=>SH (model X.prog X.w) X.A (pyIter v) (PIE X pins σ tg R) X.xe s1) X.xe s

theorem Fc {M:Model} {A:SE} {E:Sq->SF->Prop} {s:SF} {tg:SJ} {it:Su} {u:Sq} {o:Obj} {n:String} {vs:Array Sq} {Q:Unit->SF->Prop} (ho:s.heap.get? it=some o) (hc:o.cls=.type n) (hd:o.data=.fields vs)
    (hn:["enumerate","zip","dict_itemiterator","dict_reverseitemiterator","odict_iterator","itertools.zip_longest","itertools.pairwise"].contains n=false) (hQ:Q () s):SH M A (letOwnedTupleGo tg (.ref it) u) Q E s:=by
  unfold letOwnedTupleGo
  cases tg <;> first
    | exact S6 hQ
    | (cases u <;> first
        | exact S6 hQ
        | (refine SZ (wpAny_load ho ?_)
           rw [hc,hd]
           show SH M A (if (["enumerate","zip","dict_itemiterator","dict_reverseitemiterator","odict_iterator","itertools.zip_longest","itertools.pairwise"].contains n && vs[0]?==some (rawInt _))=true then _ else _) Q E s
           rw [if_neg (by intro h; rw [hn,Ov] at h; cases h)]
           exact S6 hQ))

def Nx (K:Rf) (a:Su):It :=
 ⟨fun i H=>∃ xs x,nN K H a xs/\xs[i]?=some x,fun i H x H'=>H'=H/\∀ xs,nN K H a xs->xs[i]?=some x,fun i H=>∃ xs,nN K H a xs/\xs.length<=i⟩
def Mp (K:Rf) (a:Su):It :=
 ⟨fun i H=>∃ xs x,pY K H a xs/\xs[i]?=some x,fun i H x H'=>H'=H/\∀ xs,pY K H a xs->xs[i]?=some x,fun i H=>∃ xs,pY K H a xs/\xs.length<=i⟩
def La (lo:Int) (n:Nat):It:=⟨fun i _=>i < n,fun i H x H'=>H'=H/\x=.int (lo+i),fun i _=>n<=i⟩
theorem C4 {P:Ss} {w:Sr} {K:Rf} {tg:SJ} (a it:Su):Turn P w K tg (Nx K a) [it] it (fun i h=>h.IsListIter it a i) where
 mem:=by simp
 obj:=fun i h st b hb=>by
  have e:b=it:=by simpa using hb
  subst e
  obtain⟨o,e,c,d⟩:=st
  exact⟨o,e,fun v z=>by rw [d] at z; cases z⟩
 keep:=fun i h h' st k=>st.at fun o e=>k it (by simp) o e
 item:=by
  intro X hP hw hK hc i pins s σ H E I hf st hg
  subst hP hw hK
  obtain⟨xs,x,hq,hx⟩:=hg
  obtain⟨its,rv,p,hz⟩:=I.list hq
  obtain⟨u,hu,ru⟩:=rv.get hx
  obtain⟨f0,f1,f2,f3,f4,f5⟩:=hf it (by simp)
  refine wpAny_pyNext_list_item st p.isList (x:=u) (by simpa using hu) fun h' st' sb=>?_
  have I1:Inv X pins σ H { s with heap:=h' }:=I.turned (t':=s.toks) (fun b o hb e=>(sb.2 b hb).trans e) f0 f1 f3 f4 f5
  obtain⟨o,e,c,d⟩:=id st'
  exact⟨u,rfl,Fc (s:={ s with heap:=h' }) e c d (by decide) ⟨x,H,I1,ru,⟨rfl,fun ys hy=>by rw [I.list_inj hy hq]; exact hx⟩,st',fun b hb=>(hf b hb).1⟩⟩
 done:=by
  intro X hP hw hK hc i pins s σ H E I hf st hg
  subst hP hw hK
  obtain⟨xs,hq,hx⟩:=hg
  obtain⟨its,rv,p,hz⟩:=I.list hq
  obtain⟨f0,f1,f2,f3,f4,f5⟩:=hf it (by simp)
  have hl:=rv.length
  exact wpAny_pyNext_list_end (I.ok.hd hc) st p.isList (by simp; omega) fun h' eb=>⟨rfl,I.turned (t':=s.toks) (fun b o hb e=>eb b o hb e) f0 f1 f3 f4 f5⟩
 self:=fun _ _ _ _ _ st h=>wpAny_pyIter_listiter st h
theorem AK {P:Ss} {w:Sr} {K:Rf} {tg:SJ} (a it:Su):Turn P w K tg (Mp K a) [it] it (fun i h=>h.IsTupleIter it a i) where
 mem:=by simp
 obj:=fun i h st b hb=>by
  have e:b=it:=by simpa using hb
  subst e
  obtain⟨o,e,c,d⟩:=st
  exact⟨o,e,fun v z=>by rw [d] at z; cases z⟩
 keep:=fun i h h' st k=>st.at fun o e=>k it (by simp) o e
 item:=by
  intro X hP hw hK hc i pins s σ H E I hf st hg
  subst hP hw hK
  obtain⟨xs,x,hq,hx⟩:=hg
  obtain⟨its,rv,p,hz⟩:=I.tuple hq
  obtain⟨u,hu,ru⟩:=rv.get hx
  obtain⟨f0,f1,f2,f3,f4,f5⟩:=hf it (by simp)
  refine wpAny_pyNext_tuple_item st (show s.heap.IsTuple a its.toArray from p) (x:=u) (by simpa using hu) fun h' st' sb=>?_
  have I1:Inv X pins σ H { s with heap:=h' }:=I.turned (t':=s.toks) (fun b o hb e=>(sb.2 b hb).trans e) f0 f1 f3 f4 f5
  obtain⟨o,e,c,d⟩:=id st'
  exact⟨u,rfl,Fc (s:={ s with heap:=h' }) e c d (by decide) ⟨x,H,I1,ru,⟨rfl,fun ys hy=>by rw [I.tuple_inj hy hq]; exact hx⟩,st',fun b hb=>(hf b hb).1⟩⟩
 done:=by
  intro X hP hw hK hc i pins s σ H E I hf st hg
  subst hP hw hK
  obtain⟨xs,hq,hx⟩:=hg
  obtain⟨its,rv,p,hz⟩:=I.tuple hq
  obtain⟨f0,f1,f2,f3,f4,f5⟩:=hf it (by simp)
  have hl:=rv.length
  exact wpAny_pyNext_tuple_end (I.ok.hd hc) st (show s.heap.IsTuple a its.toArray from p) (by simp; omega) fun h' eb=>⟨rfl,I.turned (t':=s.toks) (fun b o hb e=>eb b o hb e) f0 f1 f3 f4 f5⟩
 self:=fun _ _ _ _ _ st h=>wpAny_pyIter_tupleiter st h
theorem zG {P:Ss} {w:Sr} {K:Rf} {tg:SJ} (it:Su) (lo:Int) (n:Nat):Turn P w K tg (La lo n) [it] it (fun i h=>IsRangeIter h it (lo+(i:Nat)*1) ((n:Int) - (i:Nat)) 1) where
 mem:=by simp
 obj:=fun i h st b hb=>by
  have e:b=it:=by simpa using hb
  subst e
  exact⟨_,st,fun v z=>by
   have z':Data.fields _=Data.cell v:=z
   cases z'⟩
 keep:=fun i h h' st k=>k it (by simp) _ st
 item:=by
  intro X hP hw hK hc i pins s σ H E I hf st hg
  subst hP hw hK
  obtain⟨f0,f1,f2,f3,f4,f5⟩:=hf it (by simp)
  have W:=Walks.range (prog:=X.prog) (w:=X.w) (I.ok.hd hc) it lo 1 n
  refine W.item i s _ _ hg st fun v h' tk hv st' kk=>?_
  obtain⟨t,rfl⟩:=hv
  have I1:Inv X pins σ H { s with heap:=h',toks:=tk }:=I.turned (fun b o hb e=>kk b o (by simpa using hb) e) f0 f1 f3 f4 f5
  refine⟨_,rfl,Fc (s:={ s with heap:=h',toks:=tk }) (n := "range_iterator") st' rfl rfl (by decide) ⟨.int (lo+i),H,I1,⟨t,?_⟩,⟨rfl,rfl⟩,st',fun b hb=>(hf b hb).1⟩⟩
  rw [Int.mul_one]
 done:=by
  intro X hP hw hK hc i pins s σ H E I hf st hg
  subst hP hw hK
  obtain⟨f0,f1,f2,f3,f4,f5⟩:=hf it (by simp)
  exact wpAny_pyNext_range_end (I.ok.hd hc) st (by have:n<=i:=hg; omega) fun h' eb=>⟨rfl,I.turned (t':=s.toks) (fun b o hb e=>eb b o hb e) f0 f1 f3 f4 f5⟩
 self:=fun _ _ _ _ _ st h=>wpAny_pyIter_rangeiter st h
end L2

namespace L2
open PySem PySem.Spec PyProof.Rows
section
variable {X:Cx} {tg:SJ}
def Kc (K:Rf) (tl:TE):TI:=fun σ H R=>tl σ H fun x H1=>∃ a,x=.ref a/\(∃ xs,nN K H1 a xs)/\R (Nx K a) H1
def MH (K:Rf) (tl:TE):TI:=fun σ H R=>tl σ H fun x H1=>∃ a,x=.ref a/\(∃ xs,pY K H1 a xs)/\R (Mp K a) H1
theorem Br {l:SJ} {tl:TE} (hl:PE X l tl):PI X tg l (Kc X.K tl):=by
 intro pins s σ H R I h
 refine dX (hl pins s σ H _ I h) fun v s1 ⟨x,H1,I1,r1,q1⟩=>?_
 obtain⟨a,e,⟨xs,hq⟩,q⟩:=q1
 subst e
 cases r1
 obtain⟨its,rv,p,hz⟩:=I1.list hq
 refine S7 p.isList ?_
 refine⟨s1.heap.objs.size,[s1.heap.objs.size],_,_,H1,rfl,I1.kept (t':=s1.toks) fun b o e=>RN _ e,C4 a _,⟨_,RO _ rfl,rfl,rfl⟩,fun b hb=>?_,q⟩
 have e:b=s1.heap.objs.size:=by simpa using hb
 subst e
 exact I1.fpOk (Ow _) (I1.hok.fresh (Ow _))
theorem HR {l:SJ} {tl:TE} (hl:PE X l tl):PI X tg l (MH X.K tl):=by
 intro pins s σ H R I h
 refine dX (hl pins s σ H _ I h) fun v s1 ⟨x,H1,I1,r1,q1⟩=>?_
 obtain⟨a,e,⟨xs,hq⟩,q⟩:=q1
 subst e
 cases r1
 obtain⟨its,rv,p,hz⟩:=I1.tuple hq
 refine wpAny_pyIter_tuple (show s1.heap.IsTuple a its.toArray from p) ?_
 refine⟨s1.heap.objs.size,[s1.heap.objs.size],_,_,H1,rfl,I1.kept (t':=s1.toks) fun b o e=>RN _ e,AK a _,⟨_,RO _ rfl,rfl,rfl⟩,fun b hb=>?_,q⟩
 have e:b=s1.heap.objs.size:=by simpa using hb
 subst e
 exact I1.fpOk (Ow _) (I1.hok.fresh (Ow _))
theorem Dj {pins:List (Su×Obj)} {σ:St} {H:Hp} {s:SF} {R:It->Hp->Prop} {E:Sq->SF->Prop} {lo hi:Int} {t u v:Tok} {tk:Nat} (I:Inv X pins σ H s) (h1:-(2 ^ 62)<=lo) (h2:lo < 2 ^ 62) (h3:-(2 ^ 62)<=hi) (h4:hi < 2 ^ 62)
  (q:R (La lo (hi - lo).toNat) H):SH (model X.prog X.w) X.A (pyIter (.ref s.heap.objs.size)) (PIE X pins σ tg R) E { s with heap:=s.heap.push { cls:=.type "range",data:=.fields #[.int lo t,.int hi u,.int 1 v] },toks:=tk }:=by
 refine wpAny_pyIter_range (IsRange.new ..) (small_one h1 h2 h3 h4) ?_
 have I1:Inv X pins σ H { s with heap:=s.heap.push { cls:=.type "range",data:=.fields #[.int lo t,.int hi u,.int 1 v] },toks:=tk }:=I.kept fun b o e=>RN _ e
 refine⟨(s.heap.push { cls:=.type "range",data:=.fields #[.int lo t,.int hi u,.int 1 v] }).objs.size,[(s.heap.push { cls:=.type "range",data:=.fields #[.int lo t,.int hi u,.int 1 v] }).objs.size],_,_,H,rfl,
  I1.kept (t':=tk) fun b o e=>RN _ e,zG _ lo (hi - lo).toNat,?_,fun b hb=>?_,q⟩
 ·have e1:lo+((0:Nat):Int)*1=lo:=by simp
  have e2:(((hi - lo).toNat:Nat):Int) - ((0:Nat):Int)=Builtin.Range.rangeSize lo hi 1:=by rw [rangeSize_one]; split <;> omega
  show IsRangeIter _ _ (lo+((0:Nat):Int)*1) ((((hi - lo).toNat:Nat):Int) - ((0:Nat):Int)) 1
  rw [e1,e2]
  exact RO _ rfl
 ·have e:b=(s.heap.push { cls:=.type "range",data:=.fields #[.int lo t,.int hi u,.int 1 v] }).objs.size:=by simpa using hb
  subst e
  exact I1.fpOk (Ow _) (I1.hok.fresh (Ow _))
def Kr (ta:TA):TI:=fun σ H R=>ta σ H fun vs H1=>∃ j:Int,vs=[.int j]/\-(2 ^ 62)<=j/\j < 2 ^ 62/\R (La 0 j.toNat) H1
theorem CG {a:SJ} {ta:TA} {p pos:Pos} (hg:Gl X "range") (hm:X.mg "range"=none) (ha:PA X [a] ta) (hs:SK [a] X.env=[(false,eval a X.env)]:=by rfl):PI X tg (.Call (.Name "range" p) [a] [] pos) (Kr ta):=by
 intro pins s σ H R I h
 refine Call_ (n9 I hg hm boot_range (RX (dX (ha pos pins s σ H _ I h) fun us s1 ⟨vs,H1,I1,r1,q1⟩=>?_) hs rfl))
 obtain⟨j,e,q1,q2,q⟩:=q1
 subst e
 cases r1 with
 | cons r rr =>
  cases rr
  obtain⟨t,rfl⟩:=r
  exact call_range_1 (Dj I1 ‹0› ‹0› q1 q2 (by simpa using q))
def NE (wi:TI) (g:TG) (tb:TS):TS:=fun D σ H=>wi σ H fun J H1=>∃ W:Nat->Nat->St->Hp->Prop,(∃ m,W 0 m σ H1)/\∀ i m σ H,W i m σ H ->
 (J.stop i H/\D.nx σ H)\/(J.go i H/\∃ N:St->Hp->Prop,(∀ σ' H',N σ' H'->∃ m',m' < m/\W (i+1) m' σ' H')/\∀ x H',J.yld i H x H'->g x σ H' fun σ2 H2=>tb { D with nx:=N,ct:=N,bk:=D.nx } σ2 H2)
def sU (fp:List Su) (h:Sw):List (Su×Obj):=fp.filterMap fun b=>(h.get? b).map fun o=>(b,o)
theorem kH {fp:List Su} {h:Sw} {b:Su} {o:Obj} (hb:b∈fp) (e:h.get? b=some o):(b,o)∈sU fp h:=List.mem_filterMap.mpr ⟨b,hb,by rw [e]; rfl⟩
theorem Cy {fp:List Su} {h:Sw} {p:Su×Obj} (hp:p∈sU fp h):p.1∈fp/\h.get? p.1=some p.2:=by
 obtain⟨b,hb,e⟩:=List.mem_filterMap.mp hp
 cases q:h.get? b with
 | none=>rw [q] at e; cases e
 | some o =>
  rw [q] at e
  have e':(b,o)=p:=Option.some.inj e
  subst e'
  exact⟨hb,q⟩
theorem Inv.pinned {pins:List (Su×Obj)} {σ:St} {H:Hp} {s:SF} {fp:List Su} (I:Inv X pins σ H s) (hf:∀ b∈fp,ud X pins H b) (ho:∀ b∈fp,∃ o,s.heap.get? b=some o/\∀ v,o.data≠.cell v):Inv X (pins++sU fp s.heap) σ H s :=
 I.pins_of fun p hp=>(List.mem_append.mp hp).elim (fun z=>I.pin p (Ox _ z)) fun z=>by
  obtain⟨hb,e⟩:=Cy z
  obtain⟨f0,f1,f2,_⟩:=hf p.1 hb
  obtain⟨o,e',d⟩:=ho p.1 hb
  rw [e] at e'; cases e'
  exact⟨e,f0,f1,f2,d⟩
theorem Inv.unpinned {pins pl:List (Su×Obj)} {σ:St} {H:Hp} {s:SF} (I:Inv X (pins++pl) σ H s):Inv X pins σ H s:=I.pins_of fun p hp=>I.pin p (Ox _ (Om _ hp))
theorem IV {iter:SJ} {body:List SL} {wi:TI} {g:TG} {tb:TS} {pos:Pos} (hp:S4 (model X.prog X.w) X.A X.env X.xe) (hc:X.calm=true) (hi:PI X tg iter wi) (hg:PG X tg g) (hb:xx X body tb)
  (hs:∀ x,S8 iter X.env x=pure x:=by intro _; rfl):PS X (.For tg iter body [] pos) (NE wi g tb):=by
 intro pins s σ H D I h
 refine wpAny_For (dX (hi pins s σ H _ I h) fun v s1 h1=>dX h1 fun itv s2 h2=>?_) hs
 obtain⟨it,fp,tn,J,H2,e,I2,T,st2,f2,W,⟨m0,w0⟩,turn⟩:=h2
 subst e
 have stat:∀ {H':Hp},(∀ b∈fp,H' b=none)->∀ b∈fp,ud X pins H' b:=fun hn b hb=>⟨hn b hb,(f2 b hb).2⟩
 refine codeAny_forLoop_any (fun n s'=>∃ i σ' H',Inv X pins σ' H' s'/\tn i s'.heap/\(∀ b∈fp,H' b=none)/\W i n σ' H') ?_ m0 ⟨0,σ,H2,I2,st2,fun b hb=>(f2 b hb).1,w0⟩
 rintro n s3 ⟨i,σ3,H3,I3,st3,fr3,w3⟩
 rcases turn i n σ3 H3 w3 with ⟨stop,qn⟩ | ⟨go,N,hN,step⟩
 ·refine S5 hp (dX (T.done X rfl rfl rfl hc i pins s3 σ3 H3 X.xe I3 (stat fr3) st3 stop) fun r s4 ⟨hr,I4⟩=>?_)
  subst hr
  exact SY ⟨σ3,H3,I4,qn⟩
 ·refine S5 hp (dX (T.item X rfl rfl rfl hc i pins s3 σ3 H3 X.xe I3 (stat fr3) st3 go) fun r s4 ⟨u,hr,h4⟩=>?_)
  subst hr
  refine S5 hp (dX h4 fun _ s5 ⟨x,H5,I5,r5,y5,st5,fr5⟩=>?_)
  have I5':=I5.pinned (stat fr5) (T.obj _ _ st5)
  refine S5 hp (dX (hg _ s5 σ3 H5 x u _ I5' r5 (step x H5 y5)) fun _ s6 ⟨σ6,H6,I6,q6⟩=>?_)
  refine S5 hp (dX (hb _ s6 σ6 H6 _ I6 q6) fun f s7 q7=>?_)
  have again:∀ {σ7:St} {H7:Hp},Inv X (pins++sU fp s5.heap) σ7 H7 s7->N σ7 H7->∃ m,m < n/\∃ i σ' H',Inv X pins σ' H' s7/\tn i s7.heap/\(∀ b∈fp,H' b=none)/\W i m σ' H':=fun {σ7 H7} I7 n7=>by
   obtain⟨m',hm,w7⟩:=hN σ7 H7 n7
   refine⟨m',hm,i+1,σ7,H7,I7.unpinned,T.keep _ _ _ st5 fun b hb o e=>(I7.pin (b,o) (Ox _ (Ox _ (kH hb e)))).1,fun b hb=>?_,w7⟩
   obtain⟨o,e,d⟩:=T.obj _ _ st5 b hb
   exact(I7.pin (b,o) (Ox _ (Ox _ (kH hb e)))).2.1
  cases f with
  | next=>obtain⟨σ7,H7,I7,n7⟩:=q7; exact again I7 n7
  | cont=>obtain⟨σ7,H7,I7,n7⟩:=q7; exact again I7 n7
  | brk=>obtain⟨σ7,H7,I7,q7⟩:=q7; exact⟨σ7,H7,I7.unpinned,q7⟩
  | ret v=>obtain⟨x7,σ7,H7,I7,r7,q7⟩:=q7; exact⟨x7,σ7,H7,I7.unpinned,r7,q7⟩
end

end L2

namespace L2
open PySem PySem.Spec PyProof.Rows

abbrev R2:=V->V->Hp->VK->Prop
def j3 (X:Cx) (f:Sq->Sq->Sem Sq) (r:R2):Prop :=
 ∀ (pins:List (Su×Obj)) (s:SF) (σ:St) (H:Hp) (x y:V) (v u:Sq) (Q:VK),Inv X pins σ H s->RelV x v->RelV y u->r x y H Q ->
  SH (model X.prog X.w) X.A (f v u) (EP X pins σ Q) X.xe s
def MG (X:Cx) (f:Sq->Sem Sq) (r:V->Hp->VK->Prop):Prop :=
 ∀ (pins:List (Su×Obj)) (s:SF) (σ:St) (H:Hp) (x:V) (v:Sq) (Q:VK),Inv X pins σ H s->RelV x v->r x H Q ->
  SH (model X.prog X.w) X.A (f v) (EP X pins σ Q) X.xe s
def et (X:Cx) (f:Sq) (r:List V->Hp->VK->Prop):Prop :=
 ∀ (pins:List (Su×Obj)) (s:SF) (σ:St) (H:Hp) (xs:List V) (us:List Sq) (Q:VK),Inv X pins σ H s->Vals xs us->r xs H Q ->
  SH (model X.prog X.w) X.A (call f us) (EP X pins σ Q) X.xe s
def MC (X:Cx) (r:V->Hp->(Bool->Hp->Prop)->Prop):Prop :=
 ∀ (pins:List (Su×Obj)) (s:SF) (σ:St) (H:Hp) (x:V) (v:Sq) (Q:Bool->Hp->Prop),Inv X pins σ H s->RelV x v->r x H Q ->
  SH (model X.prog X.w) X.A (truthy v) (TP X pins σ Q) X.xe s

def KG (r:R2) (ta tb:TE):TE:=fun σ H Q=>ta σ H fun x H1=>tb σ H1 fun y H2=>r x y H2 Q
def LK (r:V->Hp->VK->Prop) (ta:TE):TE:=fun σ H Q=>ta σ H fun x H1=>r x H1 Q
def rI (C:Int->Int->Prop) (g:Int->Int->V):R2:=fun x y H Q=>∃ i j,x=.int i/\y=.int j/\C i j/\Q (g i j) H
def Ej (g:Int->Int->V):R2:=fun x y H Q=>∃ i j,x=.int i/\y=.int j/\Q (g i j) H
def rU (g:Int->V):V->Hp->VK->Prop:=fun x H Q=>∃ i,x=.int i/\Q (g i) H

section
variable {X:Cx} {a b c:SJ} {ta tb tc:TE} {pos:Pos}

theorem Ii (ha:PE X a ta) (hb:PE X b tb) {pins:List (Su×Obj)} {s:SF} {σ:St} {H:Hp} {R:V->V->Hp->Prop} (I:Inv X pins σ H s)
  (h:ta σ H fun x H1=>tb σ H1 fun y H2=>R x y H2) {Q:Sq->SF->Prop} {f:Sq->Sq->Sem Sq}
  (hf:∀ v u s2 x y H2,Inv X pins σ H2 s2->RelV x v->RelV y u->R x y H2->SH (model X.prog X.w) X.A (f v u) Q X.xe s2) :
  SH (model X.prog X.w) X.A (eval a X.env) (fun v s₁=>SH (model X.prog X.w) X.A (eval b X.env) (fun u s₂=>SH (model X.prog X.w) X.A (f v u) Q X.xe s₂) X.xe s₁) X.xe s:=by
 refine dX (ha pins s σ H _ I h) fun v s1 ⟨x,H1,I1,r1,q1⟩=>?_
 refine dX (hb pins s1 σ H1 _ I1 q1) fun u s2 ⟨y,H2,I2,r2,q2⟩=>?_
 exact hf v u s2 x y H2 I2 r1 r2 q2

theorem Ke {op:Operator} {r:R2} (ho:j3 X (S9 op) r) (ha:PE X a ta) (hb:PE X b tb):PE X (.BinOp a op b pos) (KG r ta tb):=by
 intro pins s σ H Q I h
 exact wpAny_BinOp (Ii ha hb I h fun v u s2 x y H2 I2 rx ry q=>ho pins s2 σ H2 x y v u Q I2 rx ry q)
theorem Dp {op:UnaryOp} {r:V->Hp->VK->Prop} (ho:MG X (unaryOp op) r) (ha:PE X a ta):PE X (.UnaryOp op a pos) (LK r ta):=by
 intro pins s σ H Q I h
 exact UnaryOp_ (dX (ha pins s σ H _ I h) fun v s1 ⟨x,H1,I1,r1,q1⟩=>ho pins s1 σ H1 x v Q I1 r1 q1)
theorem Ld {f:Sq->Sq->Sem Sq} {C:Int->Int->Prop} {g:Int->Int->Int}
  (rule:∀ (i j:Int) (t u:Tok) (s:SF) (Q:Sq->SF->Prop) (E:Sq->SF->Prop),C i j->Q (.int (g i j) s.toks) { s with toks:=s.toks+1 }->SH (model X.prog X.w) X.A (f (.int i t) (.int j u)) Q E s) :
  j3 X f (rI C fun i j=>.int (g i j)):=by
 intro pins s σ H x y v u Q I rx ry h
 obtain⟨i,j,rfl,rfl,hc,q⟩:=h
 obtain⟨t,rfl⟩:=rx
 obtain⟨t',rfl⟩:=ry
 exact rule i j t t' s _ _ hc ⟨.int (g i j),H,I.tok _,⟨_,rfl⟩,q⟩
theorem Kf {f:Sq->Sq->Sem Sq} {g:Int->Int->Int}
  (rule:∀ (i j:Int) (t u:Tok) (s:SF) (Q:Sq->SF->Prop) (E:Sq->SF->Prop),Q (.int (g i j) s.toks) { s with toks:=s.toks+1 }->SH (model X.prog X.w) X.A (f (.int i t) (.int j u)) Q E s) :
  j3 X f (Ej fun i j=>.int (g i j)):=by
 intro pins s σ H x y v u Q I rx ry h
 obtain⟨i,j,rfl,rfl,q⟩:=h
 obtain⟨t,rfl⟩:=rx
 obtain⟨t',rfl⟩:=ry
 exact rule i j t t' s _ _ ⟨.int (g i j),H,I.tok _,⟨_,rfl⟩,q⟩
theorem GZ {f:Sq->Sq->Sem Sq} {g:Int->Int->Bool}
  (rule:∀ (i j:Int) (t u:Tok) (s:SF) (Q:Sq->SF->Prop) (E:Sq->SF->Prop),Q (.bool (g i j)) s->SH (model X.prog X.w) X.A (f (.int i t) (.int j u)) Q E s) :
  j3 X f (Ej fun i j=>.bl (g i j)):=by
 intro pins s σ H x y v u Q I rx ry h
 obtain⟨i,j,rfl,rfl,q⟩:=h
 obtain⟨t,rfl⟩:=rx
 obtain⟨t',rfl⟩:=ry
 exact rule i j t t' s _ _ ⟨.bl (g i j),H,I,rfl,q⟩

def JB (i j:Int):Prop:=0<=j/\j<=1000000/\i.natAbs < 2 ^ 64
def Ji (i j:Int):Prop:=(-(2 ^ 64) < i/\i < 2 ^ 64)\/(-(2 ^ 64) < j/\j < 2 ^ 64)
theorem Ji.ok {i j:Int} (h:Ji i j):IntMulOk i j:=by
 rcases h with ⟨h1,h2⟩ | ⟨h1,h2⟩
 ·exact .of_left (intBits_le_64 h1 h2)
 ·exact .of_right (intBits_le_64 h1 h2)
theorem IX:j3 X (S9 .Add) (Ej fun i j=>.int (i+j)):=Kf fun _ _ _ _ _ _ _ q=>add_int q
theorem eY:j3 X (S9 .Sub) (Ej fun i j=>.int (i - j)):=Kf fun _ _ _ _ _ _ _ q=>sub_int q
theorem jd:j3 X (S9 .Mult) (rI Ji fun i j=>.int (i*j)):=Ld fun _ _ _ _ _ _ _ hc q=>mul_int q hc.ok
theorem bd:j3 X (S9 .Mod) (rI (fun _ j=>0 < j) fun i j=>.int (i%j)):=Ld fun i j _ _ _ _ _ hc q=>by
 have h1:(0:Int) < j:=hc
 exact mod_int' ‹0› (by rw [Int.fmod_eq_emod_of_nonneg i ‹0›]; exact q)
theorem nY:j3 X (S9 .Pow) (rI JB fun i j=>.int (i ^ j.toNat)):=Ld fun _ _ _ _ _ _ _ hc q=>pow_int_small hc.1 hc.2.1 hc.2.2 q
theorem Oa {f:Sq->Sem Sq} {g:Int->Int}
  (rule:∀ (i:Int) (t:Tok) (s:SF) (Q:Sq->SF->Prop) (E:Sq->SF->Prop),Q (.int (g i) s.toks) { s with toks:=s.toks+1 }->SH (model X.prog X.w) X.A (f (.int i t)) Q E s) :
  MG X f (rU fun i=>.int (g i)):=by
 intro pins s σ H x v Q I rx h
 obtain⟨i,rfl,q⟩:=h
 obtain⟨t,rfl⟩:=rx
 exact rule i t s _ _ ⟨.int (g i),H,I.tok _,⟨_,rfl⟩,q⟩
theorem AJ:MG X (unaryOp .USub) (rU fun i=>.int (-i)):=Oa fun _ _ _ _ _ q=>neg_int q
end

section
variable {X:Cx} {a b c:SJ} {ta tb tc:TE} {pos:Pos}
theorem DZ {pins:List (Su×Obj)} {σ:St} {H:Hp} {s:SF} {Q:VK} {k k':Bool} (I:Inv X pins σ H s) (q:Q (.bl k) H) (e:k=k'):EP X pins σ Q (.bool k') s:=by
 subst e
 exact⟨.bl k,H,I,rfl,q⟩
theorem K4:j3 X (SU .Lt) (Ej fun i j=>.bl (decide (i < j))):=GZ fun _ _ _ _ _ _ _ q=>lt_int q
theorem zk:j3 X (SU .LtE) (Ej fun i j=>.bl (decide (i<=j))):=GZ fun _ _ _ _ _ _ _ q=>le_int q
theorem yK:j3 X (SU .Gt) (Ej fun i j=>.bl (decide (j < i))):=GZ fun _ _ _ _ _ _ _ q=>gt_int q
theorem HH:j3 X (SU .GtE) (Ej fun i j=>.bl (decide (j<=i))):=GZ fun _ _ _ _ _ _ _ q=>ge_int q
theorem BW:j3 X (SU .Lt) (fun x y H Q=>∃ i j,x=.str i/\y=.str j/\Q (.bl (decide (i.cps.toList < j.cps.toList))) H):=by
 intro pins s σ H x y v u Q I rx ry h
 obtain⟨i,j,rfl,rfl,q⟩:=h
 obtain⟨t,rfl⟩:=rx
 obtain⟨t',rfl⟩:=ry
 exact lt_str (DZ I q rfl)
theorem bc (b:SJ) {op:SR} (h:op≠.In:=by decide) (h2:op≠.NotIn:=by decide):SV op b=false:=by
 have e1:(op==CmpOp.In)=false:=by cases op <;> first | rfl | exact absurd rfl h
 have e2:(op==CmpOp.NotIn)=false:=by cases op <;> first | rfl | exact absurd rfl h2
 cases b <;> simp [SV,e1,e2]
theorem Gb {op:SR} {r:R2} (ho:j3 X (SU op) r) (ha:PE X a ta) (hb:PE X b tb) (hm:SV op b=false):PE X (.Compare a [op] [b] pos) (KG r ta tb):=by
 intro pins s σ H Q I h
 exact wpAny_Compare1 (Ii ha hb I h fun v u s2 x y H2 I2 rx ry q=>ho pins s2 σ H2 x y v u Q I2 rx ry q) hm
def HG (t:TE):TT:=fun σ H Q=>t σ H fun x H'=>∃ k,x=.bl k/\Q k H'
theorem Ga {op:SR} {r:R2} (ho:j3 X (SU op) r) (ha:PE X a ta) (hb:PE X b tb) (hm:SV op b=false):PT X (.Compare a [op] [b] pos) (HG (KG r ta tb)):=by
 intro pins s σ H Q I h
 refine wpAny_isTrue_Compare1 (dX (ha pins s σ H _ I h) fun v s1 ⟨x,H1,I1,r1,q1⟩=>dX (hb pins s1 σ H1 _ I1 q1) fun u s2 ⟨y,H2,I2,r2,q2⟩ =>
  dX (ho pins s2 σ H2 x y v u _ I2 r1 r2 q2) fun c s3 ⟨z,H3,I3,r3,k,e,q3⟩=>?_) hm
 subst e
 cases r3
 exact SW ⟨H3,I3,q3⟩
def ED (r r':R2) (ta tb tc:TE):TE:=fun σ H Q=>ta σ H fun x H1=>tb σ H1 fun y H2=>r x y H2 fun z H3=>∃ k,z=.bl k /\
 (if k=true then tc σ H3 fun w' H4=>r' y w' H4 Q else Q (.bl false) H3)
theorem DV {op op':SR} {r r':R2} (ho:j3 X (SU op) r) (ho':j3 X (SU op') r') (ha:PE X a ta) (hb:PE X b tb) (hc:PE X c tc)
  (hm:lastMarks [op,op'] [b,c]=false:=by with_unfolding_all rfl):PE X (.Compare a [op,op'] [b,c] pos) (ED r r' ta tb tc):=by
 intro pins s σ H Q I h
 refine Compare_chain (dX (ha pins s σ H _ I h) fun v s1 ⟨x,H1,I1,r1,q1⟩=>chain_link (dX (hb pins s1 σ H1 _ I1 q1) fun u s2 ⟨y,H2,I2,r2,q2⟩ =>
  dX (ho pins s2 σ H2 x y v u _ I2 r1 r2 q2) fun d s3 ⟨z,H3,I3,r3,k,e,q3⟩=>?_)) hm
 subst e
 cases r3
 refine SW ?_
 cases k with
 | false=>exact ite_ff ⟨.bl false,H3,I3,rfl,q3⟩
 | true=>exact ite_tt (chain_last (dX (hc pins s3 σ H3 _ I3 q3) fun w' s4 ⟨z',H4,I4,r4,q4⟩=>ho' pins s4 σ H4 y z' u w' Q I4 r2 r4 q4))
def JH (K:Rf) (x:V) (H:Hp) (k:Bool):Prop :=
 match x with
 | .non=>k=false
 | .bl b=>k=b
 | .int i=>k=(i != 0)
 | .str y=>y.length<=Sx/\k=((y.length:Int) != 0)
 | .byt y=>y.size<=Sx/\k=((y.size:Int) != 0)
 | .ref p=>(∃ xs,nN K H p xs/\k=!xs.isEmpty)\/(∃ xs,pY K H p xs/\k=!xs.isEmpty)\/∃ kvs,H p=some (.dK kvs)/\k=!kvs.isEmpty
 | _=>False
theorem An {κ:Type} {kvs:List (κ×V)} {vs:List (κ×Sq)} (r:KV kvs vs):(!vs.isEmpty)=!kvs.isEmpty:=by
 cases r <;> rfl
theorem sV {xs:List V} {its:List Sq} (r:Vals xs its):(!its.toArray.isEmpty)=!xs.isEmpty:=by
 cases r <;> simp
theorem nZ:(Sx:Nat) < 2 ^ 63:=by rw [Ta]; decide
theorem Jj:MC X (fun x H Q=>∃ k,JH X.K x H k/\Q k H):=by
 intro pins s σ H x v Q I rx h
 obtain⟨k,e,q⟩:=h
 have hl:=nZ
 have hs:Sx=16777216:=Ta
 cases x with
 | non =>
  cases rx
  have e':k=false:=e
  subst e'
  exact truthy_none ⟨H,I,q⟩
 | bl b =>
  cases rx
  have e':k=b:=e
  subst e'
  exact SW ⟨H,I,q⟩
 | int i =>
  obtain⟨t,rfl⟩:=rx
  have e':k=(i != 0):=e
  subst e'
  exact PySem.P.truthy_int ⟨H,I,q⟩
 | str y =>
  obtain⟨t,rfl⟩:=rx
  obtain⟨hy,e'⟩:y.length<=Sx/\k=((y.length:Int) != 0):=e
  subst e'
  exact PySem.P.truthy_str ‹0› ⟨H,I.tok _,q⟩
 | byt y =>
  obtain⟨t,rfl⟩:=rx
  obtain⟨hy,e'⟩:y.size<=Sx/\k=((y.size:Int) != 0):=e
  subst e'
  exact PySem.W.truthy_bytes ‹0› ⟨H,I.tok _,q⟩
 | ref p =>
  cases rx
  have e':(∃ xs,nN X.K H p xs/\k=!xs.isEmpty)\/(∃ xs,pY X.K H p xs/\k=!xs.isEmpty)\/∃ kvs,H p=some (.dK kvs)/\k=!kvs.isEmpty:=e
  rcases e' with ⟨xs,hx,e'⟩ | ⟨xs,hx,e'⟩ | ⟨kvs,hx,e'⟩
  ·subst e'
   obtain⟨its,r,pl,hz⟩:=I.list hx
   have hlen:=r.length
   exact wpAny_truthy_list pl.isList (by simp only [Oy]; omega) ⟨H,I.tok _,by rw [sV r]; exact q⟩
  ·subst e'
   obtain⟨its,r,pl,hz⟩:=I.tuple hx
   have hlen:=r.length
   exact truthy_tuple pl (by simp only [Oy]; omega) ⟨H,I.tok _,by rw [sV r]; exact q⟩
  ·subst e'
   obtain⟨hz,hS,vs,r,m⟩:kvs.length<=Sx/\(p==sysModules)=false/\∃ vs,KV kvs vs/\s.heap.DictOf (fq X.prog X.w) p vs:=I.hok p _ hx
   have hlen:kvs.length=vs.length:=Paired.length r
   exact wpAny_truthy_dict hS m ‹0› ⟨H,I.tok _,by rw [An r]; exact q⟩
 | _=>exact(show False from e).elim
theorem Ey (ha:PE X a ta) (he:∀ whole,isTrue a X.env whole=(do let v <- whole; standAt a.pos; holding [v] (truthy v))) :
  PT X a (fun σ H Q=>ta σ H fun x H'=>∃ k,JH X.K x H' k/\Q k H'):=by
 intro pins s σ H Q I h
 exact isTrue_plain (dX (ha pins s σ H _ I h) fun v s1 ⟨x,H1,I1,r1,q1⟩=>Jj pins s1 σ H1 x v Q I1 r1 q1) (he _)

theorem zK:j3 X (S9 .Add) (fun x y H Q=>∃ i j,x=.str i/\y=.str j/\i.length+j.length<=Sx/\Q (.str (i++j)) H):=by
 intro pins s σ H x y v u Q I rx ry h
 obtain⟨i,j,rfl,rfl,hz,q⟩:=h
 obtain⟨t,rfl⟩:=rx
 obtain⟨t',rfl⟩:=ry
 exact add_str (fun t' tk=>⟨.str (i++j),H,I.tok _,⟨_,rfl⟩,q⟩) hz
theorem vals1 {x:V} {us:List Sq} (r:Vals [x] us):∃ u,us=[u]/\RelV x u:=by
 cases r with
 | cons r1 r2=>cases r2; exact⟨_,rfl,r1⟩
theorem vals2 {x y:V} {us:List Sq} (r:Vals [x,y] us):∃ u w',us=[u,w']/\RelV x u/\RelV y w':=by
 cases r with
 | cons r1 r2 =>
  cases r2 with
  | cons r3 r4=>cases r4; exact⟨_,_,rfl,r1,r3⟩
theorem Ct (hc:X.calm=true):et X (.builtin "max") (fun xs H Q=>∃ i j,xs=[.int i,.int j]/\Q (.int (if j > i then j else i)) H):=by
 intro pins s σ H xs us Q I r h
 obtain⟨i,j,rfl,q⟩:=h
 obtain⟨u,w',rfl,⟨t,rfl⟩,⟨t',rfl⟩⟩:=vals2 r
 refine max_two_ints (I.ok.hd hc) fun h' tk k=>⟨_,H,I.kept k,?_,q⟩
 by_cases hj:j > i
 ·rw [if_pos hj,if_pos hj]; exact⟨_,rfl⟩
 ·rw [if_neg hj,if_neg hj]; exact⟨_,rfl⟩
theorem C8 (hc:X.calm=true):et X (.builtin "min") (fun xs H Q=>∃ i j,xs=[.int i,.int j]/\Q (.int (if j < i then j else i)) H):=by
 intro pins s σ H xs us Q I r h
 obtain⟨i,j,rfl,q⟩:=h
 obtain⟨u,w',rfl,⟨t,rfl⟩,⟨t',rfl⟩⟩:=vals2 r
 refine min_two_ints (I.ok.hd hc) fun h' tk k=>⟨_,H,I.kept k,?_,q⟩
 by_cases hj:j < i
 ·rw [if_pos hj,if_pos hj]; exact⟨_,rfl⟩
 ·rw [if_neg hj,if_neg hj]; exact⟨_,rfl⟩
theorem uW:et X (.type "int") (fun xs H Q=>(∃ i,xs=[.int i]/\Q (.int i) H)\/∃ k,xs=[.bl k]/\Q (.int (if k then 1 else 0)) H):=by
 intro pins s σ H xs us Q I r h
 rcases h with ⟨i,rfl,q⟩ | ⟨k,rfl,q⟩
 ·obtain⟨u,rfl,t,rfl⟩:=vals1 r
  exact call_int_int ⟨.int i,H,I,⟨_,rfl⟩,q⟩
 ·obtain⟨u,rfl,r1⟩:=vals1 r
  cases r1
  exact call_int_bool ⟨.int (if k then 1 else 0),H,I.tok _,⟨_,rfl⟩,q⟩
theorem wQ:et X (.type "str") (fun xs H Q=>∃ i,xs=[.int i]/\i.natAbs.log2 < 1920/\Q (.str (toString i)) H):=by
 intro pins s σ H xs us Q I r h
 obtain⟨i,rfl,hz,q⟩:=h
 obtain⟨u,rfl,t,rfl⟩:=vals1 r
 exact PySem.P.str_of_int hz ⟨.str _,H,I.tok _,⟨_,rfl⟩,q⟩
end
end L2

namespace L2
open PySem PySem.Spec PyProof.Rows

structure Cw (h:Sw) (x dx C:Su) (mA:Str->Option Sq):Prop where
 obj:h.get? x=some (Rb C dx)
 ns:h.Ns1 dx mA
 ne:dx≠x

theorem Dc {h:Sw} {dx:Su} {mA:Str->Option Sq} (n:h.Ns1 dx mA):∃ od,h.get? dx=some od/\∀ name,Rg name od=some (mA name):=by
 obtain⟨o,es,ep,ho,hd,hk,_,hm⟩:=n
 refine⟨o,ho,fun name=>?_⟩
 have e:=hm name
 unfold nsFind findBy at e
 rw [<- Array.find?_toList] at e
 unfold Rg
 rw [hd]
 dsimp only
 split
 ·rename_i y q
  rw [q] at e
  exact congrArg some e
 ·rename_i q
  rw [q] at e
  have a:es.toList.any (·.refKey)=false:=by
   rw [Oz]
   intro y hy
   obtain⟨z,t,hkey⟩:=hk y (Array.mem_toList_iff.mp hy)
   simp [DictEntry.refKey,hkey]
  have a':¬ es.toList.any (·.refKey)=true:=by rw [a]; exact Ot
  rw [if_neg a']
  exact congrArg some e

theorem Cw.look {h:Sw} {x dx C:Su} {mA:Str->Option Sq} (I:Cw h x dx C mA):∃ od,PySem.W.InstAt h x (Rb C dx) C (some od)/\∀ name,Rg name od=some (mA name) :=
 let ⟨od,ho,hl⟩:=Dc I.ns
 ⟨od,⟨I.obj,rfl,rfl,ho⟩,hl⟩

section
variable {prog:Ss} {w:Sr} {A:SE} {E:Sq->SF->Prop} {s:SF} {K:Rf} {x dx C f:Su} {mA:Str->Option Sq} {name:Str} {v:Sq}

theorem FL {expr:Bool} {Q:Sq->SF->Prop} (X:K.In s.heap) (I:Cw s.heap x dx C mA) (hg:Rh K C name=true) (hh:Ri K C=true)
  (ha:Rj K (.ref C) name=some none) (hv:mA name=some v) (hv':Rl v=true) (h:Q v { s with toks:=s.toks+1 }) :
  SH (model prog w) A (getAttr (.ref x) name expr) Q E s:=by
 obtain⟨od,J,hl⟩:=I.look
 exact PySem.W.get_value X J (Rm hg).1 (PySem.W.findObj_own hh ha rfl (by rw [hl,hv])) hv' h

theorem Et {pl:Sem Bool} {Q:Sq×List Sq->SF->Prop} (X:K.In s.heap) (I:Cw s.heap x dx C mA) (hg:Rh K C name=true)
  (hf:Rj K (.ref C) name=some (some (.ref f))) (ht:Rn K (.ref f)=true) (hv:mA name=none) (h:Q (.ref f,[.ref x]) s) :
  SH (model prog w) A (getMethod (.ref x) name pl) Q E s:=by
 obtain⟨od,J,hl⟩:=I.look
 exact PySem.W.method_fn X J (Rm hg).1 (Rm hg).2 hf (beq_iff_eq.mp ht) (by show (Rg name od).map (·.isSome)=some false; rw [hl,hv]; rfl) h

theorem Fv {ns:List Str} {Q:Unit->SF->Prop} (X:K.In s.heap) (I:Cw s.heap x dx C mA)
  (hs:Rj K (.ref C) "__setattr__"=some (some (.builtin "object.__setattr__"))) (hp:Ro K C=true) (ht:Rp K C name=some none) (hh:Ri K C=true)
  (hw:PySem.Within mA ns) (hsz:ns.length<=Sx)
  (h:∀ h',Cw h' x dx C (fun y=>if y=name then some v else mA y)->RM dx s.heap h'->Q () { s with heap:=h',toks:=s.toks+2 }) :
  SH (model prog w) A (setAttr (.ref x) name v) Q E s:=by
 obtain⟨od,J,hl⟩:=I.look
 refine PySem.W.set_plain X J hs (PySem.W.osa_open (s:={ s with toks:=s.toks+1 }) (r:=none) X J hp ht fun b=>?_)
 obtain⟨cd,hc,hd'⟩:=PySem.W.any_some hh
 have hx:s.heap.get? x=some ⟨.ref C,some dx,.plain,#[]⟩:=I.obj
 refine SZ (S6 (SZ (SZ (wpAny_loadPart hx (SZ (PySem.W.Looks.here (s:={ s with toks:=s.toks+1 }) (PySem.W.looks_clsIn X hc) ?_))))))
 rw [hd']
 refine S6 (a:=some dx) (SZ (S6 (SZ ?_)))
 refine wpAny_nsSet1 (s:={ s with toks:=s.toks+1 }) I.ns fun h' hn2 hs2=>?_
 obtain⟨oD,esD,epD,hoD,hdD,hcD⟩:=hn2.count (PySem.Within.cons name v hw)
 refine SZ (wpAny_lookBehind hoD (by rw [hdD]; exact pastItsLine_dict (Og hcD (by rw [OA]; omega))) ?_)
 exact S6 (h _ ⟨(hs2.2 _ (Ne.symm I.ne)).trans I.obj,hn2,I.ne⟩ hs2)

theorem DB {R:Result->SF->Prop} {vs:List Sq} {kw:List (Str×Sq)} (X:K.In s.heap) (hm:Rq K C=true)
  (hi:Rj K (.ref C) "__init__"=some (some (.ref f))) (hf:PySem.W.typeIn K (.ref f)=some (.type "function"))
  (h:Tb (model prog w) (A.under (.builtin "type.__call__" ⟨.ref C::vs,kw⟩)) (.call (.ref f) ⟨.ref (s.heap.objs.size+1)::vs,kw⟩) (PySem.W.InitBack (s.heap.objs.size+1) R)
   { s with heap:=(s.heap.push Rr).push (Rb C s.heap.objs.size) }) :
  Tb (model prog w) A (.call (.ref C) ⟨vs,kw⟩) R s:=by
 obtain⟨hh,g,d,t,os⟩:=s
 exact PySem.W.make_core (PySem.W.makes_of X hm) (PySem.W.looks_findIn X hi) (fun self=>PySem.W.bind_fn X self hf) (.inl rfl) h
end

def la (f:Str) (v:V):List (Str×V)->List (Str×V)
 | []=>[(f,v)]
 | (g,x)::r=>if g=f then (g,v)::r else (g,x)::la f v r
theorem qp (f g:Str) (v:V):∀ fs:List (Str×V),(la f v fs).lookup g=if g=f then some v else fs.lookup g
 | []=>by
  show List.lookup g [(f,v)]=_
  by_cases h:g=f
  ·have hb:(g==f)=true:=beq_iff_eq.mpr h
   simp only [List.lookup,hb,if_pos h]
  ·have hb:(g==f)=false:=beq_eq_false_iff_ne.mpr h
   simp only [List.lookup,hb,if_neg h]
 | (k,x)::r=>by
  have ih:=qp f g v r
  rw [show la f v ((k,x)::r)=(if k=f then (k,v)::r else (k,x)::la f v r) from rfl]
  by_cases hk:k=f
  ·rw [if_pos hk]
   by_cases h:g=k
   ·have hb:(g==k)=true:=beq_iff_eq.mpr h
    simp only [List.lookup,hb,if_pos (h.trans hk)]
   ·have hb:(g==k)=false:=beq_eq_false_iff_ne.mpr h
    simp only [List.lookup,hb,if_neg (fun e:g=f=>h (e.trans hk.symm))]
  ·rw [if_neg hk]
   by_cases h:g=k
   ·have hb:(g==k)=true:=beq_iff_eq.mpr h
    simp only [List.lookup,hb,if_neg (fun e:g=f=>hk (h.symm.trans e))]
   ·have hb:(g==k)=false:=beq_eq_false_iff_ne.mpr h
    simp only [List.lookup,hb]
    exact ih
theorem qg (f:Str) (v:V):∀ fs:List (Str×V),f∈(la f v fs).map (·.1)/\∀ g,g∈fs.map (·.1)->g∈(la f v fs).map (·.1)
 | []=>⟨by simp [la],fun g h=>by simp at h⟩
 | (k,x)::r=>by
  obtain⟨i1,i2⟩:=qg f v r
  rw [show la f v ((k,x)::r)=(if k=f then (k,v)::r else (k,x)::la f v r) from rfl]
  by_cases hk:k=f
  ·rw [if_pos hk]
   subst hk
   exact⟨by simp,fun g h=>by simpa using h⟩
  ·rw [if_neg hk]
   refine⟨?_,fun g h=>?_⟩
   ·rw [OB]
    exact Ol _ i1
   ·rw [OB] at h ⊢
    rcases List.mem_cons.mp h with e | e
    ·exact List.mem_cons.mpr (.inl e)
    ·exact Ol _ (i2 g e)
theorem qq (f:Str) (v:V):∀ fs:List (Str×V),(la f v fs).length<=fs.length+1
 | []=>by simp [la]
 | (k,x)::r=>by
  have ih:=qq f v r
  rw [show la f v ((k,x)::r)=(if k=f then (k,v)::r else (k,x)::la f v r) from rfl]
  by_cases hk:k=f
  ·rw [if_pos hk,OA,OA]; omega
  ·rw [if_neg hk,OA,OA]; omega

theorem xF.some_of {v:V} {o:Option Sq} (r:xF (some v) o):∃ u,o=some u/\RelV v u:=by
 cases o with
 | none=>exact(show False from r).elim
 | some u=>exact⟨u,rfl,r⟩
theorem xF.none_of {o:Option Sq} (r:xF none o):o=none:=by
 cases o with
 | none=>rfl
 | some u=>exact(show False from r).elim
theorem Cr {v:V} {u:Sq} (r:RelV v u):Rl u=true:=by
 cases v with
 | non=>cases (show u=Value.none from r); rfl
 | bl b=>cases (show u=Value.bool b from r); rfl
 | int i=>obtain⟨t,e⟩:=(show ∃ t,u=Value.int i t from r); cases e; rfl
 | str x=>obtain⟨t,e⟩:=(show ∃ t,u=Value.str x t from r); cases e; rfl
 | byt b=>obtain⟨t,e⟩:=(show ∃ t,u=Value.bytes b t from r); cases e; rfl
 | flt b=>obtain⟨t,e⟩:=(show ∃ t,u=Value.float b t from r); cases e; rfl
 | ref a=>cases (show u=Value.ref a from r); rfl
 | ty n=>cases (show u=Value.type n from r); rfl

section
variable {P:Ss} {w:Sr} {H H':Hp} {h h':Sw} {a C dx:Su} {fs fs':List (Str×V)}
theorem vY (hok:pS P w H h) (e:H a=some (.ins C dx fs)):∃ mA,Cw h a dx C mA/\(∀ f,xF (fs.lookup f) (mA f))/\PySem.Within mA (fs.map (·.1))/\fs.length<=1000/\H dx=some (.own a):=by
 obtain⟨d,z,ne,ob,mA,n,r,q⟩:=(show dG P w H h a (.ins C dx fs) from hok a _ e)
 exact⟨mA,⟨ob,n,ne⟩,r,q,z,d⟩
end

structure AG (K:Rf) (C:Su):Prop where
 pg:Rh K C Str.empty=true
 hd:Ri K C=true
 po:Ro K C=true
 sa:Rj K (.ref C) "__setattr__"=some (some (.builtin "object.__setattr__"))
theorem AG.get {K:Rf} {C:Su} (c:AG K C) (f:Str):Rh K C f=true:=c.pg
def kc (K:Rf) (C:Su) (f:Str):Prop:=Rj K (.ref C) f=some none
theorem kc.taker {K:Rf} {C:Su} {f:Str} (n:kc K C f):Rp K C f=some none:=by
 unfold Rp
 rw [show Rj K (.ref C) f=some none from n]
 rfl
structure Meth (K:Rf) (C:Su) (m:Str) (f:Su):Prop where
 at_:Rj K (.ref C) m=some (some (.ref f))
 fn:Rn K (.ref f)=true
 kp:Rt K (.ref f)=true

section
variable {X:Cx} {pins:List (Su×Obj)} {σ:St} {H:Hp} {s:SF} {a C dx:Su} {fs:List (Str×V)} {f:Str} {v:V} {A:SE} {E:Sq->SF->Prop}

theorem AD {b:Bool} {Q:Sq->SF->Prop} (I:Inv X pins σ H s) (e:H a=some (.ins C dx fs)) (c:AG X.K C) (n:kc X.K C f) (l:fs.lookup f=some v)
  (h:∀ u s',Inv X pins σ H s'->RelV v u->Q u s'):SH (model X.prog X.w) A (getAttr (.ref a) f b) Q E s:=by
 obtain⟨mA,O,r,_,_,_⟩:=vY I.hok e
 obtain⟨u,hu,ru⟩:=xF.some_of (v:=v) (o:=mA f) (by rw [<- l]; exact r f)
 exact FL I.kIn O (c.get f) c.hd n hu (Cr ru) (h u _ (I.tok _) ru)

theorem zY {m:Str} {g:Su} {pl:Sem Bool} {Q:Sq×List Sq->SF->Prop} (I:Inv X pins σ H s) (e:H a=some (.ins C dx fs)) (c:AG X.K C) (k:Meth X.K C m g) (l:fs.lookup m=none)
  (h:Q (.ref g,[.ref a]) s):SH (model X.prog X.w) A (getMethod (.ref a) m pl) Q E s:=by
 obtain⟨mA,O,r,_,_,_⟩:=vY I.hok e
 have hn:mA m=none:=xF.none_of (by rw [<- l]; exact r m)
 exact Et I.kIn O (c.get m) k.at_ k.fn hn h

theorem AQ {y:V} {u:Sq} {Q:Unit->SF->Prop} (I:Inv X pins σ H s) (e:H a=some (.ins C dx fs)) (c:AG X.K C) (n:kc X.K C f) (hl:fs.length < 1000) (ry:RelV y u)
  (h:∀ s',Inv X pins σ (upd H a (.ins C dx (la f y fs))) s'->Q () s'):SH (model X.prog X.w) A (setAttr (.ref a) f u) Q E s:=by
 obtain⟨mA,O,r,wi,_,ho⟩:=vY I.hok e
 have hz:(fs.map (·.1)).length<=Sx:=by rw [OC,Ta]; omega
 refine Fv I.kIn O c.sa c.po n.taker c.hd wi hz fun h' O' sb=>h _ ?_
 have hd:∃ o,h'.get? dx=some o:=let ⟨o,_,_,e',_⟩:=O'.ns; ⟨o,e'⟩
 refine I.write (x:=a) (e:=dx) (by rw [e]; exact True.intro) (.inr ho) (fun b q hb z=>(sb.2 b hb).trans z) hd ?_
 refine⟨by rw [bF O.ne]; exact ho,?_,O.ne,O'.obj,_,O'.ns,fun g=>?_,fun g hg=>?_⟩
 ·have:=qq f y fs; omega
 ·show xF ((la f y fs).lookup g) (if g=f then some u else mA g)
  rw [qp]
  by_cases q:g=f
  ·rw [if_pos q,if_pos q]; exact ry
  ·rw [if_neg q,if_neg q]; exact r g
 ·by_cases q:g=f
  ·rw [q]; exact(qg f y fs).1
  ·refine(qg f y fs).2 g (wi g fun z=>hg ?_)
   show (if g=f then some u else mA g)=none
   rw [if_neg q]; exact z

theorem Inv.made (I:Inv X pins σ H s):Inv X pins σ (upd (upd H s.heap.objs.size (.own (s.heap.objs.size+1))) (s.heap.objs.size+1) (.ins C s.heap.objs.size []))
  { s with heap:=(s.heap.push Rr).push (Rb C s.heap.objs.size) }:=by
 have e1:(s.heap.push Rr).get? s.heap.objs.size=some Rr:=RO s.heap rfl
 have e2:((s.heap.push Rr).push (Rb C s.heap.objs.size)).get? (s.heap.objs.size+1)=some (Rb C s.heap.objs.size):=by
  have:=RO (s.heap.push Rr) (o:=Rb C s.heap.objs.size) rfl
  rwa [RP] at this
 have e3:(s.heap.push Rr).Ns s.heap.objs.size (fun _=>none):=⟨Rr,#[],_,e1,rfl,(fun e he=>absurd he (by simp)),fun _=>rfl⟩
 have I1:=I.laid (a:=s.heap.objs.size) (o:=.own (s.heap.objs.size+1)) (h':=s.heap.push Rr) (t':=s.toks) (fun b u q=>RN _ q) (Ow _) ⟨_,e1⟩
 refine I1.laid (a:=s.heap.objs.size+1) (o:=.ins C s.heap.objs.size []) (t':=s.toks) (fun b u q=>RN _ q) (OD (RP _ _)) ?_
 have ne:s.heap.objs.size≠s.heap.objs.size+1:=Of (OG _)
 refine⟨by rw [bF ne,cg],OH _,ne,e2,fun _=>none,(Heap.Ns1.of_empty e3).at fun o q=>RN _ q,fun _=>True.intro,fun y hy=>absurd rfl hy⟩

theorem Gd {prog:Ss} {w:Sr} {env:Env} {e:SJ} {f:Str} {pos:Pos} {s:SF} {Q:Sq->SF->Prop} (hb:Tc e f env (eval e env)=eval e env)
  (h:SH (model prog w) A (eval e env) (fun o s₁=>SH (model prog w) A (getAttr o f true) Q E s₁) E s):SH (model prog w) A (eval (.Attribute e f pos) env) Q E s :=
 Attribute_any_ h (by rw [arm_eval_Attribute,hb])
end

def Mg (K:Rf) (ta:TE) (f:Str):TE:=fun σ H Q=>ta σ H fun x H1=>∃ a C dx fs v,x=.ref a/\H1 a=some (.ins C dx fs)/\AG K C/\kc K C f/\fs.lookup f=some v/\Q v H1
def M0 (K:Rf) (ta tv:TE) (f:Str):TS:=fun D σ H=>tv σ H fun y H1=>ta σ H1 fun x H2=>∃ a C dx fs,x=.ref a/\H2 a=some (.ins C dx fs)/\AG K C/\kc K C f/\fs.length < 1000 /\
 D.nx σ (upd H2 a (.ins C dx (la f y fs)))
section
variable {X:Cx} {o e value:SJ} {f:Str} {pos pos' tpos:Pos} {ta tv:TE}
theorem IP (he:PE X e ta) (hb:Tc e f X.env (eval e X.env)=eval e X.env):PE X (.Attribute e f pos) (Mg X.K ta f):=by
 intro pins s σ H Q I h
 refine Gd hb (dX (he pins s σ H _ I h) fun u s1 ⟨x,H1,I1,rx,a,C,dx,fs,v,ex,ea,c,n,l,q⟩=>?_)
 subst ex
 obtain rfl:u=Value.ref a:=rx
 exact AD I1 ea c n l fun u' s2 I2 ru=>⟨v,H1,I2,ru,q⟩
theorem Dq (ha:PE X o ta) (hv:PE X value tv) (hs:swapsWith value (some (.Attribute o f pos')) pos.line X.env=pure false):PS X (.Assign [.Attribute o f pos'] value pos) (M0 X.K ta tv f):=by
 intro pins s σ H D I h
 refine plainObj_wpAny_Assign_Attribute (dX (hv pins s σ H _ I h) fun u s1 ⟨y,H1,I1,ry,q⟩=>dX (ha pins s1 σ H1 _ I1 q) fun ov s2 ⟨x,H2,I2,rx,a,C,dx,fs,ex,ea,c,n,l,q2⟩=>?_) hs
 subst ex
 obtain rfl:ov=Value.ref a:=rx
 exact AQ I2 ea c n l ry fun s3 I3=>⟨σ,_,I3,q2⟩
theorem yt {pl:Sem Bool} {m:Str} {apos:Pos} {args:List SJ} {pins:List (Su×Obj)} {s:SF} {σ:St} {H:Hp} {Q:Sq->SF->Prop} {te:TE} (he:PE X e te) (I:Inv X pins σ H s)
  (h:te σ H fun x H1=>∃ a C dx fs g,x=.ref a/\H1 a=some (.ins C dx fs)/\AG X.K C/\Meth X.K C m g/\fs.lookup m=none /\
   ∀ s1,Inv X pins σ H1 s1->SH (model X.prog X.w) X.A (Td pos (.ref g) [.ref a] (backTo pos (SK args X.env)) (backToKw pos (Te [] X.env))) Q X.xe s1)
  (ht:eval (.Call (.Attribute e m apos) args [] pos) X.env=(do
   let ov <- eval e X.env
   standAt apos.atName
   let (f,first) <- holding [ov] (getMethod ov m pl)
   Td pos f first (backTo pos (SK args X.env)) (backToKw pos (Te [] X.env)))) :
  SH (model X.prog X.w) X.A (eval (.Call (.Attribute e m apos) args [] pos) X.env) Q X.xe s:=by
 refine PySem.W.methodCall_KW (pl:=pl) (dX (he pins s σ H _ I h) fun u s1 ⟨x,H1,I1,rx,a,C,dx,fs,g,ex,ea,c,k,l,q⟩=>?_) ht
 subst ex
 obtain rfl:u=Value.ref a:=rx
 exact zY I1 ea c k l (q s1 I1)
end

end L2

namespace L2
open PySem PySem.Spec PyProof.Rows

structure fG (k:Nat) (A:SE):Prop where
 hd:A.handled=none
 dp:A.depth+3*k+5 < Tf
 un:A.units+16*k+200 < Tg
theorem fG.mono {j k:Nat} {A:SE} (r:fG k A) (h:j<=k):fG j A:=⟨r.hd,by have:=r.dp; omega,by have:=r.un; omega⟩
theorem fG.deeper {k:Nat} {A:SE} (r:fG (k+1) A) (env:Env):fG k (A.deeper env) :=
 ⟨r.hd,by have:=r.dp; show A.depth+1+3*k+5 < _; omega,by have:=r.un; show A.units+3+16*k+200 < _; omega⟩
theorem zP {A:SE} {C:Su} {us:List Sq} {kw:List (Str×Sq)}:(A.under (.builtin "type.__call__" ⟨.ref C::us,kw⟩)).depth=A.depth+1:=by
 first | rfl | simp [Around.under,Code.weight,Code.isCreation,Code.isGuard,Code.isCaller,Code.frames,Code.isFrame,guardIds]
theorem AF {A:SE} {C:Su} {us:List Sq} {kw:List (Str×Sq)}:(A.under (.builtin "type.__call__" ⟨.ref C::us,kw⟩)).units=A.units+1:=by
 first | rfl | simp [Around.under,Code.cUnits,Code.frames,Code.isFrame]
theorem fG.make {k:Nat} {A:SE} (r:fG (k+1) A) (C:Su) (us:List Sq) (kw:List (Str×Sq)):fG k (A.under (.builtin "type.__call__" ⟨.ref C::us,kw⟩)) :=
 ⟨r.hd,by have:=r.dp; rw [zP]; omega,by have:=r.un; rw [AF]; omega⟩
theorem fG.depth {k:Nat} {A:SE} (r:fG k A):A.depth < Tf:=by have:=r.dp; omega
theorem fG.units {k:Nat} {A:SE} (r:fG k A):A.units+64 < Tg:=by have:=r.un; omega
def M3:TA:=fun _ H Q=>Q [] H
def Jw (ta:TE) (tr:TA):TA:=fun σ H Q=>ta σ H fun x H1=>tr σ H1 fun xs H2=>Q (x::xs) H2
section
variable {X:Cx} {e:SJ} {es:List SJ} {te:TE} {t:TA} {pos:Pos}
theorem xA:PA X [] M3:=fun _ _ _ _ H Q I h=>Calls.spliced_nil ⟨[],H,I,.nil,h⟩
theorem mR (ha:PE X e te) (hr:PA X es t) (hs:SK (e::es) X.env=(false,eval e X.env)::SK es X.env:=by rfl):PA X (e::es) (Jw te t):=by
 intro pos pins s σ H Q I h
 rw [hs]
 show SH _ _ (spliced ((false,eval e X.env)::backTo pos (SK es X.env))) _ _ s
 refine Calls.spliced_cons (dX (ha pins s σ H _ I h) fun u s1 ⟨x,H1,I1,r1,q1⟩=>?_)
 exact dX (hr pos pins s1 σ H1 _ I1 q1) fun us s2 ⟨xs,H2,I2,r2,q2⟩=>⟨x::xs,H2,I2,.cons r1 r2,q2⟩

def MT (t:TA):TE:=fun σ H Q=>t σ H fun xs H1=>xs.length<=Sx/\∀ p,H1 p=none->Q (.ref p) (upd H1 p (.tup xs))
def Mu (t:TA):TE:=fun σ H Q=>t σ H fun xs H1=>xs.length<=Sx/\∀ p,H1 p=none->Q (.ref p) (upd H1 p (.lst xs))
theorem II {x1} (h:PA X es t):PE X (.Tuple es x1 pos) (MT t):=by
 intro pins s σ H Q I hq
 refine wpAny_Tuple_spliced (dX (h pos pins s σ H _ I hq) fun us s1 ⟨xs,H1,I1,r,z,q⟩=>⟨by rw [<- r.length]; exact z,?_⟩)
 have hf:H1 s1.heap.objs.size=none:=I1.hok.fresh (Ow _)
 refine⟨.ref s1.heap.objs.size,upd H1 s1.heap.objs.size (.tup xs),I1.laid (t':=s1.toks) (fun b u e=>RN _ e) (Ow _) ?_,rfl,q _ hf⟩
 exact⟨z,us,r,⟨_,RO _ rfl,rfl,_,rfl⟩⟩
theorem Dk (h:PA X es t):PE X (.List es pos) (Mu t):=by
 intro pins s σ H Q I hq
 refine wpAny_List_spliced (dX (h pos pins s σ H _ I hq) fun us s1 ⟨xs,H1,I1,r,z,q⟩=>⟨by rw [<- r.length]; exact z,?_⟩)
 have hf:H1 s1.heap.objs.size=none:=I1.hok.fresh (Ow _)
 refine⟨.ref s1.heap.objs.size,upd H1 s1.heap.objs.size (.lst xs),I1.laid (t':=s1.toks) (fun b u e=>RN _ e) (Ow _) ?_,rfl,q _ hf⟩
 exact⟨z,us,0,r,RO _ rfl⟩
end

abbrev Sp:=List V->Hp->VK->XK->Prop
abbrev Az:=List Env->Hp->SF->XK->Sq->SF->Prop

structure Cz (P:Ss) (w:Sr) (K:Rf) (mg:Str->Option Sq) (base:Sw) (A:SE) (outer:List Env) (s:SF) (H:Hp):Prop where
 frames:A.frames=some outer
 mod:Mod K mg base
 bs:∀ b o,base.get? b=some o->s.heap.get? b=some o/\H b=none
 bsz:base.objs.size<=s.heap.objs.size
 funs:s.heap.FunFrames base outer
 frf:∀ b∈frs outer,H b=none
 hok:pS P w H s.heap
 bare:AllBare s.gens
def CE (outer:List Env) (P:Ss) (w:Sr) (H:Hp) (s:SF) (Q:VK) (u:Sq) (s':SF):Prop :=
 ∃ v H',s'.os=s.os/\AllBare s'.gens/\Un (frs outer) [] H H' s.heap s'.heap/\pS P w H' s'.heap/\RelV v u/\Q v H'
def CR (CX:Az) (outer:List Env) (P:Ss) (w:Sr) (H:Hp) (s:SF) (Q:VK) (E:XK) (r:Result) (s':SF):Prop :=
 match r with
 | .ok (.ret u)=>CE outer P w H s Q u s'
 | .ok _=>False
 | .error e=>CX outer H s E e s'
structure js (P:Ss) (w:Sr) (K:Rf) (mg:Str->Option Sq) (base:Sw) (CX:Az) (k:Nat) (f:Su) (fd:Th) (ps:List Str) (sp:Sp):Prop where
 len:∀ vs H Q E,sp vs H Q E->vs.length=ps.length
 run:∀ (A:SE) (outer:List Env) (s:SF) (H:Hp) (args:Args) (us:List Sq) (vs:List V) (Q:VK) (E:XK),fG k A->Cz P w K mg base A outer s H->Ti s fd args (ps.zip us)->Vals vs us->sp vs H Q E ->
  Tb (model P w) A (.call (.ref f) args) (CR CX outer P w H s Q E) s
theorem js.mono {P:Ss} {w:Sr} {K:Rf} {mg:Str->Option Sq} {base:Sw} {CX:Az} {j k:Nat} {f:Su} {fd:Th} {ps:List Str} {sp:Sp} (F:js P w K mg base CX j f fd ps sp) (h:j<=k) :
  js P w K mg base CX k f fd ps sp:=⟨F.len,fun A outer s H args us vs Q E hr=>F.run A outer s H args us vs Q E (hr.mono h)⟩
theorem Cz.make {P:Ss} {w:Sr} {K:Rf} {mg:Str->Option Sq} {base:Sw} {A:SE} {outer:List Env} {s:SF} {H:Hp} (e:Cz P w K mg base A outer s H) (C:Su) (us:List Sq) (kw:List (Str×Sq)) :
  Cz P w K mg base (A.under (.builtin "type.__call__" ⟨.ref C::us,kw⟩)) outer s H:=⟨by first | exact e.frames | (simpa [Around.under,Code.envs,Code.isFrame,pushEnvs] using e.frames),e.mod,e.bs,e.bsz,e.funs,e.frf,e.hok,e.bare⟩
section
variable {X:Cx} {pins:List (Su×Obj)} {σ:St} {H:Hp} {s s':SF}
theorem Inv.env0 (I:Inv X pins σ H s):Cz X.prog X.w X.K X.mg X.base X.A X.stack s H :=
 ⟨I.ok.frames,I.ok.mod,I.bs,Og I.ok.bsz I.sz,I.stack,I.stkFree,I.hok,I.bare⟩
theorem Inv.after {Q:VK} {u:Sq} (I:Inv X pins σ H s) (h:CE X.stack X.prog X.w H s Q u s'):EP X pins σ Q u s':=by
 obtain⟨v,H',os,bare,un,hok,r,q⟩:=h
 obtain⟨hh,g,d,t,os'⟩:=s'
 obtain rfl:os'=s.os:=os
 exact⟨v,H',I.call (h':=hh) (g':=g) (d':=d) (t':=t) (ch:=[]) un hok bare (fun b z=>absurd z (by simp)),r,q⟩
end

def JC (C:Su) (sp:Sp) (dvs:List V) (E:XK) (t:TA):TE:=fun σ H Q=>t σ H fun vs H1=>∀ x dx,H1 x=none->H1 dx=none->dx≠x ->
 sp (.ref x::(vs++dvs)) (upd (upd H1 dx (.own x)) x (.ins C dx [])) (fun v H2=>v=.non/\Q (.ref x) H2) E

def Binds (K:Rf) (fd:Th) (ps:List Str) (ds:List Sq):Prop :=
 ∀ (s:SF) (us:List Sq),K.In s.heap->(us++ds).length=ps.length->Ti s fd ⟨us,[]⟩ (ps.zip (us++ds))
theorem Binds.all {K:Rf} {fd:Th} {ps:List Str} (h:∀ us:List Sq,us.length=ps.length->bindArgs fd ⟨us,[]⟩=pure (ps.zip us)):Binds K fd ps []:=fun s us _ hl=>by
 rw [OI] at hl ⊢
 exact .of_eq (h us hl)

def zS (CX:Az) (X:Cx) (E:XK):Prop:=∀ (pins:List (Su×Obj)) (σ:St) (H:Hp) (s:SF) (e:Sq) (s':SF),Inv X pins σ H s->CX X.stack H s E e s'->X.xe e s'

section
variable {X:Cx} {CX:Az} {k:Nat} {f C:Su} {fd:Th} {ps:List Str} {sp:Sp} {dvs:List V} {ds:List Sq} {E:XK} {x m:Str} {p pos apos:Pos} {e o:SJ} {es:List SJ} {ta:TE} {t:TA}

structure Mk (K:Rf) (C f:Su):Prop where
 makes:Rq K C=true
 init:Rj K (.ref C) "__init__"=some (some (.ref f))
 fn:Rn K (.ref f)=true
 kp:Rt K (.ref C)=true

theorem Es {pins:List (Su×Obj)} {σ:St} {H:Hp} {s:SF} {Q:VK} {us:List Sq} {vs:List V} (M:Mk X.K C f) (F:js X.prog X.w X.K X.mg X.base CX k f fd ps sp) (hr:fG (k+1) X.A) (hb:Binds X.K fd ps ds) (hd:Vals dvs ds)
  (hx:zS CX X E) (I:Inv X pins σ H s) (r:Vals vs us)
  (h:∀ x dx,H x=none->H dx=none->dx≠x->sp (.ref x::(vs++dvs)) (upd (upd H dx (.own x)) x (.ins C dx [])) (fun v H2=>v=.non/\Q (.ref x) H2) E) :
  SH (model X.prog X.w) X.A (call (.ref C) us) (EP X pins σ Q) X.xe s:=by
 have hq:=h (s.heap.objs.size+1) s.heap.objs.size (I.hok.fresh (Nat.le_succ _)) (I.hok.fresh (Ow _)) (Of (OG _))
 have I2:=Inv.made (C:=C) I
 have r2:Vals (V.ref (s.heap.objs.size+1)::(vs++dvs)) (Value.ref (s.heap.objs.size+1)::(us++ds)):=.cons rfl (r.append hd)
 have hl:(Value.ref (s.heap.objs.size+1)::us++ds).length=ps.length:=by
  have e:=r2.length
  rw [F.len _ _ _ _ hq] at e
  exact e.symm
 refine wpAny_call (DB (f:=f) I.kIn M.makes M.init (beq_iff_eq.mp M.fn) (Tj (F.run _ X.stack _ _ ⟨Value.ref (s.heap.objs.size+1)::us,[]⟩ (Value.ref (s.heap.objs.size+1)::(us++ds)) _ _ E (hr.make C us [])
  (I2.env0.make C us []) (hb _ (Value.ref (s.heap.objs.size+1)::us) I2.kIn hl) r2 hq) fun r s' hq'=>?_))
 cases r with
 | error e=>exact hx pins σ _ _ e s' I2 hq'
 | ok fl =>
  cases fl with
  | ret u =>
   obtain⟨v,H',I3,rv,ev,q3⟩:=I2.after hq'
   subst ev
   exact⟨rv,⟨V.ref (s.heap.objs.size+1),H',I3,rfl,q3⟩⟩
  | next=>exact False.elim hq'
  | brk=>exact False.elim hq'
  | cont=>exact False.elim hq'
theorem GN (M:Mk X.K C f) (F:js X.prog X.w X.K X.mg X.base CX k f fd ps sp) (hr:fG (k+1) X.A) (hg:Gl X x) (hm:X.mg x=some (.ref C)) (hb:Binds X.K fd ps ds) (hd:Vals dvs ds) (hx:zS CX X E)
  (ha:PA X (e::es) t) (hdb:(x==("__debug__":Str))=false:=by decide) (he:SK (e::es) X.env=(false,eval e X.env)::SK es X.env:=by rfl) (hpl:(backTo pos (SK es X.env)).any (·.1)=false:=by rfl) :
  PE X (.Call (.Name x p) (e::es) [] pos) (JC C sp dvs E t):=by
 intro pins s σ H Q I h
 refine Tl (xj I hg hm ?_ hdb)
 refine Ru (h₀:=X.base) I.ok.mod.kin M.kp (dX (ha pos pins s σ H _ I h) fun us s1 ⟨vs,H1,I1,r,q⟩=>⟨I1.kIn,?_⟩) he hpl
 exact Es M F hr hb hd hx I1 r q
end


structure aJ (N P:List Str) (sc:SG):Prop where
 kind:sc.kind=.function
 co:sc.isCoroutine=false
 gen:sc.isGenerator=false
 nd:N.Nodup
 pre:N.take P.length=P
 par:∀ x∈P,sc.names.lookup x=some .local\/sc.names.lookup x=some .cell
 nofree:∀ y∈sc.names,y.2≠.free

theorem uO {kindOf:Str->Option Tn} {x:Str}:∀ {binds:List (Str×Sq)} {m:Str->Option Sq},(∀ v,(x,v)∉binds)->bindL kindOf binds m x=m x
 | [],_,_=>rfl
 | (n,v)::r,m,h=>by
  unfold bindL
  rw [uO fun w hw=>h w (Ol _ hw)]
  split
  ·have:x≠n:=by rintro rfl; exact h v Oj
   simp [this]
  ·rfl
theorem vq {kindOf:Str->Option Tn} {x:Str}:∀ {binds:List (Str×Sq)} {m:Str->Option Sq},(∀ v,(x,v)∉binds)->bindC kindOf binds m x=m x
 | [],_,_=>rfl
 | (n,v)::r,m,h=>by
  unfold bindC
  rw [vq fun w hw=>h w (Ol _ hw)]
  split
  ·rfl
  ·have:x≠n:=by rintro rfl; exact h v Oj
   simp [this]
theorem uG {kindOf:Str->Option Tn} {x:Str} {v:Sq}:∀ {P:List Str} {vs:List Sq} {i:Nat} {m:Str->Option Sq},P.Nodup->P[i]?=some x->vs[i]?=some v->kindOf x=some .local ->
  bindL kindOf (P.zip vs) m x=some v
 | [],_,_,_,_,h,_,_=>by simp at h
 | _::_,[],_,_,_,_,h,_=>by simp at h
 | p::P,w::vs,0,m,nd,h1,h2,hk=>by
  simp at h1 h2; subst h1; subst h2
  show bindL kindOf ((p,w)::P.zip vs) m p=_
  unfold bindL
  rw [uO fun v hv=>(List.nodup_cons.mp nd).1 (OJ hv).1,if_pos hk]
  simp
 | p::P,w::vs,i+1,m,nd,h1,h2,hk=>by
  show bindL kindOf ((p,w)::P.zip vs) m x=_
  unfold bindL
  exact uG (i:=i) (List.nodup_cons.mp nd).2 (by simpa using h1) (by simpa using h2) hk
theorem uJ {kindOf:Str->Option Tn} {x:Str} {v:Sq}:∀ {P:List Str} {vs:List Sq} {i:Nat} {m:Str->Option Sq},P.Nodup->P[i]?=some x->vs[i]?=some v->kindOf x≠some .local ->
  bindC kindOf (P.zip vs) m x=some v
 | [],_,_,_,_,h,_,_=>by simp at h
 | _::_,[],_,_,_,_,h,_=>by simp at h
 | p::P,w::vs,0,m,nd,h1,h2,hk=>by
  simp at h1 h2; subst h1; subst h2
  show bindC kindOf ((p,w)::P.zip vs) m p=_
  unfold bindC
  rw [vq fun v hv=>(List.nodup_cons.mp nd).1 (OJ hv).1,if_neg hk]
  simp
 | p::P,w::vs,i+1,m,nd,h1,h2,hk=>by
  show bindC kindOf ((p,w)::P.zip vs) m x=_
  unfold bindC
  exact uJ (i:=i) (List.nodup_cons.mp nd).2 (by simpa using h1) (by simpa using h2) hk

def start (N:List Str) (vs:List V):St:=vs.map some++List.replicate (N.length - vs.length) none

def jL (CX:Az) (P:Ss) (w:Sr) (K:Rf) (mg:Str->Option Sq) (base:Sw) (N:List Str) (qual:Str) (scope:SG) (f:Su) (cd:Sq) (A:SE) (outer:List Env) (s:SF) (H:Hp) (E:XK):Cx where
 prog:=P
 w:=w
 K:=K
 mg:=mg
 base:=base
 A:=A.deeper (envOfC qual scope s.heap.objs.size f cd)
 N:=N
 s₀:=s
 H₀:=H
 env:=envOfC qual scope s.heap.objs.size f cd
 outer:=outer
 stack:=envOfC qual scope s.heap.objs.size f cd::outer
 ex:=[]
 calm:=true
 fn:=fun _=>true
 pn:=[]
 xe:=fun e s'=>SH (model P w) (A.deeper (envOfC qual scope s.heap.objs.size f cd)) (leaving (envOfC qual scope s.heap.objs.size f cd) e) (fun _ s''=>CX outer H s E e s'') (fun e' s''=>CX outer H s E e' s'') s'

theorem yV {sc:SG} {n:Nat} {x:Str} (h:sc.names.lookup x=some .cell):∃ c,(cellsFrom n sc.names []).lookup x=some c:=by
 have q:=Rv sc.names n [] (.inl h)
 exact Option.isSome_iff_exists.mp q

theorem CN {CX:Az} {P:Ss} {w:Sr} {K:Rf} {mg:Str->Option Sq} {base:Sw} {N ps:List Str} {qual:Str} {scope:SG} {f:Su} {cd:Sq} {A:SE} {outer:List Env} {s s1:SF} {H:Hp} {E:XK} {us:List Sq} {vs:List V}
  (S:aJ N ps scope) (hd:A.handled=none) (e0:Cz P w K mg base A outer s H) (hl:vs.length=ps.length) (r:Vals vs us)
  (x:InCallC s s.heap.objs.size (bindL (envOfC qual scope s.heap.objs.size f cd).kindOf (ps.zip us) fun _=>none) (cellsFrom (s.heap.objs.size+1) scope.names []) (bindC (envOfC qual scope s.heap.objs.size f cd).kindOf (ps.zip us) fun _=>none) s1) :
  Inv (jL CX P w K mg base N qual scope f cd A outer s H E) [] (start N vs) H s1:=by
 have hpl:ps.length<=N.length:=by have:=congrArg List.length S.pre; rw [OL] at this; omega
 obtain⟨h1,tk,rfl,hk⟩:=x.done
 have noA:∀ b:Su,b∉(jL CX P w K mg base N qual scope f cd A outer s H E).ex:=fun b z=>absurd (show b∈([]:List Su) from z) (by simp)
 refine⟨⟨e0.mod,S.kind,rfl,rfl,Ow _,fun y z c h1 h2=>?_,fun y hy=>?_,fun y c _ h=>?_,fun _=>hd,Around.frames_deeper e0.frames,.inr ⟨rfl,rfl⟩,fun b z=>absurd z (noA b),e0.bs,e0.bsz,fun b _ _=>noA b,fun b z=>absurd z (noA b),e0.funs,e0.frf⟩,
  rfl,e0.bare,Un.kept hk,⟨_,x.toInCall.ns,fun i y v h1 h2 h3=>?_⟩,fun y c h=>⟨_,x.cell y c h⟩,e0.hok.fresh (Ow _),fun y c h=>?_,fun p hp=>absurd (show p∈([]:List (Su×Obj)) from hp) (by simp),e0.hok.kept hk,?_⟩
 ·exact name_of_addr x.apart (PySem.mem_of_lookup h1) (PySem.mem_of_lookup h2)
 ·have hy:scope.names.lookup y=some .cell\/scope.names.lookup y=some .free:=hy
  rcases hy with hy | hy
  ·exact yV hy
  ·exact absurd rfl (S.nofree _ (PySem.mem_of_lookup hy))
 ·exact Oh (x.above y c (PySem.mem_of_lookup h))
 ·have hi:i < vs.length:=by
   unfold start at h2
   by_cases hi:i < vs.length
   ·exact hi
   ·rw [OM (by simpa using hi)] at h2
    rw [OO] at h2
    split at h2 <;> cases h2
  have ha:vs[i]?=some v:=by
   unfold start at h2
   rw [OQ (by simpa using hi),OS] at h2
   cases e:vs[i]? with
   | none=>rw [e] at h2; cases h2
   | some a=>rw [e] at h2; cases h2; rfl
  obtain⟨u,hu,rv⟩:=r.get ha
  have hp:ps[i]?=some y:=by
   rw [<- S.pre,OT ‹0›]; exact h1
  have ndP:ps.Nodup:=by rw [<- S.pre]; exact S.nd.sublist (OU _ _)
  refine⟨u,rv,?_⟩
  rcases S.par y (OV hp) with k | k
  ·exact .inl ⟨k,uG ndP hp hu k⟩
  ·obtain⟨c,e⟩:=yV (n:=s.heap.objs.size+1) k
   refine .inr ⟨.inl k,c,e,?_⟩
   have q:=x.cell y c e
   rw [uJ ndP hp hu (by show scope.names.lookup y≠_; rw [k]; decide)] at q
   exact q
 ·exact e0.hok.fresh (Oh (x.above y c (PySem.mem_of_lookup h)))
 ·unfold start
  show _=N.length
  rw [OW,OC,List.length_replicate]
  omega

theorem D5 {CX:Az} {P:Ss} {w:Sr} {K:Rf} {mg:Str->Option Sq} {base:Sw} {k:Nat} {f:Su} {name qual:Str} {params:To} {body:List SL} {scope:SG} {dV kV doc pm cdv ct oc:Sq} {an od:Option Su}
  {osl:Array (Option Sq)} {N ps:List Str} {sp:Sp} (lk:K.lookup f=some ⟨oc,od,.func (Rw name qual params body scope dV kV doc pm an cdv ct),osl⟩) (hcd:Rx K cdv qual=true) (S:aJ N ps scope)
  (len:∀ vs H Q E,sp vs H Q E->vs.length=ps.length)
  (hbody:∀ (A:SE) (outer:List Env) (s:SF) (H:Hp) (vs:List V) (Q:VK) (E:XK),fG k (A.deeper (envOfC qual scope s.heap.objs.size f cdv))->sp vs H Q E ->
   ∃ t,xx (jL CX P w K mg base N qual scope f cdv A outer s H E) body t/\t { nx:=fun _ H'=>Q .non H',rt:=Q } (start N vs) H) :
  js P w K mg base CX (k+1) f (Rw name qual params body scope dV kV doc pm an cdv ct) ps sp:=by
 refine⟨len,fun A outer s H args us vs Q E hr e0 hb r hsp=>?_⟩
 have hl:=len _ _ _ _ hsp
 have KX:K.In s.heap:=e0.mod.kin.keeps fun b o e=>(e0.bs b o e).1
 have lim:s.heap.NoLimit:=e0.mod.nolimit.keeps fun b o e=>(e0.bs b o e).1
 have hkind:∀ y∈ps.zip us,scope.names.lookup y.1=some .local\/(scope.names.lookup y.1=some .cell/\((cellsFrom (s.heap.objs.size+1) scope.names []).lookup y.1).isSome=true):=fun ⟨n,v⟩ hy=>by
  rcases S.par n (OJ hy).1 with q | q
  ·exact .inl q
  ·exact .inr ⟨q,Rv _ _ _ (.inl q)⟩
 refine codeAny_call_function hr.depth (KX _ _ lk) rfl S.co S.gen rfl (PySem.W.codeRec_of KX hcd) (hb _ _ _ _ ?_)
 refine wpAny_newFunctionEnv_cells S.kind hkind fun env he s1 x=>?_
 subst he
 refine⟨lim.keeps x.toInCall.keep,codeAny_func ?_⟩
 obtain⟨t,ht,hq⟩:=hbody A outer s H vs Q E (hr.deeper _) hsp
 have I:Inv (jL CX P w K mg base N qual scope f cdv A outer s H E) [] (start N vs) H s1:=CN S hr.hd e0 hl r x
 refine SM (ht [] s1 (start N vs) H _ I hq) (fun fl s' hs=>?_) fun e s' hs=>hs
 have fin:∀ {σ':St} {H':Hp} {v:V} {u:Sq},Inv (jL CX P w K mg base N qual scope f cdv A outer s H E) [] σ' H' s'->RelV v u->Q v H'->CE outer P w H s Q u s' :=
  fun {σ' H' v u} J rv q=>⟨v,H',J.os,J.bare,J.base,J.hok,rv,q⟩
 cases fl with
 | ret u =>
  obtain⟨v,σ',H',J,rv,q⟩:=hs
  exact fin J rv q
 | next =>
  obtain⟨σ',H',J,q⟩:=hs
  exact fin (v:=V.non) (u:=Value.none) J rfl q
 | brk =>
  obtain⟨_,_,_,q⟩:=hs
  exact False.elim q
 | cont =>
  obtain⟨_,_,_,q⟩:=hs
  exact False.elim q
end L2

namespace L2
open PySem PySem.Spec PyProof.Rows
section
variable {X:Cx} {x:Str} {p pos:Pos} {e:SJ} {es:List SJ} {t:TA} {id T:String} {r:List V->Hp->VK->Prop}

def L6 (r:List V->Hp->VK->Prop) (t:TA):TE:=fun σ H Q=>t σ H fun vs H1=>r vs H1 Q
theorem sB (hc:et X (.builtin id) r) (hg:Gl X x) (hm:X.mg x=none) (hv:SD x=some (.builtin id)) (ha:PA X (e::es) t) (hn:x ≠ "__name__":=by decide) (hdb:(x==("__debug__":Str))=false:=by decide)
  (he:SK (e::es) X.env=(false,eval e X.env)::SK es X.env:=by rfl) (hpl:(backTo pos (SK es X.env)).any (·.1)=false:=by rfl):PE X (.Call (.Name x p) (e::es) [] pos) (L6 r t):=by
 intro pins s σ H Q I h
 refine Tl (n9 I hg hm hv ?_ hn hdb)
 exact PyProof.Rows.callWith_builtin1 (dX (ha pos pins s σ H _ I h) fun us s1 ⟨vs,H1,I1,r1,q1⟩=>hc pins s1 σ H1 vs us Q I1 r1 q1) he hpl
theorem vA (hc:et X (.type T) r) (hg:Gl X x) (hm:X.mg x=none) (hv:SD x=some (.type T)) (ha:PA X (e::es) t) (hn:x ≠ "__name__":=by decide) (hdb:(x==("__debug__":Str))=false:=by decide)
  (he:SK (e::es) X.env=(false,eval e X.env)::SK es X.env:=by rfl) (hpl:(backTo pos (SK es X.env)).any (·.1)=false:=by rfl):PE X (.Call (.Name x p) (e::es) [] pos) (L6 r t):=by
 intro pins s σ H Q I h
 refine Tl (n9 I hg hm hv ?_ hn hdb)
 exact RX (dX (ha pos pins s σ H _ I h) fun us s1 ⟨vs,H1,I1,r1,q1⟩=>hc pins s1 σ H1 vs us Q I1 r1 q1) he hpl
end
end L2

namespace HT
open PySem PyProof.Rows

theorem Kq (A:SE) (s:SF) (a:Int) (t:Tok) (c:Int) (u:Tok) (prog:Ss) (w:Sr) (E:Sq->SF->Prop) (Q:Sq->SF->Prop) (h:Q (.bool (decide (a < c))) s) :
  SH (model prog w) A (richCompare .Lt (.int a t) (.int c u)) Q E s :=
 (PyProof.Rows.lt_int h:SH (model prog w) A (SU .Lt (.int a t) (.int c u)) Q E s)

section
open PySem.SeqAt
open PySem.AutoSeq1 (wpAny_loadPart')
open PySem.MeetsSeq PySem.MeetsSeq2 PySem.MeetsSeq3

end

section
variable {prog:Ss} {w:Sr} {A:SE} {E:Sq->SF->Prop} {s:SF}

theorem LX {t b:Su} {vs ws:List Sq} {Q:Sq->SF->Prop} (ht:Sy s.heap t vs.toArray) (hb:Sy s.heap b ws.toArray) (hv:vs≠[])
  (h1:ws=[]->Q (.ref t) s) (h2:ws≠[]->Q (.ref s.heap.objs.size) { s with heap:=s.heap.push { cls:=.type "tuple",data:=.seq (vs++ws).toArray } })
  (hsz:vs.length+ws.length<=Sx):SH (model prog w) A (S9 .Add (.ref t) (.ref b)) Q E s:=by
 obtain⟨⟨cls,dd,data,sl⟩,ho,hc,n,hd⟩:=id ht
 obtain⟨⟨cls2,dd2,data2,sl2⟩,ho2,hc2,n2,hd2⟩:=id hb
 simp only at hc hd hc2 hd2
 subst hc hd hc2 hd2
 have e:vs.toArray++ws.toArray=(vs++ws).toArray:=by simp
 by_cases hw:ws=[]
 ·exact Tp ⟨_,ho,rfl⟩ ⟨_,ho2,rfl⟩ Tq Tr Se Sf (Sg _ _)
   (tuple_addW1 t b vs.toArray ws.toArray n n2 dd dd2 sl sl2 (by simpa using hv) (by simp [hw])) ⟨ho,ho2,h1 hw⟩
 ·refine Tp ⟨_,ho,rfl⟩ ⟨_,ho2,rfl⟩ Tq Tr Se Sf (Sg _ _)
   (tuple_addW2 t b vs.toArray ws.toArray n n2 dd dd2 sl sl2 (by simpa using hv) (by simpa using hw) (by rw [Oy,Oy]; exact hsz)) ⟨ho,ho2,?_⟩
  rw [e]
  exact h2 hw

def sIx (n d:Nat):Option Int->Nat
 | none=>d
 | some v=>if v < 0 then (v+(n:Int)).toNat else min v.toNat n
theorem Kn (n d:Nat):sIx n d none=d:=rfl
theorem Lz (n d k:Nat):sIx n d (some (k:Int))=min k n:=by
 show (if (k:Int) < 0 then ((k:Int)+(n:Int)).toNat else min (k:Int).toNat n)=min k n
 rw [if_neg ‹0›,OX]
theorem Jg (n d:Nat) (hd:d<=n) (o:Option Int):sIx n d o<=n:=by
 cases o with
 | none=>exact hd
 | some v =>
  show (if v < 0 then (v+(n:Int)).toNat else min v.toNat n)<=n
  by_cases hv:v < 0
  ·rw [if_pos hv]; omega
  ·rw [if_neg hv]; exact Nat.min_le_right _ _
theorem A7 (v:Int) (n d:Nat):(if v < 0 then max (v+(n:Int)) 0 else min v (n:Int))=((sIx n d (some v):Nat):Int):=by
 show (if v < 0 then max (v+(n:Int)) 0 else min v (n:Int))=(((if v < 0 then (v+(n:Int)).toNat else min v.toNat n):Nat):Int)
 by_cases hv:v < 0
 ·simp only [if_pos hv]; omega
 ·simp only [if_neg hv]; omega
theorem Ad (lo hi:Option Int) (n:Nat):Builtin.Slice.sliceAdjust lo hi 1 (n:Int)=(((sIx n 0 lo:Nat):Int),((sIx n n hi:Nat):Int)):=by
 have h1:¬ ((1:Int) < 0):=by omega
 unfold Builtin.Slice.sliceAdjust
 simp only [h1,if_false]
 refine Prod.ext ?_ ?_
 ·cases lo with
  | none=>rfl
  | some v=>exact A7 v n 0
 ·cases hi with
  | none=>rfl
  | some v=>exact A7 v n n
theorem Ag (i j:Nat):Builtin.Slice.slicePlaces (i:Int) (j:Int) 1=j - i:=by
 unfold Builtin.Slice.slicePlaces
 have h1:(1:Int) > 0:=by omega
 simp only [h1,if_true,OY]
 split <;> omega
theorem rX {v:Sq} {o:Option Int} {Q:Option Int->SF->Prop} (p:Ts v o) (h:Q o s):SH (model prog w) A (Builtin.Slice.slicePartIndex v) Q E s:=by
 cases p with
 | none=>exact slicePart_none h
 | int i t=>exact slicePart_int h
theorem p5 {sl:Su} {vl vu:Sq} {lo hi:Option Int} {n:Nat} {Q:Int×Int×Nat->SF->Prop} (hs:s.heap.IsSliceOf sl vl vu .none) (pl:Ts vl lo) (pu:Ts vu hi)
  (h:Q (((sIx n 0 lo:Nat):Int),1,sIx n n hi - sIx n 0 lo) s):SH (model prog w) A (Builtin.Slice.sliceApplied (.ref sl) (pure (n:Int))) Q E s:=by
 obtain⟨os,hos,hcs,hds⟩:=id hs
 unfold Builtin.Slice.sliceApplied Builtin.Slice.sliceFields
 refine SZ (SZ (Tt hos hds (x:=vl) rfl (SZ (Tt hos hds (x:=vu) rfl (SZ (Tt hos hds (x:=.none) rfl (S6 ?_)))))))
 refine SZ (slicePart_none ?_)
 show SH _ _ (if ((1:Int)==0)=true then _ else _) _ _ s
 rw [if_neg (by decide)]
 refine SZ (rX pl (SZ (rX pu (SZ (S6 ?_)))))
 show SH _ _ (match Builtin.Slice.sliceAdjust lo hi 1 (n:Int) with | (lo,hi)=>pure (lo,(1:Int),Builtin.Slice.slicePlaces lo hi 1)) _ _ s
 rw [Ad lo hi n]
 show SH _ _ (pure (((sIx n 0 lo:Nat):Int),(1:Int),Builtin.Slice.slicePlaces ((sIx n 0 lo:Nat):Int) ((sIx n n hi:Nat):Int) 1)) _ _ s
 rw [Ag]
 exact S6 h
theorem Fd (xs:Array Sq) (i k:Nat):((List.range k).filterMap fun (m:Nat)=>xs[((i:Int)+(m:Int)*1).toNat]?).toArray=((xs.toList.drop i).take k).toArray:=by
 have e:(fun (m:Nat)=>xs[((i:Int)+(m:Int)*1).toNat]?)=fun m=>xs[i+m]?:=by
  funext m
  have:((i:Int)+(m:Int)*1).toNat=i+m:=by omega
  rw [this]
 rw [e]
 have:=pick_run xs i k
 rw [OZ] at this
 have e2:((fun x=>xs[x]?) ∘ fun x=>i+x)=fun m=>xs[i+m]?:=rfl
 rw [e2] at this
 rw [this]

theorem BR {t sl:Su} {items:Array Sq} {vl vu:Sq} {lo hi:Option Int} {Q:Sq->SF->Prop} (ht:Sy s.heap t items) (hs:s.heap.IsSliceOf sl vl vu .none) (pl:Ts vl lo) (pu:Ts vu hi)
  (hw:¬ (sIx items.size 0 lo=0/\sIx items.size items.size hi=items.size))
  (h:Q (.ref s.heap.objs.size) { s with heap:=s.heap.push { cls:=.type "tuple",data:=.seq ((items.toList.drop (sIx items.size 0 lo)).take (sIx items.size items.size hi - sIx items.size 0 lo)).toArray } })
  (hsz:items.size<=Sx):SH (model prog w) A (getItem (.ref t) (.ref sl)) Q E s:=by
 have htake:sizeOk (.seq ((items.toList.drop (sIx items.size 0 lo)).take (sIx items.size items.size hi - sIx items.size 0 lo)).toArray):=by
  show ((items.toList.drop (sIx items.size 0 lo)).take (sIx items.size items.size hi - sIx items.size 0 lo)).toArray.size<=Sx
  rw [Oy,OL,O0,Array.length_toList]
  omega
 have hj:sIx items.size items.size hi<=items.size:=Jg _ _ (Ow _) hi
 obtain⟨os,hos,hcs,hds⟩:=id hs
 have hTs:s.TypeIs (.ref sl) "slice":=⟨os,hos,hcs⟩
 unfold getItem
 try with_reducible refine S0 ?_
 first | refine SZ (S6 ?_) | skip
 refine SZ (Tu ht.typeIs (by decide) ?_)
 refine SZ (Tv (name:=Str.ofString "__getitem__") ht.typeIs RY
  (Tw RY ht.typeIs entry_tuple_getitem ?_ (args_tuple_getitem _ _)))
 show SH _ _ (Builtin.Tuple.tupleItemsOf (.ref t) >>= _) _ _ s
 refine SZ (tupleItemsOf_ ht ?_)
 refine SZ (Tx hTs ?_)
 rw [if_pos (by decide)]
 refine SZ (p5 hs pl pu ?_)
 have hno:¬ ((((sIx items.size 0 lo:Nat):Int)==0 && (1:Int)==1 && (sIx items.size items.size hi - sIx items.size 0 lo)==items.size)=true):=by
  intro q
  rw [O1,O1] at q
  have q1:((sIx items.size 0 lo:Nat):Int)=0:=eq_of_beq q.1.1
  have q2:sIx items.size items.size hi - sIx items.size 0 lo=items.size:=eq_of_beq q.2
  exact hw ⟨by omega,by omega⟩
 show SH _ _ (if (((sIx items.size 0 lo:Nat):Int)==0 && (1:Int)==1 && (sIx items.size items.size hi - sIx items.size 0 lo)==items.size)=true then _ else _) _ _ s
 rw [if_neg hno,Fd]
 first
  | exact SZ (m:=Builtin.Tuple.tupleExact _) (Tz (S6 ⟨_,rfl,S6 h⟩) htake)
  | exact SZ (m:=Builtin.Tuple.tupleExact _) (Tz (SZ (S6 (S6 ⟨_,rfl,S6 h⟩))) htake)
  | exact SZ (SZ (m:=Builtin.Tuple.tupleExact _) (Tz (S6 (S6 ⟨_,rfl,S6 h⟩)) htake))
  | exact SZ (SZ (m:=Builtin.Tuple.tupleExact _) (Tz (S6 ⟨_,rfl,S6 h⟩) htake))
end
end HT

namespace L2
open PySem PySem.Spec PyProof.Rows

abbrev TO:=St->Hp->(Option Int->Hp->Prop)->Prop
def PO (X:Cx) (e:Option SJ) (t:TO):Prop :=
 ∀ (pins:List (Su×Obj)) (s:SF) (σ:St) (H:Hp) (Q:Option Int->Hp->Prop),Inv X pins σ H s->t σ H Q ->
  SH (model X.prog X.w) X.A (evalPart e X.env) (fun u s'=>∃ o H',Inv X pins σ H' s'/\Ts u o/\Q o H') X.xe s
def Gu:TO:=fun _ H Q=>Q none H
def K1 (t:TE):TO:=fun σ H Q=>t σ H fun x H1=>∃ i,x=.int i/\Q (some i) H1

section
variable {X:Cx} {e:SJ} {te:TE} {lo hi:Option SJ} {tl th:TO} {pos p2:Pos}

theorem G4:PO X none Gu:=by
 intro pins s σ H Q I h
 rw [TB]
 exact S6 ⟨none,H,I,.none,h⟩
theorem Gi (h:PE X e te):PO X (some e) (K1 te):=by
 intro pins s σ H Q I hw
 rw [TC]
 refine dX (h pins s σ H _ I hw) fun u s1 ⟨x,H1,I1,r1,q1⟩=>?_
 obtain⟨i,rfl,q⟩:=q1
 obtain⟨t,rfl⟩:=r1
 exact⟨some i,H1,I1,.int i t,q⟩

def LQ (X:Cx) (r:V->Option Int->Option Int->Hp->VK->Prop):Prop :=
 ∀ (pins:List (Su×Obj)) (s:SF) (σ:St) (H:Hp) (x:V) (v vl vu:Sq) (lo hi:Option Int) (sl:Su) (Q:VK),Inv X pins σ H s->RelV x v->s.heap.IsSliceOf sl vl vu .none->Ts vl lo->Ts vu hi->r x lo hi H Q ->
  ∃ T id,typeLookup (.type T) "__getitem__"=pure (some (.builtin id))/\s.TypeIs v T/\SH (model X.prog X.w) X.A (getItem v (.ref sl)) (EP X pins σ Q) X.xe s
def Oc (r:V->Option Int->Option Int->Hp->VK->Prop) (te:TE) (tl th:TO):TE:=fun σ H Q=>te σ H fun x H1=>tl σ H1 fun l H2=>th σ H2 fun u H3=>r x l u H3 Q
theorem E6 {r:V->Option Int->Option Int->Hp->VK->Prop} (hr:LQ X r) (he:PE X e te) (hl:PO X lo tl) (hu:PO X hi th):PE X (.Subscript e (.Slice lo hi none p2) pos) (Oc r te tl th):=by
 intro pins s σ H Q I h
 refine Subscript_ (dX (he pins s σ H _ I h) fun v s1 ⟨x,H1,I1,r1,q1⟩=>?_)
 refine TF (dX (hl pins s1 σ H1 _ I1 q1) fun vl s2 ⟨l,H2,I2,pl,q2⟩=>dX (hu pins s2 σ H2 _ I2 q2) fun vu s3 ⟨u,H3,I3,pu,q3⟩=>?_)
 rw [TB]
 refine S6 ?_
 have I4:Inv X pins σ H3 { s3 with heap:=s3.heap.push { cls:=.type "slice",data:=.fields #[vl,vu,.none] } }:=I3.kept (t':=s3.toks) fun b ob q=>RN _ q
 obtain⟨T,id,hT,ht,hg⟩:=hr pins { s3 with heap:=s3.heap.push { cls:=.type "slice",data:=.fields #[vl,vu,.none] } } σ H3 x v vl vu l u s3.heap.objs.size Q I4 r1 (Heap.IsSliceOf.new ..) pl pu q3
 show SH (model X.prog X.w) X.A (subscriptTail e (.Slice lo hi none p2) v (.ref s3.heap.objs.size)) (EP X pins σ Q) X.xe { s3 with heap:=s3.heap.push { cls:=.type "slice",data:=.fields #[vl,vu,.none] } }
 exact tail_any (ops:=[.ref s3.heap.objs.size,v]) ht hT hg (by with_unfolding_all rfl)

def yI (xs:List V) (lo hi:Option Int):List V:=(xs.drop (HT.sIx xs.length 0 lo)).take (HT.sIx xs.length xs.length hi - HT.sIx xs.length 0 lo)
theorem qo (xs:List V) (lo hi:Option Int):(yI xs lo hi).length<=xs.length:=by
 unfold yI
 rw [OL,O0]
 omega
def Mm (K:Rf):V->Option Int->Option Int->Hp->VK->Prop:=fun x lo hi H Q=>∃ a xs,x=.ref a/\pY K H a xs /\
 ¬ (HT.sIx xs.length 0 lo=0/\HT.sIx xs.length xs.length hi=xs.length)/\∀ p,H p=none->Q (.ref p) (upd H p (.tup (yI xs lo hi)))
theorem Id:LQ X (Mm X.K):=by
 intro pins s σ H x v vl vu lo hi sl Q I rx hs pl pu h
 obtain⟨a,xs,rfl,hx,hw,q⟩:=h
 cases rx
 obtain⟨its,r,ht,hz⟩:=I.tuple hx
 have hlen:its.toArray.size=xs.length:=by rw [Oy]; exact r.length.symm
 refine⟨"tuple",_,PyProof.Rows.slot_tuple_getitem.lookup,ht.typeIs,?_⟩
 refine HT.BR ht hs pl pu (by rw [hlen]; exact hw) ?_ (by rw [hlen]; exact hz)
 rw [hlen]
 refine⟨.ref s.heap.objs.size,_,I.laid (t':=s.toks) (o:=.tup (yI xs lo hi)) (fun b ob q=>RN _ q) (Ow _) ?_,rfl,q _ (I.hok.fresh (Ow _))⟩
 exact⟨Og (qo xs lo hi) hz,_,(r.drop (HT.sIx xs.length 0 lo)).take (HT.sIx xs.length xs.length hi - HT.sIx xs.length 0 lo),IsTup.new _ _⟩

def Km (K:Rf):R2:=fun x y H Q=>∃ a b xs ys,x=.ref a/\y=.ref b/\pY K H a xs/\pY K H b ys/\xs≠[]/\xs.length+ys.length<=Sx /\
 (ys=[]->Q (.ref a) H)/\(ys≠[]->∀ p,H p=none->Q (.ref p) (upd H p (.tup (xs++ys))))
theorem Vals.nil_iff {xs:List V} {us:List Sq} (r:Vals xs us):us=[]↔xs=[]:=by
 cases r with
 | nil=>simp
 | cons _ _=>simp
theorem Fy:j3 X (S9 .Add) (Km X.K):=by
 intro pins s σ H x y v u Q I rx ry h
 obtain⟨a,b,xs,ys,rfl,rfl,ha,hb,hx,hz,q1,q2⟩:=h
 cases rx
 cases ry
 obtain⟨its,r1,p1,_⟩:=I.tuple ha
 obtain⟨its2,r2,p2,_⟩:=I.tuple hb
 refine HT.LX p1 p2 (fun z=>hx (r1.nil_iff.mp z)) (fun z=>⟨.ref a,H,I,rfl,q1 (r2.nil_iff.mp z)⟩) (fun z=>?_) (by rw [<- r1.length,<- r2.length]; exact hz)
 refine⟨.ref s.heap.objs.size,_,I.laid (t':=s.toks) (o:=.tup (xs++ys)) (fun b ob q=>RN _ q) (Ow _) ?_,rfl,q2 (fun w=>z (r2.nil_iff.mpr w)) _ (I.hok.fresh (Ow _))⟩
 exact⟨by rw [OW]; exact hz,_,r1.append r2,IsTup.new _ _⟩
end
end L2

namespace L2
open PySem PySem.Spec PyProof.Rows

def xt (n:Nat) (i:Int):Option Nat:=if 0<=i then (if i < n then some i.toNat else none) else if -(n:Int)<=i then some (i+n).toNat else none
def pN {α:Type} (xs:List α) (i:Int):Option α:=(xt xs.length i).bind fun j=>xs[j]?
theorem BP {n:Nat} {i:Int} {j:Nat} (h:xt n i=some j):seqIndex? i n=some j/\j < n/\-(n:Int)<=i/\i < n:=by
 unfold xt at h
 by_cases h0:0<=i
 ·rw [if_pos h0] at h
  by_cases h1:i < n
  ·rw [if_pos h1] at h
   have e:i.toNat=j:=Option.some.inj h
   exact⟨by rw [seqIndex_of h0 h1,e],by omega,by omega,h1⟩
  ·rw [if_neg h1] at h; cases h
 ·rw [if_neg h0] at h
  by_cases h1:-(n:Int)<=i
  ·rw [if_pos h1] at h
   have e:(i+n).toNat=j:=Option.some.inj h
   exact⟨by rw [seqIndex_neg ‹0› h1,e],by omega,h1,by omega⟩
  ·rw [if_neg h1] at h; cases h
theorem wB {α:Type} {xs:List α} {i:Int} {v:α} (h:pN xs i=some v):∃ j,seqIndex? i xs.length=some j/\xs[j]?=some v/\j < xs.length/\-(xs.length:Int)<=i/\i < xs.length:=by
 unfold pN at h
 cases e:xt xs.length i with
 | none=>rw [e] at h; cases h
 | some j =>
  rw [e] at h
  obtain⟨h1,h2,h3,h4⟩:=BP e
  exact⟨j,h1,h,h2,h3,h4⟩
def oC (b:SJ):Prop:=∀ o i,subscripted b false o i=operate [o,i] (getItem o i)
def Kx (X:Cx) (r:R2):Prop :=
 ∀ (value slice:SJ) (pins:List (Su×Obj)) (s:SF) (σ:St) (H:Hp) (x y:V) (v u:Sq) (Q:VK),Inv X pins σ H s->RelV x v->RelV y u->r x y H Q ->
  subscripted slice false v u=operate [v,u] (getItem v u)->SH (model X.prog X.w) X.A (subscriptTail value slice v u) (EP X pins σ Q) X.xe s
def NP (X:Cx) (id:String) (r:V->List V->Hp->VK->Prop):Prop :=
 ∀ (pins:List (Su×Obj)) (s:SF) (σ:St) (H:Hp) (x:V) (xs:List V) (v:Sq) (us:List Sq) (Q:VK),Inv X pins σ H s->RelV x v->Vals xs us->r x xs H Q ->
  SH (model X.prog X.w) X.A (call (.builtin id) (v::us)) (EP X pins σ Q) X.xe s
section
variable {X:Cx} {a b:SJ} {ta tb:TE} {pos:Pos}
theorem Hq {r:R2} (hr:Kx X r) (ha:PE X a ta) (hb:PE X b tb) (hs:oC b):PE X (.Subscript a b pos) (KG r ta tb):=by
 intro pins s σ H Q I h
 exact Subscript_ (Ii ha hb I h fun v u s2 x y H2 I2 rx ry q=>hr a b pins s2 σ H2 x y v u Q I2 rx ry q (hs _ _))

def MO (K:Rf):R2:=fun x y H Q=>∃ p xs i v,x=.ref p/\y=.int i/\nN K H p xs/\pN xs i=some v/\Q v H
def L7 (K:Rf):R2:=fun x y H Q=>∃ p xs i v,x=.ref p/\y=.int i/\pY K H p xs/\pN xs i=some v/\Q v H
def M2:R2:=fun x y H Q=>∃ z i c,x=.str z/\y=.int i/\z.length<=Sx/\pN z.cps.toList i=some c/\Q (.str ⟨#[c]⟩) H
theorem A9:Kx X (MO X.K):=by
 intro value slice pins s σ H x y v u Q I rx ry h hs
 obtain⟨p,xs,i,z,rfl,rfl,hq,he,q⟩:=h
 cases rx
 obtain⟨t,rfl⟩:=ry
 obtain⟨its,r,pl,hz⟩:=I.list hq
 obtain⟨j,h1,h2,h3,h4,h5⟩:=wB he
 obtain⟨w,ew,rw'⟩:=r.get h2
 have hl:=r.length
 have hn:=nZ
 have fin:EP X pins σ Q w s:=⟨z,H,I,rw',q⟩
 by_cases h0:0<=i
 ·have hj:i.toNat=j:=by
   rw [seqIndex_of h0 h5] at h1
   exact Option.some.inj h1
  exact item_listR pl.isList h0 ‹0› (by rw [hj]; simpa using ew) fin hs
 ·have hj:(i+(its.toArray.size:Int)).toNat=j:=by
   rw [seqIndex_neg ‹0› h4] at h1
   rw [Oy,<- hl]
   exact Option.some.inj h1
  exact subscriptTail_builtinR (x:=w) pl.isList.typeIs slot_list_getitem.lookup
   (wpAny_getItem_list_neg (Q:=fun r s'=>r=w/\EP X pins σ Q r s') pl.isList ‹0› (by rw [Oy] <;> omega) ‹0› (by rw [hj]; simpa using ew) ⟨rfl,fin⟩) hs
theorem IZ:Kx X (L7 X.K):=by
 intro value slice pins s σ H x y v u Q I rx ry h hs
 obtain⟨p,xs,i,z,rfl,rfl,hq,he,q⟩:=h
 cases rx
 obtain⟨t,rfl⟩:=ry
 obtain⟨its,r,pl,hz⟩:=I.tuple hq
 obtain⟨j,h1,h2,h3,h4,h5⟩:=wB he
 obtain⟨w,ew,rw'⟩:=r.get h2
 have hl:=r.length
 have hn:=nZ
 have fin:EP X pins σ Q w s:=⟨z,H,I,rw',q⟩
 exact subscriptTail_builtinR (x:=w) pl.typeIs slot_tuple_getitem.lookup
  (getItem_tuple (j:=j) (Q:=fun r s'=>r=w/\EP X pins σ Q r s') pl ‹0› ‹0› (by rw [Oy,<- hl]; exact h1) (by simpa using ew) ⟨rfl,fin⟩) hs
theorem Im:Kx X M2:=by
 intro value slice pins s σ H x y v u Q I rx ry h hs
 obtain⟨z,i,c,rfl,rfl,hz,he,q⟩:=h
 obtain⟨t,rfl⟩:=rx
 obtain⟨t',rfl⟩:=ry
 obtain⟨j,h1,h2,h3,h4,h5⟩:=wB he
 have hl:z.cps.toList.length=z.length:=by simp [Str.length]
 rw [hl] at h1 h4 h5
 have hn:=nZ
 exact tail_any (typeIs_str s z t) slot_str_getitem.lookup (getItem_str (c:=c) (by
  have e1:decide (i < -(2 ^ 63:Int))=false:=decide_eq_false ‹0›
  have e2:decide (i>=2 ^ 63)=false:=decide_eq_false ‹0›
  rw [e1,e2,Bool.or_false]) (by rw [h1]; simpa using h2) ⟨.str ⟨#[c]⟩,H,I.tok _,⟨_,rfl⟩,q⟩) hs
theorem Au (its:List Sq) (n j:Nat) (u:Sq):Obj.mapSeq (·.setIfInBounds j u) { cls:=.type "list",data:=.seq its.toArray n }={ cls:=.type "list",data:=.seq (its.set j u).toArray n }:=by
 simp [Obj.mapSeq]
theorem Inv.lst {pins:List (Su×Obj)} {σ:St} {H:Hp} {s:SF} {p:Su} {xs:List V} (I:Inv X pins σ H s) (h:H p=some (.lst xs)) :
  ∃ (its:List Sq) (n:Nat),Vals xs its/\s.heap.get? p=some { cls:=.type "list",data:=.seq its.toArray n }/\xs.length<=Sx:=by
 obtain⟨z,its,n,r,e⟩:=I.hok p _ h
 exact⟨its,n,r,e,z⟩
theorem Inv.lstUpd {pins:List (Su×Obj)} {σ:St} {H:Hp} {s:SF} {p:Su} {xs ys:List V} {its its':List Sq} {n n':Nat} {f:Obj->Obj} (I:Inv X pins σ H s) (h:H p=some (.lst xs))
  (ho:s.heap.get? p=some { cls:=.type "list",data:=.seq its.toArray n }) (hf:f { cls:=.type "list",data:=.seq its.toArray n }={ cls:=.type "list",data:=.seq its'.toArray n' }) (r:Vals ys its') (hz:ys.length<=Sx) (t:Nat) :
  Inv X pins σ (upd H p (.lst ys)) { s with heap:=s.heap.update p f,toks:=t }:=by
 have e:(s.heap.update p f).get? p=some { cls:=.type "list",data:=.seq its'.toArray n' }:=by
  rw [RQ f ho (by rw [hf] <;> rfl),hf]
 refine I.write (x:=p) (e:=p) (by rw [h]; trivial) (.inl rfl) (fun b u hb q=>(RT _ _ (Ne.symm hb)).trans q) ⟨_,e⟩ ?_
 exact⟨hz,its',n',r,e⟩
def HK:V->V->V->Hp->(Hp->Prop)->Prop:=fun o i v H Q=>∃ p xs k j,o=.ref p/\i=.int k/\H p=some (.lst xs)/\xt xs.length k=some j/\Q (upd H p (.lst (xs.set j v)))
theorem set_list:Kz X HK:=by
 intro pins s σ H o i v ov iv u Q I ro ri rv h
 obtain⟨p,xs,k,j,rfl,rfl,hp,hj,q⟩:=h
 cases ro
 obtain⟨t,rfl⟩:=ri
 obtain⟨its,n,r,ho,hz⟩:=I.lst hp
 obtain⟨h1,h2,h3,h4⟩:=BP hj
 have hl:=r.length
 have hn:=nZ
 have I':Inv X pins σ (upd H p (.lst (xs.set j v))) { s with heap:=s.heap.update p (Obj.mapSeq (·.setIfInBounds j u)) } :=
  I.lstUpd hp ho (Au its n j u) (r.set rv j) (by rw [O2]; exact hz) s.toks
 by_cases h0:0<=k
 ·have hk:k.toNat=j:=by
   rw [seqIndex_of h0 h4] at h1
   exact Option.some.inj h1
  exact PySem.W.ki_setAt ho h0 ‹0› (by rw [Oy,<- hl]; exact h4) (by rw [hk]; exact⟨_,I',q⟩)
 ·have hk:(k+(its.toArray.size:Int)).toNat=j:=by
   rw [seqIndex_neg ‹0› h3] at h1
   rw [Oy,<- hl]
   exact Option.some.inj h1
  exact PySem.W.ki_setBack ho ‹0› (by rw [Oy,<- hl]; exact h3) ‹0› (by rw [hk]; exact⟨_,I',q⟩)

theorem wY (lo hi:Option Int) (n:Nat):(sliceBounds lo hi none n).1=((HT.sIx n 0 lo:Nat):Int)/\(sliceBounds lo hi none n).2.1=((HT.sIx n n hi:Nat):Int)/\(sliceBounds lo hi none n).2.2=1:=by
 refine⟨?_,?_,rfl⟩
 ·cases lo with
  | none=>simp [sliceBounds,HT.sIx]
  | some i =>
   simp only [sliceBounds,HT.sIx,O3,show (1:Int) > 0 by decide,if_true]
   by_cases h:i < 0
   ·simp only [h,if_true] <;> omega
   ·simp only [h,if_false] <;> omega
 ·cases hi with
  | none=>simp [sliceBounds,HT.sIx]
  | some i =>
   simp only [sliceBounds,HT.sIx,O3,show (1:Int) > 0 by decide,if_true]
   by_cases h:i < 0
   ·simp only [h,if_true] <;> omega
   ·simp only [h,if_false] <;> omega
theorem ug (its:List Sq) (lo hi:Option Int):slicePick its.toArray lo hi none=((its.drop (HT.sIx its.length 0 lo)).take (HT.sIx its.length its.length hi - HT.sIx its.length 0 lo)).toArray:=by
 obtain⟨h1,h2,h3⟩:=wY lo hi its.toArray.size
 unfold slicePick
 rw [h1,h2,h3]
 simp only [sliceRange_one,pick_run,Oy] <;> rfl
def Nm (K:Rf):V->Option Int->Option Int->Hp->VK->Prop:=fun x lo hi H Q=>∃ a xs,x=.ref a/\nN K H a xs/\∀ p,H p=none->Q (.ref p) (upd H p (.lst (yI xs lo hi)))
theorem Gz:LQ X (Nm X.K):=by
 intro pins s σ H x v vl vu lo hi sl Q I rx hs pl pu h
 obtain⟨a,xs,rfl,hx,q⟩:=h
 cases rx
 obtain⟨its,r,ht,hz⟩:=I.list hx
 have hlen:=r.length
 refine⟨"list",_,slot_list_getitem.lookup,ht.isList.typeIs,?_⟩
 refine TH ht.isList hs pl pu .none (by simp) ?_ (by rw [Oy] <;> omega)
 rw [ug,<- hlen]
 refine⟨.ref s.heap.objs.size,_,I.laid (t':=s.toks) (o:=.lst (yI xs lo hi)) (fun b ob q=>RN _ q) (Ow _) ?_,rfl,q _ (I.hok.fresh (Ow _))⟩
 exact⟨Og (qo xs lo hi) hz,_,0,(r.drop (HT.sIx xs.length 0 lo)).take (HT.sIx xs.length xs.length hi - HT.sIx xs.length 0 lo),RO _ rfl⟩

def Ff:V->Bool
 | .non=>true
 | .bl _=>true
 | .int _=>true
 | .str _=>true
 | _=>false
def Mw:V->V->Bool
 | .non,.non=>true
 | .bl a,.bl b=>a==b
 | .bl a,.int b=>(if a then 1 else 0)==b
 | .int a,.bl b=>a==(if b then 1 else 0)
 | .int a,.int b=>a==b
 | .str a,.str b=>a==b
 | _,_=>false
theorem HV {A:SE} {s:SF} {y x:V} {u v:Sq} (ry:RelV y u) (rx:RelV x v) (fy:Ff y=true) (fx:Ff x=true):SeqAt.EqAt A s u v (Mw y x):=by
 cases y with
 | non =>
  cases ry
  cases x with
  | non=>cases rx; exact SeqAt.EqAt.same _
  | bl b=>cases rx; exact SeqAt.EqAt.none_bool b
  | int b=>obtain⟨t,rfl⟩:=rx; exact SeqAt.EqAt.none_int b t
  | str b=>obtain⟨t,rfl⟩:=rx; exact SeqAt.EqAt.none_str b t
  | _=>exact absurd (show false=true from fx) Ot
 | bl a =>
  cases ry
  cases x with
  | non=>cases rx; exact SeqAt.EqAt.bool_none a
  | bl b=>cases rx; exact SeqAt.EqAt.bool_bool a b
  | int b=>obtain⟨t,rfl⟩:=rx; exact SeqAt.EqAt.bool_int a b t
  | str b=>obtain⟨t,rfl⟩:=rx; exact SeqAt.EqAt.bool_str a b t
  | _=>exact absurd (show false=true from fx) Ot
 | int a =>
  obtain⟨t',rfl⟩:=ry
  cases x with
  | non=>cases rx; exact SeqAt.EqAt.int_none a t'
  | bl b=>cases rx; exact SeqAt.EqAt.int_bool a t' b
  | int b=>obtain⟨t,rfl⟩:=rx; exact SeqAt.EqAt.int_int a t' b t
  | str b=>obtain⟨t,rfl⟩:=rx; exact SeqAt.EqAt.int_str a t' b t
  | _=>exact absurd (show false=true from fx) Ot
 | str a =>
  obtain⟨t',rfl⟩:=ry
  cases x with
  | non=>cases rx; exact SeqAt.EqAt.str_none a t'
  | bl b=>cases rx; exact SeqAt.EqAt.str_bool a t' b
  | int b=>obtain⟨t,rfl⟩:=rx; exact SeqAt.EqAt.str_int a t' b t
  | str b=>obtain⟨t,rfl⟩:=rx; exact SeqAt.EqAt.str_str a t' b t
  | _=>exact absurd (show false=true from fx) Ot
 | _=>exact absurd (show false=true from fy) Ot
theorem o9:et X (.builtin "len") (fun xs H Q=>∃ p ys,xs=[.ref p]/\(nN X.K H p ys\/pY X.K H p ys)/\Q (.int ys.length) H):=by
 intro pins s σ H xs us Q I r h
 obtain⟨p,ys,rfl,hq,q⟩:=h
 obtain⟨u,rfl,rx⟩:=vals1 r
 cases rx
 have hn:=nZ
 rcases hq with hq | hq
 ·obtain⟨its,r',pl,hz⟩:=I.list hq
  have hlen:=r'.length
  exact Calls.call_len_list pl.isList (by simp only [Oy] <;> omega) ⟨.int ys.length,H,I.tok _,⟨s.toks+1,by rw [Oy,hlen]⟩,q⟩
 ·obtain⟨its,r',pl,hz⟩:=I.tuple hq
  have hlen:=r'.length
  exact len_tuple pl (by simp only [Oy] <;> omega) ⟨.int ys.length,H,I.tok _,⟨s.toks+1,by rw [Oy,hlen]⟩,q⟩
theorem xk:et X (.builtin "len") (fun xs H Q=>∃ z,xs=[.str z]/\z.length<=Sx/\Q (.int z.length) H):=by
 intro pins s σ H xs us Q I r h
 obtain⟨z,rfl,hz,q⟩:=h
 obtain⟨u,rfl,t,rfl⟩:=vals1 r
 have hn:=nZ
 exact len_str ‹0› ⟨.int z.length,H,I.tok _,⟨_,rfl⟩,q⟩
theorem kL:et X (.type "list") (fun xs H Q=>∃ p ys,xs=[.ref p]/\(nN X.K H p ys\/pY X.K H p ys)/\∀ l,H l=none->Q (.ref l) (upd H l (.lst ys))):=by
 intro pins s σ H xs us Q I r h
 obtain⟨p,ys,rfl,hq,q⟩:=h
 obtain⟨u,rfl,rx⟩:=vals1 r
 cases rx
 have fin:∀ (its:List Sq),Vals ys its->ys.length<=Sx->∀ (h':Sw) (c':Nat),(∀ b o',s.heap.get? b=some o'->h'.get? b=some o') ->
   h'.get? s.heap.objs.size=some { cls:=.type "list",dict:=none,data:=.seq its.toArray c',slots:=#[] }->EP X pins σ Q (.ref s.heap.objs.size) { s with heap:=h' }:=fun its r' hz h' c' kp e =>
  ⟨.ref s.heap.objs.size,_,I.laid (t':=s.toks) kp (Ow _) (show dG X.prog X.w _ h' _ (.lst ys) from ⟨hz,its,c',r',e⟩),rfl,q _ (I.hok.fresh (Ow _))⟩
 rcases hq with hq | hq
 ·obtain⟨its,r',pl,hz⟩:=I.list hq
  have hlen:=r'.length
  obtain⟨o,ho,hc,n,hd⟩:=pl.isList
  exact call_list_seq p (.inl rfl) ho hc hd (fun h' c' kp e=>fin its r' hz h' c' kp e) (by simp only [Oy] <;> omega)
 ·obtain⟨its,r',pl,hz⟩:=I.tuple hq
  have hlen:=r'.length
  obtain⟨o,ho,hc,n,hd⟩:=pl
  exact call_list_seq p (.inr rfl) ho hc hd (fun h' c' kp e=>fin its r' hz h' c' kp e) (by simp only [Oy] <;> omega)
theorem mZ:et X (.type "tuple") (fun xs H Q=>∃ p ys,xs=[.ref p]/\((nN X.K H p ys/\∀ l,H l=none->Q (.ref l) (upd H l (.tup ys)))\/(pY X.K H p ys/\Q (.ref p) H))):=by
 intro pins s σ H xs us Q I r h
 obtain⟨p,ys,rfl,h⟩:=h
 obtain⟨u,rfl,rx⟩:=vals1 r
 cases rx
 rcases h with ⟨hq,q⟩ | ⟨hq,q⟩
 ·obtain⟨its,r',pl,hz⟩:=I.list hq
  have hlen:=r'.length
  refine call_tuple_list pl.isList (fun h' kp=>?_) (by simp only [Oy] <;> omega)
  have I1:Inv X pins σ H { s with heap:=h' }:=I.kept (t':=s.toks) kp
  have I2:Inv X pins σ (upd H h'.objs.size (.tup ys)) { s with heap:=h'.push { cls:=.type "tuple",data:=.seq its.toArray } } :=
   I1.laid (t':=s.toks) (fun b o e=>RN _ e) (Ow _) (show dG X.prog X.w _ _ _ (.tup ys) from ⟨hz,its,r',IsTup.new _ _⟩)
  exact⟨.ref h'.objs.size,_,I2,rfl,q _ (I1.hok.fresh (Ow _))⟩
 ·obtain⟨its,r',pl,hz⟩:=I.tuple hq
  exact call_tuple_same pl ⟨.ref p,H,I,rfl,q⟩

def NS (K:Rf) (T:String) (x:V) (H:Hp):Prop:=match x with
 | .str _=>T = "str"
 | .int _=>T = "int"
 | .ref p=>(T = "list"/\∃ xs,nN K H p xs)\/(T = "tuple"/\∃ o,K.lookup p=some o/\o.cls=.type "tuple"/\o.dict=none) \/
   (T = "dict"/\((∃ kvs,H p=some (.dK kvs))\/∃ kvs,H p=some (.dT kvs)))\/(T = "set"/\∃ S n,H p=some (.set S n))
 | _=>False
theorem IG {pins:List (Su×Obj)} {σ:St} {H:Hp} {s:SF} {T:String} {x:V} {v:Sq} (I:Inv X pins σ H s) (r:RelV x v) (ty:NS X.K T x H) :
  s.TypeIs v T/\∀ a,v=.ref a->∃ ob,s.heap.get? a=some ob/\ob.dict=none:=by
 cases x with
 | str z =>
  obtain⟨t,rfl⟩:=r
  cases (show T = "str" from ty)
  exact⟨typeIs_str s z t,fun _ e=>nomatch e⟩
 | int i =>
  obtain⟨t,rfl⟩:=r
  cases (show T = "int" from ty)
  exact⟨typeIs_int s i t,fun _ e=>nomatch e⟩
 | ref p =>
  cases r
  rcases ty with ⟨rfl,xs,hq⟩ | ⟨rfl,o,hk,hc,hd⟩ | ⟨rfl,hk⟩ | ⟨rfl,S,n,hk⟩
  ·obtain⟨its,_,pl,_⟩:=I.list hq
   refine⟨pl.isList.typeIs,fun a e=>?_⟩
   cases e
   obtain⟨o,n,e,c,hd,_⟩:=pl
   exact⟨o,e,hd⟩
  ·refine⟨⟨o,I.kIn p o hk,hc⟩,fun a e=>?_⟩
   cases e
   exact⟨o,I.kIn _ o hk,hd⟩
  ·have z:∃ o,s.heap.get? p=some o/\o.ExactDict:=by
    rcases hk with ⟨kvs,hk⟩ | ⟨kvs,hk⟩
    ·obtain⟨_,_,_,_,o,_,_,e,ex,_⟩:=I.hok p _ hk
     exact⟨o,e,ex⟩
    ·obtain⟨_,_,_,_,o,_,_,e,ex,_⟩:=I.hok p _ hk
     exact⟨o,e,ex⟩
   obtain⟨o,e,ex⟩:=z
   refine⟨⟨o,e,ex.1⟩,fun a e2=>?_⟩
   cases e2
   exact⟨o,e,ex.2.1⟩
  ·obtain⟨o,_,_,_,e,ex,_⟩:=I.hok p _ hk
   refine⟨⟨o,e,ex.1⟩,fun a e2=>?_⟩
   cases e2
   exact⟨o,e,ex.2.1⟩
 | _=>exact False.elim ty
def N7 (K:Rf) (T:String) (r:V->List V->Hp->VK->Prop) (to:TE) (t:TA):TE:=fun σ H Q=>to σ H fun x H1=>NS K T x H1/\t σ H1 fun xs H2=>r x xs H2 Q
variable {o e:SJ} {es:List SJ} {to:TE} {t:TA} {name:Str} {apos cpos:Pos} {T id:String} {r:V->List V->Hp->VK->Prop}
theorem HI (pa:PlainAttrs T) (slot:Slot T name id) (hty:typeOf (.builtin id)=pure (.type "method_descriptor")) (hm:NP X id r) (ho:PE X o to) (ha:PA X (e::es) t)
  (hbase:Tc o name X.env (eval o X.env)=eval o X.env:=by rfl)
  (hfew:((backTo cpos (SK (e::es) X.env)).all (fun x=>!x.1) && (backToKw cpos (Te [] X.env)).all (fun x=>x.1.isSome)
   && decide ((e::es).length+([]:List TJ).length+(if ([]:List TJ).isEmpty then 0 else 1) < 30))=true:=by rfl)
  (hline:(apos.endLine==cpos.line)=true:=by rfl) (hs:SK (e::es) X.env=(false,eval e X.env)::SK es X.env:=by rfl) (hplain:(backTo cpos (SK es X.env)).any (·.1)=false:=by rfl) :
  PE X (.Call (.Attribute o name apos) (e::es) [] cpos) (N7 X.K T r to t):=by
 intro pins s σ H Q I h
 refine wpAny_Call_method_late hbase hfew hline rfl (dX (ho pins s σ H _ I h) fun v s1 ⟨x,H1,I1,r1,ty,q1⟩=>?_)
 obtain⟨h1,h2⟩:=IG I1 r1 ty
 refine⟨T,id,pa,slot,hty,h1,h2,?_⟩
 have hA:=ha cpos pins s1 σ H1 _ I1 q1
 rw [hs] at hA ⊢
 refine Calls.callWith_builtin (by show (false || (backTo cpos (SK es X.env)).any (·.1))=false; rw [hplain] <;> rfl) (Calls.evalArgs_plain ?_)
 exact dX hA fun us s2 ⟨vs,H2,I2,r2,q2⟩=>hm pins s2 σ H2 x vs v us Q I2 r1 r2 q2
end
end L2

namespace L2
open PySem PySem.Spec PyProof.Rows

def Ls (X:Cx) (id:String) (r:V->List V->Hp->VK->Prop):Prop :=
 ∀ (pins:List (Su×Obj)) (s:SF) (σ:St) (H:Hp) (x:V) (xs:List V) (v:Sq) (us:List Sq) (Q:VK),Inv X pins σ H s->RelV x v->Vals xs us->r x xs H Q ->
  SH (model X.prog X.w) X.A (call (.builtin id) (v::us)) (EP X pins σ Q) X.xe s

theorem Vals.one:∀ {x:V} {us:List Sq},Vals [x] us->∃ u,us=[u]/\RelV x u
 | _,_,.cons r .nil=>⟨_,rfl,r⟩
theorem Vals.two:∀ {x y:V} {us:List Sq},Vals [x,y] us->∃ u v,us=[u,v]/\RelV x u/\RelV y v
 | _,_,_,.cons r (.cons q .nil)=>⟨_,_,rfl,r,q⟩
theorem Vals.reverse {xs:List V} {us:List Sq} (h:Vals xs us):Vals xs.reverse us.reverse:=by
 induction h with
 | nil=>exact .nil
 | cons r t ih=>rw [O5,O5]; exact Vals.append ih (.cons r .nil)
section
variable {X:Cx} {pins:List (Su×Obj)} {σ:St} {H:Hp} {s:SF} {l b:Su} {xs ys zs:List V}

theorem Inv.lset {its its':List Sq} {n:Nat} {f:Array Sq->Array Sq} {t':Nat} (I:Inv X pins σ H s) (hH:H l=some (.lst xs))
  (e:s.heap.get? l=some { cls:=.type "list",data:=.seq its.toArray n }) (hf:f its.toArray=its'.toArray) (hv:Vals ys its') (hz:ys.length<=Sx) :
  Inv X pins σ (upd H l (.lst ys)) { s with heap:=s.heap.update l (Obj.mapSeq f),toks:=t' }:=by
 have q:=PySem.IsL.update e f
 rw [hf] at q
 refine I.write (x:=l) (e:=l) (by rw [hH]; exact trivial) (.inl rfl) (fun b' u hb hu=>(RT s.heap (Obj.mapSeq f) (Ne.symm hb)).trans hu) ⟨_,q⟩ ?_
 exact⟨hz,its',_,hv,q⟩
theorem Inv.lnew {its:List Sq} {t':Nat} (I:Inv X pins σ H s) (hv:Vals ys its) (hz:ys.length<=Sx) :
  Inv X pins σ (upd H s.heap.objs.size (.lst ys)) { s with heap:=s.heap.push { cls:=.type "list",data:=.seq its.toArray },toks:=t' } :=
 I.laid (fun _ _ q=>RN _ q) (Ow _) ⟨hz,its,0,hv,RO _ rfl⟩
theorem Inv.fresh (I:Inv X pins σ H s):H s.heap.objs.size=none:=I.hok.fresh (Ow _)
theorem Inv.lstM (I:Inv X pins σ H s) (hH:H l=some (.lst xs)):xs.length<=Sx/\∃ (its:List Sq) (n:Nat),Vals xs its/\xs.length=its.length/\s.heap.get? l=some { cls:=.type "list",data:=.seq its.toArray n }:=by
 obtain⟨z,its,n,r,e⟩:=I.hok l _ hH
 exact⟨z,its,n,r,r.length,e⟩

end

section
variable {X:Cx}

def Ba:V->List V->Hp->VK->Prop:=fun x vs H Q=>∃ l xs y,x=.ref l/\vs=[y]/\H l=some (.lst xs)/\xs.length < Sx/\Q .non (upd H l (.lst (xs++[y])))
theorem jR:Ls X "list.append" Ba:=by
 intro pins s σ H x vs v us Q I rx rv h
 obtain⟨l,xs,y,rfl,rfl,hH,hz,q⟩:=h
 cases rx
 obtain⟨u,rfl,ru⟩:=rv.one
 obtain⟨z,its,n,r,hl,e⟩:=I.lstM hH
 refine call_meets F.slot_list_append ⟨_,e,rfl⟩ F.entry_list_append (F.args_list_append_2 _ _) (PySem.list_append l its.toArray n u (by rw [Oy]; omega)) ⟨e,?_⟩
 refine⟨.non,_,I.lset (its':=its++[u]) hH e (by simp) (r.append (.cons ru .nil)) ?_,rfl,q⟩
 rw [OW,O6]
 omega

end


end L2

namespace Att
open PySem PySem.W PySem.Calls PyProof.Rows

theorem qD {P:Params} {h:Sw}:∀ (ns:List Int) (vs:List Sq),WellAll P h vs (ns.map WData.int)->IntsAre vs ns:=by
 intro ns
 induction ns with
 | nil =>
  intro vs w
  rw [O7] at w
  cases w
  exact .nil
 | cons n ns ih =>
  intro vs w
  rw [OB] at w
  cases w with
  | cons a b =>
   cases a
   exact .cons _ _ (ih _ b)

theorem Cv {l:OpenLaw} {n:Nat} (hn:l.most=some n) {P:Params} {h:Sw} {args:List WData} {vals:List Sq}
  (hpre:l.row.toRowW.claim.pre args=true) (hwl:WellAll P h vals args) :
  ∃ a vs ns,vals=[Value.ref a]/\args=[WData.list (ns.map WData.int)]/\h.get? a=some { cls:=.type "list",data:=.seq vs.toArray }/\IntsAre vs ns/\ns.length<=n:=by
 have hsh:WShape.hasAll [] args [.list .int]=true:=(pre_splitW hpre).1
 have hc:l.pre.holds [] { args:=args }=true:=(pre_splitW hpre).2
 obtain⟨d,r,rfl,h1,h2⟩:=hasAllW_cons hsh
 obtain rfl:=hasAllW_nil h2
 obtain⟨xs,rfl,h3⟩:=hasW_list h1
 obtain⟨ns,rfl⟩:=items_int h3
 have hlen:ns.length<=n:=by
  unfold OpenLaw.pre at hc
  have h4:(WTm.not (.lt (.lit (.int (n:Int))) (.len (.arg 0)))).holds [] { args:=[.list (ns.map .int)] }=true:=by
   have h4:=(holds_andW hc).1
   rw [hn] at h4
   exact h4
  have h5:=condW_of h4 (w_not (w_lt w_lit (w_len_list (w_arg rfl))))
  rw [OC] at h5
  refine Nat.le_of_not_lt fun q=>?_
  have q':(n:Int) < ((ns.length:Nat):Int):=by omega
  first
   | (rw [decide_eq_true q'] at h5; exact absurd h5 (by decide))
   | (simp at h5; omega)
 cases hwl with
 | cons w1 w2 =>
  cases w2
  cases w1 with
  | list ho hall=>exact⟨_,_,ns,rfl,rfl,ho,qD ns _ hall,hlen⟩

theorem Ci (l:OpenLaw) (args:List WData):l.row.toRowW.claim.post args (.bool true) args=true :=
 postW_of (r:=l.row.toRowW) (X:=(true==true))
  (show WShape.has [] (.bool true) .bool=true by first | rfl | decide | simp [WShape.has,WShape.arms,WShape.armsAll])
  (show (WTm.eq .res (.lit (.bool true))).value [] { args:=args,res:=some (.bool true),after:=args }=some (.bool (true==true)) from w_eq_bool (w_res rfl) w_lit) rfl

theorem HE {l:OpenLaw} {n:Nat} {q:Ss} {loose:List Str} {XP:(Str->Option Sq)->Sw->Prop} {YP:Sr->Sw->Prop} {d:DefRec}
  (hn:l.most=some n) (hdf:d.params.defaults=[])
  (call:∀ (w:Sr) (s₀ s₁:SF) (mg mb:Str->Option Sq) (fa:Su) (o:Obj) (pm cd doc:Sq) (a:Su) (vs:List Sq) (ns:List Int),
   Ground q loose [] XP w s₀ mg mb s₁.heap->YP w s₁.heap ->
   s₁.heap.get? fa=some o->o.data=.func (docDef d.name d.params d.body d.scope pm cd doc)->s₁.heap.CodeRec cd d.name->mg d.name=some (.ref fa) ->
   s₁.heap.get? a=some { cls:=.type "list",data:=.seq vs.toArray }->IntsAre vs ns->ns.length<=n->s₁.gens=#[] ->
   Tb (model l.prog w) callerA (.call (.ref fa) ⟨[.ref a],[]⟩) (fun r s'=>r=.ok (.ret (.bool true))/\OldK s₁.heap s'.heap/\s'.os=s₁.os/\AllBare s'.gens) s₁) :
  WalkO q loose XP YP l.row.toRowW d [] (fun f vs=>PySem.call f vs):=by
 intro w s₀ s₁ mg mb G Y fa o pm cd doc dV kV ho hd hcd hD hmg hg args vals as hpre hlay hrd hwl hlo
 obtain rfl:dV=.none:=Dflts.none hD hdf
 obtain rfl:kV=.none:=Dflts.noKw hD
 obtain⟨a,vs,ns,rfl,rfl,hobj,hints,hlen⟩:=Cv hn hpre hwl
 refine enter_call (Tj (call w s₀ s₁ mg mb fa o pm cd doc a vs ns G Y ho (fd_plain hd) hcd hmg hobj hints hlen hg) fun r s' hq=>?_)
 obtain⟨rfl,h2,h3,h4⟩:=hq
 exact⟨.inl ⟨.bool true,.bool true,[],rfl,fun _=>rfl,.bool true,Ci l _,fun _=>⟨List.Pairwise.nil,fun _ hm=>(nomatch hm)⟩⟩,h2,h3,h4⟩

section
variable {prog:Ss} {w:Sr} {A:SE} {E:Sq->SF->Prop} {s:SF} {K:Frag}

end
end Att

namespace L2
open PySem PySem.Spec PyProof.Rows

theorem vH:∀ {vs:List Sq} {ns:List Int},IntsAre vs ns->Vals (ns.map V.int) vs
 | _,_,.nil=>.nil
 | _,_,.cons n t h=>.cons ⟨t,rfl⟩ (vH h)

end L2

namespace L2
open PySem PySem.Spec PyProof.Rows

end L2

namespace L2
open PySem PySem.Spec PyProof.Rows

def inClass (s:SL) (j:Nat):SL:=match s with
 | .ClassDef _ _ _ body _ _ _ _ _ _ _=>body.getD j (.Pass ⟨0,0,0,0⟩)
 | _=>.Pass ⟨0,0,0,0⟩
def mz (s:SL):To:=match s with
 | .FunctionDef _ a _ _ _ _ _ _ _ _=>a
 | _=>{ posonlyargs:=[],args:=[],vararg:=none,kwonlyargs:=[],kw_defaults:=[],kwarg:=none,defaults:=[] }
def fA (s:SL):List SL:=match s with
 | .FunctionDef _ _ b _ _ _ _ _ _ _=>b
 | _=>[]
def aA (s:SL):SG:=match s with
 | .FunctionDef _ _ _ _ _ _ sc _ _ _=>sc
 | _=>{ kind:=.function,names:=[],isGenerator:=false,isCoroutine:=false }

abbrev Le:Az:=fun _ _ _ _ _ _=>False
abbrev E0:XK:=fun _ _ _=>False
structure wK (K:Rf) (x qual:Str) (st:SL) (f:Su) (fd:Th):Prop where
 ex:∃ (oc:Sq) (od:Option Su) (kV doc pm:Sq) (an:Option Su) (cdv ct:Sq) (osl:Array (Option Sq)),
  fd=Rw x qual (mz st) (fA st) (aA st) .none kV doc pm an cdv ct/\K.lookup f=some ⟨oc,od,.func fd,osl⟩/\Rx K cdv qual=true
 kp:Rt K (.ref f)=true
section
variable {P:Ss} {w:Sr} {K:Rf} {mg:Str->Option Sq} {base:Sw}
theorem wK.ok {x qual:Str} {st:SL} {f:Su} {fd:Th} {N ps:List Str} {k:Nat} {sp:Sp} (F:wK K x qual st f fd) (S:aJ N ps (aA st)) (len:∀ vs H Q E,sp vs H Q E->vs.length=ps.length)
  (hbody:∀ (cdv:Sq) (A:SE) (outer:List Env) (s:SF) (H:Hp) (vs:List V) (Q:VK) (E:XK),fG k (A.deeper (envOfC qual (aA st) s.heap.objs.size f cdv))->sp vs H Q E ->
   ∃ t,xx (jL Le P w K mg base N qual (aA st) f cdv A outer s H E).nox (fA st) t/\t { nx:=fun _ H'=>Q .non H',rt:=Q } (start N vs) H):js P w K mg base Le (k+1) f fd ps sp:=by
 obtain⟨oc,od,kV,doc,pm,an,cdv,ct,osl,rfl,lk,hcd⟩:=F.ex
 refine D5 lk hcd S len fun A outer s H vs Q E hr hsp=>?_
 obtain⟨t,h,q⟩:=hbody cdv A outer s H vs Q E hr hsp
 exact⟨t,h.nox,q⟩
theorem wK.binds {x qual:Str} {st:SL} {f:Su} {fd:Th} {ps:List Str} (F:wK K x qual st f fd)
  (h:∀ (kV doc pm:Sq) (an:Option Su) (cdv ct:Sq) (us:List Sq),us.length=ps.length->bindArgs (Rw x qual (mz st) (fA st) (aA st) .none kV doc pm an cdv ct) ⟨us,[]⟩=pure (ps.zip us)):Binds K fd ps []:=by
 obtain⟨oc,od,kV,doc,pm,an,cdv,ct,osl,rfl,lk,hcd⟩:=F.ex
 exact .all (h kV doc pm an cdv ct)
theorem bx {x qual:Str} {st:SL} {f:Su} {oc:Sq} {od an:Option Su} {osl:Array (Option Sq)} {kV doc pm cdv ct:Sq} (l:K.lookup f=some ⟨oc,od,.func (Rw x qual (mz st) (fA st) (aA st) .none kV doc pm an cdv ct),osl⟩)
  (c:Rx K cdv qual=true) (k:Rt K (.ref f)=true):wK K x qual st f (Rw x qual (mz st) (fA st) (aA st) .none kV doc pm an cdv ct):=⟨⟨oc,od,kV,doc,pm,an,cdv,ct,osl,rfl,l,c⟩,k⟩
end
section
variable {X:Cx}
theorem pv (i:Nat) {x:Str} {pos:Pos} (hN:X.N[i]?=some x:=by rfl) (hv:IC X.env.scope x:=by first | exact Or.inl rfl | exact Or.inr (Or.inl rfl) | exact Or.inr (Or.inr rfl)) (hd:(x==("__debug__":Str))=false:=by decide)
  (hcd:(x==("__classdict__":Str))=false:=by decide):PE X (.Name x pos) (qy i):=Jb hN hv hd hcd
end

theorem xL {A B:Prop} (h:B):if false=true then A else B:=by
 rw [if_neg Ot]
 exact h
theorem ww {A B:Prop} (h:A):if true=true then A else B:=by
 rw [if_pos rfl]
 exact h
def bS (H H':Hp):Prop:=∀ b o,H b=some o->H' b=some o
theorem bS.refl (H:Hp):bS H H:=fun _ _ h=>h
theorem bS.trans {H H1 H2:Hp} (a:bS H H1) (b:bS H1 H2):bS H H2:=fun c o h=>b c o (a c o h)
theorem bS.free {H H':Hp} (e:bS H H') {l:Su} (h:H' l=Option.none):H l=Option.none:=by
 cases q:H l with
 | none=>rfl
 | some o =>
  rw [e l o q] at h
  cases h
theorem bS.seq {K:Rf} {H H':Hp} {a:Su} {xs:List V} (e:bS H H') (h:nN K H a xs):nN K H' a xs:=by
 rcases h with (h | ⟨o,h⟩) | h
 ·exact .inl (.inl (e _ _ h))
 ·exact .inl (.inr ⟨o,e _ _ h⟩)
 ·exact .inr h

end L2
namespace L2
open PySem PySem.Spec PyProof.Rows

section
variable {κ:Type} [DecidableEq κ]
def oW (kvs:List (κ×V)) (k:κ):Option V:=(kvs.find? fun kv=>decide (kv.1=k)).map (·.2)
def putK (kvs:List (κ×V)) (k:κ) (v:V):List (κ×V) :=
 if (kvs.any fun kv=>decide (kv.1=k))=true then kvs.map (fun kv=>if kv.1=k then (kv.1,v) else kv) else kvs++[(k,v)]
theorem oF {p:κ×V} {r:List (κ×V)} {k:κ} (e:p.1=k):oW (p::r) k=some p.2:=by simp [oW,O8,e]
theorem oj {p:κ×V} {r:List (κ×V)} {k:κ} (e:¬ p.1=k):oW (p::r) k=oW r k:=by simp [oW,O8,e]
theorem yn (k:κ):∀ kvs:List (κ×V),(kvs.any fun kv=>decide (kv.1=k))=(oW kvs k).isSome
 | []=>rfl
 | p::r=>by
  rw [O9]
  by_cases e:p.1=k
  ·simp only [oF e,decide_eq_true e,Pa,Option.isSome_some]
  ·rw [oj e,decide_eq_false e,Pb]; exact yn k r
theorem zh (kvs:List (κ×V)) (k:κ) (v:V):(putK kvs k v).length<=kvs.length+1:=by
 unfold putK
 split
 ·rw [OC]; omega
 ·rw [OW,OA,Ph]; omega
theorem xF.isSome_eq {o:Option V} {u:Option Sq} (r:xF o u):o.isSome=u.isSome:=by
 cases o with
 | none=>cases u with
  | none=>rfl
  | some _=>exact(show False from r).elim
 | some _=>cases u with
  | none=>exact(show False from r).elim
  | some _=>rfl
theorem KV.val {kvs:List (κ×V)} {vs:List (κ×Sq)} (r:KV kvs vs) (k:κ):xF (oW kvs k) (valueAt vs k):=by
 unfold KV at r
 induction r with
 | nil=>exact True.intro
 | @cons p q ps qs h t ih =>
  obtain⟨h1,h2⟩:=h
  by_cases e:p.1=k
  ·have e':q.1=k:=h1.symm.trans e
   have b:valueAt (q::qs) k=some q.2:=by simp [valueAt,O8,e']
   rw [oF e,b]; exact h2
  ·have e':¬ q.1=k:=fun z=>e (h1.trans z)
   have b:valueAt (q::qs) k=valueAt qs k:=by simp [valueAt,O8,e']
   rw [oj e,b]; exact ih
theorem KV.length {kvs:List (κ×V)} {vs:List (κ×Sq)} (r:KV kvs vs):kvs.length=vs.length:=Paired.length r
end


theorem Hu {P:Ss} {w:Sr} {k:Key} {u:Sq} (r:RelV (kV k) u):(fq P w).is k u=true:=by
 cases k with
 | inl i=>obtain⟨t,e⟩:=(show ∃ t,u=Value.int i t from r); subst e; exact yO P w i t
 | inr x=>obtain⟨t,e⟩:=(show ∃ t,u=Value.str x t from r); subst e; exact yp P w x t
theorem vE {P:Ss} {w:Sr}:∀ {ks:List Key} {us:List Sq},Vals (ks.map kV) us->ItemsAre (fq P w) ks us
 | [],_,r=>by rw [O7] at r; cases r; exact .nil
 | k::ks,_,r=>by
  rw [OB] at r
  cases r with
  | cons h t=>exact .cons (Hu h) (vE t)

abbrev KT (H:Hp):List (List Key×V)->List (List Key×Su×Sq)->Prop:=Paired fun p q=>p.1=q.1/\H q.2.1=some (.tup (p.1.map kV))/\RelV p.2 q.2.2
theorem KT.val {H:Hp} {kvs:List (List Key×V)} {xs:List (List Key×Su×Sq)} (r:KT H kvs xs) (k:List Key):xF (oW kvs k) ((atKey xs k).map (·.2)):=by
 induction r with
 | nil=>exact True.intro
 | @cons p q ps qs h t ih =>
  obtain⟨h1,_,h2⟩:=h
  by_cases e:p.1=k
  ·have e':q.1=k:=h1.symm.trans e
   have b:atKey (q::qs) k=some q.2:=by simp [atKey,O8,e']
   rw [oF e,b]; exact h2
  ·have e':¬ q.1=k:=fun z=>e (h1.trans z)
   have b:atKey (q::qs) k=atKey qs k:=by simp [atKey,O8,e']
   rw [oj e,b]; exact ih
theorem KT.repl {H:Hp} {kvs:List (List Key×V)} {xs:List (List Key×Su×Sq)} (r:KT H kvs xs) (k:List Key) {y:V} {u:Sq} (ry:RelV y u) :
  KT H (kvs.map fun kv=>if kv.1=k then (kv.1,y) else kv) (xs.map (putAt k u)):=by
 induction r with
 | nil=>exact .nil
 | @cons p q ps qs h t ih =>
  rw [OB,OB]
  refine .cons ?_ ih
  obtain⟨h1,h2,h3⟩:=h
  unfold putAt
  by_cases e:p.1=k
  ·rw [if_pos e,if_pos (h1.symm.trans e)]; exact⟨h1,h2,ry⟩
  ·rw [if_neg e,if_neg (fun z=>e (h1.trans z))]; exact⟨h1,h2,h3⟩
theorem KT.put {H:Hp} {kvs:List (List Key×V)} {xs:List (List Key×Su×Sq)} (r:KT H kvs xs) (k:List Key) {b:Su} {y:V} {u:Sq} (hb:H b=some (.tup (k.map kV))) (ry:RelV y u) :
  KT H (putK kvs k y) (storedH xs k b u):=by
 have e:(kvs.any fun kv=>decide (kv.1=k))=(atKey xs k).isSome:=by
  rw [yn,(r.val k).isSome_eq,Pj]
 unfold putK storedH
 rw [e]
 by_cases q:(atKey xs k).isSome=true
 ·rw [if_pos q,if_pos q]; exact r.repl k ry
 ·rw [if_neg q,if_neg q]; exact Paired.snoc r ⟨rfl,hb,ry⟩
theorem KT.keeps {H H':Hp} {kvs:List (List Key×V)} {xs:List (List Key×Su×Sq)} (r:KT H kvs xs) (ht:∀ b ys,H b=some (.tup ys)->H' b=some (.tup ys)):KT H' kvs xs :=
 Paired.mapP r fun _ _ z=>⟨z.1,ht _ _ z.2.1,z.2.2⟩

section
variable {P:Ss} {w:Sr} {H:Hp} {h:Sw} {a:Su}
theorem HD {u:HO} (ok:pS P w H h) (e:Rd H a u):dG P w H h a u:=e.ok ok
theorem JW {kvs:List (Key×V)} (ok:pS P w H h) (e:Rd H a (.dK kvs)):kvs.length<=Sx/\(a==sysModules)=false/\∃ vs,KV kvs vs/\h.DictOf (fq P w) a vs :=
 show dG P w H h a (.dK kvs) from HD ok e
theorem AB {ks:List Key} (ok:pS P w H h) (e:H a=some (.tup (ks.map kV))):(tupleKind (fq P w)).is h ks a:=by
 obtain⟨_,its,r,o,h1,h2,n,h3⟩:=(show dG P w H h a (.tup (ks.map kV)) from ok a _ e)
 exact⟨o,its.toArray,n,h1,h2,h3,by simpa using vE r⟩
theorem KP {kvs:List (List Key×V)} (ok:pS P w H h) (e:Rd H a (.dT kvs)):kvs.length<=Sx/\(a==sysModules)=false /\
  ∃ xs,KT H kvs xs/\h.DictOfH (tupleKind (fq P w)) a xs:=by
 obtain⟨z,y,xs,r,o,es,ep,h1,h2,h3,h4,h5⟩:=(show dG P w H h a (.dT kvs) from HD ok e)
 refine⟨z,y,xs,r,o,es,ep,h1,h2,h3,h4,fun x hx=>?_,h5⟩
 have all:∀ {l:List (List Key×V)} {m:List (List Key×Su×Sq)},KT H l m->∀ x∈m,(tupleKind (fq P w)).is h x.1 x.2.1:=by
  intro l m q
  induction q with
  | nil=>intro x hx; exact nomatch hx
  | @cons p q ps qs hq t ih =>
   intro x hx
   rcases List.mem_cons.mp hx with e | hx
   ·subst e
    exact AB ok (by rw [<- hq.1]; exact hq.2.1)
   ·exact ih x hx
 exact all r x hx
end

def JN (H:Hp) (a:Su) (y:V) (r:Option V):Prop :=
 (∃ kvs k,Rd H a (.dK kvs)/\y=kV k/\r=oW kvs k)\/∃ kvs k b,Rd H a (.dT kvs)/\y=.ref b/\H b=some (.tup (k.map kV))/\r=oW kvs k
theorem JN.t {H:Hp} {a b:Su} {kvs:List (List Key×V)} {k:List Key} (e:H a=some (.dT kvs)) (eb:H b=some (.tup (k.map kV))):JN H a (.ref b) (oW kvs k):=.inr ⟨kvs,k,b,.inl e,rfl,eb,rfl⟩
section
variable {X:Cx} {pins:List (Su×Obj)} {σ:St} {H:Hp} {s:SF} {a:Su} {y v:V} {u r:Sq} {o:Option V} {A:SE} {E:Sq->SF->Prop}

theorem Inv.big (I:Inv X pins σ H s):sysModules < s.heap.objs.size:=by
 have h:Sz < s.heap.objs.size:=(I.mod.glob.keeps I.bk).lt
 exact Pl (by decide) h

theorem Bk {Q:Sq->SF->Prop} (hu:A.units+1 < Tg) (I:Inv X pins σ H s) (g:JN H a y o) (ry:RelV y u) (h:∀ s',Inv X pins σ H s'->Q (.bool (!o.isSome)) s') :
  SH (model X.prog X.w) A (SU .NotIn u (.ref a)) Q E s:=by
 rcases g with ⟨kvs,k,e,ey,l⟩ | ⟨kvs,k,b,e,ey,eb,l⟩
 ·subst ey
  obtain⟨z,hd,vs,rel,dd⟩:=JW I.hok e
  refine wpAny_notIn_of (Hu ry) hd dd.mapOf ?_
  rw [<- (rel.val k).isSome_eq,<- l]
  exact h _ (I.tok _)
 ·subst ey
  cases (show u=Value.ref b from ry)
  obtain⟨z,hd,xs,rel,dd⟩:=KP I.hok e
  refine wpAny_notIn_heap (tupleKind_room_in1 hu) (AB I.hok eb) hd dd ?_
  have q:=(rel.val k).isSome_eq
  rw [Pj] at q
  rw [<- q,<- l]
  exact h _ (I.tok _)
theorem Bn {h':Sw} {t':Nat} {ob:HO} (I:Inv X pins σ H s) (mu:Kw (H a)) (hs:RM a s.heap h') (he:∃ q,h'.get? a=some q) (new:dG X.prog X.w (upd H a ob) h' a ob) :
  Inv X pins σ (upd H a ob) { s with heap:=h',toks:=t' } :=
 I.write (x:=a) (e:=a) mu (.inl rfl) (fun b q hb z=>(hs.2 b hb).trans z) he new
end










end L2
namespace L2
open PySem PySem.Spec PyProof.Rows
end L2
namespace L2
open PySem PySem.Spec PyProof.Rows

def eB (cells:List (Str×Su)):List (Str×Tn)->List (Str×Su)->List (Str×Su)
 | [],acc=>acc
 | (n,k)::r,acc=>if k=.free then (match cells.lookup n with | some c=>eB cells r ((n,c)::acc) | none=>eB cells r acc) else eB cells r acc
theorem my {cells:List (Str×Su)}:∀ (names:List (Str×Tn)) (acc:List (Str×Su)),(∀ x c,acc.lookup x=some c->cells.lookup x=some c) ->
  ∀ x c,(eB cells names acc).lookup x=some c->cells.lookup x=some c
 | [],acc,h=>h
 | (n,k)::r,acc,h=>by
  unfold eB
  by_cases hk:k=.free
  ·rw [if_pos hk]
   cases e:cells.lookup n with
   | none=>exact my r acc h
   | some c0 =>
    refine my r _ fun x c q=>?_
    rw [Pm] at q
    cases hx:x==n with
    | true =>
     rw [hx] at q
     have e1:x=n:=by simpa using hx
     cases q
     rw [e1]; exact e
    | false=>rw [hx] at q; exact h x c q
  ·rw [if_neg hk]; exact my r acc h
theorem kP {cells:List (Str×Su)}:∀ (names:List (Str×Tn)) (acc:List (Str×Su)) (x:Str),(acc.lookup x).isSome=true->((eB cells names acc).lookup x).isSome=true
 | [],acc,x,h=>h
 | (n,k)::r,acc,x,h=>by
  unfold eB
  by_cases hk:k=.free
  ·rw [if_pos hk]
   cases e:cells.lookup n with
   | none=>exact kP r acc x h
   | some c0 =>
    refine kP r _ x ?_
    rw [Pm]
    cases hx:x==n with
    | true=>rfl
    | false=>exact h
  ·rw [if_neg hk]; exact kP r acc x h
theorem jV {cells:List (Str×Su)}:∀ (names:List (Str×Tn)) (acc:List (Str×Su)) (x:Str),(x,NameKind.free)∈names->(∃ c,cells.lookup x=some c)->((eB cells names acc).lookup x).isSome=true
 | [],acc,x,h,_=>absurd h (by simp)
 | (n,k)::r,acc,x,h,hc=>by
  unfold eB
  rcases List.mem_cons.mp h with e | h
  ·cases e
   rw [if_pos rfl]
   obtain⟨c,e⟩:=hc
   rw [e]
   refine kP r _ _ ?_
   rw [Pm]
   simp
  ·by_cases hk:k=.free
   ·rw [if_pos hk]
    cases e:cells.lookup n with
    | none=>exact jV r acc x h hc
    | some c0=>exact jV r _ x h hc
   ·rw [if_neg hk]; exact jV r acc x h hc
theorem o3 {scope:SG} {env:Env} (h:∀ p∈scope.names,p.2=.free->∃ c,env.cells.lookup p.1=some c):closureFor scope env=pure (eB env.cells scope.names []):=by
 have go:∀ (names:List (Str×Tn)) (acc:List (Str×Su)),(∀ p∈names,p.2=.free->∃ c,env.cells.lookup p.1=some c) ->
   (forIn names acc fun x cs=>(match x with | (name,kind)=>if (kind==NameKind.free)=true then do let a <- cellOf env name; pure (ForInStep.yield ((name,a)::cs)) else pure (ForInStep.yield cs):Sem (ForInStep (List (Str×Su)))))=pure (eB env.cells names acc):=by
  intro names
  induction names with
  | nil=>intro acc _; rfl
  | cons p r ih =>
   intro acc hp
   obtain⟨n,k⟩:=p
   rw [Pn]
   by_cases hk:k=.free
   ·obtain⟨c,e⟩:=hp (n,k) Oj hk
    subst hk
    have e2:cellOf env n=pure c:=by unfold cellOf; rw [e]
    simp only [beq_self_eq_true,if_true,e2,pure_bind]
    rw [ih _ fun q hq=>hp q (Ol _ hq)]
    conv=>rhs; rw [eB]
    simp [e]
   ·have hb:(k==NameKind.free)=false:=by simpa using hk
    simp only [hb,Pp,if_false,pure_bind]
    rw [ih _ fun q hq=>hp q (Ol _ hq)]
    conv=>rhs; rw [eB,if_neg hk]
 have:=go scope.names [] h
 unfold closureFor
 simp only []
 rw [this]
 rfl

def df (X:Cx) (scope:SG) (N:List Str) (cl:List (Str×Su)) (C:Su) (fp:List Su) (s:SF) (H:Hp) (E:Sq->SF->Prop):Cx where
 prog:=X.prog
 w:=X.w
 K:=X.K
 mg:=X.mg
 base:=X.base
 A:=X.A
 N:=N
 s₀:=s
 H₀:=H
 env:=compEnvC scope cl C X.env
 outer:=X.stack
 stack:=X.stack
 ex:=fp
 fn:=fun _=>false
 calm:=X.calm
 pn:=[]
 xe:=E

def xR (XN N:List Str) (names:List (Str×Tn)) (ix:List (Option Nat)):Bool :=
 decide (ix.length=N.length) && (N.zip ix).all fun p=>match p.2 with
  | some i=>decide (XN[i]?=some p.1) && decide (names.lookup p.1=some .free)
  | none=>true
def inBlock (ix:List (Option Nat)) (σ:St):St:=ix.map fun o=>match o with
 | some i=>(σ[i]?).getD none
 | none=>none
theorem xR.len {XN N:List Str} {names:List (Str×Tn)} {ix:List (Option Nat)} (h:xR XN N names ix=true):ix.length=N.length:=by
 unfold xR at h
 rw [O1] at h
 exact of_decide_eq_true h.1
theorem xR.at_ {XN N:List Str} {names:List (Str×Tn)} {ix:List (Option Nat)} (h:xR XN N names ix=true) {j i:Nat} {x:Str} (h1:N[j]?=some x) (h2:ix[j]?=some (some i)):XN[i]?=some x/\names.lookup x=some .free:=by
 unfold xR at h
 rw [O1] at h
 have hm:(x,some i)∈N.zip ix:=by
  have e:(N.zip ix)[j]?=some (x,some i):=by rw [List.getElem?_zip_eq_some]; exact⟨h1,h2⟩
  exact OV e
 have q:=List.all_eq_true.mp h.2 _ hm
 simp only [O1] at q
 exact⟨of_decide_eq_true q.1,of_decide_eq_true q.2⟩

theorem lU {env:Env}:∀ {names:List (Str×Tn)} {x:Str} {k:Tn},
  (names.map fun (n,k)=>if (k==NameKind.free && env.scope.kind==.function && env.kindOf n==some .cell) then (n,NameKind.cell) else (n,k)).lookup x=some k ->
  names.lookup x=some k\/(names.lookup x=some .free/\k=.cell)
 | [],_,_,h=>by simp at h
 | (n,k0)::r,x,k,h=>by
  have ih:=@lU env r x k
  replace h:List.lookup x ((if (k0==NameKind.free && env.scope.kind==.function && env.kindOf n==some .cell)=true then (n,NameKind.cell) else (n,k0))::(r.map fun (n,k)=>if (k==NameKind.free && env.scope.kind==.function && env.kindOf n==some .cell) then (n,NameKind.cell) else (n,k)))=some k:=h
  by_cases hc:(k0==NameKind.free && env.scope.kind==.function && env.kindOf n==some .cell)=true
  ·rw [if_pos hc] at h
   have hk0:k0=.free:=by
    simp only [O1] at hc
    simpa using hc.1.1
   cases hx:x==n with
   | true =>
    simp only [Pm,hx] at h
    simp only [Pm,hx]
    cases h
    exact .inr ⟨by rw [hk0],rfl⟩
   | false =>
    simp only [Pm,hx] at h ⊢
    exact ih h
  ·rw [if_neg hc] at h
   cases hx:x==n with
   | true =>
    simp only [Pm,hx] at h ⊢
    exact .inl h
   | false =>
    simp only [Pm,hx] at h ⊢
    exact ih h
def Il (X:Cx) (ifs:List SJ) (t:TT):Prop :=
 ∀ (pins:List (Su×Obj)) (s:SF) (σ:St) (H:Hp) (Q:Bool->Hp->Prop),Inv X pins σ H s->t σ H Q ->
  SH (model X.prog X.w) X.A (forIn ifs true fun c r=>if r=true then do let ok <- isTrue c X.env (eval c X.env); pure (ForInStep.yield ok) else pure (ForInStep.yield r)) (TP X pins σ Q) X.xe s
def KQ:TT:=fun _ H Q=>Q true H
theorem Gn {X:Cx}:Il X [] KQ:=fun _ _ _ H _ I h=>wpAny_tests_nil ⟨H,I,h⟩
theorem G1 {X:Cx} {c:SJ} {t:TT} (h:PT X c t):Il X [c] t:=fun pins s σ H Q I q=>wpAny_tests_one (h pins s σ H Q I q)

theorem lT {prog:Ss} {w:Sr} {A:SE} {R:Result->SF->Prop} {s:SF} {elt target iter:SJ} {ifs:List SJ} {scope:SG} {pos:Pos} {it acc:Sq} {env:Env} (I:Nat->SF->Prop)
  (turn:∀ n s,I n s->SH (model prog w) A (pyNext it) (fun r s₁=>match r with
   | none=>R (.ok .next) s₁
   | some v=>SH (model prog w) A (letOwnedTupleGo target it v) (fun _ s₁'=>SH (model prog w) A (assign target env v) (fun _ s₂ =>
     SH (model prog w) A (forIn ifs true fun c r=>if r=true then do let ok <- isTrue c env (eval c env); pure (ForInStep.yield ok) else pure (ForInStep.yield r)) (fun ok s₃ =>
      if ok=true then SH (model prog w) A (eval elt env) (fun x s₄ =>
       SH (model prog w) A (call (.builtin "list.append") [acc,x]) (fun _ s₅=>∃ m,m < n/\I m s₅) (notedBy (model prog w) A env fun e s'=>R (.error e) s') s₄) (notedBy (model prog w) A env fun e s'=>R (.error e) s') s₃
      else ∃ m,m < n/\I m s₃) (notedBy (model prog w) A env fun e s'=>R (.error e) s') s₂) (notedBy (model prog w) A env fun e s'=>R (.error e) s') s₁') (notedBy (model prog w) A env fun e s'=>R (.error e) s') s₁) (notedBy (model prog w) A env fun e s'=>R (.error e) s') s)
  (n:Nat) (h:I n s) :
  Tb (model prog w) A (.compLoop (.ListComp elt [⟨target,iter,ifs,0⟩] scope pos) 0 it acc env) R s:=by
 refine codeAny_loop rfl I (fun n s hI=>?_) n h
 show SH _ A ((compTurn (.ListComp elt [⟨target,iter,ifs,0⟩] scope pos) 0 it acc env).onRaise (fun x=>do noteFrame x env; theTreesLotGoes x)) _ _ s
 refine wpAny_noted ?_
 rw [compTurn_list]
 refine SZ (S3 (SZ (SM (turn n s hI) (fun r s₁ h₁=>?_) fun _ _ h'=>h')))
 cases r with
 | none=>exact S6 h₁
 | some v =>
  refine SZ (SM h₁ (fun _ s₁' h₁'=>?_) fun _ _ h'=>h')
  refine SZ (SM h₁' (fun _ s₂ h₂=>SZ (SM h₂ (fun ok s₃ h₃=>?_) fun _ _ h'=>h')) fun _ _ h'=>h')
  cases ok with
  | false=>exact S6 ⟨rfl,h₃⟩
  | true =>
   exact SZ (SZ (SM h₃ (fun x s₄ h₄=>SZ (SM h₄ (fun _ s₅ h₅=>S6 (S6 ⟨rfl,h₅⟩)) fun _ _ h'=>h')) fun _ _ h'=>h'))

def Lx (wi:TI) (g:TG) (tc:TT) (te:TE) (ix:List (Option Nat)):TE:=fun σ H Q =>
 wi σ H fun J H1=>∀ D,H1 D=none->∃ W:Nat->Nat->St->Hp->Prop,(∃ m,W 0 m (inBlock ix σ) (upd H1 D (.lst []))) /\
  ∀ i m σ' H',W i m σ' H'->(J.stop i H'/\Q (.ref D) H') \/
   (J.go i H'/\∀ x H2,J.yld i H' x H2->g x σ' H2 fun σ3 H3=>tc σ3 H3 fun b H4 =>
    if b=true then te σ3 H4 fun v H5=>∃ acc,H5 D=some (.lst acc)/\acc.length < Sx/\∃ m',m' < m/\W (i+1) m' σ3 (upd H5 D (.lst (acc++[v])))
    else ∃ m',m' < m/\W (i+1) m' σ3 H4)

section
variable {X:Cx} {elt tg iter:SJ} {ifs:List SJ} {scope:SG} {pos:Pos} {N:List Str} {ix:List (Option Nat)} {wi:TI} {g:TG} {tc:TT} {te:TE}

theorem sA {pins:List (Su×Obj)} {σ:St} {s2:SF} {H2:Hp} {it:Su} {fp:List Su} {tn:Nat->Sw->Prop} {J:It} {Q:V->Hp->Prop} {E:Sq->SF->Prop} {RR:Sq->Su->Result->SF->Prop}
    (hc:X.calm=true) (hcell:∀ y∈scope.names,y.2≠.cell) (hkind:scope.kind=.function)
    (hfr:∀ y∈scope.names,y.2=.free->X.env.scope.names.lookup y.1=some .cell\/X.env.scope.names.lookup y.1=some .free)
    (hix:xR X.N N scope.names ix=true)
    (hb:∀ cl C fp s H E,PG (df X scope N cl C fp s H E) tg g/\Il (df X scope N cl C fp s H E) ifs tc/\PE (df X scope N cl C fp s H E) elt te)
    (I2:Inv X pins σ H2 s2) (T:Turn X.prog X.w X.K tg J fp it tn) (st2:tn 0 s2.heap) (f2:∀ b∈fp,ud X pins H2 b)
    (q:∀ D,H2 D=none->∃ W:Nat->Nat->St->Hp->Prop,(∃ m,W 0 m (inBlock ix σ) (upd H2 D (.lst []))) /\
      ∀ i m σ' H',W i m σ' H'->(J.stop i H'/\Q (.ref D) H') \/
        (J.go i H'/\∀ x H3,J.yld i H' x H3->g x σ' H3 fun σ3 H3=>tc σ3 H3 fun b H4 =>
          if b=true then te σ3 H4 fun v H5=>∃ acc,H5 D=some (.lst acc)/\acc.length < Sx/\∃ m',m' < m/\W (i+1) m' σ3 (upd H5 D (.lst (acc++[v])))
          else ∃ m',m' < m/\W (i+1) m' σ3 H4))
    (hRR:∀ D C H' s' m,H2 D=none->s2.heap.objs.size<=C->H' C=none->s'.heap.Ns C m->(∀ h',RM C s'.heap h'->Inv X pins σ H' { s' with heap:=h' })->Q (.ref D) H'->RR (.ref D) C (.ok .next) s') :
    SH (model X.prog X.w) X.A (newList []) (fun acc s₃=>SH (model X.prog X.w) X.A (newFunctionEnv scope X.env.globals (eB X.env.cells scope.names []) [] X.env.qual none .none (some X.env)) (fun cenv s₄ =>
      Tb (model X.prog X.w) X.A (.compStart (.ListComp elt [⟨tg,iter,ifs,0⟩] scope pos) 0 (.ref it) acc { cenv with scope:=relabel scope X.env }) (RR acc cenv.locals) s₄) E s₃) E s2:=by
  refine Tz (wpAny_newFunctionEnv hcell (by intro y hy; simp at hy) (fun h₁ hns₁ hsb₁=>?_) hkind)
  dsimp only at hns₁ hsb₁ ⊢
  have I3:Inv X pins σ (upd H2 s2.heap.objs.size (.lst [])) { s2 with heap:=s2.heap.push { cls:=.type "list",dict:=none,data:=.seq ([]:List Sq).toArray },toks:=s2.toks }:=I2.lnew (its:=[]) (t':=s2.toks) .nil (OH _)
  generalize hs3:({ s2 with heap:=s2.heap.push { cls:=.type "list",dict:=none,data:=.seq ([]:List Sq).toArray },toks:=s2.toks }:SF)=s3 at I3
  have eh3:s2.heap.push { cls:=.type "list",dict:=none,data:=.seq ([]:List Sq).toArray }=s3.heap:=by rw [<- hs3]
  rw [eh3] at hns₁ hsb₁ ⊢
  have hC3:s3.heap.objs.size=s2.heap.objs.size+1:=by rw [<- eh3,RP]
  have hD:H2 s2.heap.objs.size=none:=I2.fresh
  obtain⟨W,⟨m0,w0⟩,turn⟩:=q s2.heap.objs.size hD
  generalize hH3:upd H2 s2.heap.objs.size (.lst [])=H3 at I3 w0
  have old:∀ b o,s3.heap.get? b=some o->h₁.get? b=some o:=fun b o e=>hsb₁.extBut b o (Of (RK e)) (RN _ e)
  have fpH3:∀ b∈fp,H3 b=none:=fun b hb'=>by
    rw [<- hH3,bF]
    · exact(f2 b hb').1
    · obtain⟨o,e,_⟩:=T.obj _ _ st2 b hb'
      exact Of (RK e)
  have fpLt:∀ b∈fp,b < s3.heap.objs.size:=fun b hb'=>by
    obtain⟨o,e,_⟩:=T.obj _ _ st2 b hb'
    rw [hC3]; exact Pq (RK e)
  have hfree:∀ p∈scope.names,p.2=.free->∃ c,X.env.cells.lookup p.1=some c:=fun p hp hk=>I2.ok.has p.1 (hfr p hp hk)
  have csub:∀ x c,(eB X.env.cells scope.names []).lookup x=some c->X.env.cells.lookup x=some c:=my scope.names [] (fun x c e=>by simp at e)
  have names':∀ x k,(relabel scope X.env).names.lookup x=some k->scope.names.lookup x=some k\/(scope.names.lookup x=some .free/\k=.cell):=fun x k h=>lU h
  have ok:(df X scope N (eB X.env.cells scope.names []) s3.heap.objs.size fp s3 H3 (notedBy (model X.prog X.w) X.A (compEnvC scope (eB X.env.cells scope.names []) s3.heap.objs.size X.env) fun e s'=>RR (.ref s2.heap.objs.size) s3.heap.objs.size (.error e) s')).Ok :=
    { mod:=I3.ok.mod
      kind:=hkind
      glob:=I3.ok.glob
      blt:=I3.ok.blt
      above:=Ow _
      inj:=fun x y c h1 h2=>I3.ok.inj x y c (csub x c h1) (csub y c h2)
      has:=fun x hx=>by
        have fr:scope.names.lookup x=some .free:=by
          rcases hx with hx | hx
          · rcases names' x .cell hx with h | ⟨h,_⟩
            · exact absurd rfl (hcell _ (PySem.mem_of_lookup h))
            · exact h
          · rcases names' x .free hx with h | ⟨_,h⟩
            · exact h
            · cases h
        have hm:=PySem.mem_of_lookup fr
        exact Option.isSome_iff_exists.mp (jV scope.names [] x hm (hfree _ hm rfl))
      cab:=fun x c h _=>by cases h
      hd:=I3.ok.hd
      frames:=I3.ok.frames
      stk:=.inl rfl
      exf:=fun b hb'=>⟨Of (fpLt b hb'),fun x c e=>(f2 b hb').2.2.2.2.1 x c (csub x c e)⟩
      bs:=fun b o e=>I3.bs b o e
      bsz:=Og I3.ok.bsz I3.sz
      noex:=fun b o e hb'=>by
        obtain⟨_,_,_,h4,_⟩:=f2 b hb'
        rcases h4 with h4 | h4
        · exact I3.ok.noex b o e h4
        · exact absurd (Od (RK (I3.ok.bs b o e).1) h4) (Oe _)
      exfs:=fun b hb' hs=>by
        obtain⟨_,h2,h3,_⟩:=f2 b hb'
        rcases List.mem_cons.mp (I3.stkSub b hs) with e | e
        · exact h2 e
        · exact h3 e
      funs:=I3.stack
      frf:=fun b hb'=>I3.stkFree b hb' }
  generalize hE:(notedBy (model X.prog X.w) X.A (compEnvC scope (eB X.env.cells scope.names []) s3.heap.objs.size X.env) fun e s'=>RR (.ref s2.heap.objs.size) s3.heap.objs.size (.error e) s')=E' at ok
  obtain⟨hg,htc,hel⟩:=hb (eB X.env.cells scope.names []) s3.heap.objs.size fp s3 H3 E'
  have Istart:∀ tk,Inv (df X scope N (eB X.env.cells scope.names []) s3.heap.objs.size fp s3 H3 E') [] (inBlock ix σ) H3 { s3 with heap:=h₁,toks:=tk }:=fun tk=>by
    refine⟨ok,rfl,I3.bare,Un.kept old,⟨_,hns₁,fun j x v e1 e2 _=>?_⟩,fun x c e=>?_,I3.fresh,fun x c e=>I3.freeC x c (csub x c e),fun p hp=>absurd (show p∈([]:List (Su×Obj)) from hp) (by simp),I3.hok.kept old,?_⟩
    · -- a captured name
      unfold inBlock at e2
      rw [OS] at e2
      cases q1:ix[j]? with
      | none=>rw [q1] at e2; simp at e2
      | some o =>
        rw [q1] at e2
        cases o with
        | none=>simp at e2
        | some i =>
          obtain⟨n1,n2⟩:=xR.at_ hix e1 q1
          have e2':(σ[i]?).getD none=some v:=Option.some.inj e2
          have e3:σ[i]?=some (some v):=by
            cases q2:σ[i]? with
            | none=>rw [q2] at e2'; simp at e2'
            | some o2=>rw [q2] at e2'; simpa using e2'
          obtain⟨m,hn,hl⟩:=I3.loc
          have hm:=PySem.mem_of_lookup n2
          have hk:=hfr _ hm rfl
          have hv:IC X.env.scope x:=by
            rcases hk with hk | hk
            · exact .inr (.inl hk)
            · exact .inr (.inr hk)
          obtain⟨u,r,l⟩:=hl i x v n1 e3 hv
          refine⟨u,r,.inr ?_⟩
          rcases l with ⟨kl,_⟩ | ⟨_,c,hcx,hcell'⟩
          · have kl':X.env.scope.names.lookup x=some .local:=kl
            rcases hk with hk | hk
            · rw [kl'] at hk; cases hk
            · rw [kl'] at hk; cases hk
          · obtain⟨c',hc'⟩:=Option.isSome_iff_exists.mp (jV (cells:=X.env.cells) scope.names [] x hm ⟨c,hcx⟩)
            have ec:c'=c:=Option.some.inj ((csub x c' hc').symm.trans hcx)
            subst ec
            refine⟨?_,c',hc',?_⟩
            · -- its kind in the block: cell or free
              show (relabel scope X.env).names.lookup x=some .cell\/(relabel scope X.env).names.lookup x=some .free
              have gen:∀ names:List (Str×Tn),names.lookup x=some .free->((names.map fun (n,k)=>if (k==NameKind.free && X.env.scope.kind==.function && X.env.kindOf n==some .cell) then (n,NameKind.cell) else (n,k)).lookup x=some .cell\/(names.map fun (n,k)=>if (k==NameKind.free && X.env.scope.kind==.function && X.env.kindOf n==some .cell) then (n,NameKind.cell) else (n,k)).lookup x=some .free):=by
                intro names
                induction names with
                | nil=>intro h; simp at h
                | cons p r ih =>
                  obtain⟨n,k⟩:=p
                  intro h
                  show List.lookup x ((if (k==NameKind.free && X.env.scope.kind==.function && X.env.kindOf n==some .cell)=true then (n,NameKind.cell) else (n,k))::_)=_\/List.lookup x ((if (k==NameKind.free && X.env.scope.kind==.function && X.env.kindOf n==some .cell)=true then (n,NameKind.cell) else (n,k))::_)=_
                  cases hx:x==n with
                  | true =>
                    simp only [Pm,hx] at h
                    by_cases hcc:(k==NameKind.free && X.env.scope.kind==.function && X.env.kindOf n==some .cell)=true
                    · rw [if_pos hcc]; left; simp only [Pm,hx]
                    · rw [if_neg hcc]; right; simp only [Pm,hx]; exact h
                  | false =>
                    simp only [Pm,hx] at h
                    by_cases hcc:(k==NameKind.free && X.env.scope.kind==.function && X.env.kindOf n==some .cell)=true
                    · rw [if_pos hcc]; simp only [Pm,hx]; exact ih h
                    · rw [if_neg hcc]; simp only [Pm,hx]; exact ih h
              exact gen scope.names n2
            · exact hcell'.keeps old
    · obtain⟨v,z⟩:=I3.cell x c (csub x c e)
      exact⟨v,z.keeps old⟩
    · show (inBlock ix σ).length=N.length
      unfold inBlock
      rw [OC]
      exact xR.len hix
  have stat:∀ {H':Hp},(∀ b∈fp,H' b=none)->∀ b∈fp,ud (df X scope N (eB X.env.cells scope.names []) s3.heap.objs.size fp s3 H3 E') [] H' b:=fun hn b hb' =>
    ⟨hn b hb',(ok.exf b hb').1,ok.exfs b hb',.inl hb',(ok.exf b hb').2,fun p hp=>absurd (show p∈([]:List (Su×Obj)) from hp) (by simp)⟩
  have tn1:tn 0 h₁:=T.keep _ _ _ st2 fun b hb' o e=>old b o (by rw [<- eh3]; exact RN _ e)
  have loop:∀ tk,Tb (model X.prog X.w) X.A (.compLoop (.ListComp elt [⟨tg,iter,ifs,0⟩] scope pos) 0 (.ref it) (.ref s2.heap.objs.size) (compEnvC scope (eB X.env.cells scope.names []) s3.heap.objs.size X.env))
      (RR (.ref s2.heap.objs.size) s3.heap.objs.size) { s3 with heap:=h₁,toks:=tk }:=by
    intro tk
    refine lT (fun n s'=>∃ i σ' H',Inv (df X scope N (eB X.env.cells scope.names []) s3.heap.objs.size fp s3 H3 E') [] σ' H' s'/\tn i s'.heap/\(∀ b∈fp,H' b=none)/\W i n σ' H') ?_ m0 ⟨0,_,_,Istart tk,tn1,fpH3,w0⟩
    rintro n s5 ⟨i,σ5,H5,I5,st5,fr5,w5⟩
    rw [hE]
    rcases turn i n σ5 H5 w5 with ⟨stop,qn⟩ | ⟨go,step⟩
    · refine dX (T.done (df X scope N (eB X.env.cells scope.names []) s3.heap.objs.size fp s3 H3 E') rfl rfl rfl hc i [] s5 σ5 H5 _ I5 (stat fr5) st5 stop) fun r s6 ⟨hr,I6⟩=>?_
      subst hr
      obtain⟨m6,hn6,_⟩:=I6.loc
      refine hRR s2.heap.objs.size s3.heap.objs.size H5 s6 m6 hD (by rw [hC3]; exact Nat.le_succ _) I6.free hn6 (fun h' sb=>?_) qn
      have ne:∀ b o,s3.heap.get? b=some o->b≠s3.heap.objs.size:=fun b o e=>Of (RK e)
      refine I3.call' (s':={ s6 with heap:=h' }) (H':=H5) (ch:=fp) I6.os ⟨fun b o e n hb' hx=>?_,fun b o e n hb' hx=>?_,fun b o e n hx=>?_,fun b o e hx=>?_,I6.base.tups,I6.base.frzs,I6.base.tbls⟩ ?_ I6.bare fun b hb'=>?_
      · exact(sb.2 b (ne b o e)).trans (I6.base.keep b o e n hb' hx)
      · obtain⟨sl,e1⟩:=I6.base.slot b o e n hb' hx
        exact⟨sl,(sb.2 b (ne b o e)).trans e1⟩
      · exact I6.base.free b o e n hx
      · obtain⟨o',e1⟩:=I6.base.there b o e hx
        exact⟨o',(sb.2 b (ne b o e)).trans e1⟩
      · intro b ob e
        have hfreeC:H5 s3.heap.objs.size=none:=I6.free
        refine(I6.hok b ob e).stay (fun c v hcc q=>(sb.2 c ?_).trans q) (fun _ q=>q) fun _ _ q=>q
        rintro rfl
        rcases hcc with rfl | hcc
        · rw [hfreeC] at e; cases e
        · rw [hfreeC] at hcc; cases hcc
      · obtain⟨_,h2',_,h4',h5',h6'⟩:=f2 b hb'
        exact⟨h4',h2',h5',h6'⟩
    · refine dX (T.item (df X scope N (eB X.env.cells scope.names []) s3.heap.objs.size fp s3 H3 E') rfl rfl rfl hc i [] s5 σ5 H5 _ I5 (stat fr5) st5 go) fun r s6 ⟨u,hr,h6⟩=>?_
      subst hr
      refine dX h6 fun _ s7 ⟨x,H7,I7,r7,y7,st7,fr7⟩=>?_
      have I7':=I7.pinned (stat fr7) (T.obj _ _ st7)
      refine dX (hg _ s7 σ5 H7 x u _ I7' r7 (step x H7 y7)) fun _ s8 ⟨σ8,H8,I8,q8⟩=>?_
      refine dX (htc _ s8 σ8 H8 _ I8 q8) fun b s9 ⟨H9,I9,q9⟩=>?_
      have again:∀ {σ':St} {H':Hp} {s':SF} {m':Nat},Inv (df X scope N (eB X.env.cells scope.names []) s3.heap.objs.size fp s3 H3 E') ([]++sU fp s7.heap) σ' H' s'->m' < n->W (i+1) m' σ' H' ->
          ∃ m,m < n/\∃ i σ' H',Inv (df X scope N (eB X.env.cells scope.names []) s3.heap.objs.size fp s3 H3 E') [] σ' H' s'/\tn i s'.heap/\(∀ b∈fp,H' b=none)/\W i m σ' H':=fun {σ' H' s' m'} I' hm w'=>by
        refine⟨m',hm,i+1,σ',H',I'.unpinned,T.keep _ _ _ st7 fun b hb' o e=>(I'.pin (b,o) (Ox _ (Ox _ (kH hb' e)))).1,fun b hb'=>?_,w'⟩
        obtain⟨o,e,d⟩:=T.obj _ _ st7 b hb'
        exact(I'.pin (b,o) (Ox _ (Ox _ (kH hb' e)))).2.1
      cases b with
      | false =>
        rw [if_neg Ot] at q9 ⊢
        obtain⟨m',hm,w9⟩:=q9
        exact again I9 hm w9
      | true =>
        rw [if_pos rfl] at q9 ⊢
        refine dX (hel _ s9 σ8 H9 _ I9 q9) fun y s10 ⟨v,H10,I10,r10,q10⟩=>?_
        obtain⟨acc,ha,hz,m',hm,w10⟩:=q10
        refine dX (jR _ s10 σ8 H10 (.ref s2.heap.objs.size) [v] (.ref s2.heap.objs.size) [y] (fun _ H'=>H'=upd H10 s2.heap.objs.size (.lst (acc++[v]))) I10 rfl (.cons r10 .nil) ⟨_,acc,v,rfl,rfl,ha,hz,rfl⟩) fun _ s11 ⟨_,H11,I11,_,e11⟩=>?_
        subst e11
        exact again I11 hm w10
  subst hs3
  exact codeAny_compStart_list (loop _) (T.self _ 0 _ _ _ tn1 (loop _))

theorem Kv (hc:X.calm=true) (hcell:∀ y∈scope.names,y.2≠.cell) (hkind:scope.kind=.function) (hnames:∀ y∈scope.names,y.2=.local->scope.names.lookup y.1=some .local)
  (hfr:∀ y∈scope.names,y.2=.free->X.env.scope.names.lookup y.1=some .cell\/X.env.scope.names.lookup y.1=some .free)
  (hix:xR X.N N scope.names ix=true) (hi:PI X tg iter wi)
  (hb:∀ cl C fp s H E,PG (df X scope N cl C fp s H E) tg g/\Il (df X scope N cl C fp s H E) ifs tc/\PE (df X scope N cl C fp s H E) elt te)
  (hs:∀ x,S8 iter X.env x=pure x:=by intro _; rfl):PE X (.ListComp elt [⟨tg,iter,ifs,0⟩] scope pos) (Lx wi g tc te ix):=by
 intro pins s σ H Q I h
 rw [eval_ListComp]
 refine TK (use:=none) rfl hs (o3 fun p hp hk=>I.ok.has p.1 (hfr p hp hk)) hkind hnames (dX (hi pins s σ H _ I h) fun v s1 h1=>dX h1 fun itv s2 h2=>?_)
 obtain⟨it,fp,tn,J,H2,e,I2,T,st2,f2,q⟩:=h2
 subst e
 refine sA (Q:=Q) (RR:=fun acc C=>compPost (model X.prog X.w) X.A X.xe none (EP X pins σ Q) acc C) hc hcell hkind hfr hix hb I2 T st2 f2 q ?_
 intro D C H' s' m _ _ _ hn hI hq
 exact⟨m,hn,fun h' sb=>⟨.ref D,H',hI h' sb,rfl,hq⟩⟩

theorem J9 {i:Nat} {y:Str} {py spos:Pos} (hN:X.N.Nodup) (hi':X.N[i]?=some y) (hx:Loc X.env.scope y)
  (hc:X.calm=true) (hcell:∀ y∈scope.names,y.2≠.cell) (hkind:scope.kind=.function) (hnames:∀ y∈scope.names,y.2=.local->scope.names.lookup y.1=some .local)
  (hfr:∀ y∈scope.names,y.2=.free->X.env.scope.names.lookup y.1=some .cell\/X.env.scope.names.lookup y.1=some .free)
  (hix:xR X.N N scope.names ix=true) (hi:PI X tg iter wi)
  (hb:∀ cl C fp s H E,PG (df X scope N cl C fp s H E) tg g/\Il (df X scope N cl C fp s H E) ifs tc/\PE (df X scope N cl C fp s H E) elt te)
  (hsw:swapsWith (.ListComp elt [⟨tg,iter,ifs,0⟩] scope pos) (some (.Name y py)) spos.line X.env=pure true:=by rfl)
  (hs:∀ x,S8 iter X.env x=pure x:=by intro _; rfl)
  (hf:X.fn y=true\/X.env.scope.names.lookup y=some .local:=by first | exact .inl rfl | exact .inr rfl | assumption) :
  PS X (.Assign [.Name y py] (.ListComp elt [⟨tg,iter,ifs,0⟩] scope pos) spos) (Di (Lx wi g tc te ix) (uI i)):=by
 intro pins s σ H D0 I h
 rw [exec_Assign_Name_used _ _ _ _ hsw]
 refine SZ (S3 (SZ ?_))
 show SH _ X.A (do let _ <- comprehension (.ListComp elt [⟨tg,iter,ifs,0⟩] scope pos) scope X.env _ (newList []) false (eval iter X.env) (some (assign (.Name y py) X.env))) _ _ s
 refine SZ (dX (TK (use:=some (assign (.Name y py) X.env)) (Q:=fun _ s'=>SP X pins D0 .next s') rfl hs (o3 fun p hp hk=>I.ok.has p.1 (hfr p hp hk)) hkind hnames
  (dX (hi pins s σ H _ I h) fun v s1 h1=>dX h1 fun itv s2 h2=>?_)) fun _ s' hq=>S6 (S6 hq))
 obtain⟨it,fp,tn,J,H2,e,I2,T,st2,f2,q⟩:=h2
 subst e
 refine sA (Q:=fun v H'=>uI i v σ H' D0.nx) (RR:=fun acc C=>compPost (model X.prog X.w) X.A X.xe (some (assign (.Name y py) X.env)) (fun _ s'=>SP X pins D0 .next s') acc C) hc hcell hkind hfr hix hb I2 T st2 f2 q ?_
 intro D C H' s' m _ hC hfree hn hI hq
 have I':Inv X pins σ H' s':=hI s'.heap (.refl ..)
 have nL:C≠X.env.locals:=Ou (Od I2.lt hC)
 have nC:∀ x c,X.env.cells.lookup x=some c->c≠C:=fun x c e z=>by
  obtain⟨v,q⟩:=I2.cell x c e
  exact absurd (Od q.lt (by rw [z]; exact hC)) (Oe _)
 have nP:∀ p∈X.pn++pins,p.1≠C:=fun p hp z=>absurd (Od (RK (I2.pin p hp).1) (by rw [z]; exact hC)) (Oe _)
 show SH _ X.A (assign (.Name y py) X.env (.ref D)) _ _ _
 refine wpAny_assign_Name (vh I' hN hi' hx (v:=.ref D) rfl (fun s'' I'' ch=>?_) hf)
 obtain⟨a,sb,ha⟩:=ch
 have hCa:C≠a:=by
  rcases ha with ha | ha
  ·rw [ha]; exact nL
  ·exact Ne.symm (nC y a ha)
 refine⟨m,hn.sameBut sb hCa,fun h' sb'=>⟨_,H',?_,hq⟩⟩
 exact I''.turned (t':=s''.toks) (fun b o hb' e=>(sb'.2 b hb').trans e) hfree nL (.inr (Og I2.sz hC)) nC nP
end
end L2
namespace TG
open PySem PySem.Spec L2

inductive D where
 | non | bl (b:Bool) | int (i:Int) | str (x:Str) | tup (xs:List D) | lst (xs:List D)
 | dct (ks vs:List D) | obj (c:Str) (fs:List Str) (vs:List D) | exc (c:Str) (fs:List Str) (vs:List D)

def fH:Key->D
 | .inl i=>.int i
 | .inr x=>.str x
def clsAt (K:Rf) (c:Str) (C:Su):Prop:=Ry K Sz c=some (some (.ref C))
def Kp (C a:Su) (dx:Option Su):(Su->Prop)->Sw->Prop:=fun _ h=>∃ o,h.get? a=some o/\o.cls=.ref C/\o.dict=dx
mutual
def dj (K:Rf) (H:Hp):D->V->Prop
 | .non,v=>v=.non
 | .bl b,v=>v=.bl b
 | .int i,v=>v=.int i
 | .str x,v=>v=.str x
 | .tup xs,v=>∃ a vs,v=.ref a/\H a=some (.tup vs)/\bD K H xs vs
 | .lst xs,v=>∃ a vs,v=.ref a/\nN K H a vs/\bD K H xs vs
 | .dct ks ds,v=>∃ a vs,v=.ref a/\bD K H ds vs/\((∃ kvs:List (Key×V),H a=some (.dK kvs)/\ks=kvs.map (fun p=>fH p.1)/\vs=kvs.map (·.2)) \/
   ∃ kvs:List (List Key×V),H a=some (.dT kvs)/\ks=kvs.map (fun p=>.tup (p.1.map fH))/\vs=kvs.map (·.2))
 | .obj c fs ds,v=>∃ a vs,v=.ref a/\bD K H ds vs/\fs.length=vs.length/\∃ C dx,clsAt K c C/\H a=some (.ins C dx (fs.zip vs))
 | .exc c fs ds,v=>∃ a vs,v=.ref a/\bD K H ds vs/\fs.length=vs.length/\∃ C dx,clsAt K c C/\H a=some (.ext (Kp C a dx))/\(fs=[]\/∃ d,dx=some d/\H d=some (.xd (fs.zip vs)))
def bD (K:Rf) (H:Hp):List D->List V->Prop
 | [],vs=>vs=[]
 | x::xs,vs=>∃ v r,vs=v::r/\dj K H x v/\bD K H xs r
end

theorem CC {K:Rf} {H H':Hp} {a:Su} {xs:List V} (e:bS H H') (h:pY K H a xs):pY K H' a xs:=by
 rcases h with (h | ⟨o,h⟩) | h
 ·exact .inl (.inl (e _ _ h))
 ·exact .inl (.inr ⟨o,e _ _ h⟩)
 ·exact .inr h
theorem cn {K:Rf} {H H':Hp} {a:Su} {xs:List V} (e:bS H H') (h:H a=some (.tup xs)):pY K H' a xs:=pY.of (e _ _ h)
mutual
theorem dj.mono {K:Rf} {H H':Hp} (e:bS H H'):∀ {d:D} {v:V},dj K H d v->dj K H' d v
 | .non,_,h=>by unfold dj at h ⊢; exact h
 | .bl _,_,h=>by unfold dj at h ⊢; exact h
 | .int _,_,h=>by unfold dj at h ⊢; exact h
 | .str _,_,h=>by unfold dj at h ⊢; exact h
 | .tup xs,_,h=>by
  unfold dj at h ⊢
  obtain⟨a,vs,e1,h1,h2⟩:=h
  exact⟨a,vs,e1,e _ _ h1,bD.mono e h2⟩
 | .lst xs,_,h=>by
  unfold dj at h ⊢
  obtain⟨a,vs,e1,h1,h2⟩:=h
  exact⟨a,vs,e1,e.seq h1,bD.mono e h2⟩
 | .dct _ ds,_,h=>by
  unfold dj at h ⊢
  obtain⟨a,vs,e1,h1,h2⟩:=h
  refine⟨a,vs,e1,bD.mono e h1,?_⟩
  rcases h2 with ⟨kvs,h2,h3⟩ | ⟨kvs,h2,h3⟩
  ·exact .inl ⟨kvs,e _ _ h2,h3⟩
  ·exact .inr ⟨kvs,e _ _ h2,h3⟩
 | .obj _ _ ds,_,h=>by
  unfold dj at h ⊢
  obtain⟨a,vs,e1,h1,h2,C,dx,h3,h4⟩:=h
  exact⟨a,vs,e1,bD.mono e h1,h2,C,dx,h3,e _ _ h4⟩
 | .exc _ _ ds,_,h=>by
  unfold dj at h ⊢
  obtain⟨a,vs,e1,h1,h2,C,dx,h3,h4,h5⟩:=h
  exact⟨a,vs,e1,bD.mono e h1,h2,C,dx,h3,e _ _ h4,h5.imp id fun ⟨d,q1,q2⟩=>⟨d,q1,e _ _ q2⟩⟩
theorem bD.mono {K:Rf} {H H':Hp} (e:bS H H'):∀ {ds:List D} {vs:List V},bD K H ds vs->bD K H' ds vs
 | [],_,h=>by unfold bD at h ⊢; exact h
 | x::xs,_,h=>by
  unfold bD at h ⊢
  obtain⟨v,r,e1,h1,h2⟩:=h
  exact⟨v,r,e1,dj.mono e h1,bD.mono e h2⟩
end
section
variable {K:Rf} {H:Hp}
theorem kX {v:V}:dj K H .non v↔v=.non:=by unfold dj; rfl
theorem j7 {b:Bool} {v:V}:dj K H (.bl b) v↔v=.bl b:=by unfold dj; rfl
theorem gE {i:Int} {v:V}:dj K H (.int i) v↔v=.int i:=by unfold dj; rfl
theorem gz {x:Str} {v:V}:dj K H (.str x) v↔v=.str x:=by unfold dj; rfl
theorem cS {xs:List D} {v:V}:dj K H (.tup xs) v↔∃ a vs,v=.ref a/\H a=some (.tup vs)/\bD K H xs vs:=by unfold dj; rfl
theorem cT {xs:List D} {v:V}:dj K H (.lst xs) v↔∃ a vs,v=.ref a/\nN K H a vs/\bD K H xs vs:=by unfold dj; rfl
theorem K9 {ks ds : List D} {v : V} : dj K H (.dct ks ds) v ↔ ∃ a vs, v = .ref a /\ bD K H ds vs /\ ((∃ kvs : List (Key × V), H a = some (.dK kvs) /\ ks = kvs.map (fun p => fH p.1) /\ vs = kvs.map (·.2)) \/
      ∃ kvs:List (List Key×V),H a=some (.dT kvs)/\ks=kvs.map (fun p=>.tup (p.1.map fH))/\vs=kvs.map (·.2)):=by unfold dj; rfl
theorem K8 {c:Str} {fs:List Str} {ds:List D} {v:V}:dj K H (.obj c fs ds) v↔∃ a vs,v=.ref a/\bD K H ds vs/\fs.length=vs.length/\∃ C dx,clsAt K c C/\H a=some (.ins C dx (fs.zip vs)):=by unfold dj; rfl
theorem Lq {c:Str} {fs:List Str} {ds:List D} {v:V}:dj K H (.exc c fs ds) v↔∃ a vs,v=.ref a/\bD K H ds vs/\fs.length=vs.length/\∃ C dx,clsAt K c C/\H a=some (.ext (Kp C a dx))/\(fs=[]\/∃ d,dx=some d/\H d=some (.xd (fs.zip vs))):=by unfold dj; rfl
theorem cU {vs:List V}:bD K H [] vs↔vs=[]:=by unfold bD; rfl
theorem bP {x:D} {xs:List D} {vs:List V}:bD K H (x::xs) vs↔∃ v r,vs=v::r/\dj K H x v/\bD K H xs r:=by conv=>lhs; unfold bD
theorem bD.length:∀ {ds:List D} {vs:List V},bD K H ds vs->ds.length=vs.length
 | [],_,h=>by rw [cU] at h; rw [h]; rfl
 | _::xs,_,h=>by
  rw [bP] at h
  obtain⟨v,r,e,_,h⟩:=h
  rw [e,OA,OA,bD.length h]
theorem bD.get:∀ {ds:List D} {vs:List V} {i:Nat} {d:D},bD K H ds vs->ds[i]?=some d->∃ v,vs[i]?=some v/\dj K H d v
 | [],_,_,_,_,e=>by simp at e
 | x::xs,_,0,d,h,e=>by
  rw [bP] at h
  obtain⟨v,r,rfl,h1,_⟩:=h
  simp at e
  subst e
  exact⟨v,rfl,h1⟩
 | x::xs,_,i+1,d,h,e=>by
  rw [bP] at h
  obtain⟨v,r,rfl,_,h2⟩:=h
  obtain⟨w,e1,e2⟩:=bD.get (i:=i) h2 (by simpa using e)
  exact⟨w,by simpa using e1,e2⟩
theorem bD.append:∀ {ds es:List D} {vs ws:List V},bD K H ds vs->bD K H es ws->bD K H (ds++es) (vs++ws)
 | [],_,_,_,h,h'=>by rw [cU] at h; subst h; exact h'
 | x::xs,_,_,_,h,h'=>by
  rw [bP] at h
  obtain⟨v,r,rfl,h1,h2⟩:=h
  rw [Pr,bP]
  exact⟨v,_,rfl,h1,bD.append h2 h'⟩
theorem bD.take:∀ {ds:List D} {vs:List V} (n:Nat),bD K H ds vs->bD K H (ds.take n) (vs.take n)
 | _,_,0,_=>by rw [Pt,Pt,cU]
 | [],_,_+1,h=>by rw [cU] at h; subst h; rw [Pw,Pw,cU]
 | x::xs,_,n+1,h=>by
  rw [bP] at h
  obtain⟨v,r,rfl,h1,h2⟩:=h
  rw [Px,Px,bP]
  exact⟨v,_,rfl,h1,bD.take n h2⟩
theorem bD.drop:∀ {ds:List D} {vs:List V} (n:Nat),bD K H ds vs->bD K H (ds.drop n) (vs.drop n)
 | _,_,0,h=>by rw [Py,Py]; exact h
 | [],_,_+1,h=>by rw [cU] at h; subst h; rw [Pz,Pz,cU]
 | x::xs,_,n+1,h=>by
  rw [bP] at h
  obtain⟨v,r,rfl,h1,h2⟩:=h
  rw [PB,PB]
  exact bD.drop n h2
theorem bD.snoc {ds:List D} {vs:List V} {d:D} {v:V} (h:bD K H ds vs) (h':dj K H d v):bD K H (ds++[d]) (vs++[v]) :=
 h.append (bP.mpr ⟨v,[],rfl,h',cU.mpr rfl⟩)
theorem bD.set {d:D} {v:V} (h':dj K H d v):∀ {ds:List D} {vs:List V} (n:Nat),bD K H ds vs->bD K H (ds.set n d) (vs.set n v)
 | [],_,_,h=>by rw [cU] at h; subst h; exact cU.mpr rfl
 | x::xs,_,0,h=>by
  rw [bP] at h
  obtain⟨w,r,rfl,h1,h2⟩:=h
  exact bP.mpr ⟨v,r,rfl,h',h2⟩
 | x::xs,_,n+1,h=>by
  rw [bP] at h
  obtain⟨w,r,rfl,h1,h2⟩:=h
  exact bP.mpr ⟨w,_,rfl,h1,bD.set h' n h2⟩
theorem bD.reverse:∀ {ds:List D} {vs:List V},bD K H ds vs->bD K H ds.reverse vs.reverse
 | [],_,h=>by rw [cU] at h; subst h; exact cU.mpr rfl
 | x::xs,_,h=>by
  rw [bP] at h
  obtain⟨v,r,rfl,h1,h2⟩:=h
  rw [O5,O5]
  exact(bD.reverse h2).snoc h1
theorem bD.one {d:D} {vs:List V} (h:bD K H [d] vs):∃ v,vs=[v]/\dj K H d v:=by
 rw [bP] at h
 obtain⟨v,r,rfl,h1,h2⟩:=h
 rw [cU] at h2
 subst h2
 exact⟨v,rfl,h1⟩
theorem bD.two {d e:D} {vs:List V} (h:bD K H [d,e] vs):∃ v w,vs=[v,w]/\dj K H d v/\dj K H e w:=by
 rw [bP] at h
 obtain⟨v,r,rfl,h1,h2⟩:=h
 obtain⟨w,rfl,h3⟩:=h2.one
 exact⟨v,w,rfl,h1,h3⟩
theorem uX:∀ ns:List Int,bD K H (ns.map D.int) (ns.map V.int)
 | []=>cU.mpr rfl
 | n::ns=>bP.mpr ⟨_,_,rfl,gE.mpr rfl,uX ns⟩
end

def hid (H:Hp) (O:List Su):Hp:=fun b=>if b∈O then none else H b
theorem aY (H:Hp) (O:List Su):bS (hid H O) H:=fun b o h=>by
 unfold hid at h
 split at h
 ·cases h
 ·exact h
theorem de {H H':Hp} {O:List Su} (e:bS H H'):bS (hid H O) (hid H' O):=fun b o h=>by
 unfold hid at h ⊢
 by_cases hb:b∈O
 ·rw [if_pos hb] at h; cases h
 ·rw [if_neg hb] at h ⊢; exact e b o h
theorem lQ {H:Hp} {O O':List Su} (s:∀ a∈O,a∈O'):bS (hid H O') (hid H O):=fun b o h=>by
 unfold hid at h ⊢
 by_cases hb:b∈O'
 ·rw [if_pos hb] at h; cases h
 ·rw [if_neg hb] at h
  rw [if_neg fun z=>hb (s b z)]; exact h
theorem G8 (H:Hp):hid H []=H:=by funext b; unfold hid; simp
theorem wq {H:Hp} {O:List Su} {p:Su} {o:HO} (h:H p=none):bS (hid H O) (hid (upd H p o) O):=fun b u q=>by
 unfold hid at q ⊢
 by_cases hb:b∈O
 ·rw [if_pos hb] at q; cases q
 ·rw [if_neg hb] at q ⊢
  rw [bF (bK q h)]; exact q
theorem cz {H:Hp} {p:Su} (h:H p=none) (o:HO):bS H (upd H p o):=fun b u q=>by rw [bF (bK q h)]; exact q
theorem p4 {H:Hp} {O:List Su} {p:Su} (h:p∉O):hid H O p=H p:=by unfold hid; rw [if_neg h]
theorem qK {H:Hp} {O:List Su} {p:Su} {o:HO} (h:p∈O):bS (hid H O) (hid (upd H p o) O):=fun b u q=>by
 unfold hid at q ⊢
 by_cases hb:b∈O
 ·rw [if_pos hb] at q; cases q
 ·rw [if_neg hb] at q ⊢
  rw [bF (fun z=>hb (by rw [z]; exact h))]; exact q

inductive S where
 | val (d:D) | own (d:D)
abbrev az:=List (Option S)
def xB:HO->Prop
 | .lst _=>True
 | .dK _=>True
 | .dT _=>True
 | _=>False
class bp where
 tab:Hp->Prop
 same:∀ {H H':Hp},tab H->bS H H'->tab H'
 own:∀ {H:Hp} {p:Su} {o o':HO},tab H->H p=some o->xB o->tab (upd H p o')
variable [bp]
def eP (H:Hp) (O:List Su):Prop:=bp.tab H/\∀ a∈O,∃ o,H a=some o/\xB o
theorem eP.not {H:Hp} {O:List Su} (h:eP H O) {p:Su} (n:H p=none):p∉O:=fun z=>by
 obtain⟨vs,e,_⟩:=h.2 p z
 rw [n] at e; cases e
theorem eP.same {H H':Hp} {O:List Su} (h:eP H O) (e:bS H H'):eP H' O:=⟨bp.same h.1 e,fun a ha=>let ⟨vs,q,m⟩:=h.2 a ha; ⟨vs,e _ _ q,m⟩⟩
theorem eP.upd {H:Hp} {O:List Su} {p:Su} {o:HO} (h:eP H O) (hp:p∈O) (m:xB o):eP (L2.upd H p o) O:=⟨let ⟨_,q,r⟩:=h.2 p hp; bp.own h.1 q r,fun a ha=>by
 by_cases z:a=p
 ·rw [z]; exact⟨o,cg,m⟩
 ·obtain⟨u,q,r⟩:=h.2 a ha
  exact⟨u,by rw [bF z]; exact q,r⟩⟩
theorem eP.cons {H:Hp} {O:List Su} {p:Su} {o:HO} (h:eP H O) (hp:H p=some o) (m:xB o):eP H (p::O):=⟨h.1,fun a ha=>by
 rcases List.mem_cons.mp ha with z | z
 ·rw [z]; exact⟨o,hp,m⟩
 ·exact h.2 a z⟩
def m8 (K:Rf) (H:Hp) (O:List Su) (a:Su) (d:D):Prop:=∃ o vs,H a=some o/\match d with
 | .lst xs=>o=.lst vs/\bD K (hid H O) xs vs
 | .dct ks ds=>bD K (hid H O) ds vs/\((∃ kvs:List (Key×V),o=.dK kvs/\ks=kvs.map (fun p=>fH p.1)/\vs=kvs.map (·.2)) \/
   ∃ kvs:List (List Key×V),o=.dT kvs/\ks=kvs.map (fun p=>.tup (p.1.map fH))/\vs=kvs.map (·.2))
 | _=>False
theorem m8.mono {K:Rf} {H H':Hp} {O O':List Su} {a:Su} {d:D} (h:m8 K H O a d) (e:H a=H' a) (s:bS (hid H O) (hid H' O')):m8 K H' O' a d:=by
 obtain⟨o,vs,h1,h2⟩:=h
 refine⟨o,vs,by rw [<- e]; exact h1,?_⟩
 cases d with
 | lst xs=>exact⟨h2.1,h2.2.mono s⟩
 | dct ks ds=>exact⟨h2.1.mono s,h2.2⟩
 | _=>exact h2
theorem m8.some {K:Rf} {H:Hp} {O:List Su} {a:Su} {d:D} (h:m8 K H O a d):∃ o,H a=some o:=let ⟨o,_,e,_⟩:=h; ⟨o,e⟩
theorem m8.den {K:Rf} {H:Hp} {O O':List Su} {a:Su} {d:D} (h:m8 K H O a d) (s:bS (hid H O) (hid H O')) (ha:a∉O'):dj K (hid H O') d (.ref a):=by
 obtain⟨o,vs,h1,h2⟩:=h
 have h1':hid H O' a=Option.some o:=by rw [p4 ha]; exact h1
 cases d with
 | lst xs =>
  obtain⟨e,g⟩:=h2
  subst e
  exact cT.mpr ⟨a,vs,rfl,nN.of h1',g.mono s⟩
 | dct ks ds =>
  obtain⟨g,q⟩:=h2
  refine K9.mpr ⟨a,vs,rfl,g.mono s,?_⟩
  rcases q with ⟨kvs,e,q⟩ | ⟨kvs,e,q⟩
  ·subst e; exact .inl ⟨kvs,h1',q⟩
  ·subst e; exact .inr ⟨kvs,h1',q⟩
 | _=>exact h2.elim
structure eV (K:Rf) (O:List Su) (H:Hp) (ρ:az) (σ:St):Prop where
 val:∀ (i:Nat) d,ρ[i]?=some (some (.val d))->∃ v,σ[i]?=some (some v)/\dj K (hid H O) d v
 own:∀ (i:Nat) d,ρ[i]?=some (some (.own d))->∃ a,σ[i]?=some (some (.ref a))/\a∈O/\m8 K H O a d
 one:∀ (i j:Nat) xs ys a,ρ[i]?=some (some (.own xs))->ρ[j]?=some (some (.own ys))->σ[i]?=some (some (.ref a))->σ[j]?=some (some (.ref a))->i=j
 all:eP H O
theorem Bv {H H':Hp} (e:bS H H') {a:Su} {o:HO} (h:H a=some o):H a=H' a:=by rw [h,e _ _ h]
theorem eV.same {K:Rf} {O:List Su} {H H':Hp} {ρ:az} {σ:St} (h:eV K O H ρ σ) (e:bS H H'):eV K O H' ρ σ :=
  ⟨fun i d q=>let ⟨v,a,b⟩:=h.val i d q; ⟨v,a,b.mono (de e)⟩,
   fun i xs q=>let ⟨a,q1,q2,q3⟩:=h.own i xs q; ⟨a,q1,q2,q3.mono (let ⟨_,z⟩:=q3.some; Bv e z) (de e)⟩,h.one,h.all.same e⟩

structure Ex where
 c:Str
 fs:List Str
 vs:List D
abbrev R (α:Type):=Except (Option Ex) α
abbrev un {α:Type}:R α:=.error none
def rO {α:Type}:Option α->R α
 | some a=>.ok a
 | none=>.error none
def KH (K:Rf) (Hd:Hp) (x:Ex) (C:Su) (dx:Option Su):Prop:=clsAt K x.c C/\∃ ws,bD K Hd x.vs ws/\x.fs.length=ws.length/\(x.fs=[]\/∃ d,dx=some d/\Hd d=some (.xd (x.fs.zip ws)))
theorem KH.mono {K:Rf} {H H':Hp} {x:Ex} {C:Su} {dx:Option Su} (h:KH K H x C dx) (e:bS H H'):KH K H' x C dx:=by
 obtain⟨h1,ws,h2,h3,h4⟩:=h
 exact⟨h1,ws,h2.mono e,h3,h4.imp id fun ⟨d,q1,q2⟩=>⟨d,q1,e _ _ q2⟩⟩
end TG
namespace TG
open PySem PySem.Spec L2
variable [bp]
open PyProof.Rows (AllBare)
theorem HW {P:Ss} {w:Sr} {H:Hp} {h:Sw} {a:Su} {o:HO} (x:dG P w H h a o):∃ u,h.get? a=some u:=by
 cases o with
 | lst xs=>obtain⟨_,_,_,_,e⟩:=x; exact⟨_,e⟩
 | tup xs=>obtain⟨_,_,_,o,e,_⟩:=x; exact⟨_,e⟩
 | dK kvs=>obtain⟨_,_,_,_,o,_,_,e,_⟩:=x; exact⟨_,e⟩
 | dT kvs=>obtain⟨_,_,_,_,o,_,_,e,_⟩:=x; exact⟨_,e⟩
 | set S n=>obtain⟨o,_,_,_,e,_⟩:=x; exact⟨_,e⟩
 | ins C dx fs=>obtain⟨_,_,_,e,_⟩:=x; exact⟨_,e⟩
 | own y=>exact x
 | xd fs=>obtain⟨_,⟨_,_,_,e,_⟩,_⟩:=x; exact⟨_,e⟩
 | rng lo hi=>obtain⟨_,_,_,e⟩:=x; exact⟨_,e⟩
 | frz ob u=>obtain⟨e,_⟩:=x; exact⟨_,e⟩
 | tbl ps=>exact⟨_,(show h.get? a=some _ from x)⟩
 | met f y=>exact⟨_,(show h.get? a=some _ from x)⟩
 | ext φ=>obtain⟨_,e,_⟩:=x; exact e
def tM (X:Cx) (H:Hp) (b:Su):Prop:=((∃ o,X.s₀.heap.get? b=some o)/\b∉X.ex)\/H b≠none\/(∃ o,(b,o)∈X.pn)\/∃ x,X.env.cells.lookup x=some b
def N5 (B:Sw) (e:Su) (cls a0:Sq) (h:Sw):Prop:=h.TracedW B e cls a0\/∃ oe vs,h.get? e=some oe/\oe.cls=cls/\oe.data=.fields vs/\vs[1]?=some .none/\vs[0]?=some a0
def Ko (X:Cx) (H:Hp) (s:SF) (e C:Su):Prop:=∃ B a0,B.StaysIn s.heap/\B.get? e=none/\s.heap.FunFrames B X.stack/\N5 B e (.ref C) a0 s.heap/\∀ b o,s.heap.get? b=some o->tM X H b->b∉frs X.stack->B.get? b=some o
def N4 (X:Cx) (H:Hp) (O:List Su) (s:SF) (u:Sq) (x:Ex):Prop:=∃ e C dx,u=.ref e/\KH X.K (hid H O) x C dx/\Ko X H s e C
def nh (P:Ss) (w:Sr):Az:=fun outer H s E u s'=>∃ e C dx H' B a0,u=.ref e/\s'.os=s.os/\AllBare s'.gens/\Un (frs outer) [] H H' s.heap s'.heap/\pS P w H' s'.heap/\Heap.FlyingW B outer e (.ref C) a0 s'.heap /\
 (∀ b o,s'.heap.get? b=some o->((∃ o',s.heap.get? b=some o')\/H' b≠none)->b∉frs outer->B.get? b=some o)/\E (.ref C) dx H'
def L8 (K:Rf) (H:Hp) (O:List Su) (x:Ex) (E:XK):Prop:=∀ C dx H',bS H H'->KH K (hid H' O) x C dx->E (.ref C) dx H'
def Js (X:Cx) (σ:St) (O:List Su) (H:Hp) (x:Ex):Prop:=∀ pins s u H',Inv X pins σ H' s->bS H H'->N4 X H' O s u x->X.xe u s
theorem Js.mono {X:Cx} {σ:St} {O:List Su} {H H':Hp} {x:Ex} (h:Js X σ O H x) (s:bS H H'):Js X σ O H' x:=fun pins st u H2 I s2 f=>h pins st u H2 I (s.trans s2) f
def Bq (X:Cx) (O:List Su) (H:Hp) (x:Ex):XK:=fun u dx H'=>∃ C,u=.ref C/\bS H H'/\KH X.K (hid H' O) x C dx
def lD (CX:Az) (X:Cx) (σ:St) (E:XK):Prop:=∀ (pins:List (Su×Obj)) (H:Hp) (s:SF) (e:Sq) (s':SF),Inv X pins σ H s->CX X.stack H s E e s'->X.xe e s'
theorem Bx {X:Cx} {σ:St} {O:List Su} {H:Hp} {x:Ex} (h:Js X σ O H x):lD (nh X.prog X.w) X σ (Bq X O H x):=by
 rintro pins H1 s u s' I ⟨e,C,dx,H',B,a0,rfl,os,bare,un,hok,⟨f1,f2,f3,f4⟩,kp,C',eC,sm,hd⟩
 cases eC
 have I':Inv X pins σ H' s':=I.call' os un hok bare (ch:=[]) fun b z=>absurd z (by simp)
 refine h pins s' _ H' I' sm ⟨e,C,dx,rfl,hd,B,a0,f1,f2,f3,.inl f4,fun b o eb hb nf=>kp b o eb ?_ nf⟩
 rcases hb with ⟨⟨o',hb⟩,nx⟩ | hb | ⟨o',hb⟩ | ⟨y,hb⟩
 ·exact .inl (I.base.there b o' hb nx)
 ·exact .inr hb
 ·exact .inl ⟨_,(I.pin _ (Om _ hb)).1⟩
 ·obtain⟨v,o,q,_⟩:=I.cell y b hb
  exact .inl ⟨o,q⟩
theorem BD {X:Cx} {σ:St}:lD (nh X.prog X.w) X σ E0:=fun _ _ _ _ _ _ ⟨_,_,_,_,_,_,_,_,_,_,_,_,_,z⟩=>z.elim
theorem zj {X:Cx} {O:List Su} {H:Hp} {x:Ex}:L8 X.K H O x (Bq X O H x):=fun C dx H' s e=>⟨C,rfl,s,e⟩
section
variable {X:Cx} {pins:List (Su×Obj)} {σ:St} {H:Hp} {s:SF} {h':Sw}
theorem Gg (I:Inv X pins σ H s) (k:∀ b o,s.heap.get? b=some o->tM X H b->b∉frs X.stack->h'.get? b=some o):pS X.prog X.w H h':=fun a ob ea =>
 (I.hok a ob ea).stay (fun b u hb q=>by
  have hn:H b≠none:=by
   rcases hb with e | e
   ·rw [e,ea]; intro z; cases z
   ·rw [e]; intro z; cases z
  exact k b u q (.inr (.inl hn)) fun hf=>hn (I.stkFree b hf)) (fun _ q=>q) fun _ _ q=>q
theorem vf (I:Inv X pins σ H s) (us:s.heap.UpToSlots h') {b:Su} {o:Obj} (hb:b∈frs X.stack) (e:s.heap.get? b=some o):∃ sl,h'.get? b=some { o with slots:=sl }:=by
 obtain⟨_,o',e',nf⟩:=I.stack.mem hb
 rw [e] at e'; cases e'
 exact us b o e nf
theorem Ib (I:Inv X pins σ H s) (hx:X.ex=[]) (hst:X.stack=X.env::X.outer) (hf:X.env.frame=some X.env.locals) (us:s.heap.UpToSlots h') (k:∀ b o,s.heap.get? b=some o->tM X H b->b∉frs X.stack->h'.get? b=some o) :
  Un (frs X.outer) [] X.H₀ H X.s₀.heap h':=by
 have U:=I.base
 rw [hx] at U
 have fr:frs X.stack=X.env.locals::frs X.outer:=by rw [hst]; show List.filterMap _ (_::_)=_; rw [Oi,hf]; rfl
 have nl:∀ b o,X.s₀.heap.get? b=some o->b≠X.env.locals:=fun b o q z=>by
  have h1:=RK q
  have h2:=I.ok.above
  rw [z] at h1; exact Oe _ (Od h1 h2)
 have nfr:∀ b o,X.s₀.heap.get? b=some o->b∉frs X.outer->b∉frs X.stack:=fun b o q nb z=>by
  rw [fr] at z
  rcases List.mem_cons.mp z with z | z
  ·exact nl b o q z
  ·exact nb z
 refine⟨fun b o q n nb _=>k b o (U.keep b o q n nb (by simp)) (.inl ⟨⟨o,q⟩,by rw [hx]; simp⟩) (nfr b o q nb),fun b o q n hb _=>?_,fun b o q n _=>U.free b o q n (by simp),fun b o q _=>?_,U.tups,U.frzs,U.tbls⟩
 ·obtain⟨sl,e⟩:=U.slot b o q n hb (by simp)
  obtain⟨sl',e'⟩:=vf I us (by rw [fr]; exact Ol _ hb) e
  exact⟨sl',e'⟩
 ·obtain⟨o1,e1⟩:=U.there b o q (by simp)
  by_cases hb:b∈frs X.stack
  ·obtain⟨sl,e⟩:=vf I us hb e1
   exact⟨_,e⟩
  ·exact⟨o1,k b o1 e1 (.inl ⟨⟨o,q⟩,by rw [hx]; simp⟩) hb⟩
end
theorem EA {P:Ss} {w:Sr} {K:Rf} {mg:Str->Option Sq} {base:Sw} {N:List Str} {qual:Str} {scope:SG} {f:Su} {cd:Sq} {A:SE} {outer:List Env} {s:SF} {H:Hp} {E:XK} {σ:St} {O O':List Su} {H':Hp} {x:Ex}
  (hx:L8 K H O x E) (sm:bS H H') (hs:∀ a∈O,a∈O'):Js (jL (nh P w) P w K mg base N qual scope f cd A outer s H E) σ O' H' x:=by
 rintro pins s1 u H1 I s2 ⟨e,C,dx,rfl,hd,B,a0,b1,b2,b3,b4,b5⟩
 have fin:∀ h',Heap.FlyingW B outer e (.ref C) a0 h'->s1.heap.UpToSlots h'->nh P w outer H s E (.ref e) { s1 with heap:=h' }:=fun h' fl us=>by
  have k:∀ b o,s1.heap.get? b=some o->tM (jL (nh P w) P w K mg base N qual scope f cd A outer s H E) H1 b->b∉frs (jL (nh P w) P w K mg base N qual scope f cd A outer s H E).stack->h'.get? b=some o:=fun b o q kb nf=>fl.1 b o (b5 b o q kb nf)
  have un:=Ib I rfl rfl rfl us k
  have hok:=Gg I k
  refine⟨e,C,dx,H1,B,a0,rfl,I.os,I.bare,un,hok,fl,fun b o q hb nf=>?_,hx C dx H1 (sm.trans s2) (hd.mono (lQ hs))⟩
  have nf2:b∉frs (jL (nh P w) P w K mg base N qual scope f cd A outer s H E).stack:=fun z=>by
   rcases List.mem_cons.mp (show b∈s.heap.objs.size::frs outer from z) with z | z
   ·rcases hb with hb | hb
    ·obtain⟨o',hb⟩:=hb
     have:=RK hb
     rw [z] at this; exact Oe _ this
    ·rw [z] at hb; exact hb I.free
   ·exact nf z
  have kb:tM (jL (nh P w) P w K mg base N qual scope f cd A outer s H E) H1 b:=hb.elim (fun z=>.inl ⟨z,fun y=>nomatch y⟩) fun z=>.inr (.inl z)
  obtain⟨o1,e1⟩:∃ o1,s1.heap.get? b=some o1:=by
   rcases hb with ⟨o',hb⟩ | hb
   ·exact I.base.there b o' hb (fun z=>nomatch z)
   ·cases q0:H1 b with
    | none=>exact absurd q0 hb
    | some ob=>exact HW (I.hok b ob q0)
  have:=k b o1 e1 kb nf2
  rw [q] at this; cases this
  exact b5 b _ e1 kb nf2
 show SH _ _ (leaving (RZ qual scope s.heap.objs.size f cd) (.ref e)) _ _ s1
 rcases b4 with b4 | ⟨oe,vs,c1,c2,c3,c4,c5⟩
 ·exact wpAny_leaves_onW I.ok.frames rfl ⟨b1,b2,b3,b4⟩ fin
 ·refine wpAny_leaving_firstW I.ok.frames b3 rfl c1 b1 b2 c3 c4 c5 fun h' hL=>?_
  obtain⟨k1,⟨_,_,k2⟩,k3,k4⟩:=hL
  exact fin h' ⟨k1,b2,k2,c2 ▸ k3⟩ k4
end TG
namespace TG
open PySem PySem.Spec L2
variable [bp]

def i3 (X:Cx) (σ:St) (O:List Su) (H:Hp) {α:Type} (r:R α) (Q:α->Prop):Prop:=match r with
 | .ok a=>Q a
 | .error (some x)=>Js X σ O H x
 | .error none=>False
section
variable {X:Cx} {σ:St} {O:List Su} {H H':Hp} {α β:Type}
theorem i3.bind {r:R α} {G:α->R β} {Q:β->Prop} (h:i3 X σ O H (r.bind G) Q):i3 X σ O H r fun a=>i3 X σ O H (G a) Q:=by
 match r,h with
 | .ok a,h=>exact h
 | .error (some x),h=>exact h
 | .error none,h=>exact h
theorem i3.imp {r:R α} {Q Q':α->Prop} (h:i3 X σ O H r Q) (f:∀ a,Q a->Q' a):i3 X σ O H r Q':=by
 match r,h with
 | .ok a,h=>exact f a h
 | .error (some x),h=>exact h
 | .error none,h=>exact h
theorem i3.mono {r:R α} {Q:α->Prop} (h:i3 X σ O H r Q) (s:bS H H'):i3 X σ O H' r Q:=by
 match r,h with
 | .ok a,h=>exact h
 | .error (some x),h=>exact Js.mono h s
 | .error none,h=>exact h
theorem i3.rO {o:Option α} {Q:α->Prop} (h:i3 X σ O H (rO o) Q):∃ a,o=some a/\Q a:=by
 match o,h with
 | some a,h=>exact⟨a,rfl,h⟩
 | none,h=>exact h.elim
end
abbrev FX:=az->R D
def tF (X:Cx) (F:FX):TE:=fun σ H Q=>∃ O ρ,eV X.K O H ρ σ/\i3 X σ O H (F ρ) fun d=>∀ v H',bS H H'->dj X.K (hid H' O) d v->Q v H'
def LU (X:Cx) (F:az->R Bool):TT:=fun σ H Q=>∃ O ρ,eV X.K O H ρ σ/\i3 X σ O H (F ρ) fun b=>∀ H',bS H H'->Q b H'
def MR (X:Cx) (F:az->R (List D)):TA:=fun σ H Q=>∃ O ρ,eV X.K O H ρ σ/\i3 X σ O H (F ρ) fun ds=>∀ vs H',bS H H'->bD X.K (hid H' O) ds vs->Q vs H'
def FE (X:Cx) (e:SJ) (F:FX):Prop:=PE X e (tF X F)
def FT (X:Cx) (e:SJ) (F:az->R Bool):Prop:=PT X e (LU X F)
def FW (X:Cx) (e:SJ) (F:az->R Bool):Prop:=PW X e (LU X F)
def FA (X:Cx) (es:List SJ) (F:az->R (List D)):Prop:=PA X es (MR X F)

theorem PE.weak {X:Cx} {e:SJ} {t t':TE} (h:PE X e t) (w:∀ σ H Q,t' σ H Q->t σ H Q):PE X e t':=fun pins s σ H Q I q=>h pins s σ H Q I (w σ H Q q)
theorem PT.weak {X:Cx} {e:SJ} {t t':TT} (h:PT X e t) (w:∀ σ H Q,t' σ H Q->t σ H Q):PT X e t':=fun pins s σ H Q I q=>h pins s σ H Q I (w σ H Q q)
theorem PW.weak {X:Cx} {e:SJ} {t t':TT} (h:PW X e t) (w:∀ σ H Q,t' σ H Q->t σ H Q):PW X e t':=fun whole pins s σ H Q I q=>h whole pins s σ H Q I (w σ H Q q)
theorem PA.weak {X:Cx} {es:List SJ} {t t':TA} (h:PA X es t) (w:∀ σ H Q,t' σ H Q->t σ H Q):PA X es t':=fun pos pins s σ H Q I q=>h pos pins s σ H Q I (w σ H Q q)
theorem PS.weak {X:Cx} {st:SL} {t t':TS} (h:PS X st t) (w:∀ D σ H,t' D σ H->t D σ H):PS X st t':=fun pins s σ H Q I q=>h pins s σ H Q I (w Q σ H q)
theorem xx.weak {X:Cx} {st:List SL} {t t':TS} (h:xx X st t) (w:∀ D σ H,t' D σ H->t D σ H):xx X st t':=fun pins s σ H Q I q=>h pins s σ H Q I (w Q σ H q)

def sf (ρ:az) (i:Nat):R D:=match ρ[i]? with
 | some (some (.val d))=>.ok d
 | _=>un
theorem FR {ρ:az} {i:Nat} {d:D} (h:sf ρ i=.ok d):ρ[i]?=some (some (.val d)):=by
 unfold sf at h
 split at h
 ·rename_i e; cases h; exact e
 ·cases h
def af (i:Nat):FX:=fun ρ=>sf ρ i
def fC (d:D):FX:=fun _=>.ok d
section
variable {X:Cx}
theorem uZ {σ:St} {O:List Su} {H:Hp} {ρ:az} {i:Nat} {Q:D->Prop} (h:i3 X σ O H (sf ρ i) Q):∃ d,ρ[i]?=some (some (.val d))/\Q d:=by
 cases e:sf ρ i with
 | ok d=>rw [e] at h; exact⟨d,FR e,h⟩
 | error z =>
  rw [e] at h
  cases z with
  | none=>exact h.elim
  | some x =>
   exfalso
   unfold sf at e
   split at e
   ·cases e
   ·have:=Except.error.inj e; cases this
theorem Mb {i:Nat} {x:Str} {pos:Pos} (h:PE X (.Name x pos) (qy i)):FE X (.Name x pos) (af i) :=
 PE.weak h fun σ H Q ⟨O,ρ,E,hF⟩=>by
  obtain⟨d,e,q⟩:=uZ hF
  obtain⟨v,e,dv⟩:=E.val i d e
  exact⟨v,e,q v H (bS.refl H) dv⟩
theorem ph {e:SJ} {d:D} {v:V} (h:PE X e (tC v)) (hd:∀ K H,dj K H d v):FE X e (fC d) :=
 PE.weak h fun σ H Q ⟨O,ρ,E,q⟩=>q v H (bS.refl H) (hd _ _)
theorem Nu {i j pos}:FE X (.Constant (.int i) j pos) (fC (.int i)):=ph zZ fun _ _=>gE.mpr rfl
theorem NT {b j pos}:FE X (.Constant (.bool b) j pos) (fC (.bl b)):=ph KL fun _ _=>j7.mpr rfl
theorem Nj {j pos}:FE X (.Constant .none j pos) (fC .non):=ph Iu fun _ _=>kX.mpr rfl
theorem Nk {x j pos}:FE X (.Constant (.str x) j pos) (fC (.str x)):=ph IU fun _ _=>gz.mpr rfl

def noStar:SJ->Bool
 | .Starred _ _=>false
 | _=>true
theorem dY {e:SJ} {es:List SJ} {env:Env} (h:noStar e=true):SK (e::es) env=(false,eval e env)::SK es env:=by
 cases e <;> first | rfl | cases h
theorem fN {pos:Pos} {env:Env}:∀ {es:List SJ},es.all noStar=true->(backTo pos (SK es env)).any (·.1)=false
 | [],_=>rfl
 | e::es,h=>by
  rw [PD,O1] at h
  rw [dY h.1]
  exact fN h.2
def ax:az->R (List D):=fun _=>.ok []
def ah (f:FX) (g:az->R (List D)):az->R (List D):=fun ρ=>(f ρ).bind fun x=>(g ρ).bind fun xs=>.ok (x::xs)
theorem Nt:FA X [] ax:=PA.weak xA fun σ H Q ⟨O,ρ,E,q⟩=>q [] H (bS.refl H) (cU.mpr rfl)
theorem bind_some {α β:Type} {o:Option α} {f:α->Option β} {b:β} (h:o.bind f=some b):∃ a,o=some a/\f a=some b:=by
 cases o with
 | none=>cases h
 | some a=>exact⟨a,rfl,h⟩
theorem rF {ε α β:Type} {o:Except ε α} {f:α->Except ε β} {b:β} (h:o.bind f=.ok b):∃ a,o=.ok a/\f a=.ok b:=by
 cases o with
 | error _=>cases h
 | ok a=>exact⟨a,rfl,h⟩
theorem Lr {e:SJ} {es:List SJ} {f:FX} {g:az->R (List D)} (he:FE X e f) (hs:FA X es g) (hns:noStar e=true:=by rfl):FA X (e::es) (ah f g) :=
 PA.weak (mR he hs (dY hns)) fun σ H Q ⟨O,ρ,E,h⟩ =>
  ⟨O,ρ,E,(i3.bind h).imp fun x h v H1 s1 d1=>⟨O,ρ,E.same s1,((i3.bind h).mono s1).imp fun xs q vs H2 s2 d2=>q (v::vs) H2 (s1.trans s2) (bP.mpr ⟨v,vs,rfl,d1.mono (de s2),d2⟩)⟩⟩
def small (n:Nat):Bool:=decide (n<=100000)
theorem fe {n:Nat} (h:small n=true):n<=Sx:=Og (of_decide_eq_true h) (by decide)
theorem eA {n:Nat} (h:n<=100000):small n=true:=decide_eq_true h
def sZ (xs:List D):Option D:=if small xs.length then some (.tup xs) else none
def sP (xs:List D):Option D:=if small xs.length then some (.lst xs) else none
def cY (g:az->R (List D)):FX:=fun ρ=>(g ρ).bind fun xs=>rO (sZ xs)
def mX (g:az->R (List D)):FX:=fun ρ=>(g ρ).bind fun xs=>rO (sP xs)
theorem bZ {α:Type} {c:Bool} {a b:α} (h:(if c then some a else none)=some b):c=true/\a=b:=by
 cases c with
 | true=>exact⟨rfl,Option.some.inj h⟩
 | false=>cases h
theorem e6 {K:Rf} {H:Hp} {O:List Su} {p:Su} {ds:List D} {vs:List V} (hO:eP H O) (hp:H p=none) (d:bD K (hid H O) ds vs):dj K (hid (upd H p (.tup vs)) O) (.tup ds) (.ref p) :=
 cS.mpr ⟨p,vs,rfl,by rw [p4 (hO.not hp),cg],d.mono (wq hp)⟩
theorem eF {K:Rf} {H:Hp} {O:List Su} {p:Su} {ds:List D} {vs:List V} (hO:eP H O) (hp:H p=none) (d:bD K (hid H O) ds vs):dj K (hid (upd H p (.lst vs)) O) (.lst ds) (.ref p) :=
 cT.mpr ⟨p,vs,rfl,nN.of (by rw [p4 (hO.not hp),cg]),d.mono (wq hp)⟩
theorem Nn {es:List SJ} {g:az->R (List D)} {k pos} (h:FA X es g):FE X (.Tuple es k pos) (cY g) :=
 PE.weak (II h) fun σ H Q ⟨O,ρ,E,hF⟩=>⟨O,ρ,E,(i3.bind hF).imp fun xs hF vs H1 s1 d1=>by
  obtain⟨d,e,q⟩:=i3.rO hF
  obtain⟨hz,e⟩:=bZ e
  subst e
  refine⟨by rw [<- d1.length]; exact fe hz,fun p hp=>?_⟩
  exact q _ _ (s1.trans (cz hp _)) (e6 (E.all.same s1) hp d1)⟩
theorem Ml {es:List SJ} {g:az->R (List D)} {pos} (h:FA X es g):FE X (.List es pos) (mX g) :=
 PE.weak (Dk h) fun σ H Q ⟨O,ρ,E,hF⟩=>⟨O,ρ,E,(i3.bind hF).imp fun xs hF vs H1 s1 d1=>by
  obtain⟨d,e,q⟩:=i3.rO hF
  obtain⟨hz,e⟩:=bZ e
  subst e
  refine⟨by rw [<- d1.length]; exact fe hz,fun p hp=>?_⟩
  exact q _ _ (s1.trans (cz hp _)) (eF (E.all.same s1) hp d1)⟩

def G6 (K:Rf) (r:V->Hp->VK->Prop) (g:D->Option D):Prop :=
 ∀ (a d:D) (x:V) (O:List Su) (H:Hp) (Q:VK),eP H O->g a=some d->dj K (hid H O) a x->(∀ v H',bS H H'->dj K (hid H' O) d v->Q v H')->r x H Q
def f1 (g:D->Option D) (f:FX):FX:=fun ρ=>(f ρ).bind fun a=>rO (g a)
def dH (K:Rf) (r:R2) (g:D->D->Option D):Prop :=
 ∀ (a b d:D) (x y:V) (O:List Su) (H:Hp) (Q:VK),eP H O->g a b=some d->dj K (hid H O) a x->dj K (hid H O) b y->(∀ v H',bS H H'->dj K (hid H' O) d v->Q v H')->r x y H Q
def f2 (g:D->D->Option D) (f1 f2:FX):FX:=fun ρ=>(f1 ρ).bind fun a=>(f2 ρ).bind fun b=>rO (g a b)
theorem v8 {r:R2} {g:D->D->Option D} {fa fb:FX} (s:dH X.K r g):∀ σ H Q,tF X (f2 g fa fb) σ H Q->KG r (tF X fa) (tF X fb) σ H Q:=fun σ H Q ⟨O,ρ,E,hF⟩ =>
 ⟨O,ρ,E,(i3.bind hF).imp fun a hF x H1 s1 d1=>⟨O,ρ,E.same s1,((i3.bind hF).mono s1).imp fun b hF y H2 s2 d2=>by
  obtain⟨d,e,q⟩:=i3.rO hF
  exact s a b d x y O H2 Q (E.all.same (s1.trans s2)) e (d1.mono (de s2)) d2 fun v H3 s3 d3=>q v H3 ((s1.trans s2).trans s3) d3⟩⟩
theorem MN {a b:SJ} {op:Operator} {r:R2} {g:D->D->Option D} {fa fb:FX} {pos:Pos} (ho:j3 X (S9 op) r) (s:dH X.K r g) (ha:FE X a fa) (hb:FE X b fb):FE X (.BinOp a op b pos) (f2 g fa fb) :=
 PE.weak (Ke ho ha hb) (v8 s)
theorem My {a b:SJ} {op:SR} {r:R2} {g:D->D->Option D} {fa fb:FX} {pos:Pos} (ho:j3 X (SU op) r) (s:dH X.K r g) (ha:FE X a fa) (hb:FE X b fb) (hm:SV op b=false):FE X (.Compare a [op] [b] pos) (f2 g fa fb) :=
 PE.weak (Gb ho ha hb hm) (v8 s)
def M1:D->Option Bool
 | .bl b=>some b
 | _=>none
def fB (f:FX):az->R Bool:=fun ρ=>(f ρ).bind fun d=>rO (M1 d)
theorem yZ {t:TE} {f:FX} (h:∀ σ H Q,tF X f σ H Q->t σ H Q):∀ σ H Q,LU X (fB f) σ H Q->HG t σ H Q:=fun σ H Q ⟨O,ρ,E,hF⟩ =>
 h σ H _ ⟨O,ρ,E,(i3.bind hF).imp fun d hF v H1 s1 d1=>by
  obtain⟨b,e,q⟩:=i3.rO hF
  cases d with
  | bl b' =>
   cases e
   exact⟨b,j7.mp d1,q H1 s1⟩
  | _=>cases e⟩
theorem Md {a b:SJ} {op:SR} {r:R2} {g:D->D->Option D} {fa fb:FX} {pos:Pos} (ho:j3 X (SU op) r) (s:dH X.K r g) (ha:FE X a fa) (hb:FE X b fb) (hm:SV op b=false):FT X (.Compare a [op] [b] pos) (fB (f2 g fa fb)) :=
 PT.weak (Ga ho ha hb hm) (yZ (v8 s))

def Bl (K:Rf) (r:List V->Hp->VK->Prop) (g:List D->Option D):Prop :=
 ∀ (ds:List D) (d:D) (xs:List V) (O:List Su) (H:Hp) (Q:VK),eP H O->g ds=some d->bD K (hid H O) ds xs->(∀ v H',bS H H'->dj K (hid H' O) d v->Q v H')->r xs H Q
def fL (g:List D->Option D) (f:az->R (List D)):FX:=fun ρ=>(f ρ).bind fun ds=>rO (g ds)
def fR (g:List D->R D) (f:az->R (List D)):FX:=fun ρ=>(f ρ).bind g
theorem EV {r:List V->Hp->VK->Prop} {g:List D->Option D} {f:az->R (List D)} (s:Bl X.K r g):∀ σ H Q,tF X (fL g f) σ H Q->L6 r (MR X f) σ H Q:=fun σ H Q ⟨O,ρ,E,hF⟩ =>
 ⟨O,ρ,E,(i3.bind hF).imp fun ds hF vs H1 s1 d1=>by
  obtain⟨d,e,q⟩:=i3.rO hF
  exact s ds d vs O H1 Q (E.all.same s1) e d1 fun v H2 s2 d2=>q v H2 (s1.trans s2) d2⟩

def jT (f:az->R Bool):az->R Bool:=fun ρ=>(f ρ).bind fun b=>.ok (!b)
def gG (f g:az->R Bool):az->R Bool:=fun ρ=>(f ρ).bind fun b=>if b then g ρ else .ok false
def yc (f g:az->R Bool):az->R Bool:=fun ρ=>(f ρ).bind fun b=>if b then .ok true else g ρ
variable {a b c:SJ} {rest:List SJ} {pos:Pos} {f g:az->R Bool}
theorem Mo (h:FT X a f):FT X (.UnaryOp .Not a pos) (jT f):=PT.weak (Iy h) fun σ H Q ⟨O,ρ,E,hF⟩=>⟨O,ρ,E,(i3.bind hF).imp fun b q H1 s1=>q H1 s1⟩
theorem L0 (h:FT X a f):FW X (.BoolOp .And [a] pos) f:=Fp h
theorem Nq (h:FT X a f):FW X (.BoolOp .Or [a] pos) f:=Ir h
theorem ND (ha:FT X a f) (hb:FW X (.BoolOp .And (b::rest) pos) g):FW X (.BoolOp .And (a::b::rest) pos) (gG f g):=PW.weak (Jd ha hb) fun σ H Q ⟨O,ρ,E,hF⟩=>⟨O,ρ,E,(i3.bind hF).imp fun c hF H1 s1=>by
 cases c with
 | true=>exact ww ⟨O,ρ,E.same s1,(hF.mono s1).imp fun b q H2 s2=>q H2 (s1.trans s2)⟩
 | false=>exact xL (hF H1 s1)⟩
theorem NX (ha:FT X a f) (hb:FW X (.BoolOp .Or (b::rest) pos) g):FW X (.BoolOp .Or (a::b::rest) pos) (yc f g):=PW.weak (KJ ha hb) fun σ H Q ⟨O,ρ,E,hF⟩=>⟨O,ρ,E,(i3.bind hF).imp fun c hF H1 s1=>by
 cases c with
 | false=>exact xL ⟨O,ρ,E.same s1,(hF.mono s1).imp fun b q H2 s2=>q H2 (s1.trans s2)⟩
 | true=>exact ww (hF H1 s1)⟩
theorem FW.ft {e:SJ} (h:FW X e f):FT X e f:=PW.pt h
def truth:D->Option Bool
 | .non=>some false
 | .bl b=>some b
 | .int i=>some (i != 0)
 | .str x=>if small x.length then some (x.length != 0) else none
 | .tup xs=>some (!xs.isEmpty)
 | .lst xs=>some (!xs.isEmpty)
 | _=>none
def cu (f:FX):az->R Bool:=fun ρ=>(f ρ).bind fun d=>rO (truth d)

def Al (d:D) (k:R D):R D:=match d with
 | .bl true=>k
 | .bl false=>.ok (.bl false)
 | _=>un
def JU (d:D) (k:R D):R D:=match d with
 | .bl false=>k
 | .bl true=>.ok (.bl true)
 | _=>un
def zE:D->Option D
 | .bl b=>some (.bl (!b))
 | _=>none
def jU (f g:FX):FX:=fun ρ=>(f ρ).bind fun d=>Al d (g ρ)
def Ca (f g:FX):FX:=fun ρ=>(f ρ).bind fun d=>JU d (g ρ)
def uV (f:FX):FX:=f1 zE f
variable {fa fb:FX}
theorem Nv {op} (h:FE X a fa):FE X (.BoolOp op [a] pos) fa:=HX h
theorem Ni (ha:FE X a fa) (hb:FE X (.BoolOp .And (b::rest) pos) fb):FE X (.BoolOp .And (a::b::rest) pos) (jU fa fb):=PE.weak (IJ ha hb) fun σ H Q ⟨O,ρ,E,hF⟩=>⟨O,ρ,E,(i3.bind hF).imp fun d hF x H1 s1 d1=>by
 cases d with
 | bl c =>
  refine⟨c,j7.mp d1,?_⟩
  cases c with
  | true=>exact ww ⟨O,ρ,E.same s1,(hF.mono s1).imp fun d q v H2 s2 d2=>q v H2 (s1.trans s2) d2⟩
  | false=>exact xL (hF _ H1 s1 (j7.mpr rfl))
 | _=>exact hF.elim⟩
theorem NR (ha:FE X a fa) (hb:FE X (.BoolOp .Or (b::rest) pos) fb):FE X (.BoolOp .Or (a::b::rest) pos) (Ca fa fb):=PE.weak (KC ha hb) fun σ H Q ⟨O,ρ,E,hF⟩=>⟨O,ρ,E,(i3.bind hF).imp fun d hF x H1 s1 d1=>by
 cases d with
 | bl c =>
  refine⟨c,j7.mp d1,?_⟩
  cases c with
  | false=>exact xL ⟨O,ρ,E.same s1,(hF.mono s1).imp fun d q v H2 s2 d2=>q v H2 (s1.trans s2) d2⟩
  | true=>exact ww (hF _ H1 s1 (j7.mpr rfl))
 | _=>exact hF.elim⟩
theorem NI (ha:FE X a fa):FE X (.UnaryOp .Not a pos) (uV fa):=PE.weak (Iz ha) fun σ H Q ⟨O,ρ,E,hF⟩=>⟨O,ρ,E,(i3.bind hF).imp fun d hF x H1 s1 d1=>by
 obtain⟨d',e,q⟩:=i3.rO hF
 cases d with
 | bl c =>
  cases e
  exact⟨c,j7.mp d1,q _ H1 s1 (j7.mpr rfl)⟩
 | _=>cases e⟩
def Jp (t:az->R Bool) (f g:FX):FX:=fun ρ=>(t ρ).bind fun c=>if c then f ρ else g ρ
theorem NK (hc:FT X c f) (ha:FE X a fa) (hb:FE X b fb):FE X (.IfExp c a b pos) (Jp f fa fb):=PE.weak (ER hc ha hb) fun σ H Q ⟨O,ρ,E,hF⟩=>⟨O,ρ,E,(i3.bind hF).imp fun d hF H1 s1=>by
 cases d with
 | true=>exact ww ⟨O,ρ,E.same s1,(hF.mono s1).imp fun d q v H2 s2 d2=>q v H2 (s1.trans s2) d2⟩
 | false=>exact xL ⟨O,ρ,E.same s1,(hF.mono s1).imp fun d q v H2 s2 d2=>q v H2 (s1.trans s2) d2⟩⟩
end
end TG
namespace TG
open PySem PySem.Spec L2
variable [bp]
open PySem.SeqAt (EqAt RcAt RcNeAt)

mutual
def pyEq:D->D->Bool
 | .non,.non=>true
 | .bl a,.bl b=>a==b
 | .bl a,.int b=>(if a then 1 else 0)==b
 | .int a,.bl b=>a==(if b then 1 else 0)
 | .int a,.int b=>a==b
 | .str a,.str b=>a==b
 | .tup xs,.tup ys=>pyEqL xs ys
 | .lst xs,.lst ys=>pyEqL xs ys
 | .dct _ _,.dct _ _=>true
 | .obj _ _ _,.obj _ _ _=>true
 | .exc _ _ _,.exc _ _ _=>true
 | _,_=>false
def pyEqL:List D->List D->Bool
 | [],[]=>true
 | x::xs,y::ys=>pyEq x y && pyEqL xs ys
 | _,_=>false
end
mutual
theorem qa:∀ d:D,pyEq d d=true
 | .non=>by unfold pyEq; rfl
 | .bl b=>by unfold pyEq; simp
 | .int i=>by unfold pyEq; simp
 | .str x=>by unfold pyEq; simp
 | .tup xs=>by unfold pyEq; exact nM xs
 | .lst xs=>by unfold pyEq; exact nM xs
 | .dct _ _=>by unfold pyEq; rfl
 | .obj _ _ _=>by unfold pyEq; rfl
 | .exc _ _ _=>by unfold pyEq; rfl
theorem nM:∀ ds:List D,pyEqL ds ds=true
 | []=>by unfold pyEqL; rfl
 | d::ds=>by unfold pyEqL; rw [qa d,nM ds]; rfl
end
def AA (xs ys:List D) (j:Nat):Bool:=match xs[j]?,ys[j]? with
 | some a,some b=>pyEq a b
 | _,_=>false
theorem gW:∀ xs ys:List D,((List.range (min xs.length ys.length)).all (AA xs ys) && xs.length==ys.length)=pyEqL xs ys
 | [],[]=>by unfold pyEqL; rfl
 | [],_::_=>by unfold pyEqL; simp
 | _::_,[]=>by unfold pyEqL; simp
 | x::xs,y::ys=>by
  have ih:=gW xs ys
  conv=>rhs; unfold pyEqL
  rw [<- ih]
  have e:min (x::xs).length (y::ys).length=min xs.length ys.length+1:=by simp only [OA]; omega
  rw [e,PF,PD,PH]
  have e2:((x::xs).length==(y::ys).length)=(xs.length==ys.length):=by simp
  rw [e2,Bool.and_assoc]
  have e3:(List.range (min xs.length ys.length)).all (AA (x::xs) (y::ys) ∘ Nat.succ)=(List.range (min xs.length ys.length)).all (AA xs ys):=by
   congr 1
  rw [e3]
  rfl
mutual
def pl:D->Bool
 | .tup xs=>lJ xs
 | .lst xs=>lJ xs
 | .dct _ _=>false
 | .obj _ _ _=>false
 | .exc _ _ _=>false
 | _=>true
def lJ:List D->Bool
 | []=>true
 | x::xs=>pl x && lJ xs
end
theorem gV {ks vs:List D} (h:pl (.dct ks vs)=true):False:=by unfold pl at h; cases h
theorem hJ {c:Str} {fs:List Str} {vs:List D} (h:pl (.obj c fs vs)=true):False:=by unfold pl at h; cases h
theorem gU {c:Str} {fs:List Str} {vs:List D} (h:pl (.exc c fs vs)=true):False:=by unfold pl at h; cases h
theorem mw:∀ {xs:List D},lJ xs=true->∀ x∈xs,pl x=true
 | [],_,_,h=>nomatch h
 | x::xs,h,y,hy=>by
  unfold lJ at h
  rw [O1] at h
  rcases List.mem_cons.mp hy with z | z
  ·rw [z]; exact h.1
  ·exact mw h.2 y z
theorem AI:∀ {xs:List D},(∀ x∈xs,pl x=true)->lJ xs=true
 | [],_=>by unfold lJ; rfl
 | x::xs,h=>by
  unfold lJ
  rw [O1]
  exact⟨h x Oj,AI fun y hy=>h y (Ol _ hy)⟩
theorem dE {xs:List D}:pl (.tup xs)=lJ xs:=by rw [pl]
theorem eW {xs:List D}:pl (.lst xs)=lJ xs:=by rw [pl]
theorem Kt {b:Bool}:pl (.bl b)=true:=by unfold pl; rfl
theorem Jh {i:Int}:pl (.int i)=true:=by unfold pl; rfl
theorem IR {x:Str}:pl (.str x)=true:=by unfold pl; rfl
def dr:Nat->D->Bool
 | n+1,.tup xs=>xs.all (dr n)
 | n+1,.lst xs=>xs.all (dr n)
 | 0,.tup _=>false
 | 0,.lst _=>false
 | _,.dct _ _=>false
 | _,.obj _ _ _=>false
 | _,.exc _ _ _=>false
 | _,_=>true

section
variable {X:Cx} {pins:List (Su×Obj)} {σ:St} {H:Hp} {s:SF}
theorem Inv.not_both (I:Inv X pins σ H s) {a:Su} {xs ys:List V} (h:pY X.K H a xs) (h':nN X.K H a ys):False:=by
 obtain⟨its,_,ht,_⟩:=I.tuple h
 obtain⟨its2,_,hl,_⟩:=I.list h'
 exact absurd rfl (SeqAt.ne_of_list_tuple hl.isList (show s.heap.IsTuple a its.toArray from ht))
mutual
theorem Inv.den_inj (I:Inv X pins σ H s):∀ {a b:D} {v:V},pl a=true->pl b=true->dj X.K H a v->dj X.K H b v->a=b
 | .non,b,v,pa,pb,h,h'=>by
  rw [kX] at h; subst h
  cases b with
  | non=>rfl
  | bl _=>rw [j7] at h'; cases h'
  | int _=>rw [gE] at h'; cases h'
  | str _=>rw [gz] at h'; cases h'
  | tup _=>rw [cS] at h'; obtain⟨_,_,e,_⟩:=h'; cases e
  | lst _=>rw [cT] at h'; obtain⟨_,_,e,_⟩:=h'; cases e
  | dct _ _=>exact(gV pb).elim
  | obj _ _ _=>exact(hJ pb).elim
  | exc _ _ _=>exact(gU pb).elim
 | .bl x,b,v,pa,pb,h,h'=>by
  rw [j7] at h; subst h
  cases b with
  | non=>rw [kX] at h'; cases h'
  | bl _=>rw [j7] at h'; cases h'; rfl
  | int _=>rw [gE] at h'; cases h'
  | str _=>rw [gz] at h'; cases h'
  | tup _=>rw [cS] at h'; obtain⟨_,_,e,_⟩:=h'; cases e
  | lst _=>rw [cT] at h'; obtain⟨_,_,e,_⟩:=h'; cases e
  | dct _ _=>exact(gV pb).elim
  | obj _ _ _=>exact(hJ pb).elim
  | exc _ _ _=>exact(gU pb).elim
 | .int x,b,v,pa,pb,h,h'=>by
  rw [gE] at h; subst h
  cases b with
  | non=>rw [kX] at h'; cases h'
  | bl _=>rw [j7] at h'; cases h'
  | int _=>rw [gE] at h'; cases h'; rfl
  | str _=>rw [gz] at h'; cases h'
  | tup _=>rw [cS] at h'; obtain⟨_,_,e,_⟩:=h'; cases e
  | lst _=>rw [cT] at h'; obtain⟨_,_,e,_⟩:=h'; cases e
  | dct _ _=>exact(gV pb).elim
  | obj _ _ _=>exact(hJ pb).elim
  | exc _ _ _=>exact(gU pb).elim
 | .str x,b,v,pa,pb,h,h'=>by
  rw [gz] at h; subst h
  cases b with
  | non=>rw [kX] at h'; cases h'
  | bl _=>rw [j7] at h'; cases h'
  | int _=>rw [gE] at h'; cases h'
  | str _=>rw [gz] at h'; cases h'; rfl
  | tup _=>rw [cS] at h'; obtain⟨_,_,e,_⟩:=h'; cases e
  | lst _=>rw [cT] at h'; obtain⟨_,_,e,_⟩:=h'; cases e
  | dct _ _=>exact(gV pb).elim
  | obj _ _ _=>exact(hJ pb).elim
  | exc _ _ _=>exact(gU pb).elim
 | .tup xs,b,v,pa,pb,h,h'=>by
  rw [cS] at h
  obtain⟨a,vs,e,h1,h2⟩:=h
  subst e
  cases b with
  | non=>rw [kX] at h'; cases h'
  | bl _=>rw [j7] at h'; cases h'
  | int _=>rw [gE] at h'; cases h'
  | str _=>rw [gz] at h'; cases h'
  | tup ys =>
   rw [cS] at h'
   obtain⟨a',vs',e,h1',h2'⟩:=h'
   cases e
   have ev:=I.tuple_inj (pY.of h1) (pY.of h1')
   subst ev
   rw [Inv.denL_inj I (by first | rw [<- dE]; exact pa | rw [<- eW]; exact pa) (by first | rw [<- dE]; exact pb | rw [<- eW]; exact pb) h2 h2']
  | lst _=>rw [cT] at h'; obtain⟨_,_,e,h1',_⟩:=h'; cases e; exact(Inv.not_both I (pY.of h1) h1').elim
  | dct _ _=>exact(gV pb).elim
  | obj _ _ _=>exact(hJ pb).elim
  | exc _ _ _=>exact(gU pb).elim
 | .lst xs,b,v,pa,pb,h,h'=>by
  rw [cT] at h
  obtain⟨a,vs,e,h1,h2⟩:=h
  subst e
  cases b with
  | non=>rw [kX] at h'; cases h'
  | bl _=>rw [j7] at h'; cases h'
  | int _=>rw [gE] at h'; cases h'
  | str _=>rw [gz] at h'; cases h'
  | lst ys =>
   rw [cT] at h'
   obtain⟨a',vs',e,h1',h2'⟩:=h'
   cases e
   have ev:=I.list_inj h1 h1'
   subst ev
   rw [Inv.denL_inj I (by first | rw [<- dE]; exact pa | rw [<- eW]; exact pa) (by first | rw [<- dE]; exact pb | rw [<- eW]; exact pb) h2 h2']
  | tup _=>rw [cS] at h'; obtain⟨_,_,e,h1',_⟩:=h'; cases e; exact(Inv.not_both I (pY.of h1') h1).elim
  | dct _ _=>exact(gV pb).elim
  | obj _ _ _=>exact(hJ pb).elim
  | exc _ _ _=>exact(gU pb).elim
 | .dct _ _,_,_,pa,_,_,_=>(gV pa).elim
 | .obj _ _ _,_,_,pa,_,_,_=>(hJ pa).elim
 | .exc _ _ _,_,_,pa,_,_,_=>(gU pa).elim
theorem Inv.denL_inj (I:Inv X pins σ H s):∀ {as bs:List D} {vs:List V},lJ as=true->lJ bs=true->bD X.K H as vs->bD X.K H bs vs->as=bs
 | [],bs,vs,pa,pb,h,h'=>by
  rw [cU] at h; subst h
  cases bs with
  | nil=>rfl
  | cons b bs=>rw [bP] at h'; obtain⟨_,_,e,_⟩:=h'; cases e
 | a::as,bs,vs,pa,pb,h,h'=>by
  rw [bP] at h
  obtain⟨v,r,e,h1,h2⟩:=h
  subst e
  cases bs with
  | nil=>rw [cU] at h'; cases h'
  | cons b bs =>
   rw [bP] at h'
   obtain⟨v',r',e,h1',h2'⟩:=h'
   cases e
   unfold lJ at pa pb
   rw [O1] at pa pb
   rw [Inv.den_inj I pa.1 pb.1 h1 h1',Inv.denL_inj I pa.2 pb.2 h2 h2']
end

def nc:D->Option V
 | .non=>some .non
 | .bl b=>some (.bl b)
 | .int i=>some (.int i)
 | .str x=>some (.str x)
 | _=>none
theorem p6 {K:Rf} {d:D} {v x:V} (h:nc d=some x) (hd:dj K H d v):v=x/\Ff x=true:=by
 cases d with
 | non=>cases h; exact⟨kX.mp hd,rfl⟩
 | bl b=>cases h; exact⟨j7.mp hd,rfl⟩
 | int i=>cases h; exact⟨gE.mp hd,rfl⟩
 | str y=>cases h; exact⟨gz.mp hd,rfl⟩
 | _=>cases h
theorem GB {a b:D} {x y:V} (ha:nc a=some x) (hb:nc b=some y):Mw x y=pyEq a b:=by
 cases a <;> cases ha <;> cases b <;> cases hb <;> (unfold pyEq Mw; rfl)
theorem yz {a:D} {x:V} (n:Nat) (h:nc a=some x):dr n a=true:=by
 cases a with
 | tup _=>cases h
 | lst _=>cases h
 | dct _ _=>cases h
 | obj _ _ _=>cases h
 | exc _ _ _=>cases h
 | _=>cases n <;> rfl
theorem zu {a:D} (h:nc a=none):dr 0 a=false:=by
 cases a with
 | tup _=>rfl
 | lst _=>rfl
 | dct _ _=>rfl
 | obj _ _ _=>rfl
 | exc _ _ _=>rfl
 | _=>cases h
theorem in1_units (A:SE):A.in1.units=A.units+1:=rfl
theorem pA {vs:List V} {us:List Sq} (r:Vals vs us) {j:Nat} (h:j < us.toArray.size):∃ x,vs[j]?=some x/\RelV x us.toArray[j]:=by
 have hj:j < us.length:=by simpa using h
 have hl:=r.length
 have hv:j < vs.length:=by omega
 obtain⟨u,e,ru⟩:=r.get (i:=j) (x:=vs[j]) (by simp [hv])
 refine⟨vs[j],by simp [hv],?_⟩
 have e2:us.toArray[j]=u:=by
  rw [PJ hj] at e
  simpa using Option.some.inj e
 rw [e2]; exact ru
theorem pq {K:Rf} {ds:List D} {vs:List V} (h:bD K H ds vs) {j:Nat} {x:V} (e:vs[j]?=some x):∃ d,ds[j]?=some d/\dj K H d x:=by
 have hj:j < vs.length:=(List.getElem?_eq_some_iff.mp e).1
 have hl:=h.length
 have hd:j < ds.length:=by omega
 obtain⟨v,e1,e2⟩:=h.get (i:=j) (d:=ds[j]) (by simp [hd])
 rw [e] at e1; cases e1
 exact⟨ds[j],by simp [hd],e2⟩

theorem Dv (I:Inv X pins σ H s):∀ (n:Nat) (a b:D) (x y:V) (u v:Sq) (A:SE),pl a=true->pl b=true->(dr n a=true\/dr n b=true)->dj X.K H a x->dj X.K H b y->RelV x u->RelV y v->A.units+n < Tg->EqAt A s u v (pyEq a b):=by
 intro n
 induction n with
 | zero =>
  intro a b x y u v A pa pb hd ha hb ru rv hA
  have hu:A.units < Tg:=hA
  cases ha':nc a with
  | some x' =>
   obtain⟨e,f⟩:=p6 ha' ha
   subst e
   cases hb':nc b with
   | some y' =>
    obtain⟨e,f'⟩:=p6 hb' hb
    subst e
    rw [<- GB ha' hb']
    exact HV ru rv f f'
   | none =>
    cases b with
    | tup ys =>
     rw [cS] at hb
     obtain⟨p,vs,e,h1,h2⟩:=hb
     subst e
     cases rv
     obtain⟨its,_,ht,_⟩:=I.tuple (pY.of h1)
     have ht':s.heap.IsTuple p its.toArray:=ht
     cases a with
     | non=>cases ha'; cases ru; unfold pyEq; exact .none_tuple ht' hu
     | bl z=>cases ha'; cases ru; unfold pyEq; exact .bool_tuple z ht' hu
     | int z=>cases ha'; obtain⟨t,rfl⟩:=ru; unfold pyEq; exact .int_tuple z t ht' hu
     | str z=>cases ha'; obtain⟨t,rfl⟩:=ru; unfold pyEq; exact .str_tuple z t ht' hu
     | _=>cases ha'
    | lst ys =>
     rw [cT] at hb
     obtain⟨p,vs,e,h1,h2⟩:=hb
     subst e
     cases rv
     obtain⟨its,_,ht,_⟩:=I.list h1
     have ht':s.heap.IsList p its.toArray:=ht.isList
     cases a with
     | non=>cases ha'; cases ru; unfold pyEq; exact .none_list ht' hu
     | bl z=>cases ha'; cases ru; unfold pyEq; exact .bool_list z ht' hu
     | int z=>cases ha'; obtain⟨t,rfl⟩:=ru; unfold pyEq; exact .int_list z t ht' hu
     | str z=>cases ha'; obtain⟨t,rfl⟩:=ru; unfold pyEq; exact .str_list z t ht' hu
     | _=>cases ha'
    | dct _ _=>exact(gV pb).elim
    | obj _ _ _=>exact(hJ pb).elim
    | exc _ _ _=>exact(gU pb).elim
    | _=>cases hb'
  | none =>
   have hdb:dr 0 b=true:=by
    rcases hd with hd | hd
    ·rw [zu ha'] at hd; cases hd
    ·exact hd
   cases hb':nc b with
   | none=>rw [zu hb'] at hdb; cases hdb
   | some y' =>
    obtain⟨e,f'⟩:=p6 hb' hb
    subst e
    cases a with
    | tup xs =>
     rw [cS] at ha
     obtain⟨p,vs,e,h1,h2⟩:=ha
     subst e
     cases ru
     obtain⟨its,_,ht,_⟩:=I.tuple (pY.of h1)
     have ht':s.heap.IsTuple p its.toArray:=ht
     cases b with
     | non=>cases hb'; cases rv; unfold pyEq; exact .tuple_none ht' hu
     | bl z=>cases hb'; cases rv; unfold pyEq; exact .tuple_bool z ht' hu
     | int z=>cases hb'; obtain⟨t,rfl⟩:=rv; unfold pyEq; exact .tuple_int z t ht' hu
     | str z=>cases hb'; obtain⟨t,rfl⟩:=rv; unfold pyEq; exact .tuple_str z t ht' hu
     | _=>cases hb'
    | lst xs =>
     rw [cT] at ha
     obtain⟨p,vs,e,h1,h2⟩:=ha
     subst e
     cases ru
     obtain⟨its,_,ht,_⟩:=I.list h1
     have ht':s.heap.IsList p its.toArray:=ht.isList
     cases b with
     | non=>cases hb'; cases rv; unfold pyEq; exact .list_none ht' hu
     | bl z=>cases hb'; cases rv; unfold pyEq; exact .list_bool z ht' hu
     | int z=>cases hb'; obtain⟨t,rfl⟩:=rv; unfold pyEq; exact .list_int z t ht' hu
     | str z=>cases hb'; obtain⟨t,rfl⟩:=rv; unfold pyEq; exact .list_str z t ht' hu
     | _=>cases hb'
    | dct _ _=>exact(gV pa).elim
    | obj _ _ _=>exact(hJ pa).elim
    | exc _ _ _=>exact(gU pa).elim
    | _=>cases ha'
 | succ n ih =>
  intro a b x y u v A pa pb hd ha hb ru rv hA
  have hu:A.units < Tg:=by omega
  have flatWay:(∀ xs ys,¬ (a=.tup xs/\b=.tup ys))->(∀ xs ys,¬ (a=.lst xs/\b=.lst ys))->EqAt A s u v (pyEq a b):=by
   intro n1 n2
   cases ha':nc a with
   | some x'=>exact ih a b x y u v A pa pb (.inl (yz n ha')) ha hb ru rv ‹0›
   | none =>
    cases hb':nc b with
    | some y'=>exact ih a b x y u v A pa pb (.inr (yz n hb')) ha hb ru rv ‹0›
    | none =>
     cases a with
     | tup xs =>
      cases b with
      | tup ys=>exact absurd ⟨rfl,rfl⟩ (n1 xs ys)
      | lst ys =>
       rw [cS] at ha
       obtain⟨p,vs,e,h1,h2⟩:=ha
       subst e
       rw [cT] at hb
       obtain⟨p',vs',e,h1',h2'⟩:=hb
       subst e
       cases ru
       cases rv
       obtain⟨its,_,ht,_⟩:=I.tuple (pY.of h1)
       obtain⟨its2,_,ht2,_⟩:=I.list h1'
       unfold pyEq
       exact .tuple_list (show s.heap.IsTuple p its.toArray from ht) ht2.isList hu
      | dct _ _=>exact(gV pb).elim
      | obj _ _ _=>exact(hJ pb).elim
      | exc _ _ _=>exact(gU pb).elim
      | _=>cases hb'
     | lst xs =>
      cases b with
      | lst ys=>exact absurd ⟨rfl,rfl⟩ (n2 xs ys)
      | tup ys =>
       rw [cT] at ha
       obtain⟨p,vs,e,h1,h2⟩:=ha
       subst e
       rw [cS] at hb
       obtain⟨p',vs',e,h1',h2'⟩:=hb
       subst e
       cases ru
       cases rv
       obtain⟨its,_,ht,_⟩:=I.list h1
       obtain⟨its2,_,ht2,_⟩:=I.tuple (pY.of h1')
       unfold pyEq
       exact .list_tuple ht.isList (show s.heap.IsTuple p' its2.toArray from ht2) hu
      | dct _ _=>exact(gV pb).elim
      | obj _ _ _=>exact(hJ pb).elim
      | exc _ _ _=>exact(gU pb).elim
      | _=>cases hb'
     | dct _ _=>exact(gV pa).elim
     | obj _ _ _=>exact(hJ pa).elim
     | exc _ _ _=>exact(gU pa).elim
     | _=>cases ha'
  have items:∀ (xs ys:List D) (vs vs':List V) (its its':List Sq),lJ xs=true->lJ ys=true->(dr (n+1) (.tup xs)=true\/dr (n+1) (.tup ys)=true)->bD X.K H xs vs->bD X.K H ys vs'->Vals vs its->Vals vs' its' ->
    ∀ j (h1:j < its.toArray.size) (h2:j < its'.toArray.size),EqAt A.in1 s its.toArray[j] its'.toArray[j] (AA xs ys j):=by
   intro xs ys vs vs' its its' px py hdd hx hy rx ry j h1 h2
   obtain⟨w1,e1,r1⟩:=pA rx h1
   obtain⟨w2,e2,r2⟩:=pA ry h2
   obtain⟨d1,f1,g1⟩:=pq hx e1
   obtain⟨d2,f2,g2⟩:=pq hy e2
   have e3:AA xs ys j=pyEq d1 d2:=by unfold AA; rw [f1,f2]
   rw [e3]
   refine ih d1 d2 w1 w2 _ _ A.in1 (mw px _ (OV f1)) (mw py _ (OV f2)) ?_ g1 g2 r1 r2 (by rw [in1_units]; omega)
   rcases hdd with hdd | hdd
   ·exact .inl (List.all_eq_true.mp hdd d1 (OV f1))
   ·exact .inr (List.all_eq_true.mp hdd d2 (OV f2))
  by_cases hT:∃ xs ys,a=.tup xs/\b=.tup ys
  ·obtain⟨xs,ys,rfl,rfl⟩:=hT
   have da:=ha
   have db:=hb
   rw [cS] at ha hb
   obtain⟨p,vs,e,h1,h2⟩:=ha
   subst e
   obtain⟨p',vs',e,h1',h2'⟩:=hb
   subst e
   cases ru
   cases rv
   by_cases hp:p=p'
   ·subst hp
    have e:=Inv.den_inj I pa pb da db
    rw [e,qa]
    exact EqAt.same _
   ·obtain⟨its,rv1,ht,_⟩:=I.tuple (pY.of h1)
    obtain⟨its2,rv2,ht2,_⟩:=I.tuple (pY.of h1')
    refine EqAt.of_refs hp ?_
    have q:=RcAt.tuples (e:=AA xs ys) (show s.heap.IsTuple p its.toArray from ht) (show s.heap.IsTuple p' its2.toArray from ht2) hu (items xs ys vs vs' its its2 (by first | rw [<- dE]; exact pa | rw [<- eW]; exact pa) (by first | rw [<- dE]; exact pb | rw [<- eW]; exact pb) hd h2 h2' rv1 rv2)
    have z1:its.toArray.size=xs.length:=by rw [Oy,<- rv1.length,<- h2.length]
    have z2:its2.toArray.size=ys.length:=by rw [Oy,<- rv2.length,<- h2'.length]
    rw [z1,z2,gW] at q
    unfold pyEq
    exact q
  ·by_cases hL:∃ xs ys,a=.lst xs/\b=.lst ys
   ·obtain⟨xs,ys,rfl,rfl⟩:=hL
    have da:=ha
    have db:=hb
    rw [cT] at ha hb
    obtain⟨p,vs,e,h1,h2⟩:=ha
    subst e
    obtain⟨p',vs',e,h1',h2'⟩:=hb
    subst e
    cases ru
    cases rv
    by_cases hp:p=p'
    ·subst hp
     have e:=Inv.den_inj I pa pb da db
     rw [e,qa]
     exact EqAt.same _
    ·obtain⟨its,rv1,ht,_⟩:=I.list h1
     obtain⟨its2,rv2,ht2,_⟩:=I.list h1'
     refine EqAt.of_refs hp ?_
     have z1:its.toArray.size=xs.length:=by rw [Oy,<- rv1.length,<- h2.length]
     have z2:its2.toArray.size=ys.length:=by rw [Oy,<- rv2.length,<- h2'.length]
     have er:=gW xs ys
     by_cases hz:its.toArray.size=its2.toArray.size
     ·have q:=RcAt.lists (e:=AA xs ys) ht.isList ht2.isList hz hu (items xs ys vs vs' its its2 (by first | rw [<- dE]; exact pa | rw [<- eW]; exact pa) (by first | rw [<- dE]; exact pb | rw [<- eW]; exact pb) hd h2 h2' rv1 rv2)
      rw [z1] at q
      have hz':xs.length=ys.length:=by omega
      rw [<- hz',PK] at er
      simp only [beq_self_eq_true,PL] at er
      rw [er] at q
      unfold pyEq
      exact q
     ·have hne:(its.toArray.size != its2.toArray.size)=true:=by simpa using hz
      have q:=RcAt.lists_lengths (A:=A) ht.isList ht2.isList hne hu
      have hz':(xs.length==ys.length)=false:=by
       rw [z1,z2] at hz
       simpa using hz
      rw [hz',PN] at er
      unfold pyEq
      rw [<- er]
      exact q
   ·exact flatWay (fun xs ys z=>hT ⟨xs,ys,z⟩) fun xs ys z=>hL ⟨xs,ys,z⟩
end
end TG
namespace TG
open PySem PySem.Spec L2
variable [bp]
open PySem.SeqAt (EqAt RcAt RcNeAt)

section
variable {X:Cx} {pins:List (Su×Obj)} {σ:St} {H:Hp} {s:SF}
theorem ra (I:Inv X pins σ H s) {n:Nat} {xs ys:List D} {vs vs':List V} {its its':List Sq} {A:SE} (px:lJ xs=true) (py:lJ ys=true) (hdd:dr (n+1) (.tup xs)=true\/dr (n+1) (.tup ys)=true) (hx:bD X.K H xs vs) (hy:bD X.K H ys vs') (rx:Vals vs its) (ry:Vals vs' its') (hA:A.units+n < Tg) :
  ∀ j (h1:j < its.toArray.size) (h2:j < its'.toArray.size),EqAt A s its.toArray[j] its'.toArray[j] (AA xs ys j):=by
 intro j h1 h2
 obtain⟨w1,e1,r1⟩:=pA rx h1
 obtain⟨w2,e2,r2⟩:=pA ry h2
 obtain⟨d1,f1,g1⟩:=pq hx e1
 obtain⟨d2,f2,g2⟩:=pq hy e2
 have e3:AA xs ys j=pyEq d1 d2:=by unfold AA; rw [f1,f2]
 rw [e3]
 refine Dv I n d1 d2 w1 w2 _ _ A (mw px _ (OV f1)) (mw py _ (OV f2)) ?_ g1 g2 r1 r2 hA
 rcases hdd with hdd | hdd
 ·exact .inl (List.all_eq_true.mp hdd d1 (OV f1))
 ·exact .inr (List.all_eq_true.mp hdd d2 (OV f2))
inductive Way (I:Inv X pins σ H s):D->Sq->Prop where
 | non:Way I .non .none
 | bl (b:Bool):Way I (.bl b) (.bool b)
 | int (i:Int) (t:Tok):Way I (.int i) (.int i t)
 | str (x:Str) (t:Tok):Way I (.str x) (.str x t)
 | tup {xs:List D} {p:Su} {vs:List V} {its:List Sq} (h:bD X.K H xs vs) (r:Vals vs its) (t:s.heap.IsTuple p its.toArray):Way I (.tup xs) (.ref p)
 | lst {xs:List D} {p:Su} {vs:List V} {its:List Sq} (h:bD X.K H xs vs) (r:Vals vs its) (t:s.heap.IsList p its.toArray):Way I (.lst xs) (.ref p)
def top:D->Bool
 | .dct _ _=>false
 | .obj _ _ _=>false
 | .exc _ _ _=>false
 | _=>true
theorem gL {d:D} (h:pl d=true):top d=true:=by
 cases d with
 | dct _ _=>exact(gV h).elim
 | obj _ _ _=>exact(hJ h).elim
 | exc _ _ _=>exact(gU h).elim
 | _=>rfl
theorem fV (I:Inv X pins σ H s) {d:D} {v:V} {u:Sq} (pd:top d=true) (h:dj X.K H d v) (r:RelV v u):Way I d u:=by
 cases d with
 | non=>rw [kX] at h; subst h; cases r; exact .non
 | bl b=>rw [j7] at h; subst h; cases r; exact .bl b
 | int i=>rw [gE] at h; subst h; obtain⟨t,rfl⟩:=r; exact .int i t
 | str x=>rw [gz] at h; subst h; obtain⟨t,rfl⟩:=r; exact .str x t
 | tup xs =>
  rw [cS] at h
  obtain⟨p,vs,e,h1,h2⟩:=h
  subst e
  cases r
  obtain⟨its,rv,ht,_⟩:=I.tuple (pY.of h1)
  exact .tup h2 rv ht
 | lst xs =>
  rw [cT] at h
  obtain⟨p,vs,e,h1,h2⟩:=h
  subst e
  cases r
  obtain⟨its,rv,ht,_⟩:=I.list h1
  exact .lst h2 rv ht.isList
 | dct _ _=>cases pd
 | obj _ _ _=>cases pd
 | exc _ _ _=>cases pd
theorem IB (I:Inv X pins σ H s) {n:Nat} {a b:D} {x y:V} {u v:Sq} {A:SE} (pa:pl a=true) (pb:pl b=true) (hd:dr (n+1) a=true\/dr (n+1) b=true) (ha:dj X.K H a x) (hb:dj X.K H b y) (ru:RelV x u) (rv:RelV y v) (hA:A.units+n+1 < Tg):RcAt A s u v (pyEq a b):=by
 have hu:A.units < Tg:=by omega
 cases fV I (gL pa) ha ru with
 | non=>cases fV I (gL pb) hb rv with
  | non=>unfold pyEq; exact .none_none
  | bl b=>unfold pyEq; exact .none_bool b
  | int i t=>unfold pyEq; exact .none_int i t
  | str x t=>unfold pyEq; exact .none_str x t
  | tup h r t=>unfold pyEq; exact .none_tuple t hu
  | lst h r t=>unfold pyEq; exact .none_list t hu
 | bl z=>cases fV I (gL pb) hb rv with
  | non=>unfold pyEq; exact .bool_none z
  | bl b=>unfold pyEq; exact .bool_bool z b
  | int i t=>unfold pyEq; exact .bool_int z i t
  | str x t=>unfold pyEq; exact .bool_str z x t
  | tup h r t=>unfold pyEq; exact .bool_tuple z t hu
  | lst h r t=>unfold pyEq; exact .bool_list z t hu
 | int z tz=>cases fV I (gL pb) hb rv with
  | non=>unfold pyEq; exact .int_none z tz
  | bl b=>unfold pyEq; exact .int_bool z tz b
  | int i t=>unfold pyEq; exact .int_int z tz i t
  | str x t=>unfold pyEq; exact .int_str z tz x t
  | tup h r t=>unfold pyEq; exact .int_tuple z tz t hu
  | lst h r t=>unfold pyEq; exact .int_list z tz t hu
 | str z tz=>cases fV I (gL pb) hb rv with
  | non=>unfold pyEq; exact .str_none z tz
  | bl b=>unfold pyEq; exact .str_bool z tz b
  | int i t=>unfold pyEq; exact .str_int z tz i t
  | str x t=>unfold pyEq; exact .str_str z tz x t
  | tup h r t=>unfold pyEq; exact .str_tuple z tz t hu
  | lst h r t=>unfold pyEq; exact .str_list z tz t hu
 | @tup xs p vs its h1 r1 t1=>cases fV I (gL pb) hb rv with
  | non=>unfold pyEq; exact .tuple_none t1 hu
  | bl b=>unfold pyEq; exact .tuple_bool b t1 hu
  | int i t=>unfold pyEq; exact .tuple_int i t t1 hu
  | str x t=>unfold pyEq; exact .tuple_str x t t1 hu
  | @tup ys p' vs' its' h2 r2 t2 =>
   have q:=RcAt.tuples (e:=AA xs ys) t1 t2 hu (ra (A:=A.in1) I (by first | rw [<- dE]; exact pa | rw [<- eW]; exact pa) (by first | rw [<- dE]; exact pb | rw [<- eW]; exact pb) hd h1 h2 r1 r2 (by rw [in1_units]; omega))
   have z1:its.toArray.size=xs.length:=by rw [Oy,<- r1.length,<- h1.length]
   have z2:its'.toArray.size=ys.length:=by rw [Oy,<- r2.length,<- h2.length]
   rw [z1,z2,gW] at q
   unfold pyEq; exact q
  | lst h r t=>unfold pyEq; exact .tuple_list t1 t hu
 | @lst xs p vs its h1 r1 t1=>cases fV I (gL pb) hb rv with
  | non=>unfold pyEq; exact .list_none t1 hu
  | bl b=>unfold pyEq; exact .list_bool b t1 hu
  | int i t=>unfold pyEq; exact .list_int i t t1 hu
  | str x t=>unfold pyEq; exact .list_str x t t1 hu
  | tup h r t=>unfold pyEq; exact .list_tuple t1 t hu
  | @lst ys p' vs' its' h2 r2 t2 =>
   have z1:its.toArray.size=xs.length:=by rw [Oy,<- r1.length,<- h1.length]
   have z2:its'.toArray.size=ys.length:=by rw [Oy,<- r2.length,<- h2.length]
   have er:=gW xs ys
   by_cases hz:its.toArray.size=its'.toArray.size
   ·have q:=RcAt.lists (e:=AA xs ys) t1 t2 hz hu (ra (A:=A.in1) I (by first | rw [<- dE]; exact pa | rw [<- eW]; exact pa) (by first | rw [<- dE]; exact pb | rw [<- eW]; exact pb) hd h1 h2 r1 r2 (by rw [in1_units]; omega))
    rw [z1] at q
    have hz':xs.length=ys.length:=by omega
    rw [<- hz',PK] at er
    simp only [beq_self_eq_true,PL] at er
    rw [er] at q
    unfold pyEq; exact q
   ·have q:=RcAt.lists_lengths (A:=A) t1 t2 (by simpa using hz) hu
    have hz':(xs.length==ys.length)=false:=by
     rw [z1,z2] at hz
     simpa using hz
    rw [hz',PN] at er
    unfold pyEq
    rw [<- er]; exact q
theorem Ec (I:Inv X pins σ H s) {n:Nat} {a b:D} {x y:V} {u v:Sq} {A:SE} (pa:pl a=true) (pb:pl b=true) (hd:dr (n+1) a=true\/dr (n+1) b=true) (ha:dj X.K H a x) (hb:dj X.K H b y) (ru:RelV x u) (rv:RelV y v) (hA:A.units+n+1 < Tg):RcNeAt A s u v (!pyEq a b):=by
 have hu:A.units < Tg:=by omega
 cases fV I (gL pa) ha ru with
 | non=>cases fV I (gL pb) hb rv with
  | non=>unfold pyEq; exact .none_none
  | bl b=>unfold pyEq; exact .none_bool b
  | int i t=>unfold pyEq; exact .none_int i t
  | str x t=>unfold pyEq; exact .none_str x t
  | tup h r t=>unfold pyEq; exact .none_tuple t hu
  | lst h r t=>unfold pyEq; exact .none_list t hu
 | bl z=>cases fV I (gL pb) hb rv with
  | non=>unfold pyEq; exact .bool_none z
  | bl b=>unfold pyEq; exact .bool_bool z b
  | int i t=>unfold pyEq; exact .bool_int z i t
  | str x t=>unfold pyEq; exact .bool_str z x t
  | tup h r t=>unfold pyEq; exact .bool_tuple z t hu
  | lst h r t=>unfold pyEq; exact .bool_list z t hu
 | int z tz=>cases fV I (gL pb) hb rv with
  | non=>unfold pyEq; exact .int_none z tz
  | bl b=>unfold pyEq; exact .int_bool z tz b
  | int i t=>unfold pyEq; exact .int_int z tz i t
  | str x t=>unfold pyEq; exact .int_str z tz x t
  | tup h r t=>unfold pyEq; exact .int_tuple z tz t hu
  | lst h r t=>unfold pyEq; exact .int_list z tz t hu
 | str z tz=>cases fV I (gL pb) hb rv with
  | non=>unfold pyEq; exact .str_none z tz
  | bl b=>unfold pyEq; exact .str_bool z tz b
  | int i t=>unfold pyEq; exact .str_int z tz i t
  | str x t=>unfold pyEq; exact .str_str z tz x t
  | tup h r t=>unfold pyEq; exact .str_tuple z tz t hu
  | lst h r t=>unfold pyEq; exact .str_list z tz t hu
 | @tup xs p vs its h1 r1 t1=>cases fV I (gL pb) hb rv with
  | non=>unfold pyEq; exact .tuple_none t1 hu
  | bl b=>unfold pyEq; exact .tuple_bool b t1 hu
  | int i t=>unfold pyEq; exact .tuple_int i t t1 hu
  | str x t=>unfold pyEq; exact .tuple_str x t t1 hu
  | @tup ys p' vs' its' h2 r2 t2 =>
   have q:=RcNeAt.tuples (e:=AA xs ys) t1 t2 hu (ra (A:=A.in1) I (by first | rw [<- dE]; exact pa | rw [<- eW]; exact pa) (by first | rw [<- dE]; exact pb | rw [<- eW]; exact pb) hd h1 h2 r1 r2 (by rw [in1_units]; omega))
   have z1:its.toArray.size=xs.length:=by rw [Oy,<- r1.length,<- h1.length]
   have z2:its'.toArray.size=ys.length:=by rw [Oy,<- r2.length,<- h2.length]
   rw [z1,z2,gW] at q
   unfold pyEq; exact q
  | lst h r t=>unfold pyEq; exact .tuple_list t1 t hu
 | @lst xs p vs its h1 r1 t1=>cases fV I (gL pb) hb rv with
  | non=>unfold pyEq; exact .list_none t1 hu
  | bl b=>unfold pyEq; exact .list_bool b t1 hu
  | int i t=>unfold pyEq; exact .list_int i t t1 hu
  | str x t=>unfold pyEq; exact .list_str x t t1 hu
  | tup h r t=>unfold pyEq; exact .list_tuple t1 t hu
  | @lst ys p' vs' its' h2 r2 t2 =>
   have z1:its.toArray.size=xs.length:=by rw [Oy,<- r1.length,<- h1.length]
   have z2:its'.toArray.size=ys.length:=by rw [Oy,<- r2.length,<- h2.length]
   have er:=gW xs ys
   by_cases hz:its.toArray.size=its'.toArray.size
   ·have q:=RcNeAt.lists (e:=AA xs ys) t1 t2 hz hu (ra (A:=A.in1) I (by first | rw [<- dE]; exact pa | rw [<- eW]; exact pa) (by first | rw [<- dE]; exact pb | rw [<- eW]; exact pb) hd h1 h2 r1 r2 (by rw [in1_units]; omega))
    rw [z1] at q
    have hz':xs.length=ys.length:=by omega
    rw [<- hz',PK] at er
    simp only [beq_self_eq_true,PL] at er
    rw [er] at q
    unfold pyEq; exact q
   ·have q:=RcNeAt.lists_lengths (A:=A) t1 t2 (by simpa using hz) hu
    have hz':(xs.length==ys.length)=false:=by
     rw [z1,z2] at hz
     simpa using hz
    rw [hz',PN] at er
    unfold pyEq
    rw [<- er]; exact q
end

section
variable {X:Cx}
def rD (K:Rf) (g:D->D->Option D):R2:=fun x y H Q=>∃ O a b d,eP H O/\dj K (hid H O) a x/\dj K (hid H O) b y/\g a b=some d/\∀ v H',bS H H'->dj K (hid H' O) d v->Q v H'
theorem aq {K:Rf} {g:D->D->Option D}:dH K (rD K g) g:=fun a b d x y O H Q hO hg ha hb q=>⟨O,a,b,d,hO,ha,hb,hg,q⟩
theorem o5 {f : Sq -> Sq -> Sem Sq} {g : D -> D -> Option D} (h : ∀ (pins : List (Su × Obj)) (s : SF) (σ : St) (H : Hp) (a b d : D) (x y : V) (u v : Sq), Inv X pins σ H s -> dj X.K H a x -> dj X.K H b y -> RelV x u -> RelV y v -> g a b = some d ->
      ∃ c,d=.bl c/\∀ (Q:Sq->SF->Prop),Q (.bool c) s->SH (model X.prog X.w) X.A (f u v) Q X.xe s):j3 X f (rD X.K g):=by
  intro pins s σ H x y u v Q I rx ry ⟨O,a,b,d,hO,ha,hb,hg,q⟩
  obtain⟨c,rfl,hq⟩:=h pins s σ H a b d x y u v I (ha.mono (aY H O)) (hb.mono (aY H O)) rx ry hg
  exact hq _ ⟨.bl c,H,I,rfl,q _ H (bS.refl H) (j7.mpr rfl)⟩
def gQ (a b:D):Option D:=if (pl a && pl b) && (dr 8 a || dr 8 b) then some (.bl (pyEq a b)) else none
def tR (a b:D):Option D:=if (pl a && pl b) && (dr 8 a || dr 8 b) then some (.bl (!pyEq a b)) else none
theorem bY (hu:X.A.units+64 < Tg):j3 X (SU .Eq) (rD X.K gQ):=o5 fun pins s σ H a b d x y u v I ha hb ru rv hg=>by
 obtain⟨h1,h2⟩:=bZ hg
 subst h2
 rw [O1,O1,PP] at h1
 exact⟨_,rfl,fun Q q=>IB (n:=7) (A:=X.A) I h1.1.1 h1.1.2 h1.2 ha hb ru rv ‹0› X.prog X.w X.xe Q q⟩
theorem nS (hu:X.A.units+64 < Tg):j3 X (SU .NotEq) (rD X.K tR):=o5 fun pins s σ H a b d x y u v I ha hb ru rv hg=>by
 obtain⟨h1,h2⟩:=bZ hg
 subst h2
 rw [O1,O1,PP] at h1
 exact⟨_,rfl,fun Q q=>Ec (n:=7) (A:=X.A) I h1.1.1 h1.1.2 h1.2 ha hb ru rv ‹0› X.prog X.w X.xe Q q⟩

def inD (x:D) (ys:List D):Bool:=ys.any fun y=>pyEq y x
def Fi (x y:D):Option D:=match y with
 | .tup ys=>if (pl x && lJ ys) && dr 8 x then some (.bl (inD x ys)) else none
 | .lst ys=>if (pl x && lJ ys) && dr 8 x then some (.bl (inD x ys)) else none
 | _=>none
def lm (x y:D):Option D:=match y with
 | .tup ys=>if (pl x && lJ ys) && dr 8 x then some (.bl (!inD x ys)) else none
 | .lst ys=>if (pl x && lJ ys) && dr 8 x then some (.bl (!inD x ys)) else none
 | _=>none
open Classical in
theorem Bw {pins:List (Su×Obj)} {σ:St} {H:Hp} {s:SF} (I:Inv X pins σ H s) {xd:D} {x:V} {u:Sq} {A:SE} (px:pl xd=true) (hd:dr 8 xd=true) (hx:dj X.K H xd x) (ru:RelV x u) (hA:A.units+8 < Tg) {ys:List D} {vs:List V} {its:List Sq} (py:lJ ys=true) (hy:bD X.K H ys vs) (rv:Vals vs its) :
  ∃ e:Sq->Bool,(∀ y,y∈its.toArray->EqAt A s y u (e y))/\its.toArray.any e=inD xd ys:=by
 let e:Sq->Bool:=fun y=>decide (∃ d w,pl d=true/\dj X.K H d w/\RelV w y/\pyEq d xd=true)
 have he:∀ d w y,pl d=true->dj X.K H d w->RelV w y->e y=pyEq d xd:=fun d w y h0 h1 h2=>by
  cases hq:pyEq d xd with
  | true=>exact decide_eq_true ⟨d,w,h0,h1,h2,hq⟩
  | false =>
   refine decide_eq_false ?_
   rintro⟨d',w',g0,g1,g2,g3⟩
   have ew:=RelV.inj h2 g2
   subst ew
   rw [Inv.den_inj I h0 g0 h1 g1,g3] at hq
   cases hq
 refine⟨e,fun y hy'=>?_,?_⟩
 ·have hm:y∈its:=by simpa using hy'
  obtain⟨j,hj,rfl⟩:=PQ hm
  obtain⟨w,e1,r1⟩:=pA rv (j:=j) (by simpa using hj)
  obtain⟨d,f1,g1⟩:=pq hy e1
  have r1':RelV w its[j]:=by simpa using r1
  have pd:=mw py _ (OV f1)
  rw [he d w _ pd g1 r1']
  exact Dv I 8 d xd w x _ u A pd px (.inr hd) g1 hx r1' ru hA
 ·unfold inD
  have go:∀ (ys:List D) (vs:List V) (its:List Sq),lJ ys=true->bD X.K H ys vs->Vals vs its->its.any e=ys.any fun y=>pyEq y xd:=by
   intro ys
   induction ys with
   | nil =>
    intro vs its py h r
    rw [cU] at h
    subst h
    cases r
    rfl
   | cons y ys ih =>
    intro vs its py h r
    unfold lJ at py
    rw [O1] at py
    rw [bP] at h
    obtain⟨v,r',e1,h1,h2⟩:=h
    subst e1
    cases r with
    | cons q1 q2=>rw [O9,O9,he y v _ py.1 h1 q1,ih _ _ py.2 h2 q2]
  rw [List.any_toArray]
  exact go ys vs its py hy rv
theorem wj (hu:X.A.units+64 < Tg):j3 X (SU .In) (rD X.K Fi):=o5 fun pins s σ H a b d x y u v I ha hb ru rv hg=>by
 cases b with
 | tup ys =>
  obtain⟨h1,h2⟩:=bZ hg
  subst h2
  rw [O1,O1] at h1
  rw [cS] at hb
  obtain⟨p,vs,e,g1,g2⟩:=hb
  subst e
  cases rv
  obtain⟨its,r,t,_⟩:=I.tuple (pY.of g1)
  obtain⟨e,he,ea⟩:=Bw (A:=X.A.in1) I h1.1.1 h1.2 ha ru (by rw [in1_units]; omega) h1.1.2 g2 r
  exact⟨_,rfl,fun Q q=>SeqAt.in_tupleAt e (show s.heap.IsTuple p its.toArray from t) he (by rw [ea]; exact q)⟩
 | lst ys =>
  obtain⟨h1,h2⟩:=bZ hg
  subst h2
  rw [O1,O1] at h1
  rw [cT] at hb
  obtain⟨p,vs,e,g1,g2⟩:=hb
  subst e
  cases rv
  obtain⟨its,r,t,_⟩:=I.list g1
  obtain⟨e,he,ea⟩:=Bw (A:=X.A.in1) I h1.1.1 h1.2 ha ru (by rw [in1_units]; omega) h1.1.2 g2 r
  exact⟨_,rfl,fun Q q=>SeqAt.in_listAt e t.isList he (by rw [ea]; exact q)⟩
 | _=>cases hg
theorem qe (hu:X.A.units+64 < Tg):j3 X (SU .NotIn) (rD X.K lm):=o5 fun pins s σ H a b d x y u v I ha hb ru rv hg=>by
 cases b with
 | tup ys =>
  obtain⟨h1,h2⟩:=bZ hg
  subst h2
  rw [O1,O1] at h1
  rw [cS] at hb
  obtain⟨p,vs,e,g1,g2⟩:=hb
  subst e
  cases rv
  obtain⟨its,r,t,_⟩:=I.tuple (pY.of g1)
  obtain⟨e,he,ea⟩:=Bw (A:=X.A.in1) I h1.1.1 h1.2 ha ru (by rw [in1_units]; omega) h1.1.2 g2 r
  exact⟨_,rfl,fun Q q=>SeqAt.notIn_tupleAt e (show s.heap.IsTuple p its.toArray from t) he (by rw [ea]; exact q)⟩
 | lst ys =>
  obtain⟨h1,h2⟩:=bZ hg
  subst h2
  rw [O1,O1] at h1
  rw [cT] at hb
  obtain⟨p,vs,e,g1,g2⟩:=hb
  subst e
  cases rv
  obtain⟨its,r,t,_⟩:=I.list g1
  obtain⟨e,he,ea⟩:=Bw (A:=X.A.in1) I h1.1.1 h1.2 ha ru (by rw [in1_units]; omega) h1.1.2 g2 r
  exact⟨_,rfl,fun Q q=>SeqAt.notIn_listAt e t.isList he (by rw [ea]; exact q)⟩
 | _=>cases hg

def Iw (p:Int->Int->D) (a b:D):Option D:=match a,b with
 | .int i,.int j=>some (p i j)
 | _,_=>none
def N1:=Iw fun i j=>.bl (decide (i < j))
def Jq:=Iw fun i j=>.bl (decide (i<=j))
def HA:=Iw fun i j=>.bl (decide (j < i))
def Ki:=Iw fun i j=>.bl (decide (j<=i))
theorem dJ {K:Rf} {g:Int->Int->Bool}:dH K (Ej fun i j=>.bl (g i j)) (Iw fun i j=>.bl (g i j)):=fun a b d x y O H Q hO hg ha hb q=>by
 cases a with
 | int i =>
  cases b with
  | int j=>cases hg; exact⟨i,j,gE.mp ha,gE.mp hb,q _ H (bS.refl H) (j7.mpr rfl)⟩
  | _=>cases hg
 | _=>cases hg

theorem zI {K:Rf} {g:Int->Int->Int}:dH K (Ej fun i j=>.int (g i j)) (Iw fun i j=>.int (g i j)):=fun a b d x y O H Q hO hg ha hb q=>by
 cases a with
 | int i =>
  cases b with
  | int j=>cases hg; exact⟨i,j,gE.mp ha,gE.mp hb,q _ H (bS.refl H) (gE.mpr rfl)⟩
  | _=>cases hg
 | _=>cases hg
def KN (c:Int->Int->Bool) (p:Int->Int->Int) (a b:D):Option D:=match a,b with
 | .int i,.int j=>if c i j then some (.int (p i j)) else none
 | _,_=>none
theorem mM {K:Rf} {C:Int->Int->Prop} {c:Int->Int->Bool} {g:Int->Int->Int} (hc:∀ i j,c i j=true->C i j):dH K (rI C fun i j=>.int (g i j)) (KN c g):=fun a b d x y O H Q hO hg ha hb q=>by
 cases a with
 | int i =>
  cases b with
  | int j =>
   obtain⟨h1,h2⟩:=bZ hg
   subst h2
   exact⟨i,j,gE.mp ha,gE.mp hb,hc i j h1,q _ H (bS.refl H) (gE.mpr rfl)⟩
  | _=>cases hg
 | _=>cases hg
def jt:=Iw fun i j=>.int (i - j)
def mY:=KN (fun i j=>decide ((-(2 ^ 64) < i/\i < 2 ^ 64)\/(-(2 ^ 64) < j/\j < 2 ^ 64))) (·*·)
def HM (_ j:Int):Prop:=0 < j/\j < 10 ^ 200
theorem bB:j3 X (S9 .FloorDiv) (rI HM fun i j=>.int (i / j)):=Ld fun i j _ _ _ _ _ hc q=>by
 have h1:(0:Int) < j:=hc.1
 have h2:j < 10 ^ 200:=hc.2
 refine PyProof.Rows.floordiv_int ‹0› (by rw [Int.fdiv_eq_ediv_of_nonneg i ‹0›]; exact q) (.inl (PyProof.noPylong_of_log2 ?_))
 have h3:j.natAbs < 10 ^ 200:=by omega
 rw [Nat.log2_lt ‹0›]
 exact Pl h3 (by decide +kernel)
def dR:=KN (fun _ j=>decide (0 < j/\j < 10 ^ 200)) (· / ·)
def bX:=KN (fun _ j=>decide (0 < j)) (·%·)
def qA:=KN (fun i j=>decide (0<=j/\j<=1000000/\i.natAbs < 2 ^ 64)) fun i j=>i ^ j.toNat
theorem fg {K:Rf}:dH K (Ej fun i j=>.int (i - j)) jt:=zI
theorem ji {K:Rf}:dH K (rI Ji fun i j=>.int (i*j)) mY:=mM fun i j h=>by have q:=of_decide_eq_true h; exact q
theorem cq {K:Rf}:dH K (rI HM fun i j=>.int (i / j)) dR:=mM fun i j h=>by have q:=of_decide_eq_true h; exact q
theorem bf {K:Rf}:dH K (rI (fun _ j=>0 < j) fun i j=>.int (i%j)) bX:=mM fun _ _ h=>of_decide_eq_true h
theorem n6 {K:Rf}:dH K (rI JB fun i j=>.int (i ^ j.toNat)) qA:=mM fun i j h=>by have q:=of_decide_eq_true h; exact q
def JF (K:Rf):R2:=fun x y H Q=>∃ l b xs zs,x=.ref l/\y=.ref b/\nN K H l xs/\nN K H b zs/\xs.length+zs.length<=Sx/\∀ p,H p=none->Q (.ref p) (upd H p (.lst (xs++zs)))
theorem Gx:j3 X (S9 .Add) (JF X.K):=by
 intro pins s σ H x y v u Q I rx ry h
 obtain⟨l,b,xs,zs,rfl,rfl,hH,hB,hz,q⟩:=h
 cases rx
 cases ry
 obtain⟨its,r,t1,_⟩:=I.list hH
 obtain⟨its2,r2,t2,_⟩:=I.list hB
 obtain⟨⟨c1,d1,dt1,sl1⟩,n1,ho,hc,hd,hdt⟩:=t1
 obtain⟨⟨c2,d2,dt2,sl2⟩,n2,ho2,hc2,hd2,hdt2⟩:=t2
 simp only at hc hd hdt hc2 hd2 hdt2
 subst hc hd hdt hc2 hd2 hdt2
 have z1:=r.length
 have z2:=r2.length
 refine Tp ⟨_,ho,rfl⟩ ⟨_,ho2,rfl⟩ noFill_list_add seq_list_add F.slot_list_add F.entry_list_add (F.args_list_add_2 _ _) (PyProof.Rows.list_addW l b its.toArray its2.toArray n1 n2 none none sl1 sl2 (by rw [Oy,Oy]; omega)) ⟨ho,ho2,?_⟩
 have ea:its.toArray++its2.toArray=(its++its2).toArray:=by simp
 rw [ea]
 exact⟨.ref _,_,I.lnew (t':=s.toks) (r.append r2) (by rw [OW]; omega),rfl,q _ I.fresh⟩
def HN (K:Rf):R2:=fun x y H Q=>∃ a b xs ys,x=.ref a/\y=.ref b/\pY K H a xs/\pY K H b ys/\xs.length+ys.length<=Sx /\
 (xs=[]->Q (.ref b) H)/\(xs≠[]->ys=[]->Q (.ref a) H)/\(xs≠[]->ys≠[]->∀ p,H p=none->Q (.ref p) (upd H p (.tup (xs++ys))))
theorem EL:j3 X (S9 .Add) (HN X.K):=by
 intro pins s σ H x y v u Q I rx ry h
 obtain⟨a,b,xs,ys,ex,ey,ha,hb,hz,q0,q1,q2⟩:=h
 by_cases hx:xs=[]
 ·subst ex ey
  cases rx
  cases ry
  obtain⟨its,r1,p1,_⟩:=I.tuple ha
  obtain⟨its2,r2,p2,_⟩:=I.tuple hb
  obtain⟨⟨cls,dd,data,sl⟩,ho,hc,n,hd⟩:=id p1
  obtain⟨⟨cls2,dd2,data2,sl2⟩,ho2,hc2,n2,hd2⟩:=id p2
  simp only at hc hd hc2 hd2
  subst hc hd hc2 hd2
  have e:its=[]:=r1.nil_iff.mpr hx
  exact Tp ⟨_,ho,rfl⟩ ⟨_,ho2,rfl⟩ Tq Tr F.slot_tuple_add F.entry_tuple_add (F.args_tuple_add_2 _ _)
   (PyProof.Rows.tuple_addW0 a b its.toArray its2.toArray n n2 dd dd2 sl sl2 (by rw [e]; rfl)) ⟨ho,ho2,⟨.ref b,H,I,rfl,q0 hx⟩⟩
 ·exact Fy pins s σ H x y v u Q I rx ry ⟨a,b,xs,ys,ex,ey,ha,hb,hx,hz,q1 hx,q2 hx⟩
def bJ (a b:D):Option D:=match a,b with
 | .int i,.int j=>some (.int (i+j))
 | .str x,.str y=>if small (x.length+y.length) then some (.str (x++y)) else none
 | .lst xs,.lst ys=>if small (xs.length+ys.length) then some (.lst (xs++ys)) else none
 | .tup xs,.tup ys=>if small (xs.length+ys.length) then some (.tup (xs++ys)) else none
 | _,_=>none
theorem aM:j3 X (S9 .Add) (rD X.K bJ):=by
 intro pins s σ H x y u v Q I rx ry ⟨O,a,b,d,hO,ha,hb,hg,q⟩
 cases a with
 | int i =>
  cases b with
  | int j =>
   cases hg
   exact IX pins s σ H x y u v Q I rx ry ⟨i,j,gE.mp ha,gE.mp hb,q _ H (bS.refl H) (gE.mpr rfl)⟩
  | _=>cases hg
 | str i =>
  cases b with
  | str j =>
   obtain⟨h1,h2⟩:=bZ hg
   subst h2
   exact zK pins s σ H x y u v Q I rx ry ⟨i,j,gz.mp ha,gz.mp hb,fe h1,q _ H (bS.refl H) (gz.mpr rfl)⟩
  | _=>cases hg
 | lst xs =>
  cases b with
  | lst ys =>
   obtain⟨h1,h2⟩:=bZ hg
   subst h2
   rw [cT] at ha hb
   obtain⟨p,vs,ex,g1,g2⟩:=ha
   obtain⟨p',vs',ey,g1',g2'⟩:=hb
   refine Gx pins s σ H x y u v Q I rx ry ⟨p,p',vs,vs',ex,ey,(aY H O).seq g1,(aY H O).seq g1',?_,fun r hr=>?_⟩
   ·rw [<- g2.length,<- g2'.length]; exact fe h1
   ·exact q _ _ (cz hr _) (eF hO hr (g2.append g2'))
  | _=>cases hg
 | tup xs =>
  cases b with
  | tup ys =>
   obtain⟨h1,h2⟩:=bZ hg
   subst h2
   have da:=ha
   have db:=hb
   rw [cS] at ha hb
   obtain⟨p,vs,ex,g1,g2⟩:=ha
   obtain⟨p',vs',ey,g1',g2'⟩:=hb
   have l1:=g2.length
   have l2:=g2'.length
   refine EL pins s σ H x y u v Q I rx ry ⟨p,p',vs,vs',ex,ey,cn (aY H O) g1,cn (aY H O) g1',?_,fun z=>?_,fun z z'=>?_,fun z z' r hr=>?_⟩
   ·rw [<- l1,<- l2]; exact fe h1
   ·have e:xs=[]:=List.length_eq_zero_iff.mp (by rw [l1,z]; rfl)
    rw [<- ey]
    refine q _ H (bS.refl H) ?_
    rw [e,PR]; exact db
   ·have e:ys=[]:=List.length_eq_zero_iff.mp (by rw [l2,z']; rfl)
    rw [<- ex]
    refine q _ H (bS.refl H) ?_
    rw [e,OI]; exact da
   ·exact q _ _ (cz hr _) (e6 hO hr (g2.append g2'))
  | _=>cases hg
 | _=>cases hg

def aE (a b:D):Option D:=match a,b with
 | .tup xs,.int i=>pN xs i
 | .lst xs,.int i=>pN xs i
 | .str x,.int i=>if small x.length then (pN x.cps.toList i).bind fun c=>some (.str ⟨#[c]⟩) else none
 | _,_=>none
theorem vJ {K:Rf} {H:Hp} {ds:List D} {vs:List V} {i:Int} {d:D} (h:bD K H ds vs) (e:pN ds i=some d):∃ v,pN vs i=some v/\dj K H d v:=by
 unfold pN at e ⊢
 obtain⟨j,e1,e2⟩:=bind_some e
 rw [<- h.length,e1]
 exact h.get e2
theorem Mr:Kx X (rD X.K aE):=by
 intro value slice pins s σ H x y u v Q I rx ry ⟨O,a,b,d,hO,ha,hb,hg,q⟩ hsub
 cases a with
 | tup xs =>
  cases b with
  | int i =>
   rw [cS] at ha
   obtain⟨p,vs,ex,g1,g2⟩:=ha
   obtain⟨w,e1,e2⟩:=vJ g2 hg
   refine IZ value slice pins s σ H x y u v Q I rx ry ?_ hsub; exact⟨p,vs,i,w,ex,gE.mp hb,cn (aY H O) g1,e1,q w H (bS.refl H) e2⟩
  | _=>cases hg
 | lst xs =>
  cases b with
  | int i =>
   rw [cT] at ha
   obtain⟨p,vs,ex,g1,g2⟩:=ha
   obtain⟨w,e1,e2⟩:=vJ g2 hg
   refine A9 value slice pins s σ H x y u v Q I rx ry ?_ hsub; exact⟨p,vs,i,w,ex,gE.mp hb,(aY H O).seq g1,e1,q w H (bS.refl H) e2⟩
  | _=>cases hg
 | str z =>
  cases b with
  | int i =>
   have hg':(if small z.length then (pN z.cps.toList i).bind fun c=>some (D.str ⟨#[c]⟩) else none)=some d:=hg
   cases hs:small z.length with
   | false=>rw [hs] at hg'; cases hg'
   | true =>
    rw [hs] at hg'
    obtain⟨c,e1,e2⟩:=bind_some hg'
    cases e2
    refine Im value slice pins s σ H x y u v Q I rx ry ?_ hsub; exact⟨z,i,c,gz.mp ha,gE.mp hb,fe hs,e1,q _ H (bS.refl H) (gz.mpr rfl)⟩
  | _=>cases hg
 | _=>cases hg
theorem NQ {a b:SJ} {fa fb:FX} {pos:Pos} (ha:FE X a fa) (hb:FE X b fb) (hs:oC b):FE X (.Subscript a b pos) (f2 aE fa fb) :=
 PE.weak (Hq Mr ha hb hs) (v8 aq)

def cutD {α:Type} (xs:List α) (lo hi:Option Int):List α:=(xs.drop (HT.sIx xs.length 0 lo)).take (HT.sIx xs.length xs.length hi - HT.sIx xs.length 0 lo)
theorem qm {α:Type} (xs:List α) (lo hi:Option Int):(cutD xs lo hi).length<=xs.length:=by
 unfold cutD
 rw [OL,O0]
 omega
theorem uk {M:Model} {A:SE} {E:Sq->SF->Prop} {s:SF} {t:Su} {items:Array Sq} {Q:Bool->SF->Prop} (ht:R0 s.heap t items) (h:Q true s):SH M A (Builtin.Tuple.tupleIsExact (.ref t)) Q E s:=by
 unfold Builtin.Tuple.tupleIsExact
 refine SZ (Tx ht.typeIs ?_)
 exact S6 h
theorem iO {prog:Ss} {w:Sr} {A:SE} {E:Sq->SF->Prop} {s:SF} {t sl:Su} {items:Array Sq} {vl vu:Sq} {lo hi:Option Int} {Q:Sq->SF->Prop} (ht:R0 s.heap t items) (hs:s.heap.IsSliceOf sl vl vu .none) (pl:Ts vl lo) (pu:Ts vu hi)
  (hw:HT.sIx items.size 0 lo=0/\HT.sIx items.size items.size hi=items.size) (h:Q (.ref t) s):SH (model prog w) A (getItem (.ref t) (.ref sl)) Q E s:=by
 obtain⟨os,hos,hcs,hds⟩:=id hs
 have hTs:s.TypeIs (.ref sl) "slice":=⟨os,hos,hcs⟩
 unfold getItem
 try with_reducible refine S0 ?_
 first | refine SZ (S6 ?_) | skip
 refine SZ (Tu ht.typeIs (by decide) ?_)
 refine SZ (Tv (name:=Str.ofString "__getitem__") ht.typeIs RY
  (Tw RY ht.typeIs PyProof.Rows.entry_tuple_getitem ?_ (PyProof.Rows.args_tuple_getitem _ _)))
 show SH _ _ (Builtin.Tuple.tupleItemsOf (.ref t) >>= _) _ _ s
 refine SZ (PyProof.Rows.tupleItemsOf_ ht ?_)
 refine SZ (Tx hTs ?_)
 rw [if_pos (by decide)]
 refine SZ (HT.p5 hs pl pu ?_)
 have hyes:(((HT.sIx items.size 0 lo:Nat):Int)==0 && (1:Int)==1 && (HT.sIx items.size items.size hi - HT.sIx items.size 0 lo)==items.size)=true:=by
  rw [hw.1,hw.2]
  simp
 show SH _ _ (if (((HT.sIx items.size 0 lo:Nat):Int)==0 && (1:Int)==1 && (HT.sIx items.size items.size hi - HT.sIx items.size 0 lo)==items.size)=true then _ else _) _ _ s
 rw [if_pos hyes]
 refine SZ (uk ht ?_)
 rw [if_pos rfl]
 first
  | exact SZ (TL (S6 ⟨_,rfl,S6 h⟩))
  | exact SZ (TL (SZ (S6 (S6 ⟨_,rfl,S6 h⟩))))
def lG (a:D) (lo hi:Option Int):Option D:=match a with
 | .lst xs=>some (.lst (cutD xs lo hi))
 | .tup xs=>some (.tup (cutD xs lo hi))
 | .str x=>if small x.length then some (.str ⟨(cutD x.cps.toList lo hi).toArray⟩) else none
 | _=>none
theorem Hz (v:Option Int) (d n:Nat) (hd:d<=n):(match v with | none=>(d:Int) | some i=>if (1:Int) > 0 then max 0 (min (if i < 0 then i+(n:Int) else i) (n:Int)) else max (-1) (min (if i < 0 then i+(n:Int) else i) ((n:Int) - 1)))=((HT.sIx n d v:Nat):Int):=by
 cases v with
 | none=>rfl
 | some i =>
  show (if (1:Int) > 0 then max 0 (min (if i < 0 then i+(n:Int) else i) (n:Int)) else max (-1) (min (if i < 0 then i+(n:Int) else i) ((n:Int) - 1)))=(((if i < 0 then (i+(n:Int)).toNat else min i.toNat n):Nat):Int)
  rw [if_pos (by decide)]
  by_cases h:i < 0
  ·rw [if_pos h,if_pos h]; omega
  ·rw [if_neg h,if_neg h]; omega
theorem DF (lo hi:Option Int) (n:Nat):Builtin.Str.strSliceIndices lo hi 1 n=(List.range (HT.sIx n n hi - HT.sIx n 0 lo)).map fun k=>HT.sIx n 0 lo+k:=by
 have e1:=Hz lo 0 n (OH _)
 have e2:=Hz hi n n (Ow _)
 have e:Builtin.Str.strSliceIndices lo hi 1 n=sliceRange ((HT.sIx n 0 lo:Nat):Int) ((HT.sIx n n hi:Nat):Int) 1:=by
  rw [<- e1,<- e2]
  cases lo <;> cases hi <;> rfl
 rw [e]
 unfold sliceRange
 dsimp only
 rw [if_pos (by decide:(1:Int) > 0)]
 have e3:(if ((HT.sIx n 0 lo:Nat):Int) < ((HT.sIx n n hi:Nat):Int) then (((HT.sIx n n hi:Nat):Int) - ((HT.sIx n 0 lo:Nat):Int)+1 - 1) / 1 else 0:Int).toNat=HT.sIx n n hi - HT.sIx n 0 lo:=by
  rw [OY]
  split <;> omega
 rw [e3]
 refine PV fun k _=>?_
 omega
theorem Eh {α:Type} (l:List α) (a:Nat):∀ n:Nat,((List.range n).map fun k=>a+k).filterMap (fun i=>l[i]?)=(l.drop a).take n
 | 0=>by simp
 | n+1=>by
  rw [List.range_succ,PX,PY,Eh l a n,PZ,P0]
  cases e:l[a+n]? <;> simp [e]
theorem Cq (x:Str) (lo hi:Option Int):Txt.slice x lo hi=⟨(cutD x.cps.toList lo hi).toArray⟩:=by
 have hl:x.cps.toList.length=x.length:=by simp [Str.length]
 have pick:(Builtin.Str.strSliceIndices lo hi 1 x.length).filterMap (x.cps[·]?)=cutD x.cps.toList lo hi:=by
  rw [DF]
  have q:=Eh x.cps.toList (HT.sIx x.length 0 lo) (HT.sIx x.length x.length hi - HT.sIx x.length 0 lo)
  unfold cutD
  rw [hl,<- q]
  congr 1
  funext i
  simp
 unfold Txt.slice
 split
 ·rename_i h
  have h':(Builtin.Str.strSliceIndices lo hi 1 x.length).length=x.length:=by simpa using h
  rw [DF,OC,P4] at h'
  have h1:=HT.Jg x.length x.length (Ow _) hi
  have z1:HT.sIx x.length 0 lo=0\/x.length=0:=by omega
  have e:cutD x.cps.toList lo hi=x.cps.toList:=by
   unfold cutD
   rw [hl,h']
   rcases z1 with z1 | z1
   ·rw [z1,Py,<- hl,P5]
   ·have:x.cps.toList=[]:=List.length_eq_zero_iff.mp (by rw [hl]; exact z1)
    rw [this]; simp
  rw [e]
 ·rw [pick]
def Mi (K:Rf):V->Option Int->Option Int->Hp->VK->Prop:=fun x lo hi H Q=>∃ O a d,eP H O/\dj K (hid H O) a x/\lG a lo hi=some d/\∀ v H',bS H H'->dj K (hid H' O) d v->Q v H'
theorem bD.cut {K:Rf} {H:Hp} {ds:List D} {vs:List V} (h:bD K H ds vs) (lo hi:Option Int):bD K H (cutD ds lo hi) (yI vs lo hi):=by
 unfold cutD yI
 rw [h.length]
 exact(h.drop _).take _
theorem NC:LQ X (Mi X.K):=by
 intro pins s σ H x v vl vu lo hi sl Q I rx hs pl pu ⟨O,a,d,hO,ha,hg,q⟩
 cases a with
 | lst xs =>
  cases hg
  rw [cT] at ha
  obtain⟨p,vs,ex,g1,g2⟩:=ha
  exact Gz pins s σ H x v vl vu lo hi sl Q I rx hs pl pu ⟨p,vs,ex,(aY H O).seq g1,fun r hr=>q _ _ (cz hr _) (eF hO hr (g2.cut lo hi))⟩
 | tup xs =>
  cases hg
  have da:=ha
  rw [cS] at ha
  obtain⟨p,vs,ex,g1,g2⟩:=ha
  by_cases hw:HT.sIx vs.length 0 lo=0/\HT.sIx vs.length vs.length hi=vs.length
  ·subst ex
   cases rx
   obtain⟨its,r,ht,hz⟩:=I.tuple (cn (aY H O) g1)
   have hlen:its.toArray.size=vs.length:=by rw [Oy]; exact r.length.symm
   refine⟨"tuple",_,PyProof.Rows.slot_tuple_getitem.lookup,ht.typeIs,iO ht hs pl pu (by rw [hlen]; exact hw) ⟨.ref p,H,I,rfl,q _ H (bS.refl H) ?_⟩⟩
   have e:cutD xs lo hi=xs:=by
    unfold cutD
    rw [g2.length,hw.1,hw.2,P6,Py,<- g2.length,P5]
   rw [e]; exact da
  ·exact Id pins s σ H x v vl vu lo hi sl Q I rx hs pl pu ⟨p,vs,ex,cn (aY H O) g1,hw,fun r hr=>q _ _ (cz hr _) (e6 hO hr (g2.cut lo hi))⟩
 | str z =>
  obtain⟨h1,h2⟩:=bZ hg
  subst h2
  rw [gz] at ha
  subst ha
  obtain⟨t,rfl⟩:=rx
  have fin:∀ t' tk,EP X pins σ Q (.str (Txt.slice z lo hi) t') { s with toks:=tk }:=fun t' tk=>by
   rw [Cq]
   exact⟨.str _,H,I.tok _,⟨_,rfl⟩,q _ H (bS.refl H) (gz.mpr rfl)⟩
  obtain⟨os,hos,hcs,hds⟩:=id hs
  have hz:=fe h1
  refine⟨"str",_,F.slot_str_getitem.lookup,typeIs_str _ _ _,?_⟩
  cases pl with
  | none =>
   cases pu with
   | none=>exact TN (l:=none) (u:=none) (st:=none) ⟨os,hos,hcs,hds⟩ rfl (TQ ⟨Og (Txt.slice_le z _ _) hz,fun t' k=>fin t' k⟩)
   | int j tj=>exact TN (l:=none) (u:=some (j,tj)) (st:=none) ⟨os,hos,hcs,hds⟩ rfl (TQ ⟨Og (Txt.slice_le z _ _) hz,fun t' k=>fin t' k⟩)
  | int i ti =>
   cases pu with
   | none=>exact TN (l:=some (i,ti)) (u:=none) (st:=none) ⟨os,hos,hcs,hds⟩ rfl (TQ ⟨Og (Txt.slice_le z _ _) hz,fun t' k=>fin t' k⟩)
   | int j tj=>exact TN (l:=some (i,ti)) (u:=some (j,tj)) (st:=none) ⟨os,hos,hcs,hds⟩ rfl (TQ ⟨Og (Txt.slice_le z _ _) hz,fun t' k=>fin t' k⟩)
 | _=>cases hg
def aK:az->R (Option Int):=fun _=>.ok none
def zR:D->Option (Option Int)
 | .int i=>some (some i)
 | _=>none
def bi (f:FX):az->R (Option Int):=fun ρ=>(f ρ).bind fun d=>rO (zR d)
def N3 (X:Cx) (F:az->R (Option Int)):TO:=fun σ H Q=>∃ O ρ,eV X.K O H ρ σ/\i3 X σ O H (F ρ) fun o=>∀ H',bS H H'->Q o H'
def FO (X:Cx) (e:Option SJ) (F:az->R (Option Int)):Prop:=PO X e (N3 X F)
theorem LD:FO X none aK:=fun pins s σ H Q I ⟨O,ρ,E,q⟩=>G4 pins s σ H Q I (q H (bS.refl H))
theorem L5 {e:SJ} {f:FX} (h:FE X e f):FO X (some e) (bi f):=fun pins s σ H Q I ⟨O,ρ,E,hF⟩ =>
 Gi h pins s σ H Q I ⟨O,ρ,E,(i3.bind hF).imp fun d hF v H1 s1 d1=>by
  obtain⟨o,e,q⟩:=i3.rO hF
  cases d with
  | int i =>
   cases e
   exact⟨i,gE.mp d1,q H1 s1⟩
  | _=>cases e⟩
def aV (f:FX) (l h:az->R (Option Int)):FX:=fun ρ=>(f ρ).bind fun a=>(l ρ).bind fun lo=>(h ρ).bind fun hi=>rO (lG a lo hi)
theorem JM {e:SJ} {f:FX} {l h:az->R (Option Int)} {lo hi:Option SJ} {p2 pos:Pos} (he:FE X e f) (hl:FO X lo l) (hh:FO X hi h):FE X (.Subscript e (.Slice lo hi none p2) pos) (aV f l h) :=
 PE.weak (E6 NC he hl hh) fun σ H Q ⟨O,ρ,E,hF⟩=>⟨O,ρ,E,(i3.bind hF).imp fun a hF x H1 s1 d1=>⟨O,ρ,E.same s1,((i3.bind hF).mono s1).imp fun lo' hF H2 s2=>⟨O,ρ,E.same (s1.trans s2),((i3.bind hF).mono (s1.trans s2)).imp fun hi' hF H3 s3=>by
  obtain⟨d,e,q⟩:=i3.rO hF
  exact⟨O,a,d,E.all.same ((s1.trans s2).trans s3),d1.mono (de (s2.trans s3)),e,fun v H4 s4 d4=>q v H4 (((s1.trans s2).trans s3).trans s4) d4⟩⟩⟩⟩
end
end TG
namespace TG
open PySem PySem.Spec L2
variable [bp]

def zD (K:Rf) (g:List D->Option D):List V->Hp->VK->Prop:=fun xs H Q=>∃ O ds d,eP H O/\bD K (hid H O) ds xs/\g ds=some d/\∀ v H',bS H H'->dj K (hid H' O) d v->Q v H'
theorem rV {K:Rf} {g:List D->Option D}:Bl K (zD K g) g:=fun ds d xs O H Q hO hg hd q=>⟨O,ds,d,hO,hd,hg,q⟩
section
variable {X:Cx} {x:Str} {p pos:Pos} {e:SJ} {es:List SJ} {id T:String} {g:List D->Option D} {f:az->R (List D)}
theorem J2 (hc:et X (.builtin id) (zD X.K g)) (hg:Gl X x) (hm:X.mg x=none) (hv:SD x=some (.builtin id)) (ha:FA X (e::es) f) (hn:x ≠ "__name__":=by decide) (hdb:(x==("__debug__":Str))=false:=by decide)
  (hns:(e::es).all noStar=true:=by rfl):FE X (.Call (.Name x p) (e::es) [] pos) (fL g f) :=
 PE.weak (sB hc hg hm hv ha hn hdb (dY (O1 _ _ ▸ hns).1) (fN (O1 _ _ ▸ hns).2)) (EV rV)
theorem Jr (hc:et X (.type T) (zD X.K g)) (hg:Gl X x) (hm:X.mg x=none) (hv:SD x=some (.type T)) (ha:FA X (e::es) f) (hn:x ≠ "__name__":=by decide) (hdb:(x==("__debug__":Str))=false:=by decide)
  (hns:(e::es).all noStar=true:=by rfl):FE X (.Call (.Name x p) (e::es) [] pos) (fL g f) :=
 PE.weak (vA hc hg hm hv ha hn hdb (dY (O1 _ _ ▸ hns).1) (fN (O1 _ _ ▸ hns).2)) (EV rV)

def dC:List D->Option D
 | [.lst xs]=>some (.int xs.length)
 | [.tup xs]=>some (.int xs.length)
 | [.str x]=>if small x.length then some (.int x.length) else none
 | _=>none
theorem bE:et X (.builtin "len") (zD X.K dC):=by
 intro pins s σ H xs us Q I r ⟨O,ds,d,hO,hd,hg,q⟩
 unfold dC at hg
 split at hg
 ·rename_i ys
  cases hg
  obtain⟨v,ev,h1⟩:=hd.one
  rw [cT] at h1
  obtain⟨p,vs,ep,g1,g2⟩:=h1
  exact o9 pins s σ H xs us Q I r ⟨p,vs,by rw [ev,ep],.inl ((aY H O).seq g1),q _ H (bS.refl H) (gE.mpr (by rw [g2.length]))⟩
 ·rename_i ys
  cases hg
  obtain⟨v,ev,h1⟩:=hd.one
  rw [cS] at h1
  obtain⟨p,vs,ep,g1,g2⟩:=h1
  exact o9 pins s σ H xs us Q I r ⟨p,vs,by rw [ev,ep],.inr (cn (aY H O) g1),q _ H (bS.refl H) (gE.mpr (by rw [g2.length]))⟩
 ·rename_i z
  obtain⟨h1,h2⟩:=bZ hg
  subst h2
  obtain⟨v,ev,h1'⟩:=hd.one
  exact xk pins s σ H xs us Q I r ⟨z,by rw [ev,gz.mp h1'],fe h1,q _ H (bS.refl H) (gE.mpr rfl)⟩
 ·cases hg
def cI:List D->Option D
 | [.lst xs]=>some (.tup xs)
 | [.tup xs]=>some (.tup xs)
 | _=>none
theorem bQ:et X (.type "tuple") (zD X.K cI):=by
 intro pins s σ H xs us Q I r ⟨O,ds,d,hO,hd,hg,q⟩
 unfold cI at hg
 split at hg
 ·rename_i ys
  cases hg
  obtain⟨v,ev,h1⟩:=hd.one
  rw [cT] at h1
  obtain⟨p,vs,ep,g1,g2⟩:=h1
  exact mZ pins s σ H xs us Q I r ⟨p,vs,by rw [ev,ep],.inl ⟨(aY H O).seq g1,fun l hl=>q _ _ (cz hl _) (e6 hO hl g2)⟩⟩
 ·rename_i ys
  cases hg
  obtain⟨v,ev,h1⟩:=hd.one
  have h0:=h1
  rw [cS] at h1
  obtain⟨p,vs,ep,g1,g2⟩:=h1
  rw [ep] at h0
  exact mZ pins s σ H xs us Q I r ⟨p,vs,by rw [ev,ep],.inr ⟨cn (aY H O) g1,q _ H (bS.refl H) h0⟩⟩
 ·cases hg
def kZ:List D->Option D
 | [.lst xs]=>some (.lst xs)
 | [.tup xs]=>some (.lst xs)
 | _=>none
theorem nR:et X (.type "list") (zD X.K kZ):=by
 intro pins s σ H xs us Q I r ⟨O,ds,d,hO,hd,hg,q⟩
 unfold kZ at hg
 split at hg
 ·rename_i ys
  cases hg
  obtain⟨v,ev,h1⟩:=hd.one
  rw [cT] at h1
  obtain⟨p,vs,ep,g1,g2⟩:=h1
  exact kL pins s σ H xs us Q I r ⟨p,vs,by rw [ev,ep],.inl ((aY H O).seq g1),fun l hl=>q _ _ (cz hl _) (eF hO hl g2)⟩
 ·rename_i ys
  cases hg
  obtain⟨v,ev,h1⟩:=hd.one
  rw [cS] at h1
  obtain⟨p,vs,ep,g1,g2⟩:=h1
  exact kL pins s σ H xs us Q I r ⟨p,vs,by rw [ev,ep],.inr (cn (aY H O) g1),fun l hl=>q _ _ (cz hl _) (eF hO hl g2)⟩
 ·cases hg
def uR:List D->Option D
 | [.int i,.int j]=>some (.int (if j > i then j else i))
 | _=>none
def za:List D->Option D
 | [.int i,.int j]=>some (.int (if j < i then j else i))
 | _=>none
def zv:List D->Option D
 | [.int i]=>some (.int i)
 | [.bl k]=>some (.int (if k then 1 else 0))
 | _=>none
theorem nG (hc:X.calm=true):et X (.builtin "max") (zD X.K uR):=by
 intro pins s σ H xs us Q I r ⟨O,ds,d,hO,hd,hg,q⟩
 unfold uR at hg
 split at hg
 ·rename_i i j
  cases hg
  obtain⟨v,w,ev,h1,h2⟩:=hd.two
  exact Ct hc pins s σ H xs us Q I r ⟨i,j,by rw [ev,gE.mp h1,gE.mp h2],q _ H (bS.refl H) (gE.mpr rfl)⟩
 ·cases hg
theorem tN (hc:X.calm=true):et X (.builtin "min") (zD X.K za):=by
 intro pins s σ H xs us Q I r ⟨O,ds,d,hO,hd,hg,q⟩
 unfold za at hg
 split at hg
 ·rename_i i j
  cases hg
  obtain⟨v,w,ev,h1,h2⟩:=hd.two
  exact C8 hc pins s σ H xs us Q I r ⟨i,j,by rw [ev,gE.mp h1,gE.mp h2],q _ H (bS.refl H) (gE.mpr rfl)⟩
 ·cases hg
theorem Ak:et X (.type "int") (zD X.K zv):=by
 intro pins s σ H xs us Q I r ⟨O,ds,d,hO,hd,hg,q⟩
 unfold zv at hg
 split at hg
 ·rename_i i
  cases hg
  obtain⟨v,ev,h1⟩:=hd.one
  exact uW pins s σ H xs us Q I r (.inl ⟨i,by rw [ev,gE.mp h1],q _ H (bS.refl H) (gE.mpr rfl)⟩)
 ·rename_i k
  cases hg
  obtain⟨v,ev,h1⟩:=hd.one
  exact uW pins s σ H xs us Q I r (.inr ⟨k,by rw [ev,j7.mp h1],q _ H (bS.refl H) (gE.mpr rfl)⟩)
 ·cases hg

def HS:D->String
 | .non => "NoneType"
 | .bl _ => "bool"
 | .int _ => "int"
 | .str _ => "str"
 | .tup _ => "tuple"
 | .lst _ => "list"
 | .dct _ _ => "dict"
 | _ => ""
def Gk (T:String) (d:D):Bool:=match d with
 | .bl _=>T == "bool" || T == "int"
 | .non=>T == "NoneType"
 | .int _=>T == "int"
 | .str _=>T == "str"
 | .tup _=>T == "tuple"
 | .lst _=>T == "list"
 | .dct _ _=>T == "dict"
 | _=>false
def yq (K:Rf) (T:String):Prop:=∀ d:D,top d=true->Rz K (.type (HS d)) (.type T)=some (Gk T d)
def Nz (K:Rf) (T:String):List V->Hp->VK->Prop:=fun xs H Q=>∃ O x d,xs=[x,.ty T]/\top d=true/\dj K (hid H O) d x/\Q (.bl (Gk T d)) H
theorem EQ (ok:yq X.K T):et X (.builtin "isinstance") (Nz X.K T):=by
 intro pins s σ H xs us Q I r ⟨O,x,d,ex,td,hd,q⟩
 subst ex
 obtain⟨u,w',rfl,rx,rt⟩:=vals2 r
 cases rt
 have e:=ok d td
 have fin:∀ tk,EP X pins σ Q (.bool (Gk T d)) { s with toks:=tk }:=fun tk=>⟨.bl _,H,I.tok _,rfl,q⟩
 cases fV I td (hd.mono (aY H O)) rx with
 | non=>exact RA PySem.W.kitx_none I.kIn True.intro e (fun z=>nomatch z) fin
 | bl b=>exact RA PySem.W.kitx_bool I.kIn True.intro e (fun z=>nomatch z) fin
 | int i t=>exact RA PySem.W.kitx_int I.kIn True.intro e (fun z=>nomatch z) fin
 | str y t=>exact RA PySem.W.kitx_str I.kIn True.intro e (fun z=>nomatch z) fin
 | tup h rv t =>
  obtain⟨o,h1,h2,_⟩:=t
  exact RA PySem.W.kitx_tuple I.kIn ⟨o,h1,h2⟩ e (fun z=>nomatch z) fin
 | lst h rv t =>
  obtain⟨o,h1,h2,_⟩:=t
  exact RA PySem.W.kitx_list I.kIn ⟨o,h1,h2⟩ e (fun z=>nomatch z) fin
theorem yN:SD "isinstance"=some (.builtin "isinstance"):=by first | rfl | decide +kernel
def nW (T:String) (d:D):Option D:=if top d then some (.bl (Gk T d)) else none
def lP (T:String) (f:FX):FX:=f1 (nW T) f
theorem MV {f:FX} {xT:Str} {p2:Pos} (ok:yq X.K T) (hg:Gl X "isinstance") (hm:X.mg "isinstance"=none) (hgT:Gl X xT) (hmT:X.mg xT=none) (hvT:SD xT=some (.type T)) (he:FE X e f)
  (hn2:xT ≠ "__name__":=by decide) (hd2:(xT==("__debug__":Str))=false:=by decide)
  (hns:noStar e=true:=by rfl) :
  FE X (.Call (.Name "isinstance" p) [e,.Name xT p2] [] pos) (lP T f) :=
 PE.weak (sB (EQ ok) hg hm yN (mR he (mR (G7 (v:=.ty T) hgT hmT hvT rfl hn2 hd2) xA (dY rfl)) (dY hns)) (by decide) (by decide) (dY hns) (fN rfl)) fun σ H Q ⟨O,ρ,E,hF⟩=>⟨O,ρ,E,(i3.bind hF).imp fun a hF v H1 s1 d1=>by
  obtain⟨d,e,q⟩:=i3.rO hF
  obtain⟨h1,h2⟩:=bZ e
  subst h2
  exact⟨O,v,a,rfl,h1,d1,q _ H1 s1 (j7.mpr rfl)⟩⟩
end

section
variable {X:Cx} {a:SJ} {f:FX} {pos:Pos}
def isNon:D->Bool
 | .non=>true
 | _=>false
theorem CY {K:Rf} {H:Hp} {d:D} {v:V} (h:dj K H d v):decide (v=.non)=isNon d:=by
 cases d with
 | non=>rw [kX.mp h]; rfl
 | bl b=>rw [j7.mp h]; rfl
 | int i=>rw [gE.mp h]; rfl
 | str x=>rw [gz.mp h]; rfl
 | tup xs=>obtain⟨_,_,e,_⟩:=cS.mp h; rw [e]; rfl
 | lst xs=>obtain⟨_,_,e,_⟩:=cT.mp h; rw [e]; rfl
 | dct _ _=>obtain⟨_,_,e,_⟩:=K9.mp h; rw [e]; rfl
 | obj _ _ _=>obtain⟨_,_,e,_⟩:=K8.mp h; rw [e]; rfl
 | exc _ _ _=>obtain⟨_,_,e,_⟩:=Lq.mp h; rw [e]; rfl
def L9 (d:D):Option D:=some (.bl (isNon d))
def Ka (d:D):Option D:=some (.bl (!isNon d))
def D8 (f:FX):FX:=f1 L9 f
def Kb (f:FX):FX:=f1 Ka f
theorem Gw:∀ σ H Q,tF X (D8 f) σ H Q->tF X f σ H fun v H'=>Q (.bl (decide (v=.non))) H':=fun σ H Q ⟨O,ρ,E,hF⟩=>⟨O,ρ,E,(i3.bind hF).imp fun a hF v H1 s1 d1=>by
 obtain⟨d,e,q⟩:=i3.rO hF
 cases e
 rw [CY d1]; exact q _ H1 s1 (j7.mpr rfl)⟩
theorem MM {j pos'} (h:FE X a f):FT X (.Compare a [.Is] [.Constant .none j pos'] pos) (fB (D8 f)):=PT.weak (Ip (Ie h)) fun σ H Q q=>yZ (t:=fun σ H Q=>tF X f σ H fun v H'=>Q (.bl (decide (v=.non))) H') Gw σ H Q q
theorem JI (h:FE X a f) (he:∀ whole,isTrue a X.env whole=(do let v <- whole; standAt a.pos; holding [v] (truthy v)):=by intro _; rfl):FT X a (cu f):=PT.weak (Ey h he) fun σ H Q ⟨O,ρ,E,hF⟩=>⟨O,ρ,E,(i3.bind hF).imp fun d hF x H1 s1 d1=>by
 obtain⟨r,hF,q⟩:=i3.rO hF
 refine⟨r,?_,q H1 s1⟩
 cases d with
 | non=>cases hF; rw [kX.mp d1]; rfl
 | bl b=>cases hF; rw [j7.mp d1]; rfl
 | int i=>cases hF; rw [gE.mp d1]; rfl
 | str y =>
  obtain⟨hz,e⟩:=bZ hF
  subst e
  rw [gz.mp d1]
  refine⟨fe hz,?_⟩
  show (y.length != 0)=((y.length:Int) != 0)
  cases y.length <;> rfl
 | tup xs =>
  cases hF
  obtain⟨p,vs,e,g1,g2⟩:=cS.mp d1
  rw [e]
  refine .inr (.inl ⟨vs,cn (aY H1 O) g1,?_⟩)
  have l:=g2.length
  cases xs <;> cases vs <;> first | rfl | (simp at l)
 | lst xs =>
  cases hF
  obtain⟨p,vs,e,g1,g2⟩:=cT.mp d1
  rw [e]
  refine .inl ⟨vs,(aY H1 O).seq g1,?_⟩
  have l:=g2.length
  cases xs <;> cases vs <;> first | rfl | (simp at l)
 | _=>cases hF⟩
end

def Walk (K:Rf) (Hd:Hp) (J:It) (ds:List D):Prop :=
 ∀ (Hn:Hp) (O':List Su) (i:Nat),eP Hn O'->bS Hd (hid Hn O')->(∀ d,ds[i]?=some d->J.go i Hn/\∀ x H2,J.yld i Hn x H2->bS Hn H2/\dj K (hid H2 O') d x)/\(i=ds.length->J.stop i Hn)
def MK (X:Cx) (G:az->R (List D)):TI:=fun σ H RR=>∃ O ρ,eV X.K O H ρ σ/\i3 X σ O H (G ρ) fun ds=>∀ J H1,bS H H1->Walk X.K (hid H1 O) J ds->RR J H1
def FI (X:Cx) (tg iter:SJ) (G:az->R (List D)):Prop:=PI X tg iter (MK X G)
def rQ:D->Option (List D)
 | .lst xs=>some xs
 | .tup xs=>some xs
 | _=>none
def bT (f:FX):az->R (List D):=fun ρ=>(f ρ).bind fun d=>rO (rQ d)
section
variable {X:Cx} {tg:SJ}
theorem CJ {K:Rf} {Hd:Hp} {a:Su} {ds:List D} {vs:List V} (h:nN K Hd a vs) (g:bD K Hd ds vs):Walk K Hd (Nx K a) ds:=fun Hn O' i hO s =>
  have s':bS Hd Hn:=s.trans (aY Hn O')
  ⟨fun d e=>by
    obtain⟨v,ev,dv⟩:=g.get e
    refine⟨⟨vs,v,s'.seq h,ev⟩,fun x H2 ⟨e2,y⟩=>?_⟩
    have q:=y vs (s'.seq h)
    rw [ev] at q; cases q
    subst e2
    exact⟨bS.refl _,dv.mono s⟩,
   fun hl=>⟨vs,s'.seq h,by rw [<- g.length]; exact OD hl.symm⟩⟩
theorem Eu {K:Rf} {Hd:Hp} {a:Su} {ds:List D} {vs:List V} (h:Hd a=some (.tup vs)) (g:bD K Hd ds vs):Walk K Hd (Mp K a) ds:=fun Hn O' i hO s =>
  have s':bS Hd Hn:=s.trans (aY Hn O')
  ⟨fun d e=>by
    obtain⟨v,ev,dv⟩:=g.get e
    refine⟨⟨vs,v,cn s' h,ev⟩,fun x H2 ⟨e2,y⟩=>?_⟩
    have q:=y vs (cn s' h)
    rw [ev] at q; cases q
    subst e2
    exact⟨bS.refl _,dv.mono s⟩,
   fun hl=>⟨vs,cn s' h,by rw [<- g.length]; exact OD hl.symm⟩⟩
theorem Ma {e:SJ} {f:FX} (h:FE X e f):FI X tg e (bT f):=by
 intro pins s σ H R I ⟨O,ρ,E,hG⟩
 have hG':=i3.bind hG
 cases hf:f ρ with
 | error z=>exact Br h pins s σ H R I ⟨O,ρ,E,by rw [hf] at hG' ⊢; cases z with | none=>exact hG'.elim | some x=>exact hG'⟩
 | ok d =>
  rw [hf] at hG'
  obtain⟨ds,e1,q⟩:=i3.rO (α:=List D) (o:=rQ d) hG'
  cases d with
  | lst xs =>
   cases e1
   refine Br h pins s σ H R I ⟨O,ρ,E,?_⟩
   rw [hf]
   refine fun v H1 s1 d1=>?_
   obtain⟨p,vs,ev,g1,g2⟩:=cT.mp d1
   exact⟨p,ev,⟨vs,(aY H1 O).seq g1⟩,q _ H1 s1 (CJ g1 g2)⟩
  | tup xs =>
   cases e1
   refine HR h pins s σ H R I ⟨O,ρ,E,?_⟩
   rw [hf]
   refine fun v H1 s1 d1=>?_
   obtain⟨p,vs,ev,g1,g2⟩:=cS.mp d1
   exact⟨p,ev,⟨vs,cn (aY H1 O) g1⟩,q _ H1 s1 (Eu g1 g2)⟩
  | _=>cases e1
def cW (lo:Int) (n:Nat):List D:=(List.range n).map fun (k:Nat)=>D.int (lo+(k:Int))
theorem uo (lo:Int) (n:Nat):(cW lo n).length=n:=by unfold cW; rw [OC,P4]
theorem zM {K:Rf} {Hd:Hp} (lo:Int) (n:Nat):Walk K Hd (La lo n) (cW lo n):=fun Hn O' i hO s =>
  ⟨fun d e=>by
    unfold cW at e
    rw [OS] at e
    cases hi:(List.range n)[i]? with
    | none=>rw [hi] at e; cases e
    | some k =>
      rw [hi] at e
      cases e
      have hlt:i < n:=by
        have:=(List.getElem?_eq_some_iff.mp hi).1
        rwa [P4] at this
      have ek:k=i:=by
        rw [P7 hlt] at hi
        exact(Option.some.inj hi).symm
      subst ek
      exact⟨hlt,fun x H2 ⟨e1,e2⟩=>by subst e1; exact⟨bS.refl _,gE.mpr e2⟩⟩,
   fun hl=>by rw [uo] at hl; exact OD hl.symm⟩
def okR (j:Int):Bool:=decide (-(2 ^ 62)<=j/\j < 2 ^ 62)
def kQ:List D->Option (List D)
 | [.int j]=>if okR j then some (cW 0 j.toNat) else none
 | _=>none
def Bi:List D->Option (List D)
 | [.int i,.int j]=>if okR i && okR j then some (cW i (j - i).toNat) else none
 | _=>none
def cy (f:az->R (List D)):az->R (List D):=fun ρ=>(f ρ).bind fun ds=>rO (kQ ds)
def FD (f:az->R (List D)):az->R (List D):=fun ρ=>(f ρ).bind fun ds=>rO (Bi ds)
theorem Jn {a:SJ} {f:az->R (List D)} {p pos:Pos} (hg:Gl X "range") (hm:X.mg "range"=none) (ha:FA X [a] f) (hs:SK [a] X.env=[(false,eval a X.env)]:=by rfl):FI X tg (.Call (.Name "range" p) [a] [] pos) (cy f):=by
 intro pins s σ H R I ⟨O,ρ,E,hG⟩
 refine CG hg hm ha hs pins s σ H R I ⟨O,ρ,E,(i3.bind hG).imp fun es hG' vs H1 s1 d1=>?_⟩
 clear hG
 obtain⟨ds,hG,q⟩:=i3.rO hG'
 clear hG'
 unfold kQ at hG
 split at hG
 ·rename_i j
  obtain⟨h1,h2⟩:=bZ hG
  subst h2
  obtain⟨j1,j2⟩:=of_decide_eq_true h1
  obtain⟨v,ev,dv⟩:=d1.one
  exact⟨j,by rw [ev,gE.mp dv],j1,j2,q _ H1 s1 (zM 0 _)⟩
 ·cases hG
end

abbrev GF:=D->az->Option az
def Ly (K:Rf) (g:GF):TG:=fun v σ H Q=>∃ O ρ d ρ',eV K O H ρ σ/\dj K (hid H O) d v/\g d ρ=some ρ'/\∀ σ',eV K O H ρ' σ'->(∀ (i:Nat) xs,ρ'[i]?=some (some (.own xs))->σ'[i]?=σ[i]?/\ρ[i]?=some (some (.own xs)))->Q σ' H
def FG (X:Cx) (tg:SJ) (g:GF):Prop:=PG X tg (Ly X.K g)
def setV (i:Nat) (d:D) (ρ:az):az:=ρ.set i (some (.val d))
theorem cN {α:Type} {l:List α} {i j:Nat} {a b:α} (h:(l.set i a)[j]?=some b):(j=i/\b=a)\/(j≠i/\l[j]?=some b):=by
 by_cases e:j=i
 ·subst e
  left
  have hj:j < (l.set j a).length:=(List.getElem?_eq_some_iff.mp h).1
  rw [O2] at hj
  rw [Oo hj] at h
  exact⟨rfl,(Option.some.inj h).symm⟩
 ·right
  rw [Oq (Ne.symm e)] at h
  exact⟨e,h⟩
theorem eV.setV {K:Rf} {O:List Su} {H:Hp} {ρ:az} {σ:St} (E:eV K O H ρ σ) {i:Nat} {d:D} {v:V} (hi:i < σ.length) (hd:dj K (hid H O) d v):eV K O H (setV i d ρ) (σ.set i (some v)) :=
  ⟨fun j d' e=>by
    rcases cN e with ⟨hj,eq⟩ | ⟨ne,eq⟩
    · cases eq; rw [hj]; exact⟨v,Oo hi,hd⟩
    · obtain⟨w,e1,e2⟩:=E.val j d' eq
      exact⟨w,by rw [Oq (Ne.symm ne)]; exact e1,e2⟩,
   fun j xs e=>by
    rcases cN e with ⟨_,eq⟩ | ⟨ne,eq⟩
    · cases eq
    · obtain⟨a,e1,e2⟩:=E.own j xs eq
      exact⟨a,by rw [Oq (Ne.symm ne)]; exact e1,e2⟩,
   fun j k xs ys a e1 e2 e3 e4=>by
    rcases cN e1 with ⟨_,q1⟩ | ⟨ne1,q1⟩
    · cases q1
    · rcases cN e2 with ⟨_,q2⟩ | ⟨ne2,q2⟩
      · cases q2
      · rw [Oq (Ne.symm ne1)] at e3
        rw [Oq (Ne.symm ne2)] at e4
        exact E.one j k xs ys a q1 q2 e3 e4,E.all⟩
section
variable {X:Cx} {pos:Pos}
def gN (i:Nat):GF:=fun d ρ=>some (setV i d ρ)
theorem Lh {i:Nat} {x:Str} (hN:X.N.Nodup) (hi:X.N[i]?=some x) (hx:Loc X.env.scope x) (hf:X.fn x=true\/X.env.scope.names.lookup x=some .local:=by first | exact .inl rfl | exact .inr rfl | assumption):FG X (.Name x pos) (gN i):=by
 intro pins s σ H v u Q I r ⟨O,ρ,d,ρ',E,hd,hg,q⟩
 cases hg
 have hiσ:i < σ.length:=by rw [I.len]; exact(List.getElem?_eq_some_iff.mp hi).1
 refine Fw hN hi hx hf pins s σ H v u Q I r (q _ (E.setV hiσ hd) fun j xs e=>?_)
 rcases cN e with ⟨_,eq⟩ | ⟨ne,eq⟩
 ·cases eq
 ·exact⟨Oq (Ne.symm ne),eq⟩
abbrev Dg:=List D->az->Option az
def Mv (K:Rf) (g:Dg):Hy:=fun vs σ H Q=>∃ O ρ ds ρ',eV K O H ρ σ/\bD K (hid H O) ds vs/\g ds ρ=some ρ'/\∀ σ',eV K O H ρ' σ'->(∀ (i:Nat) xs,ρ'[i]?=some (some (.own xs))->σ'[i]?=σ[i]?/\ρ[i]?=some (some (.own xs)))->Q σ' H
def Ky (X:Cx) (ts:List SJ) (g:Dg):Prop:=JK X ts (Mv X.K g)
def EB:Dg:=fun ds ρ=>match ds with
 | []=>some ρ
 | _=>none
def Aq (g:GF) (h:Dg):Dg:=fun ds ρ=>match ds with
 | d::r=>(g d ρ).bind fun ρ1=>h r ρ1
 | _=>none
theorem K6:Ky X [] EB:=by
 intro pins s σ H vs us Q I r ⟨O,ρ,ds,ρ',E,hd,hg,q⟩
 cases ds with
 | nil =>
  cases hg
  rw [cU] at hd
  exact FV pins s σ H vs us Q I r ⟨hd,q _ E fun i xs e=>⟨rfl,e⟩⟩
 | cons _ _=>cases hg
theorem J3 {e:SJ} {es:List SJ} {g:GF} {h:Dg} (h1:FG X e g) (h2:Ky X es h) (hs:(assignEach (e::es) X.env).map (·.2)=assign e X.env::(assignEach es X.env).map (·.2):=by rfl):Ky X (e::es) (Aq g h):=by
 intro pins s σ H vs us Q I r ⟨O,ρ,ds,ρ',E,hd,hg,q⟩
 cases ds with
 | nil=>cases hg
 | cons d ds =>
  obtain⟨ρ1,e1,e2⟩:=bind_some hg
  rw [bP] at hd
  obtain⟨v,vr,ev,d1,d2⟩:=hd
  exact Ed h1 h2 hs pins s σ H vs us Q I r ⟨v,vr,ev,O,ρ,d,ρ1,E,d1,e1,fun σ1 E1 k1=>⟨O,ρ1,ds,ρ',E1,d2,e2,fun σ2 E2 k2=>q σ2 E2 fun i xs e=>by
   obtain⟨a1,a2⟩:=k2 i xs e
   obtain⟨b1,b2⟩:=k1 i xs a2
   exact⟨a1.trans b1,b2⟩⟩⟩
def gT (n:Nat) (g:Dg):GF:=fun d ρ=>match d with
 | .tup xs=>if xs.length=n then g xs ρ else none
 | _=>none
theorem Nb {es:List SJ} {k:Nat} {g:Dg} {n:Nat} (hc:X.calm=true) (h:Ky X es g) (hn:(assignEach es X.env).length=n:=by rfl) (hst:(assignEach es X.env).findIdx? (·.1)=none:=by rfl):FG X (.Tuple es k pos) (gT n g):=by
 intro pins s σ H v u Q I r ⟨O,ρ,d,ρ',E,hd,hg,q⟩
 cases d with
 | tup xs =>
  obtain⟨p,vs,ev,g1,g2⟩:=cS.mp hd
  have hg':(if xs.length=n then g xs ρ else none)=some ρ':=hg
  by_cases hl:xs.length=n
  ·rw [if_pos hl] at hg'
   exact IM hc h hn hst pins s σ H v u Q I r ⟨p,vs,ev,cn (aY H O) g1,by rw [<- g2.length]; exact hl,O,ρ,xs,ρ',E,g2,hg',q⟩
  ·rw [if_neg hl] at hg'; cases hg'
 | _=>cases hg
end

def De {α:Type} (r:R α):R α:=match r with
 | .ok a=>.ok a
 | .error _=>un
theorem Ei {α:Type} {r:R α} {a:α} (h:De r=.ok a):r=.ok a:=by
 cases r with
 | ok b=>exact h
 | error z=>cases h
def inB (ix:List (Option Nat)) (ρ:az):az:=ix.map fun o=>match o with
 | some i=>match ρ[i]? with
  | some (some (.val d))=>some (.val d)
  | _=>none
 | none=>none
def xc (ρ:az) (g:GF) (C:az->R Bool) (Fe:FX):List D->R (List D)
 | []=>.ok []
 | d::ds=>(rO (g d ρ)).bind fun ρ1=>(De (C ρ1)).bind fun c=>if c then (De (Fe ρ1)).bind fun v=>(xc ρ g C Fe ds).bind fun r=>.ok (v::r) else xc ρ g C Fe ds
theorem pF (ρ:az) (g:GF) (C:az->R Bool) (Fe:FX) (d:D) (ds:List D):xc ρ g C Fe (d::ds)=(rO (g d ρ)).bind fun ρ1=>(De (C ρ1)).bind fun c=>if c then (De (Fe ρ1)).bind fun v=>(xc ρ g C Fe ds).bind fun r=>.ok (v::r) else xc ρ g C Fe ds:=rfl
def gR (ix:List (Option Nat)) (G:az->R (List D)) (g:GF) (C:az->R Bool) (Fe:FX):FX:=fun ρ=>(G ρ).bind fun ds=>if small ds.length then De ((xc (inB ix ρ) g C Fe ds).bind fun r=>.ok (.lst r)) else un
def LA (X:Cx) (ifs:List SJ) (F:az->R Bool):Prop:=Il X ifs (LU X F)
def cK:az->R Bool:=fun _=>.ok true
theorem Lb {X:Cx}:LA X [] cK:=fun pins s σ H Q I ⟨O,ρ,E,q⟩=>Gn pins s σ H Q I (q H (bS.refl H))
theorem Lw {X:Cx} {c:SJ} {F:az->R Bool} (h:FT X c F):LA X [c] F:=G1 h
theorem oh {ix:List (Option Nat)} {ρ:az} {j:Nat} {x:S} (e:(inB ix ρ)[j]?=some (some x)):∃ i d,ix[j]?=some (some i)/\ρ[i]?=some (some (.val d))/\x=.val d:=by
 unfold inB at e
 rw [OS] at e
 cases q:ix[j]? with
 | none=>rw [q] at e; cases e
 | some o =>
  rw [q] at e
  cases o with
  | none=>cases e
  | some i =>
   have e':(match ρ[i]? with | some (some (.val d))=>some (S.val d) | _=>none)=some x:=Option.some.inj e
   split at e'
   ·rename_i d hd
    cases e'
    exact⟨i,d,rfl,hd,rfl⟩
   ·cases e'
theorem Ha {K:Rf} {O:List Su} {H:Hp} {ρ:az} {σ:St} (ix:List (Option Nat)) (E:eV K O H ρ σ):eV K O H (inB ix ρ) (inBlock ix σ):=by
 refine⟨fun j d e=>?_,fun j xs e=>?_,fun j k xs ys a e=>?_,E.all⟩
 ·obtain⟨i,d',q1,q2,q3⟩:=oh e
  cases q3
  obtain⟨v,e1,e2⟩:=E.val i d q2
  refine⟨v,?_,e2⟩
  unfold inBlock
  rw [OS,q1]
  show some ((σ[i]?).getD none)=some (some v)
  rw [e1]; rfl
 ·obtain⟨_,_,_,_,q3⟩:=oh e
  cases q3
 ·obtain⟨_,_,_,_,q3⟩:=oh e
  cases q3
theorem yA {H:Hp} {O:List Su} {p:Su} {o:HO} (hp:H p=none):bS (hid H O) (hid (upd H p o) (p::O)):=fun b u h=>by
 unfold hid at h ⊢
 by_cases hb:b∈O
 ·rw [if_pos hb] at h; cases h
 ·rw [if_neg hb] at h
  have ne:=bK h hp
  rw [if_neg (by intro z; rcases List.mem_cons.mp z with z | z; exact ne z; exact hb z),bF ne]; exact h
theorem eV.hideNew {K:Rf} {O:List Su} {H:Hp} {ρ:az} {σ:St} {p:Su} {o:HO} (m:xB o) (E:eV K O H ρ σ) (hp:H p=none):eV K (p::O) (upd H p o) ρ σ:=by
 have s:bS (hid H O) (hid (upd H p o) (p::O)):=yA hp
 refine⟨fun i d e=>let ⟨v,a,b⟩:=E.val i d e; ⟨v,a,b.mono s⟩,fun i xs e=>?_,E.one,(E.all.same (cz hp o)).cons cg m⟩
 obtain⟨a,e1,e2,e3⟩:=E.own i xs e
 obtain⟨u,hu⟩:=e3.some
 exact⟨a,e1,Ol _ e2,e3.mono (by rw [bF (bK hu hp)]) s⟩
theorem eV.rewrite {K:Rf} {O:List Su} {H:Hp} {ρ:az} {σ:St} {p:Su} {o:HO} (m:xB o) (E:eV K O H ρ σ) (hp:p∈O) (hs:∀ (i:Nat) xs,ρ[i]?=some (some (.own xs))->σ[i]?≠some (some (.ref p))):eV K O (upd H p o) ρ σ:=by
 have s:bS (hid H O) (hid (upd H p o) O):=qK hp
 refine⟨fun i d e=>let ⟨v,a,b⟩:=E.val i d e; ⟨v,a,b.mono s⟩,fun i xs e=>?_,E.one,E.all.upd hp m⟩
 obtain⟨a,e1,e2,e3⟩:=E.own i xs e
 have ne:a≠p:=fun z=>hs i xs e (by rw [<- z]; exact e1)
 exact⟨a,e1,e2,e3.mono (by rw [bF ne]) s⟩
theorem eV.forget {K:Rf} {O:List Su} {H:Hp} {ρ ρ':az} {σ:St} (E:eV K O H ρ σ) (h:∀ (i:Nat) x,ρ'[i]?=some (some x)->ρ[i]?=some (some x)):eV K O H ρ' σ :=
 ⟨fun i d e=>E.val i d (h i _ e),fun i xs e=>E.own i xs (h i _ e),fun i j xs ys a e1 e2=>E.one i j xs ys a (h i _ e1) (h j _ e2),E.all⟩

def Fills (ρ:az) (g:GF):Prop:=∀ d ρ1,g d ρ=some ρ1->∀ (i:Nat) x,ρ[i]?=some (some x)->ρ1[i]?=some (some x)
theorem uB (ix:List (Option Nat)) (ρ:az):∀ (i:Nat) xs,(inB ix ρ)[i]?≠some (some (.own xs)):=by
 intro j xs e
 obtain⟨_,_,_,_,q3⟩:=oh e
 cases q3
theorem KA {α:Type} {o:Option α} {a:α} (h:rO o=.ok a):o=some a:=by
 cases o with
 | none=>cases h
 | some b=>cases h; rfl

end TG
namespace TG
open PySem PySem.Spec L2
variable [bp]

section
variable {X:Cx} {elt tg iter:SJ} {ifs:List SJ} {scope:SG} {pos:Pos} {N:List Str} {ix:List (Option Nat)} {G:az->R (List D)} {g:GF} {C:az->R Bool} {Fe:FX}
structure yF (ix:List (Option Nat)) (g:GF):Prop where
 fill:∀ ρ,Fills (inB ix ρ) g
 own:∀ ρ d ρ1,g d (inB ix ρ)=some ρ1->∀ (i:Nat) xs,ρ1[i]?≠some (some (.own xs))
theorem yT {ρ:az} {i:Nat} (h:ix[i]?=some none):∀ x,(inB ix ρ)[i]?≠some (some x):=fun x e=>by
 obtain⟨_,_,q,_⟩:=oh e
 rw [h] at q; cases q
theorem bz {i:Nat} (h:ix[i]?=some none):yF ix (gN i) :=
  ⟨fun ρ d ρ1 e j x q=>by
    cases e
    by_cases z:j=i
    · subst z; exact absurd q (yT h x)
    · unfold setV; rw [Oq (Ne.symm z)]; exact q,
   fun ρ d ρ1 e j xs q=>by
    cases e
    rcases cN q with ⟨_,z⟩ | ⟨_,z⟩
    · cases z
    · exact uB ix ρ j xs z⟩
def GP (ix:List (Option Nat)) (is:List Nat):Bool:=is.all fun i=>match ix[i]? with
 | some none=>true
 | _=>false
def uy:List Nat->Dg
 | []=>EB
 | i::is=>Aq (gN i) (uy is)
theorem Bg:∀ (is:List Nat) (ds:List D) (ρ ρ1:az),uy is ds ρ=some ρ1->∀ (k:Nat) (x:S),ρ1[k]?=some (some x)->(k∈is/\∃ d,x=.val d)\/ρ[k]?=some (some x)
 | [],ds,ρ,ρ1,h,k,x,e=>by
  cases ds with
  | nil=>cases h; exact .inr e
  | cons _ _=>cases h
 | i::is,ds,ρ,ρ1,h,k,x,e=>by
  cases ds with
  | nil=>cases h
  | cons d ds =>
   rcases Bg is ds (setV i d ρ) ρ1 h k x e with ⟨a,b⟩ | q
   ·exact .inl ⟨Ol _ a,b⟩
   ·rcases cN q with ⟨z,w⟩ | ⟨_,w⟩
    ·exact .inl ⟨by rw [z]; exact Oj,d,Option.some.inj w⟩
    ·exact .inr w
theorem zp:∀ (is:List Nat) (ds:List D) (ρ ρ1:az),uy is ds ρ=some ρ1->∀ (k:Nat) (x:S),k∉is->ρ[k]?=some (some x)->ρ1[k]?=some (some x)
 | [],ds,ρ,ρ1,h,k,x,_,e=>by
  cases ds with
  | nil=>cases h; exact e
  | cons _ _=>cases h
 | i::is,ds,ρ,ρ1,h,k,x,n,e=>by
  cases ds with
  | nil=>cases h
  | cons d ds =>
   refine zp is ds (setV i d ρ) ρ1 h k x (fun z=>n (Ol _ z)) ?_
   unfold setV
   rw [Oq (fun z=>n (by rw [z]; exact Oj))]; exact e
theorem kM {is:List Nat} {n:Nat} (h:GP ix is=true):yF ix (gT n (uy is)):=by
 have hn:∀ i∈is,ix[i]?=some none:=fun i hi=>by
  have:=List.all_eq_true.mp h i hi
  cases e:ix[i]? with
  | none=>rw [e] at this; cases this
  | some o=>cases o with
   | none=>rfl
   | some _=>rw [e] at this; cases this
 have shape:∀ ρ d ρ1,gT n (uy is) d ρ=some ρ1->∃ ds,uy is ds ρ=some ρ1:=fun ρ d ρ1 e=>by
  cases d with
  | tup xs =>
   have e':(if xs.length=n then uy is xs ρ else none)=some ρ1:=e
   by_cases hl:xs.length=n
   ·rw [if_pos hl] at e'; exact⟨xs,e'⟩
   ·rw [if_neg hl] at e'; cases e'
  | _=>cases e
 refine⟨fun ρ d ρ1 e k x q=>?_,fun ρ d ρ1 e k xs q=>?_⟩
 ·obtain⟨ds,e⟩:=shape _ d ρ1 e
  exact zp is ds _ ρ1 e k x (fun z=>yT (hn k z) x q) q
 ·obtain⟨ds,e⟩:=shape _ d ρ1 e
  rcases Bg is ds _ ρ1 e k _ q with ⟨_,d,z⟩ | z
  ·cases z
  ·exact uB ix ρ k xs z
structure ou (X:Cx) (scope:SG) (N:List Str) (ix:List (Option Nat)):Prop where
 cell:∀ y∈scope.names,y.2≠.cell
 kind:scope.kind=.function
 names:∀ y∈scope.names,y.2=.local->scope.names.lookup y.1=some .local
 free:∀ y∈scope.names,y.2=.free->X.env.scope.names.lookup y.1=some .cell\/X.env.scope.names.lookup y.1=some .free
 ix:xR X.N N scope.names ix=true
def BC (XS:List (Str×Tn)) (XN:List Str) (scope:SG) (N:List Str) (ix:List (Option Nat)):Bool :=
 scope.names.all (fun y=>decide (y.2≠.cell)) && decide (scope.kind=.function) && scope.names.all (fun y=>decide (y.2≠.local) || decide (scope.names.lookup y.1=some .local)) &&
  scope.names.all (fun y=>decide (y.2≠.free) || (decide (XS.lookup y.1=some .cell) || decide (XS.lookup y.1=some .free))) && xR XN N scope.names ix
theorem ou.of (h:BC X.env.scope.names X.N scope N ix=true):ou X scope N ix:=by
 unfold BC at h
 simp only [O1] at h
 obtain⟨⟨⟨⟨h1,h2⟩,h3⟩,h4⟩,h5⟩:=h
 refine⟨fun y hy=>of_decide_eq_true (List.all_eq_true.mp h1 y hy),of_decide_eq_true h2,fun y hy e=>?_,fun y hy e=>?_,h5⟩
 ·rcases PP _ _ ▸ List.all_eq_true.mp h3 y hy with q | q
  ·exact absurd e (of_decide_eq_true q)
  ·exact of_decide_eq_true q
 ·rcases PP _ _ ▸ List.all_eq_true.mp h4 y hy with q | q
  ·exact absurd e (of_decide_eq_true q)
  ·rcases PP _ _ ▸ q with q | q
   ·exact .inl (of_decide_eq_true q)
   ·exact .inr (of_decide_eq_true q)
def Lj (X:Cx) (scope:SG) (N:List Str) (tg elt:SJ) (ifs:List SJ) (g:GF) (C:az->R Bool) (Fe:FX):Prop :=
 ∀ cl C' fp s H E,FG (df X scope N cl C' fp s H E) tg g/\LA (df X scope N cl C' fp s H E) ifs C/\FE (df X scope N cl C' fp s H E) elt Fe
def Jf (K:Rf) (F:az->R Bool):TT:=fun σ H Q=>∃ O ρ b,eV K O H ρ σ/\F ρ=.ok b/\∀ H',bS H H'->Q b H'
def ME (K:Rf) (F:FX):TE:=fun σ H Q=>∃ O ρ d,eV K O H ρ σ/\F ρ=.ok d/\∀ v H',bS H H'->dj K (hid H' O) d v->Q v H'
theorem Lj.k (hb:Lj X scope N tg elt ifs g C Fe):∀ cl C' fp s H E,PG (df X scope N cl C' fp s H E) tg (Ly X.K g)/\Il (df X scope N cl C' fp s H E) ifs (Jf X.K C)/\PE (df X scope N cl C' fp s H E) elt (ME X.K Fe):=fun cl C' fp s H E=>by
 obtain⟨h1,h2,h3⟩:=hb cl C' fp s H E
 refine⟨h1,fun pins s σ H Q I ⟨O,ρ,b,e1,e2,q⟩=>h2 pins s σ H Q I ⟨O,ρ,e1,by rw [e2]; exact q⟩,fun pins s σ H Q I ⟨O,ρ,d,e1,e2,q⟩=>h3 pins s σ H Q I ⟨O,ρ,e1,by rw [e2]; exact q⟩⟩
def NZ (X:Cx) (F:FX):TE:=fun σ H Q=>∃ O ρ,eV X.K O H ρ σ/\i3 X σ O H (F ρ) fun d=>∀ D H' total acc,d=.lst total->bS H H'->H D=none->H' D=some (.lst acc)->bD X.K (hid H' (D::O)) total acc->Q (.ref D) H'
theorem Mz {F:FX}:∀ σ H Q,tF X F σ H Q->NZ X F σ H Q:=fun σ H Q ⟨O,ρ,E,hF⟩=>⟨O,ρ,E,hF.imp fun d q D H' total acc e sm hD hD' dn=>by
 subst e
 have DO:D∉O:=E.all.not hD
 exact q _ H' sm (cT.mpr ⟨D,acc,rfl,nN.of (by rw [p4 DO]; exact hD'),dn.mono (lQ fun a ha=>Ol _ ha)⟩)⟩
theorem Kj (tk:yF ix g):∀ σ H Q,NZ X (gR ix G g C Fe) σ H Q->Lx (MK X G) (Ly X.K g) (Jf X.K C) (ME X.K Fe) ix σ H Q:=fun σ H Q ⟨O,ρ,E,hF⟩=>by
 refine⟨O,ρ,E,(i3.bind hF).imp fun ds hF=>?_⟩
 have hz:small ds.length=true:=by
  cases e:small ds.length with
  | true=>rfl
  | false=>rw [e] at hF; exact hF.elim
 rw [hz,if_pos rfl] at hF
 cases hL:xc (inB ix ρ) g C Fe ds with
 | error z=>rw [hL] at hF; exact hF.elim
 | ok total =>
 rw [hL] at hF
 have q:∀ D H' total' acc,TG.D.lst total=.lst total'->bS H H'->H D=none->H' D=some (.lst acc)->bD X.K (hid H' (D::O)) total' acc->Q (.ref D) H':=hF
 have e2:=hL
 have hfill:=tk.fill
 have hown:=tk.own
 refine fun J H1 s1 wk D hD=>?_
 have E1:eV X.K (D::O) (upd H1 D (.lst [])) (inB ix ρ) (inBlock ix σ):=((Ha ix E).same s1).hideNew trivial hD
 have DO:D∉O:=(E.all.same s1).not hD
 refine⟨fun i m σ' H'=>m=ds.length - i/\i<=ds.length/\bS H1 H'/\eV X.K (D::O) H' (inB ix ρ) σ'/\∃ acc dn rest,H' D=some (.lst acc)/\acc.length<=i/\bD X.K (hid H' (D::O)) dn acc/\xc (inB ix ρ) g C Fe (ds.drop i)=.ok rest/\dn++rest=total,
  ⟨ds.length,by rw [P6],OH _,cz hD _,E1,[],[],total,cg,Ow _,cU.mpr rfl,by rw [Py]; exact e2,rfl⟩,?_⟩
 rintro i m σ' H' ⟨rfl,hi,sm,E',acc,dn,rest,hacc,hlen,hdn,hrest,htot⟩
 have sH:bS (hid H1 O) (hid H' (D::O)):=fun b o h=>by
  have h2:=sm b o (aY H1 O b o h)
  unfold hid at h ⊢
  by_cases hb:b∈O
  ·rw [if_pos hb] at h; cases h
  ·rw [if_neg hb] at h
   have ne:b≠D:=bK h hD
   rw [if_neg (by intro z; rcases List.mem_cons.mp z with z | z; exact ne z; exact hb z)]; exact h2
 by_cases hlt:i < ds.length
 ·right
  obtain⟨go,yl⟩:=(wk H' (D::O) i E'.all sH).1 ds[i] (by simp [hlt])
  refine⟨go,fun x H2 y=>?_⟩
  obtain⟨s2,dx'⟩:=yl x H2 y
  have E':=E'.same s2
  have sm:=sm.trans s2
  have hacc:=s2 _ _ hacc
  have hdn:=hdn.mono (de s2)
  rw [P8 hlt,pF] at hrest
  obtain⟨ρ1,g1,hrest⟩:=rF hrest
  have g1:=KA g1
  obtain⟨c,c1,hrest⟩:=rF hrest
  have c1:=Ei c1
  refine⟨D::O,inB ix ρ,ds[i],ρ1,E',dx',g1,fun σ3 E3 _=>?_⟩
  refine⟨D::O,ρ1,c,E3,c1,fun H4 s4=>?_⟩
  have E4:=E3.same s4
  have back:∀ {H5:Hp},eV X.K (D::O) H5 ρ1 σ3->eV X.K (D::O) H5 (inB ix ρ) σ3:=fun z=>z.forget fun j x e=>hfill ρ _ _ g1 j x e
  cases c with
  | true =>
   refine ww ?_
   rw [if_pos rfl] at hrest
   obtain⟨v,v1,hrest⟩:=rF hrest
   have v1:=Ei v1
   obtain⟨r,r1,hrest⟩:=rF hrest
   cases hrest
   refine⟨D::O,ρ1,v,E4,v1,fun w H5 s5 dw=>?_⟩
   have s45:=s4.trans s5
   have ha5:H5 D=some (.lst acc):=s45 _ _ hacc
   have hzl:ds.length < Sx:=Nat.lt_of_le_of_lt (of_decide_eq_true hz) (by decide)
   refine⟨acc,ha5,by omega,ds.length - (i+1),by omega,rfl,hlt,?_,?_,acc++[w],dn++[v],r,cg,by rw [OW,O6]; omega,?_,r1,by rw [P9]; exact htot⟩
   ·intro b o h
    rw [bF (bK h hD)]; exact s45 _ _ (sm _ _ h)
   ·exact back ((E3.same s45).rewrite trivial Oj fun j xs e=>absurd e (hown ρ _ _ g1 j xs))
   ·have s6:bS (hid H5 (D::O)) (hid (upd H5 D (.lst (acc++[w]))) (D::O)):=qK Oj
    exact(hdn.mono ((de s45).trans s6)).snoc (dw.mono s6)
  | false =>
   refine xL ?_
   rw [if_neg Ot] at hrest
   exact⟨ds.length - (i+1),by omega,rfl,hlt,sm.trans s4,back E4,acc,dn,rest,s4 _ _ hacc,by omega,hdn.mono (de s4),hrest,htot⟩
 ·left
  have ei:i=ds.length:=by omega
  subst ei
  refine⟨(wk H' (D::O) ds.length E'.all sH).2 rfl,?_⟩
  rw [Qa] at hrest
  cases hrest
  rw [OI] at htot
  subst htot
  exact q D H' _ acc rfl (s1.trans sm) (s1.free hD) hacc hdn
theorem Hx (tk:yF ix g):∀ σ H Q,tF X (gR ix G g C Fe) σ H Q->Lx (MK X G) (Ly X.K g) (Jf X.K C) (ME X.K Fe) ix σ H Q:=fun σ H Q h=>Kj tk σ H Q (Mz σ H Q h)
theorem NW (hc:X.calm=true) (ok:ou X scope N ix) (tk:yF ix g) (hi:FI X tg iter G) (hb:Lj X scope N tg elt ifs g C Fe)
  (hs:∀ x,S8 iter X.env x=pure x:=by intro _; rfl):FE X (.ListComp elt [⟨tg,iter,ifs,0⟩] scope pos) (gR ix G g C Fe) :=
 PE.weak (Kv hc ok.cell ok.kind ok.names ok.free ok.ix hi hb.k hs) (Hx tk)
end

structure Ks where
 nx:az->R D
 bk:az->R D:=fun _=>un
 ct:az->R D:=fun _=>un
 ex:Ex->az->R D:=fun x _=>.error (some x)
abbrev cB:=Ks->az->R D
def rH {α:Type} (r:R α) (k:Ks) (ρ:az) (f:α->R D):R D:=match r with
 | .ok a=>f a
 | .error (some x)=>k.ex x ρ
 | .error none=>un
structure Base (Hb:Hp) (Ob:List Su) (H:Hp) (O:List Su):Prop where
 same:bS Hb H
 sub:∀ a∈Ob,a∈O
 new:∀ a∈O,a∈Ob\/Hb a=none
structure gK (K:Rf) (Hb:Hp) (Ob O:List Su) (H:Hp) (ρ:az) (σ:St):Prop where
 env:eV K O H ρ σ
 base:Base Hb Ob H O
 mine:∀ (i:Nat) xs a,ρ[i]?=some (some (.own xs))->σ[i]?=some (some (.ref a))->Hb a=none/\a∉Ob
theorem Base.same' {Hb:Hp} {Ob:List Su} {H H':Hp} {O:List Su} (b:Base Hb Ob H O) (s:bS H H'):Base Hb Ob H' O:=⟨b.same.trans s,b.sub,b.new⟩
theorem gK.same {K:Rf} {Hb:Hp} {Ob O:List Su} {H H':Hp} {ρ:az} {σ:St} (h:gK K Hb Ob O H ρ σ) (s:bS H H'):gK K Hb Ob O H' ρ σ:=⟨h.env.same s,h.base.same' s,h.mine⟩
structure K5 (X:Cx) (Hb:Hp) (Ob:List Su) (E:Ends) (k:Ks) (r:R D):Prop where
 ne:r≠un
 nx:∀ O ρ σ H,gK X.K Hb Ob O H ρ σ->k.nx ρ=r->E.nx σ H
 bk:∀ O ρ σ H,gK X.K Hb Ob O H ρ σ->k.bk ρ=r->E.bk σ H
 ct:∀ O ρ σ H,gK X.K Hb Ob O H ρ σ->k.ct ρ=r->E.ct σ H
 rt:∀ d O v H,r=.ok d->Base Hb Ob H O->dj X.K (hid H O) d v->E.rt v H
 ex:∀ O ρ σ H x,gK X.K Hb Ob O H ρ σ->k.ex x ρ=r->Js X σ O H x
def LZ (X:Cx) (Hb:Hp) (Ob:List Su) (F:cB):TS:=fun E σ H=>∃ O ρ k r,gK X.K Hb Ob O H ρ σ/\F k ρ=r/\K5 X Hb Ob E k r
def FS (X:Cx) (st:SL) (F:cB):Prop:=∀ Hb Ob,PS X st (LZ X Hb Ob F)
def Ac (X:Cx) (st:List SL) (F:cB):Prop:=∀ Hb Ob,xx X st (LZ X Hb Ob F)
theorem i3.on {X:Cx} {Hb:Hp} {Ob O:List Su} {H:Hp} {ρ:az} {σ:St} {E:Ends} {k:Ks} {r:R D} {α:Type} {fr:R α} {G:α->R D} {Q:α->Prop} (h:rH fr k ρ G=r) (hk:K5 X Hb Ob E k r) (S:gK X.K Hb Ob O H ρ σ) (q:∀ a,G a=r->Q a):i3 X σ O H fr Q:=by
 match fr,h with
 | .ok a,h=>exact q a h
 | .error (some x),h=>exact hk.ex O ρ σ H x S h
 | .error none,h=>exact absurd h.symm hk.ne
section
variable {X:Cx} {st:SL} {rest body:List SL} {pos:Pos}
def cG:cB:=fun k ρ=>k.nx ρ
def aN (F1 F2:cB):cB:=fun k ρ=>F1 { k with nx:=F2 k } ρ
theorem LV:Ac X [] cG:=fun Hb Ob=>xx.weak Fj fun E σ H ⟨O,ρ,k,r,S,hF,hk⟩=>hk.nx O ρ σ H S hF
theorem JR {F1 F2:cB} (h1:FS X st F1) (h2:Ac X rest F2):Ac X (st::rest) (aN F1 F2):=fun Hb Ob=>xx.weak (zC (h1 Hb Ob) (h2 Hb Ob)) fun E σ H ⟨O,ρ,k,r,S,hF,hk⟩ =>
 ⟨O,ρ,{ k with nx:=F2 k },r,S,hF,hk.ne,fun O' ρ' σ' H' S' e=>⟨O',ρ',k,r,S',e,hk⟩,hk.bk,hk.ct,hk.rt,hk.ex⟩
theorem LC {F1:cB} (h1:FS X st F1):Ac X [st] F1:=fun Hb Ob=>Bu (h1 Hb Ob)
def bH (f:FX):cB:=fun k ρ=>rH (f ρ) k ρ .ok
theorem NF {e:SJ} {f:FX} (h:FE X e f):FS X (.Return (some e) pos) (bH f):=fun Hb Ob=>PS.weak (Jc h) fun E σ H ⟨O,ρ,k,r,S,hF,hk⟩ =>
 ⟨O,ρ,S.env,i3.on hF hk S fun d e v H' s' d'=>hk.rt d O v H' e.symm (S.base.same' s') d'⟩
def JQ:cB:=fun _ _=>.ok .non
def iq (c:az->R Bool) (A B:cB):cB:=fun k ρ=>rH (c ρ) k ρ fun b=>if b then A k ρ else B k ρ
theorem NN {c:SJ} {a b:List SL} {tc:az->R Bool} {A B:cB} (hc:FT X c tc) (ha:Ac X a A) (hb:Ac X b B):FS X (.If c a b pos) (iq tc A B):=fun Hb Ob=>PS.weak (K2 hc (ha Hb Ob) (hb Hb Ob)) fun E σ H ⟨O,ρ,k,r,S,hF,hk⟩ =>
 ⟨O,ρ,S.env,i3.on hF hk S fun z e H1 s1=>by
  cases z with
  | true=>exact ww ⟨O,ρ,k,r,S.same s1,e,hk⟩
  | false=>exact xL ⟨O,ρ,k,r,S.same s1,e,hk⟩⟩
def bO (i:Nat) (f:FX):cB:=fun k ρ=>rH (f ρ) k ρ fun d=>k.nx (setV i d ρ)
theorem gK.setV {K:Rf} {Hb:Hp} {Ob O:List Su} {H:Hp} {ρ:az} {σ:St} (E:gK K Hb Ob O H ρ σ) {i:Nat} {d:D} {v:V} (hi:i < σ.length) (hd:dj K (hid H O) d v):gK K Hb Ob O H (setV i d ρ) (σ.set i (some v)) :=
 ⟨E.env.setV hi hd,E.base,fun j xs a e1 e2=>by
  rcases cN e1 with ⟨_,q⟩ | ⟨ne,q⟩
  ·cases q
  ·rw [Oq (Ne.symm ne)] at e2
   exact E.mine j xs a q e2⟩
theorem vd {f:FX} {i:Nat} (hi:i < X.N.length) (h:PS X st (Di (tF X f) (uI i))):FS X st (bO i f):=fun Hb Ob pins s σ H E I ⟨O,ρ,k,r,S,hF,hk⟩ =>
 h pins s σ H E I ⟨O,ρ,S.env,i3.on hF hk S fun d e v H1 s1 d1=>hk.nx O _ _ H1 ((S.same s1).setV (by rw [I.len]; exact hi) d1) e⟩
theorem Ny {i:Nat} {x:Str} {e:SJ} {f:FX} {pos':Pos} (hN:X.N.Nodup) (hi:X.N[i]?=some x) (hx:Loc X.env.scope x) (he:FE X e f) (hs:swapsWith e (some (.Name x pos')) pos.line X.env=pure false:=by rfl) (hf:X.fn x=true\/X.env.scope.names.lookup x=some .local:=by first | exact .inl rfl | exact .inr rfl | assumption) :
  FS X (.Assign [.Name x pos'] e pos) (bO i f):=vd (List.getElem?_eq_some_iff.mp hi).1 (Dz hN hi hx he hs hf)
theorem NM {elt tg iter:SJ} {ifs:List SJ} {scope:SG} {N:List Str} {ix:List (Option Nat)} {G:az->R (List D)} {g:GF} {C:az->R Bool} {Fe:FX} {i:Nat} {y:Str} {lpos py spos:Pos} (hN:X.N.Nodup) (hi':X.N[i]?=some y) (hx:Loc X.env.scope y)
  (hc:X.calm=true) (ok:ou X scope N ix) (tk:yF ix g) (hi:FI X tg iter G) (hb:Lj X scope N tg elt ifs g C Fe)
  (hsw:swapsWith (.ListComp elt [⟨tg,iter,ifs,0⟩] scope lpos) (some (.Name y py)) spos.line X.env=pure true:=by rfl)
  (hs:∀ x,S8 iter X.env x=pure x:=by intro _; rfl)
  (hf:X.fn y=true\/X.env.scope.names.lookup y=some .local:=by first | exact .inl rfl | exact .inr rfl | assumption) :
  FS X (.Assign [.Name y py] (.ListComp elt [⟨tg,iter,ifs,0⟩] scope lpos) spos) (bO i (gR ix G g C Fe)) :=
 vd (List.getElem?_eq_some_iff.mp hi').1 (PS.weak (J9 hN hi' hx hc ok.cell ok.kind ok.names ok.free ok.ix hi hb.k hsw hs hf) fun E σ H q=>Hx tk σ H _ q)
def Gs (f:FX) (g:GF):cB:=fun k ρ=>rH (f ρ) k ρ fun d=>(rO (g d ρ)).bind k.nx
theorem Nw {tg e:SJ} {f:FX} {g:GF} (he:FE X e f) (hg:FG X tg g) (hs:swapsWithSole [tg] e pos.line X.env=pure false:=by rfl) (hw:swappedStores [tg] e X.env=pure none:=by rfl)
  (h1:(assignEach [tg] X.env).map (·.2)=[assign tg X.env]:=by rfl):FS X (.Assign [tg] e pos) (Gs f g):=fun Hb Ob=>PS.weak (DK he hg hs hw h1) fun E σ H ⟨O,ρ,k,r,S,hF,hk⟩ =>
 ⟨O,ρ,S.env,i3.on hF hk S fun d e v H1 s1 d1=>by
  cases hg:g d ρ with
  | none=>rw [hg] at e; exact absurd e.symm hk.ne
  | some ρ1 =>
   rw [hg] at e
   refine⟨O,ρ,d,ρ1,(S.same s1).env,d1,hg,fun σ' E' own=>hk.nx O ρ1 σ' H1 ⟨E',S.base.same' s1,fun i xs a q1 q2=>?_⟩ e⟩
   obtain⟨w1,w2⟩:=own i xs q1
   rw [w1] at q2
   exact S.mine i xs a w2 q2⟩
def yg:cB:=fun _ _=>un
theorem Li:FS X st yg:=fun Hb Ob pins s σ H E I ⟨O,ρ,k,r,S,hF,hk⟩=>absurd hF.symm hk.ne
def kill (is:List Nat) (ρ:az):az:=is.foldl (fun ρ i=>ρ.set i none) ρ
theorem rR:∀ (is:List Nat) (ρ:az) (i:Nat) (x:S),(kill is ρ)[i]?=some (some x)->ρ[i]?=some (some x)
 | [],ρ,i,x,e=>e
 | j::is,ρ,i,x,e=>by
  rcases cN (rR is (ρ.set j none) i x e) with ⟨_,q⟩ | ⟨_,q⟩
  ·cases q
  ·exact q
theorem gK.kill {K:Rf} {Hb:Hp} {Ob O:List Su} {H:Hp} {ρ:az} {σ:St} (E:gK K Hb Ob O H ρ σ) (is:List Nat):gK K Hb Ob O H (kill is ρ) σ :=
 ⟨E.env.forget (rR is ρ),E.base,fun i xs a e1 e2=>E.mine i xs a (rR is ρ i _ e1) e2⟩
def fZ (is:List Nat) (F:cB):cB:=fun k ρ=>F k (kill is ρ)
theorem J7 {st:List SL} {F:cB} (is:List Nat) (h:Ac X st F):Ac X st (fZ is F):=fun Hb Ob=>xx.weak (h Hb Ob) fun E σ H ⟨O,ρ,k,r,S,hF,hk⟩=>⟨O,TG.kill is ρ,k,r,S.kill is,hF,hk⟩
end
def hW (g:GF) (B:cB) (k:Ks):List D->az->R D
 | [],ρ=>k.nx ρ
 | d::ds,ρ=>(rO (g d ρ)).bind fun ρ1=>B ⟨hW g B k ds,k.nx,hW g B k ds,k.ex⟩ ρ1
def pW (G:az->R (List D)) (g:GF) (B:cB):cB:=fun k ρ=>rH (G ρ) k ρ fun ds=>hW g B k ds ρ
def lb (H:Hp) (O Ob:List Su):Hp:=fun b=>if b∈O/\b∉Ob then none else H b
theorem A1 {H:Hp} {O Ob:List Su} {b:Su} (h1:b∈O) (h2:b∉Ob):lb H O Ob b=none:=by unfold lb; rw [if_pos ⟨h1,h2⟩]
theorem He {H:Hp} {O Ob:List Su} {b:Su} {o:HO} (h:lb H O Ob b=some o):H b=some o/\¬ (b∈O/\b∉Ob):=by
 unfold lb at h
 split at h
 ·cases h
 ·rename_i n; exact⟨h,n⟩
theorem D7 {H:Hp} {O Ob:List Su} {b:Su} {o:HO} (h:H b=some o) (n:¬ (b∈O/\b∉Ob)):lb H O Ob b=some o:=by unfold lb; rw [if_neg n]; exact h
theorem Base.loop {Hb:Hp} {Ob:List Su} {H:Hp} {O:List Su} (b:Base Hb Ob H O):Base (lb H O Ob) Ob H O :=
 ⟨fun c o h=>(He h).1,b.sub,fun a ha=>by
  by_cases h:a∈Ob
  ·exact .inl h
  ·exact .inr (A1 ha h)⟩
theorem Base.back {Hb:Hp} {Ob:List Su} {H H':Hp} {O O':List Su} (b:Base Hb Ob H O) (b':Base (lb H O Ob) Ob H' O'):Base Hb Ob H' O':=by
 have up:bS Hb (lb H O Ob):=fun c o h=>D7 (b.same c o h) fun ⟨z1,z2⟩=>by
  rcases b.new c z1 with z | z
  ·exact z2 z
  ·rw [z] at h; cases h
 exact⟨up.trans b'.same,b'.sub,fun a ha=>(b'.new a ha).imp id up.free⟩
theorem gK.loop {K:Rf} {Hb:Hp} {Ob O:List Su} {H:Hp} {ρ:az} {σ:St} (E:gK K Hb Ob O H ρ σ):gK K (lb H O Ob) Ob O H ρ σ :=
 ⟨E.env,E.base.loop,fun i xs a e1 e2=>by
  obtain⟨_,n⟩:=E.mine i xs a e1 e2
  obtain⟨a',e3,e4,_⟩:=E.env.own i xs e1
  rw [e2] at e3; cases e3
  exact⟨A1 e4 n,n⟩⟩
theorem gK.back {K:Rf} {Hb:Hp} {Ob O O':List Su} {H H':Hp} {ρ':az} {σ':St} (b:Base Hb Ob H O) (E:gK K (lb H O Ob) Ob O' H' ρ' σ'):gK K Hb Ob O' H' ρ' σ' :=
 ⟨E.env,b.back E.base,fun i xs a e1 e2=>by
  obtain⟨z,n⟩:=E.mine i xs a e1 e2
  refine⟨?_,n⟩
  have up:bS Hb (lb H O Ob):=fun c o h=>D7 (b.same c o h) fun ⟨z1,z2⟩=>by
   rcases b.new c z1 with z | z
   ·exact z2 z
   ·rw [z] at h; cases h
  exact up.free z⟩
theorem Fg {Hb:Hp} {Ob O O':List Su} {H H':Hp} (b:Base Hb Ob H O) (b':Base (lb H O Ob) Ob H' O'):bS (hid H O) (hid H' O'):=fun c o h=>by
 unfold hid at h ⊢
 by_cases hc:c∈O
 ·rw [if_pos hc] at h; cases h
 ·rw [if_neg hc] at h
  have h1:lb H O Ob c=some o:=D7 h fun z=>hc z.1
  rw [if_neg]
  ·exact b'.same _ _ h1
  ·intro z
   rcases b'.new c z with z | z
   ·exact hc (b.sub c z)
   ·rw [h1] at z; cases z
theorem K5.loop {X:Cx} {Hb:Hp} {Ob O:List Su} {H:Hp} {E E':Ends} {k k':Ks} {r:R D} (hk:K5 X Hb Ob E k r) (b:Base Hb Ob H O) (hn:∀ O' ρ' σ' H',gK X.K (lb H O Ob) Ob O' H' ρ' σ'->k'.nx ρ'=r->E'.nx σ' H') (hc:∀ O' ρ' σ' H',gK X.K (lb H O Ob) Ob O' H' ρ' σ'->k'.ct ρ'=r->E'.ct σ' H')
    (eb:k'.bk=k.nx) (ee:k'.ex=k.ex) (Eb:E'.bk=E.nx) (Er:E'.rt=E.rt):K5 X (lb H O Ob) Ob E' k' r :=
  ⟨hk.ne,hn,fun O' ρ' σ' H' S e=>by rw [Eb]; exact hk.nx O' ρ' σ' H' (S.back b) (by rw [<- eb]; exact e),hc,fun d O' v H' e b' dv=>by rw [Er]; exact hk.rt d O' v H' e (b.back b') dv,
   fun O' ρ' σ' H' x S e=>hk.ex O' ρ' σ' H' x (S.back b) (by rw [<- ee]; exact e)⟩
section
variable {X:Cx} {st:SL} {rest body:List SL} {pos:Pos}
theorem MF {tg iter:SJ} {G:az->R (List D)} {g:GF} {B:cB} (hp:S4 (model X.prog X.w) X.A X.env X.xe) (hc:X.calm=true) (hi:FI X tg iter G) (hg:FG X tg g) (hb:Ac X body B)
  (hs:∀ x,S8 iter X.env x=pure x:=by intro _; rfl):FS X (.For tg iter body [] pos) (pW G g B):=fun Hb Ob pins s σ H E I ⟨O,ρ,k,r,S,hF,hk⟩=>by
 have hall:xx X body (fun E σ H=>∃ Hb',LZ X Hb' Ob B E σ H):=fun pins s σ H E I ⟨Hb',q⟩=>hb Hb' Ob pins s σ H E I q
 refine IV hp hc hi hg hall hs pins s σ H E I ⟨O,ρ,S.env,i3.on hF hk S fun ds hF J H1 s1 wk=>?_⟩
 have E1:=S.same s1
 refine⟨fun i m σ H=>m=ds.length - i/\i<=ds.length/\∃ O' ρ',gK X.K (lb H1 O Ob) Ob O' H ρ' σ/\hW g B k (ds.drop i) ρ'=r,
  ⟨ds.length,by rw [P6],OH _,O,ρ,E1.loop,by rw [Py]; exact hF⟩,?_⟩
 rintro i m σ' H' ⟨rfl,hi',O',ρ',E',hr⟩
 have sD:=Fg E1.base E'.base
 by_cases hlt:i < ds.length
 ·right
  obtain⟨go,yl⟩:=(wk H' O' i E'.env.all sD).1 ds[i] (by simp [hlt])
  refine⟨go,fun σ2 H2=>ds.length - (i+1)=ds.length - (i+1)/\i+1<=ds.length/\∃ O' ρ',gK X.K (lb H1 O Ob) Ob O' H2 ρ' σ2/\hW g B k (ds.drop (i+1)) ρ'=r,fun σ2 H2 z=>⟨ds.length - (i+1),by omega,z⟩,fun x H2 y=>?_⟩
  obtain⟨s2,dx⟩:=yl x H2 y
  have E':=E'.same s2
  rw [P8 hlt] at hr
  cases hg':g ds[i] ρ' with
  | none =>
   have hr':(rO (g ds[i] ρ')).bind (fun ρ1=>B ⟨hW g B k (ds.drop (i+1)),k.nx,hW g B k (ds.drop (i+1)),k.ex⟩ ρ1)=r:=hr
   rw [hg'] at hr'
   exact absurd hr'.symm hk.ne
  | some ρ1 =>
   have hr':(rO (g ds[i] ρ')).bind (fun ρ1=>B ⟨hW g B k (ds.drop (i+1)),k.nx,hW g B k (ds.drop (i+1)),k.ex⟩ ρ1)=r:=hr
   rw [hg'] at hr'
   refine⟨O',ρ',ds[i],ρ1,E'.env,dx,hg',fun σ3 E3 own=>?_⟩
   have E3':gK X.K (lb H1 O Ob) Ob O' H2 ρ1 σ3:=⟨E3,E'.base,fun j xs a q1 q2=>by
    obtain⟨w1,w2⟩:=own j xs q1
    rw [w1] at q2
    exact E'.mine j xs a w2 q2⟩
   exact⟨lb H1 O Ob,O',ρ1,⟨hW g B k (ds.drop (i+1)),k.nx,hW g B k (ds.drop (i+1)),k.ex⟩,r,E3',hr',hk.loop E1.base (fun O4 ρ4 σ4 H4 E4 z=>⟨rfl,hlt,O4,ρ4,E4,z⟩) (fun O4 ρ4 σ4 H4 E4 z=>⟨rfl,hlt,O4,ρ4,E4,z⟩) rfl rfl rfl rfl⟩
 ·left
  have ei:i=ds.length:=by omega
  subst ei
  refine⟨(wk H' O' ds.length E'.env.all sD).2 rfl,?_⟩
  rw [Qa] at hr
  exact hk.nx O' ρ' σ' H' (E'.back E1.base) hr
def eJ (c:az->R Bool) (B:cB) (k:Ks):Nat->az->R D
 | 0,_=>un
 | n+1,ρ=>rH (c ρ) k ρ fun b=>if b then B ⟨eJ c B k n,k.nx,eJ c B k n,k.ex⟩ ρ else k.nx ρ
def mq (n:Nat) (c:az->R Bool) (B:cB):cB:=fun k ρ=>eJ c B k n ρ
theorem JS {c:SJ} {tc:az->R Bool} {B:cB} (n:Nat) (hp:S4 (model X.prog X.w) X.A X.env X.xe) (hc:FT X c tc) (hb:Ac X body B):FS X (.While c body [] pos) (mq n tc B):=fun Hb Ob pins s σ H E I ⟨O,ρ,k,r,S,hF,hk⟩=>by
 have hall:xx X body (fun E σ H=>∃ Hb',LZ X Hb' Ob B E σ H):=fun pins s σ H E I ⟨Hb',q⟩=>hb Hb' Ob pins s σ H E I q
 refine E7 hp hc hall pins s σ H E I ⟨fun m σ H'=>∃ O' ρ',gK X.K (lb H O Ob) Ob O' H' ρ' σ/\eJ tc B k m ρ'=r,⟨n,O,ρ,S.loop,hF⟩,?_⟩
 rintro m σ' H' ⟨O',ρ',E',hr⟩
 cases m with
 | zero=>exact absurd hr.symm hk.ne
 | succ m =>
  refine⟨O',ρ',E'.env,?_⟩
  have hr':rH (tc ρ') k ρ' (fun b=>if b then B ⟨eJ tc B k m,k.nx,eJ tc B k m,k.ex⟩ ρ' else k.nx ρ')=r:=hr
  refine i3.on hr' hk (E'.back S.base) fun b hr H1 s1=>?_
  cases b with
  | true =>
   refine ww ⟨fun σ2 H2=>∃ O' ρ',gK X.K (lb H O Ob) Ob O' H2 ρ' σ2/\eJ tc B k m ρ'=r,fun σ2 H2 z=>⟨m,OG m,z⟩,?_⟩
   exact⟨lb H O Ob,O',ρ',⟨eJ tc B k m,k.nx,eJ tc B k m,k.ex⟩,r,E'.same s1,hr,hk.loop S.base (fun O4 ρ4 σ4 H4 E4 z=>⟨O4,ρ4,E4,z⟩) (fun O4 ρ4 σ4 H4 E4 z=>⟨O4,ρ4,E4,z⟩) rfl rfl rfl rfl⟩
  | false=>exact xL (hk.nx O' ρ' σ' H1 ((E'.back S.base).same s1) hr)
end
end TG
namespace TG
open PySem PySem.Spec L2
variable [bp]

theorem gK.setO {K:Rf} {Hb:Hp} {Ob O:List Su} {H:Hp} {ρ:az} {σ:St} (E:gK K Hb Ob O H ρ σ) {i:Nat} {d d':D} {a:Su} {o:HO} (hi:ρ[i]?=some (some (.own d))) (ha:σ[i]?=some (some (.ref a))) (m:xB o) (new:m8 K (upd H a o) O a d') :
  gK K Hb Ob O (upd H a o) (ρ.set i (some (.own d'))) σ:=by
 obtain⟨a',ha',haO,hat⟩:=E.env.own i d hi
 rw [ha] at ha'; cases ha'
 obtain⟨m1,m2⟩:=E.mine i d a hi ha
 have s:bS (hid H O) (hid (upd H a o) O):=qK haO
 have own:∀ (j:Nat) ys,(ρ.set i (some (.own d')))[j]?=some (some (.own ys))->∃ ys',ρ[j]?=some (some (.own ys')):=fun j ys q=>by
  rcases cN q with ⟨hj,_⟩ | ⟨_,q⟩
  ·rw [hj]; exact⟨d,hi⟩
  ·exact⟨ys,q⟩
 refine⟨⟨fun j d1 e=>?_,fun j ys e=>?_,fun j l ys zs b q1 q2 q3 q4=>?_,E.env.all.upd haO m⟩,⟨fun b u h=>?_,E.base.sub,E.base.new⟩,fun j ys b q1 q2=>?_⟩
 ·rcases cN e with ⟨_,q⟩ | ⟨ne,q⟩
  ·cases q
  ·obtain⟨w,q1,q2⟩:=E.env.val j d1 q
   exact⟨w,q1,q2.mono s⟩
 ·rcases cN e with ⟨hj,q⟩ | ⟨ne,q⟩
  ·cases q
   rw [hj]
   exact⟨a,ha,haO,new⟩
  ·obtain⟨b,q1,q2,q3⟩:=E.env.own j ys q
   have nb:b≠a:=fun z=>ne (E.env.one j i ys d a q hi (by rw [<- z]; exact q1) ha)
   exact⟨b,q1,q2,q3.mono (by rw [bF nb]) s⟩
 ·obtain⟨_,q1'⟩:=own j ys q1
  obtain⟨_,q2'⟩:=own l zs q2
  exact E.env.one j l _ _ b q1' q2' q3 q4
 ·have nb:b≠a:=fun z=>by rw [z,m1] at h; cases h
  rw [bF nb]; exact E.base.same b u h
 ·obtain⟨ys',q⟩:=own j ys q1
  exact E.mine j ys' b q q2
theorem gK.setNew {K:Rf} {Hb:Hp} {Ob O:List Su} {H H':Hp} {ρ:az} {σ:St} (E:gK K Hb Ob O H ρ σ) {i:Nat} {d:D} {p:Su} (hi:i < σ.length) (sm:bS H H') (hp:H p=none) (m:∃ o,H' p=some o/\xB o) (new:m8 K H' (p::O) p d) :
  gK K Hb Ob (p::O) H' (ρ.set i (some (.own d))) (σ.set i (some (.ref p))):=by
 have hpO:p∉O:=E.env.all.not hp
 have s:bS (hid H O) (hid H' (p::O)):=fun b o h=>by
  unfold hid at h ⊢
  by_cases hb:b∈O
  ·rw [if_pos hb] at h; cases h
  ·rw [if_neg hb] at h
   have ne:=bK h hp
   rw [if_neg (by intro z; rcases List.mem_cons.mp z with z | z; exact ne z; exact hb z)]; exact sm _ _ h
 have other:∀ (j:Nat) xs,ρ[j]?=some (some (.own xs))->σ[j]?≠some (some (.ref p)):=fun j xs e z=>by
  obtain⟨a,e1,e2,e3⟩:=E.env.own j xs e
  rw [z] at e1; cases e1
  obtain⟨o,e3⟩:=e3.some
  rw [hp] at e3; cases e3
 refine⟨⟨fun j d' e=>?_,fun j xs e=>?_,fun j k xs ys a e1 e2 e3 e4=>?_,⟨(E.env.all.same sm).1,fun a ha=>?_⟩⟩,⟨E.base.same.trans sm,fun a ha=>Ol _ (E.base.sub a ha),fun a ha=>?_⟩,fun j xs a e1 e2=>?_⟩
 ·rcases cN e with ⟨_,q⟩ | ⟨ne,q⟩
  ·cases q
  ·obtain⟨v,q1,q2⟩:=E.env.val j d' q
   exact⟨v,by rw [Oq (Ne.symm ne)]; exact q1,q2.mono s⟩
 ·rcases cN e with ⟨hj,q⟩ | ⟨ne,q⟩
  ·cases q
   rw [hj]
   exact⟨p,Oo hi,Oj,new⟩
  ·obtain⟨a,q1,q2,q3⟩:=E.env.own j xs q
   obtain⟨o,ho⟩:=q3.some
   exact⟨a,by rw [Oq (Ne.symm ne)]; exact q1,Ol _ q2,q3.mono (Bv sm ho) s⟩
 ·rcases cN e1 with ⟨hj,q1⟩ | ⟨nj,q1⟩
  ·rcases cN e2 with ⟨hk,q2⟩ | ⟨nk,q2⟩
   ·exact hj.trans hk.symm
   ·rw [hj,Oo hi] at e3
    cases e3
    rw [Oq (Ne.symm nk)] at e4
    exact absurd e4 (other k ys q2)
  ·rcases cN e2 with ⟨hk,q2⟩ | ⟨nk,q2⟩
   ·rw [hk,Oo hi] at e4
    cases e4
    rw [Oq (Ne.symm nj)] at e3
    exact absurd e3 (other j xs q1)
   ·rw [Oq (Ne.symm nj)] at e3
    rw [Oq (Ne.symm nk)] at e4
    exact E.env.one j k xs ys a q1 q2 e3 e4
 ·rcases List.mem_cons.mp ha with rfl | ha
  ·exact m
  ·exact(E.env.all.same sm).2 a ha
 ·rcases List.mem_cons.mp ha with rfl | ha
  ·exact .inr (E.base.same.free hp)
  ·exact E.base.new a ha
 ·rcases cN e1 with ⟨hj,q1⟩ | ⟨nj,q1⟩
  ·rw [hj,Oo hi] at e2
   cases e2
   exact⟨E.base.same.free hp,fun z=>hpO (E.base.sub p z)⟩
  ·rw [Oq (Ne.symm nj)] at e2
   exact E.mine j xs a q1 e2
def NV (X:Cx) (F:FX):TE:=fun σ H Q=>∃ O ρ,eV X.K O H ρ σ/\i3 X σ O H (F ρ) fun d=>∀ p H',bS H H'->H p=none->(∃ o,H' p=some o/\xB o)->m8 X.K H' (p::O) p d->Q (.ref p) H'
def FN (X:Cx) (e:SJ) (F:FX):Prop:=PE X e (NV X F)
section
variable {X:Cx} {pos:Pos}
theorem lw {K:Rf} {H:Hp} {O:List Su} {p:Su} {ds:List D} {vs:List V} (hp:H p=none) (d:bD K (hid H O) ds vs):m8 K (upd H p (.lst vs)) (p::O) p (.lst ds):=⟨_,vs,cg,rfl,d.mono (yA hp)⟩
theorem Mh {es:List SJ} {g:az->R (List D)} (h:FA X es g):FN X (.List es pos) (mX g) :=
 PE.weak (Dk h) fun σ H Q ⟨O,ρ,E,hF⟩=>⟨O,ρ,E,(i3.bind hF).imp fun xs hF vs H1 s1 d1=>by
  obtain⟨d,e,q⟩:=i3.rO hF
  obtain⟨hz,e⟩:=bZ e
  subst e
  refine⟨by rw [<- d1.length]; exact fe hz,fun p hp=>?_⟩
  exact q p _ (s1.trans (cz hp _)) (s1.free hp) ⟨_,cg,trivial⟩ (lw hp d1)⟩
theorem LO {x:Str} {p:Pos} {e:SJ} {f:az->R (List D)} (hg:Gl X x) (hm:X.mg x=none) (hv:SD x=some (.type "list")) (ha:FA X [e] f) (hn:x ≠ "__name__":=by decide) (hdb:(x==("__debug__":Str))=false:=by decide)
  (hns:noStar e=true:=by rfl):FN X (.Call (.Name x p) [e] [] pos) (fL kZ f) :=
 PE.weak (vA (kL) hg hm hv ha hn hdb (dY hns) (fN rfl)) fun σ H Q ⟨O,ρ,E,hF⟩=>⟨O,ρ,E,(i3.bind hF).imp fun ds hF vs H1 s1 d1=>by
  obtain⟨d,hg,q⟩:=i3.rO hF
  unfold kZ at hg
  split at hg
  ·rename_i ys
   cases hg
   obtain⟨v,ev,h1⟩:=d1.one
   rw [cT] at h1
   obtain⟨p,ws,ep,g1,g2⟩:=h1
   exact⟨p,ws,by rw [ev,ep],.inl ((aY H1 O).seq g1),fun l hl=>q l _ (s1.trans (cz hl _)) (s1.free hl) ⟨_,cg,trivial⟩ (lw hl g2)⟩
  ·rename_i ys
   cases hg
   obtain⟨v,ev,h1⟩:=d1.one
   rw [cS] at h1
   obtain⟨p,ws,ep,g1,g2⟩:=h1
   exact⟨p,ws,by rw [ev,ep],.inr (cn (aY H1 O) g1),fun l hl=>q l _ (s1.trans (cz hl _)) (s1.free hl) ⟨_,cg,trivial⟩ (lw hl g2)⟩
  ·cases hg⟩
def ui (i:Nat) (f:FX):cB:=fun k ρ=>rH (f ρ) k ρ fun d=>k.nx (ρ.set i (some (.own d)))
theorem CP {st:SL} {f:FX} {i:Nat} (hi:i < X.N.length) (h:PS X st (Di (NV X f) (uI i))):FS X st (ui i f):=fun Hb Ob pins s σ H E I ⟨O,ρ,k,r,S,hF,hk⟩ =>
 h pins s σ H E I ⟨O,ρ,S.env,i3.on hF hk S fun d e p H1 s1 hp m o=>hk.nx _ _ _ H1 (S.setNew (by rw [I.len]; exact hi) s1 hp m o) e⟩
theorem M6 {i:Nat} {x:Str} {e:SJ} {f:FX} {pos':Pos} (hN:X.N.Nodup) (hi:X.N[i]?=some x) (hx:Loc X.env.scope x) (he:FN X e f) (hs:swapsWith e (some (.Name x pos')) pos.line X.env=pure false:=by rfl) (hf:X.fn x=true\/X.env.scope.names.lookup x=some .local:=by first | exact .inl rfl | exact .inr rfl | assumption) :
  FS X (.Assign [.Name x pos'] e pos) (ui i f):=CP (List.getElem?_eq_some_iff.mp hi).1 (Dz hN hi hx he hs hf)
end
def zH (i:Nat) (u:List D->List D->Option (List D)) (f:az->R (List D)):cB:=fun k ρ=>match ρ[i]? with
 | some (some (.own (.lst xs)))=>rH (f ρ) k ρ fun ds=>(rO (u xs ds)).bind fun ys=>k.nx (ρ.set i (some (.own (.lst ys))))
 | _=>un
def Bo (K:Rf) (r:V->List V->Hp->VK->Prop) (u:List D->List D->Option (List D)):Prop :=
 ∀ (H:Hp) (O:List Su) (a:Su) (xs ys as:List D) (ws vs:List V) (Q:VK),eP H O->a∈O->H a=some (.lst ws)->bD K (hid H O) xs ws->bD K (hid H O) as vs->u xs as=some ys->(∀ ws' v,bD K (hid H O) ys ws'->Q v (upd H a (.lst ws')))->r (.ref a) vs H Q
theorem qu {K:Rf} {H:Hp} {O:List Su} {a:Su} {ys:List D} {ws:List V} (ha:a∈O) (h:bD K (hid H O) ys ws):m8 K (upd H a (.lst ws)) O a (.lst ys):=⟨_,ws,cg,rfl,h.mono (qK ha)⟩
theorem NU {X:Cx} {i:Nat} {x m:Str} {id:String} {r:V->List V->Hp->VK->Prop} {u:List D->List D->Option (List D)} {e:SJ} {es:List SJ} {f:az->R (List D)} {npos apos cpos pos:Pos} (slot:Slot "list" m id) (hty:typeOf (.builtin id)=pure (.type "method_descriptor")) (hm:Ls X id r) (ok:Bo X.K r u) (hx:PE X (.Name x npos) (qy i)) (he:FA X (e::es) f)
  (hbase:Tc (.Name x npos) m X.env (eval (.Name x npos) X.env)=eval (.Name x npos) X.env:=by rfl)
  (hfew:((backTo cpos (SK (e::es) X.env)).all (fun x=>!x.1) && (backToKw cpos (Te [] X.env)).all (fun x=>x.1.isSome)
   && decide ((e::es:List SJ).length+([]:List TJ).length+(if ([]:List TJ).isEmpty then 0 else 1) < 30))=true:=by rfl)
  (hline:(apos.endLine==cpos.line)=true:=by rfl) (hs:SK (e::es) X.env=(false,eval e X.env)::SK es X.env:=by rfl) (hplain:(backTo cpos (SK es X.env)).any (·.1)=false:=by rfl)
  (hsw:swapsWith (.Call (.Attribute (.Name x npos) m apos) (e::es) [] cpos) none pos.line X.env=pure false:=by rfl) :
  FS X (.Expr (.Call (.Attribute (.Name x npos) m apos) (e::es) [] cpos) pos) (zH i u f):=fun Hb Ob pins s σ H E I ⟨O,ρ,k,rr,S,hF,hk⟩=>by
 unfold zH at hF
 split at hF
 ·rename_i xs hxs
  obtain⟨a,ha,haO,hat⟩:=S.env.own i _ hxs
  obtain⟨o,vs0,ho,eo,dn⟩:=hat
  subst eo
  refine Fo (HI F.plainAttrs_list slot hty hm hx he hbase hfew hline hs hplain) hsw pins s σ H E I ⟨.ref a,ha,.inl ⟨rfl,vs0,nN.of ho⟩,O,ρ,S.env,i3.on hF hk S fun ds hr vs H1 s1 d1=>?_⟩
  have S1:=S.same s1
  cases hu1:u xs ds with
  | none=>rw [hu1] at hr; exact absurd hr.symm hk.ne
  | some ys =>
   rw [hu1] at hr
   exact ok H1 O a xs ys ds vs0 vs _ S1.env.all haO (s1 _ _ ho) (dn.mono (de s1)) d1 hu1 fun ws' v new=>hk.nx O _ σ _ (S1.setO hxs ha trivial (qu haO new)) hr
 ·exact absurd hF.symm hk.ne
def pQ (xs:List D) (ds:List D):Option (List D):=match ds with
 | [y]=>if small (xs.length+1) then some (xs++[y]) else none
 | _=>none
theorem mK {K:Rf}:Bo K Ba pQ:=fun H O a xs ys as ws vs Q hO haO ha dx da hu q=>by
 unfold pQ at hu
 split at hu
 ·rename_i y
  obtain⟨h1,h2⟩:=bZ hu
  subst h2
  obtain⟨v,rfl,dv⟩:=da.one
  have:=fe h1
  rw [dx.length] at this
  exact⟨a,ws,v,rfl,rfl,ha,by omega,q _ _ (dx.snoc dv)⟩
 ·cases hu
def Ab (xs:List D) (ds:List D):Option (List D):=match ds with
 | [.int i,y]=>if decide (0<=i/\i<=xs.length) && small (xs.length+1) then some (xs.take i.toNat++y::xs.drop i.toNat) else none
 | _=>none
def BO:V->List V->Hp->VK->Prop:=fun x vs H Q=>∃ l xs i y,x=.ref l/\vs=[.int i,y]/\H l=some (.lst xs)/\0<=i/\i<=xs.length/\xs.length < 100001/\Q .non (upd H l (.lst (xs.take i.toNat++y::xs.drop i.toNat)))
theorem vg {X:Cx}:Ls X "list.insert" BO:=by
 intro pins s σ H x vs v us Q I rx rv h
 obtain⟨l,xs,i,y,rfl,rfl,hH,h0,h1,hz,q⟩:=h
 cases rx
 obtain⟨u1,u,rfl,r1,ru⟩:=rv.two
 obtain⟨t,rfl⟩:=r1
 obtain⟨z,its,n,r,hl,e⟩:=I.lstM hH
 have hfit:¬ (!Builtin.List.listFitsIndex i)=true:=by
  have e:Builtin.List.listFitsIndex i=true:=by
   unfold Builtin.List.listFitsIndex
   rw [O1]
   exact⟨decide_eq_true ‹0›,decide_eq_true ‹0›⟩
  rw [e]; decide
 refine call_meets F.slot_list_insert ⟨_,e,rfl⟩ F.entry_list_insert (F.args_list_insert_3 _ _ _) (AutoSeq1.list_insert_list_int_val_1 l its.toArray n i t u hfit (by rw [Oy]; omega)) ⟨e,?_⟩
 refine⟨.non,_,I.lset (its':=its.take i.toNat++u::its.drop i.toNat) hH e ?_ ((r.take _).append (.cons ru (r.drop _))) ?_,rfl,q⟩
 ·have e1:(if i < 0 then (i+(its.toArray.size:Int)).toNat else min i.toNat its.toArray.size)=i.toNat:=by
   rw [if_neg ‹0›,Oy]; omega
  show (its.toArray.extract 0 (if i < 0 then (i+(its.toArray.size:Int)).toNat else min i.toNat its.toArray.size)).push u++its.toArray.extract (if i < 0 then (i+(its.toArray.size:Int)).toNat else min i.toNat its.toArray.size)=_
  rw [e1]
  apply Array.ext'
  simp [Qb]
 ·rw [OW,OL,OA,O0,Ta]
  omega
theorem uM {K:Rf}:Bo K BO Ab:=fun H O a xs ys as ws vs Q hO haO ha dx da hu q=>by
 unfold Ab at hu
 split at hu
 ·rename_i i y
  obtain⟨h1,h2⟩:=bZ hu
  subst h2
  rw [O1] at h1
  obtain⟨i0,i1⟩:=of_decide_eq_true h1.1
  have hz:xs.length+1<=100000:=of_decide_eq_true h1.2
  obtain⟨v,w,rfl,dv,dw⟩:=da.two
  have hl:=dx.length
  refine⟨a,ws,i,w,rfl,by rw [gE.mp dv],ha,i0,by omega,by omega,q _ _ ?_⟩
  exact(dx.take _).append (bP.mpr ⟨w,_,rfl,dw,dx.drop _⟩)
 ·cases hu
def nv (i:Nat) (fi fv:FX):cB:=fun k ρ=>match ρ[i]? with
 | some (some (.own (.lst xs)))=>rH ((fv ρ).bind fun y=>(fi ρ).bind fun j=>.ok (y,j)) k ρ fun p=>match p.2 with
  | .int j=>match xt xs.length j with
   | some n=>k.nx (ρ.set i (some (.own (.lst (xs.set n p.1)))))
   | none=>un
  | _=>un
 | _=>un
theorem Ge {X:Cx} {i:Nat} {x:Str} {idx value:SJ} {fi fv:FX} {npos tpos pos:Pos} (hx:PE X (.Name x npos) (qy i)) (hi:FE X idx fi) (hv:FE X value fv)
  (hs:swapsWithSole [.Subscript (.Name x npos) idx tpos] value pos.line X.env=pure false:=by rfl) (hw:swappedStores [.Subscript (.Name x npos) idx tpos] value X.env=pure none:=by rfl)
  (h1:(assignEach [.Subscript (.Name x npos) idx tpos] X.env).map (·.2)=[assign (.Subscript (.Name x npos) idx tpos) X.env]:=by rfl)
  (hg:PG X (.Subscript (.Name x npos) idx tpos) (L2.jt (qy i) (tF X fi) HK)) :
  FS X (.Assign [.Subscript (.Name x npos) idx tpos] value pos) (nv i fi fv):=fun Hb Ob pins s σ H E I ⟨O,ρ,k,rr,S,hF,hk⟩=>by
 unfold nv at hF
 split at hF
 ·rename_i xs hxs
  obtain⟨a,ha,haO,hat⟩:=S.env.own i _ hxs
  obtain⟨o,vs0,ho,eo,dn⟩:=hat
  subst eo
  have hP:=i3.on hF hk S (Q:=fun p=>(match p.2 with | .int j=>(match xt xs.length j with | some n=>k.nx (ρ.set i (some (.own (.lst (xs.set n p.1))))) | none=>un) | _=>un)=rr) fun p e=>e
  refine DK hv hg hs hw h1 pins s σ H E I ⟨O,ρ,S.env,(i3.bind hP).imp fun y hP v H1 s1 d1=>?_⟩
  have S1:=S.same s1
  refine⟨.ref a,ha,O,ρ,S1.env,((i3.bind hP).mono s1).imp fun j hP w H2 s2 d2=>?_⟩
  have S2:=S1.same s2
  cases j with
  | int j =>
   cases hn:xt xs.length j with
   | none =>
    have e:(match xt xs.length j with | some n=>k.nx (ρ.set i (some (.own (.lst (xs.set n y))))) | none=>un)=rr:=hP
    rw [hn] at e
    exact absurd e.symm hk.ne
   | some n =>
    have e:(match xt xs.length j with | some n=>k.nx (ρ.set i (some (.own (.lst (xs.set n y))))) | none=>un)=rr:=hP
    rw [hn] at e
    have s12:=s1.trans s2
    refine⟨a,vs0,j,n,rfl,gE.mp d2,s12 _ _ ho,by rw [<- dn.length]; exact hn,hk.nx O _ σ _ (S2.setO hxs ha trivial (qu haO ?_)) e⟩
    exact(dn.mono (de s12)).set (d1.mono (de s2)) n
  | _=>exact absurd (show un=rr from hP).symm hk.ne
 ·exact absurd hF.symm hk.ne
def frz (i:Nat) (ρ:az):az:=match ρ[i]? with
 | some (some (.own d))=>setV i d ρ
 | _=>ρ
theorem eV.frz {K:Rf} {O:List Su} {H:Hp} {ρ:az} {σ:St} (E:eV K O H ρ σ) (i:Nat):∃ O',eV K O' H (frz i ρ) σ/\(∀ b∈O',b∈O)/\∀ b∈O,b∉O'->∃ d,ρ[i]?=some (some (.own d))/\σ[i]?=some (some (.ref b)):=by
 unfold TG.frz
 split
 ·rename_i d hd
  obtain⟨a,ha,haO,hat⟩:=E.own i d hd
  have sub:∀ b∈O.filter (fun b=>decide (b≠a)),b∈O:=fun b hb=>(List.mem_filter.mp hb).1
  have s:bS (hid H O) (hid H (O.filter fun b=>decide (b≠a))):=lQ sub
  have na:a∉O.filter fun b=>decide (b≠a):=fun z=>absurd rfl (of_decide_eq_true (List.mem_filter.mp z).2)
  refine⟨O.filter fun b=>decide (b≠a),⟨fun j d' e=>?_,fun j ys e=>?_,fun j l ys zs b q1 q2 q3 q4=>?_,⟨E.all.1,fun b hb=>E.all.2 b (sub b hb)⟩⟩,sub,fun b hb nb=>?_⟩
  ·rcases cN e with ⟨hj,q⟩ | ⟨ne,q⟩
   ·cases q
    rw [hj]
    exact⟨.ref a,ha,hat.den s na⟩
   ·obtain⟨w,q1,q2⟩:=E.val j d' q
    exact⟨w,q1,q2.mono s⟩
  ·rcases cN e with ⟨_,q⟩ | ⟨ne,q⟩
   ·cases q
   ·obtain⟨b,q1,q2,q3⟩:=E.own j ys q
    have nb:b≠a:=fun z=>ne (E.one j i ys d a q hd (by rw [<- z]; exact q1) ha)
    exact⟨b,q1,List.mem_filter.mpr ⟨q2,decide_eq_true nb⟩,q3.mono rfl s⟩
  ·rcases cN q1 with ⟨_,q⟩ | ⟨_,q⟩
   ·cases q
   ·rcases cN q2 with ⟨_,q'⟩ | ⟨_,q'⟩
    ·cases q'
    ·exact E.one j l ys zs b q q' q3 q4
  ·by_cases z:b=a
   ·exact⟨d,hd,by rw [z]; exact ha⟩
   ·exact absurd (List.mem_filter.mpr ⟨hb,decide_eq_true z⟩) nb
 ·exact⟨O,E,fun _ z=>z,fun b hb nb=>absurd hb nb⟩
theorem gK.frz {K:Rf} {Hb:Hp} {Ob O:List Su} {H:Hp} {ρ:az} {σ:St} (E:gK K Hb Ob O H ρ σ) (i:Nat):∃ O',gK K Hb Ob O' H (frz i ρ) σ:=by
 obtain⟨O',E',sub,gone⟩:=E.env.frz i
 refine⟨O',E',⟨E.base.same,fun a ha=>?_,fun a ha=>E.base.new a (sub a ha)⟩,fun j xs a q1 q2=>?_⟩
 ·by_cases z:a∈O'
  ·exact z
  ·obtain⟨d,e1,e2⟩:=gone a (E.base.sub a ha) z
   exact absurd ha (E.mine i d a e1 e2).2
 ·have q:ρ[j]?=some (some (.own xs)):=by
   unfold TG.frz at q1
   split at q1
   ·rcases cN q1 with ⟨_,q⟩ | ⟨_,q⟩
    ·cases q
    ·exact q
   ·exact q1
  exact E.mine j xs a q q2
def pE (i:Nat) (F:cB):cB:=fun k ρ=>F k (frz i ρ)
theorem Lv {X:Cx} {st:List SL} {F:cB} (i:Nat) (h:Ac X st F):Ac X st (pE i F):=fun Hb Ob=>xx.weak (h Hb Ob) fun E σ H ⟨O,ρ,k,r,S,hF,hk⟩=>by
 obtain⟨O',S'⟩:=S.frz i
 exact⟨O',TG.frz i ρ,k,r,S',hF,hk⟩
def frzs (is:List Nat) (ρ:az):az:=is.foldl (fun ρ i=>frz i ρ) ρ
theorem eV.frzs {K:Rf} {H:Hp} {σ:St}:∀ (is:List Nat) {O:List Su} {ρ:az},eV K O H ρ σ->∃ O',eV K O' H (frzs is ρ) σ
 | [],O,_,E=>⟨O,E⟩
 | i::is,_,_,E=>by
  obtain⟨O',E',_⟩:=E.frz i
  exact eV.frzs is E'
def dU (is:List Nat) (f:az->R Bool):az->R Bool:=fun ρ=>De (f (frzs is ρ))
theorem LW {X:Cx} {e:SJ} {f:az->R Bool} (is:List Nat) (h:FT X e f):FT X e (dU is f):=PT.weak h fun σ H Q ⟨O,ρ,E,hF⟩=>by
 obtain⟨O',E'⟩:=E.frzs is
 refine⟨O',TG.frzs is ρ,E',?_⟩
 unfold dU at hF
 cases hf:f (TG.frzs is ρ) with
 | error z=>rw [hf] at hF; exact hF.elim
 | ok d=>rw [hf] at hF; exact hF
end TG
namespace TG
open PySem PySem.Spec L2
variable [bp]

def Df (K:Rf) (n:Nat) (g:List D->R D):Sp:=fun vs H Q E=>∃ O ds,vs.length=n/\eP H O/\bD K (hid H O) ds vs/\match g ds with
 | .ok d=>∀ v H',bS H H'->dj K (hid H' O) d v->Q v H'
 | .error (some x)=>L8 K H O x E
 | .error none=>False
section
variable {X:Cx} {k:Nat} {f C:Su} {fd:Th} {ps:List Str} {sp:Sp} {x m:Str} {p pos apos:Pos} {e o:SJ} {es:List SJ} {ta:TE} {t:TA}
theorem xY {pins:List (Su×Obj)} {σ:St} {H:Hp} {s:SF} {Q:VK} {E:XK} {us:List Sq} {vs:List V} (F:js X.prog X.w X.K X.mg X.base (nh X.prog X.w) k f fd ps sp) (hr:fG k X.A) (hb:Binds X.K fd ps []) (hx:lD (nh X.prog X.w) X σ E)
  (I:Inv X pins σ H s) (r:Vals vs us) (h:sp vs H Q E):SH (model X.prog X.w) X.A (call (.ref f) us) (EP X pins σ Q) X.xe s:=by
 have hl:(us++[]).length=ps.length:=by rw [OI,<- r.length]; exact F.len _ _ _ _ h
 have hb':=hb s us I.kIn hl
 rw [OI] at hb'
 refine wpAny_call (Tj (F.run X.A X.stack s H ⟨us,[]⟩ us vs Q E hr I.env0 hb' r h) fun r s' hq=>?_)
 cases r with
 | error e=>exact hx pins H s e s' I hq
 | ok fl =>
  cases fl with
  | ret u=>exact I.after hq
  | next=>exact False.elim hq
  | brk=>exact False.elim hq
  | cont=>exact False.elim hq
def EF (X:Cx) (sp:Sp) (t:TA):TE:=fun σ H Q=>t σ H fun vs H1=>∃ E,lD (nh X.prog X.w) X σ E/\sp vs H1 Q E
theorem Dl (F:js X.prog X.w X.K X.mg X.base (nh X.prog X.w) k f fd ps sp) (hr:fG k X.A) (hg:Gl X x) (hm:X.mg x=some (.ref f)) (hk:Rt X.K (.ref f)=true) (hb:Binds X.K fd ps [])
  (ha:PA X (e::es) t) (hdb:(x==("__debug__":Str))=false:=by decide) (he:SK (e::es) X.env=(false,eval e X.env)::SK es X.env:=by rfl) (hpl:(backTo pos (SK es X.env)).any (·.1)=false:=by rfl) :
  PE X (.Call (.Name x p) (e::es) [] pos) (EF X sp t):=by
 intro pins s σ H Q I h
 refine Tl (xj I hg hm ?_ hdb)
 refine Ru (h₀:=X.base) I.ok.mod.kin hk (dX (ha pos pins s σ H _ I h) fun us s1 ⟨vs,H1,I1,r,E,hx,q⟩=>⟨I1.kIn,?_⟩) he hpl
 exact xY F hr hb hx I1 r q
theorem CO {n:Nat} {g:List D->R D} {f:az->R (List D)} (hn:∀ ds,g ds≠un->ds.length=n):∀ σ H Q,tF X (fR g f) σ H Q->EF X (Df X.K n g) (MR X f) σ H Q:=fun σ H Q ⟨O,ρ,E,hF⟩ =>
 ⟨O,ρ,E,(i3.bind hF).imp fun ds hF vs H1 s1 d1=>by
  cases hg:g ds with
  | ok d =>
   rw [hg] at hF
   refine⟨E0,BD,O,ds,by rw [<- d1.length]; exact hn ds (by rw [hg]; intro z; cases z),E.all.same s1,d1,?_⟩
   rw [hg]
   exact fun v H2 s2 d2=>hF v H2 (s1.trans s2) d2
  | error z =>
   rw [hg] at hF
   cases z with
   | none=>exact hF.elim
   | some x =>
    refine⟨Bq X O H1 x,Bx (Js.mono hF s1),O,ds,by rw [<- d1.length]; exact hn ds (by rw [hg]; intro z; cases z),E.all.same s1,d1,?_⟩
    rw [hg]
    exact zj⟩
end
def Callee (P:Ss) (w:Sr) (K:Rf) (mg:Str->Option Sq) (base:Sw) (k:Nat) (x:Str) (ps:List Str) (g:List D->R D):Prop :=
 ∃ f fd,js P w K mg base (nh P w) k f fd ps (Df K ps.length g)/\Binds K fd ps []/\Rt K (.ref f)=true/\mg x=some (.ref f)
def Ar (n:Nat) (g:List D->R D):Prop:=∀ ds,g ds≠un->ds.length=n
theorem Jo {X:Cx} {k k':Nat} {ps:List Str} {g:List D->R D} {h:az->R (List D)} {x:Str} {p pos:Pos} {e:SJ} {es:List SJ}
  (C:Callee X.prog X.w X.K X.mg X.base k x ps g) (hn:Ar ps.length g) (hr:fG k' X.A) (hk:k<=k') (ha:FA X (e::es) h) (hg:Gl X x:=by rfl)
  (hdb:(x==("__debug__":Str))=false:=by decide) (hns:(e::es).all noStar=true:=by rfl) :
  FE X (.Call (.Name x p) (e::es) [] pos) (fR g h):=by
 obtain⟨f,fd,F,b,kp,m⟩:=C
 exact PE.weak (Dl F (hr.mono hk) hg m kp b ha hdb (dY (O1 _ _ ▸ hns).1) (fN (O1 _ _ ▸ hns).2)) (CO hn)
def K0:Ks:={ nx:=fun _=>.ok .non }
def env0 (n:Nat) (ds:List D):az:=ds.map (fun d=>some (.val d))++List.replicate (n - ds.length) none
def aP (B:cB) (np n:Nat):List D->R D:=fun ds=>if ds.length=np then B K0 (env0 n ds) else un
theorem aI {B:cB} {np n:Nat}:Ar np (aP B np n):=fun ds h=>by
 unfold aP at h
 split at h
 ·assumption
 ·exact absurd rfl h
theorem lY {n:Nat} {ds:List D} (i:Nat) (x:S) (e:(env0 n ds)[i]?=some (some x)):∃ d,ds[i]?=some d/\x=.val d:=by
 unfold env0 at e
 by_cases hi:i < ds.length
 ·rw [OQ (by rw [OC]; exact hi),OS,PJ hi] at e
  have e':some (S.val ds[i])=some x:=Option.some.inj e
  exact⟨ds[i],by rw [PJ hi],(Option.some.inj e').symm⟩
 ·rw [OM (by rw [OC]; omega),OC,OO] at e
  split at e
  ·cases e
  ·cases e
theorem tI {K:Rf} {O:List Su} {H:Hp} {N:List Str} {ds:List D} {vs:List V} (hO:eP H O) (h:bD K (hid H O) ds vs):eV K O H (env0 N.length ds) (L2.start N vs):=by
 refine⟨fun i d e=>?_,fun i xs e=>?_,fun i j xs ys a e=>?_,hO⟩
 ·obtain⟨d',e1,e2⟩:=lY i _ e
  cases e2
  obtain⟨v,e3,e4⟩:=h.get e1
  refine⟨v,?_,e4⟩
  unfold L2.start
  have hi:i < vs.length:=(List.getElem?_eq_some_iff.mp e3).1
  rw [OQ (by rw [OC]; exact hi),OS,e3]; rfl
 ·obtain⟨d',_,e2⟩:=lY i _ e
  cases e2
 ·obtain⟨d',_,e2⟩:=lY i _ e
  cases e2
section
variable {P:Ss} {w:Sr} {K:Rf} {mg:Str->Option Sq} {base:Sw}
structure BodyOk (P:Ss) (w:Sr) (K:Rf) (mg:Str->Option Sq) (base:Sw) (k:Nat) (N:List Str) (qual:Str) (st:SL) (f:Su) (B:cB):Prop where
 h:∀ (cdv:Sq) (A:SE) (outer:List Env) (s:SF) (H:Hp) (E:XK),fG k (A.deeper (RZ qual (aA st) s.heap.objs.size f cdv))->S4 (model P w) (A.deeper (RZ qual (aA st) s.heap.objs.size f cdv)) (RZ qual (aA st) s.heap.objs.size f cdv) (jL (nh P w) P w K mg base N qual (aA st) f cdv A outer s H E).xe ->
  Ac (jL (nh P w) P w K mg base N qual (aA st) f cdv A outer s H E) (fA st) B
theorem NB {x qual:Str} {st:SL} {f:Su} {fd:Th} {N ps:List Str} {k:Nat} {sp:Sp} {CX:Az} (F:wK K x qual st f fd) (S:aJ N ps (aA st)) (len:∀ vs H Q E,sp vs H Q E->vs.length=ps.length)
  (hbody:∀ (cdv:Sq) (A:SE) (outer:List Env) (s:SF) (H:Hp) (vs:List V) (Q:VK) (E:XK),fG k (A.deeper (RZ qual (aA st) s.heap.objs.size f cdv))->sp vs H Q E ->
   ∃ t,xx (jL CX P w K mg base N qual (aA st) f cdv A outer s H E) (fA st) t/\t { nx:=fun _ H'=>Q .non H',rt:=Q } (L2.start N vs) H):js P w K mg base CX (k+1) f fd ps sp:=by
 obtain⟨oc,od,kV,doc,pm,an,cdv,ct,osl,rfl,lk,hcd⟩:=F.ex
 exact D5 lk hcd S len fun A outer s H vs Q E hr hsp=>hbody cdv A outer s H vs Q E hr hsp
theorem js.any {CX:Az} {k:Nat} {f:Su} {fd:Th} {ps:List Str} {sp:Sp} (F:js P w K mg base Le k f fd ps sp):js P w K mg base CX k f fd ps sp :=
 ⟨F.len,fun A outer s H args us vs Q E hr he hb hv hs=>Tj (F.run A outer s H args us vs Q E hr he hb hv hs) fun r s' h=>by
  cases r with
  | error e=>exact False.elim h
  | ok fl=>cases fl <;> exact h⟩
theorem wZ {x qual:Str} {st:SL} {f:Su} {fd:Th} {N ps:List Str} {k:Nat} {B:cB} (F:wK K x qual st f fd) (SC:aJ N ps (aA st)) (hb:BodyOk P w K mg base k N qual st f B) :
  js P w K mg base (nh P w) (k+1) f fd ps (Df K ps.length (aP B ps.length N.length)):=by
 refine NB F SC (fun vs H Q E h=>?_) fun cdv A outer s H vs Q E hr h=>?_
 ·obtain⟨O,ds,h1,_⟩:=h
  exact h1
 ·obtain⟨O,ds,h1,h2,h3,h4⟩:=h
  have hl:ds.length=ps.length:=h3.length.trans h1
  have e4:aP B ps.length N.length ds=B K0 (env0 N.length ds):=by unfold aP; rw [if_pos hl]
  rw [e4] at h4
  refine⟨_,hb.h cdv A outer s H E hr PassesOwn.leaving H O,O,env0 N.length ds,K0,_,⟨tI h2 h3,⟨bS.refl H,fun _ z=>z,fun a z=>.inl z⟩,fun i xs a e=>?_⟩,rfl,?_⟩
  ·obtain⟨d',_,e2⟩:=lY i _ e
   cases e2
  ·generalize B K0 (env0 N.length ds)=r at h4
   refine⟨fun z=>by rw [z] at h4; exact h4,fun O' ρ' σ' H' S e=>?_,fun O' ρ' σ' H' S e=>?_,fun O' ρ' σ' H' S e=>?_,fun d O' v H' e b dv=>?_,fun O' ρ' σ' H' x S e=>?_⟩
   ·have e:(.ok .non:R D)=r:=e
    subst e
    exact h4 .non H' S.base.same (kX.mpr rfl)
   ·have e:(un:R D)=r:=e
    subst e
    exact h4.elim
   ·have e:(un:R D)=r:=e
    subst e
    exact h4.elim
   ·subst e
    exact h4 v H' b.same (dv.mono (lQ b.sub))
   ·have e:(.error (some x):R D)=r:=e
    subst e
    exact EA h4 S.base.same S.base.sub
theorem aW {x qual:Str} {st:SL} {f:Su} {fd:Th} {N ps:List Str} {k:Nat} {B:cB} (F:wK K x qual st f fd) (b:Binds K fd ps []) (m:mg x=some (.ref f)) (SC:aJ N ps (aA st)) (hb:BodyOk P w K mg base k N qual st f B) :
  Callee P w K mg base (k+1) x ps (aP B ps.length N.length):=⟨f,fd,wZ F SC hb,b,F.kp,m⟩
theorem fY {x qual:Str} {st:SL} {f:Su} {fd:Th} {ps:List Str} (k:Nat) (F:wK K x qual st f fd) (b:Binds K fd ps []) (m:mg x=some (.ref f)):Callee P w K mg base k x ps (fun _=>un):=by
 have no:∀ vs H Q E,¬ Df K ps.length (fun _=>un) vs H Q E:=fun vs H Q E ⟨O,ds,_,_,_,e⟩=>e
 exact⟨f,fd,⟨fun vs H Q E h=>absurd h (no vs H Q E),fun A outer s H args us vs Q E _ _ _ _ h=>absurd h (no vs H Q E)⟩,b,F.kp,m⟩
end
theorem qS {K:Rf} {T:String} (h1:Rz K (.type "NoneType") (.type T)=some (T == "NoneType")) (h2:Rz K (.type "bool") (.type T)=some (T == "bool" || T == "int")) (h3:Rz K (.type "int") (.type T)=some (T == "int")) (h4:Rz K (.type "str") (.type T)=some (T == "str"))
  (h5:Rz K (.type "tuple") (.type T)=some (T == "tuple")) (h6:Rz K (.type "list") (.type T)=some (T == "list")):yq K T:=fun d hd=>by
 cases d with
 | dct _ _=>cases hd
 | obj _ _ _=>cases hd
 | exc _ _ _=>cases hd
 | non=>exact h1
 | bl _=>exact h2
 | int _=>exact h3
 | str _=>exact h4
 | tup _=>exact h5
 | lst _=>exact h6
theorem zg {K:Rf}:yq K "int":=qS rfl rfl rfl rfl rfl rfl
theorem mS {K:Rf}:yq K "bool":=qS rfl rfl rfl rfl rfl rfl
theorem pG {K:Rf}:yq K "str":=qS rfl rfl rfl rfl rfl rfl
theorem kJ {K:Rf}:yq K "tuple":=qS rfl rfl rfl rfl rfl rfl
end TG
namespace TG
open PySem PySem.Spec L2
variable [bp]

section
variable {X:Cx} {a b c:SJ} {fa fb fc:FX} {pos:Pos}
theorem I0 {r:V->Hp->VK->Prop} {g:D->Option D} (s:G6 X.K r g):∀ σ H Q,tF X (f1 g fa) σ H Q->LK r (tF X fa) σ H Q:=fun σ H Q ⟨O,ρ,E,hF⟩=>⟨O,ρ,E,(i3.bind hF).imp fun a hF x H1 s1 d1=>by
 obtain⟨d,e,q⟩:=i3.rO hF
 exact s a d x O H1 Q (E.all.same s1) e d1 fun v H2 s2 d2=>q v H2 (s1.trans s2) d2⟩
def qc (g g':D->D->Option D) (fa fb fc:FX):FX:=fun ρ=>(fa ρ).bind fun x=>(fb ρ).bind fun y=>(rO (g x y)).bind fun z=>Al z ((fc ρ).bind fun w=>rO (g' y w))
theorem Cg {r r':R2} {g g':D->D->Option D} (s:dH X.K r g) (s':dH X.K r' g'):∀ σ H Q,tF X (qc g g' fa fb fc) σ H Q->ED r r' (tF X fa) (tF X fb) (tF X fc) σ H Q:=fun σ H Q ⟨O,ρ,E,hF⟩ =>
 ⟨O,ρ,E,(i3.bind hF).imp fun x hF v1 H1 s1 d1=>⟨O,ρ,E.same s1,((i3.bind hF).mono s1).imp fun y hF v2 H2 s2 d2=>by
  obtain⟨z,e3,hF⟩:=i3.rO (i3.bind hF)
  refine s x y z v1 v2 O H2 _ (E.all.same (s1.trans s2)) e3 (d1.mono (de s2)) d2 fun v3 H3 s3 d3=>?_
  cases z with
  | bl k =>
   refine⟨k,j7.mp d3,?_⟩
   cases k with
   | false=>exact xL (hF _ H3 ((s1.trans s2).trans s3) (j7.mpr rfl))
   | true =>
    refine ww ⟨O,ρ,E.same ((s1.trans s2).trans s3),((i3.bind (show i3 X σ O H ((fc ρ).bind fun w=>rO (g' y w)) _ from hF)).mono ((s1.trans s2).trans s3)).imp fun w hF v4 H4 s4 d4=>?_⟩
    obtain⟨d,e5,q⟩:=i3.rO hF
    exact s' y w d v2 v4 O H4 Q (E.all.same (((s1.trans s2).trans s3).trans s4)) e5 (d2.mono (de (s3.trans s4))) d4 fun v5 H5 s5 d5=>q v5 H5 ((((s1.trans s2).trans s3).trans s4).trans s5) d5
  | _=>exact hF.elim⟩⟩
theorem KY {op op':SR} {r r':R2} {g g':D->D->Option D} (ho:j3 X (SU op) r) (s:dH X.K r g) (ho':j3 X (SU op') r') (s':dH X.K r' g') (ha:FE X a fa) (hb:FE X b fb) (hc:FE X c fc)
  (hm:lastMarks [op,op'] [b,c]=false:=by with_unfolding_all rfl):FE X (.Compare a [op,op'] [b,c] pos) (qc g g' fa fb fc):=PE.weak (DV ho ho' ha hb hc hm) (Cg s s')
def Fl:D->Option D
 | .int i=>some (.int (-i))
 | _=>none
def DQ (f:FX):FX:=f1 Fl f
theorem MB (ha:FE X a fa):FE X (.UnaryOp .USub a pos) (DQ fa):=PE.weak (Dp AJ ha) (I0 fun x d v O H Q _ e dv q=>by
 cases x with
 | int i=>cases e; exact⟨i,gE.mp dv,q _ H (bS.refl H) (gE.mpr rfl)⟩
 | _=>cases e)
def zL:List D->Option D
 | [.int i]=>if decide (i.natAbs.log2 < 1920) then some (.str (toString i)) else none
 | _=>none
theorem vF:et X (.type "str") (zD X.K zL):=by
 intro pins s σ H xs us Q I r ⟨O,ds,d,hO,hd,hg,q⟩
 unfold zL at hg
 split at hg
 ·rename_i i
  obtain⟨h1,h2⟩:=bZ hg
  subst h2
  obtain⟨v,ev,h1'⟩:=hd.one
  exact wQ pins s σ H xs us Q I r ⟨i,by rw [ev,gE.mp h1'],of_decide_eq_true h1,q _ H (bS.refl H) (gz.mpr rfl)⟩
 ·cases hg
def EI:D->Option D
 | .str x=>if small x.length then some (.str (Txt.upper x)) else none
 | _=>none
def Ij (f:FX):FX:=f1 EI f
theorem Bm (n:Nat):sliceRange ((n:Int) - 1) (-1) (-1)=(List.range n).map fun k=>n - 1 - k:=by
 unfold sliceRange
 dsimp only
 rw [if_neg (by decide:¬ (-1:Int) > 0)]
 have e:(if (n:Int) - 1 > -1 then ((n:Int) - 1 - -1 - -1 - 1) / - -1 else 0:Int).toNat=n:=by
  have e1:- (-1:Int)=1:=by decide
  rw [e1,OY]
  split <;> omega
 rw [e]
 refine PV fun k hk=>?_
 have:=List.mem_range.mp hk
 omega
theorem yP (l:List Sq):slicePick l.toArray none none (some (-1))=l.reverse.toArray:=by
 have e:slicePick l.toArray none none (some (-1))=((sliceRange ((l.length:Int) - 1) (-1) (-1)).filterMap (l.toArray[·]?)).toArray:=rfl
 rw [e,Bm]
 congr 1
 have go:∀ (m:Nat),m<=l.length->((List.range m).map fun k=>l.length - 1 - k).filterMap (l.toArray[·]?)=l.reverse.take m:=by
  intro m
  induction m with
  | zero=>intro _; simp
  | succ m ih =>
   intro hm
   rw [List.range_succ,PX,PY,ih ‹0›,PZ]
   congr 1
   have h1:l.length - 1 - m < l.length:=by omega
   have h2:l.reverse[m]?=l[l.length - 1 - m]?:=by rw [Qc ‹0›]
   rw [h2]
   simp [PJ h1]
 have:=go l.length (Ow _)
 rw [this,<- Qd,P5]
section
open PyProof.Rows
variable {prog:Ss} {w:Sr} {A:SE} {E:Sq->SF->Prop} {s:SF}
theorem p9 {sl:Su} {n:Nat} {t:Tok} {Q:Int×Int×Nat->SF->Prop} (hs:s.heap.IsSliceOf sl .none .none (.int (-1) t)) (h:Q ((n:Int) - 1,-1,n) s):SH (model prog w) A (Builtin.Slice.sliceApplied (.ref sl) (pure (n:Int))) Q E s:=by
 obtain⟨os,hos,hcs,hds⟩:=id hs
 unfold Builtin.Slice.sliceApplied Builtin.Slice.sliceFields
 refine SZ (SZ (Tt hos hds (x:=.none) rfl (SZ (Tt hos hds (x:=.none) rfl (SZ (Tt hos hds (x:=.int (-1) t) rfl (S6 ?_)))))))
 refine SZ (HT.rX (.int (-1) t) ?_)
 show SH _ _ (if ((-1:Int)==0)=true then _ else _) _ _ s
 rw [if_neg (by decide)]
 refine SZ (HT.rX .none (SZ (HT.rX .none (SZ (S6 ?_)))))
 have e1:Builtin.Slice.sliceAdjust none none (-1) (n:Int)=((n:Int) - 1,-1):=by
  unfold Builtin.Slice.sliceAdjust
  simp
 have e2:Builtin.Slice.slicePlaces ((n:Int) - 1) (-1) (-1)=n:=by
  unfold Builtin.Slice.slicePlaces
  simp
  omega
 show SH _ _ (match Builtin.Slice.sliceAdjust none none (-1) (n:Int) with | (lo,hi)=>pure (lo,(-1:Int),Builtin.Slice.slicePlaces lo hi (-1))) _ _ s
 rw [e1]
 show SH _ _ (pure ((n:Int) - 1,(-1:Int),Builtin.Slice.slicePlaces ((n:Int) - 1) (-1) (-1))) _ _ s
 rw [e2]
 exact S6 h
theorem pC {t sl:Su} {l:List Sq} {tk:Tok} {Q:Sq->SF->Prop} (ht:Sy s.heap t l.toArray) (hs:s.heap.IsSliceOf sl .none .none (.int (-1) tk))
  (h:Q (.ref s.heap.objs.size) { s with heap:=s.heap.push { cls:=.type "tuple",data:=.seq l.reverse.toArray } }) (hsz:l.length<=Sx):SH (model prog w) A (getItem (.ref t) (.ref sl)) Q E s:=by
 have htake:sizeOk (.seq l.reverse.toArray):=by
  show l.reverse.toArray.size<=Sx
  rw [Oy,Qd]; exact hsz
 obtain⟨os,hos,hcs,hds⟩:=id hs
 have hTs:s.TypeIs (.ref sl) "slice":=⟨os,hos,hcs⟩
 unfold getItem
 try with_reducible refine S0 ?_
 first | refine SZ (S6 ?_) | skip
 refine SZ (Tu ht.typeIs (by decide) ?_)
 refine SZ (Tv (name:=Str.ofString "__getitem__") ht.typeIs RY
  (Tw RY ht.typeIs entry_tuple_getitem ?_ (args_tuple_getitem _ _)))
 show SH _ _ (Builtin.Tuple.tupleItemsOf (.ref t) >>= _) _ _ s
 refine SZ (tupleItemsOf_ ht ?_)
 refine SZ (Tx hTs ?_)
 rw [if_pos (by decide)]
 refine SZ (p9 hs ?_)
 have hno:¬ ((((l.toArray.size:Int) - 1)==0 && (-1:Int)==1 && l.toArray.size==l.toArray.size)=true):=by
  intro q
  rw [O1,O1] at q
  exact absurd q.1.2 (by decide)
 show SH _ _ (if (((l.toArray.size:Int) - 1)==0 && (-1:Int)==1 && l.toArray.size==l.toArray.size)=true then _ else _) _ _ s
 have pick:((List.range l.toArray.size).filterMap fun (k:Nat)=>l.toArray[((l.toArray.size:Int) - 1+(k:Int)*(-1)).toNat]?).toArray=l.reverse.toArray:=by
  rw [<- yP l]
  have e:slicePick l.toArray none none (some (-1))=((sliceRange ((l.length:Int) - 1) (-1) (-1)).filterMap (l.toArray[·]?)).toArray:=rfl
  rw [e,Bm,OZ,Oy]
  have ef:(fun (k:Nat)=>l.toArray[((l.length:Int) - 1+(k:Int)*(-1)).toNat]?)=((fun x=>l.toArray[x]?) ∘ fun k=>l.length - 1 - k):=by
   funext k
   have:((l.length:Int) - 1+(k:Int)*(-1)).toNat=l.length - 1 - k:=by omega
   show l.toArray[((l.length:Int) - 1+(k:Int)*(-1)).toNat]?=l.toArray[l.length - 1 - k]?
   rw [this]
  rw [ef]
 rw [if_neg hno,pick]
 first
  | exact SZ (m:=Builtin.Tuple.tupleExact _) (Tz (S6 ⟨_,rfl,S6 h⟩) htake)
  | exact SZ (m:=Builtin.Tuple.tupleExact _) (Tz (SZ (S6 (S6 ⟨_,rfl,S6 h⟩))) htake)
  | exact SZ (SZ (m:=Builtin.Tuple.tupleExact _) (Tz (S6 (S6 ⟨_,rfl,S6 h⟩)) htake))
  | exact SZ (SZ (m:=Builtin.Tuple.tupleExact _) (Tz (S6 ⟨_,rfl,S6 h⟩) htake))
end
def Fb:D->Option D
 | .lst xs=>some (.lst xs.reverse)
 | .tup xs=>some (.tup xs.reverse)
 | _=>none
def Du (f:FX):FX:=f1 Fb f
theorem MD {st:SJ} {p2:Pos} (he:FE X a fa) (hst:PE X st (LK (rU fun i=>.int (-i)) (tC (.int 1)))):FE X (.Subscript a (.Slice none none (some st) p2) pos) (Du fa):=by
 intro pins s σ H Q I ⟨O,ρ,E,hF⟩
 refine PyProof.Rows.Subscript_ (dX (he pins s σ H (fun v H1=>bS H H1/\∃ x,dj X.K (hid H1 O) x v/\∃ d,Fb x=some d/\∀ v H',bS H H'->dj X.K (hid H' O) d v->Q v H') I ⟨O,ρ,E,(i3.bind hF).imp fun x hF v H1 s1 d1=>⟨s1,x,d1,i3.rO hF⟩⟩) fun v s1 ⟨y,H1,I1,r1,sm,x,dx,d,hF,q⟩=>?_)
 cases x with
 | lst xs =>
  cases hF
  refine TF ?_
  rw [TB]
  refine S6 (S6 ?_)
  rw [TC]
  refine dX (hst pins s1 σ H1 (fun v H'=>v=.int (-1)/\H'=H1) I1 ⟨1,rfl,rfl,rfl⟩) fun vs s3 ⟨z,H3,I3,r3,ez,eH⟩=>?_
  subst ez eH
  obtain⟨tz,rfl⟩:=r3
  obtain⟨p,ws,ep,g1,g2⟩:=cT.mp dx
  subst ep
  cases r1
  have I4:Inv X pins σ H3 { s3 with heap:=s3.heap.push { cls:=.type "slice",data:=.fields #[.none,.none,.int (-1) tz] } }:=I3.kept (t':=s3.toks) fun b ob q=>RN _ q
  obtain⟨its,r,ht,hz⟩:=I4.list ((aY H3 O).seq g1)
  have hlen:=r.length
  show SH (model X.prog X.w) X.A (R1 a (.Slice none none (some st) p2) (.ref p) (.ref s3.heap.objs.size)) (EP X pins σ Q) X.xe { s3 with heap:=s3.heap.push { cls:=.type "slice",data:=.fields #[.none,.none,.int (-1) tz] } }
  refine R3 (ops:=[.ref p,.ref s3.heap.objs.size]) ht.isList.typeIs list_getitem_lookup ?_ (by with_unfolding_all rfl)
  refine TH ht.isList (Heap.IsSliceOf.new ..) .none .none (.int (-1) tz) (by decide) ?_ (by rw [Oy]; omega)
  rw [yP]
  refine⟨.ref _,_,I4.lnew (t':=s3.toks) r.reverse (by rw [Qd]; exact hz),rfl,q _ _ (sm.trans (cz I4.fresh _)) (eF (E.all.same sm) I4.fresh g2.reverse)⟩
 | tup xs =>
  cases hF
  refine TF ?_
  rw [TB]
  refine S6 (S6 ?_)
  rw [TC]
  refine dX (hst pins s1 σ H1 (fun v H'=>v=.int (-1)/\H'=H1) I1 ⟨1,rfl,rfl,rfl⟩) fun vs s3 ⟨z,H3,I3,r3,ez,eH⟩=>?_
  subst ez eH
  obtain⟨tz,rfl⟩:=r3
  obtain⟨p,ws,ep,g1,g2⟩:=cS.mp dx
  subst ep
  cases r1
  have I4:Inv X pins σ H3 { s3 with heap:=s3.heap.push { cls:=.type "slice",data:=.fields #[.none,.none,.int (-1) tz] } }:=I3.kept (t':=s3.toks) fun b ob q=>RN _ q
  obtain⟨its,r,ht,hz⟩:=I4.tuple (cn (aY H3 O) g1)
  have hlen:=r.length
  show SH (model X.prog X.w) X.A (R1 a (.Slice none none (some st) p2) (.ref p) (.ref s3.heap.objs.size)) (EP X pins σ Q) X.xe { s3 with heap:=s3.heap.push { cls:=.type "slice",data:=.fields #[.none,.none,.int (-1) tz] } }
  refine R3 (ops:=[.ref p,.ref s3.heap.objs.size]) ht.typeIs PyProof.Rows.slot_tuple_getitem.lookup ?_ (by with_unfolding_all rfl)
  refine pC ht (Heap.IsSliceOf.new ..) ?_ ‹0›
  refine⟨.ref _,_,I4.laid (t':=s3.toks) (o:=.tup ws.reverse) (fun b ob q=>RN _ q) (Ow _) ⟨by rw [Qd]; exact hz,_,r.reverse,PyProof.Rows.IsTup.new _ _⟩,rfl,q _ _ (sm.trans (cz I4.fresh _)) (e6 (E.all.same sm) I4.fresh g2.reverse)⟩
 | _=>cases hF
def allB:List D->Option Bool
 | []=>some true
 | .bl b::r=>(allB r).bind fun c=>some (b && c)
 | _=>none
def xD:List D->Option D
 | [.lst xs]=>(allB xs).bind fun b=>some (.bl b)
 | _=>none
theorem yY:∀ {xs:List D} {b:Bool},allB xs=some b->∃ bs:List Bool,xs=bs.map .bl/\b=bs.all id
 | [],b,h=>by cases h; exact⟨[],rfl,rfl⟩
 | .bl x::r,b,h=>by
  obtain⟨c,e1,e2⟩:=bind_some (show ((allB r).bind fun c=>some (x && c))=some b from h)
  cases e2
  obtain⟨bs,e3,e4⟩:=yY e1
  exact⟨x::bs,by rw [OB,e3],by rw [PD,e4]; rfl⟩
 | .non::_,_,h=>by cases h
 | .int _::_,_,h=>by cases h
 | .str _::_,_,h=>by cases h
 | .tup _::_,_,h=>by cases h
 | .lst _::_,_,h=>by cases h
 | .dct _ _::_,_,h=>by cases h
 | .obj _ _ _::_,_,h=>by cases h
 | .exc _ _ _::_,_,h=>by cases h
theorem rL {K:Rf} {H:Hp}:∀ {bs:List Bool} {vs:List V} {us:List Sq},bD K H (bs.map .bl) vs->Vals vs us->us=bs.map Value.bool
 | [],vs,us,h,r=>by
  rw [O7,cU] at h
  subst h
  cases r
  rfl
 | b::bs,vs,us,h,r=>by
  rw [OB,bP] at h
  obtain⟨v,r',e,h1,h2⟩:=h
  subst e
  cases r with
  | cons q1 q2 =>
   rw [j7] at h1
   subst h1
   cases q1
   rw [OB,rL h2 q2]
theorem range_all (bs:List Bool):((List.range bs.length).all fun i=>(bs[i]?).getD true)=bs.all id:=by
 induction bs with
 | nil=>rfl
 | cons b bs ih =>
  rw [OA,PF,PD,PH,PD,<- ih]
  rfl
theorem mE (hc:X.calm=true):et X (.builtin "all") (zD X.K xD):=by
 intro pins s σ H xs us Q I r ⟨O,ds,d,hO,hd,hg,q⟩
 unfold xD at hg
 split at hg
 ·rename_i ys
  obtain⟨bv,e1,e2⟩:=bind_some hg
  cases e2
  obtain⟨bs,eb,ev⟩:=yY e1
  subst eb ev
  obtain⟨v,evv,h1⟩:=hd.one
  subst evv
  obtain⟨p,vs,ep,g1,g2⟩:=cT.mp h1
  subst ep
  obtain⟨u,eu,ru⟩:=vals1 r
  subst eu
  cases ru
  obtain⟨its,rv,pl,hz⟩:=I.list ((aY H O).seq g1)
  have ei:=rL g2 rv
  have hl:=pl.isList
  have hlt:p < s.heap.objs.size:=by obtain⟨_,e,_⟩:=hl; exact RK e
  refine call_all_walk (S7 hl ?_)
  refine⟨s.heap.objs.size,[s.heap.objs.size,p],[s.heap.objs.size],its.toArray.size,_,_,fun i=>(bs[i]?).getD true,rfl,Walks.list (A:=X.A.in1) (I.ok.hd hc) _ p (Of hlt) its.toArray,
   ⟨⟨_,RO _ rfl,rfl,rfl⟩,hl.push _⟩,fun i v s' Q' E' hP hQ=>?_,fun h' tk hk=>?_⟩
  ·have e:bs[i]?.map Value.bool=some v:=by
    rw [<- OS,<- ei]
    simpa using hP
   cases eb:bs[i]? with
   | none=>rw [eb] at e; cases e
   | some b =>
    rw [eb] at e
    cases e
    simp only [eb,Qe] at hQ
    exact SW hQ
  ·have e:((List.range its.toArray.size).all fun i=>(bs[i]?).getD true)=bs.all id:=by
    have:its.toArray.size=bs.length:=by rw [Oy,ei,OC]
    rw [this]; exact range_all bs
   rw [e]
   have k:∀ b x,s.heap.get? b=some x->h'.get? b=some x:=fun b x e=>hk b x (fun hm=>by rw [List.mem_singleton.mp hm] at e; exact Oe _ (RK e)) (RN _ e)
   exact⟨.bl _,H,I.kept k,rfl,q _ H (bS.refl H) (j7.mpr rfl)⟩
 ·cases hg
end

end TG
namespace ZI
open PySem PySem.Spec PyProof.Rows
section
variable {prog:Ss} {w:Sr} {A:SE} {E:Sq->SF->Prop} {s:SF}
theorem zV {it t:Su} {i:Nat} {its:Array Sq} {x:Sq} {Q:Sq->SF->Prop} (hit:s.heap.IsTupleIter it t i) (ht:s.heap.IsTuple t its) (hx:its[i]?=some x)
  (hQ:∀ g,g.IsTupleIter it t (i+1)->RM it s.heap g->Q x { s with heap:=g }):SH (model prog w) A (Builtin.SmallTypes.nextOf (.ref it)) Q E s:=by
 obtain⟨ob,h1,h2,h3⟩:=id hit
 obtain⟨ol,g1,_,n,g2⟩:=ht
 unfold Builtin.SmallTypes.nextOf
 refine SZ (Tv (name:=Str.ofString "__next__") hit.typeIs F.slot_tuple_iterator_next (Tw F.slot_tuple_iterator_next hit.typeIs F.entry_tuple_iterator_next ?_ (F.args_tuple_iterator_next_1 _)))
 show SH _ _ (field (.ref it) 0 >>= _) _ _ s; refine SZ (Tt h1 h3 (x:=.ref t) rfl ?_)
 show SH _ _ (if (Value.ref t==Value.none)=true then _ else _) _ _ s; rw [if_neg (show ¬ ((Value.ref t==Value.none)=true) from fun z=>Ot z)]
 show SH _ _ (field (.ref it) 1 >>= _) _ _ s; refine SZ (Tt h1 h3 (x:=.int i 0) rfl ?_)
 show SH _ _ (seqItems? (.ref t) >>= _) _ _ s; refine SZ (TR g1 g2 ?_)
 simp only [OX,hx]
 refine SZ (wpAny_setField h1 h3 (by simp) (S6 ⟨x,rfl,S6 (hQ _ ⟨_,RQ _ h1 (Obj.isFreed_of_fields (Obj.data_mapFields h3 _)),(Obj.cls_mapFields ..).trans h2,by rw [Obj.data_mapFields h3]; simp [rawInt]⟩ (Heap.SameBut.update ..))⟩))
theorem CL {it t:Su} {i:Nat} {its:Array Sq} {Q:Sq->SF->Prop} (hh:A.handled=none) (hit:s.heap.IsTupleIter it t i) (ht:s.heap.IsTuple t its) (hx:its[i]?=none)
  (hE:∀ g e,Heap.ExtBut it s.heap g->(∃ o,g.get? e=some o/\o.cls=.type "StopIteration")->E (.ref e) { s with heap:=g }):SH (model prog w) A (Builtin.SmallTypes.nextOf (.ref it)) Q E s:=by
 obtain⟨ob,h1,h2,h3⟩:=id hit
 obtain⟨ol,g1,_,n,g2⟩:=ht
 unfold Builtin.SmallTypes.nextOf
 refine SZ (Tv (name:=Str.ofString "__next__") hit.typeIs F.slot_tuple_iterator_next (Tw F.slot_tuple_iterator_next hit.typeIs F.entry_tuple_iterator_next ?_ (F.args_tuple_iterator_next_1 _)))
 show SH _ _ (field (.ref it) 0 >>= _) _ _ s; refine SZ (Tt h1 h3 (x:=.ref t) rfl ?_)
 show SH _ _ (if (Value.ref t==Value.none)=true then _ else _) _ _ s; rw [if_neg (show ¬ ((Value.ref t==Value.none)=true) from fun z=>Ot z)]
 show SH _ _ (field (.ref it) 1 >>= _) _ _ s; refine SZ (Tt h1 h3 (x:=.int i 0) rfl ?_)
 show SH _ _ (seqItems? (.ref t) >>= _) _ _ s; refine SZ (TR g1 g2 ?_)
 simp only [OX,hx]; refine SZ (TL (SZ (wpAny_setField h1 h3 (by simp) ?_)))
 show SH _ _ (newExc (.type "StopIteration") [] >>= _) _ _ _; refine SZ ?_
 simp only [newExc,newTuple]; refine SZ (Tz ?_ (by size_fits))
 refine SZ (m:=firstArgMember _ _) (wpAny_of_eq (a:=Value.none) (by first | rfl | (simp only [firstArgMember]; rfl)) ?_); refine Tz ?_ (by size_fits)
 simp only [raiseNew]; refine SZ (wpAny_handled ?_)
 first | rw [show A.in1.handled=none from hh] | rw [hh]
 refine SZ (S6 (wpAny_throw ?_)); exact hE _ _ (((Heap.SameBut.update ..).extBut.push _).push _) ⟨_,RO _ rfl,rfl⟩
end
theorem Iq {prog:Ss} {w:Sr} {A:SE} (hh:A.handled=none) (it t:Su) (hne:t≠it) (its:Array Sq):Draws prog w A it [it,t] its.size (fun i v=>its[i]?=some v) (fun i h=>h.IsTupleIter it t i/\h.IsTuple t its) where
 live:=fun i h ⟨⟨o,e,_⟩,_⟩=>⟨o,e⟩
 frame:=fun i h h' ⟨x,y⟩ k=>⟨x.at fun o e=>k it (by simp) o e,let ⟨o,e,r⟩:=y; ⟨o,k t (by simp) o e,r⟩⟩
 item:=fun i s Q E hi ⟨x,y⟩ hQ=>zV x y (Array.getElem?_eq_getElem hi) fun g hg hs=>hQ _ g s.toks (Array.getElem?_eq_getElem hi) ⟨hg,let ⟨o,e,r⟩:=y; ⟨o,(hs.2 t hne).trans e,r⟩⟩ hs
 done:=fun s Q E ⟨x,y⟩ hE=>CL hh x y (by simp) hE

structure Apart (z TI TO i1 i2:Su) (fp1 fp2:List Su):Prop where
 a1:TI≠z
 a2:TO≠z
 a3:TI≠TO
 b1:z∉fp1
 b2:TO∉fp1
 b3:i2∉fp1
 c1:z∉fp2
 c2:TO∉fp2
 c3:i1∉fp2
 d1:TI≠i1
 d2:TI≠i2
 e1:i1∈fp1
 e2:i2∈fp2
section
variable {prog:Ss} {w:Sr} {A:SE} {E:Sq->SF->Prop} {s:SF} {z TI TO i1 i2:Su} {fp1 fp2:List Su} {n1 n2 i:Nat} {P1 P2:Nat->Sq->Prop} {S1 S2:Nat->Sw->Prop} {a b:Sq}
theorem next_item {Q:Sq->SF->Prop} (Ap:Apart z TI TO i1 i2 fp1 fp2) (D1:Draws prog w A i1 fp1 n1 P1 S1) (D2:Draws prog w A i2 fp2 n2 P2 S2) (hz:TU s.heap z TI TO .none) (hTI:TV s.heap TI (.ref i1) (.ref i2)) (hTO:TV s.heap TO a b) (st1:S1 i s.heap) (st2:S2 i s.heap) (l1:i < n1) (l2:i < n2)
  (hQ:∀ x y g tk,P1 i x->P2 i y->TU g z TI TO (rawInt s.heap.objs.size)->TV g TO x y->S1 (i+1) g->S2 (i+1) g->TV g s.heap.objs.size x y->g.objs.size=s.heap.objs.size+1 ->
   (∀ c o,c≠z->c≠TO->c≠i1->c≠i2->s.heap.get? c=some o->g.get? c=some o)->Q (.ref s.heap.objs.size) { s with heap:=g,toks:=tk }) :
  SH (model prog w) A (Builtin.«zip.__next__» ⟨[.ref z],[]⟩) (fun fin s'=>∃ v,fin=.done (.ret v)/\Q v s') E s:=by
 have n1z:i1≠z:=fun e=>Ap.b1 (e ▸ Ap.e1)
 have n2z:i2≠z:=fun e=>Ap.c1 (e ▸ Ap.e2)
 have n1T:i1≠TO:=fun e=>Ap.b2 (e ▸ Ap.e1)
 have n2T:i2≠TO:=fun e=>Ap.c2 (e ▸ Ap.e2)
 show SH _ _ (field (.ref z) 2 >>= _) _ _ _; refine SZ (Tt hz rfl (x:=.bool false) rfl ?_)
 show SH _ _ (field (.ref z) 3 >>= _) _ _ _; refine SZ (Tt hz rfl (x:=.ref TI) rfl ?_); refine SZ (TR hTI rfl ?_)
 show SH _ _ (Builtin.SmallTypes.ownedTupleIsFree (.ref z) >>= _) _ _ _; refine SZ ?_
 unfold Builtin.SmallTypes.ownedTupleIsFree; refine SZ (Tt hz rfl (x:=.none) rfl (S6 ?_))
 simp only [if_true]; refine SZ (TL ?_); refine SZ (Tt hz rfl (x:=.ref TO) rfl ?_)
 refine SZ (TY hz (by simp) fun g1 hz1 k1=>?_)
 have hz1:TU g1 z TI TO .ellipsis:=hz1
 refine SZ ?_; simp only [List.zipIdx_cons,List.zipIdx_nil,Pn,List.forIn_nil]
 refine SZ (SZ (TZ ?_)); show SH _ _ (Builtin.SmallTypes.nextOf (.ref i1) >>= _) _ _ _
 have q1:S1 i g1:=D1.frame _ _ _ st1 fun b hb o e=>k1.extBut _ _ (fun z'=>Ap.b1 (z' ▸ hb)) e
 refine SZ (D1.item i { s with heap:=g1 } _ _ l1 q1 fun x g2 tk2 p1 q2 k2=>S6 ?_)
 have t2:TV g2 TO a b:=k2.extBut _ _ n1T.symm (k1.extBut _ _ Ap.a2 hTO)
 refine SZ (TR t2 rfl ?_); refine SZ (T1 t2 fun g3 t3 k3=>?_)
 have t3:TV g3 TO x b:=t3
 refine SZ (T2 (S6 ?_)); refine SZ (SZ (TZ ?_)); show SH _ _ (Builtin.SmallTypes.nextOf (.ref i2) >>= _) _ _ _
 have q3:S2 i g3:=D2.frame _ _ _ st2 fun b hb o e=>k3.extBut _ _ (fun z'=>Ap.c2 (z' ▸ hb)) (k2.extBut _ _ (fun z'=>Ap.c3 (z' ▸ hb)) (k1.extBut _ _ (fun z'=>Ap.c1 (z' ▸ hb)) e))
 refine SZ (D2.item i { s with heap:=g3,toks:=tk2 } _ _ l2 q3 fun y g4 tk4 p2 q4 k4=>S6 ?_)
 have t4:TV g4 TO x b:=k4.extBut _ _ n2T.symm t3
 refine SZ (TR t4 rfl ?_); refine SZ (T1 t4 fun g5 t5 k5=>?_)
 have t5:TV g5 TO x y:=t5
 refine SZ (T2 (S6 (S6 ?_))); refine SZ (TR t5 rfl ?_); refine SZ (T3 ?_)
 have hsz:g5.objs.size=s.heap.objs.size:=by rw [k5.1,k4.1,k3.1,k2.1,k1.1]
 have hz5:TU g5 z TI TO .ellipsis:=k5.extBut _ _ Ap.a2.symm (k4.extBut _ _ n2z.symm (k3.extBut _ _ Ap.a2.symm (k2.extBut _ _ n1z.symm hz1)))
 have k15:∀ c o,c≠z->c≠TO->c≠i1->c≠i2->s.heap.get? c=some o->g5.get? c=some o:=fun c o c1 c2 c3 c4 e=>k5.extBut _ _ c2 (k4.extBut _ _ c4 (k3.extBut _ _ c2 (k2.extBut _ _ c3 (k1.extBut _ _ c1 e))))
 have r1:S1 (i+1) g5:=D1.frame _ _ _ q2 fun b hb o e=>k5.extBut _ _ (fun z'=>Ap.b2 (z' ▸ hb)) (k4.extBut _ _ (fun z'=>Ap.b3 (z' ▸ hb)) (k3.extBut _ _ (fun z'=>Ap.b2 (z' ▸ hb)) e))
 have r2:S2 (i+1) g5:=D2.frame _ _ _ q4 fun b hb o e=>k5.extBut _ _ (fun z'=>Ap.c2 (z' ▸ hb)) e
 have lz:z < g5.objs.size:=RK hz5
 show SH _ _ (Builtin.SmallTypes.ownedTupleHandOut (.ref z) (.ref g5.objs.size) >>= _) _ _ _; refine SZ ?_
 unfold Builtin.SmallTypes.ownedTupleHandOut
 have hz6:TU (g5.push { cls:=.type "tuple",data:=.seq #[x,y] }) z TI TO .ellipsis:=RN _ hz5
 refine SZ (TY hz6 (by simp) fun g7 hz7 k7=>?_)
 have hz7:TU g7 z TI TO (rawInt g5.objs.size):=hz7
 refine TY hz7 (by simp) fun g8 hz8 k8=>?_
 have hz8:TU g8 z TI TO (rawInt g5.objs.size):=hz8
 have up:∀ c o,c≠z->g5.get? c=some o->g8.get? c=some o:=fun c o c1 e=>k8.extBut _ _ c1 (k7.extBut _ _ c1 (RN _ e))
 have t8:TV g8 g5.objs.size x y:=k8.extBut _ _ (Ou lz) (k7.extBut _ _ (Ou lz) (RO _ rfl))
 have s8:g8.objs.size=g5.objs.size+1:=by rw [k8.1,k7.1,RP]
 rw [hsz] at hz8 t8 s8
 refine S6 ⟨_,rfl,?_⟩
 show Q (.ref g5.objs.size) _
 rw [hsz]
 exact hQ x y g8 tk4 p1 p2 hz8 (up _ _ Ap.a2 t5) (D1.frame _ _ _ r1 fun b hb o e=>up b o (fun z'=>Ap.b1 (z' ▸ hb)) e) (D2.frame _ _ _ r2 fun b hb o e=>up b o (fun z'=>Ap.c1 (z' ▸ hb)) e) t8 s8 fun c o c1 c2 c3 c4 e=>up c o c1 (k15 c o c1 c2 c3 c4 e)
theorem next_end {Q:Fin->SF->Prop} (Ap:Apart z TI TO i1 i2 fp1 fp2) (D1:Draws prog w A i1 fp1 n1 P1 S1) (D2:Draws prog w A i2 fp2 n2 P2 S2) (hz:TU s.heap z TI TO .none) (hTI:TV s.heap TI (.ref i1) (.ref i2)) (hTO:TV s.heap TO a b) (st1:S1 i s.heap) (st2:S2 i s.heap) (hend:i=n1\/(i < n1/\i=n2))
  (hE:∀ g e tk,(∀ c o,c≠z->c≠TO->c≠i1->c≠i2->s.heap.get? c=some o->g.get? c=some o)->(∃ o,g.get? e=some o/\o.cls=.type "StopIteration")->E (.ref e) { s with heap:=g,toks:=tk }) :
  SH (model prog w) A (Builtin.«zip.__next__» ⟨[.ref z],[]⟩) Q E s:=by
 have n1z:i1≠z:=fun e=>Ap.b1 (e ▸ Ap.e1)
 have n2z:i2≠z:=fun e=>Ap.c1 (e ▸ Ap.e2)
 have n1T:i1≠TO:=fun e=>Ap.b2 (e ▸ Ap.e1)
 show SH _ _ (field (.ref z) 2 >>= _) _ _ _; refine SZ (Tt hz rfl (x:=.bool false) rfl ?_)
 show SH _ _ (field (.ref z) 3 >>= _) _ _ _; refine SZ (Tt hz rfl (x:=.ref TI) rfl ?_); refine SZ (TR hTI rfl ?_)
 show SH _ _ (Builtin.SmallTypes.ownedTupleIsFree (.ref z) >>= _) _ _ _; refine SZ ?_
 unfold Builtin.SmallTypes.ownedTupleIsFree; refine SZ (Tt hz rfl (x:=.none) rfl (S6 ?_))
 simp only [if_true]; refine SZ (TL ?_); refine SZ (Tt hz rfl (x:=.ref TO) rfl ?_)
 refine SZ (TY hz (by simp) fun g1 hz1 k1=>?_)
 have hz1:TU g1 z TI TO .ellipsis:=hz1
 refine SZ ?_; simp only [List.zipIdx_cons,List.zipIdx_nil,Pn,List.forIn_nil]
 refine SZ (SZ (TZ ?_)); show SH _ _ (Builtin.SmallTypes.nextOf (.ref i1) >>= _) _ _ _
 have q1:S1 i g1:=D1.frame _ _ _ st1 fun b hb o e=>k1.extBut _ _ (fun z'=>Ap.b1 (z' ▸ hb)) e
 rcases hend with hend | ⟨l1,hend⟩
 ·subst hend
  refine SZ (D1.done { s with heap:=g1 } _ _ q1 fun g2 e k2 he=>?_)
  obtain⟨oe,hoe,hce⟩:=he
  have hz2:TU g2 z TI TO .ellipsis:=k2 _ _ n1z.symm hz1
  have hez:e≠z:=fun x=>by rw [x,hz2] at hoe; cases hoe; simp at hce
  exact TY hz2 (by simp) fun g3 _ k3=>hE g3 e s.toks (fun c o c1 _ c3 _ x=>k3.extBut _ _ c1 (k2 _ _ c3 (k1.extBut _ _ c1 x))) ⟨oe,k3.extBut _ _ hez hoe,hce⟩
 ·refine SZ (D1.item i { s with heap:=g1 } _ _ l1 q1 fun x g2 tk2 p1 q2 k2=>S6 ?_)
  have t2:TV g2 TO a b:=k2.extBut _ _ n1T.symm (k1.extBut _ _ Ap.a2 hTO)
  refine SZ (TR t2 rfl ?_); refine SZ (T1 t2 fun g3 t3 k3=>?_)
  refine SZ (T2 (S6 ?_)); refine SZ (SZ (TZ ?_)); show SH _ _ (Builtin.SmallTypes.nextOf (.ref i2) >>= _) _ _ _
  have q3:S2 i g3:=D2.frame _ _ _ st2 fun b hb o e=>k3.extBut _ _ (fun z'=>Ap.c2 (z' ▸ hb)) (k2.extBut _ _ (fun z'=>Ap.c3 (z' ▸ hb)) (k1.extBut _ _ (fun z'=>Ap.c1 (z' ▸ hb)) e))
  subst hend
  refine SZ (D2.done { s with heap:=g3,toks:=tk2 } _ _ q3 fun g4 e k4 he=>?_)
  obtain⟨oe,hoe,hce⟩:=he
  have hz4:TU g4 z TI TO .ellipsis:=k4 _ _ n2z.symm (k3.extBut _ _ Ap.a2.symm (k2.extBut _ _ n1z.symm hz1))
  have hez:e≠z:=fun x=>by rw [x,hz4] at hoe; cases hoe; simp at hce
  exact TY hz4 (by simp) fun g5 _ k5=>hE g5 e tk2 (fun c o c1 c2 c3 c4 x=>k5.extBut _ _ c1 (k4 _ _ c4 (k3.extBut _ _ c2 (k2.extBut _ _ c3 (k1.extBut _ _ c1 x))))) ⟨oe,k5.extBut _ _ hez hoe,hce⟩
end
def SQ (b:Bool) (h:Sw) (l:Su) (xs:Array Sq):Prop:=if b then h.IsList l xs else h.IsTuple l xs
def SI (b:Bool) (h:Sw) (i l:Su) (k:Nat):Prop:=if b then h.IsListIter i l k else h.IsTupleIter i l k
def Lp (b:Bool):String:=if b then "list_iterator" else "tuple_iterator"
theorem SQ.keep {b:Bool} {h h':Sw} {l:Su} {xs:Array Sq} (x:SQ b h l xs) (k:∀ o,h.get? l=some o->h'.get? l=some o):SQ b h' l xs:=by
 cases b with
 | true=>exact Heap.IsList.at x k
 | false=>obtain⟨o,e,r⟩:=(show h.IsTuple l xs from x); exact(show h'.IsTuple l xs from ⟨o,k o e,r⟩)
theorem SI.keep {b:Bool} {h h':Sw} {i l:Su} {n:Nat} (x:SI b h i l n) (k:∀ o,h.get? i=some o->h'.get? i=some o):SI b h' i l n:=by
 cases b with
 | true=>exact Heap.IsListIter.at x k
 | false=>exact Heap.IsTupleIter.at x k
theorem SQ.lt {b:Bool} {h:Sw} {l:Su} {xs:Array Sq} (x:SQ b h l xs):l < h.objs.size:=by
 cases b with
 | true=>obtain⟨o,e,_⟩:=(show h.IsList l xs from x); exact RK e
 | false=>obtain⟨o,e,_⟩:=(show h.IsTuple l xs from x); exact RK e
theorem SI.get {b:Bool} {h:Sw} {i l:Su} {n:Nat} (x:SI b h i l n):∃ o,h.get? i=some o/\∀ v,o.data≠.cell v:=by
 cases b with
 | true=>obtain⟨o,e,_,d⟩:=(show h.IsListIter i l n from x); exact⟨o,e,fun v z=>by rw [d] at z; cases z⟩
 | false=>obtain⟨o,e,_,d⟩:=(show h.IsTupleIter i l n from x); exact⟨o,e,fun v z=>by rw [d] at z; cases z⟩
theorem SI.new {b:Bool} {h:Sw} {l:Su}:SI b (h.push { cls:=.type (Lp b),data:=.fields #[.ref l,.int 0 0] }) h.objs.size l 0:=by
 cases b with
 | true=>exact⟨_,RO _ rfl,rfl,rfl⟩
 | false=>exact⟨_,RO _ rfl,rfl,rfl⟩
theorem su {b:Bool} {prog:Ss} {w:Sr} {A:SE} {E:Sq->SF->Prop} {s:SF} {l:Su} {xs:Array Sq} {Q:Sq->SF->Prop} (h:SQ b s.heap l xs)
  (hQ:Q (.ref s.heap.objs.size) { s with heap:=s.heap.push { cls:=.type (Lp b),data:=.fields #[.ref l,.int 0 0] } }):SH (model prog w) A (pyIter (.ref l)) Q E s:=by
 cases b with
 | true=>exact S7 h hQ
 | false=>exact wpAny_pyIter_tuple h hQ
theorem mG {prog:Ss} {w:Sr} {A:SE} (b:Bool) (hh:A.handled=none) (it l:Su) (hne:l≠it) (its:Array Sq):Draws prog w A it [it,l] its.size (fun i v=>its[i]?=some v) (fun i h=>SI b h it l i/\SQ b h l its):=by
 cases b with
 | true=>exact Draws.list hh it l hne its
 | false=>exact Iq hh it l hne its
abbrev Dd (b1:Bool) (h:Sw) (l1:Su):Sw:=h.push { cls:=.type (Lp b1),data:=.fields #[.ref l1,.int 0 0] }
abbrev JE (b1 b2:Bool) (h:Sw) (l1 l2:Su):Sw:=(Dd b1 h l1).push { cls:=.type (Lp b2),data:=.fields #[.ref l2,.int 0 0] }
abbrev L3 (b1 b2:Bool) (h:Sw) (l1 l2:Su):Sw:=(JE b1 b2 h l1 l2).push { cls:=.type "tuple",data:=.seq #[.ref h.objs.size,.ref (Dd b1 h l1).objs.size] }
abbrev L4 (b1 b2:Bool) (h:Sw) (l1 l2:Su):Sw:=(L3 b1 b2 h l1 l2).push { cls:=.type "tuple",data:=.seq #[.none,.none] }
abbrev HB (b1 b2:Bool) (h:Sw) (l1 l2:Su):Sw:=(L4 b1 b2 h l1 l2).push { cls:=.type "zip",data:=.fields #[.none,.bool false,.bool false,.ref (JE b1 b2 h l1 l2).objs.size,.ref (L3 b1 b2 h l1 l2).objs.size] }
theorem E5 (b1 b2:Bool) (l1 l2:Su) (xs ys:Array Sq):Meets (Builtin.«zip.__new__» ⟨[.type "zip",.ref l1,.ref l2],[]⟩) (fun _ R s=>SQ b1 s.heap l1 xs/\SQ b2 s.heap l2 ys/\R (.ok (.ret (.ref (L4 b1 b2 s.heap l1 l2).objs.size))) { s with heap:=HB b1 b2 s.heap l1 l2 }) :=
 .of_wp fun prog w A R s h=>by
  obtain⟨hp,g,d,tk,os⟩:=s
  obtain⟨q1,q2,h⟩:=h
  have hsub:=sub_zip
  have e1:SQ b1 (Shared.heap ⟨hp,g,d,tk,os⟩) l1 xs:=q1
  have e2:SQ b2 (Shared.heap ⟨Dd b1 hp l1,g,d,tk,os⟩) l2 ys:=q2.keep fun o e=>RN _ e
  wp_walk using su e1,su e2
  exact⟨_,rfl,h⟩
theorem Ep {prog:Ss} {w:Sr} {A:SE} {E:Sq->SF->Prop} {s:SF} {b1 b2:Bool} {l1 l2:Su} {xs ys:Array Sq} {Q:Sq->SF->Prop} (h1:SQ b1 s.heap l1 xs) (h2:SQ b2 s.heap l2 ys)
  (h:∀ g,TU g (s.heap.objs.size+4) (s.heap.objs.size+2) (s.heap.objs.size+3) .none->TV g (s.heap.objs.size+2) (.ref s.heap.objs.size) (.ref (s.heap.objs.size+1))->TV g (s.heap.objs.size+3) .none .none->SI b1 g s.heap.objs.size l1 0->SI b2 g (s.heap.objs.size+1) l2 0 ->
   (∀ c o,s.heap.get? c=some o->g.get? c=some o)->Q (.ref (s.heap.objs.size+4)) { s with heap:=g }):SH (model prog w) A (call (.type "zip") [.ref l1,.ref l2]) Q E s:=by
 refine callType_new F.called_zip (by decide) (F.typeCall_zip_2 _ _) (F.newCall_zip_2 _ _) (fun obj=>F.args_object_init_3 obj _ _) F.entry_zip_new (E5 b1 b2 l1 l2 xs ys) ⟨h1,h2,?_⟩
 have z1:(Dd b1 s.heap l1).objs.size=s.heap.objs.size+1:=RP ..
 have z2:(JE b1 b2 s.heap l1 l2).objs.size=s.heap.objs.size+2:=by rw [RP,z1]
 have z3:(L3 b1 b2 s.heap l1 l2).objs.size=s.heap.objs.size+3:=by rw [RP,z2]
 have z4:(L4 b1 b2 s.heap l1 l2).objs.size=s.heap.objs.size+4:=by rw [RP,z3]
 have u1:∀ c o,(Dd b1 s.heap l1).get? c=some o->(HB b1 b2 s.heap l1 l2).get? c=some o:=fun c o e=>RN _ (RN _ (RN _ (RN _ e)))
 have u2:∀ c o,(JE b1 b2 s.heap l1 l2).get? c=some o->(HB b1 b2 s.heap l1 l2).get? c=some o:=fun c o e=>RN _ (RN _ (RN _ e))
 have g5:(HB b1 b2 s.heap l1 l2).get? (L4 b1 b2 s.heap l1 l2).objs.size=some _:=RO _ rfl
 have g4:(HB b1 b2 s.heap l1 l2).get? (L3 b1 b2 s.heap l1 l2).objs.size=some _:=RN _ (RO _ rfl)
 have g3:(HB b1 b2 s.heap l1 l2).get? (JE b1 b2 s.heap l1 l2).objs.size=some _:=RN _ (RN _ (RO _ rfl))
 have g2:SI b2 (HB b1 b2 s.heap l1 l2) (Dd b1 s.heap l1).objs.size l2 0:=SI.keep (SI.new (h:=Dd b1 s.heap l1)) fun o e=>u2 _ o e
 have g1:SI b1 (HB b1 b2 s.heap l1 l2) s.heap.objs.size l1 0:=SI.keep SI.new fun o e=>u1 _ o e
 show _/\_
 rw [z2,z3,z4] at g5
 rw [z1,z2] at g3
 rw [z3] at g4
 rw [z1] at g2
 rw [z4]
 exact⟨⟨_,g5,rfl⟩,h _ g5 g3 g4 g1 g2 fun c o e=>u1 c o (RN _ e)⟩
theorem Cj (b : Bool) (l : Su) (xs : Array Sq) : Meets (Builtin.«enumerate.__new__» ⟨[.type "enumerate", .ref l], []⟩) (fun _ R s => SQ b s.heap l xs /\
      R (.ok (.ret (.ref (Dd b s.heap l).objs.size))) { s with heap:=(Dd b s.heap l).push { cls:=.type "enumerate",data:=.fields #[.none,.bool false,.ref s.heap.objs.size,rawInt 0,.none,.none] } }) :=
  .of_wp fun prog w A R s h=>by
    obtain⟨hp,g,d,tk,os⟩:=s
    obtain⟨q1,h⟩:=h
    have hsub:=sub_enumerate
    have e1:SQ b (Shared.heap ⟨hp,g,d,tk,os⟩) l xs:=q1
    wp_walk using su e1
    refine wpAny_stack_any fun st=>S6 ?_
    split
    · rename_i c _ _ _ _ _
      cases (c==Value.type "enumerate") <;> (wp_walk using su e1; exact⟨_,rfl,h⟩)
    · wp_walk using su e1
      exact⟨_,rfl,h⟩
end ZI
namespace TG
open PySem PySem.Spec L2 ZI
variable [bp]
section
variable {X:Cx} {pins:List (Su×Obj)} {σ:St} {H:Hp} {s:SF} {h':Sw}
theorem Inv.turnedL {ch:List Su} {p:Su} {o:HO} {t':Nat} (I:Inv X pins σ H s) (hf:∀ b∈ch,ud X pins H b) (k:∀ b u,b∉ch->s.heap.get? b=some u->h'.get? b=some u) (hp:s.heap.objs.size<=p) (new:dG X.prog X.w (upd H p o) h' p o) :
  Inv X pins σ (upd H p o) { s with heap:=h',toks:=t' }:=by
 have hn:=I.hok.fresh hp
 have nch:∀ b u,H b=some u->b∉ch:=fun b u e z=>by rw [(hf b z).1] at e; cases e
 refine I.step (g':=s.gens) (d':=s.drawn) (ch:=ch) (fun b hb=>?_) (fun b o _ _ hc e _=>k b o hc e) (fun b o _ _ hc e _=>⟨o.slots,k b o hc e⟩) (fun b u _ q n=>by rw [bF (Of (Od (RK q) hp))]; exact n)
  (fun b o hc e=>⟨o,k b o hc e⟩) (fun b xs q=>by rw [bF (bK q hn)]; exact q) (fun b u xs q=>by rw [bF (bK q hn)]; exact q) (fun b ps q=>⟨#[],by rw [bF (bK q hn),q]; simp⟩) (fun m hm=>?_) (fun b u e=>?_) I.bare
 ·obtain⟨_,f1,_,f3,f4,f5⟩:=hf b hb
  exact⟨f3,f1,f4,f5⟩
 ·obtain⟨o,es,ep,ho,r⟩:=hm
  exact⟨o,es,ep,k _ o (fun z=>(hf _ z).2.1 rfl) ho,r⟩
 ·by_cases hb:b=p
  ·subst hb; rw [cg] at e; cases e; exact new
  ·rw [bF hb] at e
   refine(I.hok b u e).stay (fun c v hc q=>k c v ?_ q) (fun c q=>by rw [bF (bK q hn)]; exact q) fun c xs q=>by rw [bF (bK q hn)]; exact q
   rcases hc with z | z
   ·rw [z]; exact nch b u e
   ·exact nch c _ z
theorem Inv.turned0 {ch:List Su} {t':Nat} (I:Inv X pins σ H s) (hf:∀ b∈ch,ud X pins H b) (k:∀ b u,b∉ch->s.heap.get? b=some u->h'.get? b=some u):Inv X pins σ H { s with heap:=h',toks:=t' }:=by
 have nch:∀ b u,H b=some u->b∉ch:=fun b u e z=>by rw [(hf b z).1] at e; cases e
 refine I.step (g':=s.gens) (d':=s.drawn) (ch:=ch) (fun b hb=>?_) (fun b o _ _ hc e _=>k b o hc e) (fun b o _ _ hc e _=>⟨o.slots,k b o hc e⟩) (fun _ _ _ _ n=>n)
  (fun b o hc e=>⟨o,k b o hc e⟩) (fun _ _ e=>e) (fun _ _ _ e=>e) (fun b ps e=>⟨#[],by rw [e]; simp⟩) (fun m hm=>?_) (fun b u e=>?_) I.bare
 ·obtain⟨_,f1,_,f3,f4,f5⟩:=hf b hb
  exact⟨f3,f1,f4,f5⟩
 ·obtain⟨o,es,ep,ho,r⟩:=hm
  exact⟨o,es,ep,k _ o (fun z=>(hf _ z).2.1 rfl) ho,r⟩
 ·refine(I.hok b u e).stay (fun c v hc q=>k c v ?_ q) (fun _ q=>q) fun _ _ q=>q
  rcases hc with z | z
  ·rw [z]; exact nch b u e
  ·exact nch c _ z
end
def SX (K:Rf) (b:Bool) (H:Hp) (a:Su) (xs:List V):Prop:=if b then nN K H a xs else pY K H a xs
theorem SX.same {K:Rf} {b:Bool} {H H':Hp} {a:Su} {xs:List V} (e:bS H H') (h:SX K b H a xs):SX K b H' a xs:=by
 cases b with
 | true=>exact e.seq (show nN K H a xs from h)
 | false=>exact CC e (show pY K H a xs from h)
section
variable {X:Cx} {pins:List (Su×Obj)} {σ:St} {H:Hp} {s:SF}
theorem Inv.sx (I:Inv X pins σ H s) {b:Bool} {a:Su} {xs:List V} (h:SX X.K b H a xs):∃ its:List Sq,Vals xs its/\SQ b s.heap a its.toArray/\xs.length<=Sx:=by
 cases b with
 | true=>obtain⟨its,r,p,z⟩:=I.list (show nN X.K H a xs from h); exact⟨its,r,p.isList,z⟩
 | false=>obtain⟨its,r,p,z⟩:=I.tuple (show pY X.K H a xs from h); exact⟨its,r,p,z⟩
theorem Inv.sx_inj (I:Inv X pins σ H s) {b:Bool} {a:Su} {xs ys:List V} (h:SX X.K b H a xs) (h':SX X.K b H a ys):xs=ys:=by
 cases b with
 | true=>exact I.list_inj h h'
 | false=>exact I.tuple_inj h h'
end
def NY (K:Rf) (b1 b2:Bool) (a1 a2:Su):It :=
  ⟨fun i H=>∃ xs ys,SX K b1 H a1 xs/\SX K b2 H a2 ys/\i < xs.length/\i < ys.length,
   fun i H v H'=>∃ p x y,v=.ref p/\H p=none/\H'=upd H p (.tup [x,y])/\(∀ xs,SX K b1 H a1 xs->xs[i]?=some x)/\∀ ys,SX K b2 H a2 ys->ys[i]?=some y,
   fun i H=>∃ xs ys,SX K b1 H a1 xs/\SX K b2 H a2 ys/\(i=xs.length\/(i < xs.length/\i=ys.length))⟩
theorem EC {P:Ss} {w:Sr} {K:Rf} {es:List SJ} {k:Nat} {pos:Pos} {b1 b2:Bool} {a1 a2 z TI TO i1 i2:Su} (Ap:Apart z TI TO i1 i2 [i1,a1] [i2,a2]) (n1:a1≠i1) (n2:a2≠i2) (n3:z≠i1) (n4:z≠i2):Turn P w K (.Tuple es k pos) (NY K b1 b2 a1 a2) [z,TI,TO,i1,i2] z
  (fun i h=>TU h z TI TO .none/\TV h TI (.ref i1) (.ref i2)/\(∃ a b,TV h TO a b)/\SI b1 h i1 a1 i/\SI b2 h i2 a2 i) where
 mem:=by simp
 obj:=fun i h ⟨hz,hI,⟨a,b,hO⟩,s1,s2⟩ c hc=>by
  simp only [Qf,Qg,or_false] at hc
  rcases hc with rfl | rfl | rfl | rfl | rfl
  ·exact⟨_,hz,fun v q=>by cases q⟩
  ·exact⟨_,hI,fun v q=>by cases q⟩
  ·exact⟨_,hO,fun v q=>by cases q⟩
  ·exact s1.get
  ·exact s2.get
 keep:=fun i h h' ⟨hz,hI,⟨a,b,hO⟩,s1,s2⟩ kp=>⟨kp z (by simp) _ hz,kp TI (by simp) _ hI,⟨a,b,kp TO (by simp) _ hO⟩,s1.keep fun o e=>kp i1 (by simp) o e,s2.keep fun o e=>kp i2 (by simp) o e⟩
 item:=by
  intro X hP hw hK hc i pins s σ H E I hf ⟨hz,hI,⟨a,b,hO⟩,s1,s2⟩ hg
  subst hP hw hK
  obtain⟨xs,ys,g1,g2,l1,l2⟩:=hg
  obtain⟨its1,r1,q1,z1⟩:=Inv.sx I g1
  obtain⟨its2,r2,q2,z2⟩:=Inv.sx I g2
  have hh:X.A.in1.handled=none:=I.ok.hd hc
  have hT:s.TypeIs (.ref z) "zip":=⟨_,hz,rfl⟩
  unfold pyNext
  refine SZ (T4 (Tv (name:=Str.ofString "__next__") hT F.slot_zip_next (Tw F.slot_zip_next hT F.entry_zip_next
   (next_item Ap (mG (A:=X.A.in1) b1 hh i1 a1 n1 its1.toArray) (mG (A:=X.A.in1) b2 hh i2 a2 n2 its2.toArray) hz hI hO ⟨s1,q1⟩ ⟨s2,q2⟩ (by rw [Oy,<- r1.length]; exact l1) (by rw [Oy,<- r2.length]; exact l2) fun u v g tk p1 p2 hz' hO' t1 t2 hp sz kp=>?_) (F.args_zip_next_1 _))))
  have e1:its1[i]?=some u:=by simpa using p1
  have e2:its2[i]?=some v:=by simpa using p2
  have hx:∃ x,xs[i]?=some x/\RelV x u:=by
   obtain⟨u',hu,ru⟩:=r1.get (i:=i) (x:=xs[i]) (by simp [l1])
   rw [e1] at hu; cases hu
   exact⟨xs[i],by simp [l1],ru⟩
  have hy:∃ y,ys[i]?=some y/\RelV y v:=by
   obtain⟨u',hu,ru⟩:=r2.get (i:=i) (x:=ys[i]) (by simp [l2])
   rw [e2] at hu; cases hu
   exact⟨ys[i],by simp [l2],ru⟩
  obtain⟨x,ex,rx⟩:=hx
  obtain⟨y,ey,ry⟩:=hy
  refine S6 ⟨_,rfl,?_⟩
  refine wpAny_letOwnedTupleGo_zip hz' fun g' hz2 sb=>?_
  have hpz:s.heap.objs.size≠z:=Ou (RK hz)
  have hp':TV g' s.heap.objs.size u v:=sb.extBut _ _ hpz hp
  have I':Inv X pins σ (upd H s.heap.objs.size (.tup [x,y])) { s with heap:=g',toks:=tk }:=Inv.turnedL (ch:=[z,TI,TO,i1,i2]) I hf (fun c o hc e=>by
   simp only [Qf,Qg,or_false,not_or] at hc
   exact sb.extBut _ _ hc.1 (kp c o hc.1 hc.2.2.1 hc.2.2.2.1 hc.2.2.2.2 e)) (Ow _) ⟨by show 2<=Sx; decide,[u,v],.cons rx (.cons ry .nil),_,hp',rfl,_,rfl⟩
  have fr:H s.heap.objs.size=none:=I.fresh
  have ne:∀ c∈[z,TI,TO,i1,i2],c≠s.heap.objs.size:=fun c hc e=>by
   simp only [Qf,Qg,or_false] at hc
   rcases hc with rfl | rfl | rfl | rfl | rfl
   ·exact hpz e.symm
   ·exact absurd (RK hI) (by rw [e]; exact Oe _)
   ·exact absurd (RK hO) (by rw [e]; exact Oe _)
   ·obtain⟨o,q,_⟩:=s1.get; exact absurd (RK q) (by rw [e]; exact Oe _)
   ·obtain⟨o,q,_⟩:=s2.get; exact absurd (RK q) (by rw [e]; exact Oe _)
  refine⟨.ref s.heap.objs.size,_,I',rfl,⟨_,x,y,rfl,fr,rfl,fun xs' h=>by rw [Inv.sx_inj I h g1]; exact ex,fun ys' h=>by rw [Inv.sx_inj I h g2]; exact ey⟩,⟨hz2,?_,⟨u,v,sb.extBut _ _ Ap.a2 hO'⟩,?_,?_⟩,fun c hc=>by rw [bF (ne c hc)]; exact(hf c hc).1⟩
  ·exact sb.extBut _ _ Ap.a1 (kp TI _ Ap.a1 Ap.a3 Ap.d1 Ap.d2 hI)
  ·exact t1.1.keep fun o e=>sb.extBut _ _ n3.symm e
  ·exact t2.1.keep fun o e=>sb.extBut _ _ n4.symm e
 done:=by
  intro X hP hw hK hc i pins s σ H E I hf ⟨hz,hI,⟨a,b,hO⟩,s1,s2⟩ hg
  subst hP hw hK
  obtain⟨xs,ys,g1,g2,hl⟩:=hg
  obtain⟨its1,r1,q1,z1⟩:=Inv.sx I g1
  obtain⟨its2,r2,q2,z2⟩:=Inv.sx I g2
  have hh:X.A.in1.handled=none:=I.ok.hd hc
  have hT:s.TypeIs (.ref z) "zip":=⟨_,hz,rfl⟩
  unfold pyNext
  refine SZ (T4 (Tv (name:=Str.ofString "__next__") hT F.slot_zip_next (Tw F.slot_zip_next hT F.entry_zip_next
   (next_end (i:=i) Ap (mG (A:=X.A.in1) b1 hh i1 a1 n1 its1.toArray) (mG (A:=X.A.in1) b2 hh i2 a2 n2 its2.toArray) hz hI hO ⟨s1,q1⟩ ⟨s2,q2⟩ (by rw [Oy,Oy,<- r1.length,<- r2.length]; exact hl) fun g e tk kp he=>?_) (F.args_zip_next_1 _))))
  obtain⟨o,ho,hce⟩:=he
  refine SZ (wpAny_isInstance (T := "StopIteration") (b:=true) ⟨o,ho,hce⟩ isSubtype_stop ?_)
  refine S6 ⟨rfl,Inv.turned0 (ch:=[z,TI,TO,i1,i2]) I hf fun c o hc e=>?_⟩
  simp only [Qf,Qg,or_false,not_or] at hc
  exact kp c o hc.1 hc.2.2.1 hc.2.2.2.1 hc.2.2.2.2 e
 self:=fun _ _ _ _ _ ⟨hz,_⟩ h=>wpAny_pyIter_zip hz h
def Gc:D->Option (Bool×List D)
 | .lst xs=>some (true,xs)
 | .tup xs=>some (false,xs)
 | _=>none
theorem rW {K:Rf} {H:Hp} {d:D} {b:Bool} {xs:List D} {v:V} (e:Gc d=some (b,xs)) (h:dj K H d v):∃ a vs,v=.ref a/\SX K b H a vs/\bD K H xs vs:=by
 cases d with
 | lst ys=>cases e; exact cT.mp h
 | tup ys=>cases e; obtain⟨a,vs,e1,e2,e3⟩:=cS.mp h; exact⟨a,vs,e1,pY.of e2,e3⟩
 | _=>cases e
def nJ:List D->List D->List D
 | x::xs,y::ys=>.tup [x,y]::nJ xs ys
 | _,_=>[]
theorem ql:∀ xs ys:List D,(nJ xs ys).length=min xs.length ys.length
 | [],_=>by simp [nJ]
 | _::_,[]=>by simp [nJ]
 | x::xs,y::ys=>by
  rw [nJ,OA,ql xs ys,OA,OA]; omega
theorem yo:∀ {xs ys:List D} {i:Nat} {d:D},(nJ xs ys)[i]?=some d->∃ x y,xs[i]?=some x/\ys[i]?=some y/\d=.tup [x,y]
 | [],_,i,d,h=>by simp [nJ] at h
 | _::_,[],i,d,h=>by simp [nJ] at h
 | x::xs,y::ys,0,d,h=>by
  rw [nJ,Qh] at h
  cases h
  exact⟨x,y,rfl,rfl,rfl⟩
 | x::xs,y::ys,i+1,d,h=>by
  rw [nJ,Qi] at h
  obtain⟨a,b,h1,h2,h3⟩:=yo h
  exact⟨a,b,by rw [Qi]; exact h1,by rw [Qi]; exact h2,h3⟩
theorem Ek {K:Rf} {Hd:Hp} {b1 b2:Bool} {a1 a2:Su} {ds es:List D} {vs ws:List V} (h1:SX K b1 Hd a1 vs) (g1:bD K Hd ds vs) (h2:SX K b2 Hd a2 ws) (g2:bD K Hd es ws):Walk K Hd (NY K b1 b2 a1 a2) (nJ ds es):=fun Hn O' i hO sm =>
  have s':bS Hd Hn:=sm.trans (aY Hn O')
  ⟨fun d e=>by
    obtain⟨x,y,e1,e2,rfl⟩:=yo e
    have l1:i < ds.length:=(List.getElem?_eq_some_iff.mp e1).1
    have l2:i < es.length:=(List.getElem?_eq_some_iff.mp e2).1
    obtain⟨v,ev,dv⟩:=g1.get e1
    obtain⟨w,ew,dw⟩:=g2.get e2
    refine⟨⟨vs,ws,h1.same s',h2.same s',by rw [<- g1.length]; exact l1,by rw [<- g2.length]; exact l2⟩,fun u H2 ⟨p,x',y',eu,hp,eH,q1,q2⟩=>?_⟩
    have z1:=q1 vs (h1.same s')
    rw [ev] at z1; cases z1
    have z2:=q2 ws (h2.same s')
    rw [ew] at z2; cases z2
    subst eH eu
    exact⟨cz hp _,e6 hO hp (bP.mpr ⟨v,_,rfl,dv.mono sm,bP.mpr ⟨w,_,rfl,dw.mono sm,cU.mpr rfl⟩⟩)⟩,
   fun hl=>by
    rw [ql] at hl
    refine⟨vs,ws,h1.same s',h2.same s',?_⟩
    rw [<- g1.length,<- g2.length]
    omega⟩
def Cp:List D->Option (List D)
 | [a,b]=>(Gc a).bind fun x=>(Gc b).bind fun y=>some (nJ x.2 y.2)
 | _=>none
def C7 (f:az->R (List D)):az->R (List D):=fun ρ=>(f ρ).bind fun ds=>rO (Cp ds)
section
variable {X:Cx}
theorem Ic {a b c:Su} (h1:a≠b) (h2:a≠c):a∉[b,c]:=fun h=>by
 rcases List.mem_cons.mp h with z | z
 ·exact h1 z
 ·exact h2 (List.mem_singleton.mp z)
theorem Cm {n a1 a2:Su} (h1:a1 < n) (h2:a2 < n):Apart (n+4) (n+2) (n+3) n (n+1) [n,a1] [n+1,a2]:=by
 have lt:∀ {a b:Nat},a < b->(b:Su)≠(a:Su):=fun h=>Ou h
 have lt':∀ {a b:Nat},a < b->(a:Su)≠(b:Su):=fun h=>Of h
 have g:∀ k:Nat,a1 < n+k:=fun k=>Od h1 (Qj _ _)
 have g':∀ k:Nat,a2 < n+k:=fun k=>Od h2 (Qj _ _)
 have p:∀ {j k:Nat},j < k->n+j < n+k:=fun h=>Qk h n
 have p0:∀ {k:Nat},0 < k->n < n+k:=fun h=>Ql h
 exact⟨lt' (p (by decide)),lt' (p (by decide)),lt' (p (by decide)),Ic (lt (p0 (by decide))) (lt (g 4)),Ic (lt (p0 (by decide))) (lt (g 3)),Ic (lt (p0 (by decide))) (lt (g 1)),
  Ic (lt (p (by decide))) (lt (g' 4)),Ic (lt (p (by decide))) (lt (g' 3)),Ic (lt' (p0 (by decide))) (lt h2),lt (p0 (by decide)),lt (p (by decide)),Oj,Oj⟩
theorem IQ {pins:List (Su×Obj)} {s:SF} {σ:St} {H:Hp} {O:List Su} {es:List SJ} {k:Nat} {tpos:Pos} {ds r:List D} {vs:List V} {us:List Sq} {RR:It->Hp->Prop} (I:Inv X pins σ H s) (hc:Cp ds=some r) (d1:bD X.K (hid H O) ds vs) (rv:Vals vs us) (q:∀ J,Walk X.K (hid H O) J r->RR J H) :
  SH (model X.prog X.w) X.A (call (.type "zip") us) (fun v s1=>SH (model X.prog X.w) X.A (pyIter v) (PIE X pins σ (.Tuple es k tpos) RR) X.xe s1) X.xe s:=by
 unfold Cp at hc
 split at hc
 ·rename_i a b
  obtain⟨⟨b1,xs⟩,e1,hc⟩:=bind_some hc
  obtain⟨⟨b2,ys⟩,e2,hc⟩:=bind_some hc
  cases hc
  obtain⟨va,vb,rfl,da,db⟩:=d1.two
  obtain⟨u1,u2,rfl,r1,r2⟩:=vals2 rv
  obtain⟨a1,ws1,rfl,x1,y1⟩:=rW e1 da
  obtain⟨a2,ws2,rfl,x2,y2⟩:=rW e2 db
  cases r1
  cases r2
  obtain⟨its1,rr1,q1,_⟩:=Inv.sx I (x1.same (aY H O))
  obtain⟨its2,rr2,q2,_⟩:=Inv.sx I (x2.same (aY H O))
  refine Ep q1 q2 fun g hz hI hO s1 s2 kp=>wpAny_pyIter_zip hz ?_
  have Ap:=Cm q1.lt q2.lt
  refine⟨_,_,_,_,H,rfl,I.kept (t':=s.toks) kp,EC (b1:=b1) (b2:=b2) Ap (Of q1.lt) (Of (Od q2.lt (Qj _ 1))) (Ou (Ql (by decide))) (Ou (Qk (by decide) _)),⟨hz,hI,⟨_,_,hO⟩,s1,s2⟩,fun b hb=>?_,q _ (Ek x1 y1 x2 y2)⟩
  have le:s.heap.objs.size<=b:=by
   simp only [Qf,Qg,or_false] at hb
   rcases hb with rfl | rfl | rfl | rfl | rfl
   ·exact Qj _ _
   ·exact Qj _ _
   ·exact Qj _ _
   ·exact Ow _
   ·exact Qj _ _
  exact I.fpOk le (I.hok.fresh le)
 ·cases hc
theorem Mq {a b:SJ} {es:List SJ} {k:Nat} {tpos:Pos} {f:az->R (List D)} {p pos:Pos} (hg:Gl X "zip") (hm:X.mg "zip"=none) (ha:FA X [a,b] f) (hs:SK [a,b] X.env=(false,eval a X.env)::SK [b] X.env:=by rfl) (hpl:(backTo pos (SK [b] X.env)).any (·.1)=false:=by rfl):FI X (.Tuple es k tpos) (.Call (.Name "zip" p) [a,b] [] pos) (C7 f):=by
 intro pins s σ H RR I ⟨O,ρ,E,hG⟩
 have hA:=ha pos pins s σ H (fun vs H1=>∃ ds r,Cp ds=some r/\bD X.K (hid H1 O) ds vs/\∀ J,Walk X.K (hid H1 O) J r->RR J H1) I ⟨O,ρ,E,(i3.bind hG).imp fun ds hG vs H1 s1 d1=>by
  obtain⟨r,e,q⟩:=i3.rO hG
  exact⟨ds,r,e,d1,fun J wk=>q J H1 s1 wk⟩⟩
 refine R4 (n9 I hg hm PyProof.Rows.boot_zip (RX (dX hA fun us s1 ⟨vs,H1,I1,r1,ds,r,er,d1,q⟩=>?_) hs hpl))
 exact IQ I1 er d1 r1 q
end
def N0 (K:Rf) (b:Bool) (a:Su):It :=
  ⟨fun i H=>∃ xs,SX K b H a xs/\i < xs.length,
   fun i H v H'=>∃ p x,v=.ref p/\H p=none/\H'=upd H p (.tup [.int i,x])/\∀ xs,SX K b H a xs->xs[i]?=some x,
   fun i H=>∃ xs,SX K b H a xs/\i=xs.length⟩
theorem Cu {P:Ss} {w:Sr} {K:Rf} {es:List SJ} {k:Nat} {pos:Pos} {b:Bool} {a e it:Su} (n1:a≠it) (n2:e≠it) (n3:e≠a):Turn P w K (.Tuple es k pos) (N0 K b a) [e,it] e (fun i h=>(∃ old,IsEnum h e it i old)/\SI b h it a i) where
 mem:=by simp
 obj:=fun i h ⟨⟨old,he⟩,s1⟩ c hc=>by
  simp only [Qf,Qg,or_false] at hc
  rcases hc with rfl | rfl
  ·exact⟨_,he,fun v q=>by cases q⟩
  ·exact s1.get
 keep:=fun i h h' ⟨⟨old,he⟩,s1⟩ kp=>⟨⟨old,kp e (by simp) _ he⟩,s1.keep fun o q=>kp it (by simp) o q⟩
 item:=by
  intro X hP hw hK hc i pins s σ H E I hf ⟨⟨old,he⟩,s1⟩ hg
  subst hP hw hK
  obtain⟨xs,g1,l1⟩:=hg
  obtain⟨its,r1,q1,z1⟩:=Inv.sx I g1
  have hh:X.A.in1.handled=none:=I.ok.hd hc
  refine wpAny_pyNext_enum_itemD (mG (A:=X.A.in1) b hh it a n1 its.toArray) he ⟨s1,q1⟩ (by rw [Oy,<- r1.length]; exact l1) n2 (Ic n2 n3) fun u g tk p1 ho t1 hp sz kp=>?_
  have e1:its[i]?=some u:=by simpa using p1
  obtain⟨u',hu,ru⟩:=r1.get (i:=i) (x:=xs[i]) (by simp [l1])
  rw [e1] at hu; cases hu
  refine⟨_,rfl,wpAny_letOwnedTupleGo_enum ho fun g' he' sb=>?_⟩
  have hpe:s.heap.objs.size≠e:=Ou (RK he)
  have hp':=sb.extBut _ _ hpe hp
  have I':Inv X pins σ (upd H s.heap.objs.size (.tup [.int i,xs[i]])) { s with heap:=g',toks:=tk+1 }:=Inv.turnedL (ch:=[e,it]) I hf (fun c o hc q=>by
   simp only [Qf,Qg,or_false,not_or] at hc
   exact sb.extBut _ _ hc.1 (kp c o hc.1 hc.2 q)) (Ow _) ⟨by show 2<=Sx; decide,[.int i tk,u],.cons ⟨_,rfl⟩ (.cons ru .nil),_,hp',rfl,_,rfl⟩
  have ne:∀ c∈[e,it],c≠s.heap.objs.size:=fun c hc q=>by
   simp only [Qf,Qg,or_false] at hc
   rcases hc with rfl | rfl
   ·exact hpe q.symm
   ·obtain⟨o,q',_⟩:=s1.get; exact absurd (RK q') (by rw [q]; exact Oe _)
  refine⟨.ref s.heap.objs.size,_,I',rfl,⟨_,xs[i],rfl,I.fresh,rfl,fun xs' h=>by rw [Inv.sx_inj I h g1]; simp [l1]⟩,⟨⟨u,?_⟩,t1.1.keep fun o q=>sb.extBut _ _ n2.symm q⟩,fun c hc=>by rw [bF (ne c hc)]; exact(hf c hc).1⟩
  have ei:((i+1:Nat):Int)=(i:Int)+1:=by omega
  rw [ei]; exact he'
 done:=by
  intro X hP hw hK hc i pins s σ H E I hf ⟨⟨old,he⟩,s1⟩ hg
  subst hP hw hK
  obtain⟨xs,g1,l1⟩:=hg
  obtain⟨its,r1,q1,z1⟩:=Inv.sx I g1
  have hh:X.A.in1.handled=none:=I.ok.hd hc
  have el:i=its.toArray.size:=by rw [Oy,<- r1.length]; exact l1
  refine wpAny_pyNext_enum_endD (mG (A:=X.A.in1) b hh it a n1 its.toArray) he ⟨by rw [<- el]; exact s1,q1⟩ fun g kp=>⟨rfl,Inv.turned0 (ch:=[e,it]) I hf fun c o hc q=>?_⟩
  simp only [Qf,Qg,or_false,not_or] at hc
  exact kp c o hc.2 q
 self:=fun _ _ _ _ _ ⟨⟨old,he⟩,_⟩ h=>wpAny_pyIter_enum he h
def jn (i:Nat):List D->List D
 | []=>[]
 | x::xs=>.tup [.int i,x]::jn (i+1) xs
theorem pB:∀ (i:Nat) (xs:List D),(jn i xs).length=xs.length
 | _,[]=>rfl
 | i,x::xs=>by rw [jn,OA,pB (i+1) xs,OA]
theorem uL:∀ {xs:List D} {k i:Nat} {d:D},(jn k xs)[i]?=some d->∃ x,xs[i]?=some x/\d=.tup [.int ((k+i:Nat):Int),x]
 | [],k,i,d,h=>by simp [jn] at h
 | x::xs,k,0,d,h=>by
  rw [jn,Qh] at h
  cases h
  exact⟨x,rfl,rfl⟩
 | x::xs,k,i+1,d,h=>by
  rw [jn,Qi] at h
  obtain⟨y,h1,h2⟩:=uL h
  refine⟨y,by rw [Qi]; exact h1,?_⟩
  rw [h2]
  congr 4
  omega
theorem C6 {K:Rf} {Hd:Hp} {b:Bool} {a:Su} {ds:List D} {vs:List V} (h1:SX K b Hd a vs) (g1:bD K Hd ds vs):Walk K Hd (N0 K b a) (jn 0 ds):=fun Hn O' i hO sm =>
  have s':bS Hd Hn:=sm.trans (aY Hn O')
  ⟨fun d e=>by
    obtain⟨x,e1,rfl⟩:=uL e
    have l1:i < ds.length:=(List.getElem?_eq_some_iff.mp e1).1
    obtain⟨v,ev,dv⟩:=g1.get e1
    refine⟨⟨vs,h1.same s',by rw [<- g1.length]; exact l1⟩,fun u H2 ⟨p,x',eu,hp,eH,q1⟩=>?_⟩
    have z1:=q1 vs (h1.same s')
    rw [ev] at z1; cases z1
    subst eH eu
    rw [Qm]
    exact⟨cz hp _,e6 hO hp (bP.mpr ⟨.int i,_,rfl,gE.mpr rfl,bP.mpr ⟨v,_,rfl,dv.mono sm,cU.mpr rfl⟩⟩)⟩,
   fun hl=>by
    rw [pB] at hl
    exact⟨vs,h1.same s',by rw [<- g1.length]; exact hl⟩⟩
def u5:List D->Option (List D)
 | [a]=>(Gc a).bind fun x=>some (jn 0 x.2)
 | _=>none
def ka (f:az->R (List D)):az->R (List D):=fun ρ=>(f ρ).bind fun ds=>rO (u5 ds)
section
variable {X:Cx}
theorem CD {prog:Ss} {w:Sr} {A:SE} {E:Sq->SF->Prop} {s:SF} {b:Bool} {l:Su} {xs:Array Sq} {Q:Sq->SF->Prop} (h1:SQ b s.heap l xs)
  (h:∀ g,IsEnum g (s.heap.objs.size+1) s.heap.objs.size 0 .none->SI b g s.heap.objs.size l 0->(∀ c o,s.heap.get? c=some o->g.get? c=some o)->Q (.ref (s.heap.objs.size+1)) { s with heap:=g }):SH (model prog w) A (call (.type "enumerate") [.ref l]) Q E s:=by
 refine callType_new F.called_enumerate (by decide) (F.typeCall_enumerate_1 _) (F.newCall_enumerate_1 _) (fun obj=>F.args_object_init_2 obj _) F.entry_enumerate_new (Cj b l xs) ⟨h1,?_⟩
 have z1:(Dd b s.heap l).objs.size=s.heap.objs.size+1:=RP ..
 have g2:=RO (Dd b s.heap l) (o:={ cls:=.type "enumerate",data:=.fields #[.none,.bool false,.ref s.heap.objs.size,rawInt 0,.none,.none] }) rfl
 have g1:SI b ((Dd b s.heap l).push { cls:=.type "enumerate",data:=.fields #[.none,.bool false,.ref s.heap.objs.size,rawInt 0,.none,.none] }) s.heap.objs.size l 0:=SI.keep SI.new fun o e=>RN _ e
 show _/\_
 rw [z1] at g2 ⊢
 exact⟨⟨_,g2,rfl⟩,h _ g2 g1 fun c o e=>RN _ (RN _ e)⟩
theorem FC {pins:List (Su×Obj)} {s:SF} {σ:St} {H:Hp} {O:List Su} {es:List SJ} {k:Nat} {tpos:Pos} {ds r:List D} {vs:List V} {us:List Sq} {RR:It->Hp->Prop} (I:Inv X pins σ H s) (hc:u5 ds=some r) (d1:bD X.K (hid H O) ds vs) (rv:Vals vs us) (q:∀ J,Walk X.K (hid H O) J r->RR J H) :
  SH (model X.prog X.w) X.A (call (.type "enumerate") us) (fun v s1=>SH (model X.prog X.w) X.A (pyIter v) (PIE X pins σ (.Tuple es k tpos) RR) X.xe s1) X.xe s:=by
 unfold u5 at hc
 split at hc
 ·rename_i a
  obtain⟨⟨b1,xs⟩,e1,hc⟩:=bind_some hc
  cases hc
  obtain⟨va,rfl,da⟩:=d1.one
  obtain⟨u1,rfl,r1⟩:=vals1 rv
  obtain⟨a1,ws1,rfl,x1,y1⟩:=rW e1 da
  cases r1
  obtain⟨its1,rr1,q1,_⟩:=Inv.sx I (x1.same (aY H O))
  refine CD q1 fun g he s1 kp=>wpAny_pyIter_enum he ?_
  refine⟨_,_,_,_,H,rfl,I.kept (t':=s.toks) kp,Cu (b:=b1) (Of q1.lt) (Ou (Ql (by decide))) (Ou (Od q1.lt (Qj _ 1))),⟨⟨_,he⟩,s1⟩,fun b hb=>?_,q _ (C6 x1 y1)⟩
  have le:s.heap.objs.size<=b:=by
   simp only [Qf,Qg,or_false] at hb
   rcases hb with rfl | rfl
   ·exact Qj _ _
   ·exact Ow _
  exact I.fpOk le (I.hok.fresh le)
 ·cases hc
theorem FY {a:SJ} {es:List SJ} {k:Nat} {tpos:Pos} {f:az->R (List D)} {p pos:Pos} (hg:Gl X "enumerate") (hm:X.mg "enumerate"=none) (ha:FA X [a] f) (hs:SK [a] X.env=(false,eval a X.env)::SK [] X.env:=by rfl) (hpl:(backTo pos (SK [] X.env)).any (·.1)=false:=by rfl):FI X (.Tuple es k tpos) (.Call (.Name "enumerate" p) [a] [] pos) (ka f):=by
 intro pins s σ H RR I ⟨O,ρ,E,hG⟩
 have hA:=ha pos pins s σ H (fun vs H1=>∃ ds r,u5 ds=some r/\bD X.K (hid H1 O) ds vs/\∀ J,Walk X.K (hid H1 O) J r->RR J H1) I ⟨O,ρ,E,(i3.bind hG).imp fun ds hG vs H1 s1 d1=>by
  obtain⟨r,e,q⟩:=i3.rO hG
  exact⟨ds,r,e,d1,fun J wk=>q J H1 s1 wk⟩⟩
 refine R4 (n9 I hg hm PyProof.Rows.boot_enumerate (RX (dX hA fun us s1 ⟨vs,H1,I1,r1,ds,r,er,d1,q⟩=>?_) hs hpl))
 exact FC I1 er d1 r1 q
end
end TG
namespace TG
open PySem PySem.Spec L2
variable [bp]

theorem jS {K:Rf} {c:Str} {C C':Su} (h:clsAt K c C) (h':clsAt K c C'):C=C':=by
 unfold clsAt at h h'
 rw [h] at h'
 cases h'; rfl
theorem sQ {K:Rf} {H:Hp} {f:Str}:∀ {fs:List Str} {ds:List D} {vs:List V} {d:D},bD K H ds vs->(fs.zip ds).lookup f=some d->∃ v,(fs.zip vs).lookup f=some v/\dj K H d v
 | [],_,_,_,_,e=>by simp at e
 | _::_,[],_,_,_,e=>by simp at e
 | g::fs,x::ds,vs,d,h,e=>by
  rw [bP] at h
  obtain⟨v,r,rfl,h1,h2⟩:=h
  rw [Qn,Pm] at e ⊢
  cases hg:f==g with
  | true=>rw [hg] at e; cases e; exact⟨v,rfl,h1⟩
  | false=>rw [hg] at e; exact sQ h2 e
theorem u6 {f:Str}:∀ {fs:List Str} {vs:List V},fs.contains f=false->(fs.zip vs).lookup f=none
 | [],_,_=>by simp
 | _::_,[],_=>by simp
 | g::fs,x::vs,h=>by
  rw [Qo,Qp] at h
  rw [Qn,Pm,h.1]
  exact u6 h.2
def gY (f:Str) (cs:List Str) (d:D):Option D:=match d with
 | .obj c fs vs=>if cs.contains c then (fs.zip vs).lookup f else none
 | _=>none
def gP (K:Rf) (f:Str) (cs:List Str):Prop:=∀ c∈cs,∀ C,clsAt K c C->AG K C/\kc K C f
section
variable {X:Cx} {a o e:SJ} {es:List SJ} {fa fo:FX} {fas:az->R (List D)} {f m x:Str} {cs:List Str} {pos apos p:Pos} {k k':Nat} {ps:List Str}
theorem M9 (ok:gP X.K f cs) (h:FE X a fa) (hb:Tc a f X.env (eval a X.env)=eval a X.env:=by rfl):FE X (.Attribute a f pos) (f1 (gY f cs) fa) :=
 PE.weak (IP h hb) fun σ H Q ⟨O,ρ,E,hF⟩=>⟨O,ρ,E,(i3.bind hF).imp fun d hF v H1 s1 d1=>by
  obtain⟨r,e,q⟩:=i3.rO hF
  cases d with
  | obj c fs vs =>
   have e':(if cs.contains c then (fs.zip vs).lookup f else none)=some r:=e
   cases hc:cs.contains c with
   | false=>rw [hc] at e'; cases e'
   | true =>
    rw [hc] at e'
    obtain⟨a,ws,ev,g1,g2,C,dx,g3,g4⟩:=K8.mp d1
    obtain⟨w,l1,l2⟩:=sQ g1 e'
    obtain⟨cl,na⟩:=ok c (List.contains_iff_mem.mp hc) C g3
    exact⟨a,C,dx,_,w,ev,aY H1 O _ _ g4,cl,na,l1,q w H1 s1 l2⟩
  | _=>cases e⟩
def MethAt (P:Ss) (w:Sr) (K:Rf) (mg:Str->Option Sq) (base:Sw) (k:Nat) (c m:Str) (ps:List Str) (g:List D->R D):Prop :=
 ∃ C f fd,clsAt K c C/\AG K C/\Meth K C m f/\js P w K mg base (nh P w) k f fd ps (Df K ps.length g)/\Binds K fd ps []
def iC (m:Str) (tbl:List (Str×(List D->R D))) (fo:FX) (fas:az->R (List D)):FX:=fun ρ=>(fo ρ).bind fun o=>match o with
 | .obj c fs vs=>match tbl.lookup c with
  | some g=>if fs.contains m then un else (fas ρ).bind fun as=>g (o::as)
  | none=>un
 | _=>un
def fF (P:Ss) (w:Sr) (K:Rf) (mg:Str->Option Sq) (base:Sw) (k:Nat) (m:Str) (ps:List Str) (tbl:List (Str×(List D->R D))):Prop :=
 ∀ c g,tbl.lookup c=some g->MethAt P w K mg base k c m ps g/\Ar ps.length g
theorem j4 {P:Ss} {w:Sr} {K:Rf} {mg:Str->Option Sq} {base:Sw}:fF P w K mg base k m ps []:=fun _ _ h=>nomatch h
theorem eh {P:Ss} {w:Sr} {K:Rf} {mg:Str->Option Sq} {base:Sw} {c:Str} {g:List D->R D} {tbl:List (Str×(List D->R D))} (h:MethAt P w K mg base k c m ps g) (hn:Ar ps.length g) (t:fF P w K mg base k m ps tbl):fF P w K mg base k m ps ((c,g)::tbl):=fun c' g' e=>by
 rw [Pm] at e
 cases hc:c'==c with
 | true =>
  rw [hc] at e
  cases e
  have:c'=c:=by simpa using hc
  subst this
  exact⟨h,hn⟩
 | false=>rw [hc] at e; exact t c' g' e
theorem MethAt.mono {P:Ss} {w:Sr} {K:Rf} {mg:Str->Option Sq} {base:Sw} {c:Str} {g:List D->R D} (h:MethAt P w K mg base k c m ps g) (hk:k<=k'):MethAt P w K mg base k' c m ps g:=by
 obtain⟨C,f,fd,h1,h2,h3,h4,h5⟩:=h
 exact⟨C,f,fd,h1,h2,h3,h4.mono hk,h5⟩
theorem zB {tbl:List (Str×(List D->R D))} {args:List SJ} {pl:Sem Bool} (tb:fF X.prog X.w X.K X.mg X.base k m ps tbl) (hr:fG k X.A) (ho:FE X o fo)
  (hc:∀ (pins:List (Su×Obj)) (s1:SF) (σ:St) (H1:Hp) (O:List Su) (ρ:az) (a f:Su) (od:D) (Q:VK) (g:List D->R D) (fd:Th) (w0:V),Rt X.K (.ref f)=true->js X.prog X.w X.K X.mg X.base (nh X.prog X.w) k f fd ps (Df X.K ps.length g)->Binds X.K fd ps []->Ar ps.length g->Inv X pins σ H1 s1->eV X.K O H1 ρ σ->dj X.K (hid H1 O) od (.ref a) ->
   (i3 X σ O H1 ((fas ρ).bind fun as=>g (od::as)) fun d=>∀ v H',bS H1 H'->dj X.K (hid H' O) d v->Q v H') ->
   SH (model X.prog X.w) X.A (Td pos (.ref f) [.ref a] (backTo pos (SK args X.env)) (backToKw pos (Te [] X.env))) (EP X pins σ Q) X.xe s1)
  (ht:eval (.Call (.Attribute o m apos) args [] pos) X.env=(do
   let ov <- eval o X.env
   standAt apos.atName
   let (f,first) <- holding [ov] (getMethod ov m pl)
   Td pos f first (backTo pos (SK args X.env)) (backToKw pos (Te [] X.env)))) :
  FE X (.Call (.Attribute o m apos) args [] pos) (iC m tbl fo fas):=by
 intro pins s σ H Q I ⟨O,ρ,E,hF⟩
 refine yt ho I ?_ ht
 refine⟨O,ρ,E,(i3.bind hF).imp fun d hF v H1 s1 d1=>?_⟩
 cases d with
 | obj c fs vs =>
  have hF':i3 X σ O H (match tbl.lookup c with | some g=>if fs.contains m then un else (fas ρ).bind fun as=>g (.obj c fs vs::as) | none=>un) _:=hF
  cases hg:tbl.lookup c with
  | none=>rw [hg] at hF'; exact hF'.elim
  | some g =>
   rw [hg] at hF'
   have hF2:i3 X σ O H (if fs.contains m then un else (fas ρ).bind fun as=>g (.obj c fs vs::as)) _:=hF'
   cases hm:fs.contains m with
   | true=>rw [hm] at hF2; exact hF2.elim
   | false =>
    rw [hm] at hF2
    have hF3:i3 X σ O H ((fas ρ).bind fun as=>g (.obj c fs vs::as)) _:=hF2
    have d0:=d1
    obtain⟨a,ws,ev,g1,g2,C,dx,g3,g4⟩:=K8.mp d1
    obtain⟨⟨C',f,fd,m1,m2,m3,m4,m5⟩,ar⟩:=tb c g hg
    have eC:=jS g3 m1
    subst eC
    subst ev
    refine⟨a,C,dx,_,f,rfl,aY H1 O _ _ g4,m2,m3,u6 hm,fun s2 I2=>?_⟩
    exact hc pins s2 σ H1 O ρ a f _ Q g fd (.ref a) m3.kp m4 m5 ar I2 (E.same s1) d0 ((hF3.mono s1).imp fun d q v H2 s2 d2=>q v H2 (s1.trans s2) d2)
 | _=>exact hF.elim
theorem rM {σ:St} {O:List Su} {H:Hp} {g:List D->R D} {ds:List D} {vs:List V} {Q:VK} {n:Nat} (ar:Ar n g) (hO:eP H O) (d1:bD X.K (hid H O) ds vs) (h:i3 X σ O H (g ds) fun d=>∀ v H',bS H H'->dj X.K (hid H' O) d v->Q v H'):∃ E,lD (nh X.prog X.w) X σ E/\Df X.K n g vs H Q E:=by
 cases hg:g ds with
 | ok d =>
  rw [hg] at h
  refine⟨E0,BD,O,ds,by rw [<- d1.length]; exact ar ds (by rw [hg]; intro z; cases z),hO,d1,?_⟩
  rw [hg]; exact h
 | error z =>
  rw [hg] at h
  cases z with
  | none=>exact h.elim
  | some x =>
   refine⟨Bq X O H x,Bx h,O,ds,by rw [<- d1.length]; exact ar ds (by rw [hg]; intro z; cases z),hO,d1,?_⟩
   rw [hg]; exact zj
theorem K7 {tbl:List (Str×(List D->R D))} {pl:Sem Bool} (tb:fF X.prog X.w X.K X.mg X.base k m ps tbl) (hr:fG k' X.A) (hk:k<=k') (ho:FE X o fo) (ha:FA X (e::es) fas)
  (hns:(e::es).all noStar=true:=by rfl)
  (ht:eval (.Call (.Attribute o m apos) (e::es) [] pos) X.env=(do
   let ov <- eval o X.env
   standAt apos.atName
   let (f,first) <- holding [ov] (getMethod ov m pl)
   Td pos f first (backTo pos (SK (e::es) X.env)) (backToKw pos (Te [] X.env))):=by rfl) :
  FE X (.Call (.Attribute o m apos) (e::es) [] pos) (iC m tbl fo fas) :=
 zB tb (hr.mono hk) ho (fun pins s1 σ H1 O ρ a f od Q g fd _ kp F b ar I1 E1 dO hP=>by
  refine Ru (first:=[.ref a]) (h₀:=X.base) I1.ok.mod.kin kp (dX (ha pos pins s1 σ H1 _ I1 ⟨O,ρ,E1,(i3.bind hP).imp fun as hP vs H2 s2 d2=>rM (vs:=.ref a::vs) ar (E1.all.same s2) (bP.mpr ⟨_,_,rfl,dO.mono (de s2),d2⟩) ((hP.mono s2).imp fun d q v H3 s3 d3=>q v H3 (s2.trans s3) d3)⟩) fun us s2 ⟨vs,H2,I2,r,Ex,hx,q2⟩=>⟨I2.kIn,?_⟩) (dY (O1 _ _ ▸ hns).1) (fN (O1 _ _ ▸ hns).2)
  exact xY (us:=.ref a::us) (vs:=.ref a::vs) F (hr.mono hk) b hx I2 (.cons rfl r) q2) ht
theorem JO {tbl:List (Str×(List D->R D))} {pl:Sem Bool} (tb:fF X.prog X.w X.K X.mg X.base k m ps tbl) (hr:fG k' X.A) (hk:k<=k') (ho:FE X o fo)
  (ht:eval (.Call (.Attribute o m apos) [] [] pos) X.env=(do
   let ov <- eval o X.env
   standAt apos.atName
   let (f,first) <- holding [ov] (getMethod ov m pl)
   Td pos f first (backTo pos (SK [] X.env)) (backToKw pos (Te [] X.env))):=by rfl) :
  FE X (.Call (.Attribute o m apos) [] [] pos) (iC m tbl fo ax) :=
 zB tb (hr.mono hk) ho (fun pins s1 σ H1 O ρ a f od Q g fd _ kp F b ar I1 E1 dO hP=>by
  have hP':i3 X σ O H1 (g [od]) fun d=>∀ v H',bS H1 H'->dj X.K (hid H' O) d v->Q v H':=hP
  obtain⟨Ex,hx,q2⟩:=rM (vs:=[.ref a]) ar E1.all (bP.mpr ⟨_,_,rfl,dO,cU.mpr rfl⟩) hP'
  exact PySem.W.callWith_K0 (first:=[.ref a]) I1.kIn kp (xY (us:=[.ref a]) (vs:=[.ref a]) F (hr.mono hk) b hx I1 (.cons rfl .nil) q2)) ht
theorem dB {P:Ss} {w:Sr} {K:Rf} {mg:Str->Option Sq} {base:Sw} {c y qual:Str} {C f:Su} {fd:Th} {st:SL} {N:List Str} {B:cB} (h1:clsAt K c C) (h2:AG K C) (h3:Meth K C m f) (F:wK K y qual st f fd) (b:Binds K fd ps []) (SC:aJ N ps (aA st)) (hb:BodyOk P w K mg base k N qual st f B) :
  MethAt P w K mg base (k+1) c m ps (aP B ps.length N.length):=⟨C,f,fd,h1,h2,h3,wZ F SC hb,b⟩
def N9 (C:Su) (fs:List Str):Sp:=fun vs H Q _=>∃ x dx as,vs=.ref x::as/\as.length=fs.length/\H x=some (.ins C dx [])/\Q .non (upd H x (.ins C dx (fs.zip as)))
def tL (P:Ss) (w:Sr) (K:Rf) (mg:Str->Option Sq) (base:Sw) (k:Nat) (c:Str) (ps fs:List Str):Prop :=
 ∃ C f fd,clsAt K c C/\Mk K C f/\js P w K mg base (nh P w) k f fd ps (N9 C fs)/\Binds K fd ps []/\mg c=some (.ref C)
def fNew (c:Str) (fs:List Str) (fas:az->R (List D)):FX:=fun ρ=>(fas ρ).bind fun as=>if as.length=fs.length then .ok (.obj c fs as) else un
theorem yu {K:Rf} {H1:Hp} {O:List Su} {c:Str} {fs:List Str} {as:List D} {vs:List V} {C x dx:Su} (hc:clsAt K c C) (hl:as.length=fs.length) (d1:bD K (hid H1 O) as vs) (hO:eP H1 O) (hx:H1 x=none) (hd:H1 dx=none) (ne:dx≠x) :
  bS H1 (upd (upd (upd H1 dx (.own x)) x (.ins C dx [])) x (.ins C dx (fs.zip vs)))/\dj K (hid (upd (upd (upd H1 dx (.own x)) x (.ins C dx [])) x (.ins C dx (fs.zip vs))) O) (.obj c fs as) (.ref x):=by
 have sm:bS H1 (upd (upd (upd H1 dx (.own x)) x (.ins C dx [])) x (.ins C dx (fs.zip vs))):=fun b o h=>by
  have n1:=bK h hx
  have n2:=bK h hd
  rw [bF n1,bF n1,bF n2]; exact h
 exact⟨sm,K8.mpr ⟨x,vs,rfl,d1.mono (de sm),by rw [<- d1.length,hl],C,dx,hc,by rw [p4 (hO.not hx),cg]⟩⟩
theorem JY {X:Cx}:zS (nh X.prog X.w) X E0:=fun _ _ _ _ _ _ _ h=>by
 obtain⟨_,_,_,_,_,_,_,_,_,_,_,_,_,z⟩:=h
 exact z.elim
theorem Ng {c:Str} {fs:List Str} (IA:tL X.prog X.w X.K X.mg X.base k c ps fs) (hr:fG k' X.A) (hk:k+1<=k') (hg:Gl X c) (ha:FA X (e::es) fas) (hdb:(c==("__debug__":Str))=false:=by decide)
  (hns:(e::es).all noStar=true:=by rfl):FE X (.Call (.Name c p) (e::es) [] pos) (fNew c fs fas):=by
 obtain⟨C,f,fd,h1,h2,h3,h4,h5⟩:=IA
 refine PE.weak (GN (dvs:=[]) (E:=E0) h2 h3 (hr.mono hk) hg h5 h4 .nil JY ha hdb (dY (O1 _ _ ▸ hns).1) (fN (O1 _ _ ▸ hns).2)) fun σ H Q ⟨O,ρ,E,hF⟩=>⟨O,ρ,E,(i3.bind hF).imp fun as hF vs H1 s1 d1 x dx hx hd ne=>?_⟩
 by_cases hl:as.length=fs.length
 ·rw [if_pos hl] at hF
  rw [OI]
  refine⟨x,dx,vs,rfl,by rw [<- d1.length,hl],by rw [cg],rfl,?_⟩
  obtain⟨sm,dn⟩:=yu h1 hl d1 (E.all.same s1) hx hd ne
  exact hF _ _ (s1.trans sm) dn
 ·rw [if_neg hl] at hF; exact hF.elim
theorem tx (f:Str) (v:V):∀ {fs:List (Str×V)},(fs.map (·.1)).contains f=false->la f v fs=fs++[(f,v)]
 | [],_=>rfl
 | (g,w)::fs,h=>by
  rw [OB,Qo,Qp] at h
  have ne:¬ g=f:=fun z=>by
   have:=h.1
   rw [z] at this
   simp at this
  have:=tx f v (fs:=fs) h.2
  unfold la
  simp only [ne,if_false,this,Pr]
def BQ (X:Cx) (cs:List Str) (body:List SL) (fs:List Str) (i:Nat):Prop :=
 ∃ t,xx X body t/\∀ (D:Ends) (σ:St) (H:Hp) (x dx C:Su) (done:List (Str×V)) (as:List V),σ[0]?=some (some (.ref x))->(∀ j v,as[j]?=some v->σ[i+j]?=some (some v))->as.length=fs.length->AG X.K C->(∀ f∈fs,kc X.K C f)->done.length+fs.length < 1000->(done.map (·.1)++fs).Nodup->H x=some (.ins C dx done) ->
  D.nx σ (upd H x (.ins C dx (done++fs.zip as)))->t D σ H
theorem Cd {st:SL} {f:Str} {i:Nat} {o v:SJ} {p1 p2:Pos} (hst:st=.Assign [.Attribute o f p1] v p2) (ho:PE X o (qy 0)) (hv:PE X v (qy i)) (hs:swapsWith v (some (.Attribute o f p1)) p2.line X.env=pure false):BQ X cs [st] [f] i:=by
 subst hst
 refine⟨_,Bu (Dq ho hv hs),fun D σ H x dx C done as h0 ha hl cl na hz nd hx q=>?_⟩
 obtain⟨a,rfl⟩:∃ a,as=[a]:=by
  match as,hl with
  | [a],_=>exact⟨a,rfl⟩
 refine⟨a,ha 0 a rfl,.ref x,h0,x,C,dx,done,rfl,hx,cl,na f (List.mem_singleton.mpr rfl),by simp at hz; omega,?_⟩
 rw [tx f a (by
  have:=nd
  rw [Qq] at this
  have h3:=this.2.2
  cases hc:(done.map (·.1)).contains f with
  | false=>rfl
  | true=>exact absurd rfl (h3 f (List.contains_iff_mem.mp hc) f (List.mem_singleton.mpr rfl)))]
 exact q
theorem Ao {st:SL} {rest:List SL} {f:Str} {fs:List Str} {i:Nat} {o v:SJ} {p1 p2:Pos} (hst:st=.Assign [.Attribute o f p1] v p2) (ho:PE X o (qy 0)) (hv:PE X v (qy i)) (hs:swapsWith v (some (.Attribute o f p1)) p2.line X.env=pure false) (hr:BQ X cs rest fs (i+1)):BQ X cs (st::rest) (f::fs) i:=by
 subst hst
 obtain⟨t,ht,hq⟩:=hr
 refine⟨_,zC (Dq ho hv hs) ht,fun D σ H x dx C done as h0 ha hl cl na hz nd hx q=>?_⟩
 obtain⟨a,as,rfl⟩:∃ a r,as=a::r:=by
  match as,hl with
  | a::r,_=>exact⟨a,r,rfl⟩
 have hno:(done.map (·.1)).contains f=false:=by
  have:=nd
  rw [Qq] at this
  have h3:=this.2.2
  cases hc:(done.map (·.1)).contains f with
  | false=>rfl
  | true=>exact absurd rfl (h3 f (List.contains_iff_mem.mp hc) f Oj)
 refine⟨a,ha 0 a rfl,.ref x,h0,x,C,dx,done,rfl,hx,cl,na f Oj,by simp at hz; omega,?_⟩
 rw [tx f a hno]
 refine hq D σ _ x dx C (done++[(f,a)]) as h0 (fun j v e=>?_) (by simpa using hl) cl (fun g hg=>na g (Ol _ hg)) (by simp at hz ⊢; omega) (by simpa [P9] using nd) (by rw [cg]) ?_
 ·have:=ha (j+1) v (by simpa using e)
  rw [show i+1+j=i+(j+1) by omega]; exact this
 ·rw [GK,P9]; exact q
theorem C9 {P:Ss} {w:Sr} {K:Rf} {mg:Str->Option Sq} {base:Sw} {c qual:Str} {C f:Su} {fd:Th} {st:SL} {fs:List Str} (h1:clsAt K c C) (hM:Mk K C f) (cl:AG K C) (na:∀ g∈fs,kc K C g) (F:wK K "__init__" qual st f fd) (b:Binds K fd ps []) (hmg:mg c=some (.ref C)) (SC:aJ ps ps (aA st)) (hps:ps.length=fs.length+1) (hnd:fs.Nodup) (hlen:fs.length < 1000)
  (hb:∀ (cdv:Sq) (A:SE) (outer:List Env) (s:SF) (H:Hp) (E:XK),BQ (jL Le P w K mg base ps qual (aA st) f cdv A outer s H E).nox [] (fA st) fs 1):tL P w K mg base (k+1) c ps fs:=by
 refine⟨C,f,fd,h1,hM,?_,b,hmg⟩
 refine js.any (F.ok SC (fun vs H Q E h=>?_) fun cdv A outer s H vs Q E hr h=>?_)
 ·obtain⟨x,dx,as,rfl,hl,_⟩:=h
  rw [OA,hl,hps]
 ·obtain⟨t,ht,hq⟩:=hb cdv A outer s H E
  obtain⟨x,dx,as,rfl,hl,hx,q⟩:=h
  have hst:L2.start ps (.ref x::as)=(.ref x::as).map some:=by
   unfold L2.start
   rw [OA,hl,hps,Qr,Qs,OI]
  refine⟨t,ht,hq _ _ H x dx C [] as (by rw [hst]; rfl) (fun j v e=>?_) hl cl na (by simpa using hlen) (by simpa using hnd) hx q⟩
  rw [hst,Nat.add_comm,OB,Qi,OS,e]; rfl
end
end TG
namespace TG
open PySem PySem.Spec L2
variable [bp]
section
variable {X:Cx}
def pM:List D->Option (List Str)
 | []=>some []
 | .str x::r=>(pM r).bind fun ys=>some (x::ys)
 | _=>none
theorem ve:∀ {ds:List D} {ys:List Str},pM ds=some ys->ds=ys.map .str
 | [],ys,h=>by cases h; rfl
 | d::ds,ys,h=>by
  cases d with
  | str x =>
   have h':(pM ds).bind (fun ys=>some (x::ys))=some ys:=h
   cases e:pM ds with
   | none=>rw [e] at h'; cases h'
   | some zs =>
    rw [e] at h'
    cases h'
    rw [ve e]; rfl
  | _=>cases h
theorem uF {K:Rf} {H:Hp}:∀ {ys:List Str} {vs:List V},bD K H (ys.map .str) vs->vs=ys.map .str
 | [],vs,h=>cU.mp h
 | y::ys,vs,h=>by
  obtain⟨v,r,rfl,h1,h2⟩:=bP.mp h
  rw [gz.mp h1,uF h2]; rfl
theorem Bz:∀ {ys:List Str} {its:List Sq},Vals (ys.map .str) its->PyProof.Rows.StrsAre its ys
 | [],_,.nil=>.nil
 | y::ys,_,.cons h t=>by
  obtain⟨t',rfl⟩:=h
  exact .cons y t' (Bz t)
def rJoin (K:Rf):V->List V->Hp->VK->Prop:=fun x xs H Q=>∃ z l ys,x=.str z/\xs=[.ref l]/\nN K H l (ys.map V.str)/\(ys.map (fun y=>y.length)).sum+ys.length*z.length<=100000/\Q (.str (Txt.join z ys)) H
theorem Fk:NP X "str.join" (rJoin X.K):=by
 intro pins s σ H x xs v us Q I rx rs ⟨z,l,ys,ex,exs,hl,hz,q⟩
 subst ex exs
 obtain⟨t,rfl⟩:=rx
 obtain⟨u,rfl⟩:∃ u,us=[u]:=by
  cases rs with
  | cons _ t=>cases t; exact⟨_,rfl⟩
 have ru:RelV (.ref l) u:=by cases rs with | cons h _=>exact h
 cases ru
 obtain⟨its,r,ht,_⟩:=I.list hl
 exact PyProof.Rows.join_list ht.isList (Bz r) ‹0› fun t' k=>⟨.str _,H,I.tok _,⟨_,rfl⟩,q⟩
def LR:D->Option Str
 | .str z=>some z
 | _=>none
theorem GJ {K:Rf} {H:Hp} {d:D} {z:Str} {v:V} (e:LR d=some z) (h:dj K H d v):v=.str z:=by
 cases d with
 | str y=>cases e; exact gz.mp h
 | _=>cases e
def sK (z:Str) (as:List D):Option D:=match as with
 | [.lst xs]=>(pM xs).bind fun ys=>if small ((ys.map (fun y=>y.length)).sum+ys.length*z.length) then some (.str (Txt.join z ys)) else none
 | _=>none
def mh (f:FX) (g:az->R (List D)):FX:=fun ρ=>(f ρ).bind fun a=>(rO (LR a)).bind fun z=>(g ρ).bind fun ds=>rO (sK z ds)
theorem wL {K:Rf} {H:Hp} {O:List Su} {z:Str} {ds:List D} {d:D} {vs:List V} {Q:VK} (hg:sK z ds=some d) (hd:bD K (hid H O) ds vs) (q:∀ v,dj K (hid H O) d v->Q v H):rJoin K (.str z) vs H Q:=by
 unfold sK at hg
 split at hg
 ·rename_i xs
  cases e:pM xs with
  | none=>rw [e] at hg; cases hg
  | some ys =>
   rw [e] at hg
   obtain⟨h1,h2⟩:=bZ hg
   subst h2
   obtain⟨v,ev,h1'⟩:=hd.one
   obtain⟨l,ws,el,hl,hw⟩:=cT.mp h1'
   rw [ve e] at hw
   rw [uF hw] at hl
   exact⟨z,l,ys,rfl,by rw [ev,el],(aY H O).seq hl,of_decide_eq_true h1,q _ (gz.mpr rfl)⟩
 ·cases hg
theorem Lf {a e:SJ} {es:List SJ} {fa:FX} {fs:az->R (List D)} {apos cpos:Pos} (ha:FE X a fa) (hs:FA X (e::es) fs) (hbase:Tc a "join" X.env (eval a X.env)=eval a X.env:=by rfl)
  (hfew:((backTo cpos (SK (e::es) X.env)).all (fun x=>!x.1) && (backToKw cpos (Te [] X.env)).all (fun x=>x.1.isSome)
   && decide ((e::es).length+([]:List TJ).length+(if ([]:List TJ).isEmpty then 0 else 1) < 30))=true:=by rfl)
  (hline:(apos.endLine==cpos.line)=true:=by rfl) (hst:SK (e::es) X.env=(false,eval e X.env)::SK es X.env:=by rfl) (hplain:(backTo cpos (SK es X.env)).any (·.1)=false:=by rfl) :
  FE X (.Call (.Attribute a "join" apos) (e::es) [] cpos) (mh fa fs) :=
 PE.weak (HI F.plainAttrs_str F.slot_str_join F.type_str_join Fk ha hs hbase hfew hline hst hplain) fun σ H Q ⟨O,ρ,E,hF⟩=>⟨O,ρ,E,(i3.bind hF).imp fun x hF v H1 s1 d1=>by
  obtain⟨z,ez,hF⟩:=i3.rO (i3.bind hF)
  rw [GJ ez d1]
  exact⟨rfl,O,ρ,E.same s1,((i3.bind hF).mono s1).imp fun ds hF vs H2 s2 d2=>by
   obtain⟨d,e,q⟩:=i3.rO hF
   exact wL e d2 fun w dw=>q w H2 (s1.trans s2) dw⟩⟩
def MI (a b:D):Option D:=match a,b with
 | .bl c,.bl d=>some (.bl (c==d))
 | _,_=>none
def Gf (a b:D):Option D:=match a,b with
 | .bl c,.bl d=>some (.bl (!(c==d)))
 | _,_=>none
end
section
variable {X:Cx} {C:Su} {pins:List (Su×Obj)} {σ:St} {H:Hp} {s:SF} {Q:VK}
end
def BF (K:Rf) (mg:Str->Option Sq) (x:Str) (cs:List Str):Prop:=∃ C,mg x=some (.ref C)/\∀ c∈cs,∀ D,clsAt K c D->RB K (.ref D) C=true
def yM (cs:List Str) (d:D):Option D:=match d with
 | .obj c _ _=>if cs.contains c then some (.bl true) else none
 | _=>none
def Ju (K:Rf) (C:Su):List V->Hp->VK->Prop:=fun xs H Q=>∃ p D dx fs,xs=[.ref p,.ref C]/\H p=some (.ins D dx fs)/\RB K (.ref D) C=true/\Q (.bl true) H
section
variable {X:Cx} {p pos:Pos} {e:SJ} {C:Su}
theorem CV:et X (.builtin "isinstance") (Ju X.K C):=by
 intro pins s σ H xs us Q I r ⟨p,D,dx,fs,ex,hp,hi,q⟩
 subst ex
 obtain⟨u,w',rfl,rx,rt⟩:=vals2 r
 cases rx
 cases rt
 obtain⟨_,_,_,ob,_⟩:=(show dG X.prog X.w H s.heap p (.ins D dx fs) from I.hok p _ hp)
 exact PySem.W.isi_call I.kIn (fun M=>show PySem.W.Looks M s.heap (typeOf (.ref p)) (.ref D) from (PySem.W.Looks.ld ob).andThen .now) hi (fun z=>nomatch z) ⟨.bl true,H,I,rfl,q⟩
theorem Ln {f:FX} {x:Str} {p2:Pos} {cs:List Str} (h:BF X.K X.mg x cs) (hg:Gl X "isinstance") (hm:X.mg "isinstance"=none) (hgx:Gl X x) (he:FE X e f)
  (hd2:(x==("__debug__":Str))=false:=by decide) (hns:noStar e=true:=by rfl) :
  FE X (.Call (.Name "isinstance" p) [e,.Name x p2] [] pos) (f1 (yM cs) f):=by
 obtain⟨C,hC,hcs⟩:=h
 exact PE.weak (sB CV hg hm yN (mR he (mR (Hg (v:=.ref C) hgx hC rfl hd2) xA (dY rfl)) (dY hns)) (by decide) (by decide) (dY hns) (fN rfl)) fun σ H Q ⟨O,ρ,E,hF⟩=>⟨O,ρ,E,(i3.bind hF).imp fun a hF v H1 s1 d1=>by
  obtain⟨d,e,q⟩:=i3.rO hF
  unfold yM at e
  split at e
  ·rename_i c fs vs
   obtain⟨h1,h2⟩:=bZ e
   subst h2
   obtain⟨a,ws,rfl,_,_,D,dx,hcl,ha⟩:=K8.mp d1
   exact⟨a,D,dx,_,rfl,aY _ _ _ _ ha,hcs c (by simpa using h1) D hcl,q _ H1 s1 (j7.mpr rfl)⟩
  ·cases e⟩
end
end TG
namespace TG
open PySem PySem.Spec PyProof.Rows L2
variable [bp]
def eI:List D->List D->Option Bool
 | [],[]=>some false
 | [],_::_=>some true
 | _::_,[]=>some false
 | a::as,b::bs=>match a,b with
  | .int i,.int j=>if i=j then eI as bs else some (decide (i < j))
  | .str x,.str y=>if x=y then eI as bs else some (decide (x.cps.toList < y.cps.toList))
  | _,_=>none
inductive gS:List Sq->List D->Prop where
 | nil:gS [] []
 | int (i:Int) (t:Tok) {vs:List Sq} {ds:List D} (h:gS vs ds):gS (.int i t::vs) (.int i::ds)
 | str (x:Str) (t:Tok) {vs:List Sq} {ds:List D} (h:gS vs ds):gS (.str x t::vs) (.str x::ds)
theorem gS.length:∀ {vs:List Sq} {ds:List D},gS vs ds->vs.length=ds.length
 | _,_,.nil=>rfl
 | _,_,.int _ _ h=>by rw [OA,OA,h.length]
 | _,_,.str _ _ h=>by rw [OA,OA,h.length]
theorem HF (A:SE) (s:SF) (a:Int) (t:Tok) (c:Int) (u:Tok):∃ e,SeqAt.EqAt A s (.int a t) (.int c u) e/\(e=true↔a=c) :=
 ⟨(a==c),SeqAt.EqAt.int_int a t c u,by simp⟩
theorem Ht (A:SE) (s:SF) (a:Str) (t:Tok) (c:Str) (u:Tok):∃ e,SeqAt.EqAt A s (.str a t) (.str c u) e/\(e=true↔a=c) :=
 ⟨(a==c),SeqAt.EqAt.str_str a t c u,by simp⟩
theorem JA (A:SE) (s:SF) (a:Str) (t:Tok) (c:Str) (u:Tok) (prog:Ss) (w:Sr) (E:Sq->SF->Prop) (Q:Sq->SF->Prop) (h:Q (.bool (decide (a.cps.toList < c.cps.toList))) s) :
  SH (model prog w) A (richCompare .Lt (.str a t) (.str c u)) Q E s :=
 (PySem.P.lt_str h:SH (model prog w) A (SU .Lt (.str a t) (.str c u)) Q E s)
section
open PySem.SeqAt
open PySem.AutoSeq1 (wpAny_loadPart')
open PySem.MeetsSeq PySem.MeetsSeq2 PySem.MeetsSeq3
set_option maxHeartbeats 1000000 in
theorem t6 (l b:Su) (items items2:Array Sq) (n n2:Nat) (dd dd2:Option Su) (sl sl2:Array (Option Sq)) (ns ms:List D) (r:Bool) (hi:gS items.toList ns) (hj:gS items2.toList ms) (hr:eI ns ms=some r) :
  Meets (Builtin.«tuple.__lt__» ⟨[.ref l,.ref b],[]⟩)
   (fun _ R s=>s.heap.get? l=some { cls:=.type "tuple",dict:=dd,data:=.seq items n,slots:=sl }/\s.heap.get? b=some { cls:=.type "tuple",dict:=dd2,data:=.seq items2 n2,slots:=sl2 } /\
    R (.ok (.ret (.bool r))) s) :=
 .of_wp fun prog w A R s h=>by
  obtain⟨hp,g,d,tk,os⟩:=s; obtain⟨hl,hb,h⟩:=h
  have f2:=AutoSeq1.sub_tuple_tuple
  have z1:items.size=ns.length:=by rw [<- hi.length]; simp
  have z2:items2.size=ms.length:=by rw [<- hj.length]; simp
  wp_walk using wpAny_loadPart' hl,wpAny_loadPart' hb,wpAny_forIn_list _ (fun rest b s'=>b.1=none/\s'=⟨hp,g,d,tk,os⟩/\∃ (vs ws:List Sq) (ns' ms':List D),rest=vs.zip ws /\
   gS vs ns'/\gS ws ms'/\ns'.length+items2.size=ms'.length+items.size/\eI ns' ms'=some r/\R (.ok (.ret (.bool r))) ⟨hp,g,d,tk,os⟩) _
  case turn =>
   rintro⟨y,x⟩ rest b s' ⟨hb',rfl,vs,ws,ns',ms',hz,hvi,hwi,hlen,hL,hR⟩
   cases hvi with
   | nil=>rw [List.zip_nil_left] at hz; cases hz
   | int a t hvi' =>
    cases hwi with
    | nil=>rw [Qt] at hz; cases hz
    | str c u hwi'=>cases hL
    | int c u hwi' =>
     rw [Qn] at hz
     injection hz with hyx hrest
     injection hyx with hy hx
     subst hy hx
     have hL':(if a=c then eI _ _ else some (decide (a < c)))=some r:=hL
     simp only [OA] at hlen
     obtain⟨e,he,hiff⟩:=HF A.in1 ⟨hp,g,d,tk,os⟩ a t c u
     refine SZ (he prog w _ _ ?_)
     cases e with
     | true =>
      rw [if_pos (hiff.mp rfl)] at hL'
      wp_walk
      exact⟨rfl,rfl,_,_,_,_,hrest,hvi',hwi',by omega,hL',hR⟩
     | false =>
      rw [if_neg (fun q=>absurd (hiff.mpr q) Ot)] at hL'
      cases hL'
      have hri:=HT.Kq A.in1 ⟨hp,g,d,tk,os⟩ a t c u prog w
      wp_walk using hri
      exact⟨_,rfl,by simpa using hR⟩
   | str a t hvi' =>
    cases hwi with
    | nil=>rw [Qt] at hz; cases hz
    | int c u hwi'=>cases hL
    | str c u hwi' =>
     rw [Qn] at hz
     injection hz with hyx hrest
     injection hyx with hy hx
     subst hy hx
     have hL':(if a=c then eI _ _ else some (decide (a.cps.toList < c.cps.toList)))=some r:=hL
     simp only [OA] at hlen
     obtain⟨e,he,hiff⟩:=Ht A.in1 ⟨hp,g,d,tk,os⟩ a t c u
     refine SZ (he prog w _ _ ?_)
     cases e with
     | true =>
      rw [if_pos (hiff.mp rfl)] at hL'
      wp_walk
      exact⟨rfl,rfl,_,_,_,_,hrest,hvi',hwi',by omega,hL',hR⟩
     | false =>
      rw [if_neg (fun q=>absurd (hiff.mpr q) Ot)] at hL'
      cases hL'
      have hri:=JA A.in1 ⟨hp,g,d,tk,os⟩ a t c u prog w
      wp_walk using hri
      exact⟨_,rfl,by simpa using hR⟩
  case fin =>
   rintro⟨b1,b2⟩ s' ⟨hb',rfl,vs,ws,ns',ms',hz,hvi,hwi,hlen,hL,hR⟩
   simp only at hb'
   subst hb'
   have hv:r=decide (items.size < items2.size):=by
    have l1:=hvi.length
    have l2:=hwi.length
    cases ns' with
    | nil =>
     cases ms' with
     | nil =>
      simp only [Ph] at hlen
      cases hL
      exact(decide_eq_false ‹0›).symm
     | cons c u =>
      simp only [Ph,OA] at hlen
      cases hL
      exact(decide_eq_true ‹0›).symm
    | cons a t =>
     cases ms' with
     | nil =>
      simp only [Ph,OA] at hlen
      cases hL
      exact(decide_eq_false ‹0›).symm
     | cons c u =>
      have:=congrArg List.length hz
      simp only [Ph,List.length_zip,l1,l2,OA] at this
      omega
   rw [hv] at hR
   wp_walk
   exact⟨_,rfl,by simpa [Builtin.Tuple.tupleCompareSizes] using hR⟩
  case h =>
   exact⟨rfl,rfl,items.toList,items2.toList,ns,ms,rfl,hi,hj,by omega,hr,h⟩
end
section
variable {X:Cx}
theorem CI {α:Type} {c:Bool} {o:Option α} {a:α} (h:(if c then o else none)=some a):c=true/\o=some a:=by
 cases c with
 | true=>exact⟨rfl,h⟩
 | false=>cases h
theorem Aw {prog:Ss} {w:Sr} {A:SE} {E:Sq->SF->Prop} {s:SF} {l b:Su} {items items2:Array Sq} {ns ms:List D} {r:Bool} {Q:Sq->SF->Prop} (hl:Sy s.heap l items) (hb:Sy s.heap b items2) (hi:gS items.toList ns) (hj:gS items2.toList ms) (hr:eI ns ms=some r)
  (hu:A.units < Tg) (h:Q (.bool r) s):SH (model prog w) A (SU .Lt (.ref l) (.ref b)) Q E s:=by
 obtain⟨⟨cls,dd,data,sl⟩,ho,hc,n,hd⟩:=id hl
 obtain⟨⟨cls2,dd2,data2,sl2⟩,ho2,hc2,n2,hd2⟩:=id hb
 simp only at hc hd hc2 hd2
 subst hc hd hc2 hd2
 exact richCompare_meets_room (op:=.Lt) ⟨_,ho,rfl⟩ ⟨_,ho2,rfl⟩ PySem.F.slot_tuple_lt PySem.F.entry_tuple_lt (PySem.F.args_tuple_lt_2 _ _) (t6 l b items items2 n n2 dd dd2 sl sl2 ns ms r hi hj hr)
  ⟨ho,ho2,show Value.bool r≠Value.notImplemented/\Q (.bool r) s from ⟨(fun x=>nomatch x),h⟩⟩ hu
def ny:List D->Bool
 | []=>true
 | .int _::r=>ny r
 | .str _::r=>ny r
 | _=>false
theorem jZ {K:Rf} {H:Hp}:∀ {ds:List D} {vs:List V} {us:List Sq},ny ds=true->bD K H ds vs->Vals vs us->gS us ds
 | [],vs,us,_,h,r=>by
  rw [cU] at h
  subst h
  cases r
  exact .nil
 | d::ds,vs,us,hf,h,r=>by
  obtain⟨v,r',e,h1,h2⟩:=bP.mp h
  subst e
  cases r with
  | cons q1 q2 =>
   cases d with
   | int i =>
    rw [gE] at h1
    subst h1
    obtain⟨t,rfl⟩:=q1
    exact .int i t (jZ hf h2 q2)
   | str x =>
    rw [gz] at h1
    subst h1
    obtain⟨t,rfl⟩:=q1
    exact .str x t (jZ hf h2 q2)
   | _=>cases hf
def fD (a b:D):Option D:=match a,b with
 | .int i,.int j=>some (.bl (decide (i < j)))
 | .str x,.str y=>some (.bl (decide (x.cps.toList < y.cps.toList)))
 | .tup xs,.tup ys=>if ny xs && ny ys then (eI xs ys).bind fun r=>some (.bl r) else none
 | _,_=>none
theorem iL (hu:X.A.units+64 < Tg):j3 X (SU .Lt) (rD X.K fD):=by
 intro pins s σ H x y u v Q I rx ry ⟨O,a,b,d,hO,ha,hb,hg,q⟩
 cases a with
 | int i =>
  cases b with
  | int j =>
   cases hg
   exact K4 pins s σ H x y u v Q I rx ry ⟨i,j,gE.mp ha,gE.mp hb,q _ H (bS.refl H) (j7.mpr rfl)⟩
  | _=>cases hg
 | str i =>
  cases b with
  | str j =>
   cases hg
   exact BW pins s σ H x y u v Q I rx ry ⟨i,j,gz.mp ha,gz.mp hb,q _ H (bS.refl H) (j7.mpr rfl)⟩
  | _=>cases hg
 | tup xs =>
  cases b with
  | tup ys =>
   obtain⟨h1,h2⟩:=CI hg
   obtain⟨r,e1,e2⟩:=bind_some h2
   cases e2
   rw [O1] at h1
   obtain⟨p,vs,ex,g1,g2⟩:=cS.mp ha
   obtain⟨p',vs',ey,g1',g2'⟩:=cS.mp hb
   subst ex ey
   cases rx
   cases ry
   obtain⟨its,r1,t1,_⟩:=I.tuple (cn (aY H O) g1)
   obtain⟨its2,r2,t2,_⟩:=I.tuple (cn (aY H O) g1')
   exact Aw t1 t2 (jZ h1.1 g2 r1) (jZ h1.2 g2' r2) e1 ‹0› (DZ I (q _ H (bS.refl H) (j7.mpr rfl)) rfl)
  | _=>cases hg
 | _=>cases hg
end
end TG
namespace TG
open PySem PySem.Spec L2
variable [bp]
end TG
namespace TG
open PySem PySem.Spec PyProof.Rows PySem.W L2
variable [bp]
theorem tJ:∀ a:List Nat,¬ a < a
 | []=>Qu _
 | x::xs=>fun h=>by
  rcases List.cons_lt_cons_iff.mp h with h | ⟨_,h⟩
  ·omega
  ·exact tJ xs h
theorem lO:∀ {a b c:List Nat},a < b->b < c->a < c
 | _,_,[],_,h=>absurd h (Qu _)
 | _,[],_::_,h,_=>absurd h (Qu _)
 | [],_::_,_::_,_,_=>Qv _ _
 | x::xs,y::ys,z::zs,h,h'=>by
  rw [Qw] at h h' ⊢
  rcases h with h | ⟨e,h⟩ <;> rcases h' with h' | ⟨e',h'⟩
  ·exact .inl ‹0›
  ·exact .inl ‹0›
  ·exact .inl ‹0›
  ·exact .inr ⟨by omega,lO h h'⟩
theorem EJ:∀ a b:List Nat,a < b\/a=b\/b < a
 | [],[]=>.inr (.inl rfl)
 | [],_::_=>.inl (Qv _ _)
 | _::_,[]=>.inr (.inr (Qv _ _))
 | x::xs,y::ys=>by
  rw [Qw,Qw]
  rcases Nat.lt_trichotomy x y with h | h | h
  ·exact .inl (.inl h)
  ·rcases EJ xs ys with q | q | q
   ·exact .inl (.inr ⟨h,q⟩)
   ·exact .inr (.inl (by rw [h,q]))
   ·exact .inr (.inr (.inr ⟨h.symm,q⟩))
  ·exact .inr (.inr (.inl h))
theorem y9 {x y:Str} (h:x.cps.toList=y.cps.toList):x=y:=by
 cases x; cases y
 congr 1
 exact Array.toList_inj.mp h
inductive Sh:List Bool->List D->Prop where
 | nil:Sh [] []
 | int (i:Int) {bs:List Bool} {ds:List D} (h:Sh bs ds):Sh (true::bs) (.int i::ds)
 | str (x:Str) {bs:List Bool} {ds:List D} (h:Sh bs ds):Sh (false::bs) (.str x::ds)
theorem Sh.length:∀ {σ:List Bool} {a:List D},Sh σ a->a.length=σ.length
 | _,_,.nil=>rfl
 | _,_,.int _ h=>by rw [OA,OA,h.length]
 | _,_,.str _ h=>by rw [OA,OA,h.length]
theorem mJ:∀ {σ:List Bool} {a:List D},Sh σ a->ny a=true
 | _,_,.nil=>rfl
 | _,_,.int i h=>by
  unfold ny; exact mJ h
 | _,_,.str i h=>by
  unfold ny; exact mJ h
theorem sq (i j:Int) (as bs:List D):eI (.int i::as) (.int j::bs)=if i=j then eI as bs else some (decide (i < j)):=by rw [eI]
theorem rS (x y:Str) (as bs:List D):eI (.str x::as) (.str y::bs)=if x=y then eI as bs else some (decide (x.cps.toList < y.cps.toList)):=by rw [eI]
theorem Dr:eI [] []=some false:=by rw [eI]
theorem kr:∀ {σ:List Bool} {a:List D},Sh σ a->eI a a=some false
 | _,_,.nil=>Dr
 | _,_,.int i h=>by rw [sq,if_pos rfl]; exact kr h
 | _,_,.str x h=>by rw [rS,if_pos rfl]; exact kr h
theorem jv:∀ {σ:List Bool} {a b:List D},Sh σ a->Sh σ b->(eI a b=some true/\eI b a=some false/\a≠b)\/a=b\/(eI b a=some true/\eI a b=some false/\a≠b)
 | _,_,_,.nil,.nil=>.inr (.inl rfl)
 | _,_,_,.int i h,.int j h'=>by
  rw [sq,sq]
  by_cases e:i=j
  ·subst e
   rw [if_pos rfl,if_pos rfl]
   rcases jv h h' with ⟨q1,q2,q3⟩ | q | ⟨q1,q2,q3⟩
   ·exact .inl ⟨q1,q2,fun z=>q3 (by injection z)⟩
   ·exact .inr (.inl (by rw [q]))
   ·exact .inr (.inr ⟨q1,q2,fun z=>q3 (by injection z)⟩)
  ·rw [if_neg e,if_neg (fun z=>e z.symm)]
   rcases Int.lt_or_gt_of_ne e with q | q
   ·exact .inl ⟨by rw [decide_eq_true q],by rw [decide_eq_false ‹0›],fun z=>e (by injection z with z1; injection z1)⟩
   ·exact .inr (.inr ⟨by rw [decide_eq_true q],by rw [decide_eq_false ‹0›],fun z=>e (by injection z with z1; injection z1)⟩)
 | _,_,_,.str x h,.str y h'=>by
  rw [rS,rS]
  by_cases e:x=y
  ·subst e
   rw [if_pos rfl,if_pos rfl]
   rcases jv h h' with ⟨q1,q2,q3⟩ | q | ⟨q1,q2,q3⟩
   ·exact .inl ⟨q1,q2,fun z=>q3 (by injection z)⟩
   ·exact .inr (.inl (by rw [q]))
   ·exact .inr (.inr ⟨q1,q2,fun z=>q3 (by injection z)⟩)
  ·rw [if_neg e,if_neg (fun z=>e z.symm)]
   rcases EJ x.cps.toList y.cps.toList with q | q | q
   ·exact .inl ⟨by rw [decide_eq_true q],by rw [decide_eq_false fun z=>tJ _ (lO q z)],fun z=>e (by injection z with z1; injection z1)⟩
   ·exact absurd (y9 q) e
   ·exact .inr (.inr ⟨by rw [decide_eq_true q],by rw [decide_eq_false fun z=>tJ _ (lO q z)],fun z=>e (by injection z with z1; injection z1)⟩)
theorem j0:∀ {σ:List Bool} {a b c:List D},Sh σ a->Sh σ b->Sh σ c->eI a b=some true->eI b c=some true->eI a c=some true
 | _,_,_,_,.nil,.nil,.nil,h,_=>by rw [Dr] at h; cases h
 | _,_,_,_,.int i h,.int j h',.int k h'',q,q'=>by
  rw [sq] at q q' ⊢
  by_cases e:i=j
  ·subst e
   rw [if_pos rfl] at q
   by_cases e':i=k
   ·subst e'
    rw [if_pos rfl] at q' ⊢
    exact j0 h h' h'' q q'
   ·rw [if_neg e'] at q' ⊢
    exact q'
  ·rw [if_neg e] at q
   have q1:=of_decide_eq_true (Option.some.inj q)
   by_cases e':j=k
   ·subst e'
    rw [if_neg e,decide_eq_true q1]
   ·rw [if_neg e'] at q'
    have q2:=of_decide_eq_true (Option.some.inj q')
    rw [if_neg ‹0›,decide_eq_true ‹0›]
 | _,_,_,_,.str i h,.str j h',.str k h'',q,q'=>by
  rw [rS] at q q' ⊢
  by_cases e:i=j
  ·subst e
   rw [if_pos rfl] at q
   by_cases e':i=k
   ·subst e'
    rw [if_pos rfl] at q' ⊢
    exact j0 h h' h'' q q'
   ·rw [if_neg e'] at q' ⊢
    exact q'
  ·rw [if_neg e] at q
   have q1:=of_decide_eq_true (Option.some.inj q)
   by_cases e':j=k
   ·subst e'
    rw [if_neg e,decide_eq_true q1]
   ·rw [if_neg e'] at q'
    have q2:=of_decide_eq_true (Option.some.inj q')
    rw [if_neg (show ¬ i=k from fun z=>by rw [z] at q1; exact tJ _ (lO q1 q2)),decide_eq_true (lO q1 q2)]
theorem EG {σ:List Bool} {a b:List D} (h:Sh σ a) (h':Sh σ b) (q:eI a b=some true):eI b a=some false:=by
 rcases jv h h' with ⟨_,q2,_⟩ | e | ⟨_,q2,_⟩
 ·exact q2
 ·subst e; rw [kr h] at q; cases q
 ·rw [q2] at q; cases q
theorem Ia {σ:List Bool} {a b:List D} (h:Sh σ a) (q:eI a b=some true):a≠b:=fun e=>by
 subst e; rw [kr h] at q; cases q
def kLt (a b:List D):Bool:=eI a b==some true
theorem GO {a b:List D}:kLt a b=true↔eI a b=some true:=by unfold kLt; simp
section
variable {α:Type}
def B6 (key:α->List D) (x:α):List α->List α
 | []=>[x]
 | y::ys=>if kLt (key x) (key y) then x::y::ys else y::B6 key x ys
def lX (key:α->List D):List α->List α
 | []=>[]
 | x::xs=>B6 key x (lX key xs)
theorem pR (key:α->List D) (x:α):∀ ys:List α,(B6 key x ys).Perm (x::ys)
 | []=>.refl _
 | y::ys=>by
  unfold B6
  split
  ·exact .refl _
  ·exact(List.Perm.cons y (pR key x ys)).trans (.swap x y ys)
theorem jq (key:α->List D):∀ xs:List α,(lX key xs).Perm xs
 | []=>.refl _
 | x::xs=>(pR key x _).trans (.cons x (jq key xs))
def yB (key:α->List D) (xs:List α):Prop:=xs.Pairwise fun x y=>eI (key x) (key y)=some true
theorem yy {key:α->List D} {σ:List Bool} {x:α} (hx:Sh σ (key x)):∀ {ys:List α},(∀ y∈ys,Sh σ (key y)/\key x≠key y)->yB key ys->yB key (B6 key x ys)
 | [],_,_=>Qx _ _
 | y::ys,h,p=>by
  have p':=List.pairwise_cons.mp p
  obtain⟨hy,ne⟩:=h y Oj
  unfold B6
  split
  ·rename_i q
   have q:=GO.mp q
   refine List.pairwise_cons.mpr ⟨fun z hz=>?_,p⟩
   rcases List.mem_cons.mp hz with rfl | hz
   ·exact q
   ·exact j0 hx hy (h z (Ol _ hz)).1 q (p'.1 z hz)
  ·rename_i q
   have q:eI (key y) (key x)=some true:=by
    rcases jv hx hy with ⟨z,_⟩ | z | ⟨z,_⟩
    ·exact absurd (GO.mpr z) q
    ·exact absurd z ne
    ·exact z
   refine List.pairwise_cons.mpr ⟨fun z hz=>?_,yy hx (fun z hz=>h z (Ol _ hz)) p'.2⟩
   rcases List.mem_cons.mp ((pR key x ys).mem_iff.mp hz) with rfl | hz
   ·exact q
   ·exact p'.1 z hz
theorem uH {key:α->List D} {σ:List Bool}:∀ {xs:List α},(∀ x∈xs,Sh σ (key x))->xs.Pairwise (fun x y=>key x≠key y)->yB key (lX key xs)
 | [],_,_=>List.Pairwise.nil
 | x::xs,h,p=>by
  have p':=List.pairwise_cons.mp p
  refine yy (h x Oj) (fun y hy=>?_) (uH (fun y hy=>h y (Ol _ hy)) p'.2)
  have hy:=(jq key xs).mem_iff.mp hy
  exact⟨h y (Ol _ hy),p'.1 y hy⟩
theorem Bj {key:α->List D} {σ:List Bool}:∀ {xs ys:List α},(∀ x∈xs,Sh σ (key x))->yB key xs->yB key ys->xs.Perm ys->xs=ys
 | [],ys,_,_,_,e=>(List.perm_nil.mp e.symm).symm
 | x::xs,[],_,_,_,e=>List.perm_nil.mp e
 | x::xs,y::ys,h,p,q,e=>by
  have p':=List.pairwise_cons.mp p
  have q':=List.pairwise_cons.mp q
  have exy:x=y:=by
   rcases List.mem_cons.mp (e.mem_iff.mp Oj) with z | z
   ·exact z
   ·have w1:=q'.1 x z
    rcases List.mem_cons.mp (e.symm.mem_iff.mp Oj) with z' | z'
    ·exact z'.symm
    ·have w2:=p'.1 y z'
     have:=EG (h x Oj) (h y (Ol _ z')) w2
     rw [w1] at this; cases this
  subst exy
  rw [Bj (fun z hz=>h z (Ol _ hz)) p'.2 q'.2 (List.Perm.cons_inv e)]
theorem yU {key:α->List D} {σ:List Bool} {xs ys:List α} (h:∀ x∈xs,Sh σ (key x)) (p:xs.Pairwise fun x y=>key x≠key y) (q:yB key ys) (e:ys.Perm xs):lX key xs=ys :=
 Bj (fun x hx=>h x ((jq key xs).mem_iff.mp hx)) (uH h p) q ((jq key xs).trans e.symm)
def rank (ks:List (List D)) (i:Nat):Nat:=(ks.filter fun k=>kLt k (ks.getD i [])).length
theorem qR {ks:List (List D)} {σ:List Bool} (h:∀ k∈ks,Sh σ k) {i j:Nat} (hi:i < ks.length) (hj:j < ks.length):decide (rank ks i < rank ks j)=kLt (ks.getD i []) (ks.getD j []):=by
 have gi:ks.getD i []=ks[i]:=by simp [hi]
 have gj:ks.getD j []=ks[j]:=by simp [hj]
 have mono:∀ a b:List D,Sh σ a->Sh σ b->eI a b=some true->∀ l:List (List D),(∀ k∈l,Sh σ k)->(l.filter fun k=>kLt k a).length<=(l.filter fun k=>kLt k b).length/\(a∈l->(l.filter fun k=>kLt k a).length < (l.filter fun k=>kLt k b).length):=by
  intro a b ha hb hab l
  induction l with
  | nil=>exact fun _=>⟨Ow _,fun z=>nomatch z⟩
  | cons k l ih =>
   intro hl
   obtain⟨i1,i2⟩:=ih fun z hz=>hl z (Ol _ hz)
   have hk:=hl k Oj
   by_cases q:kLt k a=true
   ·have q':kLt k b=true:=GO.mpr (j0 hk ha hb (GO.mp q) hab)
    rw [Qy (p:=fun k=>kLt k a) q,Qy (p:=fun k=>kLt k b) q',OA,OA]
    refine⟨by omega,fun z=>?_⟩
    rcases List.mem_cons.mp z with rfl | z
    ·rw [GO,kr ha] at q; cases q
    ·have:=i2 z; omega
   ·rw [Qz (p:=fun k=>kLt k a) q]
    by_cases q':kLt k b=true
    ·rw [Qy (p:=fun k=>kLt k b) q',OA]
     exact⟨by omega,fun _=>by omega⟩
    ·rw [Qz (p:=fun k=>kLt k b) q']
     refine⟨i1,fun z=>?_⟩
     rcases List.mem_cons.mp z with rfl | z
     ·exact absurd (GO.mpr hab) q'
     ·exact i2 z
 unfold rank
 rw [gi,gj]
 have hi':=h _ (QA hi)
 have hj':=h _ (QA hj)
 rcases jv hi' hj' with ⟨z,_⟩ | z | ⟨z,z',_⟩
 ·rw [GO.mpr z]
  exact decide_eq_true ((mono _ _ hi' hj' z ks h).2 (QA hi))
 ·rw [z]
  have:kLt ks[j] ks[j]=false:=by unfold kLt; rw [kr hj']; rfl
  rw [this]
  exact decide_eq_false (Oe _)
 ·have e:kLt ks[i] ks[j]=false:=by unfold kLt; rw [z']; rfl
  rw [e]
  exact decide_eq_false (Nat.not_lt.mpr (mono _ _ hj' hi' z ks h).1)
end
section
variable {cmp:Nat->Nat->(Bool->SF->Prop)->SF->Prop} {r:Nat->Nat} {N:Nat}
def lZ (cmp:Nat->Nat->(Bool->SF->Prop)->SF->Prop) (r:Nat->Nat) (N:Nat) (s:SF):Prop:=∀ (i j:Nat) (C:Bool->SF->Prop),i < N->j < N->C (decide (r i < r j)) s->cmp i j C s
def PM (N:Nat) (p:Array Nat):Prop:=p.Perm (List.toArray (List.range N))
theorem PM.size {p:Array Nat} (h:PM N p):p.size=N:=by
 have:=h.size_eq; simpa using this
theorem PM.lt {p:Array Nat} (h:PM N p) {i:Nat} (hi:i < N):p.getD i 0 < N:=by
 have hs:=h.size
 have e:p.getD i 0=p[i]'‹0›:=by simp [Array.getD,hs,hi]
 rw [e]
 have m:p[i]'‹0›∈p:=Array.getElem_mem _
 have:=(h.mem_iff (a:=p[i]'‹0›)).mp m
 simpa using this
theorem PM.rev {p:Array Nat} (h:PM N p) (i j:Nat):PM N (kas_rev p i j):=(mirror_perm p i j _).trans h
abbrev Rk (r:Nat->Nat) (p:Array Nat) (i:Nat):Nat:=r (p.getD i 0)
theorem wa {p:Array Nat} {i j:Nat} (hj:j<=p.size) (k:Nat):Rk r (kas_rev p i j) k=if i<=k/\k < j then Rk r p (i+j - 1 - k) else Rk r p k:=by
 have e:=getElem?_mirror_all (xs:=p) (i:=i) (j:=j) hj k
 have g:∀ (q:Array Nat) (k:Nat),q.getD k 0=(q[k]?).getD 0:=fun q k=>by simp
 show r ((kas_rev p i j).getD k 0)=_
 rw [g]
 show r (((mirror p i j ((j - i) / 2))[k]?).getD 0)=_
 rw [e]
 split
 ·show _=r (p.getD _ 0); rw [g]
 ·show _=r (p.getD _ 0); rw [g]
theorem DJ {p:Array Nat} {src d:Nat} (hs:src < p.size) (hd:d<=src) (k:Nat):Rk r (bubble p src d) k=if k=src - d then Rk r p src else if src - d < k/\k<=src then Rk r p (k - 1) else Rk r p k:=by
 have e:=getElem?_bubble (xs:=p) hs d hd k
 have g:∀ (q:Array Nat) (k:Nat),q.getD k 0=(q[k]?).getD 0:=fun q k=>by simp
 show r ((bubble p src d).getD k 0)=_
 rw [g,e]
 split
 ·show _=r (p.getD _ 0); rw [g]
 ·split
  ·show _=r (p.getD _ 0); rw [g]
  ·show _=r (p.getD _ 0); rw [g]
def Up (r:Nat->Nat) (p:Array Nat) (k:Nat):Prop:=∀ i j,i<=j->j < k->Rk r p i<=Rk r p j
def Dn (r:Nat->Nat) (p:Array Nat) (k:Nat):Prop:=∀ i j,i<=j->j < k->Rk r p j<=Rk r p i
variable {s:SF}
theorem Ai (hc:lZ cmp r N s) {p:Array Nat} (hp:PM N p) {G:Nat->SF->Prop}:∀ (f n:Nat),1<=n->n+f<=N->Up r p n->(∀ m,n<=m->m<=n+f->Up r p m->(m=n+f\/Rk r p m < Rk r p (m - 1))->G m s)->(kas_asc p f n).kasWp cmp G s
 | 0,n,_,_,u,h=>h n (Ow _) (Ow _) u (.inl rfl)
 | f+1,n,h1,h2,u,h=>by
  refine hc _ _ _ (hp.lt ‹0›) (hp.lt ‹0›) ?_
  by_cases q:Rk r p n < Rk r p (n - 1)
  ·rw [decide_eq_true q]; dsimp only; rw [if_pos rfl]
   exact h n (Ow _) ‹0› u (.inr q)
  ·rw [decide_eq_false q]; dsimp only; rw [if_neg Ot]
   refine Ai hc hp f (n+1) ‹0› ‹0› (fun i j hij hj=>?_) fun m a b=>?_
   ·by_cases hjn:j < n
    ·exact u i j hij hjn
    ·have ej:j=n:=by omega
     subst ej
     by_cases ei:i=j
     ·subst ei; exact Ow _
     ·have:=u i (j - 1) ‹0› ‹0›
      omega
   ·intro um hm
    exact h m ‹0› ‹0› um (by rcases hm with z | z; exact .inl ‹0›; exact .inr z)
theorem EY {p:Array Nat} {n q:Nat} (hn:n<=p.size) (hq:q+1<=n) (he:∀ i,n - (q+1)<=i->i < n->Rk r p i=Rk r p (n - 1)) (k:Nat):Rk r (kas_rev p (n - (q+1)) n) k=Rk r p k:=by
 rw [wa hn]
 split
 ·rename_i h
  rw [he _ ‹0› ‹0›,he k h.1 h.2]
 ·rfl
theorem rA (hc:lZ cmp r N s) {G:Array Nat×Nat×Nat->SF->Prop}:∀ (f:Nat) (p:Array Nat) (n q:Nat),PM N p->1<=n->n+f<=N->Dn r p n->q+1<=n->(∀ i,n - (q+1)<=i->i < n->Rk r p i=Rk r p (n - 1)) ->
  (∀ p' m q',PM N p'->n<=m->m<=n+f->Dn r p' m->q'+1<=m->(∀ i,m - (q'+1)<=i->i < m->Rk r p' i=Rk r p' (m - 1))->G (p',m,q') s)->(kas_desc f p n q).kasWp cmp G s
 | 0,p,n,q,hp,_,_,d,hq,he,h=>h p n q hp (Ow _) (Ow _) d hq he
 | f+1,p,n,q,hp,h1,h2,d,hq,he,h=>by
  have hs:=hp.size
  have step:∀ p',(∀ k,Rk r p' k=Rk r p k)->Rk r p n<=Rk r p (n - 1)->Dn r p' (n+1):=fun p' hk hl i j hij hj=>by
   rw [hk,hk]
   by_cases hjn:j < n
   ·exact d i j hij hjn
   ·have ej:j=n:=by omega
    subst ej
    by_cases ei:i=j
    ·subst ei; exact Ow _
    ·have:=d i (j - 1) ‹0› ‹0›
     omega
  refine hc _ _ _ (hp.lt ‹0›) (hp.lt ‹0›) ?_
  by_cases q1:Rk r p n < Rk r p (n - 1)
  ·rw [decide_eq_true q1]; dsimp only; rw [if_pos rfl]
   by_cases hq0:q > 0
   ·rw [if_pos hq0]
    refine rA hc f _ (n+1) 0 (hp.rev _ _) ‹0› ‹0› (step _ (EY ‹0› hq he) ‹0›) ‹0› (fun i a b=>by rw [show i=n+1 - 1 by omega]) fun p' m q' a b c=>h p' m q' a ‹0› ‹0›
   ·rw [if_neg hq0]
    refine rA hc f _ (n+1) 0 hp ‹0› ‹0› (step _ (fun _=>rfl) ‹0›) ‹0› (fun i a b=>by rw [show i=n+1 - 1 by omega]) fun p' m q' a b c=>h p' m q' a ‹0› ‹0›
  ·rw [decide_eq_false q1]; dsimp only; rw [if_neg Ot]
   refine hc _ _ _ (hp.lt ‹0›) (hp.lt ‹0›) ?_
   by_cases q2:Rk r p (n - 1) < Rk r p n
   ·rw [decide_eq_true q2]; dsimp only; rw [if_pos rfl]
    exact h p n q hp (Ow _) ‹0› d hq he
   ·rw [decide_eq_false q2]; dsimp only; rw [if_neg Ot]
    refine rA hc f _ (n+1) (q+1) hp ‹0› ‹0› (step _ (fun _=>rfl) ‹0›) ‹0› (fun i a b=>?_) fun p' m q' a b c=>h p' m q' a ‹0› ‹0›
    rw [show n+1 - 1=n by omega]
    by_cases ei:i=n
    ·subst ei; rfl
    ·have:=he i ‹0› ‹0›
     omega
theorem yh (hc:lZ cmp r N s) {p:Array Nat} (hp:PM N p) {n:Nat} (h1:1<=n) (hn:n<=N) (d:Dn r p n) {G:Nat×Array Nat->SF->Prop} (h:∀ m p',PM N p'->1<=m->m<=N->Up r p' m->G (m,p') s):(kas_tail3 n N p).kasWp cmp G s:=by
 unfold kas_tail3
 rw [KasT.kasWp_bind]
 have hs:=hp.size
 refine Ai hc (hp.rev 0 n) _ _ h1 ‹0› (fun i j hij hj=>?_) fun m a b u _=>h m _ (hp.rev 0 n) ‹0› ‹0› u
 rw [wa ‹0›,wa ‹0›,if_pos ‹0›,if_pos ‹0›]
 exact d _ _ ‹0› ‹0›
theorem qw (hc:lZ cmp r N s) {p:Array Nat} (hp:PM N p) {n:Nat} (hn:n+1<=N) (d:Dn r p (n+1)) {G:Nat×Array Nat->SF->Prop} (h:∀ m p',PM N p'->1<=m->m<=N->Up r p' m->G (m,p') s):(kas_descPart n N p).kasWp cmp G s:=by
 unfold kas_descPart
 rw [KasT.kasWp_bind]
 refine rA hc _ _ _ _ hp ‹0› ‹0› d ‹0› (fun i a b=>by rw [show i=n+1 - 1 by omega]) fun p' m q' hp' a b d' hq he=>?_
 have hs:=hp'.size
 dsimp only
 by_cases hq0:q' > 0
 ·rw [if_pos hq0]
  refine yh hc (hp'.rev _ _) ‹0› ‹0› (fun i j hij hj=>?_) h
  rw [EY ‹0› hq he,EY ‹0› hq he]
  exact d' i j hij hj
 ·rw [if_neg hq0]
  exact yh hc hp' ‹0› ‹0› d' h
theorem DA (hc:lZ cmp r N s) (h1:1<=N) {p:Array Nat} (hp:PM N p) {G:Nat×Array Nat->SF->Prop} (h:∀ m p',PM N p'->1<=m->m<=N->Up r p' m->G (m,p') s):(kas_count N p).kasWp cmp G s:=by
 unfold kas_count
 rw [KasT.kasWp_bind]
 have hs:=hp.size
 refine Ai hc hp _ _ (Ow _) ‹0› (fun i j hij hj=>by rw [show i=j by omega]; exact Ow _) fun n a b u hor=>?_
 by_cases hn:n=N
 ·rw [if_pos (by simpa using hn)]
  exact h n p hp a ‹0› u
 ·rw [if_neg (by simpa using hn)]
  have hlt:Rk r p n < Rk r p (n - 1):=by
   rcases hor with z | z
   ·omega
   ·exact z
  by_cases hg:n > 1
  ·rw [if_pos hg]
   refine hc _ _ _ (hp.lt ‹0›) (hp.lt ‹0›) ?_
   by_cases q:Rk r p 0 < Rk r p (n - 1)
   ·rw [decide_eq_true q]; dsimp only; rw [if_pos rfl]
    exact h n p hp a ‹0› u
   ·rw [decide_eq_false q]; dsimp only; rw [if_neg Ot]
    have hall:∀ k,k < n->Rk r p k=Rk r p (n - 1):=fun k hk=>by
     have a1:=u 0 k ‹0› hk
     have a2:=u k (n - 1) ‹0› ‹0›
     omega
    have hr:∀ k,Rk r (kas_rev p 0 n) k=Rk r p k:=fun k=>by
     rw [wa ‹0›]
     split
     ·rename_i z
      rw [hall _ ‹0›,hall k z.2]
     ·rfl
    refine qw hc (hp.rev _ _) ‹0› (fun i j hij hj=>?_) h
    rw [hr,hr]
    by_cases hjn:j < n
    ·rw [hall i ‹0›,hall j hjn]; exact Ow _
    ·have ej:j=n:=by omega
     subst ej
     by_cases ei:i=j
     ·subst ei; exact Ow _
     ·rw [hall i ‹0›]; omega
  ·rw [if_neg hg]
   have en:n=1:=by omega
   subst en
   refine qw hc hp ‹0› (fun i j hij hj=>?_) h
   by_cases ei:i=j
   ·subst ei; exact Ow _
   ·have e0:i=0:=by omega
    have e1:j=1:=by omega
    subst e0 e1
    exact Oh hlt
theorem sW (hc:lZ cmp r N s) {p:Array Nat} (hp:PM N p) {k:Nat} (hk:k < N) (u:Up r p k) {G:Nat->SF->Prop} (h:∀ l,l<=k->(∀ i,i < l->Rk r p i<=Rk r p k)->(∀ i,l<=i->i < k->Rk r p k < Rk r p i)->G l s) :
  ∀ (f l t:Nat),t - l<=f->l<=t->t<=k->(∀ i,i < l->Rk r p i<=Rk r p k)->(∀ i,t<=i->i < k->Rk r p k < Rk r p i)->(kas_place p k f l t).kasWp cmp G s
 | 0,l,t,a,b,c,d,e=>h l ‹0› d fun i x y=>e i ‹0› y
 | f+1,l,t,a,b,c,d,e=>by
  unfold kas_place
  by_cases hl:l>=t
  ·rw [if_pos hl]
   exact h l ‹0› d fun i x y=>e i ‹0› y
  ·rw [if_neg hl]
   refine hc _ _ _ (hp.lt hk) (hp.lt ‹0›) ?_
   by_cases q:Rk r p k < Rk r p ((l+t) / 2)
   ·rw [decide_eq_true q]; dsimp only; rw [if_pos rfl]
    refine sW hc hp hk u h f l ((l+t) / 2) ‹0› ‹0› ‹0› d fun i x y=>?_
    have:=u ((l+t) / 2) i x y
    omega
   ·rw [decide_eq_false q]; dsimp only; rw [if_neg Ot]
    refine sW hc hp hk u h f ((l+t) / 2+1) t ‹0› ‹0› ‹0› (fun i x=>?_) e
    have:=u i ((l+t) / 2) ‹0› ‹0›
    omega
theorem EX (hc:lZ cmp r N s) {G:Array Nat->SF->Prop} (h:∀ p,PM N p->Up r p N->G p s):∀ (f:Nat) (p:Array Nat) (k:Nat),PM N p->k+f=N->Up r p k->(kas_bin f p k).kasWp cmp G s
 | 0,p,k,hp,e,u=>h p hp (by rw [<- e]; exact u)
 | f+1,p,k,hp,e,u=>by
  unfold kas_bin
  rw [KasT.kasWp_bind]
  have hs:=hp.size
  refine sW hc hp ‹0› u (fun l hl d e'=>?_) k 0 k ‹0› (OH _) (Ow _) (fun i x=>by omega) fun i x y=>by omega
  refine EX hc h f _ (k+1) ((bubble_perm p k _).trans hp) ‹0› fun i j hij hj=>?_
  rw [DJ ‹0› ‹0›,DJ ‹0› ‹0›,show k - (k - l)=l by omega]
  have U:=u
  by_cases i1:i=l
  ·rw [if_pos i1]
   by_cases j1:j=l
   ·rw [if_pos j1]; exact Ow _
   ·rw [if_neg j1,if_pos ‹0›]
    exact Oh (e' (j - 1) ‹0› ‹0›)
  ·rw [if_neg i1]
   by_cases i2:l < i/\i<=k
   ·rw [if_pos i2,if_neg ‹0›,if_pos ‹0›]
    exact U _ _ ‹0› ‹0›
   ·rw [if_neg i2]
    by_cases j1:j=l
    ·rw [if_pos j1]; exact d i ‹0›
    ·rw [if_neg j1]
     by_cases j2:l < j/\j<=k
     ·rw [if_pos j2]
      exact U _ _ ‹0› ‹0›
     ·rw [if_neg j2]
      exact U _ _ hij ‹0›
theorem AY (hc:lZ cmp r N s) (h2:1<=N) {G:Array Nat->SF->Prop} (h:∀ p,PM N p->Up r p N->G p s):(kas_sort N).kasWp cmp G s:=by
 unfold kas_sort
 rw [KasT.kasWp_bind]
 refine DA hc h2 (Array.Perm.refl _) fun m p' hp a b u=>?_
 dsimp only
 by_cases hm:m < N
 ·rw [if_pos hm,show max m 1=m by omega]
  exact EX hc h _ p' m hp ‹0› u
 ·rw [if_neg hm]
  exact h p' hp (by rw [show N=m by omega]; exact u)
end
section
variable {prog:Ss} {w:Sr} {A:SE} {E:Sq->SF->Prop} {s:SF}
theorem uj {a:Su} {vs:List Sq} {n:Nat} {P:PySem.Fin->SF->Prop} {κ:T5} {r:Nat->Nat} (ho:s.heap.get? a=some (seqObj "list" vs.toArray n)) (h64:vs.length < 64)
  (hk:2<=vs.length->∀ h':Sw,(∀ b o,b≠a->s.heap.get? b=some o->h'.get? b=some o)->∀ (Q:T5->SF->Prop),Q κ { s with heap:=h' }->SH (model prog w) A (keyKind' vs.toArray) Q E { s with heap:=h' })
  (hr:2<=vs.length->∀ h':Sw,(∀ b o,b≠a->s.heap.get? b=some o->h'.get? b=some o)->lZ (T6 prog w A κ vs) r vs.length { s with heap:=h' })
  (h:∀ p:Array Nat,PM vs.length p->Up r p vs.length->P (.done (.ret .none)) { s with heap:=sortedHeap s.heap a vs (List.toArray (p.toList.map fun i=>vs.getD i Value.none)) }) :
  SH (model prog w) A (Builtin.«list.sort» ⟨[.ref a],[]⟩) P E s:=by
 rw [list_sort_plain]
 have ha:a < s.heap.objs.size:=RK ho
 refine SZ (listItems_at ho rfl ?_)
 refine SZ (T7 ho rfl ?_ (by rw [Oy,Ta]; omega) (OH _))
 obtain⟨e1,ho1⟩:∃ e1,(s.heap.update a (Obj.mapSeq fun _=>(#[]:Array Sq))).get? a=some (seqObj "list" #[] e1):=⟨_,T8 ho (fun _=>#[])⟩
 refine SZ (T9 ho1 rfl ?_)
 refine SZ (T3 ?_ (by show vs.length<=_; rw [Ta]; omega))
 refine SZ (Ua ?_ (OH _))
 refine S0 ?_
 have ho6:(((s.heap.update a (Obj.mapSeq fun _=>(#[]:Array Sq))).push (seqObj "tuple" vs.toArray 0)).push (seqObj "list" #[] 0)).get? a=some (seqObj "list" #[] e1):=by
  rw [RU _ _ _ (by rw [size_push',RV]; exact Of (Pq ha)),RU _ _ _ (by rw [RV]; exact Of ha)]
  exact ho1
 have kept:∀ b o,b≠a->s.heap.get? b=some o->(((s.heap.update a (Obj.mapSeq fun _=>(#[]:Array Sq))).push (seqObj "tuple" vs.toArray 0)).push (seqObj "list" #[] 0)).get? b=some o:=fun b o hb e =>
  RN _ (RN _ (by rw [RW _ _ _ _ hb]; exact e))
 show SH (model prog w) A _ P E { s with heap:=((s.heap.update a (Obj.mapSeq fun _=>(#[]:Array Sq))).push (seqObj "tuple" vs.toArray 0)).push (seqObj "list" #[] 0) }
 dsimp only
 have hsz:vs.toArray.size=vs.length:=by simp
 by_cases h2:vs.toArray.size < 2
 ·rw [if_pos h2,if_pos h2]
  refine SZ (S6 ?_)
  rw [StateT.run_pure]
  refine SZ (S6 ?_)
  dsimp only
  refine SZ (T9 ho6 rfl ?_)
  have hout:(arrOf (SortSt.mk' general' (vs.toArray.zip vs.toArray) #[] 7 none)).map (·.2)=List.toArray ((List.toArray (List.range vs.length)).toList.map fun i=>vs.getD i Value.none):=by
   refine kat_snds rfl ?_
   show vs.toArray.zip vs.toArray=_
   have e:=kas_range (vs.toArray.zip vs.toArray)
   rw [show (vs.toArray.zip vs.toArray).size=vs.length by simp] at e
   exact e.symm
  rw [hout]
  refine SZ (T7 ho6 rfl ?_ (OH _) (by rw [Oy,OC,Ta]; simp; omega))
  simp only [bne_self_eq_false,Pp,if_false]
  refine S6 (h _ (Array.Perm.refl _) fun i j hij hj=>?_)
  have:i=j:=by omega
  subst this; exact Ow _
 ·rw [if_neg h2,if_neg h2]
  have h2':2<=vs.length:=by omega
  refine SZ (hk h2' _ kept _ ?_)
  refine SZ (SM (kat_run (Q:=fun st' s'=>∃ p:Array Nat,arrOf st'=p.map (kas_item (vs.toArray.zip vs.toArray))/\failedOf st'=none/\PM vs.length p/\Up r p vs.length/\s'={ s with heap:=((s.heap.update a (Obj.mapSeq fun _=>(#[]:Array Sq))).push (seqObj "tuple" vs.toArray 0)).push (seqObj "list" #[] 0) })
   (G:=fun p s'=>PM vs.length p/\Up r p vs.length/\s'={ s with heap:=((s.heap.update a (Obj.mapSeq fun _=>(#[]:Array Sq))).push (seqObj "tuple" vs.toArray 0)).push (seqObj "list" #[] 0) })
   rfl h2' h64 (fun p' st' s' a1 a2 a3 a4=>⟨p',a2,a3,a4.1,a4.2.1,a4.2.2⟩) (AY (hr h2' _ kept) ‹0› fun p hp hu=>⟨hp,hu,rfl⟩)) ?_ fun _ _ e=>e)
  rintro⟨⟨⟩,st'⟩ s' ⟨p,har,hf,hp,hu,rfl⟩
  dsimp only
  refine SZ (T9 ho6 rfl ?_)
  have hout:=kat_snds rfl har
  rw [hout]
  refine SZ (T7 ho6 rfl ?_ (OH _) (by rw [Oy,OC,Array.length_toList,hp.size,Ta]; omega))
  rw [hf]
  simp only [bne_self_eq_false,Pp,if_false]
  exact S6 (h p hp hu)
theorem tP {src:Sq} {vs:List Sq} {Q:Sq->SF->Prop} {κ:T5} {r:Nat->Nat} (h64:vs.length < 64)
  (hcol:∀ (Q':List Sq->SF->Prop),(∀ h' tk,(∀ b o,s.heap.get? b=some o->h'.get? b=some o)->Q' vs { s with heap:=h',toks:=tk })->SH (model prog w) A.in1 (collect src) Q' E s)
  (hk:2<=vs.length->∀ (h':Sw) (tk:Nat),(∀ b o,s.heap.get? b=some o->h'.get? b=some o)->∀ (Q:T5->SF->Prop),Q κ { s with heap:=h',toks:=tk }->SH (model prog w) A.in1.in1 (keyKind' vs.toArray) Q E { s with heap:=h',toks:=tk })
  (hr:2<=vs.length->∀ (h':Sw) (tk:Nat),(∀ b o,s.heap.get? b=some o->h'.get? b=some o)->lZ (T6 prog w A.in1.in1 κ vs) r vs.length { s with heap:=h',toks:=tk })
  (h:∀ (p:Array Nat) (h1 h':Sw) (l:Su) (e tk:Nat),PM vs.length p->Up r p vs.length->(∀ b o,s.heap.get? b=some o->h1.get? b=some o)->(∀ b o,h1.get? b=some o->h'.get? b=some o)->h1.objs.size<=l->h'.get? l=some (seqObj "list" (List.toArray (p.toList.map fun i=>vs.getD i Value.none)) e)->Q (.ref l) { s with heap:=h',toks:=tk }) :
  SH (model prog w) A (call (.builtin "sorted") [src]) Q E s:=by
 refine Calls.call_function_entry kind_sorted plain_sorted entry_sorted (args_sorted1 _) ?_
 unfold Builtin.«sorted»
 refine SZ (m:=checkCount "sorted" 1 1 _) (S6 ?_)
 refine SZ (hcol _ fun h1 tk k1=>?_)
 refine SZ (Ua ?_ (by rw [Ta]; omega))
 have hoL:(h1.push (seqObj "list" vs.toArray 0)).get? h1.objs.size=some (seqObj "list" vs.toArray 0):=RO _ rfl
 have k2:∀ b o,s.heap.get? b=some o->(h1.push (seqObj "list" vs.toArray 0)).get? b=some o:=fun b o e=>RN _ (k1 b o e)
 have ne:∀ b o,s.heap.get? b=some o->b≠h1.objs.size:=fun b o e=>Of (RK (k1 b o e))
 refine SZ (S0 (Tw slot_list_sort ⟨_,hoL,rfl⟩ entry_list_sort (uj (s:={ s with heap:=h1.push (seqObj "list" vs.toArray 0),toks:=tk }) (r:=r) (κ:=κ) hoL h64
  (fun h2 h' k=>hk h2 h' tk fun b o e=>k b o (ne b o e) (k2 b o e)) (fun h2 h' k=>hr h2 h' tk fun b o e=>k b o (ne b o e) (k2 b o e)) fun p hp hu=>⟨_,rfl,?_⟩) (args_list_sort _)))
 refine S6 ⟨_,rfl,?_⟩
 obtain⟨e,he⟩:=sortedHeap_at (vs:=vs) (out:=List.toArray (p.toList.map fun i=>vs.getD i Value.none)) hoL
 exact h p h1 _ h1.objs.size e tk hp hu k1 (fun b o q=>by rw [sortedHeap_old (Of (RK q)) (by rw [size_push']; exact Pq (RK q))]; exact RN _ q) (Ow _) he
end
def iH:D->List D
 | .tup ks=>ks
 | _=>[]
def oneOf (d:D):List D:=[d]
def JX (xs:List D):Prop:=xs.length < 64/\∃ σ:List Bool,σ≠[]/\(∀ x∈xs,∃ k,x=.tup k/\Sh σ k)/\xs.Pairwise fun x y=>iH x≠iH y
def J5 (xs:List D):Prop:=xs.length < 64/\∃ b:Bool,(∀ x∈xs,Sh [b] [x])/\xs.Pairwise fun x y=>oneOf x≠oneOf y
open Classical in
noncomputable def u9 (xs:List D):Option D:=if JX xs then some (.lst (lX iH xs)) else if J5 xs then some (.lst (lX oneOf xs)) else none
noncomputable def mQ:List D->Option D
 | [.lst xs]=>u9 xs
 | [.tup xs]=>u9 xs
 | _=>none
theorem jK {prog:Ss} {w:Sr} {A:SE} {s:SF} {Q:Bool->SF->Prop} {fin:Bool} (hf:fin=false):∀ {σ:List Bool} {ns ms:List D} {xs ys:List Sq} {i:Nat},Sh σ ns->Sh σ ms->gS xs ns->gS ys ms->Q (kLt ns ms) s->KatLex prog w A true fin Q (xs.zip ys) i s
 | _,_,_,_,_,i,.nil,.nil,.nil,.nil,h=>by
  subst hf
  exact kat_nil (by simpa [kLt,eI] using h)
 | _,_,_,_,_,i,.int a h1,.int c h2,.int _ t f1,.int _ u f2,h=>by
  rw [Qn]
  obtain⟨e,he,hiff⟩:=HF A s a t c u
  refine kat_cons (he prog w _ _ ?_)
  cases e with
  | true =>
   have ac:=hiff.mp rfl
   refine kat_yes (jK hf h1 h2 f1 f2 ?_)
   unfold kLt at h ⊢
   rw [sq,if_pos ac] at h
   exact h
  | false =>
   have ac:¬ a=c:=fun q=>absurd (hiff.mpr q) Ot
   have h':Q (decide (a < c)) s:=by
    unfold kLt at h
    rw [sq,if_neg ac] at h
    cases hd:decide (a < c) <;> rw [hd] at h <;> exact h
   refine kat_no ?_
   cases hi:(i==0) with
   | true=>exact oneLt_int h'
   | false=>exact kat_one _ _ (PySem.P.lt_int (show RC Q (.bool _) s from h'))
 | _,_,_,_,_,i,.str a h1,.str c h2,.str _ t f1,.str _ u f2,h=>by
  rw [Qn]
  obtain⟨e,he,hiff⟩:=Ht A s a t c u
  refine kat_cons (he prog w _ _ ?_)
  cases e with
  | true =>
   have ac:=hiff.mp rfl
   refine kat_yes (jK hf h1 h2 f1 f2 ?_)
   unfold kLt at h ⊢
   rw [rS,if_pos ac] at h
   exact h
  | false =>
   have ac:¬ a=c:=fun q=>absurd (hiff.mpr q) Ot
   have h':Q (decide (a.cps.toList < c.cps.toList)) s:=by
    unfold kLt at h
    rw [rS,if_neg ac] at h
    cases hd:decide (a.cps.toList < c.cps.toList) <;> rw [hd] at h <;> exact h
   refine kat_no ?_
   cases hi:(i==0) with
   | true=>exact oneLt_str h'
   | false=>exact kat_one _ _ (PySem.P.lt_str (show RC Q (.bool _) s from h'))
theorem nT {h:Sw} {PT:Sq->Prop}:∀ {its:List Sq},(∀ v∈its,∃ a o xs n f,v=.ref a/\h.get? a=some o/\o.cls=.type "tuple"/\o.data=.seq xs n/\xs[0]?=some f/\PT f)->∃ fs,KatTups h its fs/\fs.length=its.length/\∀ f∈fs,PT f
 | [],_=>⟨[],.nil,rfl,fun _ h=>nomatch h⟩
 | v::its,hh=>by
  obtain⟨a,o,xs,n,f,rfl,h1,h2,h3,h4,h5⟩:=hh v Oj
  obtain⟨fs,k1,k2,k3⟩:=nT (its:=its) fun u hu=>hh u (Ol _ hu)
  refine⟨f::fs,.cons h1 h2 h3 h4 k1,by rw [OA,OA,k2],fun g hg=>?_⟩
  rcases List.mem_cons.mp hg with rfl | z
  ·exact h5
  ·exact k3 g z
theorem gS.first {σ:List Bool} {b:Bool} {xs:List Sq} {ns:List D} (f:gS xs ns) (h:Sh (b::σ) ns):∃ v,xs[0]?=some v/\typeOf v=pure (.type (if b then "int" else "str")):=by
 cases f with
 | nil=>cases h
 | int i t f=>cases h; exact⟨_,rfl,rfl⟩
 | str i t f=>cases h; exact⟨_,rfl,rfl⟩
theorem qv {key:D->List D} {σ:List Bool} {ds:List D} (h:∀ x∈ds,Sh σ (key x)) (pw:ds.Pairwise fun x y=>key x≠key y) {p:Array Nat} (hp:PM ds.length p) (hu:Up (rank (ds.map key)) p ds.length):p.toList.map (fun i=>ds.getD i .non)=lX key ds:=by
 have hr:p.toList.Perm (List.range ds.length):=by
  have:=Array.perm_iff_toList_perm.mp hp
  simpa using this
 have hmap:(List.range ds.length).map (fun i=>ds.getD i .non)=ds:=by
  apply List.ext_getElem
  ·simp
  ·intro i h1 h2
   simp at h1
   simp [h1]
 have hperm:(p.toList.map fun i=>ds.getD i .non).Perm ds:=by
  have:=hr.map (fun i=>ds.getD i .non)
  rwa [hmap] at this
 have hn:p.toList.Nodup:=hr.nodup_iff.mpr List.nodup_range
 refine(yU h pw ?_ hperm).symm
 have hl:p.toList.length=ds.length:=by rw [hr.length_eq,P4]
 have kd:∀ i,i < ds.length->(ds.map key).getD i []=key (ds.getD i .non):=fun i hi=>by simp [hi]
 have hsh:∀ k∈ds.map key,Sh σ k:=fun k hk=>by
  obtain⟨x,hx,rfl⟩:=List.mem_map.mp hk
  exact h x hx
 unfold yB
 rw [QB,List.pairwise_iff_getElem]
 intro i j hi hj hij
 have hi':p.toList[i] < ds.length:=by simpa using hr.mem_iff.mp (QA hi)
 have hj':p.toList[j] < ds.length:=by simpa using hr.mem_iff.mp (QA hj)
 have ne:p.toList[i]≠p.toList[j]:=List.pairwise_iff_getElem.mp hn i j hi hj hij
 have up:=hu i j ‹0› ‹0›
 have gi:p.getD i 0=p.toList[i]:=by
  have:i < p.size:=by rw [<- Array.length_toList]; exact hi
  simp [Array.getD,this]
 have gj:p.getD j 0=p.toList[j]:=by
  have:j < p.size:=by rw [<- Array.length_toList]; exact hj
  simp [Array.getD,this]
 unfold Rk at up
 rw [gi,gj] at up
 have rl:=qR hsh (i:=p.toList[j]) (j:=p.toList[i]) (by rw [OC]; exact hj') (by rw [OC]; exact hi')
 rw [kd _ hj',kd _ hi',decide_eq_false ‹0›] at rl
 have ei:ds.getD p.toList[i] .non=ds[p.toList[i]]:=by rw [QC,PJ hi']; rfl
 have ej:ds.getD p.toList[j] .non=ds[p.toList[j]]:=by rw [QC,PJ hj']; rfl
 have s1:=h _ (show ds.getD p.toList[i] .non∈ds by rw [ei]; exact QA hi')
 have s2:=h _ (show ds.getD p.toList[j] .non∈ds by rw [ej]; exact QA hj')
 rcases jv s1 s2 with ⟨z,_⟩ | z | ⟨z,_⟩
 ·exact z
 ·exfalso
  have pw':=List.pairwise_iff_getElem.mp pw
  rw [ei,ej] at z
  rcases QD ne with q | q
  ·exact pw' _ _ hi' hj' q z
  ·exact pw' _ _ hj' hi' q z.symm
 ·rw [GO.mpr z] at rl; cases rl
theorem qd {vs:List V} {us:List Sq} (r:Vals vs us):∀ l:List Nat,(∀ i∈l,i < vs.length)->Vals (l.map fun i=>vs.getD i .non) (l.map fun i=>us.getD i Value.none)
 | [],_=>.nil
 | i::l,h=>by
  have hi:=h i Oj
  obtain⟨u,e,q⟩:=r.get (i:=i) (x:=vs[i]) (by simp [hi])
  refine .cons ?_ (qd r l fun j hj=>h j (Ol _ hj))
  have e1:vs.getD i .non=vs[i]:=by simp [hi]
  have e2:us.getD i Value.none=u:=by simp [QC,e]
  show L2.RelV (vs.getD i .non) (us.getD i Value.none)
  rw [e1,e2]; exact q
theorem p7 {K:Rf} {H:Hp} {ds:List D} {vs:List V} (g:bD K H ds vs):∀ l:List Nat,(∀ i∈l,i < ds.length)->bD K H (l.map fun i=>ds.getD i .non) (l.map fun i=>vs.getD i .non)
 | [],_=>cU.mpr rfl
 | i::l,h=>by
  have hi:=h i Oj
  obtain⟨v,e,q⟩:=g.get (i:=i) (d:=ds[i]) (by simp [hi])
  refine bP.mpr ⟨_,_,rfl,?_,p7 g l fun j hj=>h j (Ol _ hj)⟩
  have e1:ds.getD i .non=ds[i]:=by simp [hi]
  have e2:vs.getD i .non=v:=by simp [QC,e]
  show dj K H (ds.getD i .non) (vs.getD i .non)
  rw [e1,e2]; exact q
section
variable {X:Cx} {pins:List (Su×Obj)} {s:SF} {σ:L2.St} {H:Hp} {O:List Su}
theorem uE {u:Sq} {ds:List D} {vs:List V} {its:List Sq} {d:D} {Q:VK} (I:Inv X pins σ H s) (hO:eP H O) (dn:bD X.K (hid H O) ds vs) (rv:Vals vs its) (hs:u9 ds=some d)
  (hcol:∀ (Q':List Sq->SF->Prop),(∀ h' tk,(∀ b o,s.heap.get? b=some o->h'.get? b=some o)->Q' its { s with heap:=h',toks:=tk })->SH (model X.prog X.w) X.A.in1 (collect u) Q' X.xe s)
  (q:∀ v H',bS H H'->dj X.K (hid H' O) d v->Q v H'):SH (model X.prog X.w) X.A (call (.builtin "sorted") [u]) (EP X pins σ Q) X.xe s:=by
 have l1:=dn.length
 have l2:=rv.length
 have fin:∀ (key:D->List D) (σ':List Bool),(∀ x∈ds,Sh σ' (key x))->ds.Pairwise (fun x y=>key x≠key y)->ds.length < 64->d=.lst (lX key ds)->∀ (p:Array Nat) (h1 h':Sw) (l:Su) (e tk:Nat),PM its.length p->Up (rank (ds.map key)) p its.length->(∀ b o,s.heap.get? b=some o->h1.get? b=some o)->(∀ b o,h1.get? b=some o->h'.get? b=some o)->h1.objs.size<=l ->
   h'.get? l=some (seqObj "list" (List.toArray (p.toList.map fun i=>its.getD i Value.none)) e)->EP X pins σ Q (.ref l) { s with heap:=h',toks:=tk }:=by
  intro key σ' hsh pw h64 ed p h1 h' l e tk hp hu k1 k2 hl he
  have el:its.length=ds.length:=by omega
  rw [el] at hp hu
  have ps:=qv hsh pw hp hu
  have hr:p.toList.Perm (List.range ds.length):=by
   have:=Array.perm_iff_toList_perm.mp hp
   simpa using this
  have hlt:∀ i∈p.toList,i < ds.length:=fun i hi=>by simpa using hr.mem_iff.mp hi
  have I1:Inv X pins σ H { s with heap:=h1,toks:=tk }:=I.kept k1
  have hn:H l=none:=I1.hok.fresh hl
  have rv':=qd rv p.toList fun i hi=>by have:=hlt i hi; omega
  have dn':=p7 dn p.toList hlt
  have hlen:p.toList.length=ds.length:=by rw [hr.length_eq,P4]
  refine⟨.ref l,_,Inv.laid (s:={ s with heap:=h1,toks:=tk }) (t':=tk) I1 k2 hl (show dG X.prog X.w _ h' _ (.lst (p.toList.map fun i=>vs.getD i .non)) from ⟨by rw [OC,hlen,Ta]; omega,_,e,rv',he⟩),rfl,?_⟩
  refine q _ _ (cz hn _) ?_
  rw [ed,<- ps]
  exact eF hO hn dn'
 unfold u9 at hs
 split at hs
 ·rename_i h
  cases hs
  obtain⟨h64,σ',hσ,hsh,pw⟩:=h
  obtain⟨b,σ1,rfl⟩:∃ b σ1,σ'=b::σ1:=by
   cases σ' with
   | nil=>exact absurd rfl hσ
   | cons b σ1=>exact⟨b,σ1,rfl⟩
  have hsh':∀ x∈ds,Sh (b::σ1) (iH x):=fun x hx=>by
   obtain⟨k,rfl,hk⟩:=hsh x hx
   exact hk
  have at':∀ i (hi:i < ds.length),∃ a o xs n,its[i]?=some (.ref a)/\s.heap.get? a=some o/\o.cls=.type "tuple"/\o.data=.seq xs n/\gS xs.toList (iH ds[i]):=fun i hi=>by
   obtain⟨v,e1,dv⟩:=dn.get (i:=i) (d:=ds[i]) (by simp [hi])
   obtain⟨w,e2,rw'⟩:=rv.get e1
   obtain⟨k,ek,hk⟩:=hsh _ (QA hi)
   rw [ek] at dv ⊢
   obtain⟨a,ws,rfl,ha,dk⟩:=cS.mp dv
   cases rw'
   obtain⟨it2,r2,⟨o,ho,hc,n,hd⟩,_⟩:=I.tuple (cn (aY H O) ha)
   exact⟨a,o,_,n,e2,ho,hc,hd,by simpa [iH] using jZ (mJ hk) dk r2⟩
  refine tP (κ:=tuples' true) (r:=rank (ds.map iH)) ‹0› hcol (fun h2 h' tk kp Q' hQ=>?_) (fun h2 h' tk kp i j C hi hj hC=>?_) (fin iH _ hsh' pw h64 rfl)
  ·obtain⟨fs,t1,t2,t3⟩:=nT (h:=h') (PT:=fun f=>typeOf f=pure (.type (if b then "int" else "str"))) (its:=its) fun v hv=>by
    obtain⟨i,hi,rfl⟩:=PQ hv
    obtain⟨a,o,xs,n,e1,ho,hc,hd,ff⟩:=at' i ‹0›
    obtain⟨f,ef,tf⟩:=ff.first (hsh' _ (QA _))
    refine⟨a,o,xs,n,f,?_,kp _ _ ho,hc,hd,by simpa using ef,tf⟩
    have:=PJ hi
    rw [e1] at this
    exact(Option.some.inj this).symm
   refine kat_kind (T:=.type (if b then "int" else "str")) t1 ‹0› (fun f hf=>Looks.of_pure (t3 f hf)) (by cases b <;> rfl) ?_
   have:(Value.type (if b then "int" else "str") != Value.type "tuple")=true:=by cases b <;> rfl
   rw [this]; exact hQ
  ·obtain⟨a,o,xs,n,e1,ho,hc,hd,ff⟩:=at' i ‹0›
   obtain⟨a2,o2,xs2,n2,e2,ho2,hc2,hd2,ff2⟩:=at' j ‹0›
   unfold T6
   have g1:its.getD i Value.none=.ref a:=by simp [QC,e1]
   have g2:its.getD j Value.none=.ref a2:=by simp [QC,e2]
   rw [g1,g2]
   have hi':i < ds.length:=by omega
   have hj':j < ds.length:=by omega
   have sh1:=hsh' _ (QA hi')
   have sh2:=hsh' _ (QA hj')
   have rl:=qR (ks:=ds.map iH) (σ:=b::σ1) (fun k hk=>by obtain⟨x,hx,rfl⟩:=List.mem_map.mp hk; exact hsh' x hx) (i:=i) (j:=j) (by rw [OC]; exact hi') (by rw [OC]; exact hj')
   have k1:(ds.map iH).getD i []=iH ds[i]:=by simp [hi']
   have k2:(ds.map iH).getD j []=iH ds[j]:=by simp [hj']
   rw [k1,k2] at rl
   rw [rl] at hC
   refine kat_lt (kp _ _ ho) hd (kp _ _ ho2) hd2 (jK ?_ sh1 sh2 ff ff2 hC)
   have z1:xs.size=(iH ds[i]).length:=by have:=ff.length; simpa using this
   have z2:xs2.size=(iH ds[j]).length:=by have:=ff2.length; simpa using this
   have z3:(iH ds[i]).length=(iH ds[j]).length:=by rw [Sh.length sh1,Sh.length sh2]
   exact decide_eq_false ‹0›
 ·split at hs
  ·rename_i _ h
   cases hs
   obtain⟨h64,b,hsh,pw⟩:=h
   have at':∀ i (hi:i < ds.length),(∃ (n:Int) (t:Tok),b=true/\its[i]?=some (.int n t)/\ds[i]=.int n)\/∃ (x:Str) (t:Tok),b=false/\its[i]?=some (.str x t)/\ds[i]=.str x:=fun i hi=>by
    obtain⟨v,e1,dv⟩:=dn.get (i:=i) (d:=ds[i]) (by simp [hi])
    obtain⟨w,e2,rw'⟩:=rv.get e1
    have hk:=hsh _ (QA hi)
    generalize ds[i]=di at dv hk
    cases hk with
    | int n _ =>
     rw [gE] at dv; subst dv
     obtain⟨t,rfl⟩:=rw'
     exact .inl ⟨n,t,rfl,e2,rfl⟩
    | str x _ =>
     rw [gz] at dv; subst dv
     obtain⟨t,rfl⟩:=rw'
     exact .inr ⟨x,t,rfl,e2,rfl⟩
   refine tP (κ:=oneType') (r:=rank (ds.map oneOf)) ‹0› hcol (fun h2 h' tk kp Q' hQ=>?_) (fun h2 h' tk kp i j C hi hj hC=>?_) (fin oneOf [b] hsh pw h64 rfl)
   ·refine kas_kind (T:=.type (if b then "int" else "str")) h2 (fun v hv=>?_) (by cases b <;> rfl) (by cases b <;> rfl) hQ
    obtain⟨i,hi,rfl⟩:=PQ hv
    have hg:=PJ hi
    rcases at' i ‹0› with ⟨n,t,rfl,e,_⟩ | ⟨x,t,rfl,e,_⟩
    ·rw [hg] at e; rw [Option.some.inj e]; exact Looks.of_pure rfl
    ·rw [hg] at e; rw [Option.some.inj e]; exact Looks.of_pure rfl
   ·have hi':i < ds.length:=by omega
    have hj':j < ds.length:=by omega
    unfold T6
    have rl:=qR (ks:=ds.map oneOf) (σ:=[b]) (fun k hk=>by obtain⟨x,hx,rfl⟩:=List.mem_map.mp hk; exact hsh x hx) (i:=i) (j:=j) (by rw [OC]; exact hi') (by rw [OC]; exact hj')
    have k1:(ds.map oneOf).getD i []=[ds[i]]:=by simp [hi',oneOf]
    have k2:(ds.map oneOf).getD j []=[ds[j]]:=by simp [hj',oneOf]
    rw [k1,k2] at rl
    rw [rl] at hC
    rcases at' i hi' with ⟨n,t,hb,e1,q1⟩ | ⟨x,t,hb,e1,q1⟩
    ·rcases at' j hj' with ⟨n2,t2,hb2,e2,q2⟩ | ⟨x2,t2,hb2,e2,q2⟩
     ·have g1:its.getD i Value.none=.int n t:=by simp [QC,e1]
      have g2:its.getD j Value.none=.int n2 t2:=by simp [QC,e2]
      rw [g1,g2,keyLt'_oneType]
      refine oneLt_int ?_
      rw [q1,q2] at hC
      unfold kLt at hC
      rw [sq] at hC
      by_cases z:n=n2
      ·rw [if_pos z] at hC
       rw [decide_eq_false ‹0›]
       exact hC
      ·rw [if_neg z] at hC
       cases hd:decide (n < n2) <;> rw [hd] at hC <;> exact hC
     ·rw [hb] at hb2; cases hb2
    ·rcases at' j hj' with ⟨n2,t2,hb2,e2,q2⟩ | ⟨x2,t2,hb2,e2,q2⟩
     ·rw [hb] at hb2; cases hb2
     ·have g1:its.getD i Value.none=.str x t:=by simp [QC,e1]
      have g2:its.getD j Value.none=.str x2 t2:=by simp [QC,e2]
      rw [g1,g2,keyLt'_oneType]
      refine oneLt_str ?_
      rw [q1,q2] at hC
      unfold kLt at hC
      rw [rS] at hC
      by_cases z:x=x2
      ·rw [if_pos z] at hC
       rw [decide_eq_false (by rw [z]; exact tJ _)]
       exact hC
      ·rw [if_neg z] at hC
       cases hd:decide (x.cps.toList < x2.cps.toList) <;> rw [hd] at hC <;> exact hC
  ·cases hs
theorem wc:et X (.builtin "sorted") (zD X.K mQ):=by
 intro pins s σ H xs us Q I r ⟨O,ds,d,hO,hd,hg,q⟩
 unfold mQ at hg
 split at hg
 ·obtain⟨v,rfl,h1⟩:=hd.one
  obtain⟨p,ws,rfl,g1,g2⟩:=cT.mp h1
  obtain⟨u,rfl,ru⟩:=vals1 r
  cases ru
  obtain⟨its,rv,pl,hz⟩:=I.list ((aY H O).seq g1)
  have hlen:=rv.length
  obtain⟨o,ho,hc,n,hd'⟩:=pl.isList
  exact uE I hO g2 rv hg (fun Q' hQ=>Ub p (.inl rfl) ho hc hd' (fun h' k=>by simpa using hQ h' s.toks k) (by simp only [Oy] <;> omega)) q
 ·obtain⟨v,rfl,h1⟩:=hd.one
  obtain⟨p,ws,rfl,g1,g2⟩:=cS.mp h1
  obtain⟨u,rfl,ru⟩:=vals1 r
  cases ru
  obtain⟨its,rv,⟨o,ho,hc,n,hd'⟩,hz⟩:=I.tuple (cn (aY H O) g1)
  have hlen:=rv.length
  exact uE I hO g2 rv hg (fun Q' hQ=>Ub p (.inr rfl) ho hc hd' (fun h' k=>by simpa using hQ h' s.toks k) (by simp only [Oy] <;> omega)) q
 ·cases hg
end
end TG
namespace TG
open PySem PySem.Spec L2
variable [bp]
section
variable {X:Cx} {tg:SJ}
end
end TG
namespace TG
open PySem PySem.Spec L2
variable [bp]

end TG
namespace TG
open PySem PySem.Spec L2
variable [bp]
end TG
namespace TG
open PySem PySem.Spec L2
variable [bp]
def keyOf:D->Option Key
 | .int i=>some (.inl i)
 | .str x=>some (.inr x)
 | _=>none
def keysOf:List D->Option (List Key)
 | []=>some []
 | d::r=>(keyOf d).bind fun k=>(keysOf r).map (k::·)
def oQ:D->Option (List Key)
 | .tup ds=>keysOf ds
 | _=>none
theorem Ew {d:D} {k:Key} (h:keyOf d=some k):d=fH k:=by
 cases d with
 | int i=>cases h; rfl
 | str x=>cases h; rfl
 | _=>cases h
theorem uD:∀ {ds:List D} {ks:List Key},keysOf ds=some ks->ds=ks.map fH
 | [],_,h=>by cases h; rfl
 | d::r,ks,h=>by
  unfold keysOf at h
  cases e1:keyOf d with
  | none=>rw [e1] at h; cases h
  | some k =>
   rw [e1] at h
   cases e2:keysOf r with
   | none=>rw [e2] at h; cases h
   | some ks'=>rw [e2] at h; cases h; rw [Ew e1,uD e2]; rfl
theorem xE {d:D} {k:List Key} (h:oQ d=some k):d=.tup (k.map fH):=by
 cases d with
 | tup ds=>rw [uD (show keysOf ds=some k from h)]
 | _=>cases h
theorem eZ:∀ ks:List Key,keysOf (ks.map fH)=some ks
 | []=>rfl
 | k::r=>by
  show (keyOf (fH k)).bind _=_
  have e:keyOf (fH k)=some k:=by cases k <;> rfl
  rw [e]
  show (keysOf (r.map fH)).map (k::·)=_
  rw [eZ r]; rfl
theorem EW {K:Rf} {H:Hp} {k:Key} {v:V} (h:dj K H (fH k) v):v=kV k:=by
 cases k with
 | inl i=>exact gE.mp h
 | inr x=>exact gz.mp h
theorem pT {K:Rf} {H:Hp}:∀ {ks:List Key} {vs:List V},bD K H (ks.map fH) vs->vs=ks.map kV
 | [],vs,h=>by rw [O7,cU] at h; exact h
 | k::r,vs,h=>by
  rw [OB,bP] at h
  obtain⟨v,r',e1,h1,h2⟩:=h
  rw [e1,EW h1,pT h2]; rfl
section
variable {P:Ss} {w:Sr} {H H':Hp} {h:Sw} {a:Su}
theorem Do (x:dG P w H h a (.dK [])):dG P w H' h a (.dT []):=by
 obtain⟨z,hd,vs,rel,o,es,ep,h1,h2,h3,h4,h5,h6⟩:=x
 have e:vs=[]:=by have:=rel.length; simpa using this.symm
 subst e
 refine⟨OH _,hd,[],.nil,o,es,ep,h1,h2,h3,?_,by simp⟩
 have:=h5.length
 simpa using this
theorem DU (x:dG P w H h a (.dT [])):dG P w H' h a (.dK []):=by
 obtain⟨z,hd,xs,rel,o,es,ep,h1,h2,h3,h4,h5⟩:=x
 have e:xs=[]:=by have:=rel.length; simpa using this.symm
 subst e
 have e2:es=#[]:=by simpa using h4
 subst e2
 exact⟨OH _,hd,[],.nil,o,#[],ep,h1,h2,h3,fun e he=>by simp at he,.nil,by simp⟩
end
section
variable {X:Cx} {pins:List (Su×Obj)} {σ:St} {H:Hp} {s:SF} {a:Su}
theorem Ms (I:Inv X pins σ H s) (h1:H a=some (.dK [])):Inv X pins σ (upd H a (.dT [])) s:=by
 have hx:=I.hok a _ h1
 have hq:∃ q,s.heap.get? a=some q:=by obtain⟨_,_,_,_,o,_,_,e,_⟩:=id hx; exact⟨o,e⟩
 exact Bn (ob:=.dT []) (h':=s.heap) (t':=s.toks) I (by rw [h1]; exact trivial) ⟨rfl,fun _ _=>rfl⟩ hq (Do hx)
theorem MY (I:Inv X pins σ H s) (h1:H a=some (.dT [])):Inv X pins σ (upd H a (.dK [])) s:=by
 have hx:=I.hok a _ h1
 have hq:∃ q,s.heap.get? a=some q:=by obtain⟨_,_,_,_,o,_,_,e,_⟩:=id hx; exact⟨o,e⟩
 exact Bn (ob:=.dK []) (h':=s.heap) (t':=s.toks) I (by rw [h1]; exact trivial) ⟨rfl,fun _ _=>rfl⟩ hq (DU hx)
end
theorem Ez {H:Hp} {a:Su} {o1 o2:HO} (h:H a=some o1):upd (upd H a o2) a o1=H:=by
 funext b
 by_cases e:b=a
 ·subst e; rw [cg,h]
 ·rw [bF e,bF e]
def xI:List D->List D->Option (List (List Key×D))
 | [],[]=>some []
 | k::ks,d::ds=>(oQ k).bind fun k=>(xI ks ds).map ((k,d)::·)
 | _,_=>none
abbrev encK (al:List (List Key×D)):List D:=al.map fun p=>.tup (p.1.map fH)
abbrev vP (al:List (List Key×D)):D:=.dct (encK al) (al.map (·.2))
theorem A4:∀ {ks ds:List D} {al:List (List Key×D)},xI ks ds=some al->ks=encK al/\ds=al.map (·.2)
 | [],[],_,h=>by cases h; exact⟨rfl,rfl⟩
 | k::ks,d::ds,al,h=>by
  unfold xI at h
  cases e1:oQ k with
  | none=>rw [e1] at h; cases h
  | some k' =>
   rw [e1] at h
   cases e2:xI ks ds with
   | none=>rw [e2] at h; cases h
   | some al' =>
    rw [e2] at h; cases h
    obtain⟨h1,h2⟩:=A4 e2
    rw [xE e1,h1,h2]; exact⟨rfl,rfl⟩
 | [],_::_,_,h=>by cases h
 | _::_,[],_,h=>by cases h
theorem yH:∀ al:List (List Key×D),xI (encK al) (al.map (·.2))=some al
 | []=>rfl
 | p::r=>by
  show (oQ (.tup (p.1.map fH))).bind _=_
  have e:oQ (.tup (p.1.map fH))=some p.1:=eZ p.1
  rw [e]
  show (xI (encK r) (r.map (·.2))).map ((p.1,p.2)::·)=_
  rw [yH r]; rfl
theorem yw:∀ {al:List (List Key×D)} {ks:List (List Key)},encK al=ks.map (fun k=>.tup (k.map fH))->al.map (·.1)=ks
 | [],[],_=>rfl
 | p::r,k::ks,h=>by
  have h:D.tup (p.1.map fH)::encK r=D.tup (k.map fH)::ks.map (fun k=>.tup (k.map fH)):=h
  injection h with h1 h2
  injection h1 with h1
  have e:some p.1=some k:=by rw [<- eZ p.1,h1,eZ k]
  rw [OB,Option.some.inj e,yw h2]
 | [],_::_,h=>by cases h
 | _::_,[],h=>by cases h
theorem EH {kvs:List (List Key×V)} {ks:List (List Key)} (e:kvs.map (·.1)=ks) (k:List Key):(oW kvs k).isSome=ks.any fun q=>decide (q=k):=by
 subst e
 induction kvs with
 | nil=>rfl
 | cons p r ih =>
  rw [OB,O9,<- ih]
  by_cases e:p.1=k
  ·rw [oF e]; simp [e]
  ·rw [oj e]; simp [e]
def tG (ks ds:List D) (k:D):Option D:=(xI ks ds).bind fun al=>(oQ k).bind fun k=>some (.bl (al.any fun p=>decide (p.1=k)))
theorem Av {ks ds:List D} {k d:D} (h:tG ks ds k=some d):∃ al q,ks=encK al/\ds=al.map (·.2)/\k=.tup (q.map fH)/\d=.bl (al.any fun p=>decide (p.1=q)):=by
 unfold tG at h
 cases e1:xI ks ds with
 | none=>rw [e1] at h; cases h
 | some al =>
  rw [e1] at h
  cases e2:oQ k with
  | none=>rw [e2] at h; cases h
  | some q =>
   rw [e2] at h; cases h
   obtain⟨h1,h2⟩:=A4 e1
   exact⟨al,q,h1,h2,xE e2,rfl⟩
def sR (al:List (List Key×D)) (k:List Key) (v:D):List (List Key×D):=if (al.any fun p=>decide (p.1=k))=true then al.map (fun p=>if p.1=k then (p.1,v) else p) else al++[(k,v)]
theorem Fa {kvs:List (List Key×V)} {al:List (List Key×D)} (e:kvs.map (·.1)=al.map (·.1)) (k:List Key) (w:V) (d:D):(putK kvs k w).map (·.1)=(sR al k d).map (·.1):=by
 have e2:(kvs.any fun p=>decide (p.1=k))=(al.any fun p=>decide (p.1=k)):=by
  have:=congrArg (fun l=>l.any fun q=>decide (q=k)) e
  simpa [QE,Function.comp_def] using this
 unfold putK sR
 rw [e2]
 split
 ·have e3:∀ (l:List (List Key×V)),(l.map fun kv=>if kv.1=k then (kv.1,w) else kv).map (·.1)=l.map (·.1):=fun l=>by
   rw [QF]; refine PV fun p _=>?_
   show (if p.1=k then (p.1,w) else p).1=p.1
   split <;> rfl
  have e4:∀ (l:List (List Key×D)),(l.map fun kv=>if kv.1=k then (kv.1,d) else kv).map (·.1)=l.map (·.1):=fun l=>by
   rw [QF]; refine PV fun p _=>?_
   show (if p.1=k then (p.1,d) else p).1=p.1
   split <;> rfl
  rw [e3,e4,e]
 ·rw [PX,PX,e]; rfl
theorem zt {K:Rf} {H:Hp} {k:List Key} {w:V} {d:D} (hw:dj K H d w):∀ {kvs:List (List Key×V)} {al:List (List Key×D)},kvs.map (·.1)=al.map (·.1)->bD K H (al.map (·.2)) (kvs.map (·.2)) ->
  bD K H ((al.map fun p=>if p.1=k then (p.1,d) else p).map (·.2)) ((kvs.map fun p=>if p.1=k then (p.1,w) else p).map (·.2))
 | [],[],_,h=>h
 | p::r,q::r',e,h=>by
  rw [OB,OB] at e
  injection e with e1 e2
  rw [OB,OB,bP] at h
  obtain⟨v,ws,h0,h1,h2⟩:=h
  injection h0 with h0 h0'
  subst h0 h0'
  have ih:=zt (k:=k) hw e2 h2
  rw [OB,OB,OB,OB,bP]
  refine⟨_,_,rfl,?_,ih⟩
  rw [e1]
  split
  ·exact hw
  ·exact h1
 | [],_::_,e,_=>by cases e
 | _::_,[],e,_=>by cases e
theorem FZ {K:Rf} {H:Hp} {k:List Key} {w:V} {d:D} (hw:dj K H d w) {kvs:List (List Key×V)} {al:List (List Key×D)} (e:kvs.map (·.1)=al.map (·.1)) (h:bD K H (al.map (·.2)) (kvs.map (·.2))) :
  bD K H ((sR al k d).map (·.2)) ((putK kvs k w).map (·.2)):=by
 have e2:(kvs.any fun p=>decide (p.1=k))=(al.any fun p=>decide (p.1=k)):=by
  have:=congrArg (fun l=>l.any fun q=>decide (q=k)) e
  simpa [QE,Function.comp_def] using this
 unfold putK sR
 rw [e2]
 split
 ·exact zt hw e h
 ·rw [PX,PX]
  exact h.append (bP.mpr ⟨w,[],rfl,hw,cU.mpr rfl⟩)
theorem HY {kvs:List (List Key×V)} {al:List (List Key×D)} (e:kvs.map (·.1)=al.map (·.1)):encK al=kvs.map fun p=>D.tup (p.1.map fH):=by
 have:=congrArg (List.map fun k:List Key=>D.tup (k.map fH)) e
 rw [QF,QF] at this
 exact this.symm
end TG
namespace TG
open PySem PySem.Spec L2
variable [bp]
end TG
namespace TG
open PySem PySem.Spec PySem.W PySem.Calls PyProof.Rows Builtin Builtin.ObjectAttr Builtin.Getset_descriptor
variable [bp]
end TG
namespace TG
open PySem PySem.Spec L2
variable [bp]
open PyProof.Rows (AllBare OwnCls)
end TG
namespace TG
open PySem PySem.Spec L2
variable [bp]
end TG
namespace TG
open PySem PySem.Spec L2
variable [bp]
end TG
namespace TG
open PySem PySem.Spec L2
variable [bp]
end TG
namespace TG
open PySem PySem.Spec L2
def oz (P:Su) (pos:Pos) (q:Str):(Su->Prop)->Sw->Prop:=fun S h=>h.get? P=some (RD #[])\/∃ c,S c/\h.get? P=some (RD #[rawInt pos.line,rawInt pos.col,.ref c])/\h.CodeRec (.ref c) q
theorem oz.stay {P:Su} {pos:Pos} {q:Str} {S1 S2:Su->Prop} {h1 h2:Sw} (x:oz P pos q S1 h1) (s:∀ b,S1 b->S2 b) (k:∀ b o,(b=P\/S1 b)->h1.get? b=some o->h2.get? b=some o):oz P pos q S2 h2:=by
 rcases x with e | ⟨c,hc,e,c',o,vs,t,ec,e1,r⟩
 ·exact .inl (k _ _ (.inl rfl) e)
 ·cases ec
  exact .inr ⟨c,s c hc,k _ _ (.inl rfl) e,c,o,vs,t,rfl,k _ _ (.inr hc) e1,r⟩
theorem oz.ok {Pg:Ss} {w:Sr} {H:Hp} {h:Sw} {P:Su} {pos:Pos} {q:Str} (x:oz P pos q (fun b=>H b=some (.own P)) h):dG Pg w H h P (.ext (oz P pos q)) :=
 ⟨x,by rcases x with e | ⟨_,_,e,_⟩ <;> exact⟨_,e⟩,fun _ _ _ _ x s k=>x.stay s k⟩
abbrev wW (P:Su) (pos:Pos) (q:Str):bp:=⟨fun H=>H P=some (.ext (oz P pos q)),fun h e=>e _ _ h,fun {H p o o'} h hp m=>by
 rw [bF]
 ·exact h
 ·rintro rfl
  rw [h] at hp; cases hp; exact m⟩
end TG
namespace TG
open PySem PySem.Spec PyProof.Rows PySem.W L2
variable [bp]
def ut (key:List D) (h:Sw) (k:Sq):Prop:=∃ b o xs n,k=.ref b/\h.get? b=some o/\o.cls=.type "tuple"/\o.data=.seq xs n/\gS xs.toList key
theorem ut.keep {key:List D} {h h':Sw} {k:Sq} (x:ut key h k) (kp:∀ b o,h.get? b=some o->h'.get? b=some o):ut key h' k:=by
 obtain⟨b,o,xs,n,e,ho,r⟩:=x
 exact⟨b,o,xs,n,e,kp _ _ ho,r⟩
theorem ut.stay {key:List D} {h h':Sw} {k:Sq} {c:Su} {xs:Array Sq} {n:Nat} (x:ut key h k) (hc:h.get? c=some (seqObj "list" xs n)) (kp:∀ b o,b≠c->h.get? b=some o->h'.get? b=some o):ut key h' k:=by
 obtain⟨b,o,ys,m,e,ho,hk,r⟩:=x
 refine⟨b,o,ys,m,e,kp _ _ (fun z=>?_) ho,hk,r⟩
 subst z
 rw [hc] at ho
 cases ho
 revert hk
 show ¬ (Value.type "list"=Value.type "tuple")
 simp
section
variable {prog:Ss} {w:Sr} {A:SE} {E:Sq->SF->Prop} {s:SF}
theorem B4 {ks:List Sq} {keys:List (List D)} {σ:List Bool} {b:Bool} {Q:T5->SF->Prop} (hl:ks.length=keys.length) (hsh:∀ k∈keys,Sh (b::σ) k) (h1:1<=ks.length)
  (hk:∀ i,i < ks.length->ut (keys.getD i []) s.heap (ks.getD i Value.none)) (h:Q (tuples' true) s):SH (model prog w) A (keyKind' ks.toArray) Q E s:=by
 obtain⟨fs,t1,t2,t3⟩:=nT (h:=s.heap) (PT:=fun f=>typeOf f=pure (.type (if b then "int" else "str"))) (its:=ks) fun v hv=>by
  obtain⟨i,hi,rfl⟩:=PQ hv
  obtain⟨a,o,xs,n,e1,ho,hc,hd,ff⟩:=hk i hi
  have hi':i < keys.length:=by omega
  have gk:keys.getD i []=keys[i]:=by simp [hi']
  rw [gk] at ff
  obtain⟨f,ef,tf⟩:=ff.first (hsh _ (QA hi'))
  have gv:ks.getD i Value.none=ks[i]:=by simp [hi]
  rw [gv] at e1
  exact⟨a,o,xs,n,f,e1,ho,hc,hd,by simpa using ef,tf⟩
 refine kat_kind (T:=.type (if b then "int" else "str")) t1 ‹0› (fun f hf=>Looks.of_pure (t3 f hf)) (by cases b <;> rfl) ?_
 have:(Value.type (if b then "int" else "str") != Value.type "tuple")=true:=by cases b <;> rfl
 rw [this]; exact h
theorem zT {ks:List Sq} {keys:List (List D)} {σ:List Bool} {b:Bool} (hl:ks.length=keys.length) (hsh:∀ k∈keys,Sh (b::σ) k)
  (hk:∀ i,i < ks.length->ut (keys.getD i []) s.heap (ks.getD i Value.none)):lZ (T6 prog w A (tuples' true) ks) (rank keys) ks.length s:=by
 intro i j C hi hj hC
 obtain⟨a,o,xs,n,e1,ho,hc,hd,ff⟩:=hk i hi
 obtain⟨a2,o2,xs2,n2,e2,ho2,hc2,hd2,ff2⟩:=hk j hj
 unfold T6
 rw [e1,e2]
 have hi':i < keys.length:=by omega
 have hj':j < keys.length:=by omega
 have gi:keys.getD i []=keys[i]:=by simp [hi']
 have gj:keys.getD j []=keys[j]:=by simp [hj']
 have sh1:=hsh _ (QA hi')
 have sh2:=hsh _ (QA hj')
 have rl:=qR (ks:=keys) hsh hi' hj'
 rw [rl] at hC
 rw [gi] at ff
 rw [gj] at ff2
 rw [gi,gj] at hC
 refine kat_lt ho hd ho2 hd2 (jK ?_ sh1 sh2 ff ff2 hC)
 have z1:xs.size=keys[i].length:=by have:=ff.length; simpa using this
 have z2:xs2.size=keys[j].length:=by have:=ff2.length; simpa using this
 have z3:keys[i].length=keys[j].length:=by rw [Sh.length sh1,Sh.length sh2]
 exact decide_eq_false ‹0›
theorem Dm {f:Sq} {a:Su} {vs:List Sq} {n:Nat} {keys:List (List D)} {σ:List Bool} {b:Bool} {P:PySem.Fin->SF->Prop}
  (ho:s.heap.get? a=some (seqObj "list" vs.toArray n)) (h64:vs.length < 64) (hl:keys.length=vs.length) (hsh:∀ k∈keys,Sh (b::σ) k)
  (hc:∀ (i:Nat) (v:Sq) (h':Sw) (tk:Nat) (Q':Sq->SF->Prop),vs[i]?=some v->(∀ c o,c≠a->s.heap.get? c=some o->h'.get? c=some o) ->
   (∀ k h'' tk',(∀ c o,h'.get? c=some o->h''.get? c=some o)->ut (keys.getD i []) h'' k->Q' k { s with heap:=h'',toks:=tk' })->SH (model prog w) A (call f [v]) Q' (fun _ _=>False) { s with heap:=h',toks:=tk })
  (h:∀ (p:Array Nat) (h':Sw) (e tk:Nat),PM vs.length p->Up (rank keys) p vs.length->(∀ c o,c≠a->s.heap.get? c=some o->h'.get? c=some o)->h'.get? a=some (seqObj "list" (List.toArray (p.toList.map fun i=>vs.getD i Value.none)) e) ->
   P (.done (.ret .none)) { s with heap:=h',toks:=tk }):SH (model prog w) A (ksk_tree a f false) P E s:=by
 have ha:a < s.heap.objs.size:=RK ho
 obtain⟨e1,ho1⟩:∃ e1,(s.heap.update a (Obj.mapSeq fun _=>(#[]:Array Sq))).get? a=some (seqObj "list" #[] e1):=⟨_,T8 ho (fun _=>#[])⟩
 unfold ksk_tree
 refine SZ (listItems_at ho rfl ?_)
 refine SZ (T7 ho rfl ?_ (by rw [Oy,Ta]; omega) (OH _))
 refine SZ (T9 ho1 rfl ?_)
 refine SZ (T3 ?_ (by show vs.length<=_; rw [Ta]; omega))
 refine SZ (Ua ?_ (OH _))
 refine S0 ?_
 have hkS:((s.heap.update a (Obj.mapSeq fun _=>(#[]:Array Sq))).push (seqObj "tuple" vs.toArray 0)).objs.size=s.heap.objs.size+1:=by rw [size_push',RV]
 show SH (model prog w) A (ksk_rest a f false vs.toArray e1 (.ref ((s.heap.update a (Obj.mapSeq fun _=>(#[]:Array Sq))).push (seqObj "tuple" vs.toArray 0)).objs.size)) P E { s with heap:=((s.heap.update a (Obj.mapSeq fun _=>(#[]:Array Sq))).push (seqObj "tuple" vs.toArray 0)).push (seqObj "list" #[] 0) }
 rw [hkS]
 have hS0:(((s.heap.update a (Obj.mapSeq fun _=>(#[]:Array Sq))).push (seqObj "tuple" vs.toArray 0)).push (seqObj "list" #[] 0)).get? (s.heap.objs.size+1)=some (seqObj "list" #[] 0):=by rw [<- hkS]; exact RO _ rfl
 have hA0:(((s.heap.update a (Obj.mapSeq fun _=>(#[]:Array Sq))).push (seqObj "tuple" vs.toArray 0)).push (seqObj "list" #[] 0)).get? a=some (seqObj "list" #[] e1):=RN _ (RN _ ho1)
 have hK0:∀ b o,b≠a->s.heap.get? b=some o->(((s.heap.update a (Obj.mapSeq fun _=>(#[]:Array Sq))).push (seqObj "tuple" vs.toArray 0)).push (seqObj "list" #[] 0)).get? b=some o:=fun b o hb e =>
  RN _ (RN _ (by rw [RW _ _ _ _ hb]; exact e))
 have hne:a≠s.heap.objs.size+1:=Of (Pq ha)
 have hold:∀ c o,s.heap.get? c=some o->c≠s.heap.objs.size+1:=fun c o e=>Of (Pq (RK e))
 generalize (((s.heap.update a (Obj.mapSeq fun _=>(#[]:Array Sq))).push (seqObj "tuple" vs.toArray 0)).push (seqObj "list" #[] 0))=h0 at hS0 hA0 hK0
 generalize s.heap.objs.size+1=kS at hS0 hne hold
 unfold ksk_rest
 refine SZ (TL ?_)
 first
  | rw [List.forIn_toArray]
  | (rw [<- Array.forIn_toList]; simp only [QG])
  | rw [<- Array.forIn_toList]
 refine SZ (ksk_fold (fun i s'=>∃ (ks:List Sq) (e:Nat) (h':Sw) (tk:Nat),s'={ s with heap:=h',toks:=tk }/\ks.length=i/\i<=vs.length/\h'.get? kS=some (seqObj "list" (List.toArray ks) e)/\h'.get? a=some (seqObj "list" #[] e1) /\
  (∀ c o,c≠a->s.heap.get? c=some o->h'.get? c=some o)/\∀ j,j < i->ut (keys.getD j []) h' (ks.getD j Value.none)) vs 0 _ ⟨[],0,h0,s.toks,rfl,rfl,OH _,hS0,hA0,hK0,fun j hj=>absurd hj (Nat.not_lt_zero _)⟩ ?_ ?_)
 ·rintro j x s' hx ⟨ks,e,h',tk,rfl,hlen,hle,hS,hA,hK,hT⟩
  rw [Qm] at hlen hle hT
  have hj:j < vs.length:=by
   rcases QH j vs.length with z | z
   ·exact z
   ·rw [QI z] at hx; cases hx
  refine SZ (T4 (SM (hc j x h' tk (fun k s''=>∃ h'' tk',s''={ s with heap:=h'',toks:=tk' }/\(∀ c o,h'.get? c=some o->h''.get? c=some o)/\ut (keys.getD j []) h'' k) hx hK fun k h'' tk' kp tK=>⟨h'',tk',rfl,kp,tK⟩) (fun k s'' hk=>?_) fun _ _ hF=>hF.elim))
  obtain⟨h'',tk',rfl,kp,tK⟩:=hk
  have nk:=kp _ _ hS
  have s1:∀ c o,c≠kS->h''.get? c=some o->(h''.update kS (Obj.mapSeq (·.push k))).get? c=some o:=fun c o hc' e=>by rw [RW _ _ _ _ hc']; exact e
  have ea:(List.toArray ks).push k=List.toArray (ks++[k]):=by simp
  obtain⟨c2,hc2⟩:∃ c2,(h''.update kS (Obj.mapSeq (·.push k))).get? kS=some (seqObj "list" (List.toArray (ks++[k])) c2):=⟨_,by rw [<- ea]; exact T8 nk (·.push k)⟩
  try dsimp only
  refine SZ (T7 nk rfl ?_ (by rw [Oy,Ta]; omega) (Og (OD (Array.size_push ..)) (by rw [Oy,Ta]; omega)))
  refine S6 ⟨rfl,ks++[k],c2,_,tk',rfl,by rw [OW,O6]; omega,by omega,hc2,s1 _ _ hne (kp _ _ hA),fun c o h1 h2=>s1 _ _ (hold c o h2) (kp _ _ (hK c o h1 h2)),fun i hi=>?_⟩
  refine ut.stay (c:=kS) ?_ nk s1
  by_cases z:i=j
  ·subst z
   have:(ks++[k]).getD i Value.none=k:=by simp [QC,<- hlen]
   rw [this]; exact tK
  ·have hi':i < ks.length:=by omega
   have:(ks++[k]).getD i Value.none=ks.getD i Value.none:=by simp [QC,OQ hi']
   rw [this]; exact(hT i ‹0›).keep kp
 ·rintro s' ⟨ks,e,h',tk,rfl,hlen,hle,hS,hA,hK,hT⟩
  rw [Qm] at hlen hT
  try dsimp only
  refine SZ (listItems_at hS rfl ?_)
  have tail:∀ (p:Array Nat) (st:SortSt),(arrOf st).map (·.2)=List.toArray (p.toList.map fun i=>vs.getD i Value.none)->failedOf st=none->PM vs.length p->Up (rank keys) p vs.length->SH (model prog w) A (ksk_tail a false e1 (.ref kS) st) P E { s with heap:=h',toks:=tk }:=by
   intro p st hout hf hp hu
   obtain⟨ck,hck⟩:∃ ck,(h'.update kS (Obj.mapSeq fun _=>(#[]:Array Sq))).get? kS=some (seqObj "list" #[] ck):=⟨_,T8 hS fun _=>#[]⟩
   have hA2:(h'.update kS (Obj.mapSeq fun _=>(#[]:Array Sq))).get? a=some (seqObj "list" #[] e1):=by rw [RW _ _ _ _ hne]; exact hA
   obtain⟨c2,hc2⟩:∃ c2,((h'.update kS (Obj.mapSeq fun _=>(#[]:Array Sq))).update a (Obj.mapSeq fun _=>List.toArray (p.toList.map fun i=>vs.getD i Value.none))).get? a=some (seqObj "list" (List.toArray (p.toList.map fun i=>vs.getD i Value.none)) c2):=⟨_,T8 hA2 fun _=>List.toArray (p.toList.map fun i=>vs.getD i Value.none)⟩
   unfold ksk_tail
   try dsimp only
   rw [hout]
   refine SZ (T7 hS rfl ?_ (by rw [Oy,Ta]; omega) (OH _))
   refine SZ (T2 ?_)
   refine SZ (T9 hA2 rfl ?_)
   simp only [Pp,if_false]
   refine SZ (T7 hA2 rfl ?_ (OH _) (by rw [Oy,OC,Array.length_toList,hp.size,Ta]; omega))
   rw [hf]
   simp only [bne_self_eq_false,Pp,if_false]
   exact S6 (h p _ c2 tk hp hu (fun c o h1 h2=>by rw [RW _ _ _ _ h1,RW _ _ _ _ (hold c o h2)]; exact hK c o h1 h2) hc2)
  unfold ksk_end
  try dsimp only
  simp only [Pp,if_false]
  have hl2:ks.length=vs.length:=hlen
  by_cases h2:vs.toArray.size < 2
  ·rw [if_pos h2,if_pos h2]
   refine SZ (S6 ?_)
   rw [StateT.run_pure]
   refine SZ (S6 ?_)
   dsimp only
   refine tail (List.toArray (List.range vs.length)) _ ?_ rfl (Array.Perm.refl _) fun i j hij hj=>?_
   ·refine kat_snds hl2 ?_
    show (List.toArray ks).zip vs.toArray=_
    have e:=kas_range ((List.toArray ks).zip vs.toArray)
    rw [show ((List.toArray ks).zip vs.toArray).size=vs.length by simp [hl2]] at e
    exact e.symm
   ·have:vs.length < 2:=by simpa using h2
    have:i=j:=by omega
    subst this; exact Ow _
  ·have h2':2<=vs.length:=by
    have:¬ vs.length < 2:=by simpa using h2
    omega
   rw [if_neg h2,if_neg h2]
   refine SZ (B4 (s:={ s with heap:=h',toks:=tk }) ‹0› hsh ‹0› (fun i hi=>hT i ‹0›) ?_)
   refine SZ (SM (kat_run (Q:=fun st' s'=>∃ p:Array Nat,arrOf st'=p.map (kas_item ((List.toArray ks).zip vs.toArray))/\failedOf st'=none/\PM vs.length p/\Up (rank keys) p vs.length/\s'={ s with heap:=h',toks:=tk })
    (G:=fun p s'=>PM vs.length p/\Up (rank keys) p vs.length/\s'={ s with heap:=h',toks:=tk })
    hl2 h2' h64 (fun p' st' s' a1 a2 a3 a4=>⟨p',a2,a3,a4.1,a4.2.1,a4.2.2⟩) (by
     have:=zT (prog:=prog) (w:=w) (A:=A) (s:={ s with heap:=h',toks:=tk }) (ks:=ks) (keys:=keys) ‹0› hsh (fun i hi=>hT i ‹0›)
     rw [hl2] at this
     exact AY this ‹0› fun p hp hu=>⟨hp,hu,rfl⟩)) ?_ fun _ _ e=>e)
   rintro⟨⟨⟩,st'⟩ s' ⟨p,har,hf,hp,hu,rfl⟩
   dsimp only
   exact tail p st' (kat_snds hl2 har) hf hp hu
theorem y4 {src:Sq} {f:Su} {vs:List Sq} {keys:List (List D)} {σ:List Bool} {b:Bool} {Q:Sq->SF->Prop} (h64:vs.length < 64) (hl:keys.length=vs.length) (hsh:∀ k∈keys,Sh (b::σ) k)
  (hcol:∀ (Q':List Sq->SF->Prop),(∀ h' tk,(∀ b o,s.heap.get? b=some o->h'.get? b=some o)->Q' vs { s with heap:=h',toks:=tk })->SH (model prog w) A.in1 (collect src) Q' E s)
  (hc:∀ (i:Nat) (v:Sq) (h':Sw) (tk:Nat) (Q':Sq->SF->Prop),vs[i]?=some v->(∀ c o,s.heap.get? c=some o->h'.get? c=some o) ->
   (∀ k h'' tk',(∀ c o,h'.get? c=some o->h''.get? c=some o)->ut (keys.getD i []) h'' k->Q' k { s with heap:=h'',toks:=tk' })->SH (model prog w) A.in1.in1 (call (.ref f) [v]) Q' (fun _ _=>False) { s with heap:=h',toks:=tk })
  (h:∀ (p:Array Nat) (h1 h':Sw) (l:Su) (e tk:Nat),PM vs.length p->Up (rank keys) p vs.length->(∀ b o,s.heap.get? b=some o->h1.get? b=some o)->(∀ b o,h1.get? b=some o->h'.get? b=some o)->h1.objs.size<=l->h'.get? l=some (seqObj "list" (List.toArray (p.toList.map fun i=>vs.getD i Value.none)) e)->Q (.ref l) { s with heap:=h',toks:=tk }) :
  SH (model prog w) A (call (.builtin "sorted") [src] [(Str.ofString "key",.ref f)]) Q E s:=by
 refine PyProof.Rows.call_function_entry_kw kind_sorted plain_sorted entry_sorted (ksk_s1 _ _) ?_
 unfold Builtin.«sorted»
 refine SZ (m:=checkCount "sorted" 1 1 _) (S6 ?_)
 refine SZ (hcol _ fun h1 tk k1=>?_)
 refine SZ (Ua ?_ (by rw [Ta]; omega))
 have hoL:(h1.push (seqObj "list" vs.toArray 0)).get? h1.objs.size=some (seqObj "list" vs.toArray 0):=RO _ rfl
 have k2:∀ b o,s.heap.get? b=some o->(h1.push (seqObj "list" vs.toArray 0)).get? b=some o:=fun b o e=>RN _ (k1 b o e)
 have ne:∀ b o,s.heap.get? b=some o->b≠h1.objs.size:=fun b o e=>Of (RK (k1 b o e))
 refine SZ (S0 (wpAny_call_entry_kw slot_list_sort ⟨_,hoL,rfl⟩ entry_list_sort ?body (ksk_l1 _ _)))
 case body =>
  show SH (model prog w) A.in1.in1 (Builtin.«list.sort» ⟨[.ref h1.objs.size],[(Str.ofString "key",.ref f)]⟩) _ _ _
  rw [ksk_t1]
  refine Dm (s:={ s with heap:=h1.push (seqObj "list" vs.toArray 0),toks:=tk }) hoL h64 hl hsh (fun i v h' tk' Q' hv hk hq=>hc i v h' tk' Q' hv (fun c o e=>hk c o (ne c o e) (k2 c o e)) hq) fun p h' e tk' hp hu hk he=>⟨_,rfl,?_⟩
  refine S6 ⟨_,rfl,?_⟩
  exact h p h1 h' h1.objs.size e tk' hp hu k1 (fun b o q=>hk b o (Of (RK q)) (RN _ q)) (Ow _) he
end
end TG
namespace TG
open PySem PySem.Spec PyProof.Rows PySem.W L2
variable [bp]
abbrev cutE (row many:Str) (np mp p2 pos:Pos):SJ:=.Subscript (.Name row np) (.Slice none (some (.Name many mp)) none p2) pos
section
variable {prog:Ss} {w:Sr} {A:SE} {E:Sq->SF->Prop} {s:SF}
theorem EZ {env:Env} {row many:Str} {np mp p2 pos:Pos} {r c:Su} {items:Array Sq} {i:Int} {t:Tok} {m:Str->Option Sq} {Q:Sq->SF->Prop}
  (hk:env.scope.kind=.function) (hr:env.kindOf row=some .local) (hm:env.kindOf many=some .free) (hn:s.heap.Ns env.locals m) (hrow:m row=some (.ref r)) (hc:env.cells.lookup many=some c) (hcell:s.heap.IsCell c (some (.int i t)))
  (ht:Sy s.heap r items) (hz:items.size<=Sx) (d1:(row==("__debug__":Str))=false) (d2:(many==("__debug__":Str))=false) (d3:(many==("__classdict__":Str))=false)
  (h:∀ b h',(∀ c o,s.heap.get? c=some o->h'.get? c=some o)->Sy h' b (List.toArray (items.toList.take (HT.sIx items.size items.size (some i))))->Q (.ref b) { s with heap:=h' }) :
  SH (model prog w) A (eval (cutE row many np mp p2 pos) env) Q E s:=by
 refine Subscript_ (SN (wpAny_loadName_local hk hr hn hrow ?_) d1)
 refine TF ?_
 rw [TB,TC]
 refine S6 (SN (wpAny_loadName_free hk hm hc hcell ?_ d3) d2)
 refine S6 ?_
 have kp:∀ c o,s.heap.get? c=some o->(s.heap.push { cls:=.type "slice",data:=.fields #[.none,.int i t,.none] }).get? c=some o:=fun c o q=>RN _ q
 have ht':Sy (s.heap.push { cls:=.type "slice",data:=.fields #[.none,.int i t,.none] }) r items:=by
  obtain⟨o,e,q⟩:=ht
  exact⟨o,kp _ _ e,q⟩
 have hs:(s.heap.push { cls:=.type "slice",data:=.fields #[.none,.int i t,.none] }).IsSliceOf s.heap.objs.size .none (.int i t) .none:=Heap.IsSliceOf.new ..
 show SH (model prog w) A (subscriptTail (.Name row np) (.Slice none (some (.Name many mp)) none p2) (.ref r) (.ref s.heap.objs.size)) Q E { s with heap:=s.heap.push { cls:=.type "slice",data:=.fields #[.none,.int i t,.none] } }
 refine tail_any (ops:=[.ref s.heap.objs.size,.ref r]) ht'.typeIs slot_tuple_getitem.lookup ?_ (by with_unfolding_all rfl)
 by_cases hw:HT.sIx items.size 0 none=0/\HT.sIx items.size items.size (some i)=items.size
 ·refine iO (s:={ s with heap:=s.heap.push { cls:=.type "slice",data:=.fields #[.none,.int i t,.none] } }) ht' hs .none (.int i t) hw ?_
  refine h r _ kp ?_
  rw [hw.2]
  have:items.toList.take items.size=items.toList:=Qb (by simp)
  rw [this]
  simpa using ht'
 ·refine HT.BR (s:={ s with heap:=s.heap.push { cls:=.type "slice",data:=.fields #[.none,.int i t,.none] } }) ht' hs .none (.int i t) hw ?_ hz
  refine h _ _ (fun c o q=>RN _ (kp c o q)) ?_
  have e0:HT.sIx items.size 0 none=0:=rfl
  rw [e0,Py,P6]
  exact⟨_,RO _ rfl,rfl,_,rfl⟩
theorem E8 {f c' cc r:Su} {row many qual:Str} {params:To} {scope:SG} {np mp p2 pos:Pos} {pm ctv:Sq} {items:Array Sq} {i:Int} {t:Tok} {Q:Sq->SF->Prop}
  (hf:s.heap.get? f=some (Uc "<lambda>" qual params (cutE row many np mp p2 pos) scope [(many,cc)] pm c' ctv)) (hcd:s.heap.CodeRec (.ref c') qual) (hroom:A.depth < Tf) (hlim:s.heap.NoLimit)
  (hbind:∀ v,bindArgs (kla_fn "<lambda>" qual params (cutE row many np mp p2 pos) scope [(many,cc)] pm (.ref c') ctv) ⟨[v],[]⟩=pure [(row,v)])
  (hco:scope.isCoroutine=false) (hgen:scope.isGenerator=false) (hk:scope.kind=.function) (hno:∀ x∈scope.names,x.2≠.cell) (hr:scope.names.lookup row=some .local) (hm:scope.names.lookup many=some .free)
  (hcell:s.heap.IsCell cc (some (.int i t))) (ht:Sy s.heap r items) (hz:items.size<=Sx) (d1:(row==("__debug__":Str))=false) (d2:(many==("__debug__":Str))=false) (d3:(many==("__classdict__":Str))=false)
  (h:∀ b h' tk,(∀ c o,s.heap.get? c=some o->h'.get? c=some o)->Sy h' b (List.toArray (items.toList.take (HT.sIx items.size items.size (some i))))->Q (.ref b) { s with heap:=h',toks:=tk }) :
  SH (model prog w) A (call (.ref f) [.ref r]) Q E s:=by
 refine wpAny_call (kla_callFunE hroom hf rfl hco hgen rfl hcd ?_)
 rw [hbind]
 refine S6 (wpAny_newFunctionEnv hno (fun x hx=>?_) (fun h₁ hns hsb=>⟨hlim.fresh _ hsb,?_⟩) hk)
 ·rw [QJ] at hx
  subst hx
  exact hr
 ·show Tb _ _ (.expr (cutE row many np mp p2 pos) (envX qual scope s.heap.objs.size f (.ref c') [(many,cc)])) _ _
  have hk₁:∀ b o,s.heap.get? b=some o->h₁.get? b=some o:=fun b o e=>hsb.extBut b o (Of (RK e)) (RN _ e)
  refine kla_codeExpr (EZ (m:=fun x=>[(row,Value.ref r)].reverse.lookup x) (r:=r) (c:=cc) (t:=t) hk hr hm hns ?_ ?_ ?_ ?_ hz d1 d2 d3 fun b h' kp tb=>h b h' _ (fun c o e=>kp c o (hk₁ c o e)) tb)
  ·simp
  ·simp
  ·obtain⟨o,e,q⟩:=hcell
   exact⟨o,hk₁ _ _ e,q⟩
  ·obtain⟨o,e,q⟩:=ht
   exact⟨o,hk₁ _ _ e,q⟩
end
end TG
namespace TG
open PySem PySem.Spec PyProof.Rows PySem.W L2
variable [bp]
def BZ (mg:Str->Option Sq) (base:Sw) (c P:Su):Prop:=CodeHd base c P/\∃ bm ob,mg "__builtins__"=some (.ref bm)/\bm≠SA/\base.get? bm=some ob/\ob.cls=.type "module"/\ob.dict=some SA/\ob.data=.plain
section
variable {fs ex:List Su} {Pg:Ss} {w:Sr} {H:Hp} {h h':Sw} {P c':Su} {φ:(Su->Prop)->Sw->Prop}
theorem IH (hP:H P=some (.ext φ)) (k:∀ b o,b≠P->h.get? b=some o->h'.get? b=some o) (hp:∃ o,h'.get? P=some o) (hc:h.objs.size<=c') (hn:H c'=none):Un fs ex H (upd H c' (.own P)) h h' where
 keep:=fun b u q n _ _=>k b u (fun z=>by rw [z,hP] at n; cases n) q
 slot:=fun b u q n _ _=>⟨u.slots,k b u (fun z=>by rw [z,hP] at n; cases n) q⟩
 free:=fun b u q n _=>by rw [bF (Of (Od (RK q) hc))]; exact n
 there:=fun b u q _=>by
  by_cases z:b=P
  ·rw [z]; exact hp
  ·exact⟨u,k b u z q⟩
 tups:=fun b xs q=>by rw [bF (bK q hn)]; exact q
 frzs:=fun b u xs q=>by rw [bF (bK q hn)]; exact q
 tbls:=fun b ps q=>⟨#[],by rw [bF (bK q hn),q]; simp⟩
theorem Gp (x:pS Pg w H h) (hP:H P=some (.ext φ)) (k:∀ b o,b≠P->h.get? b=some o->h'.get? b=some o) (hc:h.objs.size<=c') (ho:∃ o,h'.get? c'=some o) (new:dG Pg w (upd H c' (.own P)) h' P (.ext φ)):pS Pg w (upd H c' (.own P)) h':=fun b u e=>by
 have hn:=x.fresh hc
 by_cases hb:b=c'
 ·subst hb; rw [cg] at e; cases e; exact ho
 ·rw [bF hb] at e
  by_cases hb2:b=P
  ·subst hb2; rw [hP] at e; cases e; exact new
  ·refine(x b u e).stay (fun c v hc' q=>k c v ?_ q) (fun c q=>by rw [bF (bK q hn)]; exact q) fun c xs q=>by rw [bF (bK q hn)]; exact q
   rcases hc' with rfl | hc'
   ·exact hb2
   ·rintro rfl
    rw [hP] at hc'; cases hc'
end
theorem BZ.blt {mg:Str->Option Sq} {base h:Sw} {c P:Su} {m:Str->Option Sq} (B:BZ mg base c P) (kp:∀ b o,base.get? b=some o->h.get? b=some o) (hP:base.get? P=none) (hg:base.Ns Sz m):h.BuiltinsAt mg P:=by
 obtain⟨_,bm,ob,b1,b2,b3,b4,b5,b6⟩:=B
 refine⟨bm,ob,b1,b2,fun z=>?_,fun z=>?_,kp _ _ b3,b4,b5,b6⟩
 ·subst z
  obtain⟨o,es,ep,e,hd,_⟩:=hg
  rw [e] at b3; cases b3; rw [hd] at b6; cases b6
 ·subst z
  rw [hP] at b3; cases b3
section
variable {X:Cx} {pins:List (Su×Obj)} {s:SF} {σ:L2.St} {H:Hp} {E:Sq->SF->Prop}
theorem DM {c P:Su} {lpos:Pos} {params:To} {body:SJ} {scope:SG} {clos:List (Str×Su)} {Q:Sq->SF->Prop} (I:Inv X pins σ H s) (B:BZ X.mg X.base c P) (hcode:X.env.code=.ref c) (hP:H P=some (.ext (oz P lpos (X.env.qual ++ "<lambda>"))))
  (hdef:defaultsOf params X.env=([],[])) (hcl:closureFor scope X.env=pure clos)
  (h:∀ f c' ctv s' H',Inv X pins σ H' s'->bS H H'->s'.heap.get? f=some (Uc "<lambda>" (X.env.qual ++ "<lambda>") params body scope clos ((X.mg "__name__").getD .none) c' ctv)->s'.heap.CodeRec (.ref c') (X.env.qual ++ "<lambda>")->Q (.ref f) s') :
  SH (model X.prog X.w) X.A (eval (.Lambda params body scope lpos) X.env) Q E s:=by
 have hg:s.heap.Ns Sz X.mg:=I.mod.glob.keeps I.bk
 have hPn:X.base.get? P=none:=by
  cases q:X.base.get? P with
  | none=>rfl
  | some o=>have:=(I.bs P o q).2; rw [hP] at this; cases this
 have hgP:Sz≠P:=fun z=>by
  obtain⟨o,es,ep,e,_⟩:=I.mod.glob
  rw [z,hPn] at e; cases e
 have hb:=B.blt I.bk hPn I.mod.glob
 have C:=B.1.keeps I.bk
 obtain⟨tb,_,_⟩:=I.hok P _ hP
 refine kla_eval hdef ?_
 rcases tb with e | ⟨c',hc',e,hrec⟩
 ·refine kla_makeFunction hcl I.ok.glob hg hcode C e trivial rfl hgP hb fun c' ctv h' tk hx hge hlt hrec htb=>?_
  have hn:=I.hok.fresh hge
  have htb':h'.get? P=some (tabObj #[rawInt lpos.line,rawInt lpos.col,.ref c']):=by simpa using htb
  have kp:∀ b o,b≠P->s.heap.get? b=some o->(h'.push (Uc "<lambda>" (X.env.qual ++ "<lambda>") params body scope clos ((X.mg "__name__").getD .none) c' ctv)).get? b=some o:=fun b o hb' q=>RN _ (hx b o hb' q)
  have hrec':(h'.push (Uc "<lambda>" (X.env.qual ++ "<lambda>") params body scope clos ((X.mg "__name__").getD .none) c' ctv)).CodeRec (.ref c') (X.env.qual ++ "<lambda>"):=by
   obtain⟨c2,oc,vs,t,ec,eo,r⟩:=hrec
   exact⟨c2,oc,vs,t,ec,RN _ eo,r⟩
  have hco:∃ o,(h'.push (Uc "<lambda>" (X.env.qual ++ "<lambda>") params body scope clos ((X.mg "__name__").getD .none) c' ctv)).get? c'=some o:=by
   obtain⟨c2,oc,vs,t,ec,eo,r⟩:=hrec
   cases ec
   exact⟨oc,RN _ eo⟩
  refine h _ c' ctv _ (upd H c' (.own P)) (I.un (IH hP kp ⟨_,RN _ htb'⟩ hge hn) (Gp I.hok hP kp hge hco (oz.ok (.inr ⟨c',cg,RN _ htb',hrec'⟩)))) (cz hn _) (RO _ rfl) hrec'
 ·refine kla_makeFunctionHit (cv:=.ref c') hcl I.ok.glob hg hcode C e trivial ?_ hb fun ctv h' tk hk hsz=>?_
  ·show (if ((lpos.line:Int)==(lpos.line:Int) && (lpos.col:Int)==(lpos.col:Int))=true then some (Value.ref c') else _)=_
   simp
  ·have kp:∀ b o,s.heap.get? b=some o->(h'.push (Uc "<lambda>" (X.env.qual ++ "<lambda>") params body scope clos ((X.mg "__name__").getD .none) c' ctv)).get? b=some o:=fun b o q=>RN _ (hk b o q)
   refine h _ c' ctv _ H (I.kept kp) (bS.refl H) (RO _ rfl) ?_
   obtain⟨c2,oc,vs,t,ec,eo,r⟩:=hrec
   exact⟨c2,oc,vs,t,ec,kp _ _ eo,r⟩
end
def uh (m:Nat):D->List D
 | .tup ks=>ks.take m
 | _=>[]
def J4 (m:Nat) (xs:List D):Prop:=xs.length < 64/\∃ σ:List Bool,σ≠[]/\(∀ x∈xs,∃ k,x=.tup k/\Sh σ (k.take m))/\xs.Pairwise fun x y=>uh m x≠uh m y
open Classical in
noncomputable def sF (m:Nat) (xs:List D):Option D:=if J4 m xs then some (.lst (lX (uh m) xs)) else none
noncomputable def pX:D->D->Option D
 | .lst xs,.int i=>if 0<=i then sF i.toNat xs else none
 | .tup xs,.int i=>if 0<=i then sF i.toNat xs else none
 | _,_=>none
theorem uQ:∀ {vs:List V} {us:List Sq} (n:Nat),Vals vs us->Vals (vs.take n) (us.take n)
 | _,_,0,_=>by rw [Pt,Pt]; exact .nil
 | _,_,_+1,.nil=>.nil
 | _,_,n+1,.cons r t=>by rw [Px,Px]; exact .cons r (uQ n t)
theorem GX {i:Int} (h:0<=i) (n:Nat):HT.sIx n n (some i)=min i.toNat n:=by
 show (if i < 0 then _ else _)=_
 rw [if_neg ‹0›]
theorem oY:SD "sorted"=some (.builtin "sorted"):=by first | rfl | decide +kernel
section
variable {X:Cx} {pins:List (Su×Obj)} {s:SF} {σ:L2.St} {H:Hp} {O:List Su}
theorem Ae {u:Sq} {ds:List D} {vs:List V} {its:List Sq} {d:D} {i:Int} {t:Tok} {c' cc f:Su} {row many qual:Str} {params:To} {scope:SG} {np mp p2 pos:Pos} {pm ctv:Sq} {Q:VK}
  (I:Inv X pins σ H s) (hO:eP H O) (dn:bD X.K (hid H O) ds vs) (rv:Vals vs its) (h0:0<=i) (hs:sF i.toNat ds=some d)
  (hf:s.heap.get? f=some (Uc "<lambda>" qual params (cutE row many np mp p2 pos) scope [(many,cc)] pm c' ctv)) (hcd:s.heap.CodeRec (.ref c') qual) (hroom:X.A.depth < Tf)
  (hbind:∀ v,bindArgs (kla_fn "<lambda>" qual params (cutE row many np mp p2 pos) scope [(many,cc)] pm (.ref c') ctv) ⟨[v],[]⟩=pure [(row,v)])
  (hco:scope.isCoroutine=false) (hgen:scope.isGenerator=false) (hk:scope.kind=.function) (hno:∀ x∈scope.names,x.2≠.cell) (hr:scope.names.lookup row=some .local) (hm:scope.names.lookup many=some .free)
  (hcell:s.heap.IsCell cc (some (.int i t))) (d1:(row==("__debug__":Str))=false) (d2:(many==("__debug__":Str))=false) (d3:(many==("__classdict__":Str))=false)
  (hcol:∀ (Q':List Sq->SF->Prop),(∀ h' tk,(∀ b o,s.heap.get? b=some o->h'.get? b=some o)->Q' its { s with heap:=h',toks:=tk })->SH (model X.prog X.w) X.A.in1 (collect u) Q' X.xe s)
  (q:∀ v H',bS H H'->dj X.K (hid H' O) d v->Q v H'):SH (model X.prog X.w) X.A (call (.builtin "sorted") [u] [(Str.ofString "key",.ref f)]) (EP X pins σ Q) X.xe s:=by
 have l1:=dn.length
 have l2:=rv.length
 unfold sF at hs
 split at hs
 ·rename_i hS
  cases hs
  obtain⟨h64,σ',hσ,hsh,pw⟩:=hS
  obtain⟨b,σ1,rfl⟩:∃ b σ1,σ'=b::σ1:=by
   cases σ' with
   | nil=>exact absurd rfl hσ
   | cons b σ1=>exact⟨b,σ1,rfl⟩
  have hsh':∀ x∈ds,Sh (b::σ1) (uh i.toNat x):=fun x hx=>by
   obtain⟨k,rfl,hk⟩:=hsh x hx
   exact hk
  refine y4 (keys:=ds.map (uh i.toNat)) (σ:=σ1) (b:=b) ‹0› (by rw [OC]; omega) (fun k hk=>by obtain⟨x,hx,rfl⟩:=List.mem_map.mp hk; exact hsh' x hx) hcol (fun j v h' tk Q' hv kp hq=>?_) fun p h1 h' l e tk hp hu k1 k2 hl he=>?_
  ·have hj:j < its.length:=by
    rcases QH j its.length with z | z
    ·exact z
    ·rw [QI z] at hv; cases hv
   have hj':j < ds.length:=by omega
   obtain⟨v0,e1,dv⟩:=dn.get (i:=j) (d:=ds[j]) (by simp [hj'])
   obtain⟨w,e2,rw'⟩:=rv.get e1
   rw [hv] at e2
   cases e2
   obtain⟨k,ek,hk'⟩:=hsh _ (QA hj')
   have ekey:(ds.map (uh i.toNat)).getD j []=k.take i.toNat:=by
    have:(ds.map (uh i.toNat)).getD j []=uh i.toNat ds[j]:=by simp [hj']
    rw [this,ek]; rfl
   rw [ekey] at hq
   rw [ek] at dv
   obtain⟨a,ws,rfl,ha,dk⟩:=cS.mp dv
   cases rw'
   obtain⟨it2,r2,ht,hz⟩:=I.tuple (cn (aY H O) ha)
   have hz':it2.toArray.size<=Sx:=by rw [Oy,<- r2.length]; exact hz
   refine E8 (s:={ s with heap:=h',toks:=tk }) (i:=i) (t:=t) (kp _ _ hf) ?_ hroom (I.nolimit.keeps kp) hbind hco hgen hk hno hr hm ?_ (items:=it2.toArray) ?_ hz' d1 d2 d3 fun b2 h'' tk' kp2 tb=>?_
   ·obtain⟨c2,oc,vs',t',ec,eo,r⟩:=hcd
    exact⟨c2,oc,vs',t',ec,kp _ _ eo,r⟩
   ·obtain⟨o,e,q⟩:=hcell
    exact⟨o,kp _ _ e,q⟩
   ·obtain⟨o,e,q⟩:=ht
    exact⟨o,kp _ _ e,q⟩
   ·refine hq _ h'' tk' kp2 ?_
    obtain⟨o,eo,hc,n,hd⟩:=tb
    refine⟨b2,o,_,n,rfl,eo,hc,hd,?_⟩
    have e3:(List.toArray (it2.toArray.toList.take (HT.sIx it2.toArray.size it2.toArray.size (some i)))).toList=it2.take i.toNat:=by
     rw [GX h0]
     simp only [Oy,QG]
     rcases QK i.toNat it2.length with z | z
     ·rw [QL z]
     ·rw [QM z,Qb (Ow _),Qb z]
    rw [e3]
    exact jZ (mJ hk') (dk.take i.toNat) (uQ i.toNat r2)
  ·have el:its.length=ds.length:=by omega
   rw [el] at hp hu
   have ps:=qv (key:=uh i.toNat) hsh' pw hp hu
   have hr:p.toList.Perm (List.range ds.length):=by
    have:=Array.perm_iff_toList_perm.mp hp
    simpa using this
   have hlt:∀ i∈p.toList,i < ds.length:=fun i hi=>by simpa using hr.mem_iff.mp hi
   have I1:Inv X pins σ H { s with heap:=h1,toks:=tk }:=I.kept k1
   have hn:H l=none:=I1.hok.fresh hl
   have rv':=qd rv p.toList fun i hi=>by have:=hlt i hi; omega
   have dn':=p7 dn p.toList hlt
   have hlen:p.toList.length=ds.length:=by rw [hr.length_eq,P4]
   refine⟨.ref l,_,Inv.laid (s:={ s with heap:=h1,toks:=tk }) (t':=tk) I1 k2 hl (show dG X.prog X.w _ h' _ (.lst (p.toList.map fun i=>vs.getD i .non)) from ⟨by rw [OC,hlen,Ta]; omega,_,e,rv',he⟩),rfl,?_⟩
   refine q _ _ (cz hn _) ?_
   rw [<- ps]
   exact eF hO hn dn'
 ·cases hs
theorem J6 {f:FX} {j:Nat} {k:Nat} {c P cc:Su} {e:SJ} {p lpos kp pos np mp p2 spos:Pos} {row many:Str} {params:To} {scope:SG}
  (hr:fG k X.A) (hg:Gl X "sorted") (hm:X.mg "sorted"=none) (B:BZ X.mg X.base c P) (hcode:X.env.code=.ref c) (hT:∀ H,bp.tab H->H P=some (.ext (oz P lpos (X.env.qual ++ "<lambda>"))))
  (he:FE X e f) (hN:X.N[j]?=some many) (hkm:X.env.kindOf many=some .cell) (hv:IC X.env.scope many) (hcc:X.env.cells.lookup many=some cc) (hcl:closureFor scope X.env=pure [(many,cc)]) (hdef:defaultsOf params X.env=([],[]))
  (hbind:∀ cdv ctv v,bindArgs (RE "<lambda>" (X.env.qual ++ "<lambda>") params (cutE row many np mp p2 spos) scope [(many,cc)] ((X.mg "__name__").getD .none) cdv ctv) ⟨[v],[]⟩=pure [(row,v)])
  (hco:scope.isCoroutine=false) (hgen:scope.isGenerator=false) (hk:scope.kind=.function) (hno:∀ x∈scope.names,x.2≠.cell) (hlr:scope.names.lookup row=some .local) (hlm:scope.names.lookup many=some .free)
  (d1:(row==("__debug__":Str))=false) (d2:(many==("__debug__":Str))=false) (d3:(many==("__classdict__":Str))=false) (hns:noStar e=true:=by rfl) :
  FE X (.Call (.Name "sorted" p) [e] [⟨some "key",.Lambda params (cutE row many np mp p2 spos) scope lpos,kp⟩] pos) (f2 pX f (af j)):=by
 intro pins s σ H Q I ⟨O,ρ,E,hF⟩
 refine Tl (n9 I hg hm oY ?_)
 have st:backTo pos (SK [e] X.env)=(false,eval e X.env)::backTo pos (SK [] X.env):=by rw [dY hns]; rfl
 refine PyProof.Rows.callWith_kw ?_ ?_ (fN (by rw [PD,hns]; rfl))
 ·refine dX (mR he xA (dY hns) pos pins s σ H (fun vs H1=>∃ v d a m,vs=[v]/\bS H H1/\ρ[j]?=some (some (.val m))/\pX a m=some d/\dj X.K (hid H1 O) a v/\∀ v H',bS H H'->dj X.K (hid H' O) d v->Q v H') I ⟨O,ρ,E,(i3.bind hF).imp fun a hF v H1 s1 d1=>?_⟩) fun us s1 ⟨vs,H1,I1,rv,v,d,a,m,ev,s1',em,hd,dn,q⟩=>?_
  ·obtain⟨m,em,hF⟩:=uZ (i3.bind hF)
   obtain⟨d,e,q⟩:=i3.rO hF
   exact⟨v,d,a,m,rfl,s1,em,e,d1,q⟩
  ·subst ev
   obtain⟨u,eu,ru⟩:=vals1 rv
   subst eu
   have E1:=E.same s1'
   show SH _ _ (evalAll ((do let v <- eval (.Lambda params (cutE row many np mp p2 spos) scope lpos) X.env; standAt pos; pure v)::[])) _ _ s1
   refine wpAny_evalAll_cons (SZ (DM I1 B hcode (hT _ E1.all.1) hdef hcl fun fa c' ctv s2 H2 I2 s2' hfa hcr=>SZ (S3 (S6 (wpAny_evalAll_nil ?_)))))
   show SH (model X.prog X.w) X.A (call (.builtin "sorted") [u] [(Str.ofString "key",.ref fa)]) (EP X pins σ Q) X.xe s2
   have E2:=E1.same s2'
   obtain⟨vm,e3,dm⟩:=E2.val j m em
   have core:∀ (i:Int) (xs:List D),m=.int i->0<=i->sF i.toNat xs=some d->∀ (ys:List V) (its:List Sq),bD X.K (hid H2 O) xs ys->Vals ys its ->
     (∀ (Q':List Sq->SF->Prop),(∀ h' tk,(∀ b o,s2.heap.get? b=some o->h'.get? b=some o)->Q' its { s2 with heap:=h',toks:=tk })->SH (model X.prog X.w) X.A.in1 (collect u) Q' X.xe s2) ->
     SH (model X.prog X.w) X.A (call (.builtin "sorted") [u] [(Str.ofString "key",.ref fa)]) (EP X pins σ Q) X.xe s2:=by
    intro i xs ei h0 hs ys its dl ri hcol
    subst ei
    rw [gE] at dm
    subst dm
    obtain⟨mm,hns',hl⟩:=I2.loc
    obtain⟨uv,ruv,lk⟩:=hl j many (.int i) hN e3 hv
    obtain⟨t,rfl⟩:=ruv
    have hcell:s2.heap.IsCell cc (some (.int i t)):=by
     rcases lk with ⟨z,_⟩ | ⟨_,c2,ec,hc2⟩
     ·rw [hkm] at z; cases z
     ·rw [hcc] at ec; cases ec; exact hc2
    have dp:=hr.dp
    exact Ae I2 E2.all dl ri h0 hs hfa hcr ‹0› (fun v=>hbind (.ref c') ctv v) hco hgen hk hno hlr hlm hcell d1 d2 d3 hcol fun v H' sm dd=>q v H' ((s1'.trans s2').trans sm) dd
   have dn2:=dn.mono (de (O:=O) s2')
   unfold pX at hd
   split at hd
   ·rename_i xs i
    split at hd
    ·rename_i h0
     obtain⟨l,ys,el,g1,g2⟩:=cT.mp dn2
     subst el
     cases ru
     obtain⟨its,ri,pl,hz⟩:=I2.list ((aY H2 O).seq g1)
     have hlen:=ri.length
     obtain⟨o,ho,hc,n,hd'⟩:=pl.isList
     exact core i xs rfl h0 hd ys its g2 ri fun Q' hQ=>Ub l (.inl rfl) ho hc hd' (fun h' k=>by simpa using hQ h' s2.toks k) (by simp only [Oy] <;> omega)
    ·cases hd
   ·rename_i xs i
    split at hd
    ·rename_i h0
     obtain⟨l,ys,el,g1,g2⟩:=cS.mp dn2
     subst el
     cases ru
     obtain⟨its,ri,⟨o,ho,hc,n,hd'⟩,hz⟩:=I2.tuple (cn (aY H2 O) g1)
     have hlen:=ri.length
     exact core i xs rfl h0 hd ys its g2 ri fun Q' hQ=>Ub l (.inr rfl) ho hc hd' (fun h' k=>by simpa using hQ h' s2.toks k) (by simp only [Oy] <;> omega)
    ·cases hd
   ·cases hd
 ·exact st
end
end TG
namespace TG
open PySem PySem.Spec PyProof.Rows PySem.W L2
section
variable [bp] {P:Ss} {w:Sr} {K:Rf} {mg:Str->Option Sq} {base:Sw}
def vD (K:Rf) (f:Su) (cdv:Sq):Prop:=∃ oc od fd sl,K.lookup f=some ⟨oc,od,.func fd,sl⟩/\fd.code=cdv
theorem vD.one {f:Su} {a b:Sq} (h:vD K f a) (h':vD K f b):a=b:=by
 obtain⟨oc,od,fd,sl,e,r⟩:=h
 obtain⟨oc',od',fd',sl',e',r'⟩:=h'
 rw [e] at e'
 cases e'
 rw [<- r,<- r']
structure xJ (P:Ss) (w:Sr) (K:Rf) (mg:Str->Option Sq) (base:Sw) (k:Nat) (N:List Str) (qual:Str) (st:SL) (f:Su) (B:cB):Prop where
 h:∀ (cdv:Sq) (A:SE) (outer:List Env) (s:SF) (H:Hp) (E:XK),vD K f cdv->fG k (A.deeper (envOfC qual (aA st) s.heap.objs.size f cdv))->S4 (model P w) (A.deeper (envOfC qual (aA st) s.heap.objs.size f cdv)) (envOfC qual (aA st) s.heap.objs.size f cdv) (jL (nh P w) P w K mg base N qual (aA st) f cdv A outer s H E).xe ->
  Ac (jL (nh P w) P w K mg base N qual (aA st) f cdv A outer s H E) (fA st) B
theorem Dw {x qual:Str} {st:SL} {f:Su} {fd:Th} {N ps:List Str} {k:Nat} {B:cB} (F:wK K x qual st f fd) (SC:aJ N ps (aA st)) (hb:xJ P w K mg base k N qual st f B) :
  js P w K mg base (nh P w) (k+1) f fd ps (Df K ps.length (aP B ps.length N.length)):=by
 obtain⟨oc,od,kV,doc,pm,an,cd,ct,osl,rfl,lk,hcd⟩:=F.ex
 refine D5 lk hcd SC (fun vs H Q E h=>?_) fun A outer s H vs Q E hr h=>?_
 ·obtain⟨O,ds,h1,_⟩:=h
  exact h1
 ·obtain⟨O,ds,h1,h2,h3,h4⟩:=h
  have hl:ds.length=ps.length:=h3.length.trans h1
  have e4:aP B ps.length N.length ds=B K0 (env0 N.length ds):=by unfold aP; rw [if_pos hl]
  rw [e4] at h4
  refine⟨_,hb.h cd A outer s H E ⟨_,_,_,_,lk,rfl⟩ hr PassesOwn.leaving H O,O,env0 N.length ds,K0,_,⟨tI h2 h3,⟨bS.refl H,fun _ z=>z,fun a z=>.inl z⟩,fun i xs a e=>?_⟩,rfl,?_⟩
  ·obtain⟨d',_,e2⟩:=lY i _ e
   cases e2
  ·generalize B K0 (env0 N.length ds)=r at h4
   refine⟨fun z=>by rw [z] at h4; exact h4,fun O' ρ' σ' H' S e=>?_,fun O' ρ' σ' H' S e=>?_,fun O' ρ' σ' H' S e=>?_,fun d O' v H' e b dv=>?_,fun O' ρ' σ' H' x S e=>?_⟩
   ·have e:(.ok .non:R D)=r:=e
    subst e
    exact h4 .non H' S.base.same (kX.mpr rfl)
   ·have e:(un:R D)=r:=e
    subst e
    exact h4.elim
   ·have e:(un:R D)=r:=e
    subst e
    exact h4.elim
   ·subst e
    exact h4 v H' b.same (dv.mono (lQ b.sub))
   ·have e:(.error (some x):R D)=r:=e
    subst e
    exact EA h4 S.base.same S.base.sub
theorem Ah {x qual:Str} {st:SL} {f:Su} {fd:Th} {N ps:List Str} {k:Nat} {B:cB} (F:wK K x qual st f fd) (b:Binds K fd ps []) (m:mg x=some (.ref f)) (SC:aJ N ps (aA st)) (hb:xJ P w K mg base k N qual st f B) :
  Callee P w K mg base (k+1) x ps (aP B ps.length N.length):=⟨f,fd,Dw F SC hb,b,F.kp,m⟩
end
def AR (mg:Str->Option Sq) (base:Sw):Prop:=∃ bm ob,mg "__builtins__"=some (.ref bm)/\bm≠SA/\base.get? bm=some ob/\ob.cls=.type "module"/\ob.dict=some SA/\ob.data=.plain
theorem G9 {K:Rf} {mg:Str->Option Sq} {base:Sw} {c P:Su} (X:K.In base) (e:codeHdIn K c P=true) (b:AR mg base):BZ mg base c P:=⟨codeHd_of_K X e,b⟩
theorem FU {P:Ss} {w:Sr} {K:Rf} {mg mb:Str->Option Sq} {CX:Az} {k:Nat} {fa a c T:Su} {lpos:Pos} {q:Str} {fd:Th} {x:Str} {sp:Sp} {s₁:SF} {vs:List Sq} {ns:List Int}
  (KX:K.In s₁.heap) (hns:s₁.heap.Ns Sz mg) (hb:s₁.heap.Ns SA mb) (hbb:∀ x:Str,x ≠ "__name__"->mb x=SD x) (hlim:s₁.heap.NoLimit) (hg:s₁.gens=#[]) (hbm:AR mg s₁.heap)
  (hT:s₁.heap.get? T=some (tabObj #[])) (hC:codeHdIn K c T=true) (hKT:K.lookup T=none)
  (ha:s₁.heap.get? a=some { cls:=.type "list",data:=.seq vs.toArray }) (hi:IntsAre vs ns) (hl:ns.length<=Sx) (hr:fG k callerA)
  (F:∀ base:Sw,K.In base->base.Ns Sz mg->AR mg base->js P w K mg base CX k fa fd [x] sp) (hbind:∀ (s:SF) (u:Sq),Ti s fd ⟨[u],[]⟩ [(x,u)])
  (hsp:∀ H:Hp,H T=some (.ext (oz T lpos q))->nN K H a (ns.map V.int)->sp [.ref a] H (fun v H'=>v=.bl true/\bS H H') fun _ _ _=>False)
  (hCX:∀ H e s',CX [] H s₁ (fun _ _ _=>False) e s'->False) :
  Tb (model P w) callerA (.call (.ref fa) ⟨[.ref a],[]⟩) (fun r s'=>r=.ok (.ret (.bool true))/\OldK s₁.heap s'.heap/\s'.os=s₁.os/\AllBare s'.gens) s₁:=by
 have rv:=vH hi
 have lenV:=hi.length
 have aT:a≠T:=fun z=>by rw [z,hT] at ha; cases ha
 obtain⟨H,hH⟩:∃ H:Hp,H=fun b=>if b=T then some (.ext (oz T lpos q)) else if b=a/\(K.lookup a).isNone=true then some (.frz { cls:=.type "list",data:=.seq vs.toArray } (.lst (ns.map V.int))) else none:=⟨_,rfl⟩
 have hHT:H T=some (.ext (oz T lpos q)):=by rw [hH]; exact if_pos rfl
 have cases':∀ b u,H b=some u->(b=T/\u=.ext (oz T lpos q))\/(b=a/\K.lookup a=none/\u=.frz { cls:=.type "list",data:=.seq vs.toArray } (.lst (ns.map V.int))):=fun b u e=>by
  rw [hH] at e
  by_cases z:b=T
  ·have e:=(if_pos z).symm.trans e
   cases e
   exact .inl ⟨z,rfl⟩
  ·have e:=(if_neg z).symm.trans e
   by_cases z':b=a/\(K.lookup a).isNone=true
   ·have e:=(if_pos z').symm.trans e
    cases e
    exact .inr ⟨z'.1,by simpa using z'.2,rfl⟩
   ·have e:=(if_neg z').symm.trans e
    cases e
 have free:∀ b o,s₁.heap.get? b=some o->o.cls≠.none->o.cls≠.type "list"->H b=none:=fun b o e h1 h2=>by
  cases z:H b with
  | none=>rfl
  | some u =>
   rcases cases' b u z with ⟨e1,_⟩ | ⟨e1,_⟩
   ·rw [e1,hT] at e; cases e; exact absurd rfl h1
   ·rw [e1,ha] at e; cases e; exact absurd rfl h2
 have freeD:∀ b o es ep,s₁.heap.get? b=some o->o.data=.dict es ep->H b=none:=fun b o es ep e d=>by
  cases z:H b with
  | none=>rfl
  | some u =>
   rcases cases' b u z with ⟨e1,_⟩ | ⟨e1,_⟩
   ·rw [e1,hT] at e; cases e; cases d
   ·rw [e1,ha] at e; cases e
    have d':Data.seq vs.toArray _=Data.dict es ep:=d
    cases d'
 have hS:nN K H a (ns.map V.int):=by
  cases hk:K.lookup a with
  | some o =>
   have e:=KX a o hk
   rw [ha] at e
   cases e
   exact .inr ⟨_,vs.toArray,_,hk,rfl,rfl,rfl,by rw [Oy,lenV]; exact hl,by simpa using rv⟩
  | none =>
   refine .inl (.inr ⟨{ cls:=.type "list",data:=.seq vs.toArray },?_⟩)
   rw [hH]
   exact(if_neg aT).trans (if_pos ⟨rfl,by rw [hk]; rfl⟩)
 have hok:pS P w H s₁.heap:=fun b u e=>by
  rcases cases' b u e with ⟨e1,e2⟩ | ⟨e1,_,e2⟩
  ·subst e1 e2
   exact oz.ok (.inl hT)
  ·subst e1 e2
   exact⟨ha,by rw [OC]; exact hl,vs,_,rv,ha⟩
 have nsK:∀ {b:Su} {m:Str->Option Sq},s₁.heap.Ns b m->(xX s₁.heap H).Ns b m:=fun {b m} ⟨o,es,ep,e,d,r⟩=>⟨o,es,ep,sd e (freeD b o es ep e d),d,r⟩
 have hKb:K.In (xX s₁.heap H):=fun b o e=>sd (KX b o e) (by
  cases z:H b with
  | none=>rfl
  | some u =>
   rcases cases' b u z with ⟨e1,_⟩ | ⟨e1,e2,_⟩
   ·rw [e1,hKT] at e; cases e
   ·rw [e1,e2] at e; cases e)
 have hbm':AR mg (xX s₁.heap H):=by
  obtain⟨bm,ob,b1,b2,b3,b4,b5,b6⟩:=hbm
  refine⟨bm,ob,b1,b2,sd b3 (free bm ob b3 ?_ ?_),b4,b5,b6⟩
  ·rw [b4]; simp
  ·rw [b4]; simp
 have hM:Mod K mg (xX s₁.heap H):=⟨hKb,nsK hns,⟨mb,nsK hb,hbb⟩,let ⟨mc,h1,h2⟩:=hlim; ⟨mc,nsK h1,h2⟩⟩
 have e0:Cz P w K mg (xX s₁.heap H) callerA [] s₁ H:=⟨rfl,hM,fun b o e=>Hf e,OD (B3 _ _),trivial,fun b hb=>absurd (show b∈([]:List Su) from hb) (by simp),hok,.of_eq hg⟩
 refine Tj ((F _ hKb (nsK hns) hbm').run callerA [] s₁ H ⟨[.ref a],[]⟩ [.ref a] [.ref a] _ _ hr e0 (hbind s₁ (.ref a)) (.cons rfl .nil) (hsp H hHT hS)) fun r s' h=>?_
 cases r with
 | error e=>exact(hCX H e s' h).elim
 | ok fl =>
  cases fl with
  | next=>exact False.elim h
  | brk=>exact False.elim h
  | cont=>exact False.elim h
  | ret u =>
   obtain⟨v,H',os,bare,unn,hok',r',q'⟩:=h
   obtain⟨ev,sm⟩:v=.bl true/\bS H H':=q'
   subst ev
   obtain rfl:u=Value.bool true:=r'
   have tb:=(hok' T _ (sm _ _ hHT)).1
   obtain⟨ps,hps⟩:∃ ps,s'.heap.get? T=some (tabObj ps):=by
    rcases tb with e | ⟨_,_,e,_⟩
    ·exact⟨_,e⟩
    ·exact⟨_,e⟩
   have keep:∀ b o,b≠T->s₁.heap.get? b=some o->s'.heap.get? b=some o:=fun b o hb e=>by
    cases z:H b with
    | none=>exact unn.keep b o e z (by intro z; exact absurd (show b∈([]:List Su) from z) (by simp)) (by simp)
    | some u =>
     rcases cases' b u z with ⟨e1,_⟩ | ⟨e1,_,e2⟩
     ·exact absurd e1 hb
     ·subst e2
      have z2:=sm _ _ z
      obtain⟨e3,_⟩:=hok' b _ z2
      rw [e1,ha] at e; cases e
      exact e3
   refine⟨rfl,⟨fun b o e=>?_,fun b o e=>?_⟩,os,bare⟩
   ·by_cases hb:b=T
    ·subst hb
     rw [hT] at e; cases e
     exact .inr (.inl ⟨((codeHd_of_K KX hC).tab hT).isCodeTable,rfl,#[],ps,rfl,by rw [Array.empty_append]; exact hps⟩)
    ·exact .inl (keep b o hb e)
   ·by_cases hb:b=T
    ·subst hb; exact⟨_,hps⟩
    ·exact⟨o,keep b o hb e⟩
theorem DX {l:RF} {n k:Nat} {q:Ss} {loose:List Str} {XP:(Str->Option Sq)->Sw->Prop} {YP:Sr->Sw->Prop} {d:DefRec} {K:Params->Rf} {CX:Sr->Az} {sp:Sr->Sp} {x qn:Str} {T:Su} {lpos:Pos}
  (hn:l.most=some n) (hn2:n<=Sx) (hdf:d.params.defaults=[]) (hr:fG k callerA)
  (hY:∀ (w:Sr) (h:Sw),YP w h->(K w.params).In h/\h.get? T=some (tabObj #[]))
  (F:∀ (w:Sr) (mg:Str->Option Sq) (fa:Su) (h:Sw),(K w.params).In h->h.Ns Sz mg->mg d.name=some (.ref fa) ->
   (∃ c,codeHdIn (K w.params) c T=true)/\(K w.params).lookup T=none/\∃ fd:Th,(∀ (s:SF) (u:Sq),Ti s fd ⟨[u],[]⟩ [(x,u)]) /\
    ∀ base:Sw,(K w.params).In base->base.Ns Sz mg->AR mg base->js l.prog w (K w.params) mg base (CX w) k fa fd [x] (sp w))
  (hsp:∀ (w:Sr) (H:Hp) (a:Su) (ns:List Int),ns.length<=n->H T=some (.ext (oz T lpos qn))->nN (K w.params) H a (ns.map V.int)->sp w [.ref a] H (fun v H'=>v=.bl true/\bS H H') fun _ _ _=>False)
  (hCX:∀ (w:Sr) (H:Hp) (s:SF) (e:Sq) (s':SF),CX w [] H s (fun _ _ _=>False) e s'->False) :
  PySem.W.WalkO q loose XP YP l.row.toRowW d [] (fun f vs=>PySem.call f vs):=by
 refine Att.HE hn hdf fun w s₀ s₁ mg mb fa o pm cd doc a vs ns G Y ho hd hcd hmg hobj hints hlen hg=>?_
 obtain⟨KX,hT⟩:=hY w _ Y
 obtain⟨⟨c,hC⟩,hKT,fd,hb,hF⟩:=F w mg fa _ KX G.T.g hmg
 exact FU KX G.T.g G.T.b G.T.builtins G.T.nolimit hg G.T.bmain hT hC hKT hobj hints (Og hlen hn2) hr hF hb (fun H hO hS=>hsp w H a ns hlen hO hS) fun H e s'=>hCX w H s₁ e s'
end TG
namespace TG
open PySem PySem.Spec PySem.Calls L2
open PySem.SeqAt (EqAt list_indexAt)
variable [bp]
section
variable {X:Cx} {p pos:Pos} {e:SJ}
end
end TG
namespace TG
open PySem PySem.Spec L2
variable [bp]
end TG
namespace TG
open PySem PySem.Spec PySem.Calls L2
open PySem.SeqAt (EqAt list_countAt)
variable [bp]
end TG
namespace TG
open PySem PySem.Spec L2
variable [bp]
end TG
namespace TG
open PySem PySem.Spec PySem.Calls L2
variable [bp]
theorem B8:typeLookup (.type "list") "keys"=pure none:=by rw [typeLookup_type,builtinLookup_eq_fast]; kernel_rfl
theorem Hm {prog:Ss} {w:Sr} {A:SE} {E:Sq->SF->Prop} {s:SF} {a:Su} {o:Obj} {xs:Array Sq} {k:Nat} {u:Tok} {Q:Sq->SF->Prop}
  (hx:s.heap.get? a=some o) (hc:o.cls=.type "list") (hdat:o.data=.seq xs k) (hd:o.dict=none) (hA:A.handled=none)
  (h:∀ h' tk e,Heap.NewExcOf s.heap h' e "AttributeError"->E (.ref e) { s with heap:=h',toks:=tk }) :
  SH (model prog w) A (getAttrBy (.ref a) (.str "keys" u) false) Q E s:=by
 obtain⟨c,dct,dat,sl⟩:=o
 simp only at hc hdat hd
 subst hc hdat hd
 obtain⟨hp,g,d,tk,os⟩:=s
 have hT:∀ tk',(⟨hp,g,d,tk',os⟩:SF).TypeIs (.ref a) "list":=fun _=>⟨_,hx,rfl⟩
 have f1:=sub_AttributeError
 have f3:=F.slot_list_getattribute.lookup
 have f4:=F.slot_list_getattribute.bind (.ref a)
 have f5:=am_list_getattr_none
 unfold getAttrBy
 repeat (any_goals (first | assumption | exact hT _ | ((with_reducible show SH _ _ (call (Value.builtin "list.__getattribute__") _ _) _ _ _); refine call_meets F.slot_list_getattribute (hT _) am_entry_list_getattribute (F.args_list_getattribute_2 _ _) (meets_getattribute_miss_list a xs k sl "keys" _ B8 (by decide +kernel) (by decide +kernel)) ⟨hx,hA,fun h' tk' e hx'=>?_⟩) | wp_step))
 obtain⟨t',u',he⟩:=hx'.there
 show SH _ _ (getattributeRaised _ _ _ _ _ _ _) _ _ _
 unfold getattributeRaised
 repeat (any_goals (first | assumption | wp_step))
 exact h _ _ _ hx'.of
theorem Hl {prog:Ss} {w:Sr} {A:SE} {E:Sq->SF->Prop} {s:SF} {a:Su} {o:Obj} {xs:Array Sq} {k:Nat} {Q:Option Sq->SF->Prop}
  (hx:s.heap.get? a=some o) (hc:o.cls=.type "list") (hdat:o.data=.seq xs k) (hd:o.dict=none) (hA:A.handled=none)
  (h:∀ h' tk,(∀ b o,s.heap.get? b=some o->h'.get? b=some o)->Q none { s with heap:=h',toks:=tk }) :
  SH (model prog w) A (getAttr? (.ref a) "keys") Q E s:=by
 obtain⟨hp,g,d,tk,os⟩:=s
 have f1:=sub_AttributeError
 unfold getAttr? getAttrBy?
 refine SZ (wpAny_mkText ?_)
 refine SZ (T4 (Hm (s:=⟨hp,g,d,tk+1,os⟩) hx hc hdat hd hA fun h' tk' e ne=>?_))
 obtain⟨ob,vs,e1,e2,_⟩:=ne.there
 refine SZ (wpAny_isInstance (s:=⟨h',g,d,tk',os⟩) ⟨ob,e1,e2⟩ f1 ?_)
 exact S6 (h h' tk' ne.keeps)

abbrev Keeps (h0 h:Sw):Prop:=∀ b o,h0.get? b=some o->h.get? b=some o
section
variable {prog:Ss} {w:Sr} {A:SE} {E:Sq->SF->Prop} {K:Type} [DecidableEq K] {knd:HeapKind prog w K} {d:Su} {h0:Sw}
def DI (knd:HeapKind prog w K) (h0:Sw) (d:Su) (h:Sw) (xs:List (K×Su×Sq)):Prop :=
 (∃ o es ep,h.get? d=some o/\o.ExactDict/\o.data=.dict es ep/\es.toList=xs.map (entryOfKey knd)/\(xs.map (·.1)).Nodup)/\∀ x∈xs,∀ h,Keeps h0 h->knd.is h x.1 x.2.1
theorem DI.dict {h:Sw} {xs:List (K×Su×Sq)} (x:DI knd h0 d h xs) (k:Keeps h0 h):h.DictOfH knd d xs:=by
 obtain⟨⟨o,es,ep,h1,h2,h3,h4,h5⟩,h6⟩:=x
 exact⟨o,es,ep,h1,h2,h3,h4,fun y hy=>h6 y hy h k,h5⟩
theorem DI.stay {h h':Sw} {xs:List (K×Su×Sq)} (x:DI knd h0 d h xs) (k:∀ o,h.get? d=some o->h'.get? d=some o):DI knd h0 d h' xs:=by
 obtain⟨⟨o,es,ep,h1,r⟩,h6⟩:=x
 exact⟨⟨o,es,ep,k o h1,r⟩,h6⟩
theorem mem_storedH {xs:List (K×Su×Sq)} {k:K} {a:Su} {v:Sq} {x:K×Su×Sq} (h:x∈storedH xs k a v):(∃ y∈xs,y.1=x.1/\y.2.1=x.2.1)\/(x.1=k/\x.2.1=a):=by
 unfold storedH at h
 split at h
 ·obtain⟨y,hy,rfl⟩:=List.mem_map.mp h
  refine .inl ⟨y,hy,?_⟩
  unfold putAt
  split <;> exact⟨rfl,rfl⟩
 ·rcases List.mem_append.mp h with z | z
  ·exact .inl ⟨x,z,rfl,rfl⟩
  ·rw [QJ] at z
   subst z; exact .inr ⟨rfl,rfl⟩
theorem DI.put {h h':Sw} {xs:List (K×Su×Sq)} {k:K} {a:Su} {v:Sq} (x:DI knd h0 d h xs) (hk:∀ h,Keeps h0 h->knd.is h k a) (dd:h'.DictOfH knd d (storedH xs k a v)):DI knd h0 d h' (storedH xs k a v):=by
 obtain⟨o,es,ep,h1,h2,h3,h4,_,h5⟩:=dd
 refine⟨⟨o,es,ep,h1,h2,h3,h4,h5⟩,fun y hy g kg=>?_⟩
 rcases mem_storedH hy with ⟨z,hz,e1,e2⟩ | ⟨e1,e2⟩
 ·rw [<- e1,<- e2]; exact x.2 z hz g kg
 ·rw [e1,e2]; exact hk g kg
theorem zi (xs:List (K×Su×Sq)) (k:K) (a:Su) (v:Sq):(storedH xs k a v).length<=xs.length+1:=by
 unfold storedH
 split
 ·rw [OC]; omega
 ·simp
theorem zo:entryFor table "dict.update.loop"=some Builtin.«dict.update.loop»:=entryFor_of_tree (by kernel_rfl)
theorem oy:plainId "dict.update.loop"=true:=by decide +kernel
theorem Ce {R:Result->SF->Prop} {I:Su} {fp wr:List Su} {P:Nat->Sq->Prop} {St:Nat->Sw->Prop} {L:List (K×Su×Sq)} (W:Walks prog w A.in1 I fp wr L.length P St) (hwr:∀ b∈wr,h0.get? b=none) (hdn:h0.get? d=none) (hdf:d∉fp)
  (hn:L.length<=Sx) (hu:knd.room A.in1) (hP:∀ i v,P i v->∃ x t,L[i]?=some x/\v=.ref t/\∀ h,Keeps h0 h->h.IsTuple t #[.ref x.2.1,x.2.2]) (hK:∀ x∈L,∀ h,Keeps h0 h->knd.is h x.1 x.2.1) (res:Sq) :
  ∀ (m i:Nat) (s:SF) (xs:List (K×Su×Sq)) (j:Int) (u:Tok),i+m=L.length->St i s.heap->Keeps h0 s.heap->DI knd h0 d s.heap xs->xs.length<=i ->
  (∀ h' tk,Keeps h0 h'->DI knd h0 d h' ((L.drop i).foldl (fun xs x=>storedH xs x.1 x.2.1 x.2.2) xs)->R (.ok (.ret res)) { s with heap:=h',toks:=tk }) ->
  Tb (model prog w) A (.builtin "dict.update.loop" ⟨[.ref d,.ref I,.int j u,res],[]⟩) R s:=by
 have hdw:d∉wr:=fun h=>hdf (W.sub _ h)
 intro m
 induction m with
 | zero =>
  intro i s xs j u hi st kp di hl hR
  have hin:i=L.length:=by omega
  subst hin
  refine codeAny_builtin zo ?_
  rw [Around.under_plainId oy _]
  show SH _ A.in1 (pyNext (.ref I) >>= _) _ _ s
  refine SZ (W.done s _ _ st fun h' tk hk=>?_)
  refine SZ (S6 (S6 ?_))
  have:=hR h' tk (fun b o q=>hk b o (fun z=>by have:=hwr b z; rw [q] at this; cases this) (kp b o q)) (by
   rw [Qa,List.foldl_nil]
   exact di.stay fun o q=>hk d o hdw q)
  exact this
 | succ m ih =>
  intro i s xs j u hi st kp di hl hR
  refine codeAny_builtin zo ?_
  rw [Around.under_plainId oy _]
  show SH _ A.in1 (pyNext (.ref I) >>= _) _ _ s
  refine SZ (W.item i s _ _ ‹0› st fun v h' tk hv st' hk=>?_)
  obtain⟨x,t,hx,rfl,ht⟩:=hP i v hv
  have kp':Keeps h0 h':=fun b o q=>hk b o (fun z=>by have:=hwr b z; rw [q] at this; cases this) (kp b o q)
  obtain⟨o,ho,hc,n,hd⟩:=ht h' kp'
  have xm:x∈L:=OV hx
  refine SZ (S0 (SZ (wpAny_tryCatch ?_)))
  unfold Builtin.Dict.pairItems
  refine SZ (Tx (T := "tuple") ⟨o,ho,hc⟩ ?_)
  rw [if_pos (by decide)]
  refine SZ (TR ho hd (S6 ?_))
  show SH _ _ (holding [.ref x.2.1,x.2.2] (dictSet d (.ref x.2.1) x.2.2)) _ _ _
  have di':DI knd h0 d h' xs:=di.stay fun o q=>hk d o hdw q
  refine S0 (wpAny_dictSet_heap (s:={ s with heap:=h',toks:=tk }) (hsz:=by omega) hu (hK x xm h' kp') (di'.dict kp') fun h2 dd sb=>?_)
  have kp2:Keeps h0 h2:=fun b o q=>(sb.2 b (fun z=>by rw [z,hdn] at q; cases q)).trans (kp' b o q)
  refine S6 ⟨plainId_quiet oy _,?_⟩
  refine ih (i+1) _ (storedH xs x.1 x.2.1 x.2.2) (j+1) 0 ‹0› (W.frame _ _ _ st' fun b hb o q=>(sb.2 b (fun z=>hdf (by rw [<- z]; exact hb))).trans q) kp2 (di'.put (hK x xm) dd) (by have:=zi xs x.1 x.2.1 x.2.2; omega) fun h3 tk3 kp3 di3=>?_
  refine hR h3 tk3 kp3 ?_
  have e:L.drop i=x::L.drop (i+1):=by
   have hil:i < L.length:=by omega
   rw [P8 hil]
   rw [PJ hil] at hx
   rw [Option.some.inj hx]
  rw [e,QN]
  exact di3
theorem sO {s:SF} {Q:Sq->SF->Prop} {l:Su} {o:Obj} {items:Array Sq} {n:Nat} {L:List (K×Su×Sq)} (ho:s.heap.get? l=some o) (hc:o.cls=.type "list") (hd:o.data=.seq items n) (hdd:o.dict=none) (hh:A.handled=none) (hu:knd.room A.in1.in1)
  (hl:items.size=L.length) (hn:L.length<=Sx) (hP:∀ (i:Nat) v,items[i]?=some v->∃ x t,L[i]?=some x/\v=.ref t/\s.heap.IsTuple t #[.ref x.2.1,x.2.2]) (hK:∀ x∈L,∀ h,Keeps s.heap h->knd.is h x.1 x.2.1)
  (hQ:∀ h' tk,Keeps s.heap h'->DI knd s.heap s.heap.objs.size h' (L.foldl (fun xs x=>storedH xs x.1 x.2.1 x.2.2) [])->Q (.ref s.heap.objs.size) { s with heap:=h',toks:=tk }) :
  SH (model prog w) A (call (.type "dict") [.ref l]) Q E s:=by
 refine callType_codes (Q₁:=fun obj s₁=>obj=.ref s.heap.objs.size/\s₁={ s with heap:=s.heap.push { cls:=.type "dict",data:=.dict #[] } }) F.kt_called_dict (F.kt_typeCall_dict_1 _) F.entry_dict_init (kt_code_dict_new _ ⟨rfl,rfl⟩) ?_
 rintro obj s₁ ⟨rfl,rfl⟩
 have hnew:(s.heap.push { cls:=.type "dict",data:=.dict #[] }).DictOfH knd s.heap.objs.size []:=Heap.DictOfH.new s.heap
 have hlt:=RK ho
 have hl1:(s.heap.push { cls:=.type "dict",data:=.dict #[] }).get? l=some o:=RN _ ho
 refine⟨hnew.typeIs,F.args_dict_init_2 _ _,?_⟩
 unfold Builtin.«dict.__init__»
 refine SZ ?_
 unfold Builtin.Dict.selfAndRest
 refine SZ (wpAny_notOrdered_dict hnew.typeIs ?_)
 show SH _ _ (pure (s.heap.objs.size,[Value.ref l])) _ _ _
 refine S6 ?_
 show SH _ _ (Builtin.Dict.updateFrom "dict.__init__" s.heap.objs.size (.ref l) [] .none) _ _ _
 unfold Builtin.Dict.updateFrom
 refine SZ (Tx (T := "list") ⟨o,hl1,hc⟩ ?_)
 rw [if_pos (by decide)]
 refine SZ (Hl hl1 hc hd hdd hh fun h1 tk1 k1=>?_)
 rw [if_pos (show (none:Option Sq).isNone=true from rfl)]
 refine SZ (TL ?_)
 have hd1:h1.get? s.heap.objs.size=some { cls:=.type "dict",data:=.dict #[] }:=k1 _ _ (RO _ rfl)
 have hl2:h1.IsList l items:=⟨o,k1 _ _ hl1,hc,n,hd⟩
 have dlt:=RK hd1
 refine SZ (S7 (s:={ s with heap:=h1,toks:=tk1 }) hl2 ?_)
 refine S6 ⟨plainId_quiet oy _,?_⟩
 have W:=Walks.list (prog:=prog) (w:=w) (A:=A.in1.in1) hh h1.objs.size l (Of (Pl hlt dlt)) items
 rw [hl] at W
 refine Ce (A:=A.in1) (knd:=knd) (h0:=s.heap) (d:=s.heap.objs.size) W (fun b hb=>?_) (RL (Ow _)) (fun z=>?_) hn hu (fun i v hv=>?_) hK .none L.length 0 _ [] 0 0 ‹0› ?_ (fun b o q=>?_) ⟨⟨_,#[],0,RN _ hd1,⟨rfl,rfl,rfl⟩,rfl,rfl,List.nodup_nil⟩,fun x hx=>by simp at hx⟩ (Ow _) fun h' tk kp di=>?_
 ·rw [QJ] at hb
  subst hb
  exact RL (Oh dlt)
 ·simp only [Qf,Qg,or_false] at z
  rcases z with z | z
  ·exact absurd z (Of dlt)
  ·exact absurd z.symm (Of hlt)
 ·obtain⟨x,t,e1,e2,e3⟩:=hP i v hv
  obtain⟨ob,q1,q2⟩:=e3
  exact⟨x,t,e1,e2,fun h kh=>⟨ob,kh _ _ q1,q2⟩⟩
 ·exact⟨⟨_,RO _ rfl,rfl,rfl⟩,let ⟨ob,q1,q2⟩:=hl2; ⟨ob,RN _ q1,q2⟩⟩
 ·exact RN _ (k1 _ _ (RN _ q))
 ·exact⟨rfl,hQ h' tk kp di⟩
end
def BI:D->Option (List Key×D)
 | .tup [k,v]=>(oQ k).map fun q=>(q,v)
 | _=>none
def km:List D->Option (List (List Key×D))
 | []=>some []
 | d::r=>(BI d).bind fun p=>(km r).map (p::·)
def vt (ps:List (List Key×D)):List (List Key×D):=ps.foldl (fun al p=>sR al p.1 p.2) []
def vN:List D->Option D
 | [.lst xs]=>(km xs).bind fun ps=>if small ps.length then some (vP (vt ps)) else none
 | _=>none
theorem Ds {d:D} {p:List Key×D} (h:BI d=some p):d=.tup [.tup (p.1.map fH),p.2]:=by
 unfold BI at h
 split at h
 ·rename_i k v
  cases e:oQ k with
  | none=>rw [e] at h; cases h
  | some q=>rw [e] at h; cases h; rw [xE e]
 ·cases h
theorem vy:∀ {xs:List D} {ps:List (List Key×D)},km xs=some ps->xs=ps.map fun p=>.tup [.tup (p.1.map fH),p.2]
 | [],_,h=>by cases h; rfl
 | d::r,ps,h=>by
  unfold km at h
  cases e1:BI d with
  | none=>rw [e1] at h; cases h
  | some p =>
   rw [e1] at h
   cases e2:km r with
   | none=>rw [e2] at h; cases h
   | some ps'=>rw [e2] at h; cases h; rw [Ds e1,vy e2]; rfl
section
variable {X:Cx}
theorem vc {pins:List (Su×Obj)} {σ:St} {H:Hp} {s:SF} {O:List Su} (I:L2.Inv X pins σ H s):∀ {ps:List (List Key×D)} {ws:List V} {its:List Sq},bD X.K (hid H O) (ps.map fun p=>.tup [.tup (p.1.map fH),p.2]) ws->Vals ws its ->
  ∃ (L:List (List Key×Su×Sq)) (ks:List (List Key×V)),its.length=L.length/\(∀ (i:Nat) (v:Sq),its[i]?=some v->∃ (x:List Key×Su×Sq) (t:Su),L[i]?=some x/\v=.ref t/\s.heap.IsTuple t #[.ref x.2.1,x.2.2])/\KT H ks L/\ks.map (·.1)=ps.map (·.1)/\bD X.K (hid H O) (ps.map (·.2)) (ks.map (·.2))
 | [],ws,its,h,r=>by
  rw [O7,cU] at h
  subst h
  cases r
  exact⟨[],[],rfl,(fun i v e=>by simp at e),.nil,rfl,cU.mpr rfl⟩
 | p::ps,ws,its,h,r=>by
  rw [OB,bP] at h
  obtain⟨w,ws',rfl,h1,h2⟩:=h
  cases r with
  | @cons _ u _ us ru rr =>
   obtain⟨L,ks,l1,l2,l3,l4,l5⟩:=vc I h2 rr
   obtain⟨t,vs,rfl,t1,t2⟩:=cS.mp h1
   obtain⟨v1,v2,rfl,d1,d2⟩:=t2.two
   obtain⟨a,ks1,rfl,a1,a2⟩:=cS.mp d1
   rw [pT a2] at a1
   obtain⟨its',r',⟨o,q1,q2⟩,_⟩:=I.tuple (cn (K:=X.K) (aY H O) t1)
   obtain⟨x1,x2,rfl,rx1,rx2⟩:=vals2 r'
   cases rx1
   obtain rfl:u=Value.ref t:=ru
   refine⟨(p.1,a,x2)::L,(p.1,v2)::ks,by rw [OA,OA,l1],fun i v e=>?_,.cons ⟨rfl,(aY H O) _ _ a1,rx2⟩ l3,by rw [OB,OB,l4],bP.mpr ⟨v2,_,rfl,d2,l5⟩⟩
   cases i with
   | zero =>
    have e:Value.ref t=v:=by simpa using e
    subst e
    exact⟨_,t,rfl,rfl,o,q1,q2⟩
   | succ i=>exact l2 i v (by simpa using e)
theorem y6 {K:Rf} {H:Hp} {H0:Hp}:∀ {ps:List (List Key×D)} {ks:List (List Key×V)} {L:List (List Key×Su×Sq)} {al:List (List Key×D)} {kvs:List (List Key×V)} {xs:List (List Key×Su×Sq)},KT H ks L->ks.map (·.1)=ps.map (·.1)->bD K H0 (ps.map (·.2)) (ks.map (·.2)) ->
  KT H kvs xs->kvs.map (·.1)=al.map (·.1)->bD K H0 (al.map (·.2)) (kvs.map (·.2)) ->
  KT H (ks.foldl (fun m p=>putK m p.1 p.2) kvs) (L.foldl (fun xs x=>storedH xs x.1 x.2.1 x.2.2) xs)/\(ks.foldl (fun m p=>putK m p.1 p.2) kvs).map (·.1)=(ps.foldl (fun al p=>sR al p.1 p.2) al).map (·.1) /\
   bD K H0 ((ps.foldl (fun al p=>sR al p.1 p.2) al).map (·.2)) ((ks.foldl (fun m p=>putK m p.1 p.2) kvs).map (·.2))/\(ks.foldl (fun m p=>putK m p.1 p.2) kvs).length<=kvs.length+ks.length
 | [],[],_,al,kvs,xs,.nil,_,_,h1,h2,h3=>⟨h1,h2,h3,by simp⟩
 | p::ps,q::ks,_,al,kvs,xs,.cons (b:=x) hq hr,e,d,h1,h2,h3=>by
  rw [OB,OB] at e
  injection e with e1 e2
  rw [OB,OB,bP] at d
  obtain⟨v,vs,d0,d1,d2⟩:=d
  injection d0 with d0 d0'
  subst d0 d0'
  obtain⟨y1,y2,y3⟩:=hq
  have z1:=KT.put h1 q.1 y2 y3
  rw [y1] at z1
  have z2:=Fa h2 q.1 q.2 p.2
  have z3:=FZ (k:=q.1) d1 h2 h3
  have:=y6 (kvs:=putK kvs q.1 q.2) (al:=sR al q.1 p.2) (xs:=storedH xs x.1 x.2.1 x.2.2) hr e2 d2 (by rw [y1]; exact z1) z2 z3
  rw [QN,QN,QN,<- e1]
  refine⟨this.1,this.2.1,this.2.2.1,Og this.2.2.2 ?_⟩
  have:=zh kvs q.1 q.2
  rw [OA]; omega
 | [],_::_,_,_,_,_,_,e,_,_,_,_=>by cases e
 | _::_,[],_,_,_,_,_,e,_,_,_,_=>by cases e
theorem Aa (hc:X.calm=true) (hu:X.A.units+64 < Tg):et X (.type "dict") (zD X.K vN):=by
 intro pins s σ H xs us Q I r ⟨O,ds,d,hO,hd,hg,q⟩
 unfold vN at hg
 split at hg
 ·rename_i ys
  cases hp:km ys with
  | none=>rw [hp] at hg; cases hg
  | some ps =>
   rw [hp] at hg
   obtain⟨sm,rfl⟩:=bZ (show (if small ps.length then some (vP (vt ps)) else none)=some d from hg)
   obtain⟨v,rfl,h1⟩:=hd.one
   obtain⟨p,ws,rfl,g1,g2⟩:=cT.mp h1
   obtain⟨u,rfl,ru⟩:=vals1 r
   cases ru
   obtain⟨its,rv,⟨o,n,ho,hcl,hd',hdd⟩,hz⟩:=I.list ((aY H O).seq g1)
   rw [vy hp] at g2
   obtain⟨L,ks,l1,l2,l3,l4,l5⟩:=vc I g2 rv
   have kl:ks.length=ps.length:=by have:=congrArg List.length l4; simpa using this
   have ll:ks.length=L.length:=Paired.length l3
   have key:∀ {ks:List (List Key×V)} {L:List (List Key×Su×Sq)},KT H ks L->∀ x∈L,∀ h,Keeps s.heap h->(tupleKind (fq X.prog X.w)).is h x.1 x.2.1:=fun {ks L} kt=>by
    induction kt with
    | nil=>intro x hx; cases hx
    | cons hq _ ih =>
     intro x hx h kh
     rcases List.mem_cons.mp hx with z | z
     ·subst z
      obtain⟨e1,e2,_⟩:=hq
      rw [e1] at e2
      obtain⟨o,xs,n,k1,k2⟩:=AB I.hok e2
      exact⟨o,xs,n,kh _ _ k1,k2⟩
     ·exact ih x z h kh
   obtain⟨f1,f2,f3,f4⟩:=y6 (K:=X.K) (H:=H) (H0:=hid H O) (al:=[]) (kvs:=[]) (xs:=[]) l3 l4 l5 .nil rfl (cU.mpr rfl)
   have hsz:ps.length<=100000:=of_decide_eq_true sm
   have sl:Sx=16777216:=Ta
   refine sO (knd:=tupleKind (fq X.prog X.w)) (L:=L) ho hcl hdd hd' (I.ok.hd hc) (tupleKind_room_in1 (by rw [in1_units]; omega)) (by simpa using l1) ‹0› (fun i v e=>l2 i v (by simpa using e)) (key l3) fun h' tk kp di=>?_
   have hf:=I.hok.fresh (Ow s.heap.objs.size)
   obtain⟨⟨od,es,ep,k1,k2,k3,k4,k5⟩,_⟩:=di
   have kt':KT (upd H s.heap.objs.size (.dT (ks.foldl (fun m p=>putK m p.1 p.2) []))) (ks.foldl (fun m p=>putK m p.1 p.2) []) (L.foldl (fun xs x=>storedH xs x.1 x.2.1 x.2.2) []):=KT.keeps f1 fun b ys eb=>by rw [bF (fun z=>by rw [z,hf] at eb; cases eb)]; exact eb
   refine⟨.ref s.heap.objs.size,_,I.laid (t':=tk) kp (Ow _) (show dG X.prog X.w _ h' _ (.dT (ks.foldl (fun m p=>putK m p.1 p.2) [])) from ⟨by simp only [Ph] at f4; omega,beq_eq_false_iff_ne.mpr (Ne.symm (Of I.big)),_,kt',od,es,ep,k1,k2,k3,k4,k5⟩),rfl,?_⟩
   refine q _ _ (cz hf _) ?_
   have pO:=hO.not hf
   refine K9.mpr ⟨s.heap.objs.size,_,rfl,f3.mono (wq hf),.inr ⟨_,by rw [p4 pO]; exact cg,HY f2,rfl⟩⟩
 ·cases hg
end
def MA (al:List (List Key×D)) (q:List Key):Option D:=(al.find? fun p=>decide (p.1=q)).map (·.2)
def JG (ks ds:List D) (k x:D):Option D:=(xI ks ds).bind fun al=>(oQ k).bind fun q=>some ((MA al q).getD x)
def M7 (fo fk fx:FX):FX:=fun ρ=>(fo ρ).bind fun dd=>match dd with
 | .dct ks ds=>(fk ρ).bind fun k=>(fx ρ).bind fun x=>rO (JG ks ds k x)
 | _=>un
theorem Em {K:Rf} {H:Hp} {v:V} {al:List (List Key×D)} (h:dj K H (vP al) v) :
  ∃ a,v=.ref a/\((∃ kvs:List (List Key×V),H a=some (.dT kvs)/\kvs.map (·.1)=al.map (·.1)/\bD K H (al.map (·.2)) (kvs.map (·.2)))\/(H a=some (.dK [])/\al=[])):=by
 obtain⟨a,vs,e0,h2,h3⟩:=K9.mp h
 refine⟨a,e0,?_⟩
 rcases h3 with ⟨kvs,e,e1,e2⟩ | ⟨kvs,e,e1,e2⟩
 ·cases kvs with
  | nil=>exact .inr ⟨e,by simpa using e1⟩
  | cons p r =>
   cases al with
   | nil=>cases e1
   | cons q r' =>
    have e1:D.tup (q.1.map fH)::encK r'=fH p.1::r.map (fun p=>fH p.1):=e1
    injection e1 with e1 _
    rcases p with ⟨k,v⟩
    cases k <;> cases e1
 ·refine .inl ⟨kvs,e,?_,by rw [<- e2]; exact h2⟩
  exact(yw (ks:=kvs.map (·.1)) (by rw [QF]; exact e1)).symm
def rz (x y:D):Option D:=match y with
 | .dct ks ds=>(tG ks ds x).bind zE
 | _=>none
section
variable {X:Cx}
theorem Ck (hu:X.A.units+64 < Tg):j3 X (SU .NotIn) (rD X.K rz):=by
 intro pins s σ H x y u v Q I rx ry ⟨O,a,b,d,hO,ha,hb,hg,q⟩
 cases b with
 | dct ks ds =>
  have hg:(tG ks ds a).bind zE=some d:=hg
  cases e0:tG ks ds a with
  | none=>rw [e0] at hg; cases hg
  | some d0 =>
  rw [e0] at hg
  obtain⟨al,qk,f1,f2,f3,f4⟩:=Av e0
  subst f1 f2 f3 f4
  cases hg
  obtain⟨p,ey,hh⟩:=Em hb
  obtain⟨c,ws,ex,g1,g2⟩:=cS.mp ha
  rw [pT g2] at g1
  have g1':=(aY H O) _ _ g1
  subst ex ey
  cases ry
  rcases hh with ⟨kvs,k1,k2,k3⟩ | ⟨k1,rfl⟩
  ·have hv:=EH k2 qk
   rw [QE] at hv
   refine Bk ‹0› I (JN.t ((aY H O) _ _ k1) g1') rx fun s3 I3=>⟨.bl (!(oW kvs qk).isSome),H,I3,rfl,q _ H (bS.refl H) (j7.mpr ?_)⟩
   rw [hv]; rfl
  ·have k1':=(aY H O) _ _ k1
   have ne:c≠p:=fun z=>by rw [z,k1'] at g1'; cases g1'
   refine Bk (o:=oW [] qk) ‹0› (Ms I k1') (JN.t cg (by rw [bF ne]; exact g1')) rx fun s3 I4=>⟨.bl true,H,?_,rfl,q _ H (bS.refl H) (j7.mpr rfl)⟩
   have I5:=MY I4 cg
   rw [Ez k1'] at I5
   exact I5
 | _=>cases hg
end
def vn:List D->Option D
 | [.str x]=>some (.str x)
 | ds=>zL ds
theorem uC {X:Cx}:et X (.type "str") (zD X.K vn):=by
 intro pins s σ H xs us Q I r ⟨O,ds,d,hO,hd,hg,q⟩
 by_cases h:∃ x,ds=[.str x]
 ·obtain⟨x,rfl⟩:=h
  cases hg
  obtain⟨v,rfl,h1⟩:=hd.one
  obtain⟨u,rfl,ru⟩:=vals1 r
  rw [gz.mp h1] at ru
  obtain⟨t,rfl⟩:=ru
  exact PySem.P.str_of_str ⟨.str x,H,I,⟨_,rfl⟩,q _ H (bS.refl H) (gz.mpr rfl)⟩
 ·have e:vn ds=zL ds:=by
   unfold vn
   split
   ·rename_i x; exact absurd ⟨x,rfl⟩ h
   ·rfl
  rw [e] at hg
  exact vF pins s σ H xs us Q I r ⟨O,ds,d,hO,hd,hg,q⟩
end TG
namespace TG
open PySem PySem.Spec L2
variable [bp]
def zO (i:Nat) (fk:FX):FX:=fun ρ=>match ρ[i]? with
 | some (some (.own (.lst xs)))=>(fk ρ).bind fun k=>rO (aE (.lst xs) k)
 | _=>un
theorem ML {X:Cx} {x:Str} {b:SJ} {i:Nat} {fk:FX} {npos pos:Pos} (hx:PE X (.Name x npos) (qy i)) (hb:FE X b fk) (hs:oC b):FE X (.Subscript (.Name x npos) b pos) (zO i fk) :=
 PE.weak (Hq A9 hx hb hs) fun σ H Q ⟨O,ρ,E,hF⟩=>by
  unfold zO at hF
  split at hF
  ·rename_i xs hr
   obtain⟨a,ha,haO,hat⟩:=E.own i _ hr
   refine⟨.ref a,ha,O,ρ,E,(i3.bind hF).imp fun k hF y H1 s1 d1=>?_⟩
   obtain⟨d,hg,q⟩:=i3.rO hF
   obtain⟨o,vs,h1,h2,h3⟩:=hat
   subst h2
   cases k with
   | int j =>
    obtain⟨w,e1,e2⟩:=vJ h3 hg
    exact⟨a,vs,j,w,rfl,gE.mp d1,nN.of (s1 _ _ h1),e1,q w H1 s1 (e2.mono (de s1))⟩
   | _=>cases hg
  ·exact hF.elim
end TG
namespace TX
open PySem PySem.Spec L2 TG
variable [bp]
structure XE (X:Cx) (e:SJ) (F:FX):Prop where h:FE X e F
structure XT (X:Cx) (e:SJ) (F:az->R Bool):Prop where h:FT X e F
structure XW (X:Cx) (e:SJ) (F:az->R Bool):Prop where h:FW X e F
structure XA (X:Cx) (e:List SJ) (F:az->R (List D)):Prop where h:FA X e F
structure XS (X:Cx) (e:SL) (F:cB):Prop where h:FS X e F
structure BE (X:Cx) (e:List SL) (F:cB):Prop where h:Ac X e F
structure XI (X:Cx) (t e:SJ) (F:az->R (List D)):Prop where h:FI X t e F
structure XG (X:Cx) (e:SJ) (F:GF):Prop where h:FG X e F
structure LJ (X:Cx) (e:List SJ) (F:Dg):Prop where h:Ky X e F
structure XO (X:Cx) (e:Option SJ) (F:az->R (Option Int)):Prop where h:FO X e F
structure XN (X:Cx) (e:SJ) (F:FX):Prop where h:FN X e F
structure MP (X:Cx) (e:List SJ) (F:az->R Bool):Prop where h:LA X e F
structure XV (X:Cx) (e:SJ) (i:Nat):Prop where h:PE X e (qy i)
structure XB (X:Cx) (scope:SG) (N:List Str) (tg elt:SJ) (ifs:List SJ) (g:GF) (C:az->R Bool) (Fe:FX) (cl:List (Str×Su)) (C':Su) (fp:List Su) (s:SF) (H:Hp) (E:Sq->SF->Prop):Prop where
 a:XG (df X scope N cl C' fp s H E) tg g
 b:MP (df X scope N cl C' fp s H E) ifs C
 c:XE (df X scope N cl C' fp s H E) elt Fe
structure HU (X:Cx) (scope:SG) (N:List Str) (tg elt:SJ) (ifs:List SJ) (g:GF) (C:az->R Bool) (Fe:FX):Prop where
 q:∀ cl C' fp s H E,XB X scope N tg elt ifs g C Fe cl C' fp s H E
theorem HU.h {X:Cx} {scope:SG} {N:List Str} {tg elt:SJ} {ifs:List SJ} {g:GF} {C:az->R Bool} {Fe:FX} (x:HU X scope N tg elt ifs g C Fe):Lj X scope N tg elt ifs g C Fe:=fun cl C' fp s H E=>⟨(x.q cl C' fp s H E).a.h,(x.q cl C' fp s H E).b.h,(x.q cl C' fp s H E).c.h⟩
theorem xv {X:Cx} (i:Nat) {x:Str} {pos:Pos} (hN:X.N[i]?=some x:=by rfl) (hv:IC X.env.scope x:=by first | exact Or.inl rfl | exact Or.inr (Or.inl rfl) | exact Or.inr (Or.inr rfl)) (hd:(x==("__debug__":Str))=false:=by decide)
  (hcd:(x==("__classdict__":Str))=false:=by decide):XV X (.Name x pos) i:=⟨pv i hN hv hd hcd⟩
theorem uw {X:Cx} {e:SJ} {f:az->R Bool} (h:XW X e f):XT X e f:=⟨FW.ft h.h⟩
theorem yD {X:Cx} {i:Nat} {x:Str} {idx value:SJ} {fi fv:FX} {npos tpos pos:Pos} (hx:XV X (.Name x npos) i) (hi:XE X idx fi) (hv:XE X value fv)
  (hs:swapsWithSole [.Subscript (.Name x npos) idx tpos] value pos.line X.env=pure false:=by rfl) (hw:swappedStores [.Subscript (.Name x npos) idx tpos] value X.env=pure none:=by rfl)
  (h1:(assignEach [.Subscript (.Name x npos) idx tpos] X.env).map (·.2)=[assign (.Subscript (.Name x npos) idx tpos) X.env]:=by rfl)
  (ha:∀ v,assign (.Subscript (.Name x npos) idx tpos) X.env v=(do
   let ov <- holding [v] (eval (.Name x npos) X.env)
   let iv <- holding [v,ov] (eval idx X.env)
   standAt tpos
   holding [v,ov,iv] (setItem ov iv v)
   release [v,ov,iv] []):=by intro _; rfl):XS X (.Assign [.Subscript (.Name x npos) idx tpos] value pos) (nv i fi fv):=⟨Ge hx.h hi.h hv.h hs hw h1 (IL hx.h hi.h set_list ha)⟩
section
variable [bp] {X:Cx}
theorem aa {i:Nat} {x:Str} {pos:Pos} (h:XV X (.Name x pos) i):XE X (.Name x pos) (af i):=⟨TG.Mb h.h⟩
end
section
variable [bp] {X:Cx}
theorem ai {i j pos}:XE X (.Constant (.int i) j pos) (fC (.int i)):=⟨TG.Nu ⟩
end
section
variable [bp] {X:Cx}
theorem iJ {b j pos}:XE X (.Constant (.bool b) j pos) (fC (.bl b)):=⟨TG.NT ⟩
end
section
variable [bp] {X:Cx}
theorem qJ {j pos}:XE X (.Constant .none j pos) (fC .non):=⟨TG.Nj ⟩
end
section
variable [bp] {X:Cx}
theorem bG {x j pos}:XE X (.Constant (.str x) j pos) (fC (.str x)):=⟨TG.Nk ⟩
end
section
variable [bp] {X:Cx}
theorem aj :XA X [] ax:=⟨TG.Nt ⟩
end
section
variable [bp] {X:Cx}
theorem ae {e:SJ} {es:List SJ} {f:FX} {g:az->R (List D)} (he:XE X e f) (hs:XA X es g) (hns:noStar e=true:=by rfl):XA X (e::es) (ah f g):=⟨TG.Lr he.h hs.h hns⟩
end
section
variable [bp] {X:Cx}
theorem bC {es:List SJ} {g:az->R (List D)} {k pos} (h:XA X es g):XE X (.Tuple es k pos) (cY g):=⟨TG.Nn h.h⟩
end
section
variable [bp] {X:Cx}
theorem mL {es:List SJ} {g:az->R (List D)} {pos} (h:XA X es g):XE X (.List es pos) (mX g):=⟨TG.Ml h.h⟩
end
section
variable [bp] {X:Cx}
theorem ak {a b:SJ} {op:Operator} {r:R2} {g:D->D->Option D} {fa fb:FX} {pos:Pos} (ho:j3 X (S9 op) r) (s:dH X.K r g) (ha:XE X a fa) (hb:XE X b fb):XE X (.BinOp a op b pos) (f2 g fa fb):=⟨TG.MN ho s ha.h hb.h⟩
end
section
variable [bp] {X:Cx}
theorem eU {a b:SJ} {op:SR} {r:R2} {g:D->D->Option D} {fa fb:FX} {pos:Pos} (ho:j3 X (SU op) r) (s:dH X.K r g) (ha:XE X a fa) (hb:XE X b fb) (hm:SV op b=false):XE X (.Compare a [op] [b] pos) (f2 g fa fb):=⟨TG.My ho s ha.h hb.h hm⟩
end
section
variable [bp] {X:Cx}
theorem aR {a b:SJ} {op:SR} {r:R2} {g:D->D->Option D} {fa fb:FX} {pos:Pos} (ho:j3 X (SU op) r) (s:dH X.K r g) (ha:XE X a fa) (hb:XE X b fb) (hm:SV op b=false):XT X (.Compare a [op] [b] pos) (fB (f2 g fa fb)):=⟨TG.Md ho s ha.h hb.h hm⟩
end
section
variable [bp] {X:Cx} {a b c:SJ} {rest:List SJ} {pos:Pos} {f g:az->R Bool}
theorem dM (h:XT X a f):XT X (.UnaryOp .Not a pos) (jT f):=⟨TG.Mo h.h⟩
end
section
variable [bp] {X:Cx} {a b c:SJ} {rest:List SJ} {pos:Pos} {f g:az->R Bool}
theorem e7 (h:XT X a f):XW X (.BoolOp .And [a] pos) f:=⟨TG.L0 h.h⟩
end
section
variable [bp] {X:Cx} {a b c:SJ} {rest:List SJ} {pos:Pos} {f g:az->R Bool}
theorem ib (h:XT X a f):XW X (.BoolOp .Or [a] pos) f:=⟨TG.Nq h.h⟩
end
section
variable [bp] {X:Cx} {a b c:SJ} {rest:List SJ} {pos:Pos} {f g:az->R Bool}
theorem fS (ha:XT X a f) (hb:XW X (.BoolOp .And (b::rest) pos) g):XW X (.BoolOp .And (a::b::rest) pos) (gG f g):=⟨TG.ND ha.h hb.h⟩
end
section
variable [bp] {X:Cx} {a b c:SJ} {rest:List SJ} {pos:Pos} {f g:az->R Bool}
theorem jf (ha:XT X a f) (hb:XW X (.BoolOp .Or (b::rest) pos) g):XW X (.BoolOp .Or (a::b::rest) pos) (yc f g):=⟨TG.NX ha.h hb.h⟩
end
section
variable [bp] {X:Cx} {a b c:SJ} {rest:List SJ} {pos:Pos} {f g:az->R Bool} {fa fb:FX}
theorem fP {op} (h:XE X a fa):XE X (.BoolOp op [a] pos) fa:=⟨TG.Nv h.h⟩
end
section
variable [bp] {X:Cx} {a b c:SJ} {rest:List SJ} {pos:Pos} {f g:az->R Bool} {fa fb:FX}
theorem ik (ha:XE X a fa) (hb:XE X (.BoolOp .And (b::rest) pos) fb):XE X (.BoolOp .And (a::b::rest) pos) (jU fa fb):=⟨TG.Ni ha.h hb.h⟩
end
section
variable [bp] {X:Cx} {a b c:SJ} {rest:List SJ} {pos:Pos} {f g:az->R Bool} {fa fb:FX}
theorem AH (ha:XE X a fa) (hb:XE X (.BoolOp .Or (b::rest) pos) fb):XE X (.BoolOp .Or (a::b::rest) pos) (Ca fa fb):=⟨TG.NR ha.h hb.h⟩
end
section
variable [bp] {X:Cx} {a b c:SJ} {rest:List SJ} {pos:Pos} {f g:az->R Bool} {fa fb:FX}
theorem xZ (ha:XE X a fa):XE X (.UnaryOp .Not a pos) (uV fa):=⟨TG.NI ha.h⟩
end
section
variable [bp] {X:Cx} {a b c:SJ} {rest:List SJ} {pos:Pos} {f g:az->R Bool} {fa fb:FX}
theorem Ax (hc:XT X c f) (ha:XE X a fa) (hb:XE X b fb):XE X (.IfExp c a b pos) (Jp f fa fb):=⟨TG.NK hc.h ha.h hb.h⟩
end
section
variable [bp] {X:Cx}
theorem aB {a b:SJ} {fa fb:FX} {pos:Pos} (ha:XE X a fa) (hb:XE X b fb) (hs:oC b):XE X (.Subscript a b pos) (f2 aE fa fb):=⟨TG.NQ ha.h hb.h hs⟩
end
section
variable [bp] {X:Cx}
theorem bN :XO X none aK:=⟨TG.LD ⟩
end
section
variable [bp] {X:Cx}
theorem bj {e:SJ} {f:FX} (h:XE X e f):XO X (some e) (bi f):=⟨TG.L5 h.h⟩
end
section
variable [bp] {X:Cx}
theorem bg {e:SJ} {f:FX} {l h:az->R (Option Int)} {lo hi:Option SJ} {p2 pos:Pos} (he:XE X e f) (hl:XO X lo l) (hh:XO X hi h):XE X (.Subscript e (.Slice lo hi none p2) pos) (aV f l h):=⟨TG.JM he.h hl.h hh.h⟩
end
section
variable [bp] {X:Cx} {x:Str} {p pos:Pos} {e:SJ} {es:List SJ} {id T:String} {g:List D->Option D} {f:az->R (List D)}
theorem aX (hc:et X (.builtin id) (zD X.K g)) (hg:Gl X x) (hm:X.mg x=none) (hv:SD x=some (.builtin id)) (ha:XA X (e::es) f) (hn:x ≠ "__name__":=by decide) (hdb:(x==("__debug__":Str))=false:=by decide) (hns:(e::es).all noStar=true:=by rfl):XE X (.Call (.Name x p) (e::es) [] pos) (fL g f):=⟨TG.J2 hc hg hm hv ha.h hn hdb hns⟩
end
section
variable [bp] {X:Cx} {x:Str} {p pos:Pos} {e:SJ} {es:List SJ} {id T:String} {g:List D->Option D} {f:az->R (List D)}
theorem bA (hc:et X (.type T) (zD X.K g)) (hg:Gl X x) (hm:X.mg x=none) (hv:SD x=some (.type T)) (ha:XA X (e::es) f) (hn:x ≠ "__name__":=by decide) (hdb:(x==("__debug__":Str))=false:=by decide) (hns:(e::es).all noStar=true:=by rfl):XE X (.Call (.Name x p) (e::es) [] pos) (fL g f):=⟨TG.Jr hc hg hm hv ha.h hn hdb hns⟩
end
section
variable [bp] {X:Cx} {x:Str} {p pos:Pos} {e:SJ} {es:List SJ} {id T:String} {g:List D->Option D} {f:az->R (List D)}
theorem eR {f:FX} {xT:Str} {p2:Pos} (ok:yq X.K T) (hg:Gl X "isinstance") (hm:X.mg "isinstance"=none) (hgT:Gl X xT) (hmT:X.mg xT=none) (hvT:SD xT=some (.type T)) (he:XE X e f) (hn2:xT ≠ "__name__":=by decide) (hd2:(xT==("__debug__":Str))=false:=by decide) (hns:noStar e=true:=by rfl):XE X (.Call (.Name "isinstance" p) [e,.Name xT p2] [] pos) (lP T f):=⟨TG.MV ok hg hm hgT hmT hvT he.h hn2 hd2 hns⟩
end
section
variable [bp] {X:Cx} {a:SJ} {f:FX} {pos:Pos}
theorem Fu {j pos'} (h:XE X a f):XT X (.Compare a [.Is] [.Constant .none j pos'] pos) (fB (D8 f)):=⟨TG.MM h.h⟩
end
section
variable [bp] {X:Cx} {a:SJ} {f:FX} {pos:Pos}
theorem bI (h:XE X a f) (he:∀ whole,isTrue a X.env whole=(do let v <- whole; standAt a.pos; holding [v] (truthy v)):=by intro _; rfl):XT X a (cu f):=⟨TG.JI h.h he⟩
end
section
variable [bp] {X:Cx} {tg:SJ}
theorem cA {e:SJ} {f:FX} (h:XE X e f):XI X tg e (bT f):=⟨TG.Ma h.h⟩
end
section
variable [bp] {X:Cx} {tg:SJ}
theorem dh {a:SJ} {f:az->R (List D)} {p pos:Pos} (hg:Gl X "range") (hm:X.mg "range"=none) (ha:XA X [a] f) (hs:SK [a] X.env=[(false,eval a X.env)]:=by rfl):XI X tg (.Call (.Name "range" p) [a] [] pos) (cy f):=⟨TG.Jn hg hm ha.h hs⟩
end
section
variable [bp] {X:Cx} {pos:Pos}
theorem aS {i:Nat} {x:Str} (hN:X.N.Nodup) (hi:X.N[i]?=some x) (hx:Loc X.env.scope x) (hf:X.fn x=true\/X.env.scope.names.lookup x=some .local:=by first | exact .inl rfl | exact .inr rfl | assumption):XG X (.Name x pos) (gN i):=⟨TG.Lh hN hi hx hf⟩
end
section
variable [bp] {X:Cx} {pos:Pos}
theorem jX :LJ X [] EB:=⟨TG.K6 ⟩
end
section
variable [bp] {X:Cx} {pos:Pos}
theorem dI {e:SJ} {es:List SJ} {g:GF} {h:Dg} (h1:XG X e g) (h2:LJ X es h) (hs:(assignEach (e::es) X.env).map (·.2)=assign e X.env::(assignEach es X.env).map (·.2):=by rfl):LJ X (e::es) (Aq g h):=⟨TG.J3 h1.h h2.h hs⟩
end
section
variable [bp] {X:Cx} {pos:Pos}
theorem mO {es:List SJ} {k:Nat} {g:Dg} {n:Nat} (hc:X.calm=true) (h:LJ X es g) (hn:(assignEach es X.env).length=n:=by rfl) (hst:(assignEach es X.env).findIdx? (·.1)=none:=by rfl):XG X (.Tuple es k pos) (gT n g):=⟨TG.Nb hc h.h hn hst⟩
end
section
variable [bp]
theorem cp {X:Cx}:MP X [] cK:=⟨TG.Lb ⟩
end
section
variable [bp]
theorem eL {X:Cx} {c:SJ} {F:az->R Bool} (h:XT X c F):MP X [c] F:=⟨TG.Lw h.h⟩
end
section
variable [bp] {X:Cx} {elt tg iter:SJ} {ifs:List SJ} {scope:SG} {pos:Pos} {N:List Str} {ix:List (Option Nat)} {G:az->R (List D)} {g:GF} {C:az->R Bool} {Fe:FX}
theorem cR (hc:X.calm=true) (ok:ou X scope N ix) (tk:yF ix g) (hi:XI X tg iter G) (hb:HU X scope N tg elt ifs g C Fe) (hs:∀ x,S8 iter X.env x=pure x:=by intro _; rfl):XE X (.ListComp elt [⟨tg,iter,ifs,0⟩] scope pos) (gR ix G g C Fe):=⟨TG.NW hc ok tk hi.h hb.h hs⟩
end
section
variable [bp] {X:Cx} {st:SL} {rest body:List SL} {pos:Pos}
theorem aO :BE X [] cG:=⟨TG.LV ⟩
end
section
variable [bp] {X:Cx} {st:SL} {rest body:List SL} {pos:Pos}
theorem ao {F1 F2:cB} (h1:XS X st F1) (h2:BE X rest F2):BE X (st::rest) (aN F1 F2):=⟨TG.JR h1.h h2.h⟩
end
section
variable [bp] {X:Cx} {st:SL} {rest body:List SL} {pos:Pos}
theorem ay {F1:cB} (h1:XS X st F1):BE X [st] F1:=⟨TG.LC h1.h⟩
end
section
variable [bp] {X:Cx} {st:SL} {rest body:List SL} {pos:Pos}
theorem aC {e:SJ} {f:FX} (h:XE X e f):XS X (.Return (some e) pos) (bH f):=⟨TG.NF h.h⟩
end
section
variable [bp] {X:Cx} {st:SL} {rest body:List SL} {pos:Pos}
theorem bM {c:SJ} {a b:List SL} {tc:az->R Bool} {A B:cB} (hc:XT X c tc) (ha:BE X a A) (hb:BE X b B):XS X (.If c a b pos) (iq tc A B):=⟨TG.NN hc.h ha.h hb.h⟩
end
section
variable [bp] {X:Cx} {st:SL} {rest body:List SL} {pos:Pos}
theorem aF {i:Nat} {x:Str} {e:SJ} {f:FX} {pos':Pos} (hN:X.N.Nodup) (hi:X.N[i]?=some x) (hx:Loc X.env.scope x) (he:XE X e f) (hs:swapsWith e (some (.Name x pos')) pos.line X.env=pure false:=by rfl) (hf:X.fn x=true\/X.env.scope.names.lookup x=some .local:=by first | exact .inl rfl | exact .inr rfl | assumption):XS X (.Assign [.Name x pos'] e pos) (bO i f):=⟨TG.Ny hN hi hx he.h hs hf⟩
end
section
variable [bp] {X:Cx} {st:SL} {rest body:List SL} {pos:Pos}
theorem nO {elt tg iter:SJ} {ifs:List SJ} {scope:SG} {N:List Str} {ix:List (Option Nat)} {G:az->R (List D)} {g:GF} {C:az->R Bool} {Fe:FX} {i:Nat} {y:Str} {lpos py spos:Pos} (hN:X.N.Nodup) (hi':X.N[i]?=some y) (hx:Loc X.env.scope y) (hc:X.calm=true) (ok:ou X scope N ix) (tk:yF ix g) (hi:XI X tg iter G) (hb:HU X scope N tg elt ifs g C Fe) (hsw:swapsWith (.ListComp elt [⟨tg,iter,ifs,0⟩] scope lpos) (some (.Name y py)) spos.line X.env=pure true:=by rfl) (hs:∀ x,S8 iter X.env x=pure x:=by intro _; rfl) (hf:X.fn y=true\/X.env.scope.names.lookup y=some .local:=by first | exact .inl rfl | exact .inr rfl | assumption):XS X (.Assign [.Name y py] (.ListComp elt [⟨tg,iter,ifs,0⟩] scope lpos) spos) (bO i (gR ix G g C Fe)):=⟨TG.NM hN hi' hx hc ok tk hi.h hb.h hsw hs hf⟩
end
section
variable [bp] {X:Cx} {st:SL} {rest body:List SL} {pos:Pos}
theorem Hc {tg e:SJ} {f:FX} {g:GF} (he:XE X e f) (hg:XG X tg g) (hs:swapsWithSole [tg] e pos.line X.env=pure false:=by rfl) (hw:swappedStores [tg] e X.env=pure none:=by rfl) (h1:(assignEach [tg] X.env).map (·.2)=[assign tg X.env]:=by rfl):XS X (.Assign [tg] e pos) (Gs f g):=⟨TG.Nw he.h hg.h hs hw h1⟩
end
section
variable [bp] {X:Cx} {st:SL} {rest body:List SL} {pos:Pos}
theorem tD :XS X st yg:=⟨TG.Li ⟩
end
section
variable [bp] {X:Cx} {st:SL} {rest body:List SL} {pos:Pos}
theorem dZ {st:List SL} {F:cB} (is:List Nat) (h:BE X st F):BE X st (fZ is F):=⟨TG.J7 is h.h⟩
end
section
variable [bp] {X:Cx} {st:SL} {rest body:List SL} {pos:Pos}
theorem mP {tg iter:SJ} {G:az->R (List D)} {g:GF} {B:cB} (hp:S4 (model X.prog X.w) X.A X.env X.xe) (hc:X.calm=true) (hi:XI X tg iter G) (hg:XG X tg g) (hb:BE X body B) (hs:∀ x,S8 iter X.env x=pure x:=by intro _; rfl):XS X (.For tg iter body [] pos) (pW G g B):=⟨TG.MF hp hc hi.h hg.h hb.h hs⟩
end
section
variable [bp] {X:Cx} {st:SL} {rest body:List SL} {pos:Pos}
theorem uN {c:SJ} {tc:az->R Bool} {B:cB} (n:Nat) (hp:S4 (model X.prog X.w) X.A X.env X.xe) (hc:XT X c tc) (hb:BE X body B):XS X (.While c body [] pos) (mq n tc B):=⟨TG.JS n hp hc.h hb.h⟩
end
section
variable [bp] {X:Cx} {pos:Pos}
theorem oE {es:List SJ} {g:az->R (List D)} (h:XA X es g):XN X (.List es pos) (mX g):=⟨TG.Mh h.h⟩
end
section
variable [bp] {X:Cx} {pos:Pos}
theorem DH {x:Str} {p:Pos} {e:SJ} {f:az->R (List D)} (hg:Gl X x) (hm:X.mg x=none) (hv:SD x=some (.type "list")) (ha:XA X [e] f) (hn:x ≠ "__name__":=by decide) (hdb:(x==("__debug__":Str))=false:=by decide) (hns:noStar e=true:=by rfl):XN X (.Call (.Name x p) [e] [] pos) (fL kZ f):=⟨TG.LO hg hm hv ha.h hn hdb hns⟩
end
section
variable [bp] {X:Cx} {pos:Pos}
theorem mU {i:Nat} {x:Str} {e:SJ} {f:FX} {pos':Pos} (hN:X.N.Nodup) (hi:X.N[i]?=some x) (hx:Loc X.env.scope x) (he:XN X e f) (hs:swapsWith e (some (.Name x pos')) pos.line X.env=pure false:=by rfl) (hf:X.fn x=true\/X.env.scope.names.lookup x=some .local:=by first | exact .inl rfl | exact .inr rfl | assumption):XS X (.Assign [.Name x pos'] e pos) (ui i f):=⟨TG.M6 hN hi hx he.h hs hf⟩
end
section
variable [bp]
theorem qb {X : Cx} {i : Nat} {x m : Str} {id : String} {r : V -> List V -> Hp -> VK -> Prop} {u : List D -> List D -> Option (List D)} {e : SJ} {es : List SJ} {f : az -> R (List D)} {npos apos cpos pos : Pos} (slot : Slot "list" m id) (hty : typeOf (.builtin id) = pure (.type "method_descriptor")) (hm : Ls X id r) (ok : Bo X.K r u) (hx : XV X (.Name x npos) i) (he : XA X (e :: es) f) (hbase : Tc (.Name x npos) m X.env (eval (.Name x npos) X.env) = eval (.Name x npos) X.env := by rfl) (hfew : ((backTo cpos (SK (e :: es) X.env)).all (fun x => !x.1) && (backToKw cpos (Te [] X.env)).all (fun x => x.1.isSome)
      && decide ((e::es:List SJ).length+([]:List TJ).length+(if ([]:List TJ).isEmpty then 0 else 1) < 30))=true:=by rfl) (hline:(apos.endLine==cpos.line)=true:=by rfl) (hs:SK (e::es) X.env=(false,eval e X.env)::SK es X.env:=by rfl) (hplain:(backTo cpos (SK es X.env)).any (·.1)=false:=by rfl) (hsw:swapsWith (.Call (.Attribute (.Name x npos) m apos) (e::es) [] cpos) none pos.line X.env=pure false:=by rfl):XS X (.Expr (.Call (.Attribute (.Name x npos) m apos) (e::es) [] cpos) pos) (zH i u f):=⟨TG.NU slot hty hm ok hx.h he.h hbase hfew hline hs hplain hsw⟩
end
section
variable [bp]
theorem jO {X:Cx} {st:List SL} {F:cB} (i:Nat) (h:BE X st F):BE X st (pE i F):=⟨TG.Lv i h.h⟩
end
section
variable [bp]
theorem ot {X:Cx} {e:SJ} {f:az->R Bool} (is:List Nat) (h:XT X e f):XT X e (dU is f):=⟨TG.LW is h.h⟩
end
section
variable [bp]
theorem au {X:Cx} {k k':Nat} {ps:List Str} {g:List D->R D} {h:az->R (List D)} {x:Str} {p pos:Pos} {e:SJ} {es:List SJ} (C:Callee X.prog X.w X.K X.mg X.base k x ps g) (hn:Ar ps.length g) (hr:fG k' X.A) (hk:k<=k') (ha:XA X (e::es) h) (hg:Gl X x:=by rfl) (hdb:(x==("__debug__":Str))=false:=by decide) (hns:(e::es).all noStar=true:=by rfl):XE X (.Call (.Name x p) (e::es) [] pos) (fR g h):=⟨TG.Jo C hn hr hk ha.h hg hdb hns⟩
end
section
variable [bp] {X:Cx} {a b c:SJ} {fa fb fc:FX} {pos:Pos}
theorem vC {op op':SR} {r r':R2} {g g':D->D->Option D} (ho:j3 X (SU op) r) (s:dH X.K r g) (ho':j3 X (SU op') r') (s':dH X.K r' g') (ha:XE X a fa) (hb:XE X b fb) (hc:XE X c fc) (hm:lastMarks [op,op'] [b,c]=false:=by with_unfolding_all rfl):XE X (.Compare a [op,op'] [b,c] pos) (qc g g' fa fb fc):=⟨TG.KY ho s ho' s' ha.h hb.h hc.h hm⟩
end
section
variable [bp] {X:Cx} {a b c:SJ} {fa fb fc:FX} {pos:Pos}
theorem AV (ha:XE X a fa):XE X (.UnaryOp .USub a pos) (DQ fa):=⟨TG.MB ha.h⟩
end
section
variable [bp] {X:Cx} {a b c:SJ} {fa fb fc:FX} {pos:Pos}
theorem A5 {st:SJ} {p2:Pos} (he:XE X a fa) (hst:PE X st (LK (rU fun i=>.int (-i)) (tC (.int 1)))):XE X (.Subscript a (.Slice none none (some st) p2) pos) (Du fa):=⟨TG.MD he.h hst⟩
end
section
variable [bp] {X:Cx}
theorem BJ {a b:SJ} {es:List SJ} {k:Nat} {tpos:Pos} {f:az->R (List D)} {p pos:Pos} (hg:Gl X "zip") (hm:X.mg "zip"=none) (ha:XA X [a,b] f) (hs:SK [a,b] X.env=(false,eval a X.env)::SK [b] X.env:=by rfl) (hpl:(backTo pos (SK [b] X.env)).any (·.1)=false:=by rfl):XI X (.Tuple es k tpos) (.Call (.Name "zip" p) [a,b] [] pos) (C7 f):=⟨TG.Mq hg hm ha.h hs hpl⟩
end
section
variable [bp] {X:Cx}
theorem t9 {a:SJ} {es:List SJ} {k:Nat} {tpos:Pos} {f:az->R (List D)} {p pos:Pos} (hg:Gl X "enumerate") (hm:X.mg "enumerate"=none) (ha:XA X [a] f) (hs:SK [a] X.env=(false,eval a X.env)::SK [] X.env:=by rfl) (hpl:(backTo pos (SK [] X.env)).any (·.1)=false:=by rfl):XI X (.Tuple es k tpos) (.Call (.Name "enumerate" p) [a] [] pos) (ka f):=⟨TG.FY hg hm ha.h hs hpl⟩
end
section
variable [bp] {X:Cx} {a o e:SJ} {es:List SJ} {fa fo:FX} {fas:az->R (List D)} {f m x:Str} {cs:List Str} {pos apos p:Pos} {k k':Nat} {ps:List Str}
theorem cX (ok:gP X.K f cs) (h:XE X a fa) (hb:Tc a f X.env (eval a X.env)=eval a X.env:=by rfl):XE X (.Attribute a f pos) (f1 (gY f cs) fa):=⟨TG.M9 ok h.h hb⟩
end
section
variable [bp] {X:Cx} {a o e:SJ} {es:List SJ} {fa fo:FX} {fas:az->R (List D)} {f m x:Str} {cs:List Str} {pos apos p:Pos} {k k':Nat} {ps:List Str}
theorem jp {tbl : List (Str × (List D -> R D))} {pl : Sem Bool} (tb : fF X.prog X.w X.K X.mg X.base k m ps tbl) (hr : fG k' X.A) (hk : k <= k') (ho : XE X o fo) (ha : XA X (e :: es) fas) (hns : (e :: es).all noStar = true := by rfl) (ht : eval (.Call (.Attribute o m apos) (e :: es) [] pos) X.env = (do
      let ov <- eval o X.env
      standAt apos.atName
      let (f,first) <- holding [ov] (getMethod ov m pl)
      Td pos f first (backTo pos (SK (e::es) X.env)) (backToKw pos (Te [] X.env))):=by rfl):XE X (.Call (.Attribute o m apos) (e::es) [] pos) (iC m tbl fo fas):=⟨TG.K7 tb hr hk ho.h ha.h hns ht⟩
end
section
variable [bp] {X:Cx} {a o e:SJ} {es:List SJ} {fa fo:FX} {fas:az->R (List D)} {f m x:Str} {cs:List Str} {pos apos p:Pos} {k k':Nat} {ps:List Str}
theorem CZ {tbl : List (Str × (List D -> R D))} {pl : Sem Bool} (tb : fF X.prog X.w X.K X.mg X.base k m ps tbl) (hr : fG k' X.A) (hk : k <= k') (ho : XE X o fo) (ht : eval (.Call (.Attribute o m apos) [] [] pos) X.env = (do
      let ov <- eval o X.env
      standAt apos.atName
      let (f,first) <- holding [ov] (getMethod ov m pl)
      Td pos f first (backTo pos (SK [] X.env)) (backToKw pos (Te [] X.env))):=by rfl):XE X (.Call (.Attribute o m apos) [] [] pos) (iC m tbl fo ax):=⟨TG.JO tb hr hk ho.h ht⟩
end
section
variable [bp] {X:Cx} {a o e:SJ} {es:List SJ} {fa fo:FX} {fas:az->R (List D)} {f m x:Str} {cs:List Str} {pos apos p:Pos} {k k':Nat} {ps:List Str}
theorem Fq {c:Str} {fs:List Str} (IA:tL X.prog X.w X.K X.mg X.base k c ps fs) (hr:fG k' X.A) (hk:k+1<=k') (hg:Gl X c) (ha:XA X (e::es) fas) (hdb:(c==("__debug__":Str))=false:=by decide) (hns:(e::es).all noStar=true:=by rfl):XE X (.Call (.Name c p) (e::es) [] pos) (fNew c fs fas):=⟨TG.Ng IA hr hk hg ha.h hdb hns⟩
end
section
variable [bp] {X:Cx}
theorem oR {a e : SJ} {es : List SJ} {fa : FX} {fs : az -> R (List D)} {apos cpos : Pos} (ha : XE X a fa) (hs : XA X (e :: es) fs) (hbase : Tc a "join" X.env (eval a X.env) = eval a X.env := by rfl) (hfew : ((backTo cpos (SK (e :: es) X.env)).all (fun x => !x.1) && (backToKw cpos (Te [] X.env)).all (fun x => x.1.isSome)
      && decide ((e::es).length+([]:List TJ).length+(if ([]:List TJ).isEmpty then 0 else 1) < 30))=true:=by rfl) (hline:(apos.endLine==cpos.line)=true:=by rfl) (hst:SK (e::es) X.env=(false,eval e X.env)::SK es X.env:=by rfl) (hplain:(backTo cpos (SK es X.env)).any (·.1)=false:=by rfl):XE X (.Call (.Attribute a "join" apos) (e::es) [] cpos) (mh fa fs):=⟨TG.Lf ha.h hs.h hbase hfew hline hst hplain⟩
end
section
variable [bp] {X:Cx} {p pos:Pos} {e:SJ} {C:Su}
theorem Eg {f:FX} {x:Str} {p2:Pos} {cs:List Str} (h:BF X.K X.mg x cs) (hg:Gl X "isinstance") (hm:X.mg "isinstance"=none) (hgx:Gl X x) (he:XE X e f) (hd2:(x==("__debug__":Str))=false:=by decide) (hns:noStar e=true:=by rfl):XE X (.Call (.Name "isinstance" p) [e,.Name x p2] [] pos) (f1 (yM cs) f):=⟨TG.Ln h hg hm hgx he.h hd2 hns⟩
end
section
variable [bp] {X:Cx} {pins:List (Su×Obj)} {s:SF} {σ:L2.St} {H:Hp} {O:List Su}
theorem B5 {f:FX} {j:Nat} {k:Nat} {c P cc:Su} {e:SJ} {p lpos kp pos np mp p2 spos:Pos} {row many:Str} {params:To} {scope:SG} (hr:fG k X.A) (hg:Gl X "sorted") (hm:X.mg "sorted"=none) (B:BZ X.mg X.base c P) (hcode:X.env.code=.ref c) (hT:∀ H,bp.tab H->H P=some (.ext (oz P lpos (X.env.qual ++ "<lambda>")))) (he:XE X e f) (hN:X.N[j]?=some many) (hkm:X.env.kindOf many=some .cell) (hv:IC X.env.scope many) (hcc:X.env.cells.lookup many=some cc) (hcl:closureFor scope X.env=pure [(many,cc)]) (hdef:defaultsOf params X.env=([],[])) (hbind:∀ cdv ctv v,bindArgs (RE "<lambda>" (X.env.qual ++ "<lambda>") params (cutE row many np mp p2 spos) scope [(many,cc)] ((X.mg "__name__").getD .none) cdv ctv) ⟨[v],[]⟩=pure [(row,v)]) (hco:scope.isCoroutine=false) (hgen:scope.isGenerator=false) (hk:scope.kind=.function) (hno:∀ x∈scope.names,x.2≠.cell) (hlr:scope.names.lookup row=some .local) (hlm:scope.names.lookup many=some .free) (d1:(row==("__debug__":Str))=false) (d2:(many==("__debug__":Str))=false) (d3:(many==("__classdict__":Str))=false) (hns:noStar e=true:=by rfl):XE X (.Call (.Name "sorted" p) [e] [⟨some "key",.Lambda params (cutE row many np mp p2 spos) scope lpos,kp⟩] pos) (f2 pX f (af j)):=⟨TG.J6 hr hg hm B hcode hT he.h hN hkm hv hcc hcl hdef hbind hco hgen hk hno hlr hlm d1 d2 d3 hns⟩
end
section
variable [bp]
theorem Gj {X:Cx} {x:Str} {b:SJ} {i:Nat} {fk:FX} {npos pos:Pos} (hx:XV X (.Name x npos) i) (hb:XE X b fk) (hs:oC b):XE X (.Subscript (.Name x npos) b pos) (zO i fk):=⟨TG.ML hx.h hb.h hs⟩
end
abbrev Lk (K:Rf) (f:Su) (nm qual:Str) (st:SL) (oc:Sq) (od:Option Su) (kV dc pm:Sq) (an:Option Su) (cd ct:Sq) (sl:Array (Option Sq)):Prop:=K.lookup f=some ⟨oc,od,.func (Rw nm qual (mz st) (fA st) (aA st) .none kV dc pm an cd ct),sl⟩
structure bU (P:Ss) (w:Sr) (K:Rf) (mg:Str->Option Sq) (base:Sw) (k:Nat) (N:List Str) (qual:Str) (st:SL) (f:Su) (B:cB):Prop where
 h:∀ (cdv:Sq) (A:SE) (outer:List Env) (s:SF) (H:Hp) (E:XK),fG k (A.deeper (RZ qual (aA st) s.heap.objs.size f cdv))->S4 (model P w) (A.deeper (RZ qual (aA st) s.heap.objs.size f cdv)) (RZ qual (aA st) s.heap.objs.size f cdv) (jL (nh P w) P w K mg base N qual (aA st) f cdv A outer s H E).xe ->
  BE (jL (nh P w) P w K mg base N qual (aA st) f cdv A outer s H E) (fA st) B
structure DT (P:Ss) (w:Sr) (K:Rf) (mg:Str->Option Sq) (base:Sw) (k:Nat) (N:List Str) (qual:Str) (st:SL) (f:Su) (B:cB):Prop where
 h:∀ (cdv:Sq) (A:SE) (outer:List Env) (s:SF) (H:Hp) (E:XK),vD K f cdv->fG k (A.deeper (RZ qual (aA st) s.heap.objs.size f cdv))->S4 (model P w) (A.deeper (RZ qual (aA st) s.heap.objs.size f cdv)) (RZ qual (aA st) s.heap.objs.size f cdv) (jL (nh P w) P w K mg base N qual (aA st) f cdv A outer s H E).xe ->
  BE (jL (nh P w) P w K mg base N qual (aA st) f cdv A outer s H E) (fA st) B
theorem DT.ok {P:Ss} {w:Sr} {K:Rf} {mg:Str->Option Sq} {base:Sw} {k:Nat} {N:List Str} {qual:Str} {st:SL} {f:Su} {B:cB} (h:DT P w K mg base k N qual st f B):xJ P w K mg base k N qual st f B:=⟨fun cdv A outer s H E hc hr hp=>(h.h cdv A outer s H E hc hr hp).h⟩
theorem bU.ok {P:Ss} {w:Sr} {K:Rf} {mg:Str->Option Sq} {base:Sw} {k:Nat} {N:List Str} {qual:Str} {st:SL} {f:Su} {B:cB} (h:bU P w K mg base k N qual st f B):BodyOk P w K mg base k N qual st f B:=⟨fun cdv A outer s H E hr hp=>(h.h cdv A outer s H E hr hp).h⟩
end TX
namespace TG
open L2
instance (priority:=low) noTabs:bp:=⟨fun _=>True,fun _ _=>trivial,fun _ _ _=>trivial⟩
end TG
namespace TG
open PySem PySem.Spec L2
theorem nr {α:Sort _} {a b:α} (h:a=b):a=b:=h
theorem fM {α β:Type} (a:α) (f:α->R β):Except.bind (Except.ok a:R α) f=f a:=nr rfl
theorem Bb {α β:Type} (x:Option Ex) (f:α->R β):Except.bind (Except.error x:R α) f=.error x:=nr rfl
theorem nz {α:Type} (a:α) (k:Ks) (ρ:az) (f:α->R D):rH (.ok a) k ρ f=f a:=nr rfl
theorem AU {α:Type} (x:Ex) (k:Ks) (ρ:az) (f:α->R D):rH (.error (some x)) k ρ f=k.ex x ρ:=nr rfl
theorem m9 {α:Type} (a:α):De (.ok a:R α)=.ok a:=nr rfl
theorem ie {α:Type} (a:α):rO (some a)=.ok a:=nr rfl
theorem ge_0 (d:D) (ρ:az):sf (some (.val d)::ρ) 0=.ok d:=nr rfl
theorem FP (x:Option S) (ρ:az) (i:Nat):sf (x::ρ) (i+1)=sf ρ i:=by
 unfold sf; rw [Qi]
theorem xG (i:Nat) (ρ:az):af i ρ=sf ρ i:=nr rfl
theorem Gv (d:D) (ρ:az):fC d ρ=.ok d:=nr rfl
theorem wG (ρ:az):ax ρ=.ok []:=nr rfl
theorem rk (f:FX) (g:az->R (List D)) (ρ:az):ah f g ρ=(f ρ).bind fun x=>(g ρ).bind fun xs=>.ok (x::xs):=nr rfl
theorem wJ (g:az->R (List D)) (ρ:az):cY g ρ=(g ρ).bind fun xs=>rO (sZ xs):=nr rfl
theorem vQ (g:az->R (List D)) (ρ:az):mX g ρ=(g ρ).bind fun xs=>rO (sP xs):=nr rfl
theorem FQ (g:D->Option D) (f:FX) (ρ:az):f1 g f ρ=(f ρ).bind fun a=>rO (g a):=nr rfl
theorem Hk (g:D->D->Option D) (f h:FX) (ρ:az):f2 g f h ρ=(f ρ).bind fun a=>(h ρ).bind fun b=>rO (g a b):=nr rfl
theorem FH (f:FX) (ρ:az):fB f ρ=(f ρ).bind fun d=>rO (M1 d):=nr rfl
theorem Gm (g:List D->Option D) (f:az->R (List D)) (ρ:az):fL g f ρ=(f ρ).bind fun ds=>rO (g ds):=nr rfl
theorem GI (g:List D->R D) (f:az->R (List D)) (ρ:az):fR g f ρ=(f ρ).bind g:=nr rfl
theorem xi (f:az->R Bool) (ρ:az):jT f ρ=(f ρ).bind fun b=>.ok (!b):=nr rfl
theorem xO (f g:az->R Bool) (ρ:az):gG f g ρ=(f ρ).bind fun b=>if b then g ρ else .ok false:=nr rfl
theorem BL (f g:az->R Bool) (ρ:az):yc f g ρ=(f ρ).bind fun b=>if b then .ok true else g ρ:=nr rfl
theorem pf (f:FX) (ρ:az):cu f ρ=(f ρ).bind fun d=>rO (truth d):=nr rfl
theorem rg (f g:FX) (ρ:az):jU f g ρ=(f ρ).bind fun d=>Al d (g ρ):=nr rfl
theorem xN (f g:FX) (ρ:az):Ca f g ρ=(f ρ).bind fun d=>JU d (g ρ):=nr rfl
theorem qN (f:FX) (ρ:az):uV f ρ=(f ρ).bind fun a=>rO (zE a):=nr rfl
theorem BU (t:az->R Bool) (f g:FX) (ρ:az):Jp t f g ρ=(t ρ).bind fun c=>if c then f ρ else g ρ:=nr rfl
theorem wO (T:String) (f:FX) (ρ:az):lP T f ρ=(f ρ).bind fun a=>rO (nW T a):=nr rfl
theorem vR (f:FX) (ρ:az):D8 f ρ=(f ρ).bind fun a=>.ok (.bl (isNon a)):=nr rfl
theorem rq (f:FX) (ρ:az):Kb f ρ=(f ρ).bind fun a=>.ok (.bl (!isNon a)):=nr rfl
theorem xP (f:FX) (ρ:az):DQ f ρ=(f ρ).bind fun a=>rO (Fl a):=nr rfl
theorem oB (f:FX) (ρ:az):Ij f ρ=(f ρ).bind fun a=>rO (EI a):=nr rfl
theorem xU (f:FX) (ρ:az):Du f ρ=(f ρ).bind fun a=>rO (Fb a):=nr rfl
theorem oX (g g':D->D->Option D) (fa fb fc:FX) (ρ:az):qc g g' fa fb fc ρ=(fa ρ).bind fun x=>(fb ρ).bind fun y=>(rO (g x y)).bind fun z=>Al z ((fc ρ).bind fun w=>rO (g' y w)):=nr rfl
theorem o8 (f:FX) (ρ:az):bT f ρ=(f ρ).bind fun d=>rO (rQ d):=nr rfl
theorem mN (f:az->R (List D)) (ρ:az):cy f ρ=(f ρ).bind fun ds=>rO (kQ ds):=nr rfl
theorem mD (f:az->R (List D)) (ρ:az):FD f ρ=(f ρ).bind fun ds=>rO (Bi ds):=nr rfl
theorem vM (f:az->R (List D)) (ρ:az):C7 f ρ=(f ρ).bind fun ds=>rO (Cp ds):=nr rfl
theorem qP (f:az->R (List D)) (ρ:az):ka f ρ=(f ρ).bind fun ds=>rO (u5 ds):=nr rfl
theorem xq (f:FX) (g:az->R (List D)) (ρ:az):mh f g ρ=(f ρ).bind fun a=>(rO (LR a)).bind fun z=>(g ρ).bind fun ds=>rO (sK z ds):=nr rfl
theorem wX (z:Str):LR (.str z)=some z:=nr rfl
theorem mH (ρ:az):aK ρ=.ok none:=nr rfl
theorem qQ (f:FX) (ρ:az):bi f ρ=(f ρ).bind fun d=>rO (zR d):=nr rfl
theorem oS (f:FX) (l h:az->R (Option Int)) (ρ:az):aV f l h ρ=(f ρ).bind fun a=>(l ρ).bind fun lo=>(h ρ).bind fun hi=>rO (lG a lo hi):=nr rfl
theorem rB (ρ:az):cK ρ=.ok true:=nr rfl
theorem qW (k:Ks) (ρ:az):cG k ρ=k.nx ρ:=nr rfl
theorem fQ (A B:cB) (k:Ks) (ρ:az):aN A B k ρ=A { k with nx:=B k } ρ:=nr rfl
theorem qI (f:FX) (k:Ks) (ρ:az):bH f k ρ=rH (f ρ) k ρ .ok:=nr rfl
theorem oa (k:Ks) (ρ:az):JQ k ρ=.ok .non:=nr rfl
theorem wC (c:az->R Bool) (A B:cB) (k:Ks) (ρ:az):iq c A B k ρ=rH (c ρ) k ρ fun b=>if b then A k ρ else B k ρ:=nr rfl
theorem pJ (i:Nat) (f:FX) (k:Ks) (ρ:az):bO i f k ρ=rH (f ρ) k ρ fun d=>k.nx (setV i d ρ):=nr rfl
theorem oU (is:List Nat) (F:cB) (k:Ks) (ρ:az):fZ is F k ρ=F k (kill is ρ):=nr rfl
theorem i6 (G:az->R (List D)) (g:GF) (B:cB) (k:Ks) (ρ:az):pW G g B k ρ=rH (G ρ) k ρ fun ds=>hW g B k ds ρ:=nr rfl
theorem G2 (d:D) (x:Option S) (ρ:az):setV 0 d (x::ρ)=some (.val d)::ρ:=nr rfl
theorem GH (i:Nat) (d:D) (x:Option S) (ρ:az):setV (i+1) d (x::ρ)=x::setV i d ρ:=nr rfl
theorem xW (ρ:az):kill [] ρ=ρ:=nr rfl
theorem qX (i:Nat) (is:List Nat) (ρ:az):kill (i::is) ρ=kill is (ρ.set i none):=nr rfl
theorem kj (B:cB) (n:Nat) (a:D):aP B 1 n [a]=B K0 (env0 n [a]):=nr rfl
theorem cH (B:cB) (n:Nat) (a b:D):aP B 2 n [a,b]=B K0 (env0 n [a,b]):=nr rfl
theorem nH (B:cB) (n:Nat) (a b c:D):aP B 3 n [a,b,c]=B K0 (env0 n [a,b,c]):=nr rfl
theorem HZ (B:cB) (n:Nat) (a b c d:D):aP B 4 n [a,b,c,d]=B K0 (env0 n [a,b,c,d]):=nr rfl
theorem zU (B:cB) (n:Nat) (a b c d e:D):aP B 5 n [a,b,c,d,e]=B K0 (env0 n [a,b,c,d,e]):=nr rfl
theorem vT (ρ:az):inB [] ρ=[]:=nr rfl
theorem rj (ix:List (Option Nat)) (ρ:az):inB (none::ix) ρ=none::inB ix ρ:=nr rfl
def pick (ρ:az) (i:Nat):Option S:=match ρ[i]? with
 | some (some (.val d))=>some (.val d)
 | _=>none
theorem rC (i:Nat) (ix:List (Option Nat)) (ρ:az):inB (some i::ix) ρ=pick ρ i::inB ix ρ:=nr rfl
theorem GR (d:D) (ρ:az):pick (some (.val d)::ρ) 0=some (.val d):=rfl
theorem Hi (x:Option S) (ρ:az) (i:Nat):pick (x::ρ) (i+1)=pick ρ i:=by
 unfold pick; rw [Qi]
theorem rp (i:Nat) (f:FX) (k:Ks) (ρ:az):ui i f k ρ=rH (f ρ) k ρ fun d=>k.nx (ρ.set i (some (.own d))):=nr rfl
theorem rE (i:Nat) (F:cB) (k:Ks) (ρ:az):pE i F k ρ=F k (frz i ρ):=nr rfl
theorem GY (d:D) (ρ:az):frz 0 (some (.own d)::ρ)=some (.val d)::ρ:=nr rfl
theorem Bd (d:D) (ρ:az):frz 0 (some (.val d)::ρ)=some (.val d)::ρ:=nr rfl
theorem GU (i:Nat) (x:Option S) (ρ:az):frz (i+1) (x::ρ)=x::frz i ρ:=by
 unfold frz
 rw [Qi]
 split <;> rename_i h
 ·rw [h]; rfl
 ·rfl
theorem ml (i:Nat) (u:List D->List D->Option (List D)) (f:az->R (List D)) (k:Ks) (ρ:az) {xs:List D} (h:ρ[i]?=some (some (.own (.lst xs)))):zH i u f k ρ=rH (f ρ) k ρ fun ds=>(rO (u xs ds)).bind fun ys=>k.nx (ρ.set i (some (.own (.lst ys)))):=by
 unfold zH; rw [h]
theorem vU {xs:List D} {y:D} (h:xs.length < 100000):pQ xs [y]=some (xs++[y]):=by
 show (if small (xs.length+1) then some (xs++[y]) else none)=_
 rw [eA ‹0›]; rfl
theorem wd (i j:Int):bJ (.int i) (.int j)=some (.int (i+j)):=nr rfl
theorem wA (i j:Int):TG.jt (.int i) (.int j)=some (.int (i - j)):=nr rfl
theorem BG (i j:Int):N1 (.int i) (.int j)=some (.bl (decide (i < j))):=nr rfl
theorem xg (i j:Int):fD (.int i) (.int j)=some (.bl (decide (i < j))):=nr rfl
theorem xl (x y:Str):fD (.str x) (.str y)=some (.bl (decide (x.cps.toList < y.cps.toList))):=nr rfl
theorem wv (c d:Bool):MI (.bl c) (.bl d)=some (.bl (c==d)):=nr rfl
theorem mI (c d:Bool):Gf (.bl c) (.bl d)=some (.bl (!(c==d))):=nr rfl
theorem BA (i j:Int):Jq (.int i) (.int j)=some (.bl (decide (i<=j))):=nr rfl
theorem AW (i j:Int):HA (.int i) (.int j)=some (.bl (decide (j < i))):=nr rfl
theorem Bf (i j:Int):Ki (.int i) (.int j)=some (.bl (decide (j<=i))):=nr rfl
theorem xC (i:Int):Fl (.int i)=some (.int (-i)):=nr rfl
theorem bL {i j:Int} (h:0 < j):bX (.int i) (.int j)=some (.int (i%j)):=by
 show (if decide (0 < j) then some (D.int (i%j)) else none)=_
 rw [decide_eq_true h]; rfl
theorem cJ {i j:Int} (h:0 < j) (h':j < 10 ^ 200):dR (.int i) (.int j)=some (.int (i / j)):=by
 show (if decide (0 < j/\j < 10 ^ 200) then some (D.int (i / j)) else none)=_
 rw [decide_eq_true ⟨h,h'⟩]; rfl
theorem kT {i j:Int} (h:-(2 ^ 64) < i) (h':i < 2 ^ 64):mY (.int i) (.int j)=some (.int (i*j)):=by
 show (if decide ((-(2 ^ 64) < i/\i < 2 ^ 64)\/(-(2 ^ 64) < j/\j < 2 ^ 64)) then some (D.int (i*j)) else none)=_
 rw [decide_eq_true (.inl ⟨h,h'⟩)]; rfl
theorem qO {i j:Int} (h:-(2 ^ 64) < j) (h':j < 2 ^ 64):mY (.int i) (.int j)=some (.int (i*j)):=by
 show (if decide ((-(2 ^ 64) < i/\i < 2 ^ 64)\/(-(2 ^ 64) < j/\j < 2 ^ 64)) then some (D.int (i*j)) else none)=_
 rw [decide_eq_true (.inr ⟨h,h'⟩)]; rfl
theorem EE (i:Int) (n:Nat) (h:n<=1000000) (h':i.natAbs < 2 ^ 64):qA (.int i) (.int n)=some (.int (i ^ n)):=by
 show (if decide (0<=(n:Int)/\(n:Int)<=1000000/\i.natAbs < 2 ^ 64) then some (D.int (i ^ (n:Int).toNat)) else none)=_
 rw [decide_eq_true ⟨by omega,by omega,h'⟩]; rfl
theorem Dy:qA (.int 10) (.int 59)=some (.int (10 ^ 59)):=EE 10 59 (by decide) (by decide)
def qj:Int:=10 ^ 59
def qG:Int:=10 ^ 60
theorem HC:1000000 < qj/\qj*10=qG:=by decide +kernel
theorem Be:1000000 < qG/\qG < 10 ^ 199/\qG < 10 ^ 69:=by decide +kernel
theorem DE:qA (.int 10) (.int 59)=some (.int qj):=Dy
theorem ow (i j:Int):gQ (.int i) (.int j)=some (.bl (i==j)):=by unfold gQ pyEq; rfl
theorem pD (i j:Str):gQ (.str i) (.str j)=some (.bl (i==j)):=by unfold gQ pyEq; rfl
theorem oJ (i j:Bool):gQ (.bl i) (.bl j)=some (.bl (i==j)):=by unfold gQ pyEq; rfl
theorem oI (i j:Int):tR (.int i) (.int j)=some (.bl (!(i==j))):=by unfold tR pyEq; rfl
theorem oK (i j:Str):tR (.str i) (.str j)=some (.bl (!(i==j))):=by unfold tR pyEq; rfl
theorem oG (i j:Bool):tR (.bl i) (.bl j)=some (.bl (!(i==j))):=by unfold tR pyEq; rfl
theorem vS {α:Type} (xs:List α) (n:Nat):pN xs (n:Int)=xs[n]?:=by
 unfold pN xt
 rw [if_pos ‹0›]
 by_cases h:n < xs.length
 ·rw [if_pos ‹0›]; rfl
 ·rw [if_neg ‹0›,QI ‹0›]; rfl
theorem CM {α:Type} (a:α) (xs:List α):pN (a::xs) 0=some a:=vS (a::xs) 0
theorem CT {α:Type} (a:α) (xs:List α) (n:Nat):pN (a::xs) ((n+1:Nat):Int)=pN xs (n:Int):=by
 rw [vS,vS,Qi]
theorem yk (xs:List D) (i:Int):aE (.tup xs) (.int i)=pN xs i:=nr rfl
theorem zm (xs:List D) (i:Int):aE (.lst xs) (.int i)=pN xs i:=nr rfl
theorem qt (a:D) (xs:List D):aE (.tup (a::xs)) (.int 0)=some a:=CM a xs
theorem A6 (a b:D) (xs:List D):aE (.tup (a::b::xs)) (.int 1)=some b:=(CT a _ 0).trans (CM b xs)
theorem Bc (a b c:D) (xs:List D):aE (.tup (a::b::c::xs)) (.int 2)=some c:=(CT a _ 1).trans ((CT b _ 0).trans (CM c xs))
theorem BM (a:D) (xs:List D):aE (.lst (a::xs)) (.int 0)=some a:=CM a xs
theorem AZ (a b:D) (xs:List D):aE (.lst (a::b::xs)) (.int 1)=some b:=(CT a _ 0).trans (CM b xs)
theorem By (a b c:D) (xs:List D):aE (.lst (a::b::c::xs)) (.int 2)=some c:=(CT a _ 1).trans ((CT b _ 0).trans (CM c xs))
theorem o7 (xs:List D):dC [.lst xs]=some (.int xs.length):=nr rfl
theorem oT (xs:List D):dC [.tup xs]=some (.int xs.length):=nr rfl
theorem kq (xs:List D):cI [.lst xs]=some (.tup xs):=nr rfl
theorem j6 (xs:List D):cI [.tup xs]=some (.tup xs):=nr rfl
theorem w8 (b:Bool):M1 (.bl b)=some b:=nr rfl
theorem mB (i:Int):zR (.int i)=some (some i):=nr rfl
theorem kU (b:Bool):truth (.bl b)=some b:=nr rfl
theorem kz (xs:List D):truth (.tup xs)=some (!xs.isEmpty):=nr rfl
theorem ku (xs:List D):truth (.lst xs)=some (!xs.isEmpty):=nr rfl
theorem wN (i j:Int):uR [.int i,.int j]=some (.int (if j > i then j else i)):=nr rfl
theorem vW (i j:Int):za [.int i,.int j]=some (.int (if j < i then j else i)):=nr rfl
theorem En (b:Bool):zv [.bl b]=some (.int (if b then 1 else 0)):=nr rfl
theorem kI (xs:List D):rQ (.lst xs)=some xs:=nr rfl
theorem kF (xs:List D):rQ (.tup xs)=some xs:=nr rfl
theorem oZ (k:R D):Al (.bl true) k=k:=nr rfl
theorem pI (k:R D):Al (.bl false) k=.ok (.bl false):=nr rfl
theorem q5 (k:R D):JU (.bl true) k=.ok (.bl true):=nr rfl
theorem qV (k:R D):JU (.bl false) k=k:=nr rfl
theorem oO (a b:Bool):Al (.bl a) (.ok (.bl b))=.ok (.bl (a && b)):=by cases a <;> rfl
theorem oP (a b:Bool):JU (.bl a) (.ok (.bl b))=.ok (.bl (a || b)):=by cases a <;> rfl
theorem wV (b:Bool):zE (.bl b)=some (.bl (!b)):=nr rfl
theorem wf (xs:List D):Fb (.lst xs)=some (.lst xs.reverse):=nr rfl
theorem fX (n:Nat) (h:n < 2 ^ 62):kQ [.int n]=some (cW 0 n):=by
 show (if okR (n:Int) then some (cW 0 ((n:Int).toNat)) else none)=_
 have:okR (n:Int)=true:=decide_eq_true ⟨by omega,by omega⟩
 rw [this]; rfl
theorem qM {α:Type} (f:α->D) (h:∀ a,pl (f a)=true):∀ xs:List α,lJ (xs.map f)=true
 | []=>rfl
 | x::xs=>by
  show (pl (f x) && lJ (xs.map f))=true
  rw [h,qM f h xs]; rfl
theorem GV (f:Str->D) (hf:f=D.str) (w:Str) (ws:List Str):inD (.str w) (ws.map f)=ws.any fun y=>y==w:=by
 subst hf
 unfold inD
 rw [QE]
 congr 1
theorem qU (w:Str) (ws:List Str):Fi (.str w) (.tup (ws.map .str))=some (.bl (ws.contains w)):=by
 show (if (pl (.str w) && lJ (ws.map .str)) && dr 8 (.str w) then some (D.bl (inD (.str w) (ws.map .str))) else none)=_
 rw [GV _ rfl,qM _ fun _=>rfl]
 show some (D.bl _)=_
 congr 2
 induction ws with
 | nil=>rfl
 | cons x xs ih=>rw [O9,Qo,ih,Bool.beq_comm]
theorem GC (w:Str) (ws:List Str):Fi (.str w) (.lst (ws.map .str))=some (.bl (ws.contains w)):=qU w ws
theorem oo (xs ys:List D) (h:xs.length+ys.length<=100000):bJ (.lst xs) (.lst ys)=some (.lst (xs++ys)):=by
 show (if small (xs.length+ys.length) then some (D.lst (xs++ys)) else none)=_
 rw [eA h]; rfl
theorem e8 (xs ys:List D) (h:xs.length+ys.length<=100000):bJ (.tup xs) (.tup ys)=some (.tup (xs++ys)):=by
 show (if small (xs.length+ys.length) then some (D.tup (xs++ys)) else none)=_
 rw [eA h]; rfl
theorem rd (xs:List D) (lo hi:Option Int):lG (.lst xs) lo hi=some (.lst (cutD xs lo hi)):=nr rfl
theorem qY (xs:List D) (lo hi:Option Int):lG (.tup xs) lo hi=some (.tup (cutD xs lo hi)):=nr rfl
theorem cP {ix:List (Option Nat)} {G:az->R (List D)} {g:GF} {C:az->R Bool} {Fe:FX} {ρ:az} {ds r:List D} (h1:G ρ=.ok ds) (h2:ds.length<=100000) (h3:xc (inB ix ρ) g C Fe ds=.ok r):gR ix G g C Fe ρ=.ok (.lst r):=by
 unfold gR
 rw [h1,fM,eA h2,h3]; rfl
theorem dD {α:Type} {ρ:az} {g:GF} {C:az->R Bool} {Fe:FX} (mk:α->D) (p:α->Bool) (v:α->D):∀ xs:List α,(∀ a∈xs,∃ ρ1,g (mk a) ρ=some ρ1/\C ρ1=.ok (p a)/\Fe ρ1=.ok (v a)) ->
  xc ρ g C Fe (xs.map mk)=.ok ((xs.filter p).map v)
 | [],_=>rfl
 | a::xs,h=>by
  obtain⟨ρ1,h1,h2,h3⟩:=h a Oj
  rw [OB,pF,h1,ie,fM,h2,m9,fM,h3,m9,fM,dD mk p v xs fun b hb=>h b (Ol _ hb)]
  cases e:p a with
  | true=>rw [if_pos rfl,Qy e]; rfl
  | false=>rw [if_neg Ot,Qz (by simp [e])]
theorem iW {α:Type} {ρ:az} {g:GF} {C:az->R Bool} {Fe:FX} (mk:α->D) (v:α->D) (xs:List α) (h:∀ a∈xs,∃ ρ1,g (mk a) ρ=some ρ1/\C ρ1=.ok true/\Fe ρ1=.ok (v a)):xc ρ g C Fe (xs.map mk)=.ok (xs.map v):=by
 rw [dD mk (fun _=>true) v xs h,List.filter_eq_self.mpr fun _ _=>rfl]
theorem lL {ρ:az} {g:GF} {C:az->R Bool} {Fe:FX} (P:D->Prop):∀ ds:List D,(∀ d∈ds,∃ ρ1 v,g d ρ=some ρ1/\C ρ1=.ok true/\Fe ρ1=.ok v/\P v)->∃ vs:List D,vs.length=ds.length/\(∀ v∈vs,P v)/\xc ρ g C Fe ds=.ok vs
 | [],_=>⟨[],rfl,(fun _ h=>nomatch h),rfl⟩
 | d::ds,h=>by
  obtain⟨ρ1,w,h1,h2,h3,h4⟩:=h d Oj
  obtain⟨ws,e1,e2,e3⟩:=lL P ds fun d' hd=>h d' (Ol _ hd)
  refine⟨w::ws,by rw [OA,OA,e1],fun w' hw=>?_,?_⟩
  ·rcases List.mem_cons.mp hw with z | z
   ·rw [z]; exact h4
   ·exact e2 w' z
  ·rw [pF,h1,ie,fM,h2,m9,fM,h3,m9,fM,e3]; rfl
theorem BK {g:GF} {B:cB} {k:Ks} (Iv:Nat->az->Prop):∀ (ds:List D) (i:Nat) (ρ:az),(∀ j d ρ (k':Ks),i<=j->ds[j - i]?=some d->Iv j ρ->∃ ρ1 ρ2,g d ρ=some ρ1/\Iv (j+1) ρ2/\B k' ρ1=k'.nx ρ2)->Iv i ρ->∃ ρ',Iv (i+ds.length) ρ'/\hW g B k ds ρ=k.nx ρ'
 | [],i,ρ,_,h=>⟨ρ,h,rfl⟩
 | d::ds,i,ρ,st,h=>by
  obtain⟨ρ1,ρ2,e1,h2,e2⟩:=st i d ρ ⟨hW g B k ds,k.nx,hW g B k ds,k.ex⟩ (Ow _) (by rw [Qr]; rfl) h
  obtain⟨ρ',h3,e3⟩:=BK (g:=g) (B:=B) (k:=k) Iv ds (i+1) ρ2 (fun j d' ρ k' hj hd=>st j d' ρ k' ‹0› (by rw [show j - i=(j - (i+1))+1 by omega,Qi]; exact hd)) h2
  refine⟨ρ',?_,?_⟩
  ·rw [OA]
   have:i+(ds.length+1)=i+1+ds.length:=by omega
   rw [this]; exact h3
  ·show ((rO (g d ρ)).bind fun ρ1=>B ⟨hW g B k ds,k.nx,hW g B k ds,k.ex⟩ ρ1)=_
   rw [e1,ie,fM,e2]
   exact e3
theorem oV {g:GF} {B:cB} {k:Ks} {ds:List D} {ρ:az} {Q:R D->Prop} (Iv:Nat->az->Prop) (st:∀ i d ρ (k':Ks),ds[i]?=some d->Iv i ρ->∃ ρ1 ρ2,g d ρ=some ρ1/\Iv (i+1) ρ2/\B k' ρ1=k'.nx ρ2) (h:Iv 0 ρ) (q:∀ ρ',Iv ds.length ρ'->Q (k.nx ρ')):Q (hW g B k ds ρ):=by
 obtain⟨ρ',h1,e⟩:=BK (k:=k) Iv ds 0 ρ (fun j d ρ k' _ hd=>st j d ρ k' hd) h
 rw [e]; rw [Qm] at h1; exact q ρ' h1
theorem eD {α:Type} {xs:List α} {i:Nat} {a:α} (h:xs[i]?=some a):i < xs.length:=by
 rcases QH i xs.length with z | z
 ·exact z
 ·rw [QI z] at h; cases h
theorem iy {α β:Type} (f:α->β) (xs:List α) (i:Int):pN (xs.map f) i=(pN xs i).map f:=by
 unfold pN
 rw [OC]
 cases xt xs.length i with
 | none=>rfl
 | some j=>simp
theorem gJ {α:Type} {xs:List α} {k:Nat} (h:k < xs.length):pN xs (k:Int)=some xs[k]:=by
 unfold pN xt
 rw [if_pos ‹0›,if_pos ‹0›]
 simp [h]
theorem o4 {α:Type} {xs:List α} {i:Int} (h0:0<=i) (h:i < xs.length):pN xs i=some (xs[i.toNat]'‹0›):=by
 have e:i=((i.toNat:Nat):Int):=by omega
 conv=>lhs; rw [e]
 exact gJ ‹0›
def HJ:cB:=aN (iq (fB (f2 fD (af 1) (fL dC (ah (af 0) (ax))))) (bH (f2 aE (af 0) (af 1))) (cG)) (bH (fC (.int 0)))
theorem Gh (ns:List Int) (k:Nat):aP HJ 2 2 [.lst (ns.map .int),.int k]=.ok (.int (ns.getD k 0)):=by
 show (if decide ((k:Int) < ((ns.map D.int).length:Int)) then rH (rO (pN (ns.map D.int) (k:Int))) _ _ .ok else .ok (.int 0))=_
 rw [OC]
 by_cases h:k < ns.length
 ·rw [if_pos (by simpa using h),iy,gJ h,QO,QC,PJ h]; rfl
 ·rw [if_neg (by simpa using h),QC,QI ‹0›]; rfl
theorem Dt (ns:List Int) (i:Int) (h:0<=i):∃ c:Int,aP HJ 2 2 [.lst (ns.map .int),.int i]=.ok (.int c):=by
 have e:i=((i.toNat:Nat):Int):=by omega
 exact⟨ns.getD i.toNat 0,by rw [e]; exact Gh ns i.toNat⟩
theorem uS (x:Str) (h:x.length<=1000) (lo hi:Option Int):∃ y:Str,y.length<=x.length/\lG (.str x) lo hi=some (.str y):=by
 refine⟨⟨(cutD x.cps.toList lo hi).toArray⟩,?_,?_⟩
 ·show (cutD x.cps.toList lo hi).toArray.size<=x.cps.size
  rw [Oy]
  have:=qm x.cps.toList lo hi
  rw [Array.length_toList] at this
  exact this
 ·show (if small x.length then some (D.str ⟨(cutD x.cps.toList lo hi).toArray⟩) else none)=_
  rw [eA ‹0›]; rfl
theorem mC (x y:Str):(x++y).length=x.length+y.length:=by
 show (x.cps++y.cps).size=_
 rw [Array.size_append]; rfl
theorem lR (x y:Str) (h:x.length<=1000) (h':y.length<=1000):bJ (.str x) (.str y)=some (.str (x++y)):=by
 show (if small (x.length+y.length) then some (D.str (x++y)) else none)=_
 rw [eA ‹0›]; rfl
theorem Bh (x:Str) (h:x.length<=1000) (i:Int) (h0:0<=i) (h1:i < x.length):∃ y:Str,y.length=1/\aE (.str x) (.int i)=some (.str y):=by
 have hl:x.cps.toList.length=x.length:=by simp [Str.length]
 have hi:i < x.cps.toList.length:=by omega
 refine⟨⟨#[x.cps.toList[i.toNat]'‹0›]⟩,rfl,?_⟩
 show (if small x.length then (pN x.cps.toList i).bind fun c=>some (D.str ⟨#[c]⟩) else none)=_
 rw [eA ‹0›,if_pos rfl,o4 h0 hi]; rfl
theorem j9 {lo:Int} {n:Nat} {d:D} (h:d∈cW lo n):∃ k:Nat,k < n/\d=.int (lo+k):=by
 unfold cW at h
 obtain⟨k,h1,h2⟩:=List.mem_map.mp h
 exact⟨k,List.mem_range.mp h1,h2.symm⟩
theorem i9 (lo:Int) (n:Nat):cW lo n=(List.range n).map fun (k:Nat)=>D.int (lo+(k:Int)):=nr rfl
theorem bV (lo:Int) (n:Nat):(cW lo n).length=n:=by unfold cW; rw [OC,P4]
theorem Ef {α:Type} {xs:List α} {lo hi:Option Int} {a:α} (h:a∈cutD xs lo hi):a∈xs:=QP (QQ h)
theorem qT {α β:Type} (f:α->β) (xs:List α) (lo hi:Option Int):cutD (xs.map f) lo hi=(cutD xs lo hi).map f:=by
 unfold cutD
 rw [OC,<- QR,<- QS]
theorem str_int (i:Int) (h:i.natAbs < 10 ^ 70):∃ x:Str,zL [.int i]=some (.str x):=by
 refine⟨toString i,?_⟩
 show (if decide (i.natAbs.log2 < 1920) then some (D.str (toString i)) else none)=_
 have e:i.natAbs.log2 < 1920:=by
  by_cases z:i.natAbs=0
  ·rw [z]; decide
  ·rw [Nat.log2_lt z]
   exact Pl h (by decide +kernel)
 rw [decide_eq_true e]; rfl
theorem vj (g:Array Nat):∀ (ps:List Str) (a:Array Nat),(ps.foldl (fun acc p=>acc++g++p.cps) a).size=a.size+ps.length*g.size+(ps.map (fun y=>y.length)).sum
 | [],a=>by simp
 | p::ps,a=>by
  rw [QN,vj g ps,Array.size_append,Array.size_append,OA,OB,QT,Nat.succ_mul]
  show _=a.size+(ps.length*g.size+g.size)+(p.cps.size+_)
  omega
theorem DL (ys:List Str):(Txt.join "" ys).length=(ys.map (fun y=>y.length)).sum:=by
 have e0:(("":Str)).cps.size=0:=by decide +kernel
 cases ys with
 | nil=>show (List.foldl _ _ _:Array Nat).size=_; simp [Str.empty]
 | cons y ys =>
  show (List.foldl (fun acc p=>acc++(("":Str)).cps++p.cps) y.cps ys).size=_
  rw [vj,e0]
  simp [Str.length]
theorem rY:∀ ys:List Str,pM (ys.map .str)=some ys
 | []=>rfl
 | y::ys=>by
  show (pM (ys.map .str)).bind (fun zs=>some (y::zs))=_
  rw [rY ys]; rfl
theorem Bs (ys:List Str) (h:(ys.map (fun y=>y.length)).sum<=1000):∃ x:Str,x.length=(ys.map (fun y=>y.length)).sum/\sK "" [.lst (ys.map .str)]=some (.str x):=by
 refine⟨Txt.join "" ys,DL ys,?_⟩
 have e0:(("":Str)).length=0:=by decide +kernel
 have e:sK "" [.lst (ys.map .str)]=(pM (ys.map .str)).bind fun ys=>if small ((ys.map (fun y=>y.length)).sum+ys.length*(("":Str)).length) then some (.str (Txt.join "" ys)) else none:=rfl
 rw [e,rY]
 show (if small _ then _ else _)=_
 rw [e0,eA ‹0›]; rfl
theorem vO (n:Nat):∀ vs:List D,(∀ v∈vs,∃ w:Str,v=.str w/\w.length<=n)->∃ ws:List Str,vs=ws.map .str/\∀ w∈ws,w.length<=n
 | [],_=>⟨[],rfl,fun _ h=>nomatch h⟩
 | v::vs,h=>by
  obtain⟨w,rfl,hw⟩:=h v Oj
  obtain⟨ws,rfl,h2⟩:=vO n vs fun v' hv=>h v' (Ol _ hv)
  refine⟨w::ws,rfl,fun w' hw'=>?_⟩
  rcases List.mem_cons.mp hw' with z | z
  ·rw [z]; exact hw
  ·exact h2 w' z
theorem DN (n:Nat):∀ ws:List Str,(∀ w∈ws,w.length<=n)->(ws.map (fun y=>y.length)).sum<=ws.length*n
 | [],_=>by simp
 | w::ws,h=>by
  have:=DN n ws fun w' h'=>h w' (Ol _ h')
  have h1:=h w Oj
  rw [OB,QT,OA,Nat.succ_mul]; omega
theorem fh {α:Type} (xs:List α) (m:Nat):cutD xs none (some (m:Int))=xs.take m:=by
 unfold cutD
 rw [HT.Kn,HT.Lz,Py,P6]
 rcases QK m xs.length with h | h
 ·rw [QL h]
 ·rw [QM h,Qb h,Qb (Ow _)]
theorem lK {α:Type} (xs:List α) (m:Nat):cutD xs (some (m:Int)) none=xs.drop m:=by
 unfold cutD
 rw [HT.Kn,HT.Lz]
 rcases QK m xs.length with h | h
 ·rw [QL h]
  exact Qb (by rw [O0]; exact Ow _)
 ·rw [QM h,Qr,Pt,QU h]
theorem El {al:List (List Key×D)} {q:List Key} {v:D} (h:(al.any fun p=>decide (p.1=q))=false):sR al q v=al++[(q,v)]:=by
 unfold sR
 rw [h,if_neg Ot]
theorem vI (n:Nat) (c:az->R Bool) (B:cB) (k:Ks) (ρ:az):mq n c B k ρ=eJ c B k n ρ:=nr rfl
end TG
namespace TG
open PySem PySem.Spec L2
local macro_rules
 | `(tactic| simp! only [$xs,*])=>`(tactic| simp only [fM,Bb,nz,AU,m9,ie,ge_0,FP,xG,Gv,wG,rk,wJ,vQ,FQ,Hk,FH,Gm,GI,xi,xO,BL,pf,rg,xN,qN,BU,wO,vR,rq,xP,oB,xU,oX,o8,mN,mD,vM,qP,mH,qQ,oS,rB,qW,fQ,qI,oa,wC,pJ,oU,i6,rp,rE,GY,Bd,GU,G2,GH,xW,qX,vT,rj,rC,GR,Hi,QV,QW,OB,O7,Pr,PR,K0,env0,List.replicate,Qs,OI,Qm,Nat.reduceAdd,Nat.reduceSub,OA,Ph,wd,wA,BG,xg,xl,wv,mI,wX,BA,AW,Bf,xC,ow,pD,oJ,oI,oK,oG,qt,A6,Bc,BM,AZ,By,o7,oT,kq,j6,w8,mB,kU,kz,ku,wN,vW,kI,kF,oZ,pI,q5,qV,oO,oP,wV,wf,rd,qY,gN,if_true,if_false,QX,QY,Pp,$xs,*])
theorem Fh (a b c:D):sZ [a,b,c]=some (.tup [a,b,c]):=nr rfl
theorem qB (a b:D):sZ [a,b]=some (.tup [a,b]):=nr rfl
theorem M5 (a:D):sZ [a]=some (.tup [a]):=nr rfl
theorem Kg:sZ []=some (.tup []):=nr rfl
theorem N6 (a:D):sP [a]=some (.lst [a]):=nr rfl
theorem Hr:sP []=some (.lst []):=nr rfl
theorem lq:((("word":Str))==(("number":Str)))=false:=by decide +kernel
theorem HP:((("rows":Str))==(("number":Str)))=false:=by decide +kernel
theorem GL:((("rows":Str))==(("word":Str)))=false:=by decide +kernel
end TG
namespace TG
open PySem PySem.Spec L2
def yQ (m:Nat) (rows:List (List D)):Prop:=rows.Pairwise fun r s=>eI (r.take m) (s.take m)=some true
def cnt (m:Nat) (key:List D):List (List D)->Nat
 | []=>0
 | r::rs=>if eI (r.take m) key=some true then cnt m key rs+1 else 0
open Classical in
noncomputable def iN (m:Nat) (row:List D):List (List D)->List (List D)
 | []=>[row]
 | r::rs=>if eI (r.take m) (row.take m)=some true then r::iN m row rs else if r.take m=row.take m then r::rs else row::r::rs
theorem oM {m:Nat} {row x:List D}:∀ {rows:List (List D)},x∈iN m row rows->x=row\/x∈rows
 | [],h=>by
  unfold iN at h
  exact .inl (List.mem_singleton.mp h)
 | r::rs,h=>by
  unfold iN at h
  split at h
  ·rcases List.mem_cons.mp h with z | z
   ·exact .inr (List.mem_cons.mpr (.inl z))
   ·rcases oM z with z | z
    ·exact .inl z
    ·exact .inr (List.mem_cons.mpr (.inr z))
  ·split at h
   ·exact .inr h
   ·rcases List.mem_cons.mp h with z | z
    ·exact .inl z
    ·exact .inr z
theorem sM {m:Nat} {σ:List Bool} {row:List D} (hr:Sh σ (row.take m)):∀ {rows:List (List D)},(∀ r∈rows,Sh σ (r.take m))->yQ m rows->yQ m (iN m row rows)
 | [],_,_=>by
  unfold iN
  exact Qx _ _
 | r::rs,h,p=>by
  have p':=List.pairwise_cons.mp p
  have hh:=h r Oj
  unfold iN
  split
  ·rename_i q
   refine List.pairwise_cons.mpr ⟨fun x hx=>?_,sM hr (fun x hx=>h x (Ol _ hx)) p'.2⟩
   rcases oM hx with z | z
   ·rw [z]; exact q
   ·exact p'.1 x z
  ·split
   ·exact p
   ·rename_i q1 q2
    have lt:eI (row.take m) (r.take m)=some true:=by
     rcases jv hh hr with ⟨z,_⟩ | z | ⟨z,_⟩
     ·exact absurd z q1
     ·exact absurd z q2
     ·exact z
    refine List.pairwise_cons.mpr ⟨fun x hx=>?_,p⟩
    rcases List.mem_cons.mp hx with z | z
    ·rw [z]; exact lt
    ·exact j0 hr hh (h x (Ol _ z)) lt (p'.1 x z)
theorem Fm {m:Nat} {row:List D}:∀ rows:List (List D),iN m row rows≠[]
 | []=>by unfold iN; simp
 | r::rs=>by
  unfold iN
  split
  ·simp
  ·split <;> simp
theorem tO {m:Nat} {row:List D}:∀ rows:List (List D),(iN m row rows).length<=rows.length+1
 | []=>by unfold iN; simp
 | r::rs=>by
  unfold iN
  have:=tO (m:=m) (row:=row) rs
  split
  ·simp; omega
  ·split <;> simp
theorem AC (m:Nat) (key:List D):∀ rows:List (List D),cnt m key rows<=rows.length
 | []=>Ow _
 | r::rs=>by
  unfold cnt
  split
  ·have:=AC m key rs; simp; omega
  ·simp
open Classical in
theorem jz {m:Nat} {row:List D}:∀ rows:List (List D),iN m row rows=if (rows[cnt m (row.take m) rows]?).map (List.take m)=some (row.take m) then rows else rows.take (cnt m (row.take m) rows)++row::rows.drop (cnt m (row.take m) rows)
 | []=>by unfold iN; simp
 | r::rs=>by
  unfold iN cnt
  split
  ·rw [jz rs,Qi]
   split
   ·rfl
   ·rw [Px,PB]; rfl
  ·rename_i q
   rw [Qh,QO]
   split
   ·rename_i e; rw [if_pos (by rw [e])]
   ·rename_i e; rw [if_neg (fun z=>e (Option.some.inj z))]; rfl
inductive F2 {α β:Type} (R:α->β->Prop):List α->List β->Prop where
 | nil:F2 R [] []
 | cons {a:α} {b:β} {as:List α} {bs:List β} (h:R a b) (t:F2 R as bs):F2 R (a::as) (b::bs)
theorem F2.length {α β:Type} {R:α->β->Prop}:∀ {as:List α} {bs:List β},F2 R as bs->as.length=bs.length
 | _,_,.nil=>rfl
 | _,_,.cons _ t=>by rw [OA,OA,t.length]
theorem F2.take {α β:Type} {R:α->β->Prop}:∀ (m:Nat) {as:List α} {bs:List β},F2 R as bs->F2 R (as.take m) (bs.take m)
 | 0,_,_,_=>by rw [Pt,Pt]; exact .nil
 | m+1,_,_,.nil=>by rw [Pw,Pw]; exact .nil
 | m+1,_,_,.cons h t=>by rw [Px,Px]; exact .cons h (t.take m)
theorem F2.drop {α β:Type} {R:α->β->Prop}:∀ (m:Nat) {as:List α} {bs:List β},F2 R as bs->F2 R (as.drop m) (bs.drop m)
 | 0,_,_,h=>by rw [Py,Py]; exact h
 | m+1,_,_,.nil=>by rw [Pz,Pz]; exact .nil
 | m+1,_,_,.cons h t=>by rw [PB,PB]; exact t.drop m
theorem F2.get {α β:Type} {R:α->β->Prop}:∀ {as:List α} {bs:List β} {i:Nat} {a:α} {b:β},F2 R as bs->as[i]?=some a->bs[i]?=some b->R a b
 | _,_,0,_,_,.cons h _,e1,e2=>by cases e1; cases e2; exact h
 | _,_,i+1,_,_,.cons _ t,e1,e2=>by rw [Qi] at e1 e2; exact t.get e1 e2
theorem F2.of {α β:Type} {R:α->β->Prop}:∀ {as:List α} {bs:List β},as.length=bs.length->(∀ (i:Nat) (a:α) (b:β),as[i]?=some a->bs[i]?=some b->R a b)->F2 R as bs
 | [],[],_,_=>.nil
 | a::as,b::bs,l,h=>.cons (h 0 a b rfl rfl) (F2.of (by simpa using l) fun i x y e1 e2=>h (i+1) x y (by rw [Qi]; exact e1) (by rw [Qi]; exact e2))
theorem F2.append {α β:Type} {R:α->β->Prop}:∀ {as cs:List α} {bs ds:List β},F2 R as bs->F2 R cs ds->F2 R (as++cs) (bs++ds)
 | _,_,_,_,.nil,h=>h
 | _,_,_,_,.cons h t,h'=>.cons h (t.append h')
theorem F2.mem {α β:Type} {R:α->β->Prop} {b:β}:∀ {as:List α} {bs:List β},F2 R as bs->b∈bs->∃ a∈as,R a b
 | _,_,.nil,h=>nomatch h
 | _,_,.cons h t,hb=>by
  rcases List.mem_cons.mp hb with rfl | z
  ·exact⟨_,Oj,h⟩
  ·obtain⟨a,h1,h2⟩:=t.mem z
   exact⟨a,Ol _ h1,h2⟩
theorem DW {ρ:az} {g:GF} {C:az->R Bool} {Fe:FX}:∀ (ds:List D) (P:Nat->D->Prop),(∀ i d,ds[i]?=some d->∃ ρ1 v,g d ρ=some ρ1/\C ρ1=.ok true/\Fe ρ1=.ok v/\P i v)->∃ vs:List D,vs.length=ds.length/\(∀ i v,vs[i]?=some v->P i v)/\xc ρ g C Fe ds=.ok vs
 | [],_,_=>⟨[],rfl,(fun _ _ h=>nomatch h),rfl⟩
 | d::ds,P,h=>by
  obtain⟨ρ1,w,h1,h2,h3,h4⟩:=h 0 d rfl
  obtain⟨ws,e1,e2,e3⟩:=DW (ρ:=ρ) (g:=g) (C:=C) (Fe:=Fe) ds (fun i v=>P (i+1) v) fun i d' hd=>h (i+1) d' (by rw [Qi]; exact hd)
  refine⟨w::ws,by rw [OA,OA,e1],fun i v hv=>?_,?_⟩
  ·cases i with
   | zero=>cases hv; exact h4
   | succ i=>rw [Qi] at hv; exact e2 i v hv
  ·rw [pF,h1,ie,fM,h2,m9,fM,h3,m9,fM,e3]; rfl
theorem kB:∀ {σ:List Bool} {a b:List D},Sh σ a->Sh σ b->(pyEqL a b=true↔a=b)
 | _,_,_,.nil,.nil=>by unfold pyEqL; simp
 | _,_,_,.int i h,.int j h'=>by
  unfold pyEqL pyEq
  rw [O1,kB h h']
  simp
 | _,_,_,.str i h,.str j h'=>by
  unfold pyEqL pyEq
  rw [O1,kB h h']
  simp
theorem uK:∀ {σ:List Bool} {a:List D},Sh σ a->lJ a=true
 | _,_,.nil=>rfl
 | _,_,.int i h=>by
  show (pl (.int i) && lJ _)=true
  rw [uK h]; rfl
 | _,_,.str i h=>by
  show (pl (.str i) && lJ _)=true
  rw [uK h]; rfl
theorem ya:∀ {σ:List Bool} {a:List D} (n:Nat),Sh σ a->a.all (dr (n+1))=true
 | _,_,_,.nil=>rfl
 | _,_,n,.int i h=>by rw [PD,ya n h]; rfl
 | _,_,n,.str i h=>by rw [PD,ya n h]; rfl
theorem DY {σ:List Bool} {a b:List D} (h:Sh σ a) (h':Sh σ b):fD (.tup a) (.tup b)=some (.bl (kLt a b)):=by
 show (if ny a && ny b then (eI a b).bind fun r=>some (D.bl r) else none)=_
 rw [mJ h,mJ h']
 show ((eI a b).bind fun r=>some (D.bl r))=_
 unfold kLt
 rcases jv h h' with ⟨e,_⟩ | e | ⟨_,e,_⟩
 ·rw [e]; rfl
 ·subst e; rw [kr h]; rfl
 ·rw [e]; rfl
theorem D3 {σ:List Bool} {a b:List D} (h:Sh σ a) (h':Sh σ b):tR (.tup a) (.tup b)=some (.bl (!pyEqL a b)):=by
 have e:tR (.tup a) (.tup b)=if (pl (.tup a) && pl (.tup b)) && (dr 8 (.tup a) || dr 8 (.tup b)) then some (.bl (!pyEq (.tup a) (.tup b))) else none:=rfl
 have d:dr 8 (.tup a)=true:=by show a.all (dr 7)=true; exact ya 6 h
 rw [e,dE,dE,uK h,uK h',d]
 show some (D.bl (!pyEq (.tup a) (.tup b)))=_
 rw [pyEq]
end TG
namespace TD
open PySem PySem.Spec L2 TG TX
def iV (aL:List D->R D):cB:=aN (iq (cu (lP "tuple" (af 1))) (aN (iq (yc (jT (cu (lP "tuple" (af 0)))) (fB (f2 tR (fL dC (ah (af 0) (ax))) (fL dC (ah (af 1) (ax)))))) (bH (fC (.bl false))) (cG)) (bH (fL xD (ah (gR [none,none] (C7 (ah (af 0) (ah (af 1) (ax)))) (gT 2 (uy [0,1])) (cK) (fR aL (ah (af 0) (ah (af 1) (ax))))) (ax))))) (cG)) (aN (iq (cu (lP "str" (af 1))) (bH (jU (lP "str" (af 0)) (f2 gQ (af 0) (af 1)))) (cG)) (aN (iq (cu (lP "bool" (af 1))) (bH (jU (lP "bool" (af 0)) (f2 gQ (af 0) (af 1)))) (cG)) (bH (jU (lP "int" (af 0)) (jU (uV (lP "bool" (af 0))) (f2 gQ (af 0) (af 1)))))))
def aL:Nat->List D->R D
 | 0=>fun _=>un
 | n+1=>aP (iV (aL n)) 2 2
theorem gM (n:Nat):aL (n+1)=aP (iV (aL n)) 2 2:=by rw [aL]
theorem cE:∀ n:Nat,Ar 2 (aL n)
 | 0=>fun _ h=>absurd (by rw [aL]) h
 | n+1=>by rw [gM]; exact aI
def bh:cB:=aN (bO 2 (f2 bX (f2 bJ (f2 bJ (f2 bJ (f2 mY (f2 bX (af 0) (fC (.int 2147483647))) (fC (.int 48271))) (f2 mY (f2 mY (fC (.int 7919)) (af 1)) (af 1))) (f2 mY (fC (.int 101)) (af 1))) (fC (.int 11))) (fC (.int 2147483629)))) (aN (bO 2 (f2 bX (f2 bJ (f2 mY (af 2) (fC (.int 69621))) (f2 mY (fC (.int 7)) (af 1))) (fC (.int 2147483587)))) (bH (f2 bJ (af 2) (f2 mY (fC (.int 2147483587)) (f2 bX (f2 dR (af 0) (f2 bJ (af 1) (fC (.int 2)))) (f2 qA (fC (.int 10)) (fC (.int 61))))))))
def fu (aZ aU:List D->R D):cB:=aN (iq (fB (f2 gQ (f2 aE (af 0) (fC (.int 0))) (fC (.str "number")))) (bH (f2 bJ (f2 aE (af 0) (fC (.int 1))) (f2 bX (af 1) (f2 bJ (f2 jt (f2 aE (af 0) (fC (.int 2))) (f2 aE (af 0) (fC (.int 1)))) (fC (.int 1)))))) (cG)) (aN (iq (fB (f2 gQ (f2 aE (af 0) (fC (.int 0))) (fC (.str "word")))) (bH (f2 aE (f2 aE (af 0) (fC (.int 1))) (f2 bX (af 1) (fL dC (ah (f2 aE (af 0) (fC (.int 1))) (ax)))))) (cG)) (bH (fR aU (ah (f2 aE (af 0) (fC (.int 1))) (ah (gR [none,some 1] (cy (ah (f2 bJ (fL zv (ah (f2 aE (af 0) (fC (.int 2))) (ax))) (f2 bX (af 1) (fC (.int 3)))) (ax))) (gN 0) (cK) (fR (aP bh 2 3) (ah (af 1) (ah (f2 bJ (fC (.int 30)) (af 0)) (ax))))) (ax))))))
def fE (aZ aU:List D->R D):cB:=aN (bO 2 (gR [none,none] (bT (f2 bJ (f2 aE (af 0) (fC (.int 0))) (f2 aE (af 0) (fC (.int 1))))) (gT 2 (uy [0,1])) (cK) (af 1))) (aN (bO 3 (fL dC (ah (f2 aE (af 0) (fC (.int 0))) (ax)))) (aN (ui 4 (mX (ax))) (fZ [0] (aN (pW (bT (af 1)) (gN 5) (aN (bO 6 (fL cI (ah (gR [none,some 2,some 5] (cy (ah (fL dC (ah (af 2) (ax))) (ax))) (gN 0) (cK) (fR aZ (ah (f2 aE (af 1) (af 0)) (ah (fR (aP bh 2 3) (ah (af 2) (ah (f2 bJ (fC (.int 40)) (af 0)) (ax)))) (ax))))) (ax)))) (aN (bO 7 (fC (.int 0))) (fZ [0,1,5] (aN (mq 200 (dU [4] (gG (fB (f2 fD (af 7) (fL dC (ah (af 4) (ax))))) (fB (f2 fD (aV (f2 aE (af 4) (af 7)) (aK) (bi (af 3))) (aV (af 6) (aK) (bi (af 3))))))) (bO 7 (f2 bJ (af 7) (fC (.int 1))))) (aN (iq (dU [4] (yc (fB (f2 gQ (af 7) (fL dC (ah (af 4) (ax))))) (fB (f2 tR (aV (f2 aE (af 4) (af 7)) (aK) (bi (af 3))) (aV (af 6) (aK) (bi (af 3))))))) (zH 4 Ab (ah (af 7) (ah (af 6) (ax)))) (cG)) (fZ [5,6,7] cG))))))) (pE 4 (bH (fL cI (ah (af 4) (ax)))))))))
mutual
def aZ:Nat->List D->R D
 | 0=>fun _=>un
 | n+1=>aP (fu (aZ n) (aU n)) 2 2
def aU:Nat->List D->R D
 | 0=>fun _=>un
 | n+1=>aP (fE (aZ n) (aU n)) 2 8
end
theorem dN (n:Nat):aZ (n+1)=aP (fu (aZ n) (aU n)) 2 2:=by rw [aZ]
theorem kY:∀ n:Nat,Ar 2 (aZ n)
 | 0=>fun _ h=>absurd (by rw [aZ]) h
 | n+1=>by rw [dN]; exact aI
theorem dP (n:Nat):aU (n+1)=aP (fE (aZ n) (aU n)) 2 8:=by rw [aU]
theorem fO:∀ n:Nat,Ar 2 (aU n)
 | 0=>fun _ h=>absurd (by rw [aU]) h
 | n+1=>by rw [dP]; exact aI
def cj:cB:=aN (bO 1 (fC (.str "abcdefghijklmnopqrstuvwxyz"))) (aN (bO 2 (f2 bJ (fC (.int 1)) (f2 bX (f2 dR (af 0) (fC (.int 4))) (fC (.int 3))))) (aN (iq (fB (f2 gQ (f2 bX (af 0) (fC (.int 4))) (fC (.int 1)))) (bO 2 (f2 bJ (fC (.int 1)) (f2 bX (f2 dR (af 0) (fC (.int 4))) (fC (.int 12))))) (cG)) (aN (bO 3 (mh (fC (.str "")) (ah (gR [none,some 1,some 0] (cy (ah (fC (.int 8)) (ax))) (gN 0) (cK) (f2 aE (af 1) (f2 bX (fR (aP bh 2 3) (ah (af 2) (ah (f2 bJ (fC (.int 20)) (af 0)) (ax)))) (fC (.int 26))))) (ax)))) (aN (iq (gG (fB (f2 gQ (f2 bX (f2 dR (af 0) (fC (.int 48))) (fC (.int 4))) (fC (.int 1)))) (fB (f2 fD (af 2) (fC (.int 10))))) (bH (fL cI (ah (gR [none,some 3] (cy (ah (af 2) (ax))) (gN 0) (cK) (aV (af 1) (aK) (bi (af 0)))) (ax)))) (cG)) (aN (bO 4 (f2 bX (f2 dR (af 0) (fC (.int 192))) (fC (.int 8)))) (aN (bO 5 (f2 bX (f2 dR (af 0) (fC (.int 1536))) (f2 jt (fC (.int 27)) (af 2)))) (aN (bO 6 (f2 bJ (f2 bJ (af 4) (fC (.int 1))) (f2 bX (f2 dR (af 0) (fC (.int 7))) (f2 jt (fC (.int 8)) (af 4))))) (bH (fL cI (ah (gR [none,some 3,some 4,some 1,some 5,some 6] (cy (ah (af 2) (ax))) (gN 0) (cK) (f2 bJ (f2 bJ (aV (af 1) (aK) (bi (af 2))) (f2 aE (af 3) (f2 bJ (af 4) (af 0)))) (aV (af 1) (bi (f2 bJ (af 2) (fC (.int 1)))) (bi (af 5))))) (ax)))))))))))
def dt:cB:=aN (bO 2 (fC (.str "abcdefghijklmnopqrstuvwxyz"))) (aN (bO 3 (gR [none,some 2,some 0] (cy (ah (fC (.int 8)) (ax))) (gN 0) (cK) (f2 aE (af 1) (f2 bX (fR (aP bh 2 3) (ah (af 2) (ah (af 0) (ax)))) (fC (.int 26)))))) (aN (iq (gG (fB (f2 gQ (f2 bX (f2 dR (af 0) (fC (.int 5))) (fC (.int 4))) (fC (.int 1)))) (fB (f2 fD (af 1) (fC (.int 9))))) (bH (gR [none,some 3] (cy (ah (af 1) (ax))) (gN 0) (cK) (mh (fC (.str "")) (ah (aV (af 1) (aK) (bi (f2 bJ (af 0) (fC (.int 1))))) (ax))))) (cG)) (aN (bO 4 (f2 bJ (fC (.int 1)) (f2 bX (af 0) (fC (.int 8))))) (aN (bO 5 (f2 bX (f2 dR (af 0) (fC (.int 8))) (af 4))) (aN (bO 6 (f2 aE (mX (ah (fC (.int 1)) (ah (fC (.int 5)) (ah (fC (.int 7)) (ah (fC (.int 11)) (ah (fC (.int 17)) (ah (fC (.int 25)) (ax)))))))) (f2 bX (fR (aP bh 2 3) (ah (af 0) (ah (fC (.int 9)) (ax)))) (fC (.int 6))))) (aN (ui 7 (mX (ax))) (aN (pW (cy (ah (af 1) (ax))) (gN 8) (aN (bO 9 (f2 aE (af 2) (f2 bX (f2 bJ (f2 dR (af 0) (fC (.int 64))) (f2 mY (af 8) (af 6))) (fC (.int 26))))) (aN (zH 7 pQ (ah (f2 bJ (f2 bJ (mh (fC (.str "")) (ah (aV (af 3) (aK) (bi (af 5))) (ax))) (af 9)) (mh (fC (.str "")) (ah (aV (af 3) (bi (f2 bJ (af 5) (fC (.int 1)))) (bi (af 4))) (ax)))) (ax))) (fZ [8,9] cG)))) (pE 7 (bH (af 7))))))))))
def gr:cB:=aN (bO 1 (fR (aP dt 2 10) (ah (af 0) (ah (fC (.int 2)) (ax))))) (aN (bO 2 (f2 jt (f2 bX (f2 dR (af 0) (fC (.int 9))) (fC (.int 5))) (fC (.int 2)))) (aN (bO 3 (cY (ah (cY (ah (f2 aE (af 1) (fC (.int 0))) (ah (cY (ah (fC (.str "number")) (ah (af 2) (ah (f2 bJ (af 2) (f2 bX (f2 dR (af 0) (fC (.int 45))) (fC (.int 4)))) (ax))))) (ax)))) (ax)))) (aN (iq (fB (f2 gQ (f2 bX (af 0) (fC (.int 2))) (fC (.int 1)))) (bH (cY (ah (af 3) (ah (cY (ax)) (ax))))) (cG)) (bH (cY (ah (af 3) (ah (cY (ah (cY (ah (f2 aE (af 1) (fC (.int 1))) (ah (cY (ah (fC (.str "word")) (ah (fR (aP cj 1 7) (ah (f2 dR (af 0) (fC (.int 2))) (ax))) (ax)))) (ax)))) (ax))) (ax))))))))
def cQ:cB:=aN (bO 2 (f2 dR (af 0) (fC (.int 6)))) (aN (iq (fB (f2 fD (f2 bX (af 0) (fC (.int 6))) (fC (.int 2)))) (aN (bO 3 (f2 jt (f2 bX (af 2) (fC (.int 25))) (fC (.int 12)))) (bH (cY (ah (fC (.str "number")) (ah (af 3) (ah (f2 bJ (af 3) (f2 bX (f2 dR (af 2) (fC (.int 25))) (fC (.int 10)))) (ax))))))) (cG)) (aN (iq (fB (f2 gQ (f2 bX (af 0) (fC (.int 6))) (fC (.int 2)))) (aN (bO 3 (f2 jt (f2 bX (af 2) (f2 mY (fC (.int 2)) (f2 qA (fC (.int 10)) (fC (.int 59))))) (f2 qA (fC (.int 10)) (fC (.int 59))))) (bH (cY (ah (fC (.str "number")) (ah (af 3) (ah (f2 bJ (af 3) (f2 bX (f2 dR (af 2) (fC (.int 3))) (f2 qA (fC (.int 10)) (fC (.int 59))))) (ax))))))) (cG)) (aN (iq (gG (fB (f2 gQ (f2 bX (af 0) (fC (.int 6))) (fC (.int 5)))) (cu (af 1))) (bH (cY (ah (fC (.str "rows")) (ah (fR (aP gr 1 4) (ah (af 2) (ax))) (ah (f2 gQ (f2 bX (af 2) (fC (.int 2))) (fC (.int 1))) (ax)))))) (cG)) (bH (cY (ah (fC (.str "word")) (ah (fR (aP cj 1 7) (ah (af 2) (ax))) (ax))))))))
def bW:cB:=aN (iq (fB (f2 fD (af 1) (fL dC (ah (af 0) (ax))))) (bH (f2 aE (af 0) (af 1))) (cG)) (bH (fC (.int 0)))
def jg:cB:=bH (fL cI (ah (gR [none] (bT (f2 bJ (f2 aE (af 0) (fC (.int 0))) (f2 aE (af 0) (fC (.int 1))))) (gN 0) (cK) (f2 aE (af 0) (fC (.int 0)))) (ax)))
def cV:cB:=aN (pW (ka (ah (fR (aP jg 1 1) (ah (af 0) (ax))) (ax))) (gT 2 (uy [2,3])) (aN (iq (fB (f2 gQ (af 3) (af 1))) (bH (af 2)) (cG)) (fZ [2,3] cG))) (yg)
def hX:cB:=bH (f2 bJ (f2 bJ (aV (af 0) (aK) (bi (af 1))) (af 2)) (aV (af 0) (bi (f2 bJ (af 1) (fC (.int 1)))) (aK)))
def jh:cB:=bH (f2 fD (af 1) (fL dC (ah (f2 aE (af 0) (fC (.int 0))) (ax))))
def eM:cB:=aN (iq (cu (fR (aP jh 2 2) (ah (af 0) (ah (af 1) (ax))))) (bH (cY (ah (fR (aP hX 3 3) (ah (f2 aE (af 0) (fC (.int 0))) (ah (af 1) (ah (af 2) (ax))))) (ah (f2 aE (af 0) (fC (.int 1))) (ax))))) (cG)) (bH (cY (ah (f2 aE (af 0) (fC (.int 0))) (ah (fR (aP hX 3 3) (ah (f2 aE (af 0) (fC (.int 1))) (ah (f2 jt (af 1) (fL dC (ah (f2 aE (af 0) (fC (.int 0))) (ax)))) (ah (af 2) (ax))))) (ax)))))
def hZ:cB:=bH (fL cI (ah (gR [none] (bT (f2 bJ (f2 aE (af 0) (fC (.int 0))) (f2 aE (af 0) (fC (.int 1))))) (gN 0) (cK) (f2 aE (af 0) (fC (.int 1)))) (ax)))
def hU:cB:=bH (f2 aE (f2 aE (f2 bJ (f2 aE (af 0) (fC (.int 0))) (f2 aE (af 0) (fC (.int 1)))) (af 1)) (fC (.int 1)))
def eO:cB:=bH (Jp (cu (lP "str" (af 0))) (f2 bJ (fC (.str ".")) (af 0)) (fL zL (ah (af 0) (ax))))
end TD
namespace TD
open PySem PySem.Spec L2 TG
local macro_rules
 | `(tactic| simp! only [$xs,*])=>`(tactic| simp only [fM,Bb,nz,AU,m9,ie,ge_0,FP,xG,Gv,wG,rk,wJ,vQ,FQ,Hk,FH,Gm,GI,xi,xO,BL,pf,rg,xN,qN,BU,wO,vR,rq,xP,oB,xU,oX,o8,mN,mD,vM,qP,mH,qQ,oS,rB,qW,fQ,qI,oa,wC,pJ,oU,i6,rp,rE,GY,Bd,GU,G2,GH,xW,qX,vT,rj,rC,GR,Hi,QV,QW,OB,O7,Pr,PR,K0,env0,List.replicate,Qs,OI,Qm,Nat.reduceAdd,Nat.reduceSub,OA,Ph,wd,wA,BG,xg,xl,wv,mI,wX,BA,AW,Bf,xC,ow,pD,oJ,oI,oK,oG,qt,A6,Bc,BM,AZ,By,o7,oT,kq,j6,w8,mB,kU,kz,ku,wN,vW,kI,kF,oZ,pI,q5,qV,oO,oP,wV,wf,rd,qY,gN,if_true,if_false,QX,QY,Pp,$xs,*])
theorem Lc (ns:List Int) (i:Int) (h:0<=i):∃ c:Int,aP bW 2 2 [.lst (ns.map .int),.int i]=.ok (.int c):=Dt ns i h
def LY:Int:=10 ^ 61
theorem Jl:qA (.int 10) (.int 61)=some (.int LY):=EE 10 61 (by decide) (by decide)
theorem KS:1000000 < LY:=by decide +kernel
theorem jx (c j:Int) (h0:0<=j) (h1:j<=1000):∃ r:Int,0<=r/\aP bh 2 3 [.int c,.int j]=.ok (.int r):=by
 have p:=KS
 have m1:=fun i=>qO (i:=i) (j:=48271) (by decide) (by decide)
 have m2:=fun i=>kT (i:=7919) (j:=i) (by decide) (by decide)
 have m3:=fun i=>qO (i:=i) (j:=j) ‹0› ‹0›
 have m4:=fun i=>kT (i:=101) (j:=i) (by decide) (by decide)
 have m5:=fun i=>qO (i:=i) (j:=69621) (by decide) (by decide)
 have m6:=fun i=>kT (i:=7) (j:=i) (by decide) (by decide)
 have m7:=fun i=>kT (i:=2147483587) (j:=i) (by decide) (by decide)
 have g1:=fun i=>bL (i:=i) (show (0:Int) < 2147483647 by decide)
 have g2:=fun i=>bL (i:=i) (show (0:Int) < 2147483629 by decide)
 have g3:=fun i=>bL (i:=i) (show (0:Int) < 2147483587 by decide)
 have g4:=fun i=>bL (i:=i) (show (0:Int) < LY by omega)
 have d1:=fun i=>cJ (i:=i) (j:=j+2) ‹0› (by
  have:(10:Int) ^ 200 > 1000000:=by decide +kernel
  omega)
 rw [cH]
 unfold bh
 simp! only [m1,m2,m3,m4,m5,m6,m7,g1,g2,g3,g4,d1,Jl]
 refine⟨_,?_,rfl⟩
 have q1:=QZ (((c%2147483647*48271+7919*j*j+101*j+11)%2147483629)*69621+7*j) (show (2147483587:Int)≠0 by decide)
 have q2:=QZ (c / (j+2)) (show LY≠0 by omega)
 omega
def rT:Nat->D->Prop
 | 0,_=>False
 | n+1,d=>(∃ i,d=.int i)\/(∃ w,d=.str w)\/(∃ b,d=.bl b)\/∃ ds:List D,d=.tup ds/\ds.length<=1000/\∀ x∈ds,rT n x
theorem rT.mono:∀ {n m:Nat} {d:D},n<=m->rT n d->rT m d
 | n+1,m+1,d,h,q=>by
  rcases q with q | q | q | ⟨ds,e,l,q⟩
  ·exact .inl q
  ·exact .inr (.inl q)
  ·exact .inr (.inr (.inl q))
  ·exact .inr (.inr (.inr ⟨ds,e,l,fun x hx=>(q x hx).mono ‹0›⟩))
theorem Bp:∀ bs:List Bool,allB (bs.map .bl)=some (bs.all id)
 | []=>rfl
 | b::bs=>by
  show (allB (bs.map .bl)).bind (fun c=>some (b && c))=_
  rw [Bp bs]; rfl
theorem GQ (bs:List Bool):xD [.lst (bs.map .bl)]=some (.bl (bs.all id)):=by
 have e:xD [.lst (bs.map .bl)]=(allB (bs.map .bl)).bind fun b=>some (D.bl b):=rfl
 rw [e,Bp]; rfl
theorem yJ:∀ ds:List D,nJ ds ds=ds.map fun d=>.tup [d,d]
 | []=>rfl
 | d::ds=>by
  show D.tup [d,d]::nJ ds ds=_
  rw [yJ ds]; rfl
theorem CQ (xs ys:List D):Cp [.tup xs,.tup ys]=some (nJ xs ys):=nr rfl
theorem jl (n:Nat):∀ (d:D),rT n d->aL n [d,d]=.ok (.bl true):=by
 induction n with
 | zero=>exact fun d h=>h.elim
 | succ n ih =>
  intro d h
  rw [gM,cH]
  unfold iV
  rcases h with ⟨i,rfl⟩ | ⟨w,rfl⟩ | ⟨b,rfl⟩ | ⟨ds,rfl,l,q⟩
  ·have t1:nW "tuple" (.int i)=some (.bl false):=rfl
   have t2:nW "str" (.int i)=some (.bl false):=rfl
   have t3:nW "int" (.int i)=some (.bl true):=rfl
   have t4:nW "bool" (.int i)=some (.bl false):=rfl
   simp! only [BEq.rfl,t1,t2,t3,t4,Q0]
  ·have t1:nW "tuple" (.str w)=some (.bl false):=rfl
   have t2:nW "str" (.str w)=some (.bl true):=rfl
   simp! only [BEq.rfl,t1,t2,Q0]
  ·have t1:nW "tuple" (.bl b)=some (.bl false):=rfl
   have t2:nW "str" (.bl b)=some (.bl false):=rfl
   have t4:nW "bool" (.bl b)=some (.bl true):=rfl
   simp! only [BEq.rfl,t1,t2,t4,Q0]
  ·have t1:nW "tuple" (.tup ds)=some (.bl true):=rfl
   have f0:gR [none,none] (C7 (ah (af 0) (ah (af 1) (ax)))) (gT 2 (uy [0,1])) (cK) (fR (aL n) (ah (af 0) (ah (af 1) (ax)))) [some (.val (.tup ds)),some (.val (.tup ds))]=.ok (.lst ((ds.map fun _=>true).map .bl)):=by
    refine cP (ds:=ds.map fun d=>.tup [d,d]) ?_ (by rw [OC]; omega) ?_
    ·simp! only [CQ,yJ]
    ·rw [QF]
     refine iW (fun d:D=>D.tup [d,d]) _ ds fun d hd=>⟨[some (.val d),some (.val d)],rfl,rfl,?_⟩
     simp! only [ih d (q d hd)]; rfl
   have ga:xD [.lst ((ds.map fun _=>true).map .bl)]=some (.bl true):=by
    rw [GQ,PH]
    have e2:(ds.all (id ∘ fun _=>true))=true:=by rw [List.all_eq_true]; intro x _; rfl
    rw [e2]
   simp! only [BEq.rfl,t1,f0,ga]
theorem yW (x:Str) (h:x.length<=1000) (i:Int) (h0:0<=i) (h1:i < x.length):aE (.str x) (.int i)=some (.str ⟨#[x.cps.toList.getD i.toNat 0]⟩):=by
 have hl:x.cps.toList.length=x.length:=by simp [Str.length]
 have hi:i < x.cps.toList.length:=by omega
 show (if small x.length then (pN x.cps.toList i).bind fun c=>some (D.str ⟨#[c]⟩) else none)=_
 have e:x.cps.toList.getD i.toNat 0=x.cps.toList[i.toNat]'‹0›:=by
  rw [QC,PJ ‹0›]; rfl
 rw [eA ‹0›,if_pos rfl,o4 h0 hi,e]; rfl
theorem A3 {a b x y:Str} (h:a++x++b=a++y++b):x=y:=by
 have h1:(a.cps++x.cps)++b.cps=(a.cps++y.cps)++b.cps:=congrArg Str.cps h
 have h2:=congrArg Array.toList h1
 rw [Array.toList_append,Array.toList_append,Array.toList_append,Array.toList_append] at h2
 have h3:=List.append_cancel_left (List.append_cancel_right h2)
 exact y9 h3
theorem A8 (n:Nat):∀ vs:List D,(∀ v∈vs,∃ w:Str,v=.str w/\w.length=n)->∃ ws:List Str,vs=ws.map .str/\(ws.map fun y=>y.length).sum=n*ws.length
 | [],_=>⟨[],rfl,rfl⟩
 | v::vs,h=>by
  obtain⟨w,rfl,hw⟩:=h v Oj
  obtain⟨ws,rfl,h2⟩:=A8 n vs fun v' hv=>h v' (Ol _ hv)
  refine⟨w::ws,rfl,?_⟩
  rw [OB,QT,h2,hw,OA,Nat.mul_succ,Nat.add_comm]
theorem sr (c:Int):∃ ws:List Str,ws≠[]/\ws.length<=12/\(∀ w∈ws,w.length<=20)/\ws.Nodup/\aP cj 1 7 [.int c]=.ok (.tup (ws.map .str)):=by
 have LL:(("abcdefghijklmnopqrstuvwxyz":Str)).length=26:=by decide +kernel
 have LN:(("abcdefghijklmnopqrstuvwxyz":Str)).cps.toList.Nodup:=by decide +kernel
 generalize hL:("abcdefghijklmnopqrstuvwxyz":Str)=L at LL LN
 have r8:kQ [.int 8]=some (cW 0 8):=fX 8 (by decide)
 have g3:=fun i=>bL (i:=i) (show (0:Int) < 3 by decide)
 have g4:=fun i=>bL (i:=i) (show (0:Int) < 4 by decide)
 have g8:=fun i=>bL (i:=i) (show (0:Int) < 8 by decide)
 have g12:=fun i=>bL (i:=i) (show (0:Int) < 12 by decide)
 have g26:=fun i=>bL (i:=i) (show (0:Int) < 26 by decide)
 have d4:=fun i=>cJ (i:=i) (show (0:Int) < 4 by decide) (show (4:Int) < 10 ^ 200 by decide)
 have d7:=fun i=>cJ (i:=i) (show (0:Int) < 7 by decide) (show (7:Int) < 10 ^ 200 by decide)
 have d48:=fun i=>cJ (i:=i) (show (0:Int) < 48 by decide) (show (48:Int) < 10 ^ 200 by decide)
 have d192:=fun i=>cJ (i:=i) (show (0:Int) < 192 by decide) (show (192:Int) < 10 ^ 200 by decide)
 have d1536:=fun i=>cJ (i:=i) (show (0:Int) < 1536 by decide) (show (1536:Int) < 10 ^ 200 by decide)
 have full:∀ r:Int,∃ x:Str,x.length=8/\mh (fC (.str "")) (ah (gR [none,some 1,some 0] (cy (ah (fC (.int 8)) (ax))) (gN 0) (cK) (f2 aE (af 1) (f2 bX (fR (aP bh 2 3) (ah (af 2) (ah (f2 bJ (fC (.int 20)) (af 0)) (ax)))) (fC (.int 26))))) (ax)) [some (.val (.int c)),some (.val (.str L)),some (.val (.int r)),none,none,none,none]=.ok (.str x):=by
  intro r
  obtain⟨vs,v1,v2,v3⟩:∃ vs:List D,vs.length=(cW 0 8).length/\(∀ v∈vs,∃ w:Str,v=.str w/\w.length=1)/\xc (inB [none,some 1,some 0] [some (.val (.int c)),some (.val (.str L)),some (.val (.int r)),none,none,none,none]) (gN 0) cK (f2 aE (af 1) (f2 bX (fR (aP bh 2 3) (ah (af 2) (ah (f2 bJ (fC (.int 20)) (af 0)) (ax)))) (fC (.int 26)))) (cW 0 8)=.ok vs:=by
   refine lL (fun v=>∃ w:Str,v=.str w/\w.length=1) _ fun d hd=>?_
   obtain⟨k,hk,rfl⟩:=j9 hd
   obtain⟨q,hq,eq⟩:=jx c (20+(0+(k:Int))) ‹0› ‹0›
   obtain⟨y,hy,e1⟩:=Bh L ‹0› (q%26) ‹0› ‹0›
   refine⟨_,_,rfl,rfl,?_,y,rfl,hy⟩
   simp! only [eq,g26,e1]
  obtain⟨ws,rfl,s1⟩:=A8 1 vs v2
  rw [OC,bV] at v1
  obtain⟨x,hx,ex⟩:=Bs ws ‹0›
  refine⟨x,by omega,?_⟩
  have f0:=cP (ix:=[none,some 1,some 0]) (G:=cy (ah (fC (.int 8)) (ax))) (ρ:=[some (.val (.int c)),some (.val (.str L)),some (.val (.int r)),none,none,none,none]) (by simp! only [r8]) (by rw [bV]; decide) v3
  simp! only [xq,f0,ex]
 obtain⟨r,r1,r2,er⟩:∃ r:Nat,1<=r/\r<=12/\(if c%4=1 then 1+c / 4%12 else 1+c / 4%3)=(r:Int):=by
  by_cases h:c%4=1
  ·exact⟨(1+c / 4%12).toNat,by omega,by omega,by rw [if_pos h]; omega⟩
  ·exact⟨(1+c / 4%3).toNat,by omega,by omega,by rw [if_neg h]; omega⟩
 obtain⟨x,hx,ex⟩:=full r
 have er1:=fX r ‹0›
 obtain⟨T,hT⟩:∃ T:cB,T=(aN (iq (gG (fB (f2 gQ (f2 bX (f2 dR (af 0) (fC (.int 48))) (fC (.int 4))) (fC (.int 1)))) (fB (f2 fD (af 2) (fC (.int 10))))) (bH (fL cI (ah (gR [none,some 3] (cy (ah (af 2) (ax))) (gN 0) (cK) (aV (af 1) (aK) (bi (af 0)))) (ax)))) (cG)) (aN (bO 4 (f2 bX (f2 dR (af 0) (fC (.int 192))) (fC (.int 8)))) (aN (bO 5 (f2 bX (f2 dR (af 0) (fC (.int 1536))) (f2 jt (fC (.int 27)) (af 2)))) (aN (bO 6 (f2 bJ (f2 bJ (af 4) (fC (.int 1))) (f2 bX (f2 dR (af 0) (fC (.int 7))) (f2 jt (fC (.int 8)) (af 4))))) (bH (fL cI (ah (gR [none,some 3,some 4,some 1,some 5,some 6] (cy (ah (af 2) (ax))) (gN 0) (cK) (f2 bJ (f2 bJ (aV (af 1) (aK) (bi (af 2))) (f2 aE (af 3) (f2 bJ (af 4) (af 0)))) (aV (af 1) (bi (f2 bJ (af 2) (fC (.int 1)))) (bi (af 5))))) (ax)))))))):=⟨_,rfl⟩
 have rest:∃ ws:List Str,ws≠[]/\ws.length<=12/\(∀ w∈ws,w.length<=20)/\ws.Nodup/\T K0 [some (.val (.int c)),some (.val (.str L)),some (.val (.int r)),some (.val (.str x)),none,none,none]=.ok (.tup (ws.map .str)):=by
  rw [hT]
  by_cases hb:(c / 48%4==1 && decide ((r:Int) < 10))=true
  ·obtain⟨y,hy⟩:∃ y:Nat->Str,y=fun k=>(⟨(x.cps.toList.take k).toArray⟩:Str):=⟨_,rfl⟩
   have yl:∀ k,(y k).length=min k 8:=fun k=>by
    rw [hy]
    show (x.cps.toList.take k).toArray.size=_
    have:x.cps.size=8:=hx
    rw [Oy,OL,Array.length_toList,this]
   have v3:xc (inB [none,some 3] [some (.val (.int c)),some (.val (.str L)),some (.val (.int r)),some (.val (.str x)),none,none,none]) (gN 0) cK (aV (af 1) (aK) (bi (af 0))) (cW 0 r)=.ok ((List.range r).map fun k=>.str (y k)):=by
    rw [i9]
    refine iW (fun k:Nat=>D.int (0+(k:Int))) (fun k=>.str (y k)) (List.range r) fun k hk=>⟨_,rfl,rfl,?_⟩
    have e1:lG (.str x) none (some (0+(k:Int)))=some (.str (y k)):=by
     have z:lG (.str x) none (some (0+(k:Int)))=if small x.length then some (.str ⟨(cutD x.cps.toList none (some (0+(k:Int)))).toArray⟩) else none:=rfl
     rw [z,eA ‹0›,Int.zero_add,fh,hy]; rfl
    simp! only [e1]
   have hr:decide ((r:Int) < 10)=true:=by rw [O1] at hb; exact hb.2
   have hr:=of_decide_eq_true hr
   have f0:=cP (ix:=[none,some 3]) (G:=cy (ah (af 2) (ax))) (ρ:=[some (.val (.int c)),some (.val (.str L)),some (.val (.int r)),some (.val (.str x)),none,none,none]) (by simp! only [er1]) (by rw [bV]; omega) v3
   have em:((List.range r).map y).map D.str=(List.range r).map fun k=>.str (y k):=by rw [QF]; rfl
   refine⟨(List.range r).map y,fun h=>?_,by rw [OC,P4]; omega,fun w hw'=>?_,?_,?_⟩
   ·have:=congrArg List.length h
    rw [OC,P4] at this
    simp at this; omega
   ·obtain⟨k,_,rfl⟩:=List.mem_map.mp hw'
    rw [yl]; omega
   ·refine List.pairwise_map.mpr (List.nodup_range.imp_of_mem fun {i j} hi hj hne e=>hne ?_)
    have:=congrArg Str.length e
    rw [yl,yl] at this
    have:=List.mem_range.mp hi
    have:=List.mem_range.mp hj
    omega
   rw [em]
   rw [O1] at hb
   simp! only [d48,g4,hb.1,hb.2,f0]
  ·have hb':(c / 48%4==1 && decide ((r:Int) < 10))=false:=by simpa using hb
   generalize ha:c / 192%8=a
   have ha1:0<=a/\a<=7:=by omega
   have m1:=fun i=>bL (i:=i) (show (0:Int) < 27 - r by omega)
   have m2:=fun i=>bL (i:=i) (show (0:Int) < 8 - a by omega)
   have b1:=QZ (c / 1536) (show 27 - (r:Int)≠0 by omega)
   have b2:=Q1 (c / 1536) (show 0 < 27 - (r:Int) by omega)
   generalize hfi:c / 1536%(27 - (r:Int))=fi at b1 b2
   generalize he:a+1+c / 7%(8 - a)=en
   obtain⟨y1,hy1,e1⟩:=uS x ‹0› none (some a)
   obtain⟨y3,hy3,e3⟩:=uS x ‹0› (some (a+1)) (some en)
   obtain⟨sg,hsg⟩:∃ sg:Nat->Str,sg=fun (j:Nat)=>(⟨#[L.cps.toList.getD (fi+(0+(j:Int))).toNat 0]⟩:Str):=⟨_,rfl⟩
   have sg_len:∀ j,(sg j).length=1:=fun j=>by rw [hsg]; rfl
   have sg_ne:∀ i j:Nat,i < r->j < r->sg i=sg j->i=j:=fun i j hi hj e=>by
    rw [hsg] at e
    have hl:L.cps.toList.length=26:=by rw [Array.length_toList]; exact LL
    have e1:L.cps.toList.getD (fi+(0+(i:Int))).toNat 0=L.cps.toList.getD (fi+(0+(j:Int))).toNat 0:=by
     have:=congrArg (fun z:Str=>z.cps.toList) e
     simpa using this
    have ha:(fi+(0+(i:Int))).toNat < L.cps.toList.length:=by omega
    have hb:(fi+(0+(j:Int))).toNat < L.cps.toList.length:=by omega
    rw [QC,QC,PJ ha,PJ hb,Qe,Qe] at e1
    have pw:=List.pairwise_iff_getElem.mp LN
    rcases Nat.lt_trichotomy i j with q | q | q
    ·exact absurd e1 (pw _ _ ha hb ‹0›)
    ·exact q
    ·exact absurd e1.symm (pw _ _ hb ha ‹0›)
   have v3:xc (inB [none,some 3,some 4,some 1,some 5,some 6] [some (.val (.int c)),some (.val (.str L)),some (.val (.int r)),some (.val (.str x)),some (.val (.int a)),some (.val (.int fi)),some (.val (.int en))]) (gN 0) cK (f2 bJ (f2 bJ (aV (af 1) (aK) (bi (af 2))) (f2 aE (af 3) (f2 bJ (af 4) (af 0)))) (aV (af 1) (bi (f2 bJ (af 2) (fC (.int 1)))) (bi (af 5)))) (cW 0 r)=.ok ((List.range r).map fun k=>.str (y1++sg k++y3)):=by
    rw [i9]
    refine iW (fun k:Nat=>D.int (0+(k:Int))) (fun k=>.str (y1++sg k++y3)) (List.range r) fun k hk=>⟨_,rfl,rfl,?_⟩
    have hk:=List.mem_range.mp hk
    have e2:aE (.str L) (.int (fi+(0+(k:Int))))=some (.str (sg k)):=by rw [hsg]; exact yW L ‹0› _ ‹0› ‹0›
    have sl:=sg_len k
    have a1:=lR y1 (sg k) ‹0› ‹0›
    have a2:=lR (y1++sg k) y3 (by rw [mC]; omega) ‹0›
    simp! only [e1,e2,e3,a1,a2]
   have f0:=cP (ix:=[none,some 3,some 4,some 1,some 5,some 6]) (G:=cy (ah (af 2) (ax))) (ρ:=[some (.val (.int c)),some (.val (.str L)),some (.val (.int r)),some (.val (.str x)),some (.val (.int a)),some (.val (.int fi)),some (.val (.int en))]) (by simp! only [er1]) (by rw [bV]; omega) v3
   have em:((List.range r).map fun k=>y1++sg k++y3).map D.str=(List.range r).map fun k=>.str (y1++sg k++y3):=by rw [QF]; rfl
   refine⟨(List.range r).map fun k=>y1++sg k++y3,fun h=>?_,by rw [OC,P4]; omega,fun w hw'=>?_,?_,?_⟩
   ·have:=congrArg List.length h
    rw [OC,P4] at this
    simp at this; omega
   ·obtain⟨k,_,rfl⟩:=List.mem_map.mp hw'
    rw [mC,mC,sg_len]; omega
   ·refine List.pairwise_map.mpr (List.nodup_range.imp_of_mem fun {i j} hi hj hne e=>hne ?_)
    exact sg_ne i j (List.mem_range.mp hi) (List.mem_range.mp hj) (A3 e)
   rw [em]
   cases hx1:(c / 48%4==1) with
   | false=>simp! only [d48,g4,hx1,d192,g8,ha,d1536,m1,hfi,m2,d7,he,f0]
   | true =>
    rw [hx1,Q2] at hb'
    simp! only [d48,g4,hx1,hb',d192,g8,ha,d1536,m1,hfi,m2,d7,he,f0]
 obtain⟨ws,w1,w2,wl,wn,w3⟩:=rest
 refine⟨ws,w1,w2,wl,wn,?_⟩
 rw [kj]
 unfold cj
 rw [<- hT]
 simp only [K0] at w3
 by_cases h4:c%4=1
 ·rw [if_pos h4] at er
  simp! only [hL,d4,g3,g4,g12,h4,BEq.rfl,er,ex,w3]
 ·rw [if_neg h4] at er
  have h4':(c%4==1)=false:=by simp [h4]
  simp! only [hL,d4,g3,g4,g12,h4',er,ex,w3]
theorem C3 (c:Int):∃ ws:List Str,ws≠[]/\ws.length<=12/\(∀ w∈ws,w.length<=20)/\aP cj 1 7 [.int c]=.ok (.tup (ws.map .str)) :=
 let ⟨ws,w1,w2,wl,_,w3⟩:=sr c; ⟨ws,w1,w2,wl,w3⟩
theorem ye (c:Int):∃ ws:List Str,ws≠[]/\ws.length<=12/\aP cj 1 7 [.int c]=.ok (.tup (ws.map .str)) :=
 let ⟨ws,w1,w2,_,w3⟩:=C3 c; ⟨ws,w1,w2,w3⟩
theorem Eo (c:Int) (n:Nat) (hn:n<=20):∃ ws:List Str,ws.length=n/\(∀ w∈ws,w.length<=20)/\(9<=n->ws.Nodup)/\aP dt 2 10 [.int c,.int n]=.ok (.lst (ws.map .str)):=by
 have LL:(("abcdefghijklmnopqrstuvwxyz":Str)).length=26:=by decide +kernel
 have LN:(("abcdefghijklmnopqrstuvwxyz":Str)).cps.toList.Nodup:=by decide +kernel
 generalize hL:("abcdefghijklmnopqrstuvwxyz":Str)=L at LL LN
 have r8:kQ [.int 8]=some (cW 0 8):=fX 8 (by decide)
 have rn:=fX n ‹0›
 have g4:=fun i=>bL (i:=i) (show (0:Int) < 4 by decide)
 have g6:=fun i=>bL (i:=i) (show (0:Int) < 6 by decide)
 have g8:=fun i=>bL (i:=i) (show (0:Int) < 8 by decide)
 have g26:=fun i=>bL (i:=i) (show (0:Int) < 26 by decide)
 have d5:=fun i=>cJ (i:=i) (show (0:Int) < 5 by decide) (show (5:Int) < 10 ^ 200 by decide)
 have d8:=fun i=>cJ (i:=i) (show (0:Int) < 8 by decide) (show (8:Int) < 10 ^ 200 by decide)
 have d64:=fun i=>cJ (i:=i) (show (0:Int) < 64 by decide) (show (64:Int) < 10 ^ 200 by decide)
 obtain⟨vs,v1,v2,v3⟩:∃ vs:List D,vs.length=(cW 0 8).length/\(∀ v∈vs,∃ w:Str,v=.str w/\w.length<=1)/\xc (inB [none,some 2,some 0] [some (.val (.int c)),some (.val (.int n)),some (.val (.str L)),none,none,none,none,none,none,none]) (gN 0) cK (f2 aE (af 1) (f2 bX (fR (aP bh 2 3) (ah (af 2) (ah (af 0) (ax)))) (fC (.int 26)))) (cW 0 8)=.ok vs:=by
  refine lL (fun v=>∃ w:Str,v=.str w/\w.length<=1) _ fun d hd=>?_
  obtain⟨k,hk,rfl⟩:=j9 hd
  obtain⟨q,hq,eq⟩:=jx c (0+(k:Int)) ‹0› ‹0›
  obtain⟨y,hy,e1⟩:=Bh L ‹0› (q%26) ‹0› ‹0›
  refine⟨_,_,rfl,rfl,?_,y,rfl,by omega⟩
  simp! only [eq,g26,e1]
 obtain⟨bs,rfl,hb⟩:=vO 1 vs v2
 rw [OC,bV] at v1
 have f0:=cP (ix:=[none,some 2,some 0]) (G:=cy (ah (fC (.int 8)) (ax))) (ρ:=[some (.val (.int c)),some (.val (.int n)),some (.val (.str L)),none,none,none,none,none,none,none]) (by simp! only [r8]) (by rw [bV]; decide) v3
 have part:∀ lo hi:Option Int,∃ x:Str,x.length<=8/\sK "" [.lst (cutD (bs.map D.str) lo hi)]=some (.str x):=fun lo hi=>by
  have l:=qm bs lo hi
  have s1:=DN 1 (cutD bs lo hi) fun w hw=>hb w (Ef hw)
  obtain⟨x,hx,ex⟩:=Bs (cutD bs lo hi) ‹0›
  exact⟨x,by omega,by rw [qT]; exact ex⟩
 rw [cH]
 unfold dt
 by_cases hc:(c / 5%4==1 && decide ((n:Int) < 9))=true
 ·obtain⟨us,u1,u2,u3⟩:∃ vs:List D,vs.length=(cW 0 n).length/\(∀ v∈vs,∃ w:Str,v=.str w/\w.length<=20)/\xc (inB [none,some 3] [some (.val (.int c)),some (.val (.int n)),some (.val (.str L)),some (.val (.lst (bs.map .str))),none,none,none,none,none,none]) (gN 0) cK (mh (fC (.str "")) (ah (aV (af 1) (aK) (bi (f2 bJ (af 0) (fC (.int 1))))) (ax))) (cW 0 n)=.ok vs:=by
   refine lL (fun v=>∃ w:Str,v=.str w/\w.length<=20) _ fun d hd=>?_
   obtain⟨k,hk,rfl⟩:=j9 hd
   obtain⟨x,hx,ex⟩:=part none (some (0+(k:Int)+1))
   refine⟨_,_,rfl,rfl,?_,x,rfl,by omega⟩
   simp! only [xq,ex]
  obtain⟨ws,rfl,hw⟩:=vO 20 us u2
  rw [OC,bV] at u1
  have f1:=cP (ix:=[none,some 3]) (G:=cy (ah (af 1) (ax))) (ρ:=[some (.val (.int c)),some (.val (.int n)),some (.val (.str L)),some (.val (.lst (bs.map .str))),none,none,none,none,none,none]) (by simp! only [rn]) (by rw [bV]; omega) u3
  rw [O1] at hc
  refine⟨ws,u1,hw,(fun h9=>by have:=of_decide_eq_true hc.2; omega),?_⟩
  simp! only [hL,f0,d5,g4,hc.1,hc.2,f1]
 ·have hc':(c / 5%4==1 && decide ((n:Int) < 9))=false:=by simpa using hc
  have lg:0 < 1+c%8:=by omega
  have gl:=fun i=>bL (i:=i) lg
  obtain⟨q,hq,eq⟩:=jx c 9 (by decide) (by decide)
  obtain⟨st,hst,est⟩:∃ st:Int,(st=1\/st=5\/st=7\/st=11\/st=17\/st=25)/\aE (.lst [.int 1,.int 5,.int 7,.int 11,.int 17,.int 25]) (.int (q%6))=some (.int st):=by
   rcases(show q%6=0\/q%6=1\/q%6=2\/q%6=3\/q%6=4\/q%6=5 by omega) with z | z | z | z | z | z <;> rw [z]
   ·exact⟨1,by simp,rfl⟩
   ·exact⟨5,by simp,rfl⟩
   ·exact⟨7,by simp,rfl⟩
   ·exact⟨11,by simp,rfl⟩
   ·exact⟨17,by simp,rfl⟩
   ·exact⟨25,by simp,rfl⟩
  have l6:∀ a b c d e f:D,sP [a,b,c,d,e,f]=some (.lst [a,b,c,d,e,f]):=fun _ _ _ _ _ _=>rfl
  have ms:=fun i=>qO (i:=i) (j:=st) ‹0› ‹0›
  generalize hat:c / 8%(1+c%8)=at'
  obtain⟨y1,hy1,e1⟩:=part none (some at')
  obtain⟨y3,hy3,e3⟩:=part (some (at'+1)) (some (1+c%8))
  obtain⟨T,hT⟩:∃ T:cB,T=(aN (pW (cy (ah (af 1) (ax))) (gN 8) (aN (bO 9 (f2 aE (af 2) (f2 bX (f2 bJ (f2 dR (af 0) (fC (.int 64))) (f2 mY (af 8) (af 6))) (fC (.int 26))))) (aN (zH 7 pQ (ah (f2 bJ (f2 bJ (mh (fC (.str "")) (ah (aV (af 3) (aK) (bi (af 5))) (ax))) (af 9)) (mh (fC (.str "")) (ah (aV (af 3) (bi (f2 bJ (af 5) (fC (.int 1)))) (bi (af 4))) (ax)))) (ax))) (fZ [8,9] cG)))) (pE 7 (bH (af 7)))):=⟨_,rfl⟩
  obtain⟨sgn,hsgn⟩:∃ sgn:Nat->Str,sgn=fun (j:Nat)=>(⟨#[L.cps.toList.getD ((c / 64+(0+(j:Int))*st)%26).toNat 0]⟩:Str):=⟨_,rfl⟩
  have sgn_len:∀ j,(sgn j).length=1:=fun j=>by rw [hsgn]; rfl
  have sgn_ne:∀ i j:Nat,i < j->j < 20->sgn i≠sgn j:=fun i j hij hj e=>by
   rw [hsgn] at e
   have hl:L.cps.toList.length=26:=by rw [Array.length_toList]; exact LL
   have e1:L.cps.toList.getD ((c / 64+(0+(i:Int))*st)%26).toNat 0=L.cps.toList.getD ((c / 64+(0+(j:Int))*st)%26).toNat 0:=by
    have:=congrArg (fun z:Str=>z.cps.toList) e
    simpa using this
   have ha:((c / 64+(0+(i:Int))*st)%26).toNat < L.cps.toList.length:=by omega
   have hb:((c / 64+(0+(j:Int))*st)%26).toNat < L.cps.toList.length:=by omega
   rw [QC,QC,PJ ha,PJ hb,Qe,Qe] at e1
   have ne:((c / 64+(0+(i:Int))*st)%26).toNat≠((c / 64+(0+(j:Int))*st)%26).toNat:=by
    rcases hst with rfl | rfl | rfl | rfl | rfl | rfl <;> omega
   have pw:=List.pairwise_iff_getElem.mp LN
   rcases QD ne with q | q
   ·exact pw _ _ ha hb q e1
   ·exact pw _ _ hb ha q e1.symm
  have key:∃ ws:List Str,ws.length=n/\(∀ w∈ws,w.length<=20)/\ws.Nodup/\(T K0 [some (.val (.int c)),some (.val (.int n)),some (.val (.str L)),some (.val (.lst (bs.map .str))),some (.val (.int (1+c%8))),some (.val (.int at')),some (.val (.int st)),some (.own (.lst [])),none,none])=.ok (.lst (ws.map .str)):=by
   rw [hT,fQ,i6]
   simp! only [rn]
   refine oV (Q:=fun r=>∃ ws:List Str,ws.length=n/\(∀ w∈ws,w.length<=20)/\ws.Nodup/\r=.ok (.lst (ws.map .str))) (fun i ρ=>∃ us:List Str,us.length=i/\(∀ w∈us,w.length<=20)/\(∀ (j:Nat) (w:Str),us[j]?=some w->w=y1++sgn j++y3)/\ρ=[some (.val (.int c)),some (.val (.int n)),some (.val (.str L)),some (.val (.lst (bs.map .str))),some (.val (.int (1+c%8))),some (.val (.int at')),some (.val (.int st)),some (.own (.lst (us.map .str))),none,none]) ?_ ?_ ?_
   ·rintro i d ρ k' hd ⟨us,u1,u2,u3,rfl⟩
    have hi:=eD hd
    rw [bV] at hi
    have hdi:d=.int (0+(i:Int)):=by
     rw [i9,OS,P7 hi] at hd
     cases hd; rfl
    subst hdi
    have e2:aE (.str L) (.int ((c / 64+(0+(i:Int))*st)%26))=some (.str (sgn i)):=by rw [hsgn]; exact yW L ‹0› _ ‹0› ‹0›
    have hy2:=sgn_len i
    generalize hsg:sgn i=y2 at e2 hy2
    have a1:=lR y1 y2 ‹0› ‹0›
    have a2:=lR (y1++y2) y3 (by rw [mC]; omega) ‹0›
    refine⟨_,_,rfl,⟨us++[y1++y2++y3],by simp; omega,?_,?_,rfl⟩,?_⟩
    ·intro w hw
     rcases List.mem_append.mp hw with z | z
     ·exact u2 w z
     ·rw [List.mem_singleton.mp z,mC,mC]; omega
    ·intro j w hw
     rcases QH j us.length with z | z
     ·rw [OQ z] at hw
      exact u3 j w hw
     ·have ej:j=i:=by
       have:=eD hw
       simp at this; omega
      rw [OM z,ej,u1,Qr] at hw
      cases hw
      rw [ej,hsg]
    ·simp only [fQ,pJ]
     simp! only [d64,ms,g26,e2]
     rw [ml _ _ _ _ _ (xs:=us.map .str) rfl]
     simp! only [xq,e1,e3,a1,a2,vU (xs:=us.map D.str) (y:=.str (y1++y2++y3)) (by rw [OC]; omega),PX]
   ·exact⟨[],rfl,(fun _ h=>nomatch h),(fun _ _ h=>nomatch h),rfl⟩
   ·rintro ρ' ⟨us,u1,u2,u3,rfl⟩
    rw [bV] at u1
    refine⟨us,u1,u2,?_,by simp! only []⟩
    refine List.pairwise_iff_getElem.mpr fun i j hi hj hij e=>?_
    have ei:=u3 i _ (PJ hi)
    have ej:=u3 j _ (PJ hj)
    rw [e,ej] at ei
    exact sgn_ne i j hij ‹0› (A3 ei.symm)
  obtain⟨ws,w1,w2,wn,w3⟩:=key
  refine⟨ws,w1,w2,(fun _=>wn),?_⟩
  rw [<- hT]
  simp only [K0] at w3
  cases hx1:(c / 5%4==1) with
  | false=>simp! only [hL,f0,d5,g4,hx1,g8,d8,gl,hat,l6,eq,g6,est,Hr,w3]
  | true =>
   rw [hx1,Q2] at hc'
   simp! only [hL,f0,d5,g4,hx1,hc',g8,d8,gl,hat,l6,eq,g6,est,Hr,w3]
def pP (d:D):Prop:=(∃ lo hi:Int,lo<=hi/\-qG < lo/\hi < qG/\d=.tup [.str "number",.int lo,.int hi])\/∃ ws:List Str,ws≠[]/\ws.length<=12/\d=.tup [.str "word",.tup (ws.map .str)]
def vG:Nat->D->Prop
 | 0,d=>pP d
 | n+1,d=>pP d\/∃ (kf rf:List D) (b:Bool),d=.tup [.str "rows",.tup [.tup kf,.tup rf],.bl b]/\1<=kf.length/\kf.length+rf.length<=20/\(∀ f∈kf,∃ nm k,f=.tup [.str nm,k]/\pP k)/\∀ f∈rf,∃ nm k,f=.tup [.str nm,k]/\vG n k
def Mj (n:Nat) (d:D):Prop:=∃ kf rf:List D,d=.tup [.tup kf,.tup rf]/\1<=kf.length/\kf.length+rf.length<=20/\(∀ f∈kf,∃ nm k,f=.tup [.str nm,k]/\pP k)/\∀ f∈rf,∃ nm k,f=.tup [.str nm,k]/\vG n k
theorem pP.kin {n:Nat} {d:D} (h:pP d):vG n d:=by
 cases n with
 | zero=>exact h
 | succ n=>exact .inl h
theorem Ee (c:Int):∃ f,Mj 0 f/\aP gr 1 4 [.int c]=.ok f:=by
 have p2:=Be
 obtain⟨ns,n1,n2,_,en⟩:=Eo c 2 (by decide)
 obtain⟨a,b,rfl⟩:∃ a b,ns=[a,b]:=by
  match ns,n1 with
  | [a,b],_=>exact⟨a,b,rfl⟩
 have en':aP dt 2 10 [.int c,.int 2]=.ok (.lst [.str a,.str b]):=en
 obtain⟨ws,w1,w2,ew⟩:=ye (c / 2)
 have g2:=fun i=>bL (i:=i) (show (0:Int) < 2 by decide)
 have g4:=fun i=>bL (i:=i) (show (0:Int) < 4 by decide)
 have g5:=fun i=>bL (i:=i) (show (0:Int) < 5 by decide)
 have d2:=fun i=>cJ (i:=i) (show (0:Int) < 2 by decide) (show (2:Int) < 10 ^ 200 by decide)
 have d9:=fun i=>cJ (i:=i) (show (0:Int) < 9 by decide) (show (9:Int) < 10 ^ 200 by decide)
 have d45:=fun i=>cJ (i:=i) (show (0:Int) < 45 by decide) (show (45:Int) < 10 ^ 200 by decide)
 have hk:∀ f∈[D.tup [.str a,.tup [.str "number",.int (c / 9%5 - 2),.int (c / 9%5 - 2+c / 45%4)]]],∃ nm k,f=.tup [.str nm,k]/\pP k:=fun f hf=>by
  rw [List.mem_singleton.mp hf]
  exact⟨_,_,rfl,.inl ⟨_,_,by omega,by omega,by omega,rfl⟩⟩
 rw [kj]
 unfold gr
 by_cases h:c%2=1
 ·refine⟨_,⟨_,[],rfl,by simp,by simp,hk,fun _ h=>nomatch h⟩,?_⟩
  simp! only [en',d9,g5,d45,g4,g2,h,BEq.rfl,Kg,M5,qB,Fh]
 ·have h':(c%2==1)=false:=by simp [h]
  refine⟨_,⟨_,[.tup [.str b,.tup [.str "word",.tup (ws.map .str)]]],rfl,by simp,by simp,hk,fun f hf=>?_⟩,?_⟩
  ·rw [List.mem_singleton.mp hf]
   exact⟨_,_,rfl,.inr ⟨ws,w1,w2,rfl⟩⟩
  ·simp! only [en',d9,g5,d45,g4,g2,d2,h',ew,Kg,M5,qB,Fh]
theorem Fz (c:Int) (b:Bool):∃ k,(b=false->pP k)/\vG 1 k/\aP cQ 2 4 [.int c,.bl b]=.ok k:=by
 have p1:=HC
 have p2:=Be
 have g2:=fun i=>bL (i:=i) (show (0:Int) < 2 by decide)
 have g6:=fun i=>bL (i:=i) (show (0:Int) < 6 by decide)
 have g10:=fun i=>bL (i:=i) (show (0:Int) < 10 by decide)
 have g25:=fun i=>bL (i:=i) (show (0:Int) < 25 by decide)
 have g59:=fun i=>bL (i:=i) (show (0:Int) < qj by omega)
 have g259:=fun i=>bL (i:=i) (show (0:Int) < 2*qj by omega)
 have m2:mY (.int 2) (.int qj)=some (.int (2*qj)):=kT (by decide) (by decide)
 have d3:=fun i=>cJ (i:=i) (show (0:Int) < 3 by decide) (show (3:Int) < 10 ^ 200 by decide)
 have d6:=fun i=>cJ (i:=i) (show (0:Int) < 6 by decide) (show (6:Int) < 10 ^ 200 by decide)
 have d25:=fun i=>cJ (i:=i) (show (0:Int) < 25 by decide) (show (25:Int) < 10 ^ 200 by decide)
 have flat:∀ k,pP k->aP cQ 2 4 [.int c,.bl b]=.ok k->∃ k,(b=false->pP k)/\vG 1 k/\aP cQ 2 4 [.int c,.bl b]=.ok k:=fun k h e=>⟨k,fun _=>h,h.kin,e⟩
 by_cases h1:c%6 < 2
 ·refine flat _ (.inl ⟨c / 6%25 - 12,c / 6%25 - 12+c / 6 / 25%10,by omega,by omega,by omega,rfl⟩) ?_
  rw [cH]; unfold cQ
  simp! only [d6,g6,decide_eq_true h1,g25,d25,g10,Fh]
 ·by_cases h2:c%6=2
  ·have b1:=QZ (c / 6) (show 2*qj≠0 by omega)
   have b2:=Q1 (c / 6) (show 0 < 2*qj by omega)
   have b3:=QZ (c / 6 / 3) (show qj≠0 by omega)
   have b4:=Q1 (c / 6 / 3) (show 0 < qj by omega)
   refine flat _ (.inl ⟨c / 6%(2*qj) - qj,c / 6%(2*qj) - qj+c / 6 / 3%qj,by omega,by omega,by omega,rfl⟩) ?_
   rw [cH]; unfold cQ
   simp! only [d6,g6,decide_eq_false h1,(show (c%6==2)=true by simp [h2]),DE,m2,g259,d3,g59,Fh]
  ·have h2':(c%6==2)=false:=by simp [h2]
   obtain⟨ws,w1,w2,ew⟩:=ye (c / 6)
   by_cases h5:c%6=5
   ·cases b with
    | true =>
     obtain⟨f,⟨kf,rf,rfl,l1,l2,k1,k2⟩,ef⟩:=Ee (c / 6)
     refine⟨_,(fun h=>by cases h),.inr ⟨kf,rf,(c / 6%2==1),rfl,l1,l2,k1,k2⟩,?_⟩
     rw [cH]; unfold cQ
     simp! only [d6,g6,decide_eq_false h1,h2',(show (c%6==5)=true by simp [h5]),ef,g2,Fh]
    | false =>
     refine flat _ (.inr ⟨ws,w1,w2,rfl⟩) ?_
     rw [cH]; unfold cQ
     simp! only [d6,g6,decide_eq_false h1,h2',(show (c%6==5)=true by simp [h5]),ew,qB]
   ·have h5':(c%6==5)=false:=by simp [h5]
    refine flat _ (.inr ⟨ws,w1,w2,rfl⟩) ?_
    rw [cH]; unfold cQ
    simp! only [d6,g6,decide_eq_false h1,h2',h5',ew,qB]
def x6 (k v:D):Prop:=(∃ lo hi i:Int,k=.tup [.str "number",.int lo,.int hi]/\lo<=i/\i<=hi/\v=.int i)\/∃ (ws:List Str) (w:Str),k=.tup [.str "word",.tup (ws.map .str)]/\w∈ws/\v=.str w
theorem tq (n:Nat) (k:D) (h:pP k) (c:Int):∃ v,x6 k v/\aZ (n+1) [k,.int c]=.ok v:=by
 rcases h with ⟨lo,hi,h1,h2,h3,rfl⟩ | ⟨ws,w1,w2,rfl⟩
 ·have g:=fun i=>bL (i:=i) (show (0:Int) < hi - lo+1 by omega)
  have b1:=QZ c (show hi - lo+1≠0 by omega)
  have b2:=Q1 c (show 0 < hi - lo+1 by omega)
  refine⟨_,.inl ⟨lo,hi,lo+c%(hi - lo+1),rfl,by omega,by omega,rfl⟩,?_⟩
  rw [dN,cH]; unfold fu
  simp! only [BEq.rfl,g]
 ·have hl:0 < ws.length:=by
   cases ws with
   | nil=>exact absurd rfl w1
   | cons w ws=>simp
  have g:=fun i=>bL (i:=i) (show (0:Int) < (ws.length:Int) by omega)
  have b1:=QZ c (show (ws.length:Int)≠0 by omega)
  have b2:=Q1 c (show 0 < (ws.length:Int) by omega)
  have hj:(c%(ws.length:Int)).toNat < ws.length:=by omega
  have e:aE (.tup (ws.map .str)) (.int (c%(ws.length:Int)))=some (.str ws[(c%(ws.length:Int)).toNat]):=by
   rw [yk,iy,o4 ‹0› ‹0›]; rfl
  refine⟨_,.inr ⟨ws,ws[(c%(ws.length:Int)).toNat],rfl,QA _,rfl⟩,?_⟩
  rw [dN,cH]; unfold fu
  simp! only [lq,BEq.rfl,OC,g,e]
theorem Ea (ks m:D) (row:List D) (rows:List (List D)) (mm:Nat) (σ:List Bool) (hr:Sh σ (row.take mm)) (hs:∀ r∈rows,Sh σ (r.take mm)) (hm:m=.int mm) :
  ∀ (n j:Nat) (k:Ks),j<=rows.length->rows.length - j < n ->
  eJ (dU [4] (gG (fB (f2 fD (af 7) (fL dC (ah (af 4) (ax))))) (fB (f2 fD (aV (f2 aE (af 4) (af 7)) (aK) (bi (af 3))) (aV (af 6) (aK) (bi (af 3))))))) (bO 7 (f2 bJ (af 7) (fC (.int 1)))) k n
   [none,none,some (.val ks),some (.val m),some (.own (.lst (rows.map .tup))),none,some (.val (.tup row)),some (.val (.int j))]
   = k.nx [none,none,some (.val ks),some (.val m),some (.own (.lst (rows.map .tup))),none,some (.val (.tup row)),some (.val (.int ((j+cnt mm (row.take mm) (rows.drop j):Nat):Int)))]:=by
 subst hm
 have pk:∀ (f:az->R Bool) (ρ:az),dU [4] f ρ=De (f (frz 4 ρ)):=fun _ _=>rfl
 intro n
 induction n with
 | zero=>intro j k h1 h2; omega
 | succ n ih =>
  intro j k h1 h2
  have e0:∀ (c:az->R Bool) (B:cB) (k:Ks) (n:Nat) (ρ:az),eJ c B k (n+1) ρ=rH (c ρ) k ρ fun b=>if b then B ⟨eJ c B k n,k.nx,eJ c B k n,k.ex⟩ ρ else k.nx ρ:=fun _ _ _ _ _=>rfl
  rw [e0]
  by_cases hj:j < rows.length
  ·have hd:rows.drop j=rows[j]::rows.drop (j+1):=P8 hj
   have er:aE (.lst (rows.map .tup)) (.int (j:Int))=some (.tup rows[j]):=by
    rw [zm,iy,gJ hj]; rfl
   have lt:=DY (hs rows[j] (QA hj)) hr
   have lj:decide ((j:Int) < (rows.length:Int))=true:=by simpa using hj
   have ec:dU [4] (gG (fB (f2 fD (af 7) (fL dC (ah (af 4) (ax))))) (fB (f2 fD (aV (f2 aE (af 4) (af 7)) (aK) (bi (af 3))) (aV (af 6) (aK) (bi (af 3)))))) [none,none,some (.val ks),some (.val (.int mm)),some (.own (.lst (rows.map .tup))),none,some (.val (.tup row)),some (.val (.int j))]=.ok (kLt (rows[j].take mm) (row.take mm)):=by
    rw [pk]
    simp! only [OC,lj,er,fh,lt]
   rw [ec,nz]
   cases hk:kLt (rows[j].take mm) (row.take mm) with
   | true =>
    rw [if_pos rfl]
    simp! only []
    have ih':=ih (j+1) k ‹0› ‹0›
    have ecast:((j+1:Nat):Int)=(j:Int)+1:=by omega
    rw [ecast] at ih'
    rw [ih',hd]
    have:cnt mm (row.take mm) (rows[j]::rows.drop (j+1))=cnt mm (row.take mm) (rows.drop (j+1))+1:=by
     rw [cnt,if_pos (GO.mp hk)]
    rw [this,show j+1+cnt mm (row.take mm) (rows.drop (j+1))=j+(cnt mm (row.take mm) (rows.drop (j+1))+1) by omega]
   | false =>
    rw [if_neg Ot,hd]
    have:cnt mm (row.take mm) (rows[j]::rows.drop (j+1))=0:=by
     rw [cnt,if_neg (fun z=>by rw [GO.mpr z] at hk; cases hk)]
    rw [this,Q3]
  ·have ej:j=rows.length:=by omega
   have lj:decide ((j:Int) < (rows.length:Int))=false:=by simp [ej]
   have ec:dU [4] (gG (fB (f2 fD (af 7) (fL dC (ah (af 4) (ax))))) (fB (f2 fD (aV (f2 aE (af 4) (af 7)) (aK) (bi (af 3))) (aV (af 6) (aK) (bi (af 3)))))) [none,none,some (.val ks),some (.val (.int mm)),some (.own (.lst (rows.map .tup))),none,some (.val (.tup row)),some (.val (.int j))]=.ok false:=by
    rw [pk]
    simp! only [OC,lj]
   rw [ec,nz,if_neg Ot,QU ‹0›]
   show _=k.nx [none,none,some (.val ks),some (.val (.int mm)),some (.own (.lst (rows.map .tup))),none,some (.val (.tup row)),some (.val (.int ((j+0:Nat):Int)))]
   rw [Q3]
theorem vI (n:Nat) (c:az->R Bool) (B:cB) (k:Ks) (ρ:az):mq n c B k ρ=eJ c B k n ρ:=nr rfl
theorem wt {xs:List D} {i:Nat} {y:D} (h:i<=xs.length) (h':xs.length < 100000):Ab xs [.int i,y]=some (xs.take i++y::xs.drop i):=by
 show (if decide (0<=(i:Int)/\(i:Int)<=xs.length) && small (xs.length+1) then some (xs.take (i:Int).toNat++y::xs.drop (i:Int).toNat) else none)=_
 rw [decide_eq_true ⟨by omega,by omega⟩,eA ‹0›]; rfl
theorem F2.keySh {kf:List D}:∀ {ks:List D},(∀ k∈ks,pP k)->∃ σ:List Bool,∀ vs,F2 x6 ks vs->Sh σ vs
 | [],_=>⟨[],fun vs h=>by cases h; exact .nil⟩
 | k::ks,h=>by
  obtain⟨σ,hσ⟩:=F2.keySh (kf:=kf) (ks:=ks) fun x hx=>h x (Ol _ hx)
  rcases h k Oj with ⟨lo,hi,h1,h2,h3,rfl⟩ | ⟨ws,w1,w2,rfl⟩
  ·refine⟨true::σ,fun vs hv=>?_⟩
   cases hv with
   | cons q t =>
    rcases q with ⟨_,_,i,_,_,_,rfl⟩ | ⟨_,_,e,_⟩
    ·exact .int i (hσ _ t)
    ·cases e
  ·refine⟨false::σ,fun vs hv=>?_⟩
   cases hv with
   | cons q t =>
    rcases q with ⟨_,_,i,e,_⟩ | ⟨_,w,_,_,rfl⟩
    ·cases e
    ·exact .str w (hσ _ t)
set_option maxHeartbeats 2000000 in
theorem CF (rv rt:List D->R D) (FK:D->D->Prop) (ps:List (Str×D)) (kf rf:List D) (hkr:kf++rf=ps.map (fun p=>.tup [.str p.1,p.2])) (hl:ps.length<=100)
  (hv:∀ p∈ps,∀ c:Int,∃ v,FK p.2 v/\rv [p.2,.int c]=.ok v) (σ:List Bool) (hσ:∀ vs,F2 FK (ps.map (·.2)) vs->Sh σ (vs.take kf.length)) (cells:List Int) (hc:cells.length<=100) :
  ∃ rows:List (List D),(∀ r∈rows,F2 FK (ps.map (·.2)) r)/\yQ kf.length rows/\rows.length<=cells.length/\(cells≠[]->rows≠[])/\aP (fE rv rt) 2 8 [.tup [.tup kf,.tup rf],.lst (cells.map .int)]=.ok (.tup (rows.map .tup)):=by
 have hkl:kf.length+rf.length<=100:=by have:=congrArg List.length hkr; rw [OW,OC] at this; omega
 have f0:gR [none,none] (bT (f2 bJ (f2 aE (af 0) (fC (.int 0))) (f2 aE (af 0) (fC (.int 1))))) (gT 2 (uy [0,1])) (cK) (af 1) [some (.val (.tup [.tup kf,.tup rf])),some (.val (.lst (cells.map .int))),none,none,none,none,none,none]=.ok (.lst (ps.map (·.2))):=by
  refine cP (ds:=ps.map (fun p=>.tup [.str p.1,p.2])) ?_ (by rw [OC]; omega) ?_
  ·simp! only []
   rw [e8 _ _ ‹0›,hkr]
   simp! only []
  ·refine iW _ _ ps fun p _=>⟨[some (.val (.str p.1)),some (.val p.2)],rfl,rfl,?_⟩
   simp! only []
 obtain⟨T,hT⟩:∃ T:cB,T=(aN (pW (bT (af 1)) (gN 5) (aN (bO 6 (fL cI (ah (gR [none,some 2,some 5] (cy (ah (fL dC (ah (af 2) (ax))) (ax))) (gN 0) (cK) (fR rv (ah (f2 aE (af 1) (af 0)) (ah (fR (aP bh 2 3) (ah (af 2) (ah (f2 bJ (fC (.int 40)) (af 0)) (ax)))) (ax))))) (ax)))) (aN (bO 7 (fC (.int 0))) (fZ [0,1,5] (aN (mq 200 (dU [4] (gG (fB (f2 fD (af 7) (fL dC (ah (af 4) (ax))))) (fB (f2 fD (aV (f2 aE (af 4) (af 7)) (aK) (bi (af 3))) (aV (af 6) (aK) (bi (af 3))))))) (bO 7 (f2 bJ (af 7) (fC (.int 1))))) (aN (iq (dU [4] (yc (fB (f2 gQ (af 7) (fL dC (ah (af 4) (ax))))) (fB (f2 tR (aV (f2 aE (af 4) (af 7)) (aK) (bi (af 3))) (aV (af 6) (aK) (bi (af 3))))))) (zH 4 Ab (ah (af 7) (ah (af 6) (ax)))) (cG)) (fZ [5,6,7] cG))))))) (pE 4 (bH (fL cI (ah (af 4) (ax)))))):=⟨_,rfl⟩
 have key:∃ rows:List (List D),(∀ r∈rows,F2 FK (ps.map (·.2)) r)/\yQ kf.length rows/\rows.length<=cells.length/\(cells≠[]->rows≠[])/\T K0 [none,some (.val (.lst (cells.map .int))),some (.val (.lst (ps.map (·.2)))),some (.val (.int kf.length)),some (.own (.lst [])),none,none,none]=.ok (.tup (rows.map .tup)):=by
  rw [hT,fQ,i6]
  simp! only []
  refine oV (Q:=fun z=>∃ rows:List (List D),(∀ r∈rows,F2 FK (ps.map (·.2)) r)/\yQ kf.length rows/\rows.length<=cells.length/\(cells≠[]->rows≠[])/\z=.ok (.tup (rows.map .tup)))
   (fun i ρ=>∃ (x:Option S) (rows:List (List D)),(∀ r∈rows,F2 FK (ps.map (·.2)) r)/\yQ kf.length rows/\rows.length<=i/\(0 < i->rows≠[])/\ρ=[none,x,some (.val (.lst (ps.map (·.2)))),some (.val (.int kf.length)),some (.own (.lst (rows.map .tup))),none,none,none]) ?_ ?_ ?_
  ·rintro i d ρ k' hd ⟨x,rows,r1,r2,r3,r4,rfl⟩
   have hi:=eD hd
   rw [OC] at hi
   obtain⟨cl,hcl,rfl⟩:∃ cl:Int,cells[i]?=some cl/\d=.int cl:=by
    rw [OS] at hd
    cases h:cells[i]? with
    | none=>rw [h] at hd; cases hd
    | some cl=>rw [h] at hd; cases hd; exact⟨cl,rfl,rfl⟩
   have rn:=fX ps.length ‹0›
   obtain⟨vs,v1,v2,v3⟩:=DW (ρ:=inB [none,some 2,some 5] [none,x,some (.val (.lst (ps.map (·.2)))),some (.val (.int kf.length)),some (.own (.lst (rows.map .tup))),some (.val (.int cl)),none,none]) (g:=gN 0) (C:=cK)
    (Fe:=fR rv (ah (f2 aE (af 1) (af 0)) (ah (fR (aP bh 2 3) (ah (af 2) (ah (f2 bJ (fC (.int 40)) (af 0)) (ax)))) (ax)))) (cW 0 ps.length) (fun i v=>∀ k,(ps.map (·.2))[i]?=some k->FK k v) (fun i d hd=>by
     have hi:=eD hd
     rw [bV] at hi
     have hdi:d=.int (0+(i:Int)):=by
      rw [i9,OS,P7 hi] at hd
      cases hd; rfl
     subst hdi
     obtain⟨q,hq,eq⟩:=jx cl (40+(0+(i:Int))) ‹0› ‹0›
     obtain⟨v,fv,ev⟩:=hv ps[i] (QA hi) q
     have ek:aE (.lst (ps.map (·.2))) (.int (0+(i:Int)))=some ps[i].2:=by
      rw [zm,iy,Int.zero_add,gJ hi]; rfl
     refine⟨_,v,rfl,rfl,?_,fun k hk=>?_⟩
     ·simp! only [eq,ek,ev]
     ·rw [OS,PJ hi] at hk
      cases hk; exact fv)
   rw [bV] at v1
   have fv:F2 FK (ps.map (·.2)) vs:=F2.of (by rw [OC,v1]) fun i k v e1 e2=>v2 i v e2 k e1
   have f1:=cP (ix:=[none,some 2,some 5]) (G:=cy (ah (fL dC (ah (af 2) (ax))) (ax))) (ρ:=[none,x,some (.val (.lst (ps.map (·.2)))),some (.val (.int kf.length)),some (.own (.lst (rows.map .tup))),some (.val (.int cl)),none,none]) (by simp! only [OC,rn]) (by rw [bV]; omega) v3
   have hs:∀ r∈rows,Sh σ (r.take kf.length):=fun r hr=>hσ r (r1 r hr)
   have hr:=hσ vs fv
   refine⟨_,_,rfl,⟨none,iN kf.length vs rows,fun r hr=>?_,sM hr hs r2,Og (tO rows) ‹0›,fun _=>Fm rows,rfl⟩,?_⟩
   ·rcases oM hr with z | z
    ·rw [z]; exact fv
    ·exact r1 r z
   ·have wh:=fun (k:Ks)=>Ea (.lst (ps.map (·.2))) (.int kf.length) vs rows kf.length σ hr hs rfl 200 0 k ‹0› ‹0›
    rw [Py,Qm] at wh
    have cl1:=AC kf.length (vs.take kf.length) rows
    generalize hp:cnt kf.length (vs.take kf.length) rows=p at wh cl1
    have pk:∀ (f:az->R Bool) (ρ:az),dU [4] f ρ=De (f (frz 4 ρ)):=fun _ _=>rfl
    simp! only [f1,vI]
    refine Eq.trans (wh _) ?_
    simp! only [pk,OC]
    by_cases h1:p=rows.length
    ·have hins:iN kf.length vs rows=rows.take p++vs::rows.drop p:=by
      rw [jz rows,hp,if_neg (by rw [h1,QI (Ow _)]; simp)]
     rw [hins]
     have b1:((p:Int)==(rows.length:Int))=true:=by simp [h1]
     simp! only [b1]
     rw [ml _ _ _ _ _ (xs:=rows.map .tup) rfl]
     simp! only [wt (xs:=rows.map D.tup) (i:=p) (y:=.tup vs) (by rw [OC]; omega) (by rw [OC]; omega)]
     rw [PX,OB,QS,QR]
    ·have b1:((p:Int)==(rows.length:Int))=false:=by simp; omega
     have hp':p < rows.length:=by omega
     have er:aE (.lst (rows.map .tup)) (.int (p:Int))=some (.tup rows[p]):=by
      rw [zm,iy,gJ hp']; rfl
     have ne:=D3 (hs rows[p] (QA hp')) hr
     by_cases h2:rows[p].take kf.length=vs.take kf.length
     ·have b2:pyEqL (rows[p].take kf.length) (vs.take kf.length)=true:=(kB (hs _ (QA hp')) hr).mpr h2
      have hins:iN kf.length vs rows=rows:=by
       rw [jz rows,hp,PJ hp',QO,if_pos (by rw [h2])]
      rw [hins]
      simp! only [b1,er,fh,ne,b2]
     ·have b2:pyEqL (rows[p].take kf.length) (vs.take kf.length)=false:=by
       cases hb:pyEqL (rows[p].take kf.length) (vs.take kf.length) with
       | false=>rfl
       | true=>exact absurd ((kB (hs _ (QA hp')) hr).mp hb) h2
      have hins:iN kf.length vs rows=rows.take p++vs::rows.drop p:=by
       rw [jz rows,hp,PJ hp',QO,if_neg (fun z=>h2 (Option.some.inj z))]
      rw [hins]
      simp! only [b1,er,fh,ne,b2]
      rw [ml _ _ _ _ _ (xs:=rows.map .tup) rfl]
      simp! only [wt (xs:=rows.map D.tup) (i:=p) (y:=.tup vs) (by rw [OC]; omega) (by rw [OC]; omega)]
      rw [PX,OB,QS,QR]
  ·exact⟨_,[],(fun _ h=>nomatch h),List.Pairwise.nil,Ow _,(fun h=>absurd h (Oe _)),rfl⟩
  ·rintro ρ' ⟨x,rows,r1,r2,r3,r4,rfl⟩
   rw [OC] at r3 r4
   refine⟨rows,r1,r2,r3,fun h=>r4 (List.length_pos_iff.mpr h),?_⟩
   simp! only []
 obtain⟨rows,r1,r2,r3,r4,r5⟩:=key
 refine⟨rows,r1,r2,r3,r4,?_⟩
 rw [cH]; unfold fE
 rw [<- hT]
 simp only [K0] at r5
 simp! only [f0,Hr,r5]
def jr:Nat->D->D->Prop
 | 0,k,v=>x6 k v
 | n+1,k,v=>x6 k v\/∃ (kf rf:List D) (b:Bool) (ps:List (Str×D)) (rows:List (List D)),k=.tup [.str "rows",.tup [.tup kf,.tup rf],.bl b]/\kf++rf=ps.map (fun p=>.tup [.str p.1,p.2])/\ps.length<=100/\v=.tup (rows.map .tup)/\rows.length<=100/\(∀ r∈rows,F2 (jr n) (ps.map (·.2)) r)/\yQ kf.length rows/\(b=true->rows≠[])
theorem jr.flat {n:Nat} {k v:D} (h:jr n k v) (hk:pP k):x6 k v:=by
 cases n with
 | zero=>exact h
 | succ n =>
  rcases h with h | ⟨kf,rf,b,ps,rows,e,_⟩
  ·exact h
  ·rcases hk with ⟨lo,hi,_,_,_,e2⟩ | ⟨ws,_,_,e2⟩ <;> rw [e2] at e <;> cases e
theorem F2.flat {n:Nat}:∀ {ks vs:List D},(∀ k∈ks,pP k)->F2 (jr n) ks vs->F2 x6 ks vs
 | _,_,_,.nil=>.nil
 | _,_,h,.cons q t=>.cons (q.flat (h _ Oj)) (F2.flat (fun k hk=>h k (Ol _ hk)) t)
theorem p8 {n:Nat}:∀ (fs:List D),(∀ f∈fs,∃ nm k,f=.tup [.str nm,k]/\vG n k)->∃ ps:List (Str×D),fs=ps.map (fun p=>.tup [.str p.1,p.2])/\∀ p∈ps,vG n p.2
 | [],_=>⟨[],rfl,fun _ h=>nomatch h⟩
 | f::fs,h=>by
  obtain⟨nm,k,rfl,q⟩:=h f Oj
  obtain⟨ps,rfl,q2⟩:=p8 (n:=n) fs fun x hx=>h x (Ol _ hx)
  refine⟨(nm,k)::ps,rfl,fun p hp=>?_⟩
  rcases List.mem_cons.mp hp with rfl | z
  ·exact q
  ·exact q2 p z
theorem DP {n:Nat} {kf rf:List D} (hk:∀ f∈kf,∃ nm k,f=.tup [.str nm,k]/\pP k) (hr:∀ f∈rf,∃ nm k,f=.tup [.str nm,k]/\vG n k) :
  ∃ ps:List (Str×D),kf++rf=ps.map (fun p=>.tup [.str p.1,p.2])/\ps.length=kf.length+rf.length/\(∀ p∈ps,vG n p.2)/\∀ k∈(ps.map (·.2)).take kf.length,pP k:=by
 obtain⟨p1,e1,q1⟩:=p8 (n:=n) kf fun f hf=>by
  obtain⟨nm,k,e,q⟩:=hk f hf
  exact⟨nm,k,e,q.kin⟩
 obtain⟨p2,e2,q2⟩:=p8 (n:=n) rf hr
 have l1:p1.length=kf.length:=by rw [e1,OC]
 have l2:p2.length=rf.length:=by rw [e2,OC]
 refine⟨p1++p2,by rw [PX,<- e1,<- e2],by rw [OW,l1,l2],fun p hp=>?_,fun k hk'=>?_⟩
 ·rcases List.mem_append.mp hp with z | z
  ·exact q1 p z
  ·exact q2 p z
 ·rw [<- QS,<- l1,Q4  rfl] at hk'
  obtain⟨p,hp,rfl⟩:=List.mem_map.mp hk'
  obtain⟨nm,k,e,q⟩:=hk (.tup [.str p.1,p.2]) (by rw [e1]; exact List.mem_map.mpr ⟨p,hp,rfl⟩)
  cases e
  exact q
theorem pV (n m:Nat) (rt:List D->R D) (hv:∀ (k:D) (c:Int),vG n k->∃ v,jr n k v/\aZ m [k,.int c]=.ok v) (kf rf:List D) (hl:kf.length+rf.length<=20) (hk:∀ f∈kf,∃ nm k,f=.tup [.str nm,k]/\pP k)
  (hr:∀ f∈rf,∃ nm k,f=.tup [.str nm,k]/\vG n k) (cells:List Int) (hc:cells.length<=100) :
  ∃ (ps:List (Str×D)) (rows:List (List D)),kf++rf=ps.map (fun p=>.tup [.str p.1,p.2])/\ps.length=kf.length+rf.length/\(∀ p∈ps,vG n p.2)/\(∀ k∈(ps.map (·.2)).take kf.length,pP k)/\(∀ r∈rows,F2 (jr n) (ps.map (·.2)) r)/\yQ kf.length rows/\rows.length<=cells.length/\(cells≠[]->rows≠[]) /\
   aP (fE (aZ m) rt) 2 8 [.tup [.tup kf,.tup rf],.lst (cells.map .int)]=.ok (.tup (rows.map .tup)):=by
 obtain⟨ps,e,l,q1,q2⟩:=DP hk hr
 obtain⟨σ,hσ⟩:=F2.keySh (kf:=kf) q2
 obtain⟨rows,r1,r2,r3,r4,r5⟩:=CF (aZ m) rt (jr n) ps kf rf e ‹0› (fun p hp c=>hv p.2 c (q1 p hp)) σ (fun vs h=>hσ _ (F2.flat q2 (F2.take kf.length h))) cells hc
 exact⟨ps,rows,e,l,q1,q2,r1,r2,r3,r4,r5⟩
theorem A2 (m:Nat) (k:D) (c:Int) (h:vG 1 k):∃ v,jr 1 k v/\aZ (m+3) [k,.int c]=.ok v:=by
 rcases h with h | ⟨kf,rf,b,rfl,h1,h2,h3,h4⟩
 ·obtain⟨v,q,e⟩:=tq (m+2) k h c
  exact⟨v,.inl q,e⟩
 ·have g3:=fun i=>bL (i:=i) (show (0:Int) < 3 by decide)
  obtain⟨nn,hnn,hnn'⟩:∃ nn:Nat,(if b then (1:Int) else 0)+c%3=(nn:Int)/\nn<=3:=by
   cases b
   ·exact⟨(0+c%3).toNat,by simp; omega,by omega⟩
   ·exact⟨(1+c%3).toNat,by simp; omega,by omega⟩
  have rn:=fX nn ‹0›
  obtain⟨vs,v1,v2,v3⟩:∃ vs:List D,vs.length=(cW 0 nn).length/\(∀ v∈vs,∃ i:Int,v=.int i)/\xc (inB [none,some 1] [some (.val (.tup [.str "rows",.tup [.tup kf,.tup rf],.bl b])),some (.val (.int c))]) (gN 0) cK (fR (aP bh 2 3) (ah (af 1) (ah (f2 bJ (fC (.int 30)) (af 0)) (ax)))) (cW 0 nn)=.ok vs:=by
   refine lL (fun v=>∃ i:Int,v=.int i) _ fun d hd=>?_
   obtain⟨k,hk,rfl⟩:=j9 hd
   obtain⟨q,hq,eq⟩:=jx c (30+(0+(k:Int))) ‹0› ‹0›
   refine⟨_,_,rfl,rfl,?_,q,rfl⟩
   simp! only [eq]
  obtain⟨cells,rfl⟩:∃ cells:List Int,vs=cells.map .int:=by
   clear v1 v3
   induction vs with
   | nil=>exact⟨[],rfl⟩
   | cons v vs ih =>
    obtain⟨i,rfl⟩:=v2 v Oj
    obtain⟨cs,rfl⟩:=ih fun v hv=>v2 v (Ol _ hv)
    exact⟨i::cs,rfl⟩
  rw [OC,bV] at v1
  have f0:=cP (ix:=[none,some 1]) (G:=cy (ah (f2 bJ (fL zv (ah (f2 aE (af 0) (fC (.int 2))) (ax))) (f2 bX (af 1) (fC (.int 3)))) (ax))) (ρ:=[some (.val (.tup [.str "rows",.tup [.tup kf,.tup rf],.bl b])),some (.val (.int c))]) (by simp! only [En,g3,hnn,rn]) (by rw [bV]; omega) v3
  obtain⟨ps,rows,e,l,q1,q2,r1,r2,r3,r4,r5⟩:=pV 0 (m+1) (aU (m+1)) (fun k c hk=>tq m k hk c) kf rf h2 h3 h4 cells ‹0›
  refine⟨.tup (rows.map .tup),.inr ⟨kf,rf,b,ps,rows,rfl,e,by omega,rfl,by omega,r1,r2,fun hb=>r4 (fun z=>?_)⟩,?_⟩
  ·rw [z] at v1
   rw [hb] at hnn
   simp at v1 hnn
   omega
  ·rw [dN,cH]; unfold fu
   rw [<- dP] at r5
   simp! only [HP,GL,f0,r5]
theorem x6.aok {k v:D} (h:x6 k v):rT 1 v:=by
 rcases h with ⟨_,_,i,_,_,_,rfl⟩ | ⟨_,w,_,_,rfl⟩
 ·exact .inl ⟨i,rfl⟩
 ·exact .inr (.inl ⟨w,rfl⟩)
theorem sG {R:D->D->Prop} {n:Nat} {ks:List D} {rows:List (List D)} (hf:∀ k v,R k v->rT n v) (hk:ks.length<=1000) (hr:rows.length<=1000) (h:∀ r∈rows,F2 R ks r):rT (n+2) (.tup (rows.map .tup)):=by
 refine .inr (.inr (.inr ⟨_,rfl,by rw [OC]; exact hr,fun x hx=>?_⟩))
 obtain⟨r,hr',rfl⟩:=List.mem_map.mp hx
 have f:=h r hr'
 refine .inr (.inr (.inr ⟨r,rfl,by rw [<- f.length]; exact hk,fun y hy=>?_⟩))
 obtain⟨k,_,q⟩:=f.mem hy
 exact hf k y q
theorem jr.aok:∀ (n:Nat) {k v:D},jr n k v->rT (2*n+1) v
 | 0,_,_,h=>x6.aok h
 | n+1,_,_,h=>by
  rcases h with h | ⟨kf,rf,b,ps,rows,_,_,lp,rfl,lr,r1,_,_⟩
  ·exact h.aok.mono ‹0›
  ·exact(sG (n:=2*n+1) (fun k v q=>jr.aok n q) (by rw [OC]; omega) ‹0› r1).mono ‹0›
theorem fT {n:Nat} {ds:List D} (h:ds.length<=1000) (q:∀ x∈ds,rT n x):rT (n+1) (.tup ds):=.inr (.inr (.inr ⟨ds,rfl,h,q⟩))
theorem gx {n:Nat} {w:Str}:rT (n+1) (.str w):=.inr (.inl ⟨w,rfl⟩)
theorem qL {n:Nat} {i:Int}:rT (n+1) (.int i):=.inl ⟨i,rfl⟩
theorem E9 {n:Nat} {b:Bool}:rT (n+1) (.bl b):=.inr (.inr (.inl ⟨b,rfl⟩))
theorem pP.aok {k:D} (h:pP k):rT 3 k:=by
 rcases h with ⟨lo,hi,_,_,_,rfl⟩ | ⟨ws,_,w2,rfl⟩
 ·refine fT (by simp) fun x hx=>?_
  simp only [Qf,Qg,or_false] at hx
  rcases hx with rfl | rfl | rfl
  ·exact gx
  ·exact qL
  ·exact qL
 ·refine fT (by simp) fun x hx=>?_
  simp only [Qf,Qg,or_false] at hx
  rcases hx with rfl | rfl
  ·exact gx
  ·refine fT (by rw [OC]; omega) fun y hy=>?_
   obtain⟨w,_,rfl⟩:=List.mem_map.mp hy
   exact gx
theorem rJ {n:Nat} {fs:List D} (hl:fs.length<=1000) (h:∀ f∈fs,∃ nm k,f=.tup [.str nm,k]/\rT (n+1) k):rT (n+3) (.tup fs):=by
 refine fT hl fun f hf=>?_
 obtain⟨nm,k,rfl,q⟩:=h f hf
 refine fT (by simp) fun x hx=>?_
 simp only [Qf,Qg,or_false] at hx
 rcases hx with rfl | rfl
 ·exact gx
 ·exact q
theorem yf {n:Nat} {kf rf:List D} (hl:kf.length+rf.length<=1000) (hk:∀ f∈kf,∃ nm k,f=.tup [.str nm,k]/\rT (n+1) k) (hr:∀ f∈rf,∃ nm k,f=.tup [.str nm,k]/\rT (n+1) k):rT (n+4) (.tup [.tup kf,.tup rf]):=by
 refine fT (by simp) fun x hx=>?_
 simp only [Qf,Qg,or_false] at hx
 rcases hx with rfl | rfl
 ·exact rJ ‹0› hk
 ·exact rJ ‹0› hr
theorem vG.aok:∀ (n:Nat) {k:D},vG n k->rT (4*n+3) k
 | 0,_,h=>pP.aok h
 | n+1,_,h=>by
  rcases h with h | ⟨kf,rf,b,rfl,h1,h2,h3,h4⟩
  ·exact(pP.aok h).mono ‹0›
  ·refine rT.mono (n:=4*n+7) ‹0› (fT (by simp) fun x hx=>?_)
   simp only [Qf,Qg,or_false] at hx
   rcases hx with rfl | rfl | rfl
   ·exact gx
   ·exact yf (n:=4*n+2) ‹0› (fun f hf=>by obtain⟨nm,k,e,q⟩:=h3 f hf; exact⟨nm,k,e,q.aok.mono ‹0›⟩) (fun f hf=>by obtain⟨nm,k,e,q⟩:=h4 f hf; exact⟨nm,k,e,(vG.aok n q).mono ‹0›⟩)
   ·exact E9
theorem Mj.aok {f:D} (h:Mj 1 f):rT 11 f:=by
 obtain⟨kf,rf,rfl,h1,h2,h3,h4⟩:=h
 exact yf (n:=7) ‹0› (fun f hf=>by obtain⟨nm,k,e,q⟩:=h3 f hf; exact⟨nm,k,e,q.aok.mono ‹0›⟩) (fun f hf=>by obtain⟨nm,k,e,q⟩:=h4 f hf; exact⟨nm,k,e,(vG.aok 1 q).mono ‹0›⟩)
end TD
namespace TD
open PySem PySem.Spec L2 TG
local macro_rules
 | `(tactic| simp! only [$xs,*])=>`(tactic| simp only [fM,Bb,nz,AU,m9,ie,ge_0,FP,xG,Gv,wG,rk,wJ,vQ,FQ,Hk,FH,Gm,GI,xi,xO,BL,pf,rg,xN,qN,BU,wO,vR,rq,xP,oB,xU,oX,o8,mN,mD,vM,qP,mH,qQ,oS,rB,qW,fQ,qI,oa,wC,pJ,oU,i6,rp,rE,GY,Bd,GU,G2,GH,xW,qX,vT,rj,rC,GR,Hi,QV,QW,OB,O7,Pr,PR,K0,env0,List.replicate,Qs,OI,Qm,Nat.reduceAdd,Nat.reduceSub,OA,Ph,wd,wA,BG,xg,xl,wv,mI,wX,BA,AW,Bf,xC,ow,pD,oJ,oI,oK,oG,qt,A6,Bc,BM,AZ,By,o7,oT,kq,j6,w8,mB,kU,kz,ku,wN,vW,kI,kF,oZ,pI,q5,qV,oO,oP,wV,wf,rd,qY,gN,if_true,if_false,QX,QY,Pp,$xs,*])
theorem vz {g:GF} {B:cB} {k:Ks} {Q:R D->Prop} (Iv:Nat->az->Prop):∀ (ds:List D) (o i:Nat) (ρ:az) (d:D),ds[i]?=some d->(∀ j d ρ (k':Ks),j < i->ds[j]?=some d->Iv (o+j) ρ->∃ ρ1 ρ2,g d ρ=some ρ1/\Iv (o+j+1) ρ2/\B k' ρ1=k'.nx ρ2)->Iv o ρ ->
  (∀ ρ (k':Ks),Iv (o+i) ρ->∃ ρ1,g d ρ=some ρ1/\Q (B k' ρ1))->Q (hW g B k ds ρ)
 | [],_,_,_,_,h,_,_,_=>nomatch h
 | x::ds,o,0,ρ,d,h,_,hI,q=>by
  cases h
  obtain⟨ρ1,e1,q1⟩:=q ρ ⟨hW g B k ds,k.nx,hW g B k ds,k.ex⟩ hI
  show Q ((rO (g x ρ)).bind fun ρ1=>B ⟨hW g B k ds,k.nx,hW g B k ds,k.ex⟩ ρ1)
  rw [e1,ie,fM]
  exact q1
 | x::ds,o,i+1,ρ,d,h,st,hI,q=>by
  obtain⟨ρ1,ρ2,e1,h2,e2⟩:=st 0 x ρ ⟨hW g B k ds,k.nx,hW g B k ds,k.ex⟩ ‹0› rfl hI
  show Q ((rO (g x ρ)).bind fun ρ1=>B ⟨hW g B k ds,k.nx,hW g B k ds,k.ex⟩ ρ1)
  rw [e1,ie,fM,e2]
  refine vz Iv ds (o+1) i ρ2 d (by rw [Qi] at h; exact h) (fun j d' ρ' k' hj hd hI'=>?_) h2 (fun ρ' k' hI'=>q ρ' k' (by rw [show o+(i+1)=o+1+i by omega]; exact hI'))
  obtain⟨a,b,c1,c2,c3⟩:=st (j+1) d' ρ' k' ‹0› (by rw [Qi]; exact hd) (by rw [show o+(j+1)=o+1+j by omega]; exact hI')
  exact⟨a,b,c1,by rw [show o+1+j+1=o+(j+1)+1 by omega]; exact c2,c3⟩
abbrev fld (p:Str×D):D:=.tup [.str p.1,p.2]
theorem zF (kf rf:List D) (ps:List (Str×D)) (hl:ps.length<=100) (e:kf++rf=ps.map fld):aP jg 1 1 [.tup [.tup kf,.tup rf]]=.ok (.tup (ps.map fun p=>.str p.1)):=by
 have hl':kf.length+rf.length<=100:=by have:=congrArg List.length e; rw [OW,OC] at this; omega
 have f0:gR [none] (bT (f2 bJ (f2 aE (af 0) (fC (.int 0))) (f2 aE (af 0) (fC (.int 1))))) (gN 0) (cK) (f2 aE (af 0) (fC (.int 0))) [some (.val (.tup [.tup kf,.tup rf]))]=.ok (.lst (ps.map fun p=>.str p.1)):=by
  refine cP (ds:=ps.map fld) ?_ (by rw [OC]; omega) ?_
  ·simp! only []
   rw [e8 _ _ ‹0›,e]
   simp! only []
  ·refine iW _ _ ps fun p _=>⟨_,rfl,rfl,?_⟩
   simp! only []
 rw [kj]; unfold jg
 simp! only [f0]
theorem CK (xs:List D):u5 [.tup xs]=some (jn 0 xs):=nr rfl
theorem sL:∀ (xs:List D) (k i:Nat),(jn k xs)[i]?=(xs[i]?).map fun x=>.tup [.int ((k+i:Nat):Int),x]
 | [],k,i=>by simp [jn]
 | x::xs,k,0=>by simp [jn]
 | x::xs,k,i+1=>by
  rw [jn,Qi,sL xs (k+1) i,Qi]
  congr 1
  funext y
  rw [show k+1+i=k+(i+1) by omega]
theorem kR (kf rf:List D) (ps:List (Str×D)) (hl:ps.length<=100) (e:kf++rf=ps.map fld) (hn:(ps.map (·.1)).Nodup) (i:Nat) (nm:Str) (k:D) (hi:ps[i]?=some (nm,k)) :
  aP cV 2 4 [.tup [.tup kf,.tup rf],.str nm]=.ok (.int i):=by
 have en:=zF kf rf ps hl e
 rw [cH]; unfold cV
 rw [fQ,i6]
 simp! only [en,CK]
 have di:(jn 0 (ps.map fun p=>D.str p.1))[i]?=some (.tup [.int ((i:Nat):Int),.str nm]):=by
  rw [sL,OS,hi,Qm]; rfl
 refine vz (Q:=fun z=>z=.ok (.int i)) (fun _ ρ=>ρ=[some (.val (.tup [.tup kf,.tup rf])),some (.val (.str nm)),none,none]) _ 0 i _ _ di ?_ rfl ?_
 ·rintro j d ρ k' hj hd rfl
  rw [sL,OS] at hd
  have hil:=eD hi
  have hjl:j < ps.length:=by omega
  rw [PJ hjl] at hd
  cases hd
  have ne:(ps[j].1==nm)=false:=by
   have h1:=List.pairwise_iff_getElem.mp hn j i (by rw [OC]; exact hjl) (by rw [OC]; exact hil) hj
   rw [List.getElem_map,List.getElem_map] at h1
   have h2:ps[i]=(nm,k):=by rw [PJ hil] at hi; exact Option.some.inj hi
   rw [h2] at h1
   simpa using h1
  refine⟨[some (.val (.tup [.tup kf,.tup rf])),some (.val (.str nm)),some (.val (.int ((0+j:Nat):Int))),some (.val (.str ps[j].1))],_,rfl,rfl,?_⟩
  simp! only [ne]
 ·rintro ρ k' rfl
  refine⟨[some (.val (.tup [.tup kf,.tup rf])),some (.val (.str nm)),some (.val (.int (i:Int))),some (.val (.str nm))],rfl,?_⟩
  simp! only [BEq.rfl]
theorem vx (kf rf:List D) (ps:List (Str×D)) (hl:ps.length<=100) (e:kf++rf=ps.map fld) (i:Nat) (nm:Str) (k:D) (hi:ps[i]?=some (nm,k)):aP hU 2 2 [.tup [.tup kf,.tup rf],.int i]=.ok k:=by
 have hl':kf.length+rf.length<=100:=by have:=congrArg List.length e; rw [OW,OC] at this; omega
 have g:aE (.tup (ps.map fld)) (.int (i:Int))=some (.tup [.str nm,k]):=by
  rw [yk,vS,OS,hi]; rfl
 rw [cH]; unfold hU
 simp! only [e8 kf rf ‹0›,e,g]
theorem nB (kf rf:List D) (i:Nat):aP jh 2 2 [.tup [.tup kf,.tup rf],.int i]=.ok (.bl (decide (i < kf.length))):=by
 rw [cH]; unfold jh
 have:decide ((i:Int) < (kf.length:Int))=decide (i < kf.length):=by
  by_cases h:i < kf.length
  ·rw [decide_eq_true h,decide_eq_true ‹0›]
  ·rw [decide_eq_false h,decide_eq_false ‹0›]
 simp! only [this]
theorem vB (vs os:List D) (i:Nat) (h:vs.length+os.length<=10000):aP hX 3 3 [.tup vs,.int i,.tup os]=.ok (.tup (vs.take i++os++vs.drop (i+1))):=by
 have l1:(vs.take i).length<=vs.length:=by rw [OL]; omega
 have l2:(vs.drop (i+1)).length<=vs.length:=by rw [O0]; omega
 have c:((i:Int)+1)=((i+1:Nat):Int):=by omega
 have a1:=e8 (vs.take i) os ‹0›
 have a2:=e8 (vs.take i++os) (vs.drop (i+1)) (by rw [OW]; omega)
 rw [nH]; unfold hX
 simp! only [c,fh,lK,a1,a2]
theorem B2 (kf rf os:List D) (i:Nat) (h:kf.length+rf.length+os.length<=10000):aP eM 3 3 [.tup [.tup kf,.tup rf],.int i,.tup os]=.ok (if i < kf.length then .tup [.tup (kf.take i++os++kf.drop (i+1)),.tup rf] else .tup [.tup kf,.tup (rf.take (i - kf.length)++os++rf.drop (i - kf.length+1))]):=by
 rw [nH]; unfold eM
 by_cases hi:i < kf.length
 ·rw [if_pos hi]
  simp! only [nB,decide_eq_true hi,vB kf os i ‹0›,qB]
 ·rw [if_neg hi]
  have c:((i:Int) - (kf.length:Int))=((i - kf.length:Nat):Int):=by omega
  simp! only [nB,decide_eq_false hi,c,vB rf os (i - kf.length) ‹0›,qB]
end TD
namespace Tk32
open PySem PySem.Spec L2 TG TX TD
def top (i:Nat):SL:=PySem.Challenge.pw_twoglass_k32_rows_sieved.main.body.getD i (.Pass ⟨0,0,0,0⟩)
abbrev fm:SL:=inClass (top 32) 0
theorem pL:aJ ["self","name","kind"] ["self","name","kind"] (aA fm):=‹2›
abbrev gB:SL:=top 42
theorem ux:aJ ["_law_found","_law_due"] ["_law_found","_law_due"] (aA gB):=‹2›
abbrev kN:SL:=inClass (top 29) 3
theorem zy:aJ ["self","form","table","view"] ["self","form","table","view"] (aA kN):=‹2›
def gX:cB:=bH (af 3)
abbrev jw:SL:=top 20
theorem xo:aJ ["many","rows"] ["many","rows"] (aA jw):=‹2›
noncomputable def iD:cB:=bH (fL cI (ah (f2 pX (af 1) (af 0)) (ax)))
abbrev pH:SL:=top 26
theorem CU:aJ ["many","rows"] ["many","rows"] (aA pH):=‹2›
def lB:cB:=bH (fL vN (ah (gR [none,some 0] (bT (af 1)) (gN 0) (cK) (cY (ah (aV (af 0) (aK) (bi (af 1))) (ah (af 0) (ax))))) (ax)))
abbrev j5:SL:=top 27
theorem yr:aJ ["many","rows","others","taken"] ["many","rows","others"] (aA j5):=‹2›
noncomputable def jc:cB:=aN (bO 3 (fR (aP lB 2 2) (ah (af 0) (ah (af 1) (ax))))) (bH (fR (aP iD 2 2) (ah (af 0) (ah (f2 bJ (fL kZ (ah (af 1) (ax))) (gR [none,some 0,some 3] (bT (af 2)) (gN 0) (fB (f2 rz (aV (af 0) (aK) (bi (af 1))) (af 2))) (af 0))) (ax)))))
abbrev ki:SL:=top 6
theorem zn:aJ ["value"] ["value"] (aA ki):=‹2›
def fW:cB:=bH (jU (lP "int" (af 0)) (uV (lP "bool" (af 0))))
abbrev jC:SL:=top 7
theorem vZ:aJ ["value","many"] ["value","many"] (aA jC):=‹2›
def gg:cB:=bH (jU (lP "tuple" (af 0)) (f2 gQ (fL dC (ah (af 0) (ax))) (af 1)))
abbrev jB:SL:=top 19
theorem wz:aJ ["many","table","keys"] ["many","table"] (aA jB):=‹2›
def gb:cB:=aN (bO 2 (gR [none,some 0] (bT (af 1)) (gN 0) (cK) (aV (af 0) (aK) (bi (af 1))))) (bH (fL xD (ah (gR [none,some 2] (cy (ah (f2 jt (fL dC (ah (af 2) (ax))) (fC (.int 1))) (ax))) (gN 0) (cK) (f2 fD (f2 aE (af 1) (af 0)) (f2 aE (af 1) (f2 bJ (af 0) (fC (.int 1)))))) (ax))))
abbrev kx:SL:=top 8
theorem yL:aJ ["form"] ["form"] (aA kx):=‹2›
abbrev rK:SL:=top 16
theorem Gy:aJ ["kind","value"] ["kind","value"] (aA rK):=‹2›
abbrev og:SL:=top 17
theorem DC:aJ ["form","table","kinds"] ["form","table"] (aA og):=‹2›
abbrev lE:SL:=top 18
theorem C5:aJ ["kinds","row"] ["kinds","row"] (aA lE):=‹2›
def wm (cw cm bR:List D->R D):cB:=aN (iq (fB (f2 gQ (f2 aE (af 0) (fC (.int 0))) (fC (.str "number")))) (bH (jU (fR (aP fW 1 1) (ah (af 1) (ax))) (qc Jq Jq (f2 aE (af 0) (fC (.int 1))) (af 1) (f2 aE (af 0) (fC (.int 2)))))) (cG)) (aN (iq (fB (f2 gQ (f2 aE (af 0) (fC (.int 0))) (fC (.str "word")))) (bH (jU (lP "str" (af 1)) (f2 Fi (af 1) (f2 aE (af 0) (fC (.int 1)))))) (cG)) (bH (jU (fR cm (ah (f2 aE (af 0) (fC (.int 1))) (ah (af 1) (ax)))) (Ca (f2 HA (fL dC (ah (af 1) (ax))) (fC (.int 0))) (uV (f2 aE (af 0) (fC (.int 2))))))))
def wU (cw cm bR:List D->R D):cB:=aN (iq (jT (cu (lP "tuple" (af 1)))) (bH (fC (.bl false))) (cG)) (aN (bO 2 (fR (aP hZ 1 1) (ah (af 0) (ax)))) (bH (jU (fL xD (ah (gR [none,some 2] (bT (af 1)) (gN 0) (cK) (fR bR (ah (af 1) (ah (af 0) (ax))))) (ax))) (fR (aP gb 2 3) (ah (fL dC (ah (f2 aE (af 0) (fC (.int 0))) (ax))) (ah (af 1) (ax)))))))
def sC (cw cm bR:List D->R D):cB:=aN (iq (jT (cu (fR (aP gg 2 2) (ah (af 1) (ah (fL dC (ah (af 0) (ax))) (ax)))))) (bH (fC (.bl false))) (cG)) (bH (fL xD (ah (gR [none,none] (C7 (ah (af 0) (ah (af 1) (ax)))) (gT 2 (uy [0,1])) (cK) (fR cw (ah (af 0) (ah (af 1) (ax))))) (ax))))
mutual
def cw:Nat->List D->R D
 | 0=>fun _=>un
 | n+1=>aP (wm (cw n) (cm n) (bR n)) 2 2
def cm:Nat->List D->R D
 | 0=>fun _=>un
 | n+1=>aP (wU (cw n) (cm n) (bR n)) 2 3
def bR:Nat->List D->R D
 | 0=>fun _=>un
 | n+1=>aP (sC (cw n) (cm n) (bR n)) 2 2
end
theorem ly (n:Nat):cw (n+1)=aP (wm (cw n) (cm n) (bR n)) 2 2:=by rw [cw]
theorem jb:∀ n:Nat,Ar 2 (cw n)
 | 0=>fun _ h=>absurd (by rw [cw]) h
 | n+1=>by rw [ly]; exact aI
theorem oA (n:Nat):cm (n+1)=aP (wU (cw n) (cm n) (bR n)) 2 3:=by rw [cm]
theorem nU:∀ n:Nat,Ar 2 (cm n)
 | 0=>fun _ h=>absurd (by rw [cm]) h
 | n+1=>by rw [oA]; exact aI
theorem nq (n:Nat):bR (n+1)=aP (sC (cw n) (cm n) (bR n)) 2 2:=by rw [bR]
theorem lV:∀ n:Nat,Ar 2 (bR n)
 | 0=>fun _ h=>absurd (by rw [bR]) h
 | n+1=>by rw [nq]; exact aI
abbrev kG:SL:=top 13
theorem yv:aJ ["form"] ["form"] (aA kG):=‹2›
abbrev kC:SL:=top 14
theorem y8:aJ ["form","name","place","other"] ["form","name"] (aA kC):=‹2›
abbrev jA:SL:=inClass (top 32) 4
theorem wu:aJ ["self","form","table","view","place","hidden"] ["self","form","table","view"] (aA jA):=‹2›
noncomputable def eG:cB:=aN (bO 4 (fR (aP cV 2 4) (ah (af 1) (ah (f1 (gY "name" ["Sieve"]) (af 0)) (ax))))) (aN (bO 5 (gR [none,some 0,some 4] (bT (af 2)) (gN 0) (jT (cu (fR (cw 12) (ah (f1 (gY "kind" ["Sieve"]) (af 1)) (ah (f2 aE (af 0) (af 2)) (ax)))))) (af 0))) (bH (fR (aP jc 3 4) (ah (fL dC (ah (f2 aE (af 1) (fC (.int 0))) (ax))) (ah (af 3) (ah (af 5) (ax)))))))
abbrev ic:SL:=top 43
theorem sY:aJ ["_law_rows","_law_many","_law_found","_law_row","_law_at"] ["_law_rows","_law_many"] (aA ic):=‹2›
def dA:cB:=aN (ui 2 (mX (ax))) (aN (pW (bT (af 0)) (gN 3) (aN (bO 4 (fC (.int 0))) (fZ [0] (aN (mq 200 (dU [2] (gG (fB (f2 fD (af 4) (fL dC (ah (af 2) (ax))))) (fB (f2 fD (aV (f2 aE (af 2) (af 4)) (aK) (bi (af 1))) (aV (af 3) (aK) (bi (af 1))))))) (bO 4 (f2 bJ (af 4) (fC (.int 1))))) (aN (iq (dU [2] (yc (fB (f2 gQ (af 4) (fL dC (ah (af 2) (ax))))) (fB (f2 tR (aV (f2 aE (af 2) (af 4)) (aK) (bi (af 1))) (aV (af 3) (aK) (bi (af 1))))))) (zH 2 Ab (ah (af 4) (ah (af 3) (ax)))) (cG)) (fZ [3,4] cG)))))) (pE 2 (bH (fL cI (ah (af 2) (ax))))))
abbrev iT:SL:=top 49
theorem tQ:aJ ["_law_kind_here","_law_value_here"] ["_law_kind_here","_law_value_here"] (aA iT):=‹2›
def cf:cB:=aN (iq (fB (f2 gQ (f2 aE (af 0) (fC (.int 0))) (fC (.str "number")))) (bH (qc Jq Jq (f2 aE (af 0) (fC (.int 1))) (af 1) (f2 aE (af 0) (fC (.int 2))))) (cG)) (bH (f2 Fi (af 1) (f2 aE (af 0) (fC (.int 1)))))
abbrev kD:SL:=top 51
theorem yd:aJ ["_law_table_here","_law_view_here","_law_at","_law_many","_law_kind_here","_law_keys","_law_rows"] ["_law_table_here","_law_view_here","_law_at","_law_many","_law_kind_here"] (aA kD):=‹2›
def jk:cB:=aN (bO 5 (gR [none,some 3] (bT (af 1)) (gN 0) (cK) (aV (af 0) (aK) (bi (af 1))))) (aN (bO 6 (gR [none,some 4,some 2,some 3,some 5] (bT (af 0)) (gN 0) (gG (jT (cu (fR (aP cf 2 2) (ah (af 1) (ah (f2 aE (af 0) (af 2)) (ax)))))) (fB (f2 lm (aV (af 0) (aK) (bi (af 3))) (af 4)))) (af 0))) (bH (fR (aP dA 2 5) (ah (f2 bJ (fL kZ (ah (af 1) (ax))) (af 6)) (ah (af 3) (ax))))))
abbrev ko:SL:=inClass (top 29) 2
theorem yC:aJ ["self","form","table"] ["self","form","table"] (aA ko):=‹2›
def jo:cB:=bH (af 2)
abbrev jy:SL:=inClass (top 32) 3
theorem xK:aJ ["self","form","table","place"] ["self","form","table"] (aA jy):=‹2›
def e9:cB:=aN (bO 3 (fR (aP cV 2 4) (ah (af 1) (ah (f1 (gY "name" ["Sieve"]) (af 0)) (ax))))) (bH (fL cI (ah (gR [none,some 0,some 3] (bT (af 2)) (gN 0) (cu (fR (cw 12) (ah (f1 (gY "kind" ["Sieve"]) (af 1)) (ah (f2 aE (af 0) (af 2)) (ax))))) (af 0)) (ax))))
abbrev iu:SL:=inClass (top 29) 5
theorem sk:aJ ["self","form"] ["self","form"] (aA iu):=‹2›
def fK:cB:=bH (fC (.bl true))
abbrev ox:SL:=top 23
theorem CB:aJ ["form","place"] ["form","place"] (aA ox):=‹2›
abbrev iU:SL:=top 11
theorem ue:aJ ["one","other","words"] ["one","other"] (aA iU):=‹2›
def gD:cB:=aN (bO 2 (fL cI (ah (gR [none,some 1] (bT (f2 aE (af 0) (fC (.int 1)))) (gN 0) (fB (f2 Fi (af 0) (f2 aE (af 1) (fC (.int 1))))) (af 0)) (ax)))) (bH (Jp (cu (af 2)) (cY (ah (fC (.str "word")) (ah (af 2) (ax)))) (fC .non)))
abbrev gh:SL:=top 10
theorem qx:aJ ["one","other","low","high"] ["one","other"] (aA gh):=‹2›
def fj:cB:=aN (bO 2 (fL uR (ah (f2 aE (af 0) (fC (.int 1))) (ah (f2 aE (af 1) (fC (.int 1))) (ax))))) (aN (bO 3 (fL za (ah (f2 aE (af 0) (fC (.int 2))) (ah (f2 aE (af 1) (fC (.int 2))) (ax))))) (bH (Jp (fB (f2 Jq (af 2) (af 3))) (cY (ah (fC (.str "number")) (ah (af 2) (ah (af 3) (ax))))) (fC .non))))
abbrev xV:SL:=top 9
theorem FJ:aJ ["one","other"] ["one","other"] (aA xV):=‹2›
def nV:cB:=aN (iq (fB (f2 tR (f2 aE (af 0) (fC (.int 0))) (f2 aE (af 1) (fC (.int 0))))) (bH (fC .non)) (cG)) (aN (iq (fB (f2 gQ (f2 aE (af 0) (fC (.int 0))) (fC (.str "number")))) (bH (fR (aP fj 2 4) (ah (af 0) (ah (af 1) (ax))))) (cG)) (aN (iq (fB (f2 gQ (f2 aE (af 0) (fC (.int 0))) (fC (.str "word")))) (bH (fR (aP gD 2 3) (ah (af 0) (ah (af 1) (ax))))) (cG)) (bH (fC .non))))
abbrev mF:SL:=top 22
theorem zJ:aJ ["form","place"] ["form","place"] (aA mF):=‹2›
abbrev ig:SL:=inClass (top 32) 5
theorem lN:aJ ["self","form","kind"] ["self","form"] (aA ig):=‹2›
def cx:cB:=aN (bO 2 (fR (aP hU 2 2) (ah (af 1) (ah (fR (aP cV 2 4) (ah (af 1) (ah (f1 (gY "name" ["Sieve"]) (af 0)) (ax)))) (ax))))) (bH (f2 gQ (fR (aP nV 2 2) (ah (af 2) (ah (f1 (gY "kind" ["Sieve"]) (af 0)) (ax)))) (af 2)))
abbrev gm:SL:=inClass (top 32) 6
theorem qz:aJ ["self","form"] ["self","form"] (aA gm):=‹2›
def dF:cB:=bH (Ca (iC "exact" [("Sieve",(aP cx 2 3))] (af 0) (ah (af 1) (ax))) (fR (aP jh 2 2) (ah (af 1) (ah (fR (aP cV 2 4) (ah (af 1) (ah (f1 (gY "name" ["Sieve"]) (af 0)) (ax)))) (ax)))))
abbrev iS:SL:=inClass (top 29) 4
theorem t0:aJ ["self","form"] ["self","form"] (aA iS):=‹2›
def gA:cB:=bH (fC (.bl true))
abbrev fz:SL:=inClass (top 29) 1
theorem oH:aJ ["self","form"] ["self","form"] (aA fz):=‹2›
def eE:cB:=bH (af 1)
abbrev kn:SL:=top 24
theorem zA:aJ ["values","place","others"] ["values","place","others"] (aA kn):=‹2›
abbrev ip:SL:=top 25
theorem rG:aJ ["form","place","fields"] ["form","place","fields"] (aA ip):=‹2›
abbrev eS:SL:=inClass (top 32) 2
theorem nA:aJ ["self","form","place","kind","shown"] ["self","form"] (aA eS):=‹2›
def cM:cB:=aN (bO 2 (fR (aP cV 2 4) (ah (af 1) (ah (f1 (gY "name" ["Sieve"]) (af 0)) (ax))))) (aN (bO 3 (fR (aP hU 2 2) (ah (af 1) (ah (af 2) (ax))))) (aN (iq (fB (f2 tR (f2 aE (af 3) (fC (.int 0))) (f2 aE (f1 (gY "kind" ["Sieve"]) (af 0)) (fC (.int 0))))) (yg) (cG)) (aN (bO 4 (fR (aP nV 2 2) (ah (af 3) (ah (f1 (gY "kind" ["Sieve"]) (af 0)) (ax))))) (aN (iq (fB (D8 (af 4))) (yg) (cG)) (bH (fR (aP eM 3 3) (ah (af 1) (ah (af 2) (ah (cY (ah (cY (ah (f1 (gY "name" ["Sieve"]) (af 0)) (ah (af 4) (ax)))) (ax))) (ax))))))))))
abbrev jI:SL:=top 35
theorem wI:aJ ["_law_cell","_law_j","_law_number"] ["_law_cell","_law_j"] (aA jI):=‹2›
abbrev gC:SL:=top 40
theorem uf:aJ ["_law_kind_here","_law_cell"] ["_law_kind_here","_law_cell"] (aA gC):=‹2›
abbrev gu:SL:=top 41
theorem tY:aJ ["_law_form_here","_law_cells","_law_kinds","_law_many","_law_found","_law_cell","_law_row","_law_at"] ["_law_form_here","_law_cells"] (aA gu):=‹2›
abbrev jF:SL:=top 50
theorem xh:aJ ["_law_due","_law_at","_law_table_here","_law_kind_here","_law_cells","_law_many","_law_drawn","_law_rows","_law_k"] ["_law_due","_law_at","_law_table_here","_law_kind_here","_law_cells"] (aA jF):=‹2›
def iG:cB:=aN (bO 5 (fL dC (ah (f2 aE (af 0) (fC (.int 0))) (ax)))) (aN (bO 6 (fR (aU 12) (ah (af 0) (ah (af 4) (ax))))) (aN (ui 7 (mX (ax))) (fZ [0,4] (aN (pW (cy (ah (fL dC (ah (af 2) (ax))) (ax))) (gN 8) (aN (iq (gG (fB (f2 gQ (f2 bX (af 8) (fC (.int 3))) (fC (.int 0)))) (cu (fR (aP cf 2 2) (ah (af 3) (ah (f2 aE (f2 aE (af 2) (af 8)) (af 1)) (ax)))))) (zH 7 pQ (ah (f2 aE (af 2) (af 8)) (ax))) (cG)) (aN (iq (gG (fB (f2 gQ (f2 bX (af 8) (fC (.int 3))) (fC (.int 1)))) (gG (fB (f2 tR (af 6) (cY (ax)))) (yc (fB (f2 Ki (af 1) (af 5))) (cu (fR (aP cf 2 2) (ah (af 3) (ah (f2 aE (f2 aE (af 2) (af 8)) (af 1)) (ax)))))))) (zH 7 pQ (ah (f2 bJ (aV (f2 aE (af 2) (af 8)) (aK) (bi (af 5))) (aV (f2 aE (af 6) (f2 bX (af 8) (fL dC (ah (af 6) (ax))))) (bi (af 5)) (aK))) (ax))) (cG)) (fZ [8] cG)))) (pE 7 (bH (fR (aP dA 2 5) (ah (f2 bJ (af 7) (fL kZ (ah (af 6) (ax)))) (ah (af 5) (ax))))))))))
abbrev jH:SL:=top 48
theorem w6:aJ ["_law_form_here","_law_at","_law_kind_here","_law_fields"] ["_law_form_here","_law_at","_law_kind_here"] (aA jH):=‹2›
def iB:cB:=aN (ui 3 (fL kZ (ah (f2 bJ (f2 aE (af 0) (fC (.int 0))) (f2 aE (af 0) (fC (.int 1)))) (ax)))) (aN (nv 3 (af 1) (cY (ah (f2 aE (zO 3 (af 1)) (fC (.int 0))) (ah (af 2) (ax))))) (pE 3 (bH (cY (ah (fL cI (ah (aV (af 3) (aK) (bi (fL dC (ah (f2 aE (af 0) (fC (.int 0))) (ax))))) (ax))) (ah (fL cI (ah (aV (af 3) (bi (fL dC (ah (f2 aE (af 0) (fC (.int 0))) (ax)))) (aK)) (ax))) (ax)))))))
abbrev i5:SL:=top 54
theorem tS:aJ ["_law_step","_law_form_here","_law_at","_law_inner_here","_law_cells","_law_many","_law_due","_law_kind_here","_law_table_here","_law_view_here","_law_whole","_law_seen"] ["_law_step","_law_form_here","_law_at","_law_inner_here","_law_cells"] (aA i5):=‹2›
noncomputable def dq:cB:=aN (bO 5 (fL dC (ah (f2 aE (af 1) (fC (.int 0))) (ax)))) (aN (bO 6 (fR (aP iB 3 4) (ah (af 1) (ah (af 2) (ah (af 3) (ax)))))) (aN (bO 7 (f1 (gY "kind" ["Sieve"]) (af 0))) (aN (bO 8 (fR (aU 12) (ah (af 1) (ah (aV (af 4) (aK) (bi (fC (.int 20)))) (ax))))) (aN (bO 9 (fR (aP iG 5 9) (ah (af 6) (ah (af 2) (ah (af 8) (ah (af 7) (ah (aV (af 4) (bi (fC (.int 20))) (aK)) (ax)))))))) (aN (iq (jT (cu (fR (aL 12) (ah (iC "view_form" [("Step",(aP eE 2 2)),("Sieve",(aP cM 2 5))] (af 0) (ah (af 1) (ax))) (ah (af 6) (ax)))))) (bH (fC (.bl false))) (cG)) (aN (bO 10 (f2 gQ (af 3) (f2 aE (f2 aE (f2 bJ (f2 aE (af 1) (fC (.int 0))) (f2 aE (af 1) (fC (.int 1)))) (af 2)) (fC (.int 1))))) (aN (iq (yc (jT (cu (fR (aL 12) (ah (iC "exact" [("Step",(aP gA 2 2)),("Sieve",(aP cx 2 3))] (af 0) (ah (af 1) (ax))) (ah (af 10) (ax)))))) (jT (cu (fR (aL 12) (ah (iC "steady" [("Step",(aP fK 2 2)),("Sieve",(aP dF 2 2))] (af 0) (ah (af 1) (ax))) (ah (Ca (af 10) (f2 fD (af 2) (af 5))) (ax))))))) (bH (fC (.bl false))) (cG)) (aN (bO 11 (fL cI (ah (gR [none,some 7,some 2] (bT (af 8)) (gN 0) (cu (fR (aP cf 2 2) (ah (af 1) (ah (f2 aE (af 0) (af 2)) (ax))))) (af 0)) (ax)))) (aN (iq (jT (cu (fR (aL 12) (ah (iC "got" [("Step",(aP jo 3 3)),("Sieve",(aP e9 3 4))] (af 0) (ah (af 1) (ah (af 8) (ax)))) (ah (af 11) (ax)))))) (bH (fC (.bl false))) (cG)) (aN (iq (jT (cu (fR (aL 12) (ah (iC "put" [("Step",(aP gX 4 4)),("Sieve",(aP eG 4 6))] (af 0) (ah (af 1) (ah (af 8) (ah (af 9) (ax))))) (ah (fR (aP jk 5 7) (ah (af 8) (ah (af 9) (ah (af 2) (ah (af 5) (ah (af 7) (ax))))))) (ax)))))) (bH (fC (.bl false))) (cG)) (bH (fR (aL 12) (ah (iC "put" [("Step",(aP gX 4 4)),("Sieve",(aP eG 4 6))] (af 0) (ah (af 1) (ah (af 8) (ah (af 11) (ax))))) (ah (af 8) (ax)))))))))))))))
abbrev ii:SL:=top 53
theorem sj:aJ ["_law_form_here","_law_at","_law_many"] ["_law_form_here","_law_at"] (aA ii):=‹2›
def fJ:cB:=aN (bO 2 (fL dC (ah (f2 aE (af 0) (fC (.int 0))) (ax)))) (aN (iq (fB (f2 fD (af 1) (af 2))) (bH (f2 jt (f2 jt (af 2) (fC (.int 1))) (af 1))) (cG)) (bH (f2 jt (f2 jt (f2 bJ (f2 mY (fC (.int 2)) (af 2)) (fL dC (ah (f2 aE (af 0) (fC (.int 1))) (ax)))) (fC (.int 1))) (af 1))))
abbrev iQ:SL:=inClass (top 29) 0
theorem tX:aJ ["self"] ["self"] (aA iQ):=‹2›
def gq:cB:=bH (cY (ax))
abbrev mt:SL:=top 30
theorem As:aJ ["value"] ["value"] (aA mt):=‹2›
abbrev ia:SL:=inClass (top 32) 1
theorem rP:aJ ["self"] ["self"] (aA ia):=‹2›
def cZ:cB:=aN (iq (fB (f2 gQ (f2 aE (f1 (gY "kind" ["Sieve"]) (af 0)) (fC (.int 0))) (fC (.str "number")))) (bH (cY (ah (fC (.str "sieve")) (ah (f1 (gY "name" ["Sieve"]) (af 0)) (ah (fR (aP eO 1 1) (ah (f2 aE (f1 (gY "kind" ["Sieve"]) (af 0)) (fC (.int 1))) (ax))) (ah (fR (aP eO 1 1) (ah (f2 aE (f1 (gY "kind" ["Sieve"]) (af 0)) (fC (.int 2))) (ax))) (ax))))))) (cG)) (bH (f2 bJ (cY (ah (fC (.str "keep")) (ah (f1 (gY "name" ["Sieve"]) (af 0)) (ax)))) (fL cI (ah (gR [none] (bT (f2 aE (f1 (gY "kind" ["Sieve"]) (af 0)) (fC (.int 1)))) (gN 0) (cK) (fR (aP eO 1 1) (ah (af 0) (ax)))) (ax)))))
abbrev jD:SL:=top 52
theorem we:aJ ["_law_step","_law_name","_law_kind_here","_law_words_here"] ["_law_step","_law_name","_law_kind_here"] (aA jD):=‹2›
def eX:cB:=aN (bO 3 (cY (ah (fC (.str "keep")) (ah (af 1) (ax))))) (aN (iq (fB (f2 gQ (f2 aE (af 2) (fC (.int 0))) (fC (.str "word")))) (bO 3 (f2 bJ (af 3) (fL cI (ah (gR [none] (bT (f2 aE (af 2) (fC (.int 1)))) (gN 0) (cK) (f2 bJ (fC (.str ".")) (af 0))) (ax))))) (bO 3 (cY (ah (fC (.str "sieve")) (ah (af 1) (ah (fL vn (ah (f2 aE (af 2) (fC (.int 1))) (ax))) (ah (fL vn (ah (f2 aE (af 2) (fC (.int 2))) (ax))) (ax)))))))) (aN (iq (yc (jT (cu (f1 (yM ["Step","Sieve"]) (af 0)))) (yc (fB (f2 tR (f1 (gY "name" ["Sieve"]) (af 0)) (af 1))) (jT (cu (fR (aL 12) (ah (f1 (gY "kind" ["Sieve"]) (af 0)) (ah (af 2) (ax)))))))) (bH (fC (.bl false))) (cG)) (bH (fR (aL 12) (ah (iC "words" [("Step",(aP gq 1 1)),("Sieve",(aP cZ 1 1))] (af 0) ax) (ah (af 3) (ax)))))))
abbrev ju:SL:=top 46
theorem wH:aJ ["_law_one","_law_other"] ["_law_one","_law_other"] (aA ju):=‹2›
def iz:cB:=aN (iq (fB (f2 gQ (f2 aE (af 0) (fC (.int 0))) (fC (.str "number")))) (bH (cY (ah (fC (.str "number")) (ah (fL uR (ah (f2 aE (af 0) (fC (.int 1))) (ah (f2 aE (af 1) (fC (.int 1))) (ax)))) (ah (fL za (ah (f2 aE (af 0) (fC (.int 2))) (ah (f2 aE (af 1) (fC (.int 2))) (ax)))) (ax)))))) (cG)) (bH (cY (ah (fC (.str "word")) (ah (fL cI (ah (gR [none,some 1] (bT (f2 aE (af 0) (fC (.int 1)))) (gN 0) (fB (f2 Fi (af 0) (f2 aE (af 1) (fC (.int 1))))) (af 0)) (ax))) (ax)))))
abbrev iX:SL:=top 37
theorem uc:aJ ["_law_cell","_law_letters","_law_many","_law_full","_law_at","_law_first","_law_end"] ["_law_cell"] (aA iX):=‹2›
abbrev eQ:SL:=top 45
theorem nI:aJ ["_law_kind_here","_law_cell","_law_low","_law_words_here"] ["_law_kind_here","_law_cell"] (aA eQ):=‹2›
noncomputable def dL:cB:=aN (iq (fB (f2 gQ (f2 aE (af 0) (fC (.int 0))) (fC (.str "number")))) (aN (bO 2 (f2 bJ (f2 aE (af 0) (fC (.int 1))) (f2 aE (mX (ah (fC (.int 0)) (ah (fC (.int 0)) (ah (fC (.int 1)) (ah (f2 jt (f2 bX (f2 dR (af 1) (fC (.int 4))) (fC (.int 7))) (fC (.int 3))) (ah (f2 bX (f2 dR (af 1) (fC (.int 4))) (f2 bJ (f2 jt (f2 aE (af 0) (fC (.int 2))) (f2 aE (af 0) (fC (.int 1)))) (fC (.int 1)))) (ax))))))) (f2 bX (af 1) (fC (.int 5)))))) (bH (cY (ah (fC (.str "number")) (ah (af 2) (ah (fL uR (ah (af 2) (ah (f2 bJ (f2 aE (af 0) (fC (.int 2))) (f2 aE (mX (ah (fC (.int 0)) (ah (fC (.int 0)) (ah (DQ (fC (.int 1))) (ah (f2 jt (f2 bX (f2 dR (af 1) (fC (.int 28))) (fC (.int 7))) (fC (.int 3))) (ah (DQ (f2 bX (f2 dR (af 1) (fC (.int 8))) (fC (.int 3)))) (ax))))))) (f2 bX (f2 dR (af 1) (fC (.int 5))) (fC (.int 5))))) (ax)))) (ax))))))) (cG)) (aN (bO 3 (gR [none,some 1] (bT (f2 aE (af 0) (fC (.int 1)))) (gN 0) (yc (fB (f2 HA (f2 bX (f2 dR (af 1) (fC (.int 64))) (f2 bJ (fC (.int 2)) (fL dC (ah (af 0) (ax))))) (fC (.int 0)))) (fB (f2 gQ (f2 bX (af 1) (fC (.int 3))) (fC (.int 0))))) (af 0))) (aN (bO 3 (f2 bJ (af 3) (gR [none,some 3,some 1] (bT (fR (aP cj 1 7) (ah (f2 dR (af 1) (fC (.int 9))) (ax)))) (gN 0) (gG (fB (f2 lm (af 0) (af 1))) (fB (f2 HA (f2 bX (af 2) (fC (.int 4))) (fC (.int 0))))) (af 0)))) (aN (iq (fB (f2 gQ (af 3) (mX (ax)))) (bO 3 (mX (ah (f2 aE (f2 aE (af 0) (fC (.int 1))) (f2 bX (f2 dR (af 1) (fC (.int 5))) (fL dC (ah (f2 aE (af 0) (fC (.int 1))) (ax))))) (ax)))) (cG)) (bH (cY (ah (fC (.str "word")) (ah (fL cI (ah (aV (fL mQ (ah (af 3) (ax))) (aK) (bi (fC (.int 12)))) (ax))) (ax))))))))
abbrev gF:SL:=top 34
theorem qH:aJ ["_law_script","_law_k"] ["_law_script","_law_k"] (aA gF):=‹2›
abbrev eT:SL:=top 44
theorem nQ:aJ ["_law_cell","_law_low"] ["_law_cell"] (aA eT):=‹2›
def dg:cB:=aN (iq (fB (f2 gQ (f2 bX (af 0) (fC (.int 4))) (fC (.int 1)))) (aN (bO 1 (f2 jt (f2 bX (f2 dR (af 0) (fC (.int 4))) (f2 mY (fC (.int 2)) (f2 qA (fC (.int 10)) (fC (.int 59))))) (f2 qA (fC (.int 10)) (fC (.int 59))))) (bH (cY (ah (fC (.str "number")) (ah (af 1) (ah (f2 bJ (af 1) (f2 bX (f2 dR (af 0) (fC (.int 7))) (f2 aE (mX (ah (fC (.int 1)) (ah (fC (.int 3)) (ah (f2 qA (fC (.int 10)) (fC (.int 59))) (ax))))) (f2 bX (f2 dR (af 0) (fC (.int 4))) (fC (.int 3)))))) (ax))))))) (cG)) (aN (iq (fB (f2 gQ (f2 bX (af 0) (fC (.int 2))) (fC (.int 0)))) (aN (bO 1 (f2 jt (f2 bX (f2 dR (af 0) (fC (.int 2))) (fC (.int 11))) (fC (.int 5)))) (bH (cY (ah (fC (.str "number")) (ah (af 1) (ah (f2 bJ (af 1) (f2 bX (f2 dR (af 0) (fC (.int 22))) (fC (.int 6)))) (ax))))))) (cG)) (bH (cY (ah (fC (.str "word")) (ah (fR (aP cj 1 7) (ah (f2 dR (af 0) (fC (.int 4))) (ax))) (ax))))))
abbrev iZ:SL:=top 36
theorem ub:aJ ["_law_cell","_law_many","_law_letters","_law_base","_law_long","_law_at","_law_step","_law_names_here","_law_k","_law_sign"] ["_law_cell","_law_many"] (aA iZ):=‹2›
abbrev i7:SL:=top 38
theorem tZ:aJ ["_law_cell","_law_names_here","_law_low","_law_key"] ["_law_cell"] (aA i7):=‹2›
abbrev jE:SL:=top 39
theorem vX:aJ ["_law_cell","_law_deep","_law_some","_law_low"] ["_law_cell","_law_deep"] (aA jE):=‹2›
abbrev jG:SL:=top 47
theorem wM:aJ ["_law_script","_law_names_here","_law_cell","_law_many","_law_rest","_law_at","_law_fields","_law_k"] ["_law_script","_law_names_here"] (aA jG):=‹2›
def iA:cB:=aN (bO 2 (fR (aP bW 2 2) (ah (af 0) (ah (fC (.int 1)) (ax))))) (aN (bO 3 (f2 bJ (fC (.int 1)) (f2 bX (af 2) (fC (.int 3))))) (aN (bO 4 (f2 bX (f2 dR (af 2) (fC (.int 3))) (fC (.int 4)))) (aN (iq (fB (f2 gQ (f2 bX (f2 dR (af 2) (fC (.int 12))) (fC (.int 8))) (fC (.int 1)))) (aN (bO 3 (f2 bJ (fC (.int 1)) (f2 bX (f2 dR (af 2) (fC (.int 96))) (fC (.int 8))))) (bO 4 (f2 bX (f2 dR (af 2) (fC (.int 768))) (fC (.int 9))))) (cG)) (aN (bO 5 (f2 bX (fR (aP bW 2 2) (ah (af 0) (ah (fC (.int 3)) (ax)))) (f2 bJ (af 3) (af 4)))) (aN (ui 6 (mX (ax))) (fZ [2] (aN (pW (cy (ah (f2 bJ (af 3) (af 4)) (ax))) (gN 7) (aN (zH 6 pQ (ah (cY (ah (f2 aE (af 1) (af 7)) (ah (fR (aP cQ 2 4) (ah (fR (aP bh 2 3) (ah (fR (aP bW 2 2) (ah (af 0) (ah (fC (.int 2)) (ax)))) (ah (af 7) (ax)))) (ah (f2 Ki (af 7) (af 3)) (ax)))) (ax)))) (ax))) (fZ [7] cG))) (aN (nv 6 (af 5) (cY (ah (f2 aE (af 1) (af 5)) (ah (fR (aP dg 1 2) (ah (fR (aP bh 2 3) (ah (fR (aP bW 2 2) (ah (af 0) (ah (fC (.int 3)) (ax)))) (ah (fC (.int 5)) (ax)))) (ax))) (ax))))) (pE 6 (bH (cY (ah (cY (ah (fL cI (ah (aV (af 6) (aK) (bi (af 3))) (ax))) (ah (fL cI (ah (aV (af 6) (bi (af 3)) (aK)) (ax))) (ax)))) (ah (af 5) (ax))))))))))))))
abbrev rZ:SL:=top 55
theorem Ig:aJ ["_law_script","_law_names_here","_law_form_here","_law_at","_law_field","_law_kind_here","_law_inner_here","_law_step","_law_other","_law_cells"] ["_law_script"] (aA rZ):=‹2›
noncomputable def sS:cB:=aN (bO 1 (fR (aP dt 2 10) (ah (fR (aP bW 2 2) (ah (af 0) (ah (fC (.int 0)) (ax)))) (ah (fC (.int 20)) (ax))))) (aN (Gs (fR (aP iA 2 8) (ah (af 0) (ah (af 1) (ax)))) (gT 2 (uy [2,3]))) (aN (bO 4 (f2 aE (f2 aE (f2 bJ (f2 aE (af 2) (fC (.int 0))) (f2 aE (af 2) (fC (.int 1)))) (af 3)) (fC (.int 1)))) (aN (bO 5 (fR (aP dL 2 4) (ah (af 4) (ah (fR (aP bh 2 3) (ah (fR (aP bW 2 2) (ah (af 0) (ah (fC (.int 4)) (ax)))) (ah (fC (.int 6)) (ax)))) (ax))))) (aN (bO 6 (fR (aP iz 2 2) (ah (af 4) (ah (af 5) (ax))))) (aN (iq (yc (gG (fB (f2 gQ (f2 aE (af 6) (fC (.int 0))) (fC (.str "number")))) (fB (f2 HA (f2 aE (af 6) (fC (.int 1))) (f2 aE (af 6) (fC (.int 2)))))) (fB (f2 gQ (af 6) (cY (ah (fC (.str "word")) (ah (cY (ax)) (ax))))))) (aN (bO 5 (af 4)) (bO 6 (af 4))) (cG)) (aN (bO 7 (fNew "Sieve" ["name","kind"] (ah (f2 aE (af 1) (af 3)) (ah (af 5) (ax))))) (aN (bO 8 (cY (ah (Du (f2 aE (af 2) (fC (.int 0)))) (ah (Du (f2 aE (af 2) (fC (.int 1)))) (ax))))) (aN (bO 9 (aV (af 0) (bi (fC (.int 5))) (bi (fC (.int 35))))) (aN (iq (yc (jT (cu (fR (aP eX 3 4) (ah (af 7) (ah (f2 aE (af 1) (af 3)) (ah (af 5) (ax))))))) (jT (cu (fR (aP dq 5 12) (ah (af 7) (ah (af 2) (ah (af 3) (ah (af 6) (ah (af 9) (ax)))))))))) (bH (fC (.bl false))) (cG)) (aN (iq (jT (cu (fR (aP dq 5 12) (ah (af 7) (ah (af 8) (ah (fR (aP fJ 2 3) (ah (af 2) (ah (af 3) (ax)))) (ah (af 6) (ah (af 9) (ax))))))))) (bH (fC (.bl false))) (cG)) (bH (fR (aP dq 5 12) (ah (af 7) (ah (af 2) (ah (af 3) (ah (af 6) (ah (af 9) (ax))))))))))))))))))
theorem JV:(["_law_one","_law_other"]:List Str).Nodup:=by decide +kernel
theorem MQ:(["row","many"]:List Str).Nodup:=by decide +kernel
theorem Mf:(["row","many","taken"]:List Str).Nodup:=by decide +kernel
theorem Kk:(["row","many"]:List Str).Nodup:=by decide +kernel
theorem Mt:(["k","keys"]:List Str).Nodup:=by decide +kernel
theorem MZ:(["field"]:List Str).Nodup:=by decide +kernel
theorem Nc:(["row","kinds"]:List Str).Nodup:=by decide +kernel
theorem JZ:(["kind","value"]:List Str).Nodup:=by decide +kernel
theorem M4:(["field"]:List Str).Nodup:=by decide +kernel
theorem K3:(["row","self","place"]:List Str).Nodup:=by decide +kernel
theorem Hv:(["_law_row","_law_many"]:List Str).Nodup:=by decide +kernel
theorem Hw:(["_law_row","_law_kind_here","_law_at","_law_many","_law_keys"]:List Str).Nodup:=by decide +kernel
theorem Jy:(["row","self","place"]:List Str).Nodup:=by decide +kernel
theorem J0:(["word","other"]:List Str).Nodup:=by decide +kernel
theorem JD:(["_law_k","_law_cell"]:List Str).Nodup:=by decide +kernel
theorem BH:(["_law_name","_law_kind_here"]:List Str).Nodup:=by decide +kernel
theorem Kh:(["_law_k","_law_kinds","_law_cell"]:List Str).Nodup:=by decide +kernel
theorem JL:(["_law_row","_law_kind_here","_law_at"]:List Str).Nodup:=by decide +kernel
theorem KO:(["word"]:List Str).Nodup:=by decide +kernel
theorem J1:(["_law_word"]:List Str).Nodup:=by decide +kernel
theorem KU:(["_law_word","_law_other"]:List Str).Nodup:=by decide +kernel
theorem Kl:(["_law_k","_law_letters","_law_cell"]:List Str).Nodup:=by decide +kernel
theorem JT:(["_law_k","_law_full"]:List Str).Nodup:=by decide +kernel
theorem KD:(["_law_k","_law_full","_law_at","_law_letters","_law_first","_law_end"]:List Str).Nodup:=by decide +kernel
theorem Hs:(["_law_word","_law_cell"]:List Str).Nodup:=by decide +kernel
theorem Ku:(["_law_word","_law_words_here","_law_cell"]:List Str).Nodup:=by decide +kernel
theorem HL:(["_law_k","_law_letters","_law_cell"]:List Str).Nodup:=by decide +kernel
theorem KW:(["_law_k","_law_base"]:List Str).Nodup:=by decide +kernel
section
variable {P:Ss} {w:Sr} {K:Rf} {mg:Str->Option Sq} {base:Sw} [bp]
theorem tV {n:Nat} {f:Su} (aG:mg "isinstance"=none) (aH:mg "tuple"=none) (bq:mg "len"=none) (gf:mg "all"=none) (iP:mg "zip"=none) (eK:mg "str"=none) (je:mg "bool"=none) (iF:mg "int"=none) {aL:List D->R D} (ca:Callee P w K mg base (0+n) "_law_alike" ["_law_found","_law_due"] aL) (L__law_alike:Ar 2 aL):bU P w K mg base (0+n) ["_law_found","_law_due"] "_law_alike" gB f (iV aL) :=
 ⟨fun cdv A outer s H E hr hp=>(ao (bM (bI (eR kJ rfl aG rfl aH R5 (aa (xv 1)))) (ao (bM (uw (jf (dM (bI (eR kJ rfl aG rfl aH R5 (aa (xv 0))))) (ib (aR (nS hr.units) aq (aX bE rfl bq PySem.boot_len (ae (aa (xv 0)) (aj))) (aX bE rfl bq PySem.boot_len (ae (aa (xv 1)) (aj))) (bc _))))) (ay (aC (iJ))) (aO)) (ay (aC (aX (mE rfl) rfl gf R6 (ae (cR (N:=["_law_one","_law_other"]) (ix:=[none,none]) rfl (.of rfl) (kM rfl) (BJ rfl iP (ae (aa (xv 0)) (ae (aa (xv 1)) (aj)))) ⟨fun _ _ _ _ _ _=>⟨mO (g:=uy [0,1]) rfl (dI (aS (i:=0) JV rfl (Or.inl rfl)) (dI (aS (i:=1) JV rfl (Or.inl rfl)) (jX))),cp,au ca L__law_alike hr ‹0› (ae (aa (xv 0)) (ae (aa (xv 1)) (aj)))⟩⟩) (aj)))))) (aO)) (ao (bM (bI (eR pG rfl aG rfl eK R7 (aa (xv 1)))) (ay (aC (ik (eR pG rfl aG rfl eK R7 (aa (xv 0))) (fP (eU (bY hr.units) aq (aa (xv 0)) (aa (xv 1)) (bc _)))))) (aO)) (ao (bM (bI (eR mS rfl aG rfl je R8 (aa (xv 1)))) (ay (aC (ik (eR mS rfl aG rfl je R8 (aa (xv 0))) (fP (eU (bY hr.units) aq (aa (xv 0)) (aa (xv 1)) (bc _)))))) (aO)) (ay (aC (ik (eR zg rfl aG rfl iF R9 (aa (xv 0))) (ik (xZ (eR mS rfl aG rfl je R8 (aa (xv 0)))) (fP (eU (bY hr.units) aq (aa (xv 0)) (aa (xv 1)) (bc _))))))))))⟩
theorem mi {f__law_alike:Su} {fd__law_alike:Th} (F__law_alike:wK K "_law_alike" "_law_alike" gB f__law_alike fd__law_alike) (kO:Binds K fd__law_alike ["_law_found","_law_due"] []) (m__law_alike:mg "_law_alike"=some (.ref f__law_alike)) (aG:mg "isinstance"=none) (aH:mg "tuple"=none) (bq:mg "len"=none) (gf:mg "all"=none) (iP:mg "zip"=none) (eK:mg "str"=none) (je:mg "bool"=none) (iF:mg "int"=none):∀ n:Nat,Callee P w K mg base (0+n) "_law_alike" ["_law_found","_law_due"] (aL n)
 | 0=>by
  rw [aL]
  exact fY 0 F__law_alike kO m__law_alike
 | n+1=>by
  have ih:=mi F__law_alike kO m__law_alike aG aH bq gf iP eK je iF n
  rw [gM]
  exact aW F__law_alike kO m__law_alike ux (bU.ok (tV aG aH bq gf iP eK je iF ih (cE n)))
theorem y0 {f:Su} :bU P w K mg base 0 ["self","form","table","view"] "Step.put" kN f gX :=
 ⟨fun cdv A outer s H E hr hp=>(ay (aC (aa (xv 3))))⟩
theorem xH {f cL T:Su} (aH:mg "tuple"=none) (jY:mg "sorted"=none) (lamB:BZ mg base cL T) (lamC:vD K f (.ref cL)) (lamT:∀ H,bp.tab H->H T=some (.ext (oz T ⟨60,34,60,56⟩ ((("sorted_by":Str) ++ ".<locals>.") ++ "<lambda>")))):DT P w K mg base 0 ["many","rows"] "sorted_by" jw f iD :=
 ⟨fun cdv A outer s H E hc hr hp=>by
  obtain rfl:=hc.one lamC
  exact(ay (aC (bA bQ rfl aH R5 (ae (B5 (j:=0) hr rfl jY lamB rfl lamT (aa (xv 1)) rfl rfl (Or.inr (Or.inl rfl)) rfl rfl rfl (fun _ _ _=>rfl) rfl rfl rfl (by decide) rfl rfl rfl rfl rfl) (aj)))))⟩
theorem CH {f:Su} (zN:mg "dict"=none):bU P w K mg base 0 ["many","rows"] "by_key" pH f lB :=
 ⟨fun cdv A outer s H E hr hp=>(ay (aC (bA (Aa rfl hr.units) rfl zN PyProof.Rows.boot_dict (ae (cR (N:=["row","many"]) (ix:=[none,some 0]) rfl (.of rfl) (bz rfl) (cA (aa (xv 1))) ⟨fun _ _ _ _ _ _=>⟨aS (i:=0) MQ rfl (Or.inl rfl),cp,bC (ae (bg (aa (xv 0)) (bN) (bj (aa (xv 1)))) (ae (aa (xv 0)) (aj)))⟩⟩) (aj)))))⟩
theorem zq {f:Su} (sJ:Callee P w K mg base 1 "by_key" ["many","rows"] (aP lB 2 2)) (lI:Callee P w K mg base 1 "sorted_by" ["many","rows"] (aP iD 2 2)) (iK:mg "list"=none):bU P w K mg base 1 ["many","rows","others","taken"] "standing" j5 f jc :=
 ⟨fun cdv A outer s H E hr hp=>(ao (aF (i:=3) yr.nd rfl ‹1› (au sJ aI hr ‹0› (ae (aa (xv 0)) (ae (aa (xv 1)) (aj))))) (ay (aC (au lI aI hr ‹0› (ae (aa (xv 0)) (ae (ak aM aq (bA nR rfl iK Sa (ae (aa (xv 1)) (aj))) (cR (N:=["row","many","taken"]) (ix:=[none,some 0,some 3]) rfl (.of rfl) (bz rfl) (cA (aa (xv 2))) ⟨fun _ _ _ _ _ _=>⟨aS (i:=0) Mf rfl (Or.inl rfl),eL (aR (Ck hr.units) aq (bg (aa (xv 0)) (bN) (bj (aa (xv 1)))) (aa (xv 2)) rfl),aa (xv 0)⟩⟩)) (aj)))))))⟩
theorem zl {f:Su} (aG:mg "isinstance"=none) (iF:mg "int"=none) (je:mg "bool"=none):bU P w K mg base 0 ["value"] "is_whole" ki f fW :=
 ⟨fun cdv A outer s H E hr hp=>(ay (aC (ik (eR zg rfl aG rfl iF R9 (aa (xv 0))) (fP (xZ (eR mS rfl aG rfl je R8 (aa (xv 0))))))))⟩
theorem xu {f:Su} (aG:mg "isinstance"=none) (aH:mg "tuple"=none) (bq:mg "len"=none):bU P w K mg base 0 ["value","many"] "has_parts" jC f gg :=
 ⟨fun cdv A outer s H E hr hp=>(ay (aC (ik (eR kJ rfl aG rfl aH R5 (aa (xv 0))) (fP (eU (bY hr.units) aq (aX bE rfl bq PySem.boot_len (ae (aa (xv 0)) (aj))) (aa (xv 1)) (bc _))))))⟩
theorem xQ {f:Su} (gf:mg "all"=none) (ce:mg "range"=none) (bq:mg "len"=none):bU P w K mg base 0 ["many","table","keys"] "keys_rise" jB f gb :=
 ⟨fun cdv A outer s H E hr hp=>(ao (by first | exact nO (i:=2) wz.nd rfl ‹1› (N:=["row","many"]) (ix:=[none,some 0]) rfl (.of rfl) (bz rfl) (cA (aa (xv 1))) ⟨fun _ _ _ _ _ _=>⟨aS (i:=0) Kk rfl (Or.inl rfl),cp,bg (aa (xv 0)) (bN) (bj (aa (xv 1)))⟩⟩ | exact aF (i:=2) wz.nd rfl ‹1› (cR (N:=["row","many"]) (ix:=[none,some 0]) rfl (.of rfl) (bz rfl) (cA (aa (xv 1))) ⟨fun _ _ _ _ _ _=>⟨aS (i:=0) Kk rfl (Or.inl rfl),cp,bg (aa (xv 0)) (bN) (bj (aa (xv 1)))⟩⟩)) (ay (aC (aX (mE rfl) rfl gf R6 (ae (cR (N:=["k","keys"]) (ix:=[none,some 2]) rfl (.of rfl) (bz rfl) (dh rfl ce (ae (ak eY fg (aX bE rfl bq PySem.boot_len (ae (aa (xv 2)) (aj))) (ai)) (aj))) ⟨fun _ _ _ _ _ _=>⟨aS (i:=0) Mt rfl (Or.inl rfl),cp,eU (iL hr.units) aq (aB (aa (xv 1)) (aa (xv 0)) (fun _ _=>rfl)) (aB (aa (xv 1)) (ak aM aq (aa (xv 0)) (ai)) (fun _ _=>rfl)) (bc _)⟩⟩) (aj))))))⟩
theorem yR {f:Su} (aH:mg "tuple"=none):bU P w K mg base 0 ["form"] "kinds_of" kx f hZ :=
 ⟨fun cdv A outer s H E hr hp=>(ay (aC (bA bQ rfl aH R5 (ae (cR (N:=["field"]) (ix:=[none]) rfl (.of rfl) (bz rfl) (cA (ak aM aq (aB (aa (xv 0)) (ai) (fun _ _=>rfl)) (aB (aa (xv 0)) (ai) (fun _ _=>rfl)))) ⟨fun _ _ _ _ _ _=>⟨aS (i:=0) MZ rfl (Or.inl rfl),cp,aB (aa (xv 0)) (ai) (fun _ _=>rfl)⟩⟩) (aj)))))⟩
theorem G3 {n:Nat} {f:Su} (dS:Callee P w K mg base 1 "is_whole" ["value"] (aP fW 1 1)) (dW:Callee P w K mg base 1 "kinds_of" ["form"] (aP hZ 1 1)) (dz:Callee P w K mg base 1 "keys_rise" ["many","table"] (aP gb 2 3)) (dy:Callee P w K mg base 1 "has_parts" ["value","many"] (aP gg 2 2)) (aG:mg "isinstance"=none) (eK:mg "str"=none) (bq:mg "len"=none) (aH:mg "tuple"=none) (gf:mg "all"=none) (iP:mg "zip"=none) {cw:List D->R D} (jj:Callee P w K mg base (1+n) "fits" ["kind","value"] cw) (L_fits:Ar 2 cw) {cm:List D->R D} (qZ:Callee P w K mg base (1+n) "keeps" ["form","table"] cm) (L_keeps:Ar 2 cm) {bR:List D->R D} (pj:Callee P w K mg base (1+n) "is_row" ["kinds","row"] bR) (L_is_row:Ar 2 bR):bU P w K mg base (1+n) ["kind","value"] "fits" rK f (wm cw cm bR) :=
 ⟨fun cdv A outer s H E hr hp=>(ao (bM (aR (bY hr.units) aq (aB (aa (xv 0)) (ai) (fun _ _=>rfl)) (bG) (bc _)) (ay (aC (ik (au dS aI hr ‹0› (ae (aa (xv 1)) (aj))) (fP (vC zk dJ zk dJ (aB (aa (xv 0)) (ai) (fun _ _=>rfl)) (aa (xv 1)) (aB (aa (xv 0)) (ai) (fun _ _=>rfl))))))) (aO)) (ao (bM (aR (bY hr.units) aq (aB (aa (xv 0)) (ai) (fun _ _=>rfl)) (bG) (bc _)) (ay (aC (ik (eR pG rfl aG rfl eK R7 (aa (xv 1))) (fP (eU (wj hr.units) aq (aa (xv 1)) (aB (aa (xv 0)) (ai) (fun _ _=>rfl)) rfl))))) (aO)) (ay (aC (ik (au qZ L_keeps hr ‹0› (ae (aB (aa (xv 0)) (ai) (fun _ _=>rfl)) (ae (aa (xv 1)) (aj)))) (fP (AH (eU yK dJ (aX bE rfl bq PySem.boot_len (ae (aa (xv 1)) (aj))) (ai) (bc _)) (fP (xZ (aB (aa (xv 0)) (ai) (fun _ _=>rfl)))))))))))⟩
theorem Dx {n:Nat} {f:Su} (dS:Callee P w K mg base 1 "is_whole" ["value"] (aP fW 1 1)) (dW:Callee P w K mg base 1 "kinds_of" ["form"] (aP hZ 1 1)) (dz:Callee P w K mg base 1 "keys_rise" ["many","table"] (aP gb 2 3)) (dy:Callee P w K mg base 1 "has_parts" ["value","many"] (aP gg 2 2)) (aG:mg "isinstance"=none) (eK:mg "str"=none) (bq:mg "len"=none) (aH:mg "tuple"=none) (gf:mg "all"=none) (iP:mg "zip"=none) {cw:List D->R D} (jj:Callee P w K mg base (1+n) "fits" ["kind","value"] cw) (L_fits:Ar 2 cw) {cm:List D->R D} (qZ:Callee P w K mg base (1+n) "keeps" ["form","table"] cm) (L_keeps:Ar 2 cm) {bR:List D->R D} (pj:Callee P w K mg base (1+n) "is_row" ["kinds","row"] bR) (L_is_row:Ar 2 bR):bU P w K mg base (1+n) ["form","table","kinds"] "keeps" og f (wU cw cm bR) :=
 ⟨fun cdv A outer s H E hr hp=>(ao (bM (dM (bI (eR kJ rfl aG rfl aH R5 (aa (xv 1))))) (ay (aC (iJ))) (aO)) (ao (aF (i:=2) DC.nd rfl ‹1› (au dW aI hr ‹0› (ae (aa (xv 0)) (aj)))) (ay (aC (ik (aX (mE rfl) rfl gf R6 (ae (cR (N:=["row","kinds"]) (ix:=[none,some 2]) rfl (.of rfl) (bz rfl) (cA (aa (xv 1))) ⟨fun _ _ _ _ _ _=>⟨aS (i:=0) Nc rfl (Or.inl rfl),cp,au pj L_is_row hr ‹0› (ae (aa (xv 1)) (ae (aa (xv 0)) (aj)))⟩⟩) (aj))) (fP (au dz aI hr ‹0› (ae (aX bE rfl bq PySem.boot_len (ae (aB (aa (xv 0)) (ai) (fun _ _=>rfl)) (aj))) (ae (aa (xv 1)) (aj))))))))))⟩
theorem B9 {n:Nat} {f:Su} (dS:Callee P w K mg base 1 "is_whole" ["value"] (aP fW 1 1)) (dW:Callee P w K mg base 1 "kinds_of" ["form"] (aP hZ 1 1)) (dz:Callee P w K mg base 1 "keys_rise" ["many","table"] (aP gb 2 3)) (dy:Callee P w K mg base 1 "has_parts" ["value","many"] (aP gg 2 2)) (aG:mg "isinstance"=none) (eK:mg "str"=none) (bq:mg "len"=none) (aH:mg "tuple"=none) (gf:mg "all"=none) (iP:mg "zip"=none) {cw:List D->R D} (jj:Callee P w K mg base (1+n) "fits" ["kind","value"] cw) (L_fits:Ar 2 cw) {cm:List D->R D} (qZ:Callee P w K mg base (1+n) "keeps" ["form","table"] cm) (L_keeps:Ar 2 cm) {bR:List D->R D} (pj:Callee P w K mg base (1+n) "is_row" ["kinds","row"] bR) (L_is_row:Ar 2 bR):bU P w K mg base (1+n) ["kinds","row"] "is_row" lE f (sC cw cm bR) :=
 ⟨fun cdv A outer s H E hr hp=>(ao (bM (dM (bI (au dy aI hr ‹0› (ae (aa (xv 1)) (ae (aX bE rfl bq PySem.boot_len (ae (aa (xv 0)) (aj))) (aj)))))) (ay (aC (iJ))) (aO)) (ay (aC (aX (mE rfl) rfl gf R6 (ae (cR (N:=["kind","value"]) (ix:=[none,none]) rfl (.of rfl) (kM rfl) (BJ rfl iP (ae (aa (xv 0)) (ae (aa (xv 1)) (aj)))) ⟨fun _ _ _ _ _ _=>⟨mO (g:=uy [0,1]) rfl (dI (aS (i:=0) JZ rfl (Or.inl rfl)) (dI (aS (i:=1) JZ rfl (Or.inl rfl)) (jX))),cp,au jj L_fits hr ‹0› (ae (aa (xv 0)) (ae (aa (xv 1)) (aj)))⟩⟩) (aj))))))⟩
theorem zz {f_fits:Su} {fd_fits:Th} (F_fits:wK K "fits" "fits" rK f_fits fd_fits) (Am:Binds K fd_fits ["kind","value"] []) (m_fits:mg "fits"=some (.ref f_fits)) {f_keeps:Su} {fd_keeps:Th} (F_keeps:wK K "keeps" "keeps" og f_keeps fd_keeps) (v9:Binds K fd_keeps ["form","table"] []) (m_keeps:mg "keeps"=some (.ref f_keeps)) {f_is_row:Su} {fd_is_row:Th} (F_is_row:wK K "is_row" "is_row" lE f_is_row fd_is_row) (sE:Binds K fd_is_row ["kinds","row"] []) (m_is_row:mg "is_row"=some (.ref f_is_row)) (dS:Callee P w K mg base 1 "is_whole" ["value"] (aP fW 1 1)) (dW:Callee P w K mg base 1 "kinds_of" ["form"] (aP hZ 1 1)) (dz:Callee P w K mg base 1 "keys_rise" ["many","table"] (aP gb 2 3)) (dy:Callee P w K mg base 1 "has_parts" ["value","many"] (aP gg 2 2)) (aG:mg "isinstance"=none) (eK:mg "str"=none) (bq:mg "len"=none) (aH:mg "tuple"=none) (gf:mg "all"=none) (iP:mg "zip"=none):∀ n:Nat,Callee P w K mg base (1+n) "fits" ["kind","value"] (cw n)/\Callee P w K mg base (1+n) "keeps" ["form","table"] (cm n)/\Callee P w K mg base (1+n) "is_row" ["kinds","row"] (bR n)
 | 0=>by
  rw [cw]; rw [cm]; rw [bR]
  exact⟨fY 1 F_fits Am m_fits,fY 1 F_keeps v9 m_keeps,fY 1 F_is_row sE m_is_row⟩
 | n+1=>by
  have ih:=zz F_fits Am m_fits F_keeps v9 m_keeps F_is_row sE m_is_row dS dW dz dy aG eK bq aH gf iP n
  rw [ly]; rw [oA]; rw [nq]
  exact⟨aW F_fits Am m_fits Gy (bU.ok (G3 dS dW dz dy aG eK bq aH gf iP ih.1 (jb n) ih.2.1 (nU n) ih.2.2 (lV n))),aW F_keeps v9 m_keeps DC (bU.ok (Dx dS dW dz dy aG eK bq aH gf iP ih.1 (jb n) ih.2.1 (nU n) ih.2.2 (lV n))),aW F_is_row sE m_is_row C5 (bU.ok (B9 dS dW dz dy aG eK bq aH gf iP ih.1 (jb n) ih.2.1 (nU n) ih.2.2 (lV n)))⟩
theorem yi {f:Su} (aH:mg "tuple"=none):bU P w K mg base 0 ["form"] "names_of" kG f jg :=
 ⟨fun cdv A outer s H E hr hp=>(ay (aC (bA bQ rfl aH R5 (ae (cR (N:=["field"]) (ix:=[none]) rfl (.of rfl) (bz rfl) (cA (ak aM aq (aB (aa (xv 0)) (ai) (fun _ _=>rfl)) (aB (aa (xv 0)) (ai) (fun _ _=>rfl)))) ⟨fun _ _ _ _ _ _=>⟨aS (i:=0) M4 rfl (Or.inl rfl),cp,aB (aa (xv 0)) (ai) (fun _ _=>rfl)⟩⟩) (aj)))))⟩
theorem zc {f:Su} (nD:Callee P w K mg base 1 "names_of" ["form"] (aP jg 1 1)) (lM:mg "enumerate"=none):bU P w K mg base 1 ["form","name","place","other"] "place_of" kC f cV :=
 ⟨fun cdv A outer s H E hr hp=>(ao (mP hp rfl (t9 rfl lM (ae (au nD aI hr ‹0› (ae (aa (xv 0)) (aj))) (aj))) (mO (g:=uy [2,3]) rfl (dI (aS (i:=2) y8.nd rfl ‹1›) (dI (aS (i:=3) y8.nd rfl ‹1›) (jX)))) (ao (bM (aR (bY hr.units) aq (aa (xv 3)) (aa (xv 1)) (bc _)) (ay (aC (aa (xv 2)))) (aO)) (dZ [2,3] aO))) (ay (tD)))⟩
theorem wD {f:Su} (cF:Callee P w K mg base 2 "place_of" ["form","name"] (aP cV 2 4)) (jj:Callee P w K mg base 13 "fits" ["kind","value"] (cw 12)) (nK:Callee P w K mg base 2 "standing" ["many","rows","others"] (aP jc 3 4)) (bb:gP K "name" ["Sieve"]) (aQ:gP K "kind" ["Sieve"]) (bq:mg "len"=none):bU P w K mg base 13 ["self","form","table","view","place","hidden"] "Sieve.put" jA f eG :=
 ⟨fun cdv A outer s H E hr hp=>(ao (aF (i:=4) wu.nd rfl ‹1› (au cF aI hr ‹0› (ae (aa (xv 1)) (ae (cX bb (aa (xv 0))) (aj))))) (ao (by first | exact nO (i:=5) wu.nd rfl ‹1› (N:=["row","self","place"]) (ix:=[none,some 0,some 4]) rfl (.of rfl) (bz rfl) (cA (aa (xv 2))) ⟨fun _ _ _ _ _ _=>⟨aS (i:=0) K3 rfl (Or.inl rfl),eL (dM (bI (au jj (jb 12) hr ‹0› (ae (cX aQ (aa (xv 1))) (ae (aB (aa (xv 0)) (aa (xv 2)) (fun _ _=>rfl)) (aj)))))),aa (xv 0)⟩⟩ | exact aF (i:=5) wu.nd rfl ‹1› (cR (N:=["row","self","place"]) (ix:=[none,some 0,some 4]) rfl (.of rfl) (bz rfl) (cA (aa (xv 2))) ⟨fun _ _ _ _ _ _=>⟨aS (i:=0) K3 rfl (Or.inl rfl),eL (dM (bI (au jj (jb 12) hr ‹0› (ae (cX aQ (aa (xv 1))) (ae (aB (aa (xv 0)) (aa (xv 2)) (fun _ _=>rfl)) (aj)))))),aa (xv 0)⟩⟩)) (ay (aC (au nK aI hr ‹0› (ae (aX bE rfl bq PySem.boot_len (ae (aB (aa (xv 1)) (ai) (fun _ _=>rfl)) (aj))) (ae (aa (xv 3)) (ae (aa (xv 5)) (aj)))))))))⟩
theorem sX {f:Su} (bq:mg "len"=none) (aH:mg "tuple"=none):bU P w K mg base 0 ["_law_rows","_law_many","_law_found","_law_row","_law_at"] "_law_merged" ic f dA :=
 ⟨fun cdv A outer s H E hr hp=>(ao (mU (i:=2) sY.nd rfl ‹1› (oE (aj))) (ao (mP hp rfl (cA (aa (xv 0))) (aS (i:=3) sY.nd rfl ‹1›) (ao (aF (i:=4) sY.nd rfl ‹1› (ai)) (dZ [0] (ao (uN 200 hp (ot [2] (uw (fS (aR (iL hr.units) aq (aa (xv 4)) (aX bE rfl bq PySem.boot_len (ae (aa (xv 2)) (aj))) (bc _)) (e7 (aR (iL hr.units) aq (bg (aB (aa (xv 2)) (aa (xv 4)) (fun _ _=>rfl)) (bN) (bj (aa (xv 1)))) (bg (aa (xv 3)) (bN) (bj (aa (xv 1)))) (bc _)))))) (ay (aF (i:=4) sY.nd rfl ‹1› (ak aM aq (aa (xv 4)) (ai))))) (ao (bM (ot [2] (uw (jf (aR (bY hr.units) aq (aa (xv 4)) (aX bE rfl bq PySem.boot_len (ae (aa (xv 2)) (aj))) (bc _)) (ib (aR (nS hr.units) aq (bg (aB (aa (xv 2)) (aa (xv 4)) (fun _ _=>rfl)) (bN) (bj (aa (xv 1)))) (bg (aa (xv 3)) (bN) (bj (aa (xv 1)))) (bc _)))))) (ay (qb Si Sj vg uM (xv 2) (ae (aa (xv 4)) (ae (aa (xv 3)) (aj))))) (aO)) (dZ [3,4] aO)))))) (jO 2 (ay (aC (bA bQ rfl aH R5 (ae (aa (xv 2)) (aj))))))))⟩
theorem t7 {f:Su} :bU P w K mg base 0 ["_law_kind_here","_law_value_here"] "_law_is_of" iT f cf :=
 ⟨fun cdv A outer s H E hr hp=>(ao (bM (aR (bY hr.units) aq (aB (aa (xv 0)) (ai) (fun _ _=>rfl)) (bG) (bc _)) (ay (aC (vC zk dJ zk dJ (aB (aa (xv 0)) (ai) (fun _ _=>rfl)) (aa (xv 1)) (aB (aa (xv 0)) (ai) (fun _ _=>rfl))))) (aO)) (ay (aC (eU (wj hr.units) aq (aa (xv 1)) (aB (aa (xv 0)) (ai) (fun _ _=>rfl)) rfl))))⟩
theorem yx {f:Su} (cO:Callee P w K mg base 1 "_law_is_of" ["_law_kind_here","_law_value_here"] (aP cf 2 2)) (eN:Callee P w K mg base 1 "_law_merged" ["_law_rows","_law_many"] (aP dA 2 5)) (iK:mg "list"=none):bU P w K mg base 1 ["_law_table_here","_law_view_here","_law_at","_law_many","_law_kind_here","_law_keys","_law_rows"] "_law_put" kD f jk :=
 ⟨fun cdv A outer s H E hr hp=>(ao (by first | exact nO (i:=5) yd.nd rfl ‹1› (N:=["_law_row","_law_many"]) (ix:=[none,some 3]) rfl (.of rfl) (bz rfl) (cA (aa (xv 1))) ⟨fun _ _ _ _ _ _=>⟨aS (i:=0) Hv rfl (Or.inl rfl),cp,bg (aa (xv 0)) (bN) (bj (aa (xv 1)))⟩⟩ | exact aF (i:=5) yd.nd rfl ‹1› (cR (N:=["_law_row","_law_many"]) (ix:=[none,some 3]) rfl (.of rfl) (bz rfl) (cA (aa (xv 1))) ⟨fun _ _ _ _ _ _=>⟨aS (i:=0) Hv rfl (Or.inl rfl),cp,bg (aa (xv 0)) (bN) (bj (aa (xv 1)))⟩⟩)) (ao (by first | exact nO (i:=6) yd.nd rfl ‹1› (N:=["_law_row","_law_kind_here","_law_at","_law_many","_law_keys"]) (ix:=[none,some 4,some 2,some 3,some 5]) rfl (.of rfl) (bz rfl) (cA (aa (xv 0))) ⟨fun _ _ _ _ _ _=>⟨aS (i:=0) Hw rfl (Or.inl rfl),eL (uw (fS (dM (bI (au cO aI hr ‹0› (ae (aa (xv 1)) (ae (aB (aa (xv 0)) (aa (xv 2)) (fun _ _=>rfl)) (aj)))))) (e7 (aR (qe hr.units) aq (bg (aa (xv 0)) (bN) (bj (aa (xv 3)))) (aa (xv 4)) rfl)))),aa (xv 0)⟩⟩ | exact aF (i:=6) yd.nd rfl ‹1› (cR (N:=["_law_row","_law_kind_here","_law_at","_law_many","_law_keys"]) (ix:=[none,some 4,some 2,some 3,some 5]) rfl (.of rfl) (bz rfl) (cA (aa (xv 0))) ⟨fun _ _ _ _ _ _=>⟨aS (i:=0) Hw rfl (Or.inl rfl),eL (uw (fS (dM (bI (au cO aI hr ‹0› (ae (aa (xv 1)) (ae (aB (aa (xv 0)) (aa (xv 2)) (fun _ _=>rfl)) (aj)))))) (e7 (aR (qe hr.units) aq (bg (aa (xv 0)) (bN) (bj (aa (xv 3)))) (aa (xv 4)) rfl)))),aa (xv 0)⟩⟩)) (ay (aC (au eN aI hr ‹0› (ae (ak aM aq (bA nR rfl iK Sa (ae (aa (xv 1)) (aj))) (aa (xv 6))) (ae (aa (xv 3)) (aj))))))))⟩
theorem yE {f:Su} :bU P w K mg base 0 ["self","form","table"] "Step.got" ko f jo :=
 ⟨fun cdv A outer s H E hr hp=>(ay (aC (aa (xv 2))))⟩
theorem v7 {f:Su} (cF:Callee P w K mg base 2 "place_of" ["form","name"] (aP cV 2 4)) (jj:Callee P w K mg base 13 "fits" ["kind","value"] (cw 12)) (bb:gP K "name" ["Sieve"]) (aQ:gP K "kind" ["Sieve"]) (aH:mg "tuple"=none):bU P w K mg base 13 ["self","form","table","place"] "Sieve.got" jy f e9 :=
 ⟨fun cdv A outer s H E hr hp=>(ao (aF (i:=3) xK.nd rfl ‹1› (au cF aI hr ‹0› (ae (aa (xv 1)) (ae (cX bb (aa (xv 0))) (aj))))) (ay (aC (bA bQ rfl aH R5 (ae (cR (N:=["row","self","place"]) (ix:=[none,some 0,some 3]) rfl (.of rfl) (bz rfl) (cA (aa (xv 2))) ⟨fun _ _ _ _ _ _=>⟨aS (i:=0) Jy rfl (Or.inl rfl),eL (bI (au jj (jb 12) hr ‹0› (ae (cX aQ (aa (xv 1))) (ae (aB (aa (xv 0)) (aa (xv 2)) (fun _ _=>rfl)) (aj))))),aa (xv 0)⟩⟩) (aj))))))⟩
theorem tm {f:Su} :bU P w K mg base 0 ["self","form"] "Step.steady" iu f fK :=
 ⟨fun cdv A outer s H E hr hp=>(ay (aC (iJ)))⟩
theorem BX {f:Su} (bq:mg "len"=none):bU P w K mg base 0 ["form","place"] "in_key" ox f jh :=
 ⟨fun cdv A outer s H E hr hp=>(ay (aC (eU (iL hr.units) aq (aa (xv 1)) (aX bE rfl bq PySem.boot_len (ae (aB (aa (xv 0)) (ai) (fun _ _=>rfl)) (aj))) (bc _))))⟩
theorem uz {f:Su} (aH:mg "tuple"=none):bU P w K mg base 0 ["one","other","words"] "both_words" iU f gD :=
 ⟨fun cdv A outer s H E hr hp=>(ao (aF (i:=2) ue.nd rfl ‹1› (bA bQ rfl aH R5 (ae (cR (N:=["word","other"]) (ix:=[none,some 1]) rfl (.of rfl) (bz rfl) (cA (aB (aa (xv 0)) (ai) (fun _ _=>rfl))) ⟨fun _ _ _ _ _ _=>⟨aS (i:=0) J0 rfl (Or.inl rfl),eL (aR (wj hr.units) aq (aa (xv 0)) (aB (aa (xv 1)) (ai) (fun _ _=>rfl)) rfl),aa (xv 0)⟩⟩) (aj)))) (ay (aC (Ax (bI (aa (xv 2))) (bC (ae (bG) (ae (aa (xv 2)) (aj)))) (qJ)))))⟩
theorem qC {f:Su} (pK:mg "max"=none) (uY:mg "min"=none):bU P w K mg base 0 ["one","other","low","high"] "both_numbers" gh f fj :=
 ⟨fun cdv A outer s H E hr hp=>(ao (aF (i:=2) qx.nd rfl ‹1› (aX (nG rfl) rfl pK Sb (ae (aB (aa (xv 0)) (ai) (fun _ _=>rfl)) (ae (aB (aa (xv 1)) (ai) (fun _ _=>rfl)) (aj))))) (ao (aF (i:=3) qx.nd rfl ‹1› (aX (tN rfl) rfl uY Sd (ae (aB (aa (xv 0)) (ai) (fun _ _=>rfl)) (ae (aB (aa (xv 1)) (ai) (fun _ _=>rfl)) (aj))))) (ay (aC (Ax (aR zk dJ (aa (xv 2)) (aa (xv 3)) (bc _)) (bC (ae (bG) (ae (aa (xv 2)) (ae (aa (xv 3)) (aj))))) (qJ))))))⟩
theorem GW {f:Su} (jm:Callee P w K mg base 1 "both_numbers" ["one","other"] (aP fj 2 4)) (kE:Callee P w K mg base 1 "both_words" ["one","other"] (aP gD 2 3)):bU P w K mg base 1 ["one","other"] "both" xV f nV :=
 ⟨fun cdv A outer s H E hr hp=>(ao (bM (aR (nS hr.units) aq (aB (aa (xv 0)) (ai) (fun _ _=>rfl)) (aB (aa (xv 1)) (ai) (fun _ _=>rfl)) (bc _)) (ay (aC (qJ))) (aO)) (ao (bM (aR (bY hr.units) aq (aB (aa (xv 0)) (ai) (fun _ _=>rfl)) (bG) (bc _)) (ay (aC (au jm aI hr ‹0› (ae (aa (xv 0)) (ae (aa (xv 1)) (aj)))))) (aO)) (ao (bM (aR (bY hr.units) aq (aB (aa (xv 0)) (ai) (fun _ _=>rfl)) (bG) (bc _)) (ay (aC (au kE aI hr ‹0› (ae (aa (xv 0)) (ae (aa (xv 1)) (aj)))))) (aO)) (ay (aC (qJ))))))⟩
theorem Af {f:Su} :bU P w K mg base 0 ["form","place"] "kind_at" mF f hU :=
 ⟨fun cdv A outer s H E hr hp=>(ay (aC (aB (aB (ak aM aq (aB (aa (xv 0)) (ai) (fun _ _=>rfl)) (aB (aa (xv 0)) (ai) (fun _ _=>rfl))) (aa (xv 1)) (fun _ _=>rfl)) (ai) (fun _ _=>rfl))))⟩
theorem si {f:Su} (ja:Callee P w K mg base 1 "kind_at" ["form","place"] (aP hU 2 2)) (cF:Callee P w K mg base 2 "place_of" ["form","name"] (aP cV 2 4)) (pZ:Callee P w K mg base 2 "both" ["one","other"] (aP nV 2 2)) (bb:gP K "name" ["Sieve"]) (aQ:gP K "kind" ["Sieve"]):bU P w K mg base 2 ["self","form","kind"] "Sieve.exact" ig f cx :=
 ⟨fun cdv A outer s H E hr hp=>(ao (aF (i:=2) lN.nd rfl ‹1› (au ja aI hr ‹0› (ae (aa (xv 1)) (ae (au cF aI hr ‹0› (ae (aa (xv 1)) (ae (cX bb (aa (xv 0))) (aj)))) (aj))))) (ay (aC (eU (bY hr.units) aq (au pZ aI hr ‹0› (ae (aa (xv 2)) (ae (cX aQ (aa (xv 0))) (aj)))) (aa (xv 2)) (bc _)))))⟩
theorem qF {f:Su} (jQ:Callee P w K mg base 1 "in_key" ["form","place"] (aP jh 2 2)) (cF:Callee P w K mg base 2 "place_of" ["form","name"] (aP cV 2 4)) (rN:fF P w K mg base 3 "exact" ["self","form"] [("Sieve",(aP cx 2 3))]) (bb:gP K "name" ["Sieve"]):bU P w K mg base 3 ["self","form"] "Sieve.steady" gm f dF :=
 ⟨fun cdv A outer s H E hr hp=>(ay (aC (AH (jp rN hr ‹0› (aa (xv 0)) (ae (aa (xv 1)) (aj))) (fP (au jQ aI hr ‹0› (ae (aa (xv 1)) (ae (au cF aI hr ‹0› (ae (aa (xv 1)) (ae (cX bb (aa (xv 0))) (aj)))) (aj))))))))⟩
theorem tT {f:Su} :bU P w K mg base 0 ["self","form"] "Step.exact" iS f gA :=
 ⟨fun cdv A outer s H E hr hp=>(ay (aC (iJ)))⟩
theorem oN {f:Su} :bU P w K mg base 0 ["self","form"] "Step.view_form" fz f eE :=
 ⟨fun cdv A outer s H E hr hp=>(ay (aC (aa (xv 1))))⟩
theorem ym {f:Su} :bU P w K mg base 0 ["values","place","others"] "replaced" kn f hX :=
 ⟨fun cdv A outer s H E hr hp=>(ay (aC (ak aM aq (ak aM aq (bg (aa (xv 0)) (bN) (bj (aa (xv 1)))) (aa (xv 2))) (bg (aa (xv 0)) (bj (ak aM aq (aa (xv 1)) (ai))) (bN)))))⟩
theorem sN {f:Su} (jQ:Callee P w K mg base 1 "in_key" ["form","place"] (aP jh 2 2)) (kK:Callee P w K mg base 1 "replaced" ["values","place","others"] (aP hX 3 3)) (bq:mg "len"=none):bU P w K mg base 1 ["form","place","fields"] "with_fields" ip f eM :=
 ⟨fun cdv A outer s H E hr hp=>(ao (bM (bI (au jQ aI hr ‹0› (ae (aa (xv 0)) (ae (aa (xv 1)) (aj))))) (ay (aC (bC (ae (au kK aI hr ‹0› (ae (aB (aa (xv 0)) (ai) (fun _ _=>rfl)) (ae (aa (xv 1)) (ae (aa (xv 2)) (aj))))) (ae (aB (aa (xv 0)) (ai) (fun _ _=>rfl)) (aj)))))) (aO)) (ay (aC (bC (ae (aB (aa (xv 0)) (ai) (fun _ _=>rfl)) (ae (au kK aI hr ‹0› (ae (aB (aa (xv 0)) (ai) (fun _ _=>rfl)) (ae (ak eY fg (aa (xv 1)) (aX bE rfl bq PySem.boot_len (ae (aB (aa (xv 0)) (ai) (fun _ _=>rfl)) (aj)))) (ae (aa (xv 2)) (aj))))) (aj)))))))⟩
theorem nE {f:Su} (cF:Callee P w K mg base 2 "place_of" ["form","name"] (aP cV 2 4)) (ja:Callee P w K mg base 1 "kind_at" ["form","place"] (aP hU 2 2)) (pZ:Callee P w K mg base 2 "both" ["one","other"] (aP nV 2 2)) (jM:Callee P w K mg base 2 "with_fields" ["form","place","fields"] (aP eM 3 3)) (bb:gP K "name" ["Sieve"]) (aQ:gP K "kind" ["Sieve"]):bU P w K mg base 2 ["self","form","place","kind","shown"] "Sieve.view_form" eS f cM :=
 ⟨fun cdv A outer s H E hr hp=>(ao (aF (i:=2) nA.nd rfl ‹1› (au cF aI hr ‹0› (ae (aa (xv 1)) (ae (cX bb (aa (xv 0))) (aj))))) (ao (aF (i:=3) nA.nd rfl ‹1› (au ja aI hr ‹0› (ae (aa (xv 1)) (ae (aa (xv 2)) (aj))))) (ao (bM (aR (nS hr.units) aq (aB (aa (xv 3)) (ai) (fun _ _=>rfl)) (aB (cX aQ (aa (xv 0))) (ai) (fun _ _=>rfl)) (bc _)) (ay (tD)) (aO)) (ao (aF (i:=4) nA.nd rfl ‹1› (au pZ aI hr ‹0› (ae (aa (xv 3)) (ae (cX aQ (aa (xv 0))) (aj))))) (ao (bM (Fu (aa (xv 4))) (ay (tD)) (aO)) (ay (aC (au jM aI hr ‹0› (ae (aa (xv 1)) (ae (aa (xv 2)) (ae (bC (ae (bC (ae (cX bb (aa (xv 0))) (ae (aa (xv 4)) (aj)))) (aj))) (aj))))))))))))⟩
theorem xM {f:Su} :bU P w K mg base 0 ["_law_cell","_law_j","_law_number"] "_law_draw" jI f bh :=
 ⟨fun cdv A outer s H E hr hp=>(ao (aF (i:=2) wI.nd rfl ‹1› (ak bd bf (ak aM aq (ak aM aq (ak aM aq (ak jd ji (ak bd bf (aa (xv 0)) (ai)) (ai)) (ak jd ji (ak jd ji (ai) (aa (xv 1))) (aa (xv 1)))) (ak jd ji (ai) (aa (xv 1)))) (ai)) (ai))) (ao (aF (i:=2) wI.nd rfl ‹1› (ak bd bf (ak aM aq (ak jd ji (aa (xv 2)) (ai)) (ak jd ji (ai) (aa (xv 1)))) (ai))) (ay (aC (ak aM aq (aa (xv 2)) (ak jd ji (ai) (ak bd bf (ak bB cq (aa (xv 0)) (ak aM aq (aa (xv 1)) (ai))) (ak nY n6 (ai) (ai)))))))))⟩
theorem ul {n:Nat} {f:Su} (bu:Callee P w K mg base 1 "_law_draw" ["_law_cell","_law_j"] (aP bh 2 3)) (bq:mg "len"=none) (ce:mg "range"=none) (iF:mg "int"=none) (aH:mg "tuple"=none) {aZ:List D->R D} (ke:Callee P w K mg base (1+n) "_law_value" ["_law_kind_here","_law_cell"] aZ) (L__law_value:Ar 2 aZ) {aU:List D->R D} (du:Callee P w K mg base (1+n) "_law_table" ["_law_form_here","_law_cells"] aU) (L__law_table:Ar 2 aU):bU P w K mg base (1+n) ["_law_kind_here","_law_cell"] "_law_value" gC f (fu aZ aU) :=
 ⟨fun cdv A outer s H E hr hp=>(ao (bM (aR (bY hr.units) aq (aB (aa (xv 0)) (ai) (fun _ _=>rfl)) (bG) (bc _)) (ay (aC (ak aM aq (aB (aa (xv 0)) (ai) (fun _ _=>rfl)) (ak bd bf (aa (xv 1)) (ak aM aq (ak eY fg (aB (aa (xv 0)) (ai) (fun _ _=>rfl)) (aB (aa (xv 0)) (ai) (fun _ _=>rfl))) (ai)))))) (aO)) (ao (bM (aR (bY hr.units) aq (aB (aa (xv 0)) (ai) (fun _ _=>rfl)) (bG) (bc _)) (ay (aC (aB (aB (aa (xv 0)) (ai) (fun _ _=>rfl)) (ak bd bf (aa (xv 1)) (aX bE rfl bq PySem.boot_len (ae (aB (aa (xv 0)) (ai) (fun _ _=>rfl)) (aj)))) (fun _ _=>rfl)))) (aO)) (ay (aC (au du L__law_table hr ‹0› (ae (aB (aa (xv 0)) (ai) (fun _ _=>rfl)) (ae (cR (N:=["_law_k","_law_cell"]) (ix:=[none,some 1]) rfl (.of rfl) (bz rfl) (dh rfl ce (ae (ak aM aq (bA Ak rfl iF R9 (ae (aB (aa (xv 0)) (ai) (fun _ _=>rfl)) (aj))) (ak bd bf (aa (xv 1)) (ai))) (aj))) ⟨fun _ _ _ _ _ _=>⟨aS (i:=0) JD rfl (Or.inl rfl),cp,au bu aI hr ‹0› (ae (aa (xv 1)) (ae (ak aM aq (ai) (aa (xv 0))) (aj)))⟩⟩) (aj))))))))⟩
theorem uA {n:Nat} {f:Su} (bu:Callee P w K mg base 1 "_law_draw" ["_law_cell","_law_j"] (aP bh 2 3)) (bq:mg "len"=none) (ce:mg "range"=none) (iF:mg "int"=none) (aH:mg "tuple"=none) {aZ:List D->R D} (ke:Callee P w K mg base (1+n) "_law_value" ["_law_kind_here","_law_cell"] aZ) (L__law_value:Ar 2 aZ) {aU:List D->R D} (du:Callee P w K mg base (1+n) "_law_table" ["_law_form_here","_law_cells"] aU) (L__law_table:Ar 2 aU):bU P w K mg base (1+n) ["_law_form_here","_law_cells","_law_kinds","_law_many","_law_found","_law_cell","_law_row","_law_at"] "_law_table" gu f (fE aZ aU) :=
 ⟨fun cdv A outer s H E hr hp=>(ao (by first | exact nO (i:=2) tY.nd rfl ‹1› (N:=["_law_name","_law_kind_here"]) (ix:=[none,none]) rfl (.of rfl) (kM rfl) (cA (ak aM aq (aB (aa (xv 0)) (ai) (fun _ _=>rfl)) (aB (aa (xv 0)) (ai) (fun _ _=>rfl)))) ⟨fun _ _ _ _ _ _=>⟨mO (g:=uy [0,1]) rfl (dI (aS (i:=0) BH rfl (Or.inl rfl)) (dI (aS (i:=1) BH rfl (Or.inl rfl)) (jX))),cp,aa (xv 1)⟩⟩ | exact aF (i:=2) tY.nd rfl ‹1› (cR (N:=["_law_name","_law_kind_here"]) (ix:=[none,none]) rfl (.of rfl) (kM rfl) (cA (ak aM aq (aB (aa (xv 0)) (ai) (fun _ _=>rfl)) (aB (aa (xv 0)) (ai) (fun _ _=>rfl)))) ⟨fun _ _ _ _ _ _=>⟨mO (g:=uy [0,1]) rfl (dI (aS (i:=0) BH rfl (Or.inl rfl)) (dI (aS (i:=1) BH rfl (Or.inl rfl)) (jX))),cp,aa (xv 1)⟩⟩)) (ao (aF (i:=3) tY.nd rfl ‹1› (aX bE rfl bq PySem.boot_len (ae (aB (aa (xv 0)) (ai) (fun _ _=>rfl)) (aj)))) (ao (mU (i:=4) tY.nd rfl ‹1› (oE (aj))) (dZ [0] (ao (mP hp rfl (cA (aa (xv 1))) (aS (i:=5) tY.nd rfl ‹1›) (ao (aF (i:=6) tY.nd rfl ‹1› (bA bQ rfl aH R5 (ae (cR (N:=["_law_k","_law_kinds","_law_cell"]) (ix:=[none,some 2,some 5]) rfl (.of rfl) (bz rfl) (dh rfl ce (ae (aX bE rfl bq PySem.boot_len (ae (aa (xv 2)) (aj))) (aj))) ⟨fun _ _ _ _ _ _=>⟨aS (i:=0) Kh rfl (Or.inl rfl),cp,au ke L__law_value hr ‹0› (ae (aB (aa (xv 1)) (aa (xv 0)) (fun _ _=>rfl)) (ae (au bu aI hr ‹0› (ae (aa (xv 2)) (ae (ak aM aq (ai) (aa (xv 0))) (aj)))) (aj)))⟩⟩) (aj)))) (ao (aF (i:=7) tY.nd rfl ‹1› (ai)) (dZ [0,1,5] (ao (uN 200 hp (ot [4] (uw (fS (aR (iL hr.units) aq (aa (xv 7)) (aX bE rfl bq PySem.boot_len (ae (aa (xv 4)) (aj))) (bc _)) (e7 (aR (iL hr.units) aq (bg (aB (aa (xv 4)) (aa (xv 7)) (fun _ _=>rfl)) (bN) (bj (aa (xv 3)))) (bg (aa (xv 6)) (bN) (bj (aa (xv 3)))) (bc _)))))) (ay (aF (i:=7) tY.nd rfl ‹1› (ak aM aq (aa (xv 7)) (ai))))) (ao (bM (ot [4] (uw (jf (aR (bY hr.units) aq (aa (xv 7)) (aX bE rfl bq PySem.boot_len (ae (aa (xv 4)) (aj))) (bc _)) (ib (aR (nS hr.units) aq (bg (aB (aa (xv 4)) (aa (xv 7)) (fun _ _=>rfl)) (bN) (bj (aa (xv 3)))) (bg (aa (xv 6)) (bN) (bj (aa (xv 3)))) (bc _)))))) (ay (qb Si Sj vg uM (xv 4) (ae (aa (xv 7)) (ae (aa (xv 6)) (aj))))) (aO)) (dZ [5,6,7] aO))))))) (jO 4 (ay (aC (bA bQ rfl aH R5 (ae (aa (xv 4)) (aj)))))))))))⟩
theorem lH {f__law_value:Su} {fd__law_value:Th} (F__law_value:wK K "_law_value" "_law_value" gC f__law_value fd__law_value) (kW:Binds K fd__law_value ["_law_kind_here","_law_cell"] []) (m__law_value:mg "_law_value"=some (.ref f__law_value)) {f__law_table:Su} {fd__law_table:Th} (F__law_table:wK K "_law_table" "_law_table" gu f__law_table fd__law_table) (kA:Binds K fd__law_table ["_law_form_here","_law_cells"] []) (m__law_table:mg "_law_table"=some (.ref f__law_table)) (bu:Callee P w K mg base 1 "_law_draw" ["_law_cell","_law_j"] (aP bh 2 3)) (bq:mg "len"=none) (ce:mg "range"=none) (iF:mg "int"=none) (aH:mg "tuple"=none):∀ n:Nat,Callee P w K mg base (1+n) "_law_value" ["_law_kind_here","_law_cell"] (aZ n)/\Callee P w K mg base (1+n) "_law_table" ["_law_form_here","_law_cells"] (aU n)
 | 0=>by
  rw [aZ]; rw [aU]
  exact⟨fY 1 F__law_value kW m__law_value,fY 1 F__law_table kA m__law_table⟩
 | n+1=>by
  have ih:=lH F__law_value kW m__law_value F__law_table kA m__law_table bu bq ce iF aH n
  rw [dN]; rw [dP]
  exact⟨aW F__law_value kW m__law_value uf (bU.ok (ul bu bq ce iF aH ih.1 (kY n) ih.2 (fO n))),aW F__law_table kA m__law_table tY (bU.ok (uA bu bq ce iF aH ih.1 (kY n) ih.2 (fO n)))⟩
theorem wR {f:Su} (du:Callee P w K mg base 13 "_law_table" ["_law_form_here","_law_cells"] (aU 12)) (cO:Callee P w K mg base 1 "_law_is_of" ["_law_kind_here","_law_value_here"] (aP cf 2 2)) (eN:Callee P w K mg base 1 "_law_merged" ["_law_rows","_law_many"] (aP dA 2 5)) (bq:mg "len"=none) (ce:mg "range"=none) (iK:mg "list"=none):bU P w K mg base 13 ["_law_due","_law_at","_law_table_here","_law_kind_here","_law_cells","_law_many","_law_drawn","_law_rows","_law_k"] "_law_view" jF f iG :=
 ⟨fun cdv A outer s H E hr hp=>(ao (aF (i:=5) xh.nd rfl ‹1› (aX bE rfl bq PySem.boot_len (ae (aB (aa (xv 0)) (ai) (fun _ _=>rfl)) (aj)))) (ao (aF (i:=6) xh.nd rfl ‹1› (au du (fO 12) hr ‹0› (ae (aa (xv 0)) (ae (aa (xv 4)) (aj))))) (ao (mU (i:=7) xh.nd rfl ‹1› (oE (aj))) (dZ [0,4] (ao (mP hp rfl (dh rfl ce (ae (aX bE rfl bq PySem.boot_len (ae (aa (xv 2)) (aj))) (aj))) (aS (i:=8) xh.nd rfl ‹1›) (ao (bM (uw (fS (aR (bY hr.units) aq (ak bd bf (aa (xv 8)) (ai)) (ai) (bc _)) (e7 (bI (au cO aI hr ‹0› (ae (aa (xv 3)) (ae (aB (aB (aa (xv 2)) (aa (xv 8)) (fun _ _=>rfl)) (aa (xv 1)) (fun _ _=>rfl)) (aj)))))))) (ay (qb Sl Sn jR mK (xv 7) (ae (aB (aa (xv 2)) (aa (xv 8)) (fun _ _=>rfl)) (aj)))) (aO)) (ao (bM (uw (fS (aR (bY hr.units) aq (ak bd bf (aa (xv 8)) (ai)) (ai) (bc _)) (fS (aR (nS hr.units) aq (aa (xv 6)) (bC (aj)) (bc _)) (e7 (uw (jf (aR HH dJ (aa (xv 1)) (aa (xv 5)) (bc _)) (ib (bI (au cO aI hr ‹0› (ae (aa (xv 3)) (ae (aB (aB (aa (xv 2)) (aa (xv 8)) (fun _ _=>rfl)) (aa (xv 1)) (fun _ _=>rfl)) (aj)))))))))))) (ay (qb Sl Sn jR mK (xv 7) (ae (ak aM aq (bg (aB (aa (xv 2)) (aa (xv 8)) (fun _ _=>rfl)) (bN) (bj (aa (xv 5)))) (bg (aB (aa (xv 6)) (ak bd bf (aa (xv 8)) (aX bE rfl bq PySem.boot_len (ae (aa (xv 6)) (aj)))) (fun _ _=>rfl)) (bj (aa (xv 5))) (bN))) (aj)))) (aO)) (dZ [8] aO)))) (jO 7 (ay (aC (au eN aI hr ‹0› (ae (ak aM aq (aa (xv 7)) (bA nR rfl iK Sa (ae (aa (xv 6)) (aj)))) (ae (aa (xv 5)) (aj))))))))))))⟩
theorem xS {f:Su} (iK:mg "list"=none) (aH:mg "tuple"=none) (bq:mg "len"=none):bU P w K mg base 0 ["_law_form_here","_law_at","_law_kind_here","_law_fields"] "_law_with" jH f iB :=
 ⟨fun cdv A outer s H E hr hp=>(ao (mU (i:=3) w6.nd rfl ‹1› (DH rfl iK Sa (ae (ak aM aq (aB (aa (xv 0)) (ai) (fun _ _=>rfl)) (aB (aa (xv 0)) (ai) (fun _ _=>rfl))) (aj)))) (ao (yD (xv 3) (aa (xv 1)) (bC (ae (aB (Gj (xv 3) (aa (xv 1)) (fun _ _=>rfl)) (ai) (fun _ _=>rfl)) (ae (aa (xv 2)) (aj))))) (jO 3 (ay (aC (bC (ae (bA bQ rfl aH R5 (ae (bg (aa (xv 3)) (bN) (bj (aX bE rfl bq PySem.boot_len (ae (aB (aa (xv 0)) (ai) (fun _ _=>rfl)) (aj))))) (aj))) (ae (bA bQ rfl aH R5 (ae (bg (aa (xv 3)) (bj (aX bE rfl bq PySem.boot_len (ae (aB (aa (xv 0)) (ai) (fun _ _=>rfl)) (aj)))) (bN)) (aj))) (aj)))))))))⟩
theorem tU {f:Su} (mj:Callee P w K mg base 1 "_law_with" ["_law_form_here","_law_at","_law_kind_here"] (aP iB 3 4)) (du:Callee P w K mg base 13 "_law_table" ["_law_form_here","_law_cells"] (aU 12)) (lW:Callee P w K mg base 14 "_law_view" ["_law_due","_law_at","_law_table_here","_law_kind_here","_law_cells"] (aP iG 5 9)) (ca:Callee P w K mg base 12 "_law_alike" ["_law_found","_law_due"] (aL 12)) (cO:Callee P w K mg base 1 "_law_is_of" ["_law_kind_here","_law_value_here"] (aP cf 2 2)) (nX:Callee P w K mg base 2 "_law_put" ["_law_table_here","_law_view_here","_law_at","_law_many","_law_kind_here"] (aP jk 5 7)) (jW:fF P w K mg base 14 "view_form" ["self","form"] [("Step",(aP eE 2 2)),("Sieve",(aP cM 2 5))]) (mW:fF P w K mg base 14 "exact" ["self","form"] [("Step",(aP gA 2 2)),("Sieve",(aP cx 2 3))]) (lA:fF P w K mg base 14 "steady" ["self","form"] [("Step",(aP fK 2 2)),("Sieve",(aP dF 2 2))]) (oq:fF P w K mg base 14 "got" ["self","form","table"] [("Step",(aP jo 3 3)),("Sieve",(aP e9 3 4))]) (jJ:fF P w K mg base 14 "put" ["self","form","table","view"] [("Step",(aP gX 4 4)),("Sieve",(aP eG 4 6))]) (aQ:gP K "kind" ["Sieve"]) (bq:mg "len"=none) (aH:mg "tuple"=none):bU P w K mg base 14 ["_law_step","_law_form_here","_law_at","_law_inner_here","_law_cells","_law_many","_law_due","_law_kind_here","_law_table_here","_law_view_here","_law_whole","_law_seen"] "_law_right" i5 f dq :=
 ⟨fun cdv A outer s H E hr hp=>(ao (aF (i:=5) tS.nd rfl ‹1› (aX bE rfl bq PySem.boot_len (ae (aB (aa (xv 1)) (ai) (fun _ _=>rfl)) (aj)))) (ao (aF (i:=6) tS.nd rfl ‹1› (au mj aI hr ‹0› (ae (aa (xv 1)) (ae (aa (xv 2)) (ae (aa (xv 3)) (aj)))))) (ao (aF (i:=7) tS.nd rfl ‹1› (cX aQ (aa (xv 0)))) (ao (aF (i:=8) tS.nd rfl ‹1› (au du (fO 12) hr ‹0› (ae (aa (xv 1)) (ae (bg (aa (xv 4)) (bN) (bj (ai))) (aj))))) (ao (aF (i:=9) tS.nd rfl ‹1› (au lW aI hr ‹0› (ae (aa (xv 6)) (ae (aa (xv 2)) (ae (aa (xv 8)) (ae (aa (xv 7)) (ae (bg (aa (xv 4)) (bj (ai)) (bN)) (aj)))))))) (ao (bM (dM (bI (au ca (cE 12) hr ‹0› (ae (jp jW hr ‹0› (aa (xv 0)) (ae (aa (xv 1)) (aj))) (ae (aa (xv 6)) (aj)))))) (ay (aC (iJ))) (aO)) (ao (aF (i:=10) tS.nd rfl ‹1› (eU (bY hr.units) aq (aa (xv 3)) (aB (aB (ak aM aq (aB (aa (xv 1)) (ai) (fun _ _=>rfl)) (aB (aa (xv 1)) (ai) (fun _ _=>rfl))) (aa (xv 2)) (fun _ _=>rfl)) (ai) (fun _ _=>rfl)) (bc _))) (ao (bM (uw (jf (dM (bI (au ca (cE 12) hr ‹0› (ae (jp mW hr ‹0› (aa (xv 0)) (ae (aa (xv 1)) (aj))) (ae (aa (xv 10)) (aj)))))) (ib (dM (bI (au ca (cE 12) hr ‹0› (ae (jp lA hr ‹0› (aa (xv 0)) (ae (aa (xv 1)) (aj))) (ae (AH (aa (xv 10)) (fP (eU (iL hr.units) aq (aa (xv 2)) (aa (xv 5)) (bc _)))) (aj))))))))) (ay (aC (iJ))) (aO)) (ao (aF (i:=11) tS.nd rfl ‹1› (bA bQ rfl aH R5 (ae (cR (N:=["_law_row","_law_kind_here","_law_at"]) (ix:=[none,some 7,some 2]) rfl (.of rfl) (bz rfl) (cA (aa (xv 8))) ⟨fun _ _ _ _ _ _=>⟨aS (i:=0) JL rfl (Or.inl rfl),eL (bI (au cO aI hr ‹0› (ae (aa (xv 1)) (ae (aB (aa (xv 0)) (aa (xv 2)) (fun _ _=>rfl)) (aj))))),aa (xv 0)⟩⟩) (aj)))) (ao (bM (dM (bI (au ca (cE 12) hr ‹0› (ae (jp oq hr ‹0› (aa (xv 0)) (ae (aa (xv 1)) (ae (aa (xv 8)) (aj)))) (ae (aa (xv 11)) (aj)))))) (ay (aC (iJ))) (aO)) (ao (bM (dM (bI (au ca (cE 12) hr ‹0› (ae (jp jJ hr ‹0› (aa (xv 0)) (ae (aa (xv 1)) (ae (aa (xv 8)) (ae (aa (xv 9)) (aj))))) (ae (au nX aI hr ‹0› (ae (aa (xv 8)) (ae (aa (xv 9)) (ae (aa (xv 2)) (ae (aa (xv 5)) (ae (aa (xv 7)) (aj))))))) (aj)))))) (ay (aC (iJ))) (aO)) (ay (aC (au ca (cE 12) hr ‹0› (ae (jp jJ hr ‹0› (aa (xv 0)) (ae (aa (xv 1)) (ae (aa (xv 8)) (ae (aa (xv 11)) (aj))))) (ae (aa (xv 8)) (aj)))))))))))))))))⟩
theorem se {f:Su} (bq:mg "len"=none):bU P w K mg base 0 ["_law_form_here","_law_at","_law_many"] "_law_turned" ii f fJ :=
 ⟨fun cdv A outer s H E hr hp=>(ao (aF (i:=2) sj.nd rfl ‹1› (aX bE rfl bq PySem.boot_len (ae (aB (aa (xv 0)) (ai) (fun _ _=>rfl)) (aj)))) (ao (bM (aR (iL hr.units) aq (aa (xv 1)) (aa (xv 2)) (bc _)) (ay (aC (ak eY fg (ak eY fg (aa (xv 2)) (ai)) (aa (xv 1))))) (aO)) (ay (aC (ak eY fg (ak eY fg (ak aM aq (ak jd ji (ai) (aa (xv 2))) (aX bE rfl bq PySem.boot_len (ae (aB (aa (xv 0)) (ai) (fun _ _=>rfl)) (aj)))) (ai)) (aa (xv 1)))))))⟩
theorem ua {f:Su} :bU P w K mg base 0 ["self"] "Step.words" iQ f gq :=
 ⟨fun cdv A outer s H E hr hp=>(ay (aC (bC (aj))))⟩
theorem zW {f:Su} (aG:mg "isinstance"=none) (eK:mg "str"=none):bU P w K mg base 0 ["value"] "written" mt f eO :=
 ⟨fun cdv A outer s H E hr hp=>(ay (aC (Ax (bI (eR pG rfl aG rfl eK R7 (aa (xv 0)))) (ak aM aq (bG) (aa (xv 0))) (bA vF rfl eK R7 (ae (aa (xv 0)) (aj))))))⟩
theorem tE {f:Su} (jP:Callee P w K mg base 1 "written" ["value"] (aP eO 1 1)) (aQ:gP K "kind" ["Sieve"]) (bb:gP K "name" ["Sieve"]) (aH:mg "tuple"=none):bU P w K mg base 1 ["self"] "Sieve.words" ia f cZ :=
 ⟨fun cdv A outer s H E hr hp=>(ao (bM (aR (bY hr.units) aq (aB (cX aQ (aa (xv 0))) (ai) (fun _ _=>rfl)) (bG) (bc _)) (ay (aC (bC (ae (bG) (ae (cX bb (aa (xv 0))) (ae (au jP aI hr ‹0› (ae (aB (cX aQ (aa (xv 0))) (ai) (fun _ _=>rfl)) (aj))) (ae (au jP aI hr ‹0› (ae (aB (cX aQ (aa (xv 0))) (ai) (fun _ _=>rfl)) (aj))) (aj)))))))) (aO)) (ay (aC (ak aM aq (bC (ae (bG) (ae (cX bb (aa (xv 0))) (aj)))) (bA bQ rfl aH R5 (ae (cR (N:=["word"]) (ix:=[none]) rfl (.of rfl) (bz rfl) (cA (aB (cX aQ (aa (xv 0))) (ai) (fun _ _=>rfl))) ⟨fun _ _ _ _ _ _=>⟨aS (i:=0) KO rfl (Or.inl rfl),cp,au jP aI hr ‹0› (ae (aa (xv 0)) (aj))⟩⟩) (aj)))))))⟩
theorem xn {f:Su} (ca:Callee P w K mg base 12 "_law_alike" ["_law_found","_law_due"] (aL 12)) (mV:fF P w K mg base 12 "words" ["self"] [("Step",(aP gq 1 1)),("Sieve",(aP cZ 1 1))]) (bb:gP K "name" ["Sieve"]) (aQ:gP K "kind" ["Sieve"]) (AO:BF K mg "Step" ["Step","Sieve"]) (aH:mg "tuple"=none) (eK:mg "str"=none) (aG:mg "isinstance"=none):bU P w K mg base 12 ["_law_step","_law_name","_law_kind_here","_law_words_here"] "_law_told" jD f eX :=
 ⟨fun cdv A outer s H E hr hp=>(ao (aF (i:=3) we.nd rfl ‹1› (bC (ae (bG) (ae (aa (xv 1)) (aj))))) (ao (bM (aR (bY hr.units) aq (aB (aa (xv 2)) (ai) (fun _ _=>rfl)) (bG) (bc _)) (ay (aF (i:=3) we.nd rfl ‹1› (ak aM aq (aa (xv 3)) (bA bQ rfl aH R5 (ae (cR (N:=["_law_word"]) (ix:=[none]) rfl (.of rfl) (bz rfl) (cA (aB (aa (xv 2)) (ai) (fun _ _=>rfl))) ⟨fun _ _ _ _ _ _=>⟨aS (i:=0) J1 rfl (Or.inl rfl),cp,ak aM aq (bG) (aa (xv 0))⟩⟩) (aj)))))) (ay (aF (i:=3) we.nd rfl ‹1› (bC (ae (bG) (ae (aa (xv 1)) (ae (bA uC rfl eK R7 (ae (aB (aa (xv 2)) (ai) (fun _ _=>rfl)) (aj))) (ae (bA uC rfl eK R7 (ae (aB (aa (xv 2)) (ai) (fun _ _=>rfl)) (aj))) (aj))))))))) (ao (bM (uw (jf (dM (bI (Eg AO rfl aG rfl (aa (xv 0))))) (jf (aR (nS hr.units) aq (cX bb (aa (xv 0))) (aa (xv 1)) (bc _)) (ib (dM (bI (au ca (cE 12) hr ‹0› (ae (cX aQ (aa (xv 0))) (ae (aa (xv 2)) (aj)))))))))) (ay (aC (iJ))) (aO)) (ay (aC (au ca (cE 12) hr ‹0› (ae (CZ mV hr ‹0› (aa (xv 0))) (ae (aa (xv 3)) (aj)))))))))⟩
theorem vL {f:Su} (uY:mg "min"=none) (pK:mg "max"=none) (aH:mg "tuple"=none):bU P w K mg base 0 ["_law_one","_law_other"] "_law_both" ju f iz :=
 ⟨fun cdv A outer s H E hr hp=>(ao (bM (aR (bY hr.units) aq (aB (aa (xv 0)) (ai) (fun _ _=>rfl)) (bG) (bc _)) (ay (aC (bC (ae (bG) (ae (aX (nG rfl) rfl pK Sb (ae (aB (aa (xv 0)) (ai) (fun _ _=>rfl)) (ae (aB (aa (xv 1)) (ai) (fun _ _=>rfl)) (aj)))) (ae (aX (tN rfl) rfl uY Sd (ae (aB (aa (xv 0)) (ai) (fun _ _=>rfl)) (ae (aB (aa (xv 1)) (ai) (fun _ _=>rfl)) (aj)))) (aj))))))) (aO)) (ay (aC (bC (ae (bG) (ae (bA bQ rfl aH R5 (ae (cR (N:=["_law_word","_law_other"]) (ix:=[none,some 1]) rfl (.of rfl) (bz rfl) (cA (aB (aa (xv 0)) (ai) (fun _ _=>rfl))) ⟨fun _ _ _ _ _ _=>⟨aS (i:=0) KU rfl (Or.inl rfl),eL (aR (wj hr.units) aq (aa (xv 0)) (aB (aa (xv 1)) (ai) (fun _ _=>rfl)) rfl),aa (xv 0)⟩⟩) (aj))) (aj)))))))⟩
theorem tW {f:Su} (bu:Callee P w K mg base 1 "_law_draw" ["_law_cell","_law_j"] (aP bh 2 3)) (ce:mg "range"=none) (aH:mg "tuple"=none):bU P w K mg base 1 ["_law_cell","_law_letters","_law_many","_law_full","_law_at","_law_first","_law_end"] "_law_words" iX f cj :=
 ⟨fun cdv A outer s H E hr hp=>(ao (aF (i:=1) uc.nd rfl ‹1› (bG)) (ao (aF (i:=2) uc.nd rfl ‹1› (ak aM aq (ai) (ak bd bf (ak bB cq (aa (xv 0)) (ai)) (ai)))) (ao (bM (aR (bY hr.units) aq (ak bd bf (aa (xv 0)) (ai)) (ai) (bc _)) (ay (aF (i:=2) uc.nd rfl ‹1› (ak aM aq (ai) (ak bd bf (ak bB cq (aa (xv 0)) (ai)) (ai))))) (aO)) (ao (aF (i:=3) uc.nd rfl ‹1› (oR (bG) (ae (cR (N:=["_law_k","_law_letters","_law_cell"]) (ix:=[none,some 1,some 0]) rfl (.of rfl) (bz rfl) (dh rfl ce (ae (ai) (aj))) ⟨fun _ _ _ _ _ _=>⟨aS (i:=0) Kl rfl (Or.inl rfl),cp,aB (aa (xv 1)) (ak bd bf (au bu aI hr ‹0› (ae (aa (xv 2)) (ae (ak aM aq (ai) (aa (xv 0))) (aj)))) (ai)) (fun _ _=>rfl)⟩⟩) (aj)))) (ao (bM (uw (fS (aR (bY hr.units) aq (ak bd bf (ak bB cq (aa (xv 0)) (ai)) (ai)) (ai) (bc _)) (e7 (aR (iL hr.units) aq (aa (xv 2)) (ai) (bc _))))) (ay (aC (bA bQ rfl aH R5 (ae (cR (N:=["_law_k","_law_full"]) (ix:=[none,some 3]) rfl (.of rfl) (bz rfl) (dh rfl ce (ae (aa (xv 2)) (aj))) ⟨fun _ _ _ _ _ _=>⟨aS (i:=0) JT rfl (Or.inl rfl),cp,bg (aa (xv 1)) (bN) (bj (aa (xv 0)))⟩⟩) (aj))))) (aO)) (ao (aF (i:=4) uc.nd rfl ‹1› (ak bd bf (ak bB cq (aa (xv 0)) (ai)) (ai))) (ao (aF (i:=5) uc.nd rfl ‹1› (ak bd bf (ak bB cq (aa (xv 0)) (ai)) (ak eY fg (ai) (aa (xv 2))))) (ao (aF (i:=6) uc.nd rfl ‹1› (ak aM aq (ak aM aq (aa (xv 4)) (ai)) (ak bd bf (ak bB cq (aa (xv 0)) (ai)) (ak eY fg (ai) (aa (xv 4)))))) (ay (aC (bA bQ rfl aH R5 (ae (cR (N:=["_law_k","_law_full","_law_at","_law_letters","_law_first","_law_end"]) (ix:=[none,some 3,some 4,some 1,some 5,some 6]) rfl (.of rfl) (bz rfl) (dh rfl ce (ae (aa (xv 2)) (aj))) ⟨fun _ _ _ _ _ _=>⟨aS (i:=0) KD rfl (Or.inl rfl),cp,ak aM aq (ak aM aq (bg (aa (xv 1)) (bN) (bj (aa (xv 2)))) (aB (aa (xv 3)) (ak aM aq (aa (xv 4)) (aa (xv 0))) (fun _ _=>rfl))) (bg (aa (xv 1)) (bj (ak aM aq (aa (xv 2)) (ai))) (bj (aa (xv 5))))⟩⟩) (aj)))))))))))))⟩
theorem n8 {f:Su} (cD:Callee P w K mg base 2 "_law_words" ["_law_cell"] (aP cj 1 7)) (pK:mg "max"=none) (bq:mg "len"=none) (aH:mg "tuple"=none) (jY:mg "sorted"=none):bU P w K mg base 2 ["_law_kind_here","_law_cell","_law_low","_law_words_here"] "_law_shown_kind" eQ f dL :=
 ⟨fun cdv A outer s H E hr hp=>(ao (bM (aR (bY hr.units) aq (aB (aa (xv 0)) (ai) (fun _ _=>rfl)) (bG) (bc _)) (ao (aF (i:=2) nI.nd rfl ‹1› (ak aM aq (aB (aa (xv 0)) (ai) (fun _ _=>rfl)) (aB (mL (ae (ai) (ae (ai) (ae (ai) (ae (ak eY fg (ak bd bf (ak bB cq (aa (xv 1)) (ai)) (ai)) (ai)) (ae (ak bd bf (ak bB cq (aa (xv 1)) (ai)) (ak aM aq (ak eY fg (aB (aa (xv 0)) (ai) (fun _ _=>rfl)) (aB (aa (xv 0)) (ai) (fun _ _=>rfl))) (ai))) (aj))))))) (ak bd bf (aa (xv 1)) (ai)) (fun _ _=>rfl)))) (ay (aC (bC (ae (bG) (ae (aa (xv 2)) (ae (aX (nG rfl) rfl pK Sb (ae (aa (xv 2)) (ae (ak aM aq (aB (aa (xv 0)) (ai) (fun _ _=>rfl)) (aB (mL (ae (ai) (ae (ai) (ae (AV (ai)) (ae (ak eY fg (ak bd bf (ak bB cq (aa (xv 1)) (ai)) (ai)) (ai)) (ae (AV (ak bd bf (ak bB cq (aa (xv 1)) (ai)) (ai))) (aj))))))) (ak bd bf (ak bB cq (aa (xv 1)) (ai)) (ai)) (fun _ _=>rfl))) (aj)))) (aj)))))))) (aO)) (ao (by first | exact nO (i:=3) nI.nd rfl ‹1› (N:=["_law_word","_law_cell"]) (ix:=[none,some 1]) rfl (.of rfl) (bz rfl) (cA (aB (aa (xv 0)) (ai) (fun _ _=>rfl))) ⟨fun _ _ _ _ _ _=>⟨aS (i:=0) Hs rfl (Or.inl rfl),eL (uw (jf (aR yK dJ (ak bd bf (ak bB cq (aa (xv 1)) (ai)) (ak aM aq (ai) (aX bE rfl bq PySem.boot_len (ae (aa (xv 0)) (aj))))) (ai) (bc _)) (ib (aR (bY hr.units) aq (ak bd bf (aa (xv 1)) (ai)) (ai) (bc _))))),aa (xv 0)⟩⟩ | exact aF (i:=3) nI.nd rfl ‹1› (cR (N:=["_law_word","_law_cell"]) (ix:=[none,some 1]) rfl (.of rfl) (bz rfl) (cA (aB (aa (xv 0)) (ai) (fun _ _=>rfl))) ⟨fun _ _ _ _ _ _=>⟨aS (i:=0) Hs rfl (Or.inl rfl),eL (uw (jf (aR yK dJ (ak bd bf (ak bB cq (aa (xv 1)) (ai)) (ak aM aq (ai) (aX bE rfl bq PySem.boot_len (ae (aa (xv 0)) (aj))))) (ai) (bc _)) (ib (aR (bY hr.units) aq (ak bd bf (aa (xv 1)) (ai)) (ai) (bc _))))),aa (xv 0)⟩⟩)) (ao (aF (i:=3) nI.nd rfl ‹1› (ak aM aq (aa (xv 3)) (cR (N:=["_law_word","_law_words_here","_law_cell"]) (ix:=[none,some 3,some 1]) rfl (.of rfl) (bz rfl) (cA (au cD aI hr ‹0› (ae (ak bB cq (aa (xv 1)) (ai)) (aj)))) ⟨fun _ _ _ _ _ _=>⟨aS (i:=0) Ku rfl (Or.inl rfl),eL (uw (fS (aR (qe hr.units) aq (aa (xv 0)) (aa (xv 1)) rfl) (e7 (aR yK dJ (ak bd bf (aa (xv 2)) (ai)) (ai) (bc _))))),aa (xv 0)⟩⟩))) (ao (bM (aR (bY hr.units) aq (aa (xv 3)) (mL (aj)) (bc _)) (ay (aF (i:=3) nI.nd rfl ‹1› (mL (ae (aB (aB (aa (xv 0)) (ai) (fun _ _=>rfl)) (ak bd bf (ak bB cq (aa (xv 1)) (ai)) (aX bE rfl bq PySem.boot_len (ae (aB (aa (xv 0)) (ai) (fun _ _=>rfl)) (aj)))) (fun _ _=>rfl)) (aj))))) (aO)) (ay (aC (bC (ae (bG) (ae (bA bQ rfl aH R5 (ae (bg (aX wc rfl jY oY (ae (aa (xv 3)) (aj))) (bN) (bj (ai))) (aj))) (aj))))))))))⟩
theorem qE {f:Su} (bq:mg "len"=none):bU P w K mg base 0 ["_law_script","_law_k"] "_law_cell_at" gF f bW :=
 ⟨fun cdv A outer s H E hr hp=>(ao (bM (aR (iL hr.units) aq (aa (xv 1)) (aX bE rfl bq PySem.boot_len (ae (aa (xv 0)) (aj))) (bc _)) (ay (aC (aB (aa (xv 0)) (aa (xv 1)) (fun _ _=>rfl)))) (aO)) (ay (aC (ai))))⟩
theorem nF {f:Su} (cD:Callee P w K mg base 2 "_law_words" ["_law_cell"] (aP cj 1 7)):bU P w K mg base 2 ["_law_cell","_law_low"] "_law_plain_kind" eT f dg :=
 ⟨fun cdv A outer s H E hr hp=>(ao (bM (aR (bY hr.units) aq (ak bd bf (aa (xv 0)) (ai)) (ai) (bc _)) (ao (aF (i:=1) nQ.nd rfl ‹1› (ak eY fg (ak bd bf (ak bB cq (aa (xv 0)) (ai)) (ak jd ji (ai) (ak nY n6 (ai) (ai)))) (ak nY n6 (ai) (ai)))) (ay (aC (bC (ae (bG) (ae (aa (xv 1)) (ae (ak aM aq (aa (xv 1)) (ak bd bf (ak bB cq (aa (xv 0)) (ai)) (aB (mL (ae (ai) (ae (ai) (ae (ak nY n6 (ai) (ai)) (aj))))) (ak bd bf (ak bB cq (aa (xv 0)) (ai)) (ai)) (fun _ _=>rfl)))) (aj)))))))) (aO)) (ao (bM (aR (bY hr.units) aq (ak bd bf (aa (xv 0)) (ai)) (ai) (bc _)) (ao (aF (i:=1) nQ.nd rfl ‹1› (ak eY fg (ak bd bf (ak bB cq (aa (xv 0)) (ai)) (ai)) (ai))) (ay (aC (bC (ae (bG) (ae (aa (xv 1)) (ae (ak aM aq (aa (xv 1)) (ak bd bf (ak bB cq (aa (xv 0)) (ai)) (ai))) (aj)))))))) (aO)) (ay (aC (bC (ae (bG) (ae (au cD aI hr ‹0› (ae (ak bB cq (aa (xv 0)) (ai)) (aj))) (aj))))))))⟩
theorem uq {f:Su} (bu:Callee P w K mg base 1 "_law_draw" ["_law_cell","_law_j"] (aP bh 2 3)) (ce:mg "range"=none):bU P w K mg base 1 ["_law_cell","_law_many","_law_letters","_law_base","_law_long","_law_at","_law_step","_law_names_here","_law_k","_law_sign"] "_law_names" iZ f dt :=
 ⟨fun cdv A outer s H E hr hp=>(ao (aF (i:=2) ub.nd rfl ‹1› (bG)) (ao (by first | exact nO (i:=3) ub.nd rfl ‹1› (N:=["_law_k","_law_letters","_law_cell"]) (ix:=[none,some 2,some 0]) rfl (.of rfl) (bz rfl) (dh rfl ce (ae (ai) (aj))) ⟨fun _ _ _ _ _ _=>⟨aS (i:=0) HL rfl (Or.inl rfl),cp,aB (aa (xv 1)) (ak bd bf (au bu aI hr ‹0› (ae (aa (xv 2)) (ae (aa (xv 0)) (aj)))) (ai)) (fun _ _=>rfl)⟩⟩ | exact aF (i:=3) ub.nd rfl ‹1› (cR (N:=["_law_k","_law_letters","_law_cell"]) (ix:=[none,some 2,some 0]) rfl (.of rfl) (bz rfl) (dh rfl ce (ae (ai) (aj))) ⟨fun _ _ _ _ _ _=>⟨aS (i:=0) HL rfl (Or.inl rfl),cp,aB (aa (xv 1)) (ak bd bf (au bu aI hr ‹0› (ae (aa (xv 2)) (ae (aa (xv 0)) (aj)))) (ai)) (fun _ _=>rfl)⟩⟩)) (ao (bM (uw (fS (aR (bY hr.units) aq (ak bd bf (ak bB cq (aa (xv 0)) (ai)) (ai)) (ai) (bc _)) (e7 (aR (iL hr.units) aq (aa (xv 1)) (ai) (bc _))))) (ay (aC (cR (N:=["_law_k","_law_base"]) (ix:=[none,some 3]) rfl (.of rfl) (bz rfl) (dh rfl ce (ae (aa (xv 1)) (aj))) ⟨fun _ _ _ _ _ _=>⟨aS (i:=0) KW rfl (Or.inl rfl),cp,oR (bG) (ae (bg (aa (xv 1)) (bN) (bj (ak aM aq (aa (xv 0)) (ai)))) (aj))⟩⟩))) (aO)) (ao (aF (i:=4) ub.nd rfl ‹1› (ak aM aq (ai) (ak bd bf (aa (xv 0)) (ai)))) (ao (aF (i:=5) ub.nd rfl ‹1› (ak bd bf (ak bB cq (aa (xv 0)) (ai)) (aa (xv 4)))) (ao (aF (i:=6) ub.nd rfl ‹1› (aB (mL (ae (ai) (ae (ai) (ae (ai) (ae (ai) (ae (ai) (ae (ai) (aj)))))))) (ak bd bf (au bu aI hr ‹0› (ae (aa (xv 0)) (ae (ai) (aj)))) (ai)) (fun _ _=>rfl))) (ao (mU (i:=7) ub.nd rfl ‹1› (oE (aj))) (ao (mP hp rfl (dh rfl ce (ae (aa (xv 1)) (aj))) (aS (i:=8) ub.nd rfl ‹1›) (ao (aF (i:=9) ub.nd rfl ‹1› (aB (aa (xv 2)) (ak bd bf (ak aM aq (ak bB cq (aa (xv 0)) (ai)) (ak jd ji (aa (xv 8)) (aa (xv 6)))) (ai)) (fun _ _=>rfl))) (ao (qb Sl Sn jR mK (xv 7) (ae (ak aM aq (ak aM aq (oR (bG) (ae (bg (aa (xv 3)) (bN) (bj (aa (xv 5)))) (aj))) (aa (xv 9))) (oR (bG) (ae (bg (aa (xv 3)) (bj (ak aM aq (aa (xv 5)) (ai))) (bj (aa (xv 4)))) (aj)))) (aj))) (dZ [8,9] aO)))) (jO 7 (ay (aC (aa (xv 7)))))))))))))⟩
theorem ur {f:Su} (fw:Callee P w K mg base 2 "_law_names" ["_law_cell","_law_many"] (aP dt 2 10)) (cD:Callee P w K mg base 2 "_law_words" ["_law_cell"] (aP cj 1 7)):bU P w K mg base 2 ["_law_cell","_law_names_here","_law_low","_law_key"] "_law_inner" i7 f gr :=
 ⟨fun cdv A outer s H E hr hp=>(ao (aF (i:=1) tZ.nd rfl ‹1› (au fw aI hr ‹0› (ae (aa (xv 0)) (ae (ai) (aj))))) (ao (aF (i:=2) tZ.nd rfl ‹1› (ak eY fg (ak bd bf (ak bB cq (aa (xv 0)) (ai)) (ai)) (ai))) (ao (aF (i:=3) tZ.nd rfl ‹1› (bC (ae (bC (ae (aB (aa (xv 1)) (ai) (fun _ _=>rfl)) (ae (bC (ae (bG) (ae (aa (xv 2)) (ae (ak aM aq (aa (xv 2)) (ak bd bf (ak bB cq (aa (xv 0)) (ai)) (ai))) (aj))))) (aj)))) (aj)))) (ao (bM (aR (bY hr.units) aq (ak bd bf (aa (xv 0)) (ai)) (ai) (bc _)) (ay (aC (bC (ae (aa (xv 3)) (ae (bC (aj)) (aj)))))) (aO)) (ay (aC (bC (ae (aa (xv 3)) (ae (bC (ae (bC (ae (aB (aa (xv 1)) (ai) (fun _ _=>rfl)) (ae (bC (ae (bG) (ae (au cD aI hr ‹0› (ae (ak bB cq (aa (xv 0)) (ai)) (aj))) (aj)))) (aj)))) (aj))) (aj))))))))))⟩
theorem v6 {f:Su} (j8:Callee P w K mg base 3 "_law_inner" ["_law_cell"] (aP gr 1 4)) (cD:Callee P w K mg base 2 "_law_words" ["_law_cell"] (aP cj 1 7)):bU P w K mg base 3 ["_law_cell","_law_deep","_law_some","_law_low"] "_law_kind" jE f cQ :=
 ⟨fun cdv A outer s H E hr hp=>(ao (aF (i:=2) vX.nd rfl ‹1› (ak bB cq (aa (xv 0)) (ai))) (ao (bM (aR (iL hr.units) aq (ak bd bf (aa (xv 0)) (ai)) (ai) (bc _)) (ao (aF (i:=3) vX.nd rfl ‹1› (ak eY fg (ak bd bf (aa (xv 2)) (ai)) (ai))) (ay (aC (bC (ae (bG) (ae (aa (xv 3)) (ae (ak aM aq (aa (xv 3)) (ak bd bf (ak bB cq (aa (xv 2)) (ai)) (ai))) (aj)))))))) (aO)) (ao (bM (aR (bY hr.units) aq (ak bd bf (aa (xv 0)) (ai)) (ai) (bc _)) (ao (aF (i:=3) vX.nd rfl ‹1› (ak eY fg (ak bd bf (aa (xv 2)) (ak jd ji (ai) (ak nY n6 (ai) (ai)))) (ak nY n6 (ai) (ai)))) (ay (aC (bC (ae (bG) (ae (aa (xv 3)) (ae (ak aM aq (aa (xv 3)) (ak bd bf (ak bB cq (aa (xv 2)) (ai)) (ak nY n6 (ai) (ai)))) (aj)))))))) (aO)) (ao (bM (uw (fS (aR (bY hr.units) aq (ak bd bf (aa (xv 0)) (ai)) (ai) (bc _)) (e7 (bI (aa (xv 1)))))) (ay (aC (bC (ae (bG) (ae (au j8 aI hr ‹0› (ae (aa (xv 2)) (aj))) (ae (eU (bY hr.units) aq (ak bd bf (aa (xv 2)) (ai)) (ai) (bc _)) (aj))))))) (aO)) (ay (aC (bC (ae (bG) (ae (au cD aI hr ‹0› (ae (aa (xv 2)) (aj))) (aj))))))))))⟩
theorem vK {f:Su} (cC:Callee P w K mg base 1 "_law_cell_at" ["_law_script","_law_k"] (aP bW 2 2)) (lu:Callee P w K mg base 4 "_law_kind" ["_law_cell","_law_deep"] (aP cQ 2 4)) (bu:Callee P w K mg base 1 "_law_draw" ["_law_cell","_law_j"] (aP bh 2 3)) (gH:Callee P w K mg base 3 "_law_plain_kind" ["_law_cell"] (aP dg 1 2)) (ce:mg "range"=none) (aH:mg "tuple"=none):bU P w K mg base 4 ["_law_script","_law_names_here","_law_cell","_law_many","_law_rest","_law_at","_law_fields","_law_k"] "_law_form" jG f iA :=
 ⟨fun cdv A outer s H E hr hp=>(ao (aF (i:=2) wM.nd rfl ‹1› (au cC aI hr ‹0› (ae (aa (xv 0)) (ae (ai) (aj))))) (ao (aF (i:=3) wM.nd rfl ‹1› (ak aM aq (ai) (ak bd bf (aa (xv 2)) (ai)))) (ao (aF (i:=4) wM.nd rfl ‹1› (ak bd bf (ak bB cq (aa (xv 2)) (ai)) (ai))) (ao (bM (aR (bY hr.units) aq (ak bd bf (ak bB cq (aa (xv 2)) (ai)) (ai)) (ai) (bc _)) (ao (aF (i:=3) wM.nd rfl ‹1› (ak aM aq (ai) (ak bd bf (ak bB cq (aa (xv 2)) (ai)) (ai)))) (ay (aF (i:=4) wM.nd rfl ‹1› (ak bd bf (ak bB cq (aa (xv 2)) (ai)) (ai))))) (aO)) (ao (aF (i:=5) wM.nd rfl ‹1› (ak bd bf (au cC aI hr ‹0› (ae (aa (xv 0)) (ae (ai) (aj)))) (ak aM aq (aa (xv 3)) (aa (xv 4))))) (ao (mU (i:=6) wM.nd rfl ‹1› (oE (aj))) (dZ [2] (ao (mP hp rfl (dh rfl ce (ae (ak aM aq (aa (xv 3)) (aa (xv 4))) (aj))) (aS (i:=7) wM.nd rfl ‹1›) (ao (qb Sl Sn jR mK (xv 6) (ae (bC (ae (aB (aa (xv 1)) (aa (xv 7)) (fun _ _=>rfl)) (ae (au lu aI hr ‹0› (ae (au bu aI hr ‹0› (ae (au cC aI hr ‹0› (ae (aa (xv 0)) (ae (ai) (aj)))) (ae (aa (xv 7)) (aj)))) (ae (eU HH dJ (aa (xv 7)) (aa (xv 3)) (bc _)) (aj)))) (aj)))) (aj))) (dZ [7] aO))) (ao (yD (xv 6) (aa (xv 5)) (bC (ae (aB (aa (xv 1)) (aa (xv 5)) (fun _ _=>rfl)) (ae (au gH aI hr ‹0› (ae (au bu aI hr ‹0› (ae (au cC aI hr ‹0› (ae (aa (xv 0)) (ae (ai) (aj)))) (ae (ai) (aj)))) (aj))) (aj))))) (jO 6 (ay (aC (bC (ae (bC (ae (bA bQ rfl aH R5 (ae (bg (aa (xv 6)) (bN) (bj (aa (xv 3)))) (aj))) (ae (bA bQ rfl aH R5 (ae (bg (aa (xv 6)) (bj (aa (xv 3))) (bN)) (aj))) (aj)))) (ae (aa (xv 5)) (aj))))))))))))))))⟩
theorem Jm {f:Su} {fd:Th} (F:wK K "law" "law" rZ f fd) (fw:Callee P w K mg base 2 "_law_names" ["_law_cell","_law_many"] (aP dt 2 10)) (cC:Callee P w K mg base 1 "_law_cell_at" ["_law_script","_law_k"] (aP bW 2 2)) (lF:Callee P w K mg base 5 "_law_form" ["_law_script","_law_names_here"] (aP iA 2 8)) (gn:Callee P w K mg base 3 "_law_shown_kind" ["_law_kind_here","_law_cell"] (aP dL 2 4)) (bu:Callee P w K mg base 1 "_law_draw" ["_law_cell","_law_j"] (aP bh 2 3)) (lS:Callee P w K mg base 1 "_law_both" ["_law_one","_law_other"] (aP iz 2 2)) (me:Callee P w K mg base 13 "_law_told" ["_law_step","_law_name","_law_kind_here"] (aP eX 3 4)) (gI:Callee P w K mg base 15 "_law_right" ["_law_step","_law_form_here","_law_at","_law_inner_here","_law_cells"] (aP dq 5 12)) (jN:Callee P w K mg base 1 "_law_turned" ["_law_form_here","_law_at"] (aP fJ 2 3)) (wF:tL P w K mg base 1 "Sieve" ["self","name","kind"] ["name","kind"]):js P w K mg base (nh P w) 16 f fd ["_law_script"] (Df K 1 (aP sS 1 10)) :=
 wZ (k:=15) F Ig (bU.ok ⟨fun cdv A outer s H E hr hp=>(ao (aF (i:=1) Ig.nd rfl ‹1› (au fw aI hr ‹0› (ae (au cC aI hr ‹0› (ae (aa (xv 0)) (ae (ai) (aj)))) (ae (ai) (aj))))) (ao (Hc (au lF aI hr ‹0› (ae (aa (xv 0)) (ae (aa (xv 1)) (aj)))) (mO (g:=uy [2,3]) rfl (dI (aS (i:=2) Ig.nd rfl ‹1›) (dI (aS (i:=3) Ig.nd rfl ‹1›) (jX))))) (ao (aF (i:=4) Ig.nd rfl ‹1› (aB (aB (ak aM aq (aB (aa (xv 2)) (ai) (fun _ _=>rfl)) (aB (aa (xv 2)) (ai) (fun _ _=>rfl))) (aa (xv 3)) (fun _ _=>rfl)) (ai) (fun _ _=>rfl))) (ao (aF (i:=5) Ig.nd rfl ‹1› (au gn aI hr ‹0› (ae (aa (xv 4)) (ae (au bu aI hr ‹0› (ae (au cC aI hr ‹0› (ae (aa (xv 0)) (ae (ai) (aj)))) (ae (ai) (aj)))) (aj))))) (ao (aF (i:=6) Ig.nd rfl ‹1› (au lS aI hr ‹0› (ae (aa (xv 4)) (ae (aa (xv 5)) (aj))))) (ao (bM (uw (jf (uw (fS (aR (bY hr.units) aq (aB (aa (xv 6)) (ai) (fun _ _=>rfl)) (bG) (bc _)) (e7 (aR yK dJ (aB (aa (xv 6)) (ai) (fun _ _=>rfl)) (aB (aa (xv 6)) (ai) (fun _ _=>rfl)) (bc _))))) (ib (aR (bY hr.units) aq (aa (xv 6)) (bC (ae (bG) (ae (bC (aj)) (aj)))) (bc _))))) (ao (aF (i:=5) Ig.nd rfl ‹1› (aa (xv 4))) (ay (aF (i:=6) Ig.nd rfl ‹1› (aa (xv 4))))) (aO)) (ao (aF (i:=7) Ig.nd rfl ‹1› (Fq wF hr ‹0› rfl (ae (aB (aa (xv 1)) (aa (xv 3)) (fun _ _=>rfl)) (ae (aa (xv 5)) (aj))))) (ao (aF (i:=8) Ig.nd rfl ‹1› (bC (ae (A5 (aB (aa (xv 2)) (ai) (fun _ _=>rfl)) (Dp AJ zZ)) (ae (A5 (aB (aa (xv 2)) (ai) (fun _ _=>rfl)) (Dp AJ zZ)) (aj))))) (ao (aF (i:=9) Ig.nd rfl ‹1› (bg (aa (xv 0)) (bj (ai)) (bj (ai)))) (ao (bM (uw (jf (dM (bI (au me aI hr ‹0› (ae (aa (xv 7)) (ae (aB (aa (xv 1)) (aa (xv 3)) (fun _ _=>rfl)) (ae (aa (xv 5)) (aj))))))) (ib (dM (bI (au gI aI hr ‹0› (ae (aa (xv 7)) (ae (aa (xv 2)) (ae (aa (xv 3)) (ae (aa (xv 6)) (ae (aa (xv 9)) (aj)))))))))))) (ay (aC (iJ))) (aO)) (ao (bM (dM (bI (au gI aI hr ‹0› (ae (aa (xv 7)) (ae (aa (xv 8)) (ae (au jN aI hr ‹0› (ae (aa (xv 2)) (ae (aa (xv 3)) (aj)))) (ae (aa (xv 6)) (ae (aa (xv 9)) (aj))))))))) (ay (aC (iJ))) (aO)) (ay (aC (au gI aI hr ‹0› (ae (aa (xv 7)) (ae (aa (xv 2)) (ae (aa (xv 3)) (ae (aa (xv 6)) (ae (aa (xv 9)) (aj))))))))))))))))))))⟩)
theorem zQ {C f:Su} {fd:Th} (h1:clsAt K "Sieve" C) (hM:Mk K C f) (cl:AG K C) (na:∀ g∈(["name","kind"]:List Str),kc K C g) (F:wK K "__init__" "Sieve.__init__" fm f fd) (b:Binds K fd ["self","name","kind"] []) (hmg:mg "Sieve"=some (.ref C)):tL P w K mg base 1 "Sieve" ["self","name","kind"] ["name","kind"] :=
 C9 (k:=0) h1 hM cl na F b hmg pL rfl (by decide +kernel) (by decide) fun cdv A outer s H E=>(Ao rfl (pv 0) (pv 1) rfl (Cd rfl (pv 0) (pv 2) rfl))
end
theorem wg {us:List Sq} (h:us.length=1):∃ u0,us=[u0]:=match us,h with | [u0],_=>⟨u0,rfl⟩
theorem fI {us:List Sq} (h:us.length=2):∃ u0 u1,us=[u0,u1]:=match us,h with | [u0,u1],_=>⟨u0,u1,rfl⟩
theorem zr {us:List Sq} (h:us.length=3):∃ u0 u1 u2,us=[u0,u1,u2]:=match us,h with | [u0,u1,u2],_=>⟨u0,u1,u2,rfl⟩
theorem KI {us:List Sq} (h:us.length=4):∃ u0 u1 u2 u3,us=[u0,u1,u2,u3]:=match us,h with | [u0,u1,u2,u3],_=>⟨u0,u1,u2,u3,rfl⟩
theorem HQ {us:List Sq} (h:us.length=5):∃ u0 u1 u2 u3 u4,us=[u0,u1,u2,u3,u4]:=match us,h with | [u0,u1,u2,u3,u4],_=>⟨u0,u1,u2,u3,u4,rfl⟩
theorem all_mk {l:RF} {w:Sr} {K:Rf} {h:Sw} {mg:Str->Option Sq} {fa:Su} (X:K.In h) (G:h.Ns Sz mg) (hfa:mg "law"=some (.ref fa)) {f0 f1 f2 f3 f4 f5 f6 f7 f8 f9 f10 f11 f12 f13 f14 f15 f16 f17 f18 f19 f20 f21 f22 f23 f24 f25 f26 f27 f28 f29 f30 f31 f32 f33 f34 f35 f36 f37 f38 f39 f40 f41 f42 f43 f44 f45 f46 f47 f48 f49 f50 f51 f52 f53 f54 Cl0 Cl1:Su} {od0 an0 od1 an1 od2 an2 od3 an3 od4 an4 od5 an5 od6 an6 od7 an7 od8 an8 od9 an9 od10 an10 od11 an11 od12 an12 od13 an13 od14 an14 od15 an15 od16 an16 od17 an17 od18 an18 od19 an19 od20 an20 od21 an21 od22 an22 od23 an23 od24 an24 od25 an25 od26 an26 od27 an27 od28 an28 od29 an29 od30 an30 od31 an31 od32 an32 od33 an33 od34 an34 od35 an35 od36 an36 od37 an37 od38 an38 od39 an39 od40 an40 od41 an41 od42 an42 od43 an43 od44 an44 od45 an45 od46 an46 od47 an47 od48 an48 od49 an49 od50 an50 od51 an51 od52 an52 od53 an53 od54 an54:Option Su} {sl0 sl1 sl2 sl3 sl4 sl5 sl6 sl7 sl8 sl9 sl10 sl11 sl12 sl13 sl14 sl15 sl16 sl17 sl18 sl19 sl20 sl21 sl22 sl23 sl24 sl25 sl26 sl27 sl28 sl29 sl30 sl31 sl32 sl33 sl34 sl35 sl36 sl37 sl38 sl39 sl40 sl41 sl42 sl43 sl44 sl45 sl46 sl47 sl48 sl49 sl50 sl51 sl52 sl53 sl54:Array (Option Sq)} {oc0 kV0 dc0 pm0 cd0 ct0 oc1 kV1 dc1 pm1 cd1 ct1 oc2 kV2 dc2 pm2 cd2 ct2 oc3 kV3 dc3 pm3 cd3 ct3 oc4 kV4 dc4 pm4 cd4 ct4 oc5 kV5 dc5 pm5 cd5 ct5 oc6 kV6 dc6 pm6 cd6 ct6 oc7 kV7 dc7 pm7 cd7 ct7 oc8 kV8 dc8 pm8 cd8 ct8 oc9 kV9 dc9 pm9 cd9 ct9 oc10 kV10 dc10 pm10 cd10 ct10 oc11 kV11 dc11 pm11 cd11 ct11 oc12 kV12 dc12 pm12 cd12 ct12 oc13 kV13 dc13 pm13 cd13 ct13 oc14 kV14 dc14 pm14 cd14 ct14 oc15 kV15 dc15 pm15 cd15 ct15 oc16 kV16 dc16 pm16 cd16 ct16 oc17 kV17 dc17 pm17 cd17 ct17 oc18 kV18 dc18 pm18 cd18 ct18 oc19 kV19 dc19 pm19 cd19 ct19 oc20 kV20 dc20 pm20 cd20 ct20 oc21 kV21 dc21 pm21 cd21 ct21 oc22 kV22 dc22 pm22 cd22 ct22 oc23 kV23 dc23 pm23 cd23 ct23 oc24 kV24 dc24 pm24 cd24 ct24 oc25 kV25 dc25 pm25 cd25 ct25 oc26 kV26 dc26 pm26 cd26 ct26 oc27 kV27 dc27 pm27 cd27 ct27 oc28 kV28 dc28 pm28 cd28 ct28 oc29 kV29 dc29 pm29 cd29 ct29 oc30 kV30 dc30 pm30 cd30 ct30 oc31 kV31 dc31 pm31 cd31 ct31 oc32 kV32 dc32 pm32 cd32 ct32 oc33 kV33 dc33 pm33 cd33 ct33 oc34 kV34 dc34 pm34 cd34 ct34 oc35 kV35 dc35 pm35 cd35 ct35 oc36 kV36 dc36 pm36 cd36 ct36 oc37 kV37 dc37 pm37 cd37 ct37 oc38 kV38 dc38 pm38 cd38 ct38 oc39 kV39 dc39 pm39 cd39 ct39 oc40 kV40 dc40 pm40 cd40 ct40 oc41 kV41 dc41 pm41 cd41 ct41 oc42 kV42 dc42 pm42 cd42 ct42 oc43 kV43 dc43 pm43 cd43 ct43 oc44 kV44 dc44 pm44 cd44 ct44 oc45 kV45 dc45 pm45 cd45 ct45 oc46 kV46 dc46 pm46 cd46 ct46 oc47 kV47 dc47 pm47 cd47 ct47 oc48 kV48 dc48 pm48 cd48 ct48 oc49 kV49 dc49 pm49 cd49 ct49 oc50 kV50 dc50 pm50 cd50 ct50 oc51 kV51 dc51 pm51 cd51 ct51 oc52 kV52 dc52 pm52 cd52 ct52 oc53 kV53 dc53 pm53 cd53 ct53 oc54 kV54 dc54 pm54 cd54 ct54:Sq} {cL T:Su}
  (ac0:Ry K Sz "Sieve"=some (some (.ref Cl0)))
  (ac1:Ry K Sz "Step"=some (some (.ref Cl1)))
  (a0:Ry K Sz "_law_alike"=some (some (.ref f0)))
  (l0:Lk K f0 "_law_alike" "_law_alike" gB oc0 od0 kV0 dc0 pm0 an0 cd0 ct0 sl0)
  (c0:Rx K cd0 "_law_alike"=true)
  (k0:Rt K (.ref f0)=true)
  (a1:Rj K (.ref Cl1) "put"=some (some (.ref f1)))
  (i1:Rn K (.ref f1)=true)
  (l1:Lk K f1 "put" "Step.put" kN oc1 od1 kV1 dc1 pm1 an1 cd1 ct1 sl1)
  (c1:Rx K cd1 "Step.put"=true)
  (k1:Rt K (.ref f1)=true)
  (a2:Ry K Sz "sorted_by"=some (some (.ref f2)))
  (l2:Lk K f2 "sorted_by" "sorted_by" jw oc2 od2 kV2 dc2 pm2 an2 cd2 ct2 sl2)
  (c2:Rx K cd2 "sorted_by"=true)
  (k2:Rt K (.ref f2)=true)
  (a3:Ry K Sz "by_key"=some (some (.ref f3)))
  (l3:Lk K f3 "by_key" "by_key" pH oc3 od3 kV3 dc3 pm3 an3 cd3 ct3 sl3)
  (c3:Rx K cd3 "by_key"=true)
  (k3:Rt K (.ref f3)=true)
  (a4:Ry K Sz "standing"=some (some (.ref f4)))
  (l4:Lk K f4 "standing" "standing" j5 oc4 od4 kV4 dc4 pm4 an4 cd4 ct4 sl4)
  (c4:Rx K cd4 "standing"=true)
  (k4:Rt K (.ref f4)=true)
  (a5:Ry K Sz "is_whole"=some (some (.ref f5)))
  (l5:Lk K f5 "is_whole" "is_whole" ki oc5 od5 kV5 dc5 pm5 an5 cd5 ct5 sl5)
  (c5:Rx K cd5 "is_whole"=true)
  (k5:Rt K (.ref f5)=true)
  (a6:Ry K Sz "has_parts"=some (some (.ref f6)))
  (l6:Lk K f6 "has_parts" "has_parts" jC oc6 od6 kV6 dc6 pm6 an6 cd6 ct6 sl6)
  (c6:Rx K cd6 "has_parts"=true)
  (k6:Rt K (.ref f6)=true)
  (a7:Ry K Sz "keys_rise"=some (some (.ref f7)))
  (l7:Lk K f7 "keys_rise" "keys_rise" jB oc7 od7 kV7 dc7 pm7 an7 cd7 ct7 sl7)
  (c7:Rx K cd7 "keys_rise"=true)
  (k7:Rt K (.ref f7)=true)
  (a8:Ry K Sz "kinds_of"=some (some (.ref f8)))
  (l8:Lk K f8 "kinds_of" "kinds_of" kx oc8 od8 kV8 dc8 pm8 an8 cd8 ct8 sl8)
  (c8:Rx K cd8 "kinds_of"=true)
  (k8:Rt K (.ref f8)=true)
  (a9:Ry K Sz "fits"=some (some (.ref f9)))
  (l9:Lk K f9 "fits" "fits" rK oc9 od9 kV9 dc9 pm9 an9 cd9 ct9 sl9)
  (c9:Rx K cd9 "fits"=true)
  (k9:Rt K (.ref f9)=true)
  (a10:Ry K Sz "keeps"=some (some (.ref f10)))
  (l10:Lk K f10 "keeps" "keeps" og oc10 od10 kV10 dc10 pm10 an10 cd10 ct10 sl10)
  (c10:Rx K cd10 "keeps"=true)
  (k10:Rt K (.ref f10)=true)
  (a11:Ry K Sz "is_row"=some (some (.ref f11)))
  (l11:Lk K f11 "is_row" "is_row" lE oc11 od11 kV11 dc11 pm11 an11 cd11 ct11 sl11)
  (c11:Rx K cd11 "is_row"=true)
  (k11:Rt K (.ref f11)=true)
  (a12:Ry K Sz "names_of"=some (some (.ref f12)))
  (l12:Lk K f12 "names_of" "names_of" kG oc12 od12 kV12 dc12 pm12 an12 cd12 ct12 sl12)
  (c12:Rx K cd12 "names_of"=true)
  (k12:Rt K (.ref f12)=true)
  (a13:Ry K Sz "place_of"=some (some (.ref f13)))
  (l13:Lk K f13 "place_of" "place_of" kC oc13 od13 kV13 dc13 pm13 an13 cd13 ct13 sl13)
  (c13:Rx K cd13 "place_of"=true)
  (k13:Rt K (.ref f13)=true)
  (a14:Rj K (.ref Cl0) "put"=some (some (.ref f14)))
  (i14:Rn K (.ref f14)=true)
  (l14:Lk K f14 "put" "Sieve.put" jA oc14 od14 kV14 dc14 pm14 an14 cd14 ct14 sl14)
  (c14:Rx K cd14 "Sieve.put"=true)
  (k14:Rt K (.ref f14)=true)
  (a15:Ry K Sz "_law_merged"=some (some (.ref f15)))
  (l15:Lk K f15 "_law_merged" "_law_merged" ic oc15 od15 kV15 dc15 pm15 an15 cd15 ct15 sl15)
  (c15:Rx K cd15 "_law_merged"=true)
  (k15:Rt K (.ref f15)=true)
  (a16:Ry K Sz "_law_is_of"=some (some (.ref f16)))
  (l16:Lk K f16 "_law_is_of" "_law_is_of" iT oc16 od16 kV16 dc16 pm16 an16 cd16 ct16 sl16)
  (c16:Rx K cd16 "_law_is_of"=true)
  (k16:Rt K (.ref f16)=true)
  (a17:Ry K Sz "_law_put"=some (some (.ref f17)))
  (l17:Lk K f17 "_law_put" "_law_put" kD oc17 od17 kV17 dc17 pm17 an17 cd17 ct17 sl17)
  (c17:Rx K cd17 "_law_put"=true)
  (k17:Rt K (.ref f17)=true)
  (a18:Rj K (.ref Cl1) "got"=some (some (.ref f18)))
  (i18:Rn K (.ref f18)=true)
  (l18:Lk K f18 "got" "Step.got" ko oc18 od18 kV18 dc18 pm18 an18 cd18 ct18 sl18)
  (c18:Rx K cd18 "Step.got"=true)
  (k18:Rt K (.ref f18)=true)
  (a19:Rj K (.ref Cl0) "got"=some (some (.ref f19)))
  (i19:Rn K (.ref f19)=true)
  (l19:Lk K f19 "got" "Sieve.got" jy oc19 od19 kV19 dc19 pm19 an19 cd19 ct19 sl19)
  (c19:Rx K cd19 "Sieve.got"=true)
  (k19:Rt K (.ref f19)=true)
  (a20:Rj K (.ref Cl1) "steady"=some (some (.ref f20)))
  (i20:Rn K (.ref f20)=true)
  (l20:Lk K f20 "steady" "Step.steady" iu oc20 od20 kV20 dc20 pm20 an20 cd20 ct20 sl20)
  (c20:Rx K cd20 "Step.steady"=true)
  (k20:Rt K (.ref f20)=true)
  (a21:Ry K Sz "in_key"=some (some (.ref f21)))
  (l21:Lk K f21 "in_key" "in_key" ox oc21 od21 kV21 dc21 pm21 an21 cd21 ct21 sl21)
  (c21:Rx K cd21 "in_key"=true)
  (k21:Rt K (.ref f21)=true)
  (a22:Ry K Sz "both_words"=some (some (.ref f22)))
  (l22:Lk K f22 "both_words" "both_words" iU oc22 od22 kV22 dc22 pm22 an22 cd22 ct22 sl22)
  (c22:Rx K cd22 "both_words"=true)
  (k22:Rt K (.ref f22)=true)
  (a23:Ry K Sz "both_numbers"=some (some (.ref f23)))
  (l23:Lk K f23 "both_numbers" "both_numbers" gh oc23 od23 kV23 dc23 pm23 an23 cd23 ct23 sl23)
  (c23:Rx K cd23 "both_numbers"=true)
  (k23:Rt K (.ref f23)=true)
  (a24:Ry K Sz "both"=some (some (.ref f24)))
  (l24:Lk K f24 "both" "both" xV oc24 od24 kV24 dc24 pm24 an24 cd24 ct24 sl24)
  (c24:Rx K cd24 "both"=true)
  (k24:Rt K (.ref f24)=true)
  (a25:Ry K Sz "kind_at"=some (some (.ref f25)))
  (l25:Lk K f25 "kind_at" "kind_at" mF oc25 od25 kV25 dc25 pm25 an25 cd25 ct25 sl25)
  (c25:Rx K cd25 "kind_at"=true)
  (k25:Rt K (.ref f25)=true)
  (a26:Rj K (.ref Cl0) "exact"=some (some (.ref f26)))
  (i26:Rn K (.ref f26)=true)
  (l26:Lk K f26 "exact" "Sieve.exact" ig oc26 od26 kV26 dc26 pm26 an26 cd26 ct26 sl26)
  (c26:Rx K cd26 "Sieve.exact"=true)
  (k26:Rt K (.ref f26)=true)
  (a27:Rj K (.ref Cl0) "steady"=some (some (.ref f27)))
  (i27:Rn K (.ref f27)=true)
  (l27:Lk K f27 "steady" "Sieve.steady" gm oc27 od27 kV27 dc27 pm27 an27 cd27 ct27 sl27)
  (c27:Rx K cd27 "Sieve.steady"=true)
  (k27:Rt K (.ref f27)=true)
  (a28:Rj K (.ref Cl1) "exact"=some (some (.ref f28)))
  (i28:Rn K (.ref f28)=true)
  (l28:Lk K f28 "exact" "Step.exact" iS oc28 od28 kV28 dc28 pm28 an28 cd28 ct28 sl28)
  (c28:Rx K cd28 "Step.exact"=true)
  (k28:Rt K (.ref f28)=true)
  (a29:Rj K (.ref Cl1) "view_form"=some (some (.ref f29)))
  (i29:Rn K (.ref f29)=true)
  (l29:Lk K f29 "view_form" "Step.view_form" fz oc29 od29 kV29 dc29 pm29 an29 cd29 ct29 sl29)
  (c29:Rx K cd29 "Step.view_form"=true)
  (k29:Rt K (.ref f29)=true)
  (a30:Ry K Sz "replaced"=some (some (.ref f30)))
  (l30:Lk K f30 "replaced" "replaced" kn oc30 od30 kV30 dc30 pm30 an30 cd30 ct30 sl30)
  (c30:Rx K cd30 "replaced"=true)
  (k30:Rt K (.ref f30)=true)
  (a31:Ry K Sz "with_fields"=some (some (.ref f31)))
  (l31:Lk K f31 "with_fields" "with_fields" ip oc31 od31 kV31 dc31 pm31 an31 cd31 ct31 sl31)
  (c31:Rx K cd31 "with_fields"=true)
  (k31:Rt K (.ref f31)=true)
  (a32:Rj K (.ref Cl0) "view_form"=some (some (.ref f32)))
  (i32:Rn K (.ref f32)=true)
  (l32:Lk K f32 "view_form" "Sieve.view_form" eS oc32 od32 kV32 dc32 pm32 an32 cd32 ct32 sl32)
  (c32:Rx K cd32 "Sieve.view_form"=true)
  (k32:Rt K (.ref f32)=true)
  (a33:Ry K Sz "_law_draw"=some (some (.ref f33)))
  (l33:Lk K f33 "_law_draw" "_law_draw" jI oc33 od33 kV33 dc33 pm33 an33 cd33 ct33 sl33)
  (c33:Rx K cd33 "_law_draw"=true)
  (k33:Rt K (.ref f33)=true)
  (a34:Ry K Sz "_law_value"=some (some (.ref f34)))
  (l34:Lk K f34 "_law_value" "_law_value" gC oc34 od34 kV34 dc34 pm34 an34 cd34 ct34 sl34)
  (c34:Rx K cd34 "_law_value"=true)
  (k34:Rt K (.ref f34)=true)
  (a35:Ry K Sz "_law_table"=some (some (.ref f35)))
  (l35:Lk K f35 "_law_table" "_law_table" gu oc35 od35 kV35 dc35 pm35 an35 cd35 ct35 sl35)
  (c35:Rx K cd35 "_law_table"=true)
  (k35:Rt K (.ref f35)=true)
  (a36:Ry K Sz "_law_view"=some (some (.ref f36)))
  (l36:Lk K f36 "_law_view" "_law_view" jF oc36 od36 kV36 dc36 pm36 an36 cd36 ct36 sl36)
  (c36:Rx K cd36 "_law_view"=true)
  (k36:Rt K (.ref f36)=true)
  (a37:Ry K Sz "_law_with"=some (some (.ref f37)))
  (l37:Lk K f37 "_law_with" "_law_with" jH oc37 od37 kV37 dc37 pm37 an37 cd37 ct37 sl37)
  (c37:Rx K cd37 "_law_with"=true)
  (k37:Rt K (.ref f37)=true)
  (a38:Ry K Sz "_law_right"=some (some (.ref f38)))
  (l38:Lk K f38 "_law_right" "_law_right" i5 oc38 od38 kV38 dc38 pm38 an38 cd38 ct38 sl38)
  (c38:Rx K cd38 "_law_right"=true)
  (k38:Rt K (.ref f38)=true)
  (a39:Ry K Sz "_law_turned"=some (some (.ref f39)))
  (l39:Lk K f39 "_law_turned" "_law_turned" ii oc39 od39 kV39 dc39 pm39 an39 cd39 ct39 sl39)
  (c39:Rx K cd39 "_law_turned"=true)
  (k39:Rt K (.ref f39)=true)
  (a40:Rj K (.ref Cl1) "words"=some (some (.ref f40)))
  (i40:Rn K (.ref f40)=true)
  (l40:Lk K f40 "words" "Step.words" iQ oc40 od40 kV40 dc40 pm40 an40 cd40 ct40 sl40)
  (c40:Rx K cd40 "Step.words"=true)
  (k40:Rt K (.ref f40)=true)
  (a41:Ry K Sz "written"=some (some (.ref f41)))
  (l41:Lk K f41 "written" "written" mt oc41 od41 kV41 dc41 pm41 an41 cd41 ct41 sl41)
  (c41:Rx K cd41 "written"=true)
  (k41:Rt K (.ref f41)=true)
  (a42:Rj K (.ref Cl0) "words"=some (some (.ref f42)))
  (i42:Rn K (.ref f42)=true)
  (l42:Lk K f42 "words" "Sieve.words" ia oc42 od42 kV42 dc42 pm42 an42 cd42 ct42 sl42)
  (c42:Rx K cd42 "Sieve.words"=true)
  (k42:Rt K (.ref f42)=true)
  (a43:Ry K Sz "_law_told"=some (some (.ref f43)))
  (l43:Lk K f43 "_law_told" "_law_told" jD oc43 od43 kV43 dc43 pm43 an43 cd43 ct43 sl43)
  (c43:Rx K cd43 "_law_told"=true)
  (k43:Rt K (.ref f43)=true)
  (a44:Ry K Sz "_law_both"=some (some (.ref f44)))
  (l44:Lk K f44 "_law_both" "_law_both" ju oc44 od44 kV44 dc44 pm44 an44 cd44 ct44 sl44)
  (c44:Rx K cd44 "_law_both"=true)
  (k44:Rt K (.ref f44)=true)
  (a45:Ry K Sz "_law_words"=some (some (.ref f45)))
  (l45:Lk K f45 "_law_words" "_law_words" iX oc45 od45 kV45 dc45 pm45 an45 cd45 ct45 sl45)
  (c45:Rx K cd45 "_law_words"=true)
  (k45:Rt K (.ref f45)=true)
  (a46:Ry K Sz "_law_shown_kind"=some (some (.ref f46)))
  (l46:Lk K f46 "_law_shown_kind" "_law_shown_kind" eQ oc46 od46 kV46 dc46 pm46 an46 cd46 ct46 sl46)
  (c46:Rx K cd46 "_law_shown_kind"=true)
  (k46:Rt K (.ref f46)=true)
  (a47:Ry K Sz "_law_cell_at"=some (some (.ref f47)))
  (l47:Lk K f47 "_law_cell_at" "_law_cell_at" gF oc47 od47 kV47 dc47 pm47 an47 cd47 ct47 sl47)
  (c47:Rx K cd47 "_law_cell_at"=true)
  (k47:Rt K (.ref f47)=true)
  (a48:Ry K Sz "_law_plain_kind"=some (some (.ref f48)))
  (l48:Lk K f48 "_law_plain_kind" "_law_plain_kind" eT oc48 od48 kV48 dc48 pm48 an48 cd48 ct48 sl48)
  (c48:Rx K cd48 "_law_plain_kind"=true)
  (k48:Rt K (.ref f48)=true)
  (a49:Ry K Sz "_law_names"=some (some (.ref f49)))
  (l49:Lk K f49 "_law_names" "_law_names" iZ oc49 od49 kV49 dc49 pm49 an49 cd49 ct49 sl49)
  (c49:Rx K cd49 "_law_names"=true)
  (k49:Rt K (.ref f49)=true)
  (a50:Ry K Sz "_law_inner"=some (some (.ref f50)))
  (l50:Lk K f50 "_law_inner" "_law_inner" i7 oc50 od50 kV50 dc50 pm50 an50 cd50 ct50 sl50)
  (c50:Rx K cd50 "_law_inner"=true)
  (k50:Rt K (.ref f50)=true)
  (a51:Ry K Sz "_law_kind"=some (some (.ref f51)))
  (l51:Lk K f51 "_law_kind" "_law_kind" jE oc51 od51 kV51 dc51 pm51 an51 cd51 ct51 sl51)
  (c51:Rx K cd51 "_law_kind"=true)
  (k51:Rt K (.ref f51)=true)
  (a52:Ry K Sz "_law_form"=some (some (.ref f52)))
  (l52:Lk K f52 "_law_form" "_law_form" jG oc52 od52 kV52 dc52 pm52 an52 cd52 ct52 sl52)
  (c52:Rx K cd52 "_law_form"=true)
  (k52:Rt K (.ref f52)=true)
  (a53:Ry K Sz "law"=some (some (.ref f53)))
  (l53:Lk K f53 "law" "law" rZ oc53 od53 kV53 dc53 pm53 an53 cd53 ct53 sl53)
  (c53:Rx K cd53 "law"=true)
  (k53:Rt K (.ref f53)=true)
  (a54:Rj K (.ref Cl0) "__init__"=some (some (.ref f54)))
  (i54:Rn K (.ref f54)=true)
  (l54:Lk K f54 "__init__" "Sieve.__init__" fm oc54 od54 kV54 dc54 pm54 an54 cd54 ct54 sl54)
  (c54:Rx K cd54 "Sieve.__init__"=true)
  (k54:Rt K (.ref f54)=true)
  (p0:Rh K Cl0 Str.empty=true)
  (q0:Ri K Cl0=true)
  (r0:Ro K Cl0=true)
  (s0:Rj K (.ref Cl0) "__setattr__"=some (some (.builtin "object.__setattr__")))
  (n0_0:Rj K (.ref Cl0) "name"=some none)
  (n0_1:Rj K (.ref Cl0) "kind"=some none)
  (m0:Rq K Cl0=true)
  (kp0:Rt K (.ref Cl0)=true)
  (p1:Rh K Cl1 Str.empty=true)
  (q1:Ri K Cl1=true)
  (r1:Ro K Cl1=true)
  (s1:Rj K (.ref Cl1) "__setattr__"=some (some (.builtin "object.__setattr__")))
  (y1_1:RB K (.ref Cl1) Cl1=true)
  (y1_0:RB K (.ref Cl0) Cl1=true)
  (z0:Ry K Sz "isinstance"=some none)
  (z1:Ry K Sz "tuple"=some none)
  (z2:Ry K Sz "len"=some none)
  (z3:Ry K Sz "all"=some none)
  (z4:Ry K Sz "zip"=some none)
  (z5:Ry K Sz "str"=some none)
  (z6:Ry K Sz "bool"=some none)
  (z7:Ry K Sz "int"=some none)
  (z8:Ry K Sz "sorted"=some none)
  (z9:Ry K Sz "dict"=some none)
  (z10:Ry K Sz "list"=some none)
  (z11:Ry K Sz "range"=some none)
  (z12:Ry K Sz "enumerate"=some none)
  (z13:Ry K Sz "max"=some none)
  (z14:Ry K Sz "min"=some none)
  (lc:cd2=.ref cL)
  (lh:RG K cL T=true)
  (lt:K.lookup T=none) :
  (∃ c,RG K c T=true)/\K.lookup T=none/\∃ fd:Th,(∀ (s:SF) (v:Sq),Ti s fd ⟨[v],[]⟩ [("_law_script",v)])/\∀ base:Sw,K.In base->base.Ns Sz mg->AR mg base->js l.prog w K mg base (nh l.prog w) 16 fa fd ["_law_script"] (@Df (wW T ⟨60,34,60,56⟩ ((("sorted_by":Str) ++ ".<locals>.") ++ "<lambda>")) K 1 (aP sS 1 10)):=by
 letI:bp:=wW T ⟨60,34,60,56⟩ ((("sorted_by":Str) ++ ".<locals>.") ++ "<lambda>")
 have e:=hfa.symm.trans (RH X G a53)
 cases e
 have aG:=RJ X G z0
 have aH:=RJ X G z1
 have bq:=RJ X G z2
 have gf:=RJ X G z3
 have iP:=RJ X G z4
 have eK:=RJ X G z5
 have je:=RJ X G z6
 have iF:=RJ X G z7
 have jY:=RJ X G z8
 have zN:=RJ X G z9
 have iK:=RJ X G z10
 have ce:=RJ X G z11
 have lM:=RJ X G z12
 have pK:=RJ X G z13
 have uY:=RJ X G z14
 have F0:=bx (st:=gB) l0 c0 k0
 have b0:=F0.binds (ps:=["_law_found","_law_due"]) fun _ _ _ _ _ _ us hl=>by obtain⟨u0,u1,rfl⟩:=fI hl; rfl
 have F1:=bx (st:=kN) l1 c1 k1
 have b1:=F1.binds (ps:=["self","form","table","view"]) fun _ _ _ _ _ _ us hl=>by obtain⟨u0,u1,u2,u3,rfl⟩:=KI hl; rfl
 have F2:=bx (st:=jw) l2 c2 k2
 have b2:=F2.binds (ps:=["many","rows"]) fun _ _ _ _ _ _ us hl=>by obtain⟨u0,u1,rfl⟩:=fI hl; rfl
 have F3:=bx (st:=pH) l3 c3 k3
 have b3:=F3.binds (ps:=["many","rows"]) fun _ _ _ _ _ _ us hl=>by obtain⟨u0,u1,rfl⟩:=fI hl; rfl
 have F4:=bx (st:=j5) l4 c4 k4
 have b4:=F4.binds (ps:=["many","rows","others"]) fun _ _ _ _ _ _ us hl=>by obtain⟨u0,u1,u2,rfl⟩:=zr hl; rfl
 have F5:=bx (st:=ki) l5 c5 k5
 have b5:=F5.binds (ps:=["value"]) fun _ _ _ _ _ _ us hl=>by obtain⟨u0,rfl⟩:=wg hl; rfl
 have F6:=bx (st:=jC) l6 c6 k6
 have b6:=F6.binds (ps:=["value","many"]) fun _ _ _ _ _ _ us hl=>by obtain⟨u0,u1,rfl⟩:=fI hl; rfl
 have F7:=bx (st:=jB) l7 c7 k7
 have b7:=F7.binds (ps:=["many","table"]) fun _ _ _ _ _ _ us hl=>by obtain⟨u0,u1,rfl⟩:=fI hl; rfl
 have F8:=bx (st:=kx) l8 c8 k8
 have b8:=F8.binds (ps:=["form"]) fun _ _ _ _ _ _ us hl=>by obtain⟨u0,rfl⟩:=wg hl; rfl
 have F9:=bx (st:=rK) l9 c9 k9
 have b9:=F9.binds (ps:=["kind","value"]) fun _ _ _ _ _ _ us hl=>by obtain⟨u0,u1,rfl⟩:=fI hl; rfl
 have F10:=bx (st:=og) l10 c10 k10
 have b10:=F10.binds (ps:=["form","table"]) fun _ _ _ _ _ _ us hl=>by obtain⟨u0,u1,rfl⟩:=fI hl; rfl
 have F11:=bx (st:=lE) l11 c11 k11
 have b11:=F11.binds (ps:=["kinds","row"]) fun _ _ _ _ _ _ us hl=>by obtain⟨u0,u1,rfl⟩:=fI hl; rfl
 have F12:=bx (st:=kG) l12 c12 k12
 have b12:=F12.binds (ps:=["form"]) fun _ _ _ _ _ _ us hl=>by obtain⟨u0,rfl⟩:=wg hl; rfl
 have F13:=bx (st:=kC) l13 c13 k13
 have b13:=F13.binds (ps:=["form","name"]) fun _ _ _ _ _ _ us hl=>by obtain⟨u0,u1,rfl⟩:=fI hl; rfl
 have F14:=bx (st:=jA) l14 c14 k14
 have b14:=F14.binds (ps:=["self","form","table","view"]) fun _ _ _ _ _ _ us hl=>by obtain⟨u0,u1,u2,u3,rfl⟩:=KI hl; rfl
 have F15:=bx (st:=ic) l15 c15 k15
 have b15:=F15.binds (ps:=["_law_rows","_law_many"]) fun _ _ _ _ _ _ us hl=>by obtain⟨u0,u1,rfl⟩:=fI hl; rfl
 have F16:=bx (st:=iT) l16 c16 k16
 have b16:=F16.binds (ps:=["_law_kind_here","_law_value_here"]) fun _ _ _ _ _ _ us hl=>by obtain⟨u0,u1,rfl⟩:=fI hl; rfl
 have F17:=bx (st:=kD) l17 c17 k17
 have b17:=F17.binds (ps:=["_law_table_here","_law_view_here","_law_at","_law_many","_law_kind_here"]) fun _ _ _ _ _ _ us hl=>by obtain⟨u0,u1,u2,u3,u4,rfl⟩:=HQ hl; rfl
 have F18:=bx (st:=ko) l18 c18 k18
 have b18:=F18.binds (ps:=["self","form","table"]) fun _ _ _ _ _ _ us hl=>by obtain⟨u0,u1,u2,rfl⟩:=zr hl; rfl
 have F19:=bx (st:=jy) l19 c19 k19
 have b19:=F19.binds (ps:=["self","form","table"]) fun _ _ _ _ _ _ us hl=>by obtain⟨u0,u1,u2,rfl⟩:=zr hl; rfl
 have F20:=bx (st:=iu) l20 c20 k20
 have b20:=F20.binds (ps:=["self","form"]) fun _ _ _ _ _ _ us hl=>by obtain⟨u0,u1,rfl⟩:=fI hl; rfl
 have F21:=bx (st:=ox) l21 c21 k21
 have b21:=F21.binds (ps:=["form","place"]) fun _ _ _ _ _ _ us hl=>by obtain⟨u0,u1,rfl⟩:=fI hl; rfl
 have F22:=bx (st:=iU) l22 c22 k22
 have b22:=F22.binds (ps:=["one","other"]) fun _ _ _ _ _ _ us hl=>by obtain⟨u0,u1,rfl⟩:=fI hl; rfl
 have F23:=bx (st:=gh) l23 c23 k23
 have b23:=F23.binds (ps:=["one","other"]) fun _ _ _ _ _ _ us hl=>by obtain⟨u0,u1,rfl⟩:=fI hl; rfl
 have F24:=bx (st:=xV) l24 c24 k24
 have b24:=F24.binds (ps:=["one","other"]) fun _ _ _ _ _ _ us hl=>by obtain⟨u0,u1,rfl⟩:=fI hl; rfl
 have F25:=bx (st:=mF) l25 c25 k25
 have b25:=F25.binds (ps:=["form","place"]) fun _ _ _ _ _ _ us hl=>by obtain⟨u0,u1,rfl⟩:=fI hl; rfl
 have F26:=bx (st:=ig) l26 c26 k26
 have b26:=F26.binds (ps:=["self","form"]) fun _ _ _ _ _ _ us hl=>by obtain⟨u0,u1,rfl⟩:=fI hl; rfl
 have F27:=bx (st:=gm) l27 c27 k27
 have b27:=F27.binds (ps:=["self","form"]) fun _ _ _ _ _ _ us hl=>by obtain⟨u0,u1,rfl⟩:=fI hl; rfl
 have F28:=bx (st:=iS) l28 c28 k28
 have b28:=F28.binds (ps:=["self","form"]) fun _ _ _ _ _ _ us hl=>by obtain⟨u0,u1,rfl⟩:=fI hl; rfl
 have F29:=bx (st:=fz) l29 c29 k29
 have b29:=F29.binds (ps:=["self","form"]) fun _ _ _ _ _ _ us hl=>by obtain⟨u0,u1,rfl⟩:=fI hl; rfl
 have F30:=bx (st:=kn) l30 c30 k30
 have b30:=F30.binds (ps:=["values","place","others"]) fun _ _ _ _ _ _ us hl=>by obtain⟨u0,u1,u2,rfl⟩:=zr hl; rfl
 have F31:=bx (st:=ip) l31 c31 k31
 have b31:=F31.binds (ps:=["form","place","fields"]) fun _ _ _ _ _ _ us hl=>by obtain⟨u0,u1,u2,rfl⟩:=zr hl; rfl
 have F32:=bx (st:=eS) l32 c32 k32
 have b32:=F32.binds (ps:=["self","form"]) fun _ _ _ _ _ _ us hl=>by obtain⟨u0,u1,rfl⟩:=fI hl; rfl
 have F33:=bx (st:=jI) l33 c33 k33
 have b33:=F33.binds (ps:=["_law_cell","_law_j"]) fun _ _ _ _ _ _ us hl=>by obtain⟨u0,u1,rfl⟩:=fI hl; rfl
 have F34:=bx (st:=gC) l34 c34 k34
 have b34:=F34.binds (ps:=["_law_kind_here","_law_cell"]) fun _ _ _ _ _ _ us hl=>by obtain⟨u0,u1,rfl⟩:=fI hl; rfl
 have F35:=bx (st:=gu) l35 c35 k35
 have b35:=F35.binds (ps:=["_law_form_here","_law_cells"]) fun _ _ _ _ _ _ us hl=>by obtain⟨u0,u1,rfl⟩:=fI hl; rfl
 have F36:=bx (st:=jF) l36 c36 k36
 have b36:=F36.binds (ps:=["_law_due","_law_at","_law_table_here","_law_kind_here","_law_cells"]) fun _ _ _ _ _ _ us hl=>by obtain⟨u0,u1,u2,u3,u4,rfl⟩:=HQ hl; rfl
 have F37:=bx (st:=jH) l37 c37 k37
 have b37:=F37.binds (ps:=["_law_form_here","_law_at","_law_kind_here"]) fun _ _ _ _ _ _ us hl=>by obtain⟨u0,u1,u2,rfl⟩:=zr hl; rfl
 have F38:=bx (st:=i5) l38 c38 k38
 have b38:=F38.binds (ps:=["_law_step","_law_form_here","_law_at","_law_inner_here","_law_cells"]) fun _ _ _ _ _ _ us hl=>by obtain⟨u0,u1,u2,u3,u4,rfl⟩:=HQ hl; rfl
 have F39:=bx (st:=ii) l39 c39 k39
 have b39:=F39.binds (ps:=["_law_form_here","_law_at"]) fun _ _ _ _ _ _ us hl=>by obtain⟨u0,u1,rfl⟩:=fI hl; rfl
 have F40:=bx (st:=iQ) l40 c40 k40
 have b40:=F40.binds (ps:=["self"]) fun _ _ _ _ _ _ us hl=>by obtain⟨u0,rfl⟩:=wg hl; rfl
 have F41:=bx (st:=mt) l41 c41 k41
 have b41:=F41.binds (ps:=["value"]) fun _ _ _ _ _ _ us hl=>by obtain⟨u0,rfl⟩:=wg hl; rfl
 have F42:=bx (st:=ia) l42 c42 k42
 have b42:=F42.binds (ps:=["self"]) fun _ _ _ _ _ _ us hl=>by obtain⟨u0,rfl⟩:=wg hl; rfl
 have F43:=bx (st:=jD) l43 c43 k43
 have b43:=F43.binds (ps:=["_law_step","_law_name","_law_kind_here"]) fun _ _ _ _ _ _ us hl=>by obtain⟨u0,u1,u2,rfl⟩:=zr hl; rfl
 have F44:=bx (st:=ju) l44 c44 k44
 have b44:=F44.binds (ps:=["_law_one","_law_other"]) fun _ _ _ _ _ _ us hl=>by obtain⟨u0,u1,rfl⟩:=fI hl; rfl
 have F45:=bx (st:=iX) l45 c45 k45
 have b45:=F45.binds (ps:=["_law_cell"]) fun _ _ _ _ _ _ us hl=>by obtain⟨u0,rfl⟩:=wg hl; rfl
 have F46:=bx (st:=eQ) l46 c46 k46
 have b46:=F46.binds (ps:=["_law_kind_here","_law_cell"]) fun _ _ _ _ _ _ us hl=>by obtain⟨u0,u1,rfl⟩:=fI hl; rfl
 have F47:=bx (st:=gF) l47 c47 k47
 have b47:=F47.binds (ps:=["_law_script","_law_k"]) fun _ _ _ _ _ _ us hl=>by obtain⟨u0,u1,rfl⟩:=fI hl; rfl
 have F48:=bx (st:=eT) l48 c48 k48
 have b48:=F48.binds (ps:=["_law_cell"]) fun _ _ _ _ _ _ us hl=>by obtain⟨u0,rfl⟩:=wg hl; rfl
 have F49:=bx (st:=iZ) l49 c49 k49
 have b49:=F49.binds (ps:=["_law_cell","_law_many"]) fun _ _ _ _ _ _ us hl=>by obtain⟨u0,u1,rfl⟩:=fI hl; rfl
 have F50:=bx (st:=i7) l50 c50 k50
 have b50:=F50.binds (ps:=["_law_cell"]) fun _ _ _ _ _ _ us hl=>by obtain⟨u0,rfl⟩:=wg hl; rfl
 have F51:=bx (st:=jE) l51 c51 k51
 have b51:=F51.binds (ps:=["_law_cell","_law_deep"]) fun _ _ _ _ _ _ us hl=>by obtain⟨u0,u1,rfl⟩:=fI hl; rfl
 have F52:=bx (st:=jG) l52 c52 k52
 have b52:=F52.binds (ps:=["_law_script","_law_names_here"]) fun _ _ _ _ _ _ us hl=>by obtain⟨u0,u1,rfl⟩:=fI hl; rfl
 have F53:=bx (st:=rZ) l53 c53 k53
 have F54:=bx (st:=fm) l54 c54 k54
 have b54:=F54.binds (ps:=["self","name","kind"]) fun _ _ _ _ _ _ us hl=>by obtain⟨u0,u1,u2,rfl⟩:=zr hl; rfl
 have cl0:AG K Cl0:=⟨p0,q0,r0,s0⟩
 have cl1:AG K Cl1:=⟨p1,q1,r1,s1⟩
 have bb:gP K "name" ["Sieve"]:=by
  intro c hc C hC
  simp only [Qf,Q5,or_false] at hc
  rcases hc with rfl
  ·cases jS hC ac0; exact⟨cl0,n0_0⟩
 have aQ:gP K "kind" ["Sieve"]:=by
  intro c hc C hC
  simp only [Qf,Q5,or_false] at hc
  rcases hc with rfl
  ·cases jS hC ac0; exact⟨cl0,n0_1⟩
 have lC:vD K f2 (.ref cL):=⟨_,_,_,_,l2,lc⟩
 refine⟨⟨cL,lh⟩,lt,Rw "law" "law" (mz rZ) (fA rZ) (aA rZ) .none kV53 dc53 pm53 an53 cd53 ct53,fun s v=>.of_eq rfl,fun base kb _ bm=>?_⟩
 have AO:BF K mg "Step" ["Step","Sieve"]:=by
  refine⟨_,RH X G ac1,fun c hc D hD=>?_⟩
  simp only [Qf,Q5,or_false] at hc
  rcases hc with rfl | rfl
  ·cases jS hD ac1; exact y1_1
  ·cases jS hD ac0; exact y1_0
 have wF:=zQ (P:=l.prog) (w:=w) (base:=base) ac0 ⟨m0,a54,i54,kp0⟩ cl0 (by intro g hg; simp only [Qf,Q5,or_false] at hg; rcases hg with rfl | rfl <;> first | exact n0_0 | exact n0_1) F54 b54 (RH X G ac0)
 have fam:=mi (P:=l.prog) (w:=w) (base:=base) F0 b0 (RH X G a0) aG aH bq gf iP eK je iF 12
 have ca:=fam
 have okb_Step_put:=y0 (P:=l.prog) (w:=w) (base:=base) (K:=K) (mg:=mg) (f:=f1)
 have lI:=Ah F2 b2 (RH X G a2) xo (DT.ok (xH (P:=l.prog) (w:=w) (base:=base) (f:=f2) aH jY (G9 kb lh bm) lC fun _ z=>z))
 have sJ:=aW F3 b3 (RH X G a3) CU (bU.ok (CH (P:=l.prog) (w:=w) (base:=base) (f:=f3) zN))
 have nK:=aW F4 b4 (RH X G a4) yr (bU.ok (zq (P:=l.prog) (w:=w) (base:=base) (f:=f4) sJ lI iK))
 have dS:=aW F5 b5 (RH X G a5) zn (bU.ok (zl (P:=l.prog) (w:=w) (base:=base) (f:=f5) aG iF je))
 have dy:=aW F6 b6 (RH X G a6) vZ (bU.ok (xu (P:=l.prog) (w:=w) (base:=base) (f:=f6) aG aH bq))
 have dz:=aW F7 b7 (RH X G a7) wz (bU.ok (xQ (P:=l.prog) (w:=w) (base:=base) (f:=f7) gf ce bq))
 have dW:=aW F8 b8 (RH X G a8) yL (bU.ok (yR (P:=l.prog) (w:=w) (base:=base) (f:=f8) aH))
 have fam:=zz (P:=l.prog) (w:=w) (base:=base) F9 b9 (RH X G a9) F10 b10 (RH X G a10) F11 b11 (RH X G a11) dS dW dz dy aG eK bq aH gf iP 12
 have jj:=fam.1
 have qZ:=fam.2.1
 have pj:=fam.2.2
 have nD:=aW F12 b12 (RH X G a12) yv (bU.ok (yi (P:=l.prog) (w:=w) (base:=base) (f:=f12) aH))
 have cF:=aW F13 b13 (RH X G a13) y8 (bU.ok (zc (P:=l.prog) (w:=w) (base:=base) (f:=f13) nD lM))
 have okb_Sieve_put:=wD (P:=l.prog) (w:=w) (base:=base) (K:=K) (mg:=mg) (f:=f14) cF jj nK bb aQ bq
 have eN:=aW F15 b15 (RH X G a15) sY (bU.ok (sX (P:=l.prog) (w:=w) (base:=base) (f:=f15) bq aH))
 have cO:=aW F16 b16 (RH X G a16) tQ (bU.ok (t7 (P:=l.prog) (w:=w) (base:=base) (f:=f16) ))
 have nX:=aW F17 b17 (RH X G a17) yd (bU.ok (yx (P:=l.prog) (w:=w) (base:=base) (f:=f17) cO eN iK))
 have okb_Step_got:=yE (P:=l.prog) (w:=w) (base:=base) (K:=K) (mg:=mg) (f:=f18)
 have okb_Sieve_got:=v7 (P:=l.prog) (w:=w) (base:=base) (K:=K) (mg:=mg) (f:=f19) cF jj bb aQ aH
 have okb_Step_steady:=tm (P:=l.prog) (w:=w) (base:=base) (K:=K) (mg:=mg) (f:=f20)
 have jQ:=aW F21 b21 (RH X G a21) CB (bU.ok (BX (P:=l.prog) (w:=w) (base:=base) (f:=f21) bq))
 have kE:=aW F22 b22 (RH X G a22) ue (bU.ok (uz (P:=l.prog) (w:=w) (base:=base) (f:=f22) aH))
 have jm:=aW F23 b23 (RH X G a23) qx (bU.ok (qC (P:=l.prog) (w:=w) (base:=base) (f:=f23) pK uY))
 have pZ:=aW F24 b24 (RH X G a24) FJ (bU.ok (GW (P:=l.prog) (w:=w) (base:=base) (f:=f24) jm kE))
 have ja:=aW F25 b25 (RH X G a25) zJ (bU.ok (Af (P:=l.prog) (w:=w) (base:=base) (f:=f25) ))
 have okb_Sieve_exact:=si (P:=l.prog) (w:=w) (base:=base) (K:=K) (mg:=mg) (f:=f26) ja cF pZ bb aQ
 have iR:fF l.prog w K mg base 3 "exact" ["self","form"] [("Sieve",(aP cx 2 3))]:=eh (MethAt.mono (dB (c := "Sieve") (m := "exact") ac0 cl0 ⟨a26,i26,k26⟩ F26 b26 lN (bU.ok okb_Sieve_exact)) (by decide)) aI (j4)
 have okb_Sieve_steady:=qF (P:=l.prog) (w:=w) (base:=base) (K:=K) (mg:=mg) (f:=f27) jQ cF iR bb
 have okb_Step_exact:=tT (P:=l.prog) (w:=w) (base:=base) (K:=K) (mg:=mg) (f:=f28)
 have okb_Step_view_form:=oN (P:=l.prog) (w:=w) (base:=base) (K:=K) (mg:=mg) (f:=f29)
 have kK:=aW F30 b30 (RH X G a30) zA (bU.ok (ym (P:=l.prog) (w:=w) (base:=base) (f:=f30) ))
 have jM:=aW F31 b31 (RH X G a31) rG (bU.ok (sN (P:=l.prog) (w:=w) (base:=base) (f:=f31) jQ kK bq))
 have okb_Sieve_view_form:=nE (P:=l.prog) (w:=w) (base:=base) (K:=K) (mg:=mg) (f:=f32) cF ja pZ jM bb aQ
 have bu:=aW F33 b33 (RH X G a33) wI (bU.ok (xM (P:=l.prog) (w:=w) (base:=base) (f:=f33) ))
 have fam:=lH (P:=l.prog) (w:=w) (base:=base) F34 b34 (RH X G a34) F35 b35 (RH X G a35) bu bq ce iF aH 12
 have ke:=fam.1
 have du:=fam.2
 have lW:=aW F36 b36 (RH X G a36) xh (bU.ok (wR (P:=l.prog) (w:=w) (base:=base) (f:=f36) du cO eN bq ce iK))
 have mj:=aW F37 b37 (RH X G a37) w6 (bU.ok (xS (P:=l.prog) (w:=w) (base:=base) (f:=f37) iK aH bq))
 have fU:fF l.prog w K mg base 14 "view_form" ["self","form"] [("Step",(aP eE 2 2)),("Sieve",(aP cM 2 5))]:=eh (MethAt.mono (dB (c := "Step") (m := "view_form") ac1 cl1 ⟨a29,i29,k29⟩ F29 b29 oH (bU.ok okb_Step_view_form)) (by decide)) aI (eh (MethAt.mono (dB (c := "Sieve") (m := "view_form") ac0 cl0 ⟨a32,i32,k32⟩ F32 b32 nA (bU.ok okb_Sieve_view_form)) (by decide)) aI (j4))
 have gZ:fF l.prog w K mg base 14 "exact" ["self","form"] [("Step",(aP gA 2 2)),("Sieve",(aP cx 2 3))]:=eh (MethAt.mono (dB (c := "Step") (m := "exact") ac1 cl1 ⟨a28,i28,k28⟩ F28 b28 t0 (bU.ok okb_Step_exact)) (by decide)) aI (eh (MethAt.mono (dB (c := "Sieve") (m := "exact") ac0 cl0 ⟨a26,i26,k26⟩ F26 b26 lN (bU.ok okb_Sieve_exact)) (by decide)) aI (j4))
 have gO:fF l.prog w K mg base 14 "steady" ["self","form"] [("Step",(aP fK 2 2)),("Sieve",(aP dF 2 2))]:=eh (MethAt.mono (dB (c := "Step") (m := "steady") ac1 cl1 ⟨a20,i20,k20⟩ F20 b20 sk (bU.ok okb_Step_steady)) (by decide)) aI (eh (MethAt.mono (dB (c := "Sieve") (m := "steady") ac0 cl0 ⟨a27,i27,k27⟩ F27 b27 qz (bU.ok okb_Sieve_steady)) (by decide)) aI (j4))
 have iI:fF l.prog w K mg base 14 "got" ["self","form","table"] [("Step",(aP jo 3 3)),("Sieve",(aP e9 3 4))]:=eh (MethAt.mono (dB (c := "Step") (m := "got") ac1 cl1 ⟨a18,i18,k18⟩ F18 b18 yC (bU.ok okb_Step_got)) (by decide)) aI (eh (MethAt.mono (dB (c := "Sieve") (m := "got") ac0 cl0 ⟨a19,i19,k19⟩ F19 b19 xK (bU.ok okb_Sieve_got)) (by decide)) aI (j4))
 have iM:fF l.prog w K mg base 14 "put" ["self","form","table","view"] [("Step",(aP gX 4 4)),("Sieve",(aP eG 4 6))]:=eh (MethAt.mono (dB (c := "Step") (m := "put") ac1 cl1 ⟨a1,i1,k1⟩ F1 b1 zy (bU.ok okb_Step_put)) (by decide)) aI (eh (MethAt.mono (dB (c := "Sieve") (m := "put") ac0 cl0 ⟨a14,i14,k14⟩ F14 b14 wu (bU.ok okb_Sieve_put)) (by decide)) aI (j4))
 have gI:=aW F38 b38 (RH X G a38) tS (bU.ok (tU (P:=l.prog) (w:=w) (base:=base) (f:=f38) mj du lW ca cO nX fU gZ gO iI iM aQ bq aH))
 have jN:=aW F39 b39 (RH X G a39) sj (bU.ok (se (P:=l.prog) (w:=w) (base:=base) (f:=f39) bq))
 have okb_Step_words:=ua (P:=l.prog) (w:=w) (base:=base) (K:=K) (mg:=mg) (f:=f40)
 have jP:=aW F41 b41 (RH X G a41) As (bU.ok (zW (P:=l.prog) (w:=w) (base:=base) (f:=f41) aG eK))
 have okb_Sieve_words:=tE (P:=l.prog) (w:=w) (base:=base) (K:=K) (mg:=mg) (f:=f42) jP aQ bb aH
 have iE:fF l.prog w K mg base 12 "words" ["self"] [("Step",(aP gq 1 1)),("Sieve",(aP cZ 1 1))]:=eh (MethAt.mono (dB (c := "Step") (m := "words") ac1 cl1 ⟨a40,i40,k40⟩ F40 b40 tX (bU.ok okb_Step_words)) (by decide)) aI (eh (MethAt.mono (dB (c := "Sieve") (m := "words") ac0 cl0 ⟨a42,i42,k42⟩ F42 b42 rP (bU.ok okb_Sieve_words)) (by decide)) aI (j4))
 have me:=aW F43 b43 (RH X G a43) we (bU.ok (xn (P:=l.prog) (w:=w) (base:=base) (f:=f43) ca iE bb aQ AO aH eK aG))
 have lS:=aW F44 b44 (RH X G a44) wH (bU.ok (vL (P:=l.prog) (w:=w) (base:=base) (f:=f44) uY pK aH))
 have cD:=aW F45 b45 (RH X G a45) uc (bU.ok (tW (P:=l.prog) (w:=w) (base:=base) (f:=f45) bu ce aH))
 have gn:=aW F46 b46 (RH X G a46) nI (bU.ok (n8 (P:=l.prog) (w:=w) (base:=base) (f:=f46) cD pK bq aH jY))
 have cC:=aW F47 b47 (RH X G a47) qH (bU.ok (qE (P:=l.prog) (w:=w) (base:=base) (f:=f47) bq))
 have gH:=aW F48 b48 (RH X G a48) nQ (bU.ok (nF (P:=l.prog) (w:=w) (base:=base) (f:=f48) cD))
 have fw:=aW F49 b49 (RH X G a49) ub (bU.ok (uq (P:=l.prog) (w:=w) (base:=base) (f:=f49) bu ce))
 have j8:=aW F50 b50 (RH X G a50) tZ (bU.ok (ur (P:=l.prog) (w:=w) (base:=base) (f:=f50) fw cD))
 have lu:=aW F51 b51 (RH X G a51) vX (bU.ok (v6 (P:=l.prog) (w:=w) (base:=base) (f:=f51) j8 cD))
 have lF:=aW F52 b52 (RH X G a52) wM (bU.ok (vK (P:=l.prog) (w:=w) (base:=base) (f:=f52) cC lu bu gH ce aH))
 exact Jm (P:=l.prog) (w:=w) (base:=base) F53 fw cC lF gn bu lS me gI jN wF
theorem walk {l:RF} {q:Ss} {loose:List Str} {XP:(Str->Option Sq)->Sw->Prop} {YP:Sr->Sw->Prop} {d:DefRec} {K:Params->Rf} {T:Su} (hn:l.most=some 63) (hdf:d.params.defaults=[])
  (hY:∀ (w:Sr) (h:Sw),YP w h->(K w.params).In h/\h.get? T=some (RD #[]))
  (F:∀ (w:Sr) (mg:Str->Option Sq) (fa:Su) (h:Sw),(K w.params).In h->h.Ns Sz mg->mg d.name=some (.ref fa) ->
   (∃ c,RG (K w.params) c T=true)/\(K w.params).lookup T=none/\∃ fd:Th,(∀ (s:SF) (u:Sq),Ti s fd ⟨[u],[]⟩ [("_law_script",u)])/\∀ base:Sw,(K w.params).In base->base.Ns Sz mg->AR mg base->js l.prog w (K w.params) mg base (nh l.prog w) 16 fa fd ["_law_script"] (@Df (wW T ⟨60,34,60,56⟩ ((("sorted_by":Str) ++ ".<locals>.") ++ "<lambda>")) (K w.params) 1 (aP sS 1 10)))
  (math:∀ ns:List Int,ns.length<=63->aP sS 1 10 [.lst (ns.map .int)]=.ok (.bl true)):PySem.W.WalkO q loose XP YP l.row.toRowW d [] (fun f vs=>PySem.call f vs) :=
 DX (n:=63) (k:=16) (x := "_law_script") (T:=T) (CX:=fun w=>nh l.prog w) (sp:=fun w=>@Df (wW T ⟨60,34,60,56⟩ ((("sorted_by":Str) ++ ".<locals>.") ++ "<lambda>")) (K w.params) 1 (aP sS 1 10)) hn (by decide) hdf ⟨rfl,by decide,by decide⟩ hY F
  (fun w H a ns hl hT hS=>⟨[],[.lst (ns.map .int)],rfl,⟨hT,fun a h=>nomatch h⟩,by rw [G8]; exact bP.mpr ⟨.ref a,[],rfl,cT.mpr ⟨a,_,rfl,hS,uX ns⟩,cU.mpr rfl⟩,by rw [math ns hl]; exact fun v H' sm d=>⟨j7.mp d,sm⟩⟩) fun _ _ _ _ _ z=>by obtain⟨_,_,_,_,_,_,_,_,_,_,_,_,_,z⟩:=z; exact z
end Tk32
namespace Tk32
open PySem PySem.Spec L2 TG TD
local macro_rules
 | `(tactic| simp! only [$xs,*])=>`(tactic| simp only [fM,Bb,nz,AU,m9,ie,ge_0,FP,xG,Gv,wG,rk,wJ,vQ,FQ,Hk,FH,Gm,GI,xi,xO,BL,pf,rg,xN,qN,BU,wO,vR,rq,xP,oB,xU,oX,o8,mN,mD,vM,qP,mH,qQ,oS,rB,qW,fQ,qI,oa,wC,pJ,oU,i6,rp,rE,GY,Bd,GU,G2,GH,xW,qX,vT,rj,rC,GR,Hi,QV,QW,OB,O7,Pr,PR,K0,env0,List.replicate,Qs,OI,Qm,Nat.reduceAdd,Nat.reduceSub,OA,Ph,wd,wA,BG,xg,xl,wv,mI,wX,BA,AW,Bf,xC,ow,pD,oJ,oI,oK,oG,qt,A6,Bc,BM,AZ,By,o7,oT,kq,j6,w8,mB,kU,kz,ku,wN,vW,kI,kF,oZ,pI,q5,qV,oO,oP,wV,wf,rd,qY,gN,if_true,if_false,QX,QY,Pp,$xs,*])
inductive Kd where
 | num (lo hi:Int) | wrd (ws:List Str)
def Kd.d:Kd->D
 | .num lo hi=>.tup [.str "number",.int lo,.int hi]
 | .wrd ws=>.tup [.str "word",.tup (ws.map .str)]
def Kd.has:Kd->D->Bool
 | .num lo hi,.int x=>decide (lo<=x) && decide (x<=hi)
 | .wrd ws,.str w=>ws.contains w
 | _,_=>false
def Kd.sort:Kd->D->Prop
 | .num _ _,v=>∃ x,v=.int x
 | .wrd _,v=>∃ w,v=.str w
def mx (i j:Int):Int:=if j > i then j else i
def mn (i j:Int):Int:=if j < i then j else i
theorem A0:∀ {a b:List Str},a.map D.str=b.map D.str->a=b
 | [],[],_=>rfl
 | x::a,y::b,h=>by
  rw [OB,OB] at h
  injection h with h1 h2
  injection h1 with h1
  rw [h1,A0 h2]
 | [],_::_,h=>by cases h
 | _::_,[],h=>by cases h
theorem xf (k:Kd) (v:D):x6 k.d v↔k.has v=true:=by
 cases k with
 | num lo hi =>
  constructor
  ·rintro(⟨l,h,x,e,h1,h2,rfl⟩ | ⟨_,_,e,_⟩)
   ·injection e with e; injection e with _ e; injection e with e e'; injection e' with e' _; injection e with e; injection e' with e'
    show (decide (lo<=x) && decide (x<=hi))=true
    rw [decide_eq_true ‹0›,decide_eq_true ‹0›]; rfl
   ·cases e
  ·intro h
   cases v with
   | int x =>
    have h:(decide (lo<=x) && decide (x<=hi))=true:=h
    rw [O1,decide_eq_true_iff,decide_eq_true_iff] at h
    exact .inl ⟨lo,hi,x,rfl,h.1,h.2,rfl⟩
   | _=>cases h
 | wrd ws =>
  constructor
  ·rintro(⟨_,_,_,e,_⟩ | ⟨us,w,e,hw,rfl⟩)
   ·cases e
   ·injection e with e; injection e with _ e; injection e with e _; injection e with e
    rw [<- A0 e] at hw
    show ws.contains w=true
    simpa using hw
  ·intro h
   cases v with
   | str w =>
    have h:ws.contains w=true:=h
    exact .inr ⟨ws,w,rfl,by simpa using h,rfl⟩
   | _=>cases h
theorem qf:(("number":Str)==("number":Str))=true:=by decide +kernel
theorem vV:(("word":Str)==("word":Str))=true:=by decide +kernel
def C0 (k s c:Kd):Prop:=match k,s with
 | .num a b,.num x y=>a<=b/\-qG < a/\b < qG/\-(10*qG) < x/\x < 10*qG/\-(10*qG) < y/\y < 10*qG/\mx a x<=mn b y/\c=.num (mx a x) (mn b y)
 | .wrd ws,.wrd us=>ws≠[]/\ws.length<=12/\us.length<=12/\(∀ w∈us,w.length<=20)/\ws.filter (fun w=>us.contains w)≠[]/\c=.wrd (ws.filter fun w=>us.contains w)
 | _,_=>False
section
variable {k s c:Kd}
theorem C0.flk (h:C0 k s c):pP k.d/\pP c.d:=by
 cases k with
 | num a b =>
  cases s with
  | num x y =>
   obtain⟨h1,h2,h3,h4,h5,h6,h7,h8,rfl⟩:=h
   refine⟨.inl ⟨a,b,h1,h2,h3,rfl⟩,.inl ⟨_,_,h8,?_,?_,rfl⟩⟩
   ·unfold mx; split <;> omega
   ·unfold mn; split <;> omega
  | wrd us=>exact h.elim
 | wrd ws =>
  cases s with
  | num x y=>exact h.elim
  | wrd us =>
   obtain⟨h1,h2,h3,h4,h5,rfl⟩:=h
   exact⟨.inr ⟨ws,h1,h2,rfl⟩,.inr ⟨_,h5,Og (Q6 _ _) h2,rfl⟩⟩
theorem C0.both (h:C0 k s c) (v:D):c.has v=(k.has v && s.has v):=by
 cases k with
 | num a b =>
  cases s with
  | num x y =>
   obtain⟨h1,h2,h3,h4,h5,h6,h7,h8,rfl⟩:=h
   cases v with
   | int z =>
    show (decide (mx a x<=z) && decide (z<=mn b y))=((decide (a<=z) && decide (z<=b)) && (decide (x<=z) && decide (z<=y)))
    rw [Bool.eq_iff_iff]
    simp only [O1,decide_eq_true_iff]
    unfold mx mn
    constructor
    ·intro h; split at h <;> split at h <;> omega
    ·intro h; split <;> split <;> omega
   | _=>rfl
  | wrd us=>exact h.elim
 | wrd ws =>
  cases s with
  | num x y=>exact h.elim
  | wrd us =>
   obtain⟨h1,h2,h3,h4,h5,rfl⟩:=h
   cases v with
   | str w =>
    show (ws.filter fun w=>us.contains w).contains w=(ws.contains w && us.contains w)
    rw [Bool.eq_iff_iff]
    simp only [O1,List.contains_iff_mem,List.mem_filter]
   | _=>rfl
theorem C0.sort (h:C0 k s c) {v:D} (hv:x6 k.d v):s.sort v:=by
 rw [xf] at hv
 cases k with
 | num a b =>
  cases s with
  | num x y =>
   cases v with
   | int z=>exact⟨z,rfl⟩
   | _=>cases hv
  | wrd us=>exact h.elim
 | wrd ws =>
  cases s with
  | num x y=>exact h.elim
  | wrd us =>
   cases v with
   | str z=>exact⟨z,rfl⟩
   | _=>cases hv
theorem o6 {v:D} (h:s.sort v):cw 12 [s.d,v]=.ok (.bl (s.has v))/\aP cf 2 2 [s.d,v]=.ok (.bl (s.has v)):=by
 rw [ly,cH,cH]; unfold wm cf
 cases s with
 | num lo hi =>
  obtain⟨x,rfl⟩:=h
  have iw:aP fW 1 1 [.int x]=.ok (.bl true):=by rfl
  constructor <;> simp! only [Kd.d,qf,iw,Q2] <;> rfl
 | wrd ws =>
  obtain⟨w,rfl⟩:=h
  have e1:nW "str" (.str w)=some (.bl true):=rfl
  constructor <;> simp! only [Kd.d,lq,vV,e1,qU,Q2] <;> rfl
theorem BV (h:C0 k s c):aP nV 2 2 [k.d,s.d]=.ok c.d:=by
 rw [cH]; unfold nV
 cases k with
 | num a b =>
  cases s with
  | num x y =>
   obtain⟨h1,h2,h3,h4,h5,h6,h7,h8,rfl⟩:=h
   have l1:decide ((if x > a then x else a)<=(if y < b then y else b))=true:=decide_eq_true h8
   have bn:aP fj 2 4 [.tup [.str "number",.int a,.int b],.tup [.str "number",.int x,.int y]]=.ok (.tup [.str "number",.int (mx a x),.int (mn b y)]):=by
    rw [cH]; unfold fj
    simp! only [l1,Fh]
    rfl
   simp! only [Kd.d,qf,bn]
  | wrd us=>exact h.elim
 | wrd ws =>
  cases s with
  | num x y=>exact h.elim
  | wrd us =>
   obtain⟨h1,h2,h3,h4,h5,rfl⟩:=h
   have f0:gR [none,some 1] (bT (f2 aE (af 0) (fC (.int 1)))) (gN 0) (fB (f2 Fi (af 0) (f2 aE (af 1) (fC (.int 1))))) (af 0) [some (.val (.tup [.str "word",.tup (ws.map .str)])),some (.val (.tup [.str "word",.tup (us.map .str)])),none]=.ok (.lst ((ws.filter fun w=>us.contains w).map .str)):=by
    refine cP (ds:=ws.map .str) (by simp! only []) (by rw [OC]; omega) ?_
    refine dD D.str (fun w=>us.contains w) D.str ws fun w _=>⟨_,rfl,?_,rfl⟩
    simp! only [qU]
   have ne:((ws.filter fun w=>us.contains w).map D.str).isEmpty=false:=by
    cases q:ws.filter fun w=>us.contains w with
    | nil=>exact absurd q h5
    | cons _ _=>rfl
   have bw:aP gD 2 3 [.tup [.str "word",.tup (ws.map .str)],.tup [.str "word",.tup (us.map .str)]]=.ok (.tup [.str "word",.tup ((ws.filter fun w=>us.contains w).map .str)]):=by
    rw [cH]; unfold gD
    simp! only [f0,ne,qB]
   simp! only [Kd.d,lq,vV,bw]
end
abbrev stp (nm:Str) (s:Kd):D:=.obj "Sieve" ["name","kind"] [.str nm,s.d]
theorem iY {nm:Str} {s:Kd}:gY "name" ["Sieve"] (stp nm s)=some (.str nm):=by rfl
theorem ir {nm:Str} {s:Kd}:gY "kind" ["Sieve"] (stp nm s)=some s.d:=by rfl
theorem uP {nm:Str} {s:Kd} (m:Str) (g1 g2:List D->R D) (fo:FX) (fas:az->R (List D)) (ρ:az) (h:fo ρ=.ok (stp nm s)) (hm:(["name","kind"]:List Str).contains m=false):iC m [("Step",g1),("Sieve",g2)] fo fas ρ=(fas ρ).bind fun as=>g2 (stp nm s::as):=by
 have e:List.lookup ("Sieve":Str) [(("Step":Str),g1),(("Sieve":Str),g2)]=some g2:=by
  have h1:((("Sieve":Str))==(("Step":Str)))=false:=by decide +kernel
  simp [List.lookup,h1]
 unfold iC
 rw [h,fM]
 simp only [e,hm]
 rfl
theorem J8 {nm:Str} {s:Kd} (m:Str) (g2:List D->R D) (fo:FX) (fas:az->R (List D)) (ρ:az) (h:fo ρ=.ok (stp nm s)) (hm:(["name","kind"]:List Str).contains m=false):iC m [("Sieve",g2)] fo fas ρ=(fas ρ).bind fun as=>g2 (stp nm s::as):=by
 have e:List.lookup ("Sieve":Str) [(("Sieve":Str),g2)]=some g2:=by simp [List.lookup]
 unfold iC
 rw [h,fM]
 simp only [e,hm]
 rfl
structure Ok (kf rf:List D) (ps:List (Str×D)) (i:Nat) (nm:Str) (k s c:Kd):Prop where
 e:kf++rf=ps.map fld
 l:ps.length=kf.length+rf.length
 k1:1<=kf.length
 kl:kf.length<=8
 rl:rf.length<=8
 nd:(ps.map (·.1)).Nodup
 at':ps[i]?=some (nm,k.d)
 tw:C0 k s c
 fk:∀ f∈kf,∃ nm k,f=.tup [.str nm,k]/\pP k
 fr:∀ f∈rf,∃ nm k,f=.tup [.str nm,k]/\vG 1 k
def vk (kf:List D) (i:Nat) (o:D):List D:=if i < kf.length then kf.set i o else kf
def vr (kf rf:List D) (i:Nat) (o:D):List D:=if i < kf.length then rf else rf.set (i - kf.length) o
theorem zX (kf:List D) (i:Nat) (o:D):(vk kf i o).length=kf.length:=by unfold vk; split <;> simp
theorem IW (kf rf:List D) (i:Nat) (o:D):(vr kf rf i o).length=rf.length:=by unfold vr; split <;> simp
theorem Ay (kf rf:List D) (i:Nat) (o:D):vk kf i o++vr kf rf i o=(kf++rf).set i o:=by
 unfold vk vr
 split
 ·rw [List.set_append_left _ _ (by assumption)]
 ·rw [List.set_append_right _ _ ‹0›]
theorem AX {xs:List D} {i:Nat} (h:i < xs.length) (o:D):xs.take i++[o]++xs.drop (i+1)=xs.set i o:=by
 rw [List.set_eq_take_append_cons_drop,if_pos h,P9]; rfl
section
variable {kf rf:List D} {ps:List (Str×D)} {i:Nat} {nm:Str} {k s c:Kd}
theorem Ok.pl (h:Ok kf rf ps i nm k s c):ps.length<=100:=by have:=h.l; have:=h.kl; have:=h.rl; omega
theorem Ok.il (h:Ok kf rf ps i nm k s c):i < kf.length+rf.length:=by have:=eD h.at'; have:=h.l; omega
abbrev vw (kf rf:List D) (i:Nat) (o:D):D:=.tup [.tup (vk kf i o),.tup (vr kf rf i o)]
theorem G0 (k:Kd):∃ x:Str,aE k.d (.int 0)=some (.str x)/\(∀ s c:Kd,C0 k s c->aE s.d (.int 0)=some (.str x)):=by
 cases k with
 | num a b=>exact⟨"number",qt _ _,fun s c h=>by cases s with
  | num _ _=>exact qt _ _
  | wrd _=>exact h.elim⟩
 | wrd a=>exact⟨"word",qt _ _,fun s c h=>by cases s with
  | num _ _=>exact h.elim
  | wrd _=>exact qt _ _⟩
theorem Ho (h:Ok kf rf ps i nm k s c):aP cM 2 5 [stp nm s,.tup [.tup kf,.tup rf]]=.ok (vw kf rf i (fld (nm,c.d))):=by
 have kl:=h.kl
 have rl:=h.rl
 have il:=h.il
 have pp:=kR kf rf ps h.pl h.e h.nd i nm _ h.at'
 have kp:=vx kf rf ps h.pl h.e i nm _ h.at'
 have wp:=B2 kf rf [fld (nm,c.d)] i (by simp; omega)
 have wp':aP eM 3 3 [.tup [.tup kf,.tup rf],.int i,.tup [.tup [.str nm,c.d]]]=.ok (vw kf rf i (fld (nm,c.d))):=by
  refine Eq.trans wp ?_
  unfold vw vk vr
  by_cases hi:i < kf.length
  ·rw [if_pos hi,if_pos hi,if_pos hi,AX hi]
  ·rw [if_neg hi,if_neg hi,if_neg hi,AX ‹0›]
 obtain⟨x,hx,hs⟩:=G0 k
 have hs:=hs s c h.tw
 have bo:=BV h.tw
 have nn:isNon c.d=false:=by cases c <;> rfl
 rw [cH]; unfold cM
 simp! only [iY,ir,pp,kp,hx,hs,BEq.rfl,bo,nn,qB,M5,wp']
theorem Hj (h:Ok kf rf ps i nm k s c):aP iB 3 4 [.tup [.tup kf,.tup rf],.int i,c.d]=.ok (vw kf rf i (fld (nm,c.d))):=by
 have kl:=h.kl
 have rl:=h.rl
 have il:=h.il
 have ll:(kf++rf).length=kf.length+rf.length:=OW
 have gl:kZ [.tup (kf++rf)]=some (.lst (kf++rf)):=nr rfl
 have at1:aE (.lst (kf++rf)) (.int (i:Int))=some (.tup [.str nm,k.d]):=by
  rw [zm,vS,h.e,OS,h.at']; rfl
 have ixi:xt (kf++rf).length (i:Int)=some i:=by
  unfold xt
  rw [if_pos ‹0›,if_pos ‹0›]; rfl
 have pu:∀ (fi fv:FX) (k:Ks) (ρ:az) (xs:List D) (j:Int) (n:Nat) (v:D),ρ[3]?=some (some (.own (.lst xs)))->fv ρ=.ok v->fi ρ=.ok (.int j)->xt xs.length j=some n->nv 3 fi fv k ρ=k.nx (ρ.set 3 (some (.own (.lst (xs.set n v))))):=fun fi fv k ρ xs j n v h1 h2 h3 h4=>by
  unfold nv
  rw [h1]
  simp only [h2,h3,fM,nz,h4]
 have io:zO 3 (af 1) [some (.val (.tup [.tup kf,.tup rf])),some (.val (.int i)),some (.val c.d),some (.own (.lst (kf++rf)))]=.ok (.tup [.str nm,k.d]):=by
  unfold zO
  simp! only []
  exact congrArg rO at1
 have p1:=fun K:Ks=>pu (af 1) (cY (ah (f2 aE (zO 3 (af 1)) (fC (.int 0))) (ah (af 2) (ax)))) K [some (.val (.tup [.tup kf,.tup rf])),some (.val (.int i)),some (.val c.d),some (.own (.lst (kf++rf)))] (kf++rf) i i (fld (nm,c.d)) rfl (by simp! only [io,qB]) (by simp! only []) ixi
 have t1:((kf++rf).set i (fld (nm,c.d))).take kf.length=vk kf i (fld (nm,c.d)):=by rw [<- Ay]; exact Q4 (zX _ _ _)
 have t2:((kf++rf).set i (fld (nm,c.d))).drop kf.length=vr kf rf i (fld (nm,c.d)):=by rw [<- Ay]; exact List.drop_left' (zX _ _ _)
 rw [nH]; unfold iB
 simp! only [e8 kf rf ‹0›,gl,p1,fh,lK,t1,t2,qB]
theorem n5 {a b:Kd} (ha:pl a.d=true) (hb:pl b.d=true):gQ a.d b.d=some (.bl (pyEq a.d b.d)):=by
 have e:gQ a.d b.d=if (pl a.d && pl b.d) && (dr 8 a.d || dr 8 b.d) then some (.bl (pyEq a.d b.d)) else none:=rfl
 have d:dr 8 a.d=true:=by
  cases a with
  | num _ _=>rfl
  | wrd ws =>
   show [D.str "word",.tup (ws.map .str)].all (dr 7)=true
   show (dr 7 (.str "word") && (dr 7 (.tup (ws.map .str)) && true))=true
   have:dr 7 (.tup (ws.map .str))=true:=by
    show (ws.map D.str).all (dr 6)=true
    rw [PH]
    exact List.all_eq_true.mpr fun _ _=>rfl
   rw [this]; rfl
 rw [e,ha,hb,d]; rfl
theorem vv (a:Kd):pl a.d=true:=by
 cases a with
 | num _ _=>rfl
 | wrd ws =>
  show pl (.tup [.str "word",.tup (ws.map .str)])=true
  rw [dE]
  show (pl (.str "word") && (pl (.tup (ws.map .str)) && lJ []))=true
  rw [dE,qM D.str fun _=>rfl]; rfl
theorem Dh (h:Ok kf rf ps i nm k s c):aP cx 2 3 [stp nm s,.tup [.tup kf,.tup rf]]=.ok (.bl (pyEq c.d k.d))/\aP dF 2 2 [stp nm s,.tup [.tup kf,.tup rf]]=.ok (.bl (pyEq c.d k.d || decide (i < kf.length))):=by
 have pp:=kR kf rf ps h.pl h.e h.nd i nm _ h.at'
 have kp:=vx kf rf ps h.pl h.e i nm _ h.at'
 have bo:=BV h.tw
 have ge:=n5 (vv c) (vv k)
 have e:aP cx 2 3 [stp nm s,.tup [.tup kf,.tup rf]]=.ok (.bl (pyEq c.d k.d)):=by
  rw [cH]; unfold cx
  simp! only [iY,ir,pp,kp,bo,ge]
 refine⟨e,?_⟩
 have m1:=fun fas ρ h=>J8 (nm:=nm) (s:=s) "exact" (aP cx 2 3) (af 0) fas ρ h (by decide +kernel)
 rw [cH]; unfold dF
 simp! only [m1,e,iY,pp,nB]
def pU (i:Nat) (o:List D):D:=o.getD i .non
theorem sI {o:List D} (h:i < o.length):aE (.tup o) (.int (i:Int))=some (pU i o):=by
 rw [yk,gJ h]
 unfold pU
 rw [QC,PJ h]; rfl
theorem IT (h:Ok kf rf ps i nm k s c) (rows:List (List D)) (hl:rows.length<=100) (hr:∀ r∈rows,i < r.length/\s.sort (pU i r)):aP e9 3 4 [stp nm s,.tup [.tup kf,.tup rf],.tup (rows.map .tup)]=.ok (.tup ((rows.filter fun r=>s.has (pU i r)).map .tup)):=by
 have pp:=kR kf rf ps h.pl h.e h.nd i nm _ h.at'
 have f0:gR [none,some 0,some 3] (bT (af 2)) (gN 0) (cu (fR (cw 12) (ah (f1 (gY "kind" ["Sieve"]) (af 1)) (ah (f2 aE (af 0) (af 2)) (ax))))) (af 0) [some (.val (stp nm s)),some (.val (.tup [.tup kf,.tup rf])),some (.val (.tup (rows.map .tup))),some (.val (.int i))]=.ok (.lst ((rows.filter fun r=>s.has (pU i r)).map .tup)):=by
  refine cP (ds:=rows.map .tup) (by simp! only []) (by rw [OC]; omega) ?_
  refine dD D.tup (fun r=>s.has (pU i r)) D.tup rows fun o ho=>⟨_,rfl,?_,rfl⟩
  obtain⟨oi,os⟩:=hr o ho
  have va:=sI oi
  have ft:=(o6 os).1
  simp! only [ir,va,ft]
 rw [nH]; unfold e9
 simp! only [iY,pp,f0]
end
theorem B7 {m:Nat} {row:List D} {rows:List (List D)} (h:∀ r∈rows,r.take m≠row.take m):(iN m row rows).Perm (rows++[row]):=by
 rw [jz rows,if_neg]
 ·refine List.perm_middle.trans ?_
  rw [Q7]
  exact(List.perm_append_singleton _ _).symm
 ·intro z
  cases q:rows[cnt m (row.take m) rows]? with
  | none=>rw [q] at z; cases z
  | some r =>
   rw [q] at z
   exact h r (OV q) (Option.some.inj z)
structure L1 (m:Nat) (L rows:List (List D)):Prop where
 sub:∀ r∈rows,r∈L
 ris:yQ m rows
 len:rows.length<=L.length
 perm:(L.Pairwise fun r s=>r.take m≠s.take m)->rows.Perm L
theorem IY (row:List D) (rows:List (List D)) (mm:Nat) (σ:List Bool) (hr:Sh σ (row.take mm)) (hs:∀ r∈rows,Sh σ (r.take mm)) :
  ∀ (n j:Nat) (k:Ks),j<=rows.length->rows.length - j < n ->
  eJ (dU [2] (gG (fB (f2 fD (af 4) (fL dC (ah (af 2) (ax))))) (fB (f2 fD (aV (f2 aE (af 2) (af 4)) (aK) (bi (af 1))) (aV (af 3) (aK) (bi (af 1))))))) (bO 4 (f2 bJ (af 4) (fC (.int 1)))) k n
   [none,some (.val (.int mm)),some (.own (.lst (rows.map .tup))),some (.val (.tup row)),some (.val (.int j))]
   = k.nx [none,some (.val (.int mm)),some (.own (.lst (rows.map .tup))),some (.val (.tup row)),some (.val (.int ((j+cnt mm (row.take mm) (rows.drop j):Nat):Int)))]:=by
 have pk:∀ (f:az->R Bool) (ρ:az),dU [2] f ρ=De (f (frz 2 ρ)):=fun _ _=>rfl
 intro n
 induction n with
 | zero=>intro j k h1 h2; omega
 | succ n ih =>
  intro j k h1 h2
  have e0:∀ (c:az->R Bool) (B:cB) (k:Ks) (n:Nat) (ρ:az),eJ c B k (n+1) ρ=rH (c ρ) k ρ fun b=>if b then B ⟨eJ c B k n,k.nx,eJ c B k n,k.ex⟩ ρ else k.nx ρ:=fun _ _ _ _ _=>rfl
  rw [e0]
  by_cases hj:j < rows.length
  ·have hd:rows.drop j=rows[j]::rows.drop (j+1):=P8 hj
   have er:aE (.lst (rows.map .tup)) (.int (j:Int))=some (.tup rows[j]):=by
    rw [zm,iy,gJ hj]; rfl
   have lt:=DY (hs rows[j] (QA hj)) hr
   have lj:decide ((j:Int) < (rows.length:Int))=true:=by simpa using hj
   have ec:dU [2] (gG (fB (f2 fD (af 4) (fL dC (ah (af 2) (ax))))) (fB (f2 fD (aV (f2 aE (af 2) (af 4)) (aK) (bi (af 1))) (aV (af 3) (aK) (bi (af 1)))))) [none,some (.val (.int mm)),some (.own (.lst (rows.map .tup))),some (.val (.tup row)),some (.val (.int j))]=.ok (kLt (rows[j].take mm) (row.take mm)):=by
    rw [pk]
    simp! only [OC,lj,er,fh,lt]
   rw [ec,nz]
   cases hk:kLt (rows[j].take mm) (row.take mm) with
   | true =>
    rw [if_pos rfl]
    simp! only []
    have ih':=ih (j+1) k ‹0› ‹0›
    have ecast:((j+1:Nat):Int)=(j:Int)+1:=by omega
    rw [ecast] at ih'
    rw [ih',hd]
    have:cnt mm (row.take mm) (rows[j]::rows.drop (j+1))=cnt mm (row.take mm) (rows.drop (j+1))+1:=by
     rw [cnt,if_pos (GO.mp hk)]
    rw [this,show j+1+cnt mm (row.take mm) (rows.drop (j+1))=j+(cnt mm (row.take mm) (rows.drop (j+1))+1) by omega]
   | false =>
    rw [if_neg Ot,hd]
    have:cnt mm (row.take mm) (rows[j]::rows.drop (j+1))=0:=by
     rw [cnt,if_neg (fun z=>by rw [GO.mpr z] at hk; cases hk)]
    rw [this,Q3]
  ·have ej:j=rows.length:=by omega
   have lj:decide ((j:Int) < (rows.length:Int))=false:=by simp [ej]
   have ec:dU [2] (gG (fB (f2 fD (af 4) (fL dC (ah (af 2) (ax))))) (fB (f2 fD (aV (f2 aE (af 2) (af 4)) (aK) (bi (af 1))) (aV (af 3) (aK) (bi (af 1)))))) [none,some (.val (.int mm)),some (.own (.lst (rows.map .tup))),some (.val (.tup row)),some (.val (.int j))]=.ok false:=by
    rw [pk]
    simp! only [OC,lj]
   rw [ec,nz,if_neg Ot,QU ‹0›]
   show _=k.nx [none,some (.val (.int mm)),some (.own (.lst (rows.map .tup))),some (.val (.tup row)),some (.val (.int ((j+0:Nat):Int)))]
   rw [Q3]
theorem uT (L:List (List D)) (mm:Nat) (σ:List Bool) (hL:∀ r∈L,Sh σ (r.take mm)) (hl:L.length<=150):∃ rows:List (List D),L1 mm L rows/\aP dA 2 5 [.lst (L.map .tup),.int mm]=.ok (.tup (rows.map .tup)):=by
 obtain⟨T,hT⟩:∃ T:cB,T=(aN (pW (bT (af 0)) (gN 3) (aN (bO 4 (fC (.int 0))) (fZ [0] (aN (mq 200 (dU [2] (gG (fB (f2 fD (af 4) (fL dC (ah (af 2) (ax))))) (fB (f2 fD (aV (f2 aE (af 2) (af 4)) (aK) (bi (af 1))) (aV (af 3) (aK) (bi (af 1))))))) (bO 4 (f2 bJ (af 4) (fC (.int 1))))) (aN (iq (dU [2] (yc (fB (f2 gQ (af 4) (fL dC (ah (af 2) (ax))))) (fB (f2 tR (aV (f2 aE (af 2) (af 4)) (aK) (bi (af 1))) (aV (af 3) (aK) (bi (af 1))))))) (zH 2 Ab (ah (af 4) (ah (af 3) (ax)))) (cG)) (fZ [3,4] cG)))))) (pE 2 (bH (fL cI (ah (af 2) (ax)))))):=⟨_,rfl⟩
 have key:∃ rows:List (List D),L1 mm L rows/\T K0 [some (.val (.lst (L.map .tup))),some (.val (.int mm)),some (.own (.lst [])),none,none]=.ok (.tup (rows.map .tup)):=by
  rw [hT,fQ,i6]
  simp! only []
  refine oV (Q:=fun z=>∃ rows:List (List D),L1 mm L rows/\z=.ok (.tup (rows.map .tup)))
   (fun i ρ=>∃ (x:Option S) (rows:List (List D)),L1 mm (L.take i) rows/\ρ=[x,some (.val (.int mm)),some (.own (.lst (rows.map .tup))),none,none]) ?_ ⟨_,[],⟨(fun _ h=>nomatch h),List.Pairwise.nil,Ow _,fun _=>List.Perm.refl _⟩,rfl⟩ ?_
  ·rintro i d ρ k' hd ⟨x,rows,M,rfl⟩
   have hi:=eD hd
   rw [OC] at hi
   obtain⟨vs,hvs,rfl⟩:∃ vs,L[i]?=some vs/\d=.tup vs:=by
    rw [OS] at hd
    cases h:L[i]? with
    | none=>rw [h] at hd; cases hd
    | some cl=>rw [h] at hd; cases hd; exact⟨cl,rfl,rfl⟩
   have vm:=OV hvs
   have r3:rows.length<=i:=by have:=M.len; rw [OL] at this; omega
   have hs:∀ r∈rows,Sh σ (r.take mm):=fun r hr=>hL r (QQ (M.sub r hr))
   have tk:L.take (i+1)=L.take i++[vs]:=by rw [PZ,hvs]; rfl
   have hr:=hL vs vm
   refine⟨_,_,rfl,⟨none,iN mm vs rows,⟨fun r hr=>?_,sM hr hs M.ris,?_,fun pw=>?_⟩,rfl⟩,?_⟩
   ·rw [tk]
    rcases oM hr with z | z
    ·rw [z]; exact List.mem_append.mpr (.inr (List.mem_singleton.mpr rfl))
    ·exact List.mem_append.mpr (.inl (M.sub r z))
   ·have:=tO (m:=mm) (row:=vs) rows
    have:=M.len
    rw [tk,OW,O6]; omega
   ·rw [tk] at pw ⊢
    obtain⟨p1,_,p3⟩:=List.pairwise_append.mp pw
    exact(B7 fun r hr=>p3 r (M.sub r hr) vs (List.mem_singleton.mpr rfl)).trans ((M.perm p1).append (List.Perm.refl _))
   ·have wh:=fun (k:Ks)=>IY vs rows mm σ hr hs 200 0 k ‹0› ‹0›
    rw [Py,Qm] at wh
    have cl1:=AC mm (vs.take mm) rows
    generalize hp:cnt mm (vs.take mm) rows=p at wh cl1
    have pk:∀ (f:az->R Bool) (ρ:az),dU [2] f ρ=De (f (frz 2 ρ)):=fun _ _=>rfl
    simp! only [TG.vI]
    refine Eq.trans (wh _) ?_
    simp! only [pk,OC]
    by_cases h1:p=rows.length
    ·have hins:iN mm vs rows=rows.take p++vs::rows.drop p:=by
      rw [jz rows,hp,if_neg (by rw [h1,QI (Ow _)]; simp)]
     rw [hins]
     have b1:((p:Int)==(rows.length:Int))=true:=by simp [h1]
     simp! only [b1]
     rw [ml _ _ _ _ _ (xs:=rows.map .tup) rfl]
     simp! only [wt (xs:=rows.map D.tup) (i:=p) (y:=.tup vs) (by rw [OC]; omega) (by rw [OC]; omega)]
     rw [PX,OB,QS,QR]
    ·have b1:((p:Int)==(rows.length:Int))=false:=by simp; omega
     have hp':p < rows.length:=by omega
     have er:aE (.lst (rows.map .tup)) (.int (p:Int))=some (.tup rows[p]):=by
      rw [zm,iy,gJ hp']; rfl
     have ne:=D3 (hs rows[p] (QA hp')) hr
     by_cases h2:rows[p].take mm=vs.take mm
     ·have b2:pyEqL (rows[p].take mm) (vs.take mm)=true:=(kB (hs _ (QA hp')) hr).mpr h2
      have hins:iN mm vs rows=rows:=by
       rw [jz rows,hp,PJ hp',QO,if_pos (by rw [h2])]
      rw [hins]
      simp! only [b1,er,fh,ne,b2]
     ·have b2:pyEqL (rows[p].take mm) (vs.take mm)=false:=by
       cases hb:pyEqL (rows[p].take mm) (vs.take mm) with
       | false=>rfl
       | true=>exact absurd ((kB (hs _ (QA hp')) hr).mp hb) h2
      have hins:iN mm vs rows=rows.take p++vs::rows.drop p:=by
       rw [jz rows,hp,PJ hp',QO,if_neg (fun z=>h2 (Option.some.inj z))]
      rw [hins]
      simp! only [b1,er,fh,ne,b2]
      rw [ml _ _ _ _ _ (xs:=rows.map .tup) rfl]
      simp! only [wt (xs:=rows.map D.tup) (i:=p) (y:=.tup vs) (by rw [OC]; omega) (by rw [OC]; omega)]
      rw [PX,OB,QS,QR]
  ·rintro ρ' ⟨x,rows,M,rfl⟩
   rw [OC,P5] at M
   refine⟨rows,M,?_⟩
   simp! only []
 obtain⟨rows,r1,r5⟩:=key
 refine⟨rows,r1,?_⟩
 rw [cH]; unfold dA
 rw [<- hT]
 simp only [K0] at r5
 simp! only [Hr,r5]
theorem DR:∀ {n:Nat} {d:D},rT n d->pl d=true
 | 0,_,h=>h.elim
 | n+1,d,h=>by
  rcases h with ⟨i,rfl⟩ | ⟨w,rfl⟩ | ⟨b,rfl⟩ | ⟨ds,rfl,_,q⟩
  ·exact Jh
  ·exact IR
  ·exact Kt
  ·rw [dE]
   exact AI fun x hx=>DR (q x hx)
theorem Gr {rows:List (List D)} (h:pl (.tup (rows.map .tup))=true):tR (.tup (rows.map .tup)) (.tup [])=some (.bl (!rows.isEmpty)):=by
 have e:tR (.tup (rows.map .tup)) (.tup [])=if (pl (.tup (rows.map .tup)) && pl (.tup [])) && (dr 8 (.tup (rows.map .tup)) || dr 8 (.tup [])) then some (.bl (!pyEq (.tup (rows.map .tup)) (.tup []))) else none:=rfl
 have d:dr 8 (.tup [])=true:=rfl
 have p2:pl (.tup [])=true:=rfl
 rw [e,h,p2,d,Bool.or_true]
 show some (D.bl (!pyEq (.tup (rows.map .tup)) (.tup [])))=_
 rw [pyEq]
 cases rows with
 | nil=>rfl
 | cons a r =>
  have z:pyEqL (.tup a::r.map .tup) []=false:=by unfold pyEqL; rfl
  rw [OB,z]; rfl
theorem xr:∀ {σ:List Bool} {l:List D},Sh σ l->∃ ks:List Key,l=ks.map fH
 | _,_,.nil=>⟨[],rfl⟩
 | _,_,.int x h=>let ⟨ks,e⟩:=xr h; ⟨.inl x::ks,by rw [e]; rfl⟩
 | _,_,.str x h=>let ⟨ks,e⟩:=xr h; ⟨.inr x::ks,by rw [e]; rfl⟩
def ky (l:List D):List Key:=(keysOf l).getD []
theorem vp {σ:List Bool} {l:List D} (h:Sh σ l):l=(ky l).map fH:=by
 obtain⟨ks,rfl⟩:=xr h
 unfold ky
 rw [eZ]; rfl
theorem Io {σ:List Bool} {a b:List D} (ha:Sh σ a) (hb:Sh σ b):decide (ky a=ky b)=pyEqL a b:=by
 have e:=kB ha hb
 by_cases z:a=b
 ·rw [e.mpr z,z]; simp
 ·have n:pyEqL a b=false:=by
   cases q:pyEqL a b with
   | false=>rfl
   | true=>exact absurd (e.mp q) z
  rw [n,decide_eq_false]
  intro w
  exact z (by rw [vp ha,vp hb,w])
theorem zx:∀ (ps al:List (List Key×D)),((al++ps).map (·.1)).Nodup->ps.foldl (fun al p=>sR al p.1 p.2) al=al++ps
 | [],al,_=>by simp
 | p::ps,al,h=>by
  have nw:(al.any fun q=>decide (q.1=p.1))=false:=by
   rw [Oz]
   intro q hq z
   have z:q.1=p.1:=by simpa using z
   rw [PX,Qq] at h
   exact h.2.2 q.1 (List.mem_map.mpr ⟨q,hq,rfl⟩) p.1 (by simp) z
  rw [QN,El nw,zx ps _ (by rw [P9]; exact h),P9]; rfl
theorem DS {ps:List (List Key×D)} (h:(ps.map (·.1)).Nodup):vt ps=ps:=by
 unfold vt
 rw [zx ps [] h]; rfl
theorem yX {σ:List Bool} (f:List D->List D) (g:List D->D):∀ rows:List (List D),(∀ o∈rows,Sh σ (f o))->km (rows.map fun o=>.tup [.tup (f o),g o])=some (rows.map fun o=>(ky (f o),g o))
 | [],_=>rfl
 | o::r,h=>by
  have ih:=yX f g r fun x hx=>h x (Ol _ hx)
  have e:oQ (.tup (f o))=some (ky (f o)):=by
   conv=>lhs; rw [vp (h o Oj)]
   exact eZ _
  show ((oQ (.tup (f o))).map fun q=>(q,g o)).bind (fun p=>(km (r.map fun o=>.tup [.tup (f o),g o])).map (p::·))=_
  rw [e,ih]; rfl
theorem qi (xs:List D):kZ [.tup xs]=some (.lst xs):=nr rfl
theorem Hh {s:Kd} {i:Nat} (kf' rf':List D) (l':kf'.length+rf'.length<=20) (fk':∀ f∈kf',∃ nm k,f=.tup [.str nm,k]/\pP k) (fr':∀ f∈rf',∃ nm k,f=.tup [.str nm,k]/\vG 1 k) (cells:List Int) (hc:cells.length<=63) (ps':List (Str×D)) (ep:kf'++rf'=ps'.map fld) (ks:List D) (qk:∀ k∈ks.take kf'.length,pP k) (mono:∀ r,F2 (jr 1) (ps'.map (·.2)) r->F2 (jr 1) ks r) (kl:ks.length<=40) (seen:List (List D)) (hsl:seen.length<=63) (hs:∀ r∈seen,F2 (jr 1) ks r) (hi:∀ r∈seen,i < r.length/\s.sort (pU i r)) :
  ∃ V:List (List D),(∀ r∈V,F2 (jr 1) ks r)/\yQ kf'.length V/\V.length<=seen.length+cells.length/\aP iG 5 9 [.tup [.tup kf',.tup rf'],.int i,.tup (seen.map .tup),s.d,.lst (cells.map .int)]=.ok (.tup (V.map .tup)):=by
 obtain⟨ps1,dw,e1,lp1,q1,q2,r1,_,r3,_,r5⟩:=pV 1 11 (aU 11) (fun k c hk=>A2 8 k c hk) kf' rf' l' fk' fr' cells ‹0›
 rw [<- dP] at r5
 have pe:ps1.map (·.2)=ps'.map (·.2):=by
  have z:ps1.map fld=ps'.map fld:=by rw [<- ep]; exact e1.symm
  have:=congrArg (List.map fun d:D=>match d with | .tup [_,k]=>k | _=>.non) z
  rw [QF,QF] at this
  exact this
 rw [pe] at r1 q2
 have lk:(ps'.map (·.2)).length=kf'.length+rf'.length:=by rw [<- pe,OC,lp1]
 obtain⟨σ,hσ⟩:=F2.keySh (kf:=kf') qk
 have sh:∀ r,F2 (jr 1) ks r->Sh σ (r.take kf'.length):=fun r f=>hσ _ (F2.flat qk (F2.take kf'.length f))
 have aD:rT 5 (.tup (dw.map .tup)):=sG (n:=3) (fun k v q=>jr.aok 1 q) ‹0› ‹0› r1
 have nu:=Gr (DR aD)
 have g3:=fun i=>bL (i:=i) (show (0:Int) < 3 by decide)
 have rn:=fX seen.length ‹0›
 obtain⟨T,hT⟩:∃ T:cB,T=(pE 7 (bH (fR (aP dA 2 5) (ah (f2 bJ (af 7) (fL kZ (ah (af 6) (ax)))) (ah (af 5) (ax)))))):=⟨_,rfl⟩
 obtain⟨c1,hc1⟩:∃ c:az->R Bool,c=(gG (fB (f2 gQ (f2 bX (af 8) (fC (.int 3))) (fC (.int 0)))) (cu (fR (aP cf 2 2) (ah (af 3) (ah (f2 aE (f2 aE (af 2) (af 8)) (af 1)) (ax)))))):=⟨_,rfl⟩
 obtain⟨c2,hc2⟩:∃ c:az->R Bool,c=(gG (fB (f2 gQ (f2 bX (af 8) (fC (.int 3))) (fC (.int 1)))) (gG (fB (f2 tR (af 6) (cY (ax)))) (yc (fB (f2 Ki (af 1) (af 5))) (cu (fR (aP cf 2 2) (ah (af 3) (ah (f2 aE (f2 aE (af 2) (af 8)) (af 1)) (ax)))))))):=⟨_,rfl⟩
 rw [zU]; unfold iG
 rw [<- hT,<- hc1,<- hc2]
 simp! only [r5,Hr,OC,rn]
 refine oV (Q:=fun z=>∃ V:List (List D),(∀ r∈V,F2 (jr 1) ks r)/\yQ kf'.length V/\V.length<=seen.length+cells.length/\z=.ok (.tup (V.map .tup)))
  (fun j ρ=>∃ (rows:List (List D)),(∀ r∈rows,F2 (jr 1) ks r)/\rows.length<=j/\ρ=[none,some (.val (.int i)),some (.val (.tup (seen.map .tup))),some (.val s.d),none,some (.val (.int kf'.length)),some (.val (.tup (dw.map .tup))),some (.own (.lst (rows.map .tup))),none]) ?_ ⟨[],(fun _ h=>nomatch h),Ow _,rfl⟩ ?_
 ·rintro j d ρ k' hd ⟨rows,w1,w2,rfl⟩
  have hj:=eD hd
  rw [bV] at hj
  have hdj:d=.int (j:Int):=by
   rw [i9,OS,P7 hj] at hd
   cases hd; simp
  subst hdj
  have es:aE (.tup (seen.map .tup)) (.int (j:Int))=some (.tup seen[j]):=by
   rw [yk,iy,gJ hj]; rfl
  have sm':=QA hj
  have fs:=hs seen[j] sm'
  obtain⟨oi,os⟩:=hi seen[j] sm'
  have va:=sI oi
  have io:=(o6 os).2
  generalize hx:s.has (pU i seen[j])=hv at io
  have C1:∀ x:Option S,c1 [none,some (.val (.int i)),some (.val (.tup (seen.map .tup))),some (.val s.d),none,some (.val (.int kf'.length)),some (.val (.tup (dw.map .tup))),x,some (.val (.int j))]=.ok (((j:Int)%3==0) && hv):=fun x=>by
   rw [hc1]
   cases h0:((j:Int)%3==0) <;> simp! only [g3,h0,es,va,io,Q2,Ov]
  have C2:∀ x:Option S,c2 [none,some (.val (.int i)),some (.val (.tup (seen.map .tup))),some (.val s.d),none,some (.val (.int kf'.length)),some (.val (.tup (dw.map .tup))),x,some (.val (.int j))]=.ok (((j:Int)%3==1) && ((!dw.isEmpty) && (decide ((kf'.length:Int)<=(i:Int)) || hv))):=fun x=>by
   rw [hc2]
   cases h0:((j:Int)%3==1) <;> cases h1:(!dw.isEmpty) <;> cases h2:decide ((kf'.length:Int)<=(i:Int)) <;> simp! only [g3,h0,es,va,io,Kg,nu,h1,h2,Q2,Ov,Pa,Pb,PN]
  cases b1:(((j:Int)%3==0) && hv) with
  | true =>
   have b2:(((j:Int)%3==1) && ((!dw.isEmpty) && (decide ((kf'.length:Int)<=(i:Int)) || hv)))=false:=by
    rw [O1] at b1
    have z:(j:Int)%3=0:=by simpa using b1.1
    rw [z]; rfl
   rw [b1] at C1
   rw [b2] at C2
   have ap:pQ (rows.map .tup) [.tup seen[j]]=some ((rows++[seen[j]]).map .tup):=by
    rw [vU (by rw [OC]; omega),PX]; rfl
   refine⟨_,_,rfl,⟨rows++[seen[j]],fun r hr=>?_,by rw [OW,O6]; omega,rfl⟩,?_⟩
   ·rcases List.mem_append.mp hr with y | y
    ·exact w1 r y
    ·rw [QJ] at y; subst y; exact fs
   ·have sm:=fun K:Ks=>ml 7 pQ (ah (f2 aE (af 2) (af 8)) (ax)) K [none,some (.val (.int i)),some (.val (.tup (seen.map .tup))),some (.val s.d),none,some (.val (.int kf'.length)),some (.val (.tup (dw.map .tup))),some (.own (.lst (rows.map .tup))),some (.val (.int j))] (xs:=rows.map .tup) rfl
    simp! only [C1,C2,sm,es,ap]
  | false =>
   rw [b1] at C1
   cases b2:(((j:Int)%3==1) && ((!dw.isEmpty) && (decide ((kf'.length:Int)<=(i:Int)) || hv))) with
   | false =>
    rw [b2] at C2
    refine⟨_,_,rfl,⟨rows,w1,by omega,rfl⟩,?_⟩
    simp! only [C1,C2]
   | true =>
    rw [b2] at C2
    rw [O1,O1] at b2
    have dl:0 < dw.length:=by
     cases dw with
     | nil=>cases b2.2.1
     | cons _ _=>simp
    have gd:=fun i=>bL (i:=i) (j:=(dw.length:Int)) ‹0›
    obtain⟨o,om,eo⟩:∃ o∈dw,aE (.tup (dw.map .tup)) (.int ((j:Int)%(dw.length:Int)))=some (.tup o):=by
     have y1:=QZ (j:Int) (show (dw.length:Int)≠0 by omega)
     have y2:=Q1 (j:Int) (show (0:Int) < (dw.length:Int) by omega)
     refine⟨dw[((j:Int)%(dw.length:Int)).toNat]'‹0›,QA _,?_⟩
     rw [yk,iy,o4 y1 y2]; rfl
    have fo:=mono o (r1 o om)
    have lo:=fo.length
    have ls:=fs.length
    have ad:=e8 (seen[j].take kf'.length) (o.drop kf'.length) (by rw [OL,O0]; omega)
    have ap:pQ (rows.map .tup) [.tup (seen[j].take kf'.length++o.drop kf'.length)]=some ((rows++[seen[j].take kf'.length++o.drop kf'.length]).map .tup):=by
     rw [vU (by rw [OC]; omega),PX]; rfl
    refine⟨_,_,rfl,⟨rows++[seen[j].take kf'.length++o.drop kf'.length],fun r hr=>?_,by rw [OW,O6]; omega,rfl⟩,?_⟩
    ·rcases List.mem_append.mp hr with y | y
     ·exact w1 r y
     ·rw [QJ] at y; subst y
      have:=(F2.take kf'.length fs).append (F2.drop kf'.length fo)
      rwa [Q7] at this
    ·have sm:=fun K:Ks=>ml 7 pQ (ah (f2 bJ (aV (f2 aE (af 2) (af 8)) (aK) (bi (af 5))) (aV (f2 aE (af 6) (f2 bX (af 8) (fL dC (ah (af 6) (ax))))) (bi (af 5)) (aK))) (ax)) K [none,some (.val (.int i)),some (.val (.tup (seen.map .tup))),some (.val s.d),none,some (.val (.int kf'.length)),some (.val (.tup (dw.map .tup))),some (.own (.lst (rows.map .tup))),some (.val (.int j))] (xs:=rows.map .tup) rfl
     simp! only [C1,C2,sm,es,OC,gd,eo,fh,lK,ad,ap]
 ·rintro ρ' ⟨rows,w1,w2,rfl⟩
  rw [bV] at w2
  have ad:=oo (rows.map D.tup) (dw.map D.tup) (by rw [OC,OC]; omega)
  rw [<- PX] at ad
  have all:∀ r∈rows++dw,F2 (jr 1) ks r:=fun r hr=>by
   rcases List.mem_append.mp hr with y | y
   ·exact w1 r y
   ·exact mono r (r1 r y)
  obtain⟨rs,M,m3⟩:=uT (rows++dw) kf'.length σ (fun r hr=>sh r (all r hr)) (by rw [OW]; omega)
  have m2:=M.len
  refine⟨rs,fun r hr=>all r (M.sub r hr),M.ris,by rw [OW] at m2; omega,?_⟩
  rw [hT]
  simp! only [qi,ad,m3]
structure Lg (m:Nat) (rows:List (List D)):Prop where
 ex:∃ σ:List Bool,σ≠[]/\∀ r∈rows,Sh σ (r.take m)
 pw:rows.Pairwise fun r s=>r.take m≠s.take m
 hl:rows.length < 64
theorem Lg.k {m:Nat} {rows:List (List D)} (h:Lg m rows):J4 m (rows.map .tup):=by
 obtain⟨σ,h1,h2⟩:=h.ex
 refine⟨by rw [OC]; exact h.hl,σ,h1,fun x hx=>?_,?_⟩
 ·obtain⟨r,hr,rfl⟩:=List.mem_map.mp hx
  exact⟨r,rfl,h2 r hr⟩
 ·rw [QB]
  exact h.pw
theorem Lg.one {m:Nat} {rows fs:List (List D)} (h:Lg m rows) (f1:yQ m fs) (f2:fs.Perm rows):lX (uh m) (rows.map .tup)=fs.map .tup:=by
 obtain⟨σ,h1,h2⟩:=h.ex
 refine yU (σ:=σ) (fun x hx=>?_) ?_ ?_ (f2.map _)
 ·obtain⟨r,hr,rfl⟩:=List.mem_map.mp hx
  exact h2 r hr
 ·rw [QB]
  exact h.pw
 ·unfold yB
  rw [QB]
  exact f1
theorem Lg.prog {m:Nat} {rows fs:List (List D)} (h:Lg m rows) (f1:yQ m fs) (f2:fs.Perm rows):aP iD 2 2 [.int m,.lst (rows.map .tup)]=.ok (.tup (fs.map .tup)):=by
 have e:pX (.lst (rows.map .tup)) (.int m)=some (.lst (fs.map .tup)):=by
  show (if (0:Int)<=(m:Int) then sF ((m:Int)).toNat (rows.map .tup) else none)=_
  rw [if_pos ‹0›,OX]
  unfold sF
  rw [if_pos h.k,h.one f1 f2]
 rw [cH]
 unfold iD
 simp! only [e]
def nw (V:List (List D)) (m:Nat) (o:List D):Bool:=!(V.any fun r=>pyEqL (r.take m) (o.take m))
structure Pu (m i:Nat) (s:Kd) (σ:List Bool) (rows V:List (List D)):Prop where
 hσ:σ≠[]
 sv:∀ r∈V,Sh σ (r.take m)
 so:∀ o∈rows,Sh σ (o.take m)
 pv:V.Pairwise fun r s=>r.take m≠s.take m
 po:rows.Pairwise fun r s=>r.take m≠s.take m
 le:V.length+rows.length < 64
 iv:∀ o∈rows,i < o.length/\s.sort (pU i o)
def rst (m i:Nat) (s:Kd) (rows V:List (List D)):List (List D):=rows.filter fun o=>nw V m o && !s.has (pU i o)
section
variable {m i:Nat} {s:Kd} {σ:List Bool} {rows V:List (List D)}
theorem Pu.pw (P:Pu m i s σ rows V):(V++rst m i s rows V).Pairwise fun r s=>r.take m≠s.take m:=by
 refine List.pairwise_append.mpr ⟨P.pv,P.po.sublist Q8,fun r hr o ho e=>?_⟩
 obtain⟨om,h⟩:=List.mem_filter.mp ho
 rw [O1] at h
 have h1:=h.1
 unfold nw at h1
 have:(V.any fun r=>pyEqL (r.take m) (o.take m))=true:=List.any_eq_true.mpr ⟨r,hr,(kB (P.sv r hr) (P.so o om)).mpr e⟩
 rw [this] at h1
 cases h1
theorem Pu.sub {r:List D} (h:r∈V++rst m i s rows V):r∈V\/r∈rows:=(List.mem_append.mp h).imp id fun z=>(List.mem_filter.mp z).1
theorem Pu.len:(V++rst m i s rows V).length<=V.length+rows.length:=by
 rw [OW]
 have:(rst m i s rows V).length<=rows.length:=Q6 _ _
 omega
theorem Pu.sh (P:Pu m i s σ rows V) {r:List D} (h:r∈V++rst m i s rows V):Sh σ (r.take m):=(Pu.sub h).elim (P.sv r) (P.so r)
theorem Pu.srt (P:Pu m i s σ rows V):Lg m (V++rst m i s rows V):=⟨⟨σ,P.hσ,fun _ h=>P.sh h⟩,P.pw,by have:=P.le; have:=Pu.len (m:=m) (i:=i) (s:=s) (rows:=rows) (V:=V); omega⟩
theorem G5 (P:Pu m i s σ rows V):∃ fs:List (List D),yQ m fs/\fs.Perm (V++rst m i s rows V)/\aP jk 5 7 [.tup (rows.map .tup),.tup (V.map .tup),.int i,.int m,s.d]=.ok (.tup (fs.map .tup)):=by
 have le:=P.le
 have ln:=Pu.len (m:=m) (i:=i) (s:=s) (rows:=rows) (V:=V)
 obtain⟨fs,M,m3⟩:=uT (V++rst m i s rows V) m σ (fun r h=>P.sh h) ‹0›
 refine⟨fs,M.ris,M.perm P.pw,?_⟩
 have f0:gR [none,some 3] (bT (af 1)) (gN 0) (cK) (aV (af 0) (aK) (bi (af 1))) [some (.val (.tup (rows.map .tup))),some (.val (.tup (V.map .tup))),some (.val (.int i)),some (.val (.int m)),some (.val s.d),none,none]=.ok (.lst (V.map fun r=>.tup (r.take m))):=by
  refine cP (ds:=V.map .tup) (by simp! only []) (by rw [OC]; omega) ?_
  refine iW (fun r=>D.tup r) (fun r=>.tup (r.take m)) V fun o ho=>⟨_,rfl,rfl,?_⟩
  simp! only [fh]
 have ni:∀ o∈rows,lm (.tup (o.take m)) (.lst (V.map fun r=>.tup (r.take m)))=some (.bl (nw V m o)):=fun o ho=>by
  show (if (pl (.tup (o.take m)) && lJ (V.map fun r=>.tup (r.take m))) && dr 8 (.tup (o.take m)) then some (D.bl (!inD (.tup (o.take m)) (V.map fun r=>.tup (r.take m)))) else none)=_
  have d:dr 8 (.tup (o.take m))=true:=by show (o.take m).all (dr 7)=true; exact ya 6 (P.so o ho)
  have pv:lJ (V.map fun r=>.tup (r.take m))=true:=AI fun x hx=>by
   obtain⟨r,hr,rfl⟩:=List.mem_map.mp hx
   rw [dE]; exact uK (P.sv r hr)
  rw [d,pv,dE,uK (P.so o ho)]
  show some (D.bl (!inD (.tup (o.take m)) (V.map fun r=>.tup (r.take m))))=_
  have e:inD (.tup (o.take m)) (V.map fun r=>.tup (r.take m))=V.any fun r=>pyEqL (r.take m) (o.take m):=by
   unfold inD
   rw [QE]
   congr 1
  rw [e]; rfl
 have f1:gR [none,some 4,some 2,some 3,some 5] (bT (af 0)) (gN 0) (gG (jT (cu (fR (aP cf 2 2) (ah (af 1) (ah (f2 aE (af 0) (af 2)) (ax)))))) (fB (f2 lm (aV (af 0) (aK) (bi (af 3))) (af 4)))) (af 0) [some (.val (.tup (rows.map .tup))),some (.val (.tup (V.map .tup))),some (.val (.int i)),some (.val (.int m)),some (.val s.d),some (.val (.lst (V.map fun r=>.tup (r.take m)))),none]=.ok (.lst ((rst m i s rows V).map .tup)):=by
  refine cP (ds:=rows.map .tup) (by simp! only []) (by rw [OC]; omega) ?_
  refine dD D.tup (fun o=>nw V m o && !s.has (pU i o)) D.tup rows fun o ho=>⟨_,rfl,?_,rfl⟩
  obtain⟨oi,os⟩:=P.iv o ho
  have va:=sI oi
  have io:=(o6 os).2
  have n:=ni o ho
  cases hh:s.has (pU i o) with
  | true =>
   rw [hh] at io
   simp! only [va,io,PN,QX]
  | false =>
   rw [hh] at io
   simp! only [va,io,fh,n,PL,QY]
 have ad:=oo (V.map D.tup) ((rst m i s rows V).map D.tup) (by rw [OC,OC,<- OW]; omega)
 rw [<- PX] at ad
 rw [zU]; unfold jk
 simp! only [f0,f1,qi,ad,m3]
theorem D6 (P:Pu m i s σ rows V) {fs:List (List D)} (h1:yQ m fs) (h2:fs.Perm (V++rst m i s rows V)):aP jc 3 4 [.int m,.tup (V.map .tup),.lst ((rows.filter fun o=>!s.has (pU i o)).map .tup)]=.ok (.tup (fs.map .tup)):=by
 have le:=P.le
 have ln:=Pu.len (m:=m) (i:=i) (s:=s) (rows:=rows) (V:=V)
 have hl:(rows.filter fun o=>!s.has (pU i o)).length<=rows.length:=Q6 _ _
 have f0:gR [none,some 0] (bT (af 1)) (gN 0) (cK) (cY (ah (aV (af 0) (aK) (bi (af 1))) (ah (af 0) (ax)))) [some (.val (.int m)),some (.val (.tup (V.map .tup)))]=.ok (.lst (V.map fun o=>.tup [.tup (o.take m),.tup o])):=by
  refine cP (ds:=V.map .tup) (by simp! only []) (by rw [OC]; omega) ?_
  refine iW (fun r=>D.tup r) (fun o=>.tup [.tup (o.take m),.tup o]) V fun o ho=>⟨_,rfl,rfl,?_⟩
  simp! only [fh,qB]
 have hp:=yX (σ:=σ) (fun o=>o.take m) D.tup V fun o ho=>P.sv o ho
 have nd:((V.map fun o=>(ky (o.take m),D.tup o)).map (·.1)).Nodup:=by
  rw [QF]
  refine List.pairwise_map.mpr (P.pv.imp_of_mem fun {o o'} ho ho' hne e=>hne ?_)
  have e:ky (o.take m)=ky (o'.take m):=e
  rw [vp (P.sv o ho),vp (P.sv o' ho'),e]
 have gd:vN [.lst (V.map fun o=>.tup [.tup (o.take m),.tup o])]=some (vP (V.map fun o=>(ky (o.take m),.tup o))):=by
  show (km (V.map fun o=>.tup [.tup (o.take m),.tup o])).bind (fun ps=>if small ps.length then some (vP (vt ps)) else none)=_
  rw [hp]
  show (if small (V.map fun o=>(ky (o.take m),D.tup o)).length then some (vP (vt (V.map fun o=>(ky (o.take m),D.tup o)))) else none)=_
  rw [eA (by rw [OC]; omega),DS nd]; rfl
 have bk:aP lB 2 2 [.int m,.tup (V.map .tup)]=.ok (vP (V.map fun o=>(ky (o.take m),.tup o))):=by
  rw [cH]; unfold lB
  simp! only [f0,gd]
 have ni:∀ o∈rows,rz (.tup (o.take m)) (vP (V.map fun o=>(ky (o.take m),.tup o)))=some (.bl (nw V m o)):=fun o ho=>by
  have zs:=P.so o ho
  show (tG (encK (V.map fun o=>(ky (o.take m),D.tup o))) ((V.map fun o=>(ky (o.take m),D.tup o)).map (·.2)) (.tup (o.take m))).bind zE=_
  unfold tG
  rw [yH]
  show ((oQ (.tup (o.take m))).bind fun k=>some (D.bl ((V.map fun o=>(ky (o.take m),D.tup o)).any fun p=>decide (p.1=k)))).bind zE=_
  have e:oQ (.tup (o.take m))=some (ky (o.take m)):=by
   conv=>lhs; rw [vp zs]
   exact eZ _
  rw [e]
  show some (D.bl (!((V.map fun o=>(ky (o.take m),D.tup o)).any fun p=>decide (p.1=ky (o.take m)))))=_
  rw [QE]
  have:∀ l:List (List D),(∀ x∈l,x∈V)->(l.any ((fun p:List Key×D=>decide (p.1=ky (o.take m))) ∘ fun o=>(ky (o.take m),D.tup o)))=l.any fun r=>pyEqL (r.take m) (o.take m):=fun l=>by
   induction l with
   | nil=>intro _; rfl
   | cons x l ih =>
    intro hl
    rw [O9,O9,ih fun y hy=>hl y (Ol _ hy)]
    show (decide (ky (x.take m)=ky (o.take m)) || _)=_
    rw [Io (P.sv x (hl x Oj)) zs]
  rw [this V fun _ z=>z]; rfl
 generalize hal:vP (V.map fun o=>(ky (o.take m),D.tup o))=al at bk ni
 have f1:gR [none,some 0,some 3] (bT (af 2)) (gN 0) (fB (f2 rz (aV (af 0) (aK) (bi (af 1))) (af 2))) (af 0) [some (.val (.int m)),some (.val (.tup (V.map .tup))),some (.val (.lst ((rows.filter fun o=>!s.has (pU i o)).map .tup))),some (.val al)]=.ok (.lst ((rst m i s rows V).map .tup)):=by
  refine cP (ds:=(rows.filter fun o=>!s.has (pU i o)).map .tup) (by simp! only []) (by rw [OC]; omega) ?_
  have e:rst m i s rows V=(rows.filter fun o=>!s.has (pU i o)).filter (nw V m):=by
   rw [List.filter_filter]; rfl
  rw [e]
  refine dD D.tup (nw V m) D.tup _ fun o ho=>⟨_,rfl,?_,rfl⟩
  have n:=ni o (List.mem_filter.mp ho).1
  simp! only [fh,n]
 have ad:=oo (V.map D.tup) ((rst m i s rows V).map D.tup) (by rw [OC,OC,<- OW]; omega)
 rw [<- PX] at ad
 have so:=P.srt.prog h1 h2
 rw [nH]; unfold jc
 simp! only [bk,f1,qi,ad,so]
theorem CA (P:Pu m i s σ rows V) (hV:V=rows.filter fun o=>s.has (pU i o)):rows.Perm (V++rst m i s rows V):=by
 have e:rst m i s rows V=rows.filter fun o=>!s.has (pU i o):=by
  unfold rst
  refine List.filter_congr fun o ho=>?_
  cases hh:s.has (pU i o) with
  | true=>simp
  | false =>
   have:nw V m o=true:=by
    unfold nw
    rw [Bool.not_eq_true',Oz]
    intro r hr z
    rw [hV] at hr
    obtain⟨rm,rh⟩:=List.mem_filter.mp hr
    have z:=(kB (P.so r rm) (P.so o ho)).mp z
    have ne:r≠o:=fun w=>by rw [w,hh] at rh; cases rh
    have:∀ l:List (List D),(l.Pairwise fun r s=>r.take m≠s.take m)->r∈l->o∈l->False:=fun l=>by
     induction l with
     | nil=>intro _ h; cases h
     | cons x l ih =>
      intro pw h1 h2
      have pc:=List.pairwise_cons.mp pw
      rcases List.mem_cons.mp h1 with rfl | h1'
      ·rcases List.mem_cons.mp h2 with w | h2'
       ·exact ne w.symm
       ·exact pc.1 o h2' z
      ·rcases List.mem_cons.mp h2 with rfl | h2'
       ·exact pc.1 r h1' z.symm
       ·exact ih pc.2 h1' h2'
    exact this rows P.po rm ho
   rw [this]; rfl
 rw [e,hV]
 exact(List.filter_append_perm _ _).symm
end
section
variable {kf rf:List D} {ps:List (Str×D)} {i:Nat} {nm:Str} {k s c:Kd} {σ:List Bool} {rows V:List (List D)}
theorem EK (h:Ok kf rf ps i nm k s c) (P:Pu kf.length i s σ rows V) {fs:List (List D)} (h1:yQ kf.length fs) (h2:fs.Perm (V++rst kf.length i s rows V)) :
  aP eG 4 6 [stp nm s,.tup [.tup kf,.tup rf],.tup (rows.map .tup),.tup (V.map .tup)]=.ok (.tup (fs.map .tup)):=by
 have le:=P.le
 have pp:=kR kf rf ps h.pl h.e h.nd i nm _ h.at'
 have st:=D6 P h1 h2
 have f0:gR [none,some 0,some 4] (bT (af 2)) (gN 0) (jT (cu (fR (cw 12) (ah (f1 (gY "kind" ["Sieve"]) (af 1)) (ah (f2 aE (af 0) (af 2)) (ax)))))) (af 0) [some (.val (stp nm s)),some (.val (.tup [.tup kf,.tup rf])),some (.val (.tup (rows.map .tup))),some (.val (.tup (V.map .tup))),some (.val (.int i)),none]=.ok (.lst ((rows.filter fun o=>!s.has (pU i o)).map .tup)):=by
  refine cP (ds:=rows.map .tup) (by simp! only []) (by rw [OC]; omega) ?_
  refine dD D.tup (fun r=>!s.has (pU i r)) D.tup rows fun o ho=>⟨_,rfl,?_,rfl⟩
  obtain⟨oi,os⟩:=P.iv o ho
  have va:=sI oi
  have ft:=(o6 os).1
  simp! only [ir,va,ft]
 rw [HZ]; unfold eG
 simp! only [iY,pp,f0,st]
end
section
variable {kf rf:List D} {ps:List (Str×D)} {i:Nat} {nm:Str} {k s c:Kd}
theorem zf {xs:List D} {i:Nat} {o x:D} (h:x∈xs.set i o):x=o\/x∈xs:=(List.mem_or_eq_of_mem_set h).symm
theorem Ok.vfk (h:Ok kf rf ps i nm k s c):∀ f∈vk kf i (fld (nm,c.d)),∃ nm k,f=.tup [.str nm,k]/\pP k:=fun f hf=>by
 unfold vk at hf
 split at hf
 ·rcases zf hf with rfl | z
  ·exact⟨_,_,rfl,h.tw.flk.2⟩
  ·exact h.fk f z
 ·exact h.fk f hf
theorem Ok.vfr (h:Ok kf rf ps i nm k s c):∀ f∈vr kf rf i (fld (nm,c.d)),∃ nm k,f=.tup [.str nm,k]/\vG 1 k:=fun f hf=>by
 unfold vr at hf
 split at hf
 ·exact h.fr f hf
 ·rcases zf hf with rfl | z
  ·exact⟨_,_,rfl,h.tw.flk.2.kin⟩
  ·exact h.fr f z
theorem Ok.mono (h:Ok kf rf ps i nm k s c) {r:List D} (f:F2 (jr 1) ((ps.set i (nm,c.d)).map (·.2)) r):F2 (jr 1) (ps.map (·.2)) r:=by
 have l:=f.length
 rw [OC,O2] at l
 refine F2.of (by rw [OC]; exact l) fun j a b ha hb=>?_
 by_cases hj:j=i
 ·subst hj
  rw [OS,h.at'] at ha
  cases ha
  have g:=f.get (i:=j) (a:=c.d) (b:=b) (by rw [OS,Oo (eD h.at')]; rfl) hb
  have g:=(xf c b).mp (g.flat h.tw.flk.2)
  rw [h.tw.both,O1] at g
  exact .inl ((xf k b).mpr g.1)
 ·refine f.get (i:=j) ?_ hb
  rw [OS,Oq ‹0›,<- OS]
  exact ha
theorem Ok.ep (h:Ok kf rf ps i nm k s c):vk kf i (fld (nm,c.d))++vr kf rf i (fld (nm,c.d))=(ps.set i (nm,c.d)).map fld:=by
 rw [Ay,h.e,List.map_set]
theorem yS (h:Ok kf rf ps i nm k s c) (cells:List Int) (hc:cells.length<=30):aP dq 5 12 [stp nm s,.tup [.tup kf,.tup rf],.int i,c.d,.lst (cells.map .int)]=.ok (.bl true):=by
 have k1:=h.k1
 have kl:=h.kl
 have rl:=h.rl
 have il:=h.il
 have psl:=h.l
 have wo:=Hj h
 have vo:=Ho h
 have lvk:=zX kf i (fld (nm,c.d))
 have lvr:=IW kf rf i (fld (nm,c.d))
 have av:aL 12 [vw kf rf i (fld (nm,c.d)),vw kf rf i (fld (nm,c.d))]=.ok (.bl true):=jl 12 _ ((Mj.aok (show Mj 1 (vw kf rf i (fld (nm,c.d))) from ⟨_,_,rfl,by omega,by omega,h.vfk,h.vfr⟩)).mono (show 11<=12 by decide))
 have at1:aE (.tup (kf++rf)) (.int (i:Int))=some (.tup [.str nm,k.d]):=by
  rw [yk,vS,h.e,OS,h.at']; rfl
 have t20:=fh cells 20
 have f20:=lK cells 20
 have t20:cutD cells none (some 20)=cells.take 20:=t20
 have f20:cutD cells (some 20) none=cells.drop 20:=f20
 have c1:(cells.take 20).length<=20:=Q9 _ _
 have c2:(cells.drop 20).length<=10:=by rw [O0]; omega
 obtain⟨ps1,rows,e1,lp1,_,q2,r1,r2,r3,_,r5⟩:=pV 1 11 (aU 11) (fun k c hk=>A2 8 k c hk) kf rf ‹0› h.fk h.fr (cells.take 20) ‹0›
 rw [<- dP,<- t20,<- qT] at r5
 have pe:ps1.map (·.2)=ps.map (·.2):=by
  have z:ps1.map fld=ps.map fld:=by rw [<- h.e]; exact e1.symm
  have:=congrArg (List.map fun d:D=>match d with | .tup [_,k]=>k | _=>.non) z
  rw [QF,QF] at this
  exact this
 rw [pe] at r1 q2
 have len:∀ r∈rows,r.length=kf.length+rf.length:=fun r hr=>by rw [<- (r1 r hr).length,OC,psl]
 have vi:∀ o∈rows,i < o.length/\s.sort (pU i o):=fun o ho=>by
  have hi:i < o.length:=by rw [len o ho]; exact il
  have f:=(r1 o ho).get (i:=i) (a:=k.d) (b:=o[i]) (by rw [OS,h.at']; rfl) (PJ hi)
  refine⟨hi,?_⟩
  have e:pU i o=o[i]:=by
   unfold pU
   rw [QC,PJ hi]; rfl
  rw [e]
  exact h.tw.sort (f.flat h.tw.flk.1)
 obtain⟨V,v1,v2,v4,v3⟩:=Hh (s:=s) (i:=i) (vk kf i (fld (nm,c.d))) (vr kf rf i (fld (nm,c.d))) ‹0› h.vfk h.vfr (cells.drop 20) ‹0› _ h.ep (ps.map (·.2)) (by rw [lvk]; exact q2) (fun r f=>h.mono f) (by rw [OC]; omega) rows ‹0› r1 vi
 rw [<- f20,<- qT] at v3
 rw [lvk] at v2
 have ln:∀ r,F2 (jr 1) (ps.map (·.2)) r->r.length=kf.length+rf.length:=fun r f=>by rw [<- f.length,OC,psl]
 obtain⟨σ,hz,sh⟩:∃ σ:List Bool,σ≠[]/\∀ r,F2 (jr 1) (ps.map (·.2)) r->Sh σ (r.take kf.length):=by
  obtain⟨σ,hσ⟩:=F2.keySh (kf:=kf) q2
  by_cases hz:σ=[]
  ·refine⟨[true],by simp,fun r f=>?_⟩
   have z:=(hσ _ (F2.flat q2 (F2.take kf.length f))).length
   rw [hz,OL,ln r f,Ph] at z
   omega
  ·exact⟨σ,hz,fun r f=>hσ _ (F2.flat q2 (F2.take kf.length f))⟩
 have un:∀ R:List (List D),(∀ r∈R,F2 (jr 1) (ps.map (·.2)) r)->yQ kf.length R->R.Pairwise fun r s=>r.take kf.length≠s.take kf.length:=fun R h1 h2=>h2.imp_of_mem fun {o o'} ho ho' lx=>Ia (sh o (h1 o ho)) lx
 have P:Pu kf.length i s σ rows V:=⟨hz,fun r hr=>sh r (v1 r hr),fun r hr=>sh r (r1 r hr),un V v1 v2,un rows r1 r2,by omega,vi⟩
 obtain⟨seen,hseen⟩:∃ seen:List (List D),seen=rows.filter fun o=>s.has (pU i o):=⟨_,rfl⟩
 have sl:seen.length<=rows.length:=by rw [hseen]; exact Q6 _ _
 have ss:∀ r∈seen,r∈rows:=fun r hr=>by rw [hseen] at hr; exact(List.mem_filter.mp hr).1
 have P2:Pu kf.length i s σ rows seen:=⟨hz,fun r hr=>sh r (r1 r (ss r hr)),fun r hr=>sh r (r1 r hr),by rw [hseen]; exact(un rows r1 r2).sublist Q8,un rows r1 r2,by omega,vi⟩
 have go:=IT h rows ‹0› vi
 rw [<- hseen] at go
 obtain⟨fs,w1,w2,w3⟩:=G5 P
 have po:=EK h P w1 w2
 have po2:=EK h P2 r2 (CA P2 hseen)
 have seen0:gR [none,some 7,some 2] (bT (af 8)) (gN 0) (cu (fR (aP cf 2 2) (ah (af 1) (ah (f2 aE (af 0) (af 2)) (ax))))) (af 0) [some (.val (stp nm s)),some (.val (.tup [.tup kf,.tup rf])),some (.val (.int i)),some (.val c.d),some (.val (.lst (cells.map .int))),some (.val (.int kf.length)),some (.val (vw kf rf i (fld (nm,c.d)))),some (.val s.d),some (.val (.tup (rows.map .tup))),some (.val (.tup (V.map .tup))),some (.val (.bl (pyEq c.d k.d))),none]=.ok (.lst (seen.map .tup)):=by
  rw [hseen]
  refine cP (ds:=rows.map .tup) (by simp! only []) (by rw [OC]; omega) ?_
  refine dD D.tup (fun r=>s.has (pU i r)) D.tup rows fun o ho=>⟨_,rfl,?_,rfl⟩
  obtain⟨oi,os⟩:=vi o ho
  have va:=sI oi
  have ft:=(o6 os).2
  simp! only [va,ft]
 have tupA:∀ (rs:List (List D)),rs.length<=200->(∀ r∈rs,F2 (jr 1) (ps.map (·.2)) r)->aL 12 [.tup (rs.map .tup),.tup (rs.map .tup)]=.ok (.bl true):=fun rs hl hh =>
  jl 12 _ (rT.mono (n:=5) (by decide) (sG (n:=3) (fun k v q=>jr.aok 1 q) (by rw [OC]; omega) ‹0› hh))
 have al1:=tupA rows ‹0› r1
 have al2:=tupA seen ‹0› fun r hr=>r1 r (ss r hr)
 have fl:=w2.length_eq
 have pl':=Pu.len (m:=kf.length) (i:=i) (s:=s) (rows:=rows) (V:=V)
 have al3:=tupA fs ‹0› fun r hr=>(Pu.sub (w2.mem_iff.mp hr)).elim (v1 r) (r1 r)
 have alb:=fun b=>jl 12 (.bl b) E9
 have m1:=fun fas ρ h=>uP (nm:=nm) (s:=s) "view_form" (aP eE 2 2) (aP cM 2 5) (af 0) fas ρ h (by decide +kernel)
 have m2:=fun fas ρ h=>uP (nm:=nm) (s:=s) "exact" (aP gA 2 2) (aP cx 2 3) (af 0) fas ρ h (by decide +kernel)
 have m3:=fun fas ρ h=>uP (nm:=nm) (s:=s) "steady" (aP fK 2 2) (aP dF 2 2) (af 0) fas ρ h (by decide +kernel)
 have m4:=fun fas ρ h=>uP (nm:=nm) (s:=s) "got" (aP jo 3 3) (aP e9 3 4) (af 0) fas ρ h (by decide +kernel)
 have m5:=fun fas ρ h=>uP (nm:=nm) (s:=s) "put" (aP gX 4 4) (aP eG 4 6) (af 0) fas ρ h (by decide +kernel)
 obtain⟨x1,x2⟩:=Dh h
 have ge:=n5 (vv c) (vv k)
 have li:decide ((i:Int) < (kf.length:Int))=decide (i < kf.length):=by
  by_cases z:i < kf.length
  ·rw [decide_eq_true z,decide_eq_true ‹0›]
  ·rw [decide_eq_false z,decide_eq_false ‹0›]
 rw [zU]; unfold dq
 simp! only [e8 kf rf ‹0›,at1,wo,ir,r5,v3,m1,vo,av,ge,m2,x1,alb,m3,x2,li,oP,seen0,m4,go,al2,m5,po,w3,al3,po2,al1]
end
section
variable {kf rf:List D} {ps:List (Str×D)} {i:Nat} {nm:Str} {k s c:Kd}
theorem Ok.halves (h:Ok kf rf ps i nm k s c):kf=(ps.take kf.length).map fld/\rf=(ps.drop kf.length).map fld:=by
 have e:=h.e
 constructor
 ·rw [QS,<- e]; exact(Q4 rfl).symm
 ·rw [QR,<- e]; exact(List.drop_left' rfl).symm
def turn (m n i:Nat):Nat:=if i < m then m - 1 - i else 2*m+n - 1 - i
theorem Ok.rev (h:Ok kf rf ps i nm k s c):∃ ps',Ok kf.reverse rf.reverse ps' (turn kf.length rf.length i) nm k s c:=by
 obtain⟨h1,h2⟩:=h.halves
 have il:=h.il
 have lp:=h.l
 have lt1:(ps.take kf.length).length=kf.length:=by rw [OL]; omega
 have lt2:(ps.drop kf.length).length=rf.length:=by rw [O0]; omega
 have pm:((ps.take kf.length).reverse++(ps.drop kf.length).reverse).Perm ps:=by
  have:=(Ra (ps.take kf.length)).append (Ra (ps.drop kf.length))
  rwa [Q7] at this
 refine⟨(ps.take kf.length).reverse++(ps.drop kf.length).reverse,⟨?_,?_,?_,?_,?_,?_,?_,h.tw,fun f hf=>h.fk f (List.mem_reverse.mp hf),fun f hf=>h.fr f (List.mem_reverse.mp hf)⟩⟩
 ·rw [PX,List.map_reverse,List.map_reverse,<- h1,<- h2]
 ·rw [OW,Qd,Qd,Qd,Qd,lt1,lt2]
 ·rw [Qd]; exact h.k1
 ·rw [Qd]; exact h.kl
 ·rw [Qd]; exact h.rl
 ·exact(pm.map (·.1)).nodup_iff.mpr h.nd
 ·have a:=h.at'
  unfold turn
  by_cases hi':i < kf.length
  ·rw [if_pos hi',OQ (by rw [Qd,lt1]; omega),Qc (by rw [lt1]; omega),lt1,show kf.length - 1 - (kf.length - 1 - i)=i by omega,OT hi']
   exact a
  ·rw [if_neg hi',OM (by rw [Qd,lt1]; omega),Qd,lt1,Qc (by rw [lt2]; omega),lt2,P0,show kf.length+(rf.length - 1 - (2*kf.length+rf.length - 1 - i - kf.length))=i by omega]
   exact a
theorem Fs (kf rf:List D) (i:Nat) (hi:i < kf.length+rf.length):aP fJ 2 3 [.tup [.tup kf,.tup rf],.int i]=.ok (.int (turn kf.length rf.length i)):=by
 have m2:=kT (i:=2) (j:=(kf.length:Int)) (by decide) (by decide)
 rw [cH]; unfold fJ turn
 by_cases hi':i < kf.length
 ·have l3:decide ((i:Int) < (kf.length:Int))=true:=decide_eq_true ‹0›
  have c:((kf.length:Int) - 1 - (i:Int))=((kf.length - 1 - i:Nat):Int):=by omega
  simp! only [l3,c,if_pos hi']
 ·have l3:decide ((i:Int) < (kf.length:Int))=false:=decide_eq_false ‹0›
  have c:(2*(kf.length:Int)+(rf.length:Int) - 1 - (i:Int))=((2*kf.length+rf.length - 1 - i:Nat):Int):=by omega
  simp! only [l3,m2,c,if_neg hi']
end
def Kd.Pk:Kd->Prop
 | .num lo hi=>lo<=hi/\-qG < lo/\hi < qG
 | .wrd ws=>ws≠[]/\ws.length<=12/\(∀ w∈ws,w.length<=20)/\ws.Nodup
def Sv:Kd->Kd->Prop
 | .num _ _,.num x y=>-(10*qG) < x/\x < 10*qG/\-(10*qG) < y/\y < 10*qG
 | .wrd _,.wrd us=>us.length<=12/\∀ w∈us,w.length<=20
 | _,_=>False
def Gq:Kd->Kd->Kd
 | .num a b,.num x y=>.num (mx a x) (mn b y)
 | .wrd ws,.wrd us=>.wrd (ws.filter fun w=>us.contains w)
 | k,_=>k
def Kd.bad:Kd->Bool
 | .num a b=>decide (b < a)
 | .wrd ws=>ws.isEmpty
theorem Sv.two {k s:Kd} (hk:k.Pk) (h:Sv k s) (hb:(Gq k s).bad=false):C0 k s (Gq k s):=by
 cases k with
 | num a b =>
  cases s with
  | num x y =>
   obtain⟨k1,k2,k3⟩:=hk
   obtain⟨h1,h2,h3,h4⟩:=h
   have hb:decide (mn b y < mx a x)=false:=hb
   exact⟨k1,k2,k3,h1,h2,h3,h4,by have:=of_decide_eq_false hb; omega,rfl⟩
  | wrd _=>exact h.elim
 | wrd ws =>
  cases s with
  | num _ _=>exact h.elim
  | wrd us =>
   obtain⟨k1,k2,k3,k4⟩:=hk
   refine⟨k1,k2,h.1,h.2,fun z=>?_,rfl⟩
   have hb:(ws.filter fun w=>us.contains w).isEmpty=false:=hb
   rw [z] at hb; cases hb
theorem tH {k:Kd} (hk:k.Pk):C0 k k k:=by
 have p:=Be
 cases k with
 | num a b =>
  obtain⟨k1,k2,k3⟩:=hk
  have e1:mx a a=a:=by unfold mx; split <;> rfl
  have e2:mn b b=b:=by unfold mn; split <;> rfl
  exact⟨k1,k2,k3,by omega,by omega,by omega,by omega,by rw [e1,e2]; exact k1,by rw [e1,e2]⟩
 | wrd ws =>
  obtain⟨k1,k2,k3,k4⟩:=hk
  have e:ws.filter (fun w=>ws.contains w)=ws:=List.filter_eq_self.mpr fun w hw=>by simpa using hw
  exact⟨k1,k2,k2,k3,by rw [e]; exact k1,by rw [e]⟩
theorem Jt (c:Int):∃ k:Kd,k.Pk/\aP dg 1 2 [.int c]=.ok k.d:=by
 have p:=HC
 have g2:=fun i=>bL (i:=i) (show (0:Int) < 2 by decide)
 have g3:=fun i=>bL (i:=i) (show (0:Int) < 3 by decide)
 have g4:=fun i=>bL (i:=i) (show (0:Int) < 4 by decide)
 have g6:=fun i=>bL (i:=i) (show (0:Int) < 6 by decide)
 have g11:=fun i=>bL (i:=i) (show (0:Int) < 11 by decide)
 have gp:=fun i=>bL (i:=i) (show (0:Int) < 2*qj by omega)
 have d2:=fun i=>cJ (i:=i) (show (0:Int) < 2 by decide) (show (2:Int) < 10 ^ 200 by decide)
 have d4:=fun i=>cJ (i:=i) (show (0:Int) < 4 by decide) (show (4:Int) < 10 ^ 200 by decide)
 have d7:=fun i=>cJ (i:=i) (show (0:Int) < 7 by decide) (show (7:Int) < 10 ^ 200 by decide)
 have d22:=fun i=>cJ (i:=i) (show (0:Int) < 22 by decide) (show (22:Int) < 10 ^ 200 by decide)
 have mm:=kT (i:=2) (j:=qj) (by decide) (by decide)
 have l3:∀ a b c:D,sP [a,b,c]=some (.lst [a,b,c]):=fun _ _ _=>nr rfl
 rw [kj]; unfold dg
 by_cases h:c%4=1
 ·have h':(c%4==1)=true:=by simp [h]
  obtain⟨y,y1,y2,ey⟩:∃ y:Int,0 < y/\y<=qj/\aE (.lst [.int 1,.int 3,.int qj]) (.int (c / 4%3))=some (.int y):=by
   rcases(show c / 4%3=0\/c / 4%3=1\/c / 4%3=2 by omega) with z | z | z <;> rw [z]
   ·exact⟨1,by decide,by omega,rfl⟩
   ·exact⟨3,by decide,by omega,rfl⟩
   ·exact⟨qj,by omega,by omega,rfl⟩
  have gy:=fun i=>bL (i:=i) y1
  have q1:=QZ (c / 4) (show 2*qj≠0 by omega)
  have q2:=Q1 (c / 4) (show 0 < 2*qj by omega)
  have q3:=QZ (c / 7) (show y≠0 by omega)
  have q4:=Q1 (c / 7) y1
  refine⟨.num (c / 4%(2*qj) - qj) (c / 4%(2*qj) - qj+c / 7%y),⟨by omega,by omega,by omega⟩,?_⟩
  simp! only [Kd.d,g4,h',d4,DE,mm,gp,d7,l3,g3,ey,gy,Fh]
 ·have h':(c%4==1)=false:=by simp [h]
  by_cases h2:c%2=0
  ·have h2':(c%2==0)=true:=by simp [h2]
   refine⟨.num (c / 2%11 - 5) (c / 2%11 - 5+c / 22%6),⟨by omega,by omega,by omega⟩,?_⟩
   simp! only [Kd.d,g4,h',g2,h2',d2,g11,d22,g6,Fh]
  ·have h2':(c%2==0)=false:=by simp [h2]
   obtain⟨ws,w1,w2,w3,w4,ew⟩:=sr (c / 4)
   refine⟨.wrd ws,⟨w1,w2,w3,w4⟩,?_⟩
   simp! only [Kd.d,g4,h',g2,h2',d4,ew,qB]
theorem JP (ws:List Str) (h:ws.Nodup) (hl:ws.length < 64):∃ us:List Str,mQ [.lst (ws.map .str)]=some (.lst (us.map .str))/\us.Perm ws:=by
 have pz:∀ zs:List D,zs.Perm (ws.map D.str)->∃ us:List Str,zs=us.map .str/\us.Perm ws:=fun zs p=>by
  have e:zs=(zs.map fun z=>match z with | .str w=>w | _ => "").map .str:=by
   rw [QF]
   conv=>lhs; rw [<- List.map_id zs]
   refine PV fun z hz=>?_
   obtain⟨w,_,rfl⟩:=List.mem_map.mp (p.mem_iff.mp hz)
   rfl
  refine⟨_,e,?_⟩
  have q:=p.map fun z:D=>match z with | .str w=>w | _=>("":Str)
  rw [QF] at q
  have e2:ws.map ((fun z:D=>match z with | .str w=>w | _=>("":Str)) ∘ D.str)=ws:=by
   conv=>rhs; rw [<- List.map_id ws]
   exact PV fun _ _=>rfl
  rw [e2] at q
  exact q
 have fin:∀ key:D->List D,∃ us:List Str,some (D.lst (lX key (ws.map .str)))=some (.lst (us.map .str))/\us.Perm ws:=fun key=>by
  obtain⟨us,e,q⟩:=pz _ (jq key (ws.map .str))
  exact⟨us,by rw [e],q⟩
 show ∃ us,u9 (ws.map .str)=_/\_
 unfold u9
 by_cases a:JX (ws.map .str)
 ·rw [if_pos a]; exact fin _
 ·have b:J5 (ws.map .str):=by
   refine⟨by rw [OC]; exact hl,false,fun x hx=>?_,?_⟩
   ·obtain⟨w,_,rfl⟩:=List.mem_map.mp hx
    exact .str w .nil
   ·rw [QB]
    refine h.imp fun hne e=>hne ?_
    have e:[D.str _]=[D.str _]:=e
    injection e with e _
    injection e
  rw [if_neg a,if_pos b]; exact fin _
theorem Aj (w:Str) (ws:List Str):lm (.str w) (.lst (ws.map .str))=some (.bl (!ws.contains w)):=by
 have e:=GC w ws
 have e1:Fi (.str w) (.lst (ws.map .str))=if (pl (.str w) && lJ (ws.map .str)) && dr 8 (.str w) then some (.bl (inD (.str w) (ws.map .str))) else none:=rfl
 have e2:lm (.str w) (.lst (ws.map .str))=if (pl (.str w) && lJ (ws.map .str)) && dr 8 (.str w) then some (.bl (!inD (.str w) (ws.map .str))) else none:=rfl
 rw [e1] at e
 rw [e2]
 split at e
 ·rename_i z
  rw [if_pos z]
  injection e with e
  injection e with e
  rw [e]
 ·cases e
theorem Ik (ws:List Str):gQ (.lst (ws.map .str)) (.lst [])=some (.bl ws.isEmpty):=by
 have e:gQ (.lst (ws.map .str)) (.lst [])=if (pl (.lst (ws.map .str)) && pl (.lst [])) && (dr 8 (.lst (ws.map .str)) || dr 8 (.lst [])) then some (.bl (pyEq (.lst (ws.map .str)) (.lst []))) else none:=rfl
 have d:dr 8 (.lst [])=true:=rfl
 have p2:pl (.lst [])=true:=rfl
 rw [e,eW,qM D.str (fun _=>rfl) ws,p2,d,Bool.or_true]
 show some (D.bl (pyEq (.lst (ws.map .str)) (.lst [])))=_
 rw [pyEq]
 cases ws with
 | nil=>rfl
 | cons a r =>
  have z:pyEqL (.str a::r.map .str) []=false:=by unfold pyEqL; rfl
  rw [OB,z]; rfl
theorem D9 {k:Kd} (hk:k.Pk) (c:Int):∃ s:Kd,Sv k s/\aP dL 2 4 [k.d,.int c]=.ok s.d:=by
 have p:=Be
 have g3:=fun i=>bL (i:=i) (show (0:Int) < 3 by decide)
 have g4:=fun i=>bL (i:=i) (show (0:Int) < 4 by decide)
 have g5:=fun i=>bL (i:=i) (show (0:Int) < 5 by decide)
 have g7:=fun i=>bL (i:=i) (show (0:Int) < 7 by decide)
 have d4:=fun i=>cJ (i:=i) (show (0:Int) < 4 by decide) (show (4:Int) < 10 ^ 200 by decide)
 have d5:=fun i=>cJ (i:=i) (show (0:Int) < 5 by decide) (show (5:Int) < 10 ^ 200 by decide)
 have d8:=fun i=>cJ (i:=i) (show (0:Int) < 8 by decide) (show (8:Int) < 10 ^ 200 by decide)
 have d9:=fun i=>cJ (i:=i) (show (0:Int) < 9 by decide) (show (9:Int) < 10 ^ 200 by decide)
 have d28:=fun i=>cJ (i:=i) (show (0:Int) < 28 by decide) (show (28:Int) < 10 ^ 200 by decide)
 have d64:=fun i=>cJ (i:=i) (show (0:Int) < 64 by decide) (show (64:Int) < 10 ^ 200 by decide)
 have l5:∀ a b c d e:D,sP [a,b,c,d,e]=some (.lst [a,b,c,d,e]):=fun _ _ _ _ _=>nr rfl
 have ix5:∀ (a b c d e i:Int),0<=i->i < 5->∃ x:Int,(x=a\/x=b\/x=c\/x=d\/x=e)/\aE (.lst [.int a,.int b,.int c,.int d,.int e]) (.int i)=some (.int x):=fun a b c d e i h0 h1=>by
  rcases(show i=0\/i=1\/i=2\/i=3\/i=4 by omega) with z | z | z | z | z <;> subst z
  ·exact⟨a,by simp,rfl⟩
  ·exact⟨b,by simp,rfl⟩
  ·exact⟨c,by simp,rfl⟩
  ·exact⟨d,by simp,rfl⟩
  ·exact⟨e,by simp,rfl⟩
 rw [cH]; unfold dL
 cases k with
 | num lo hi =>
  obtain⟨k1,k2,k3⟩:=hk
  have gw:=fun i=>bL (i:=i) (show (0:Int) < hi - lo+1 by omega)
  have y1:=QZ (c / 4) (show hi - lo+1≠0 by omega)
  have y2:=Q1 (c / 4) (show 0 < hi - lo+1 by omega)
  obtain⟨x,hx,ex⟩:=ix5 0 0 1 (c / 4%7 - 3) (c / 4%(hi - lo+1)) (c%5) ‹0› ‹0›
  obtain⟨y,hy,ey⟩:=ix5 0 0 (-1) (c / 28%7 - 3) (-(c / 8%3)) (c / 5%5) ‹0› ‹0›
  have x1:-3<=x/\(x<=3\/x<=hi - lo):=by
   rcases hx with rfl | rfl | rfl | rfl | rfl <;> omega
  have z1:-3<=y/\y<=3:=by
   rcases hy with rfl | rfl | rfl | rfl | rfl <;> omega
  refine⟨.num (lo+x) (if hi+y > lo+x then hi+y else lo+x),⟨by omega,by omega,by split <;> omega,by split <;> omega⟩,?_⟩
  have ng:∀ i:Int,Fl (.int i)=some (.int (-i)):=fun _=>nr rfl
  simp! only [Kd.d,qf,d4,g7,gw,l5,g5,ex,ng,d28,d8,g3,d5,ey,Fh]
 | wrd ws =>
  obtain⟨k1,k2,k3,k4⟩:=hk
  obtain⟨vs,v1,v2,v3,v4,ev⟩:=sr (c / 9)
  obtain⟨W1,hW1⟩:∃ W1,W1=ws.filter fun w=>decide (0 < c / 64%(2+(w.length:Int))) || (c%3==0):=⟨_,rfl⟩
  obtain⟨W2,hW2⟩:∃ W2,W2=vs.filter fun w=>(!W1.contains w) && decide (0 < c%4):=⟨_,rfl⟩
  have l1:W1.length<=12:=by rw [hW1]; exact Og (Q6 _ _) k2
  have l2:W2.length<=12:=by rw [hW2]; exact Og (Q6 _ _) v2
  have s1:∀ w∈W1,w∈ws:=fun w hw=>by rw [hW1] at hw; exact(List.mem_filter.mp hw).1
  have nd:(W1++W2).Nodup:=by
   refine List.nodup_append.mpr ⟨by rw [hW1]; exact k4.sublist Q8,by rw [hW2]; exact v4.sublist Q8,fun a ha b hb e=>?_⟩
   rw [hW2] at hb
   have:=(List.mem_filter.mp hb).2
   rw [O1] at this
   have z:=this.1
   rw [<- e] at z
   have:W1.contains a=true:=by simpa using ha
   rw [this] at z; cases z
  have f1:gR [none,some 1] (bT (f2 aE (af 0) (fC (.int 1)))) (gN 0) (yc (fB (f2 HA (f2 bX (f2 dR (af 1) (fC (.int 64))) (f2 bJ (fC (.int 2)) (fL dC (ah (af 0) (ax))))) (fC (.int 0)))) (fB (f2 gQ (f2 bX (af 1) (fC (.int 3))) (fC (.int 0))))) (af 0) [some (.val (.tup [.str "word",.tup (ws.map .str)])),some (.val (.int c)),none,none]=.ok (.lst (W1.map .str)):=by
   rw [hW1]
   refine cP (ds:=ws.map .str) (by simp! only []) (by rw [OC]; omega) ?_
   refine dD D.str (fun w=>decide (0 < c / 64%(2+(w.length:Int))) || (c%3==0)) D.str ws fun w hw=>⟨_,rfl,?_,rfl⟩
   have gl:=fun i=>bL (i:=i) (show (0:Int) < 2+(w.length:Int) by omega)
   have wl:=k3 w hw
   have ln:dC [.str w]=some (.int w.length):=by
    show (if small w.length then some (D.int w.length) else none)=_
    rw [eA ‹0›]; rfl
   cases hh:decide (0 < c / 64%(2+(w.length:Int))) <;> simp! only [d64,ln,gl,hh,g3,Pa,Pb]
  have f2:gR [none,some 3,some 1] (bT (fR (aP cj 1 7) (ah (f2 dR (af 1) (fC (.int 9))) (ax)))) (gN 0) (gG (fB (f2 lm (af 0) (af 1))) (fB (f2 HA (f2 bX (af 2) (fC (.int 4))) (fC (.int 0))))) (af 0) [some (.val (.tup [.str "word",.tup (ws.map .str)])),some (.val (.int c)),none,some (.val (.lst (W1.map .str)))]=.ok (.lst (W2.map .str)):=by
   rw [hW2]
   refine cP (ds:=vs.map .str) (by simp! only [d9,ev]) (by rw [OC]; omega) ?_
   refine dD D.str (fun w=>(!W1.contains w) && decide (0 < c%4)) D.str vs fun w _=>⟨_,rfl,?_,rfl⟩
   have ni:=Aj w W1
   cases hh:(!W1.contains w) <;> rw [hh] at ni <;> simp! only [ni,g4,Q2,Ov]
  have ad:=oo (W1.map D.str) (W2.map D.str) (by rw [OC,OC]; omega)
  rw [<- PX] at ad
  have fin:∀ W:List Str,W.Nodup->W.length < 64->(∀ w∈W,w.length<=20)->∃ s:Kd,Sv (.wrd ws) s/\∃ us:List Str,mQ [.lst (W.map .str)]=some (.lst (us.map .str))/\s.d=.tup [.str "word",.tup (cutD (us.map .str) none (some 12))]:=fun W n1 n2 n3=>by
   obtain⟨us,e1,e2⟩:=JP W n1 n2
   refine⟨.wrd (us.take 12),⟨Q9 _ _,fun w hw=>n3 w (e2.mem_iff.mp (QQ hw))⟩,us,e1,?_⟩
   have ct:cutD (us.map D.str) none (some 12)=(us.map .str).take 12:=fh _ 12
   rw [ct,<- QS]; rfl
  have en:=Ik (W1++W2)
  have n0:=Hr
  cases hE:(W1++W2).isEmpty with
  | true =>
   rw [hE] at en
   have wl:0 < ws.length:=by
    cases ws with
    | nil=>exact absurd rfl k1
    | cons _ _=>simp
   have gl:=fun i=>bL (i:=i) (show (0:Int) < (ws.length:Int) by omega)
   have y1:=QZ (c / 5) (show (ws.length:Int)≠0 by omega)
   have y2:=Q1 (c / 5) (show (0:Int) < (ws.length:Int) by omega)
   obtain⟨w,hw,ew⟩:∃ w∈ws,aE (.tup (ws.map .str)) (.int (c / 5%(ws.length:Int)))=some (.str w):=by
    refine⟨ws[(c / 5%(ws.length:Int)).toNat]'‹0›,QA _,?_⟩
    rw [yk,iy,o4 y1 y2]; rfl
   obtain⟨s,hs,us,e1,e2⟩:=fin [w] (Qx _ _) (by simp) (fun x hx=>by rw [List.mem_singleton.mp hx]; exact k3 w hw)
   have e1:mQ [.lst [.str w]]=some (.lst (us.map .str)):=e1
   refine⟨s,hs,?_⟩
   rw [e2]
   simp! only [Kd.d,lq,f1,f2,ad,n0,en,d5,OC,gl,ew,N6,e1,qB]
  | false =>
   rw [hE] at en
   obtain⟨s,hs,us,e1,e2⟩:=fin (W1++W2) nd (by rw [OW]; omega) (fun x hx=>by
    rcases List.mem_append.mp hx with z | z
    ·exact k3 x (s1 x z)
    ·rw [hW2] at z; exact v3 x (List.mem_filter.mp z).1)
   refine⟨s,hs,?_⟩
   rw [e2]
   simp! only [Kd.d,lq,f1,f2,ad,n0,en,e1,qB]
theorem D4 {k s:Kd} (h:Sv k s) (hk:k.Pk):aP iz 2 2 [k.d,s.d]=.ok (Gq k s).d:=by
 rw [cH]; unfold iz
 cases k with
 | num a b =>
  cases s with
  | num x y =>
   simp! only [Kd.d,qf,Fh]
   rfl
  | wrd _=>exact h.elim
 | wrd ws =>
  cases s with
  | num _ _=>exact h.elim
  | wrd us =>
   have f0:gR [none,some 1] (bT (f2 aE (af 0) (fC (.int 1)))) (gN 0) (fB (f2 Fi (af 0) (f2 aE (af 1) (fC (.int 1))))) (af 0) [some (.val (.tup [.str "word",.tup (ws.map .str)])),some (.val (.tup [.str "word",.tup (us.map .str)]))]=.ok (.lst ((ws.filter fun w=>us.contains w).map .str)):=by
    refine cP (ds:=ws.map .str) (by simp! only []) (by rw [OC]; have:=hk.2.1; omega) ?_
    refine dD D.str (fun w=>us.contains w) D.str ws fun w _=>⟨_,rfl,?_,rfl⟩
    simp! only [qU]
   simp! only [Kd.d,lq,f0,qB]
   rfl
theorem GA (c:Kd):gQ c.d (.tup [.str "word",.tup []])=some (.bl (pyEq c.d (Kd.wrd []).d)):=n5 (b:=.wrd []) (vv c) (vv (.wrd []))
def Kd.sb:Kd->Prop
 | .num x y=>-(10*qG) < x/\x < 10*qG/\-(10*qG) < y/\y < 10*qG
 | .wrd us=>us.length<=12/\∀ w∈us,w.length<=20
theorem C0.sb {k s c:Kd} (h:C0 k s c):s.sb:=by
 cases k with
 | num a b =>
  cases s with
  | num x y =>
   obtain⟨h1,h2,h3,h4,h5,h6,h7,h8,rfl⟩:=h
   exact⟨h4,h5,h6,h7⟩
  | wrd us=>exact h.elim
 | wrd ws =>
  cases s with
  | num x y=>exact h.elim
  | wrd us =>
   obtain⟨h1,h2,h3,h4,h5,rfl⟩:=h
   exact⟨h3,h4⟩
theorem Bt (x:Int) (h1:-(10*qG) < x) (h2:x < 10*qG):∃ s:Str,zL [.int x]=some (.str s)/\vn [.int x]=some (.str s)/\aP eO 1 1 [.int x]=.ok (.str s):=by
 obtain⟨s,es⟩:=str_int x (by
  have e1:x.natAbs < (10*qG).natAbs:=by omega
  exact Od e1 (by decide +kernel))
 refine⟨s,es,es,?_⟩
 have t:nW "str" (.int x)=some (.bl false):=rfl
 rw [kj]; unfold eO
 simp! only [t,es]
theorem GD {nm:Str} {s:Kd} (hs:s.sb):aP eX 3 4 [stp nm s,.str nm,s.d]=.ok (.bl true):=by
 have isi:yM ["Step","Sieve"] (stp nm s)=some (.bl true):=by
  have:(["Step","Sieve"]:List Str).contains "Sieve"=true:=by decide +kernel
  show (if (["Step","Sieve"]:List Str).contains "Sieve" then some (D.bl true) else none)=_
  rw [this]; rfl
 have m1:=fun fas ρ h=>uP (nm:=nm) (s:=s) "words" (aP gq 1 1) (aP cZ 1 1) (af 0) fas ρ h (by decide +kernel)
 cases s with
 | num x y =>
  obtain⟨h1,h2,h3,h4⟩:=hs
  obtain⟨sx,_,ex,wx⟩:=Bt x h1 h2
  obtain⟨sy,_,ey,wy⟩:=Bt y h3 h4
  have mt4:∀ a b c d:D,sZ [a,b,c,d]=some (.tup [a,b,c,d]):=fun _ _ _ _=>nr rfl
  have pw:aP cZ 1 1 [stp nm (.num x y)]=.ok (.tup [.str "sieve",.str nm,.str sx,.str sy]):=by
   rw [kj]; unfold cZ
   simp! only [iY,ir,Kd.d,qf,wx,wy,mt4]
  have av:aL 12 [(Kd.num x y).d,(Kd.num x y).d]=.ok (.bl true):=jl 12 _ (fT (by simp) fun z hz=>by
   simp only [Qf,Qg,or_false] at hz
   rcases hz with rfl | rfl | rfl
   ·exact gx
   ·exact qL
   ·exact qL)
  have aw:aL 12 [.tup [.str "sieve",.str nm,.str sx,.str sy],.tup [.str "sieve",.str nm,.str sx,.str sy]]=.ok (.bl true):=jl 12 _ (fT (by simp) fun z hz=>by
   simp only [Qf,Qg,or_false] at hz
   rcases hz with rfl | rfl | rfl | rfl <;> exact gx)
  have nw':(("number":Str)==("word":Str))=false:=by decide +kernel
  unfold Kd.d at av ⊢
  rw [nH]; unfold eX
  simp! only [qB,nw',ex,ey,mt4,isi,iY,BEq.rfl,ir,Kd.d,av,m1,pw,aw]
 | wrd us =>
  obtain⟨h1,h2⟩:=hs
  have e1:(("."):Str).length<=1000:=by decide +kernel
  have ad:∀ w∈us,bJ (.str ".") (.str w)=some (.str ("."++w)):=fun w hw=>lR "." w e1 (by have:=h2 w hw; omega)
  have wr:∀ w∈us,aP eO 1 1 [.str w]=.ok (.str ("."++w)):=fun w hw=>by
   have t:nW "str" (.str w)=some (.bl true):=rfl
   rw [kj]; unfold eO
   simp! only [t,ad w hw]
  have aT:=e8 [.str "keep",.str nm] (us.map fun w=>.str ("."++w)) (by rw [OC]; simp; omega)
  have f0:gR [none] (bT (f2 aE (f1 (gY "kind" ["Sieve"]) (af 0)) (fC (.int 1)))) (gN 0) (cK) (fR (aP eO 1 1) (ah (af 0) (ax))) [some (.val (stp nm (.wrd us)))]=.ok (.lst (us.map fun w=>.str ("."++w))):=by
   refine cP (ds:=us.map .str) (by simp! only [ir,Kd.d]) (by rw [OC]; omega) ?_
   refine iW D.str (fun w=>.str ("."++w)) us fun w hw=>⟨_,rfl,rfl,?_⟩
   have wr:=wr w hw
   simp! only [wr]
  have pw:aP cZ 1 1 [stp nm (.wrd us)]=.ok (.tup ([.str "keep",.str nm]++us.map fun w=>.str ("."++w))):=by
   rw [kj]; unfold cZ
   simp! only [iY,ir,Kd.d,lq,f0,qB,aT]
  have f1:gR [none] (bT (f2 aE (af 2) (fC (.int 1)))) (gN 0) (cK) (f2 bJ (fC (.str ".")) (af 0)) [some (.val (stp nm (.wrd us))),some (.val (.str nm)),some (.val (.tup [.str "word",.tup (us.map .str)])),some (.val (.tup [.str "keep",.str nm]))]=.ok (.lst (us.map fun w=>.str ("."++w))):=by
   refine cP (ds:=us.map .str) (by simp! only []) (by rw [OC]; omega) ?_
   refine iW D.str (fun w=>.str ("."++w)) us fun w hw=>⟨_,rfl,rfl,?_⟩
   have wr:=ad w hw
   simp! only [wr]
  have av:aL 12 [(Kd.wrd us).d,(Kd.wrd us).d]=.ok (.bl true):=jl 12 _ (fT (by simp) fun z hz=>by
   simp only [Qf,Qg,or_false] at hz
   rcases hz with rfl | rfl
   ·exact gx
   ·exact fT (by rw [OC]; omega) fun z hz=>by
     obtain⟨w,_,rfl⟩:=List.mem_map.mp hz
     exact gx)
  have aw:aL 12 [.tup ([.str "keep",.str nm]++us.map fun w=>.str ("."++w)),.tup ([.str "keep",.str nm]++us.map fun w=>.str ("."++w))]=.ok (.bl true):=jl 12 _ (fT (by rw [OW,OC]; simp; omega) fun z hz=>by
   rcases List.mem_append.mp hz with hz | hz
   ·simp only [Qf,Qg,or_false] at hz
    rcases hz with rfl | rfl <;> exact gx
   ·obtain⟨w,_,rfl⟩:=List.mem_map.mp hz
    exact gx)
  generalize [D.str "keep",.str nm]++us.map (fun w=>D.str ("."++w))=Q at aT pw aw
  unfold Kd.d at av ⊢
  rw [nH]; unfold eX
  simp! only [qB,vV,f1,aT,isi,iY,BEq.rfl,ir,Kd.d,av,m1,pw,aw]
theorem yG {P:Nat->D->Prop} {ws:List Str}:∀ (fs:List D) (o:Nat),(∀ (j:Nat) (f:D),fs[j]?=some f->∃ k,f=fld (ws.getD (o+j) "",k)/\P (o+j) k)->∃ ps:List (Str×D),fs=ps.map fld/\∀ (j:Nat) (p:Str×D),ps[j]?=some p->p.1=ws.getD (o+j) ""/\P (o+j) p.2
 | [],_,_=>⟨[],rfl,fun _ _ h=>nomatch h⟩
 | f::fs,o,h=>by
  obtain⟨k,e,q⟩:=h 0 f rfl
  obtain⟨ps,rfl,q2⟩:=yG fs (o+1) fun j f' hf=>by
   obtain⟨k',e',q'⟩:=h (j+1) f' (by rw [Qi]; exact hf)
   rw [show o+(j+1)=o+1+j by omega] at e' q'
   exact⟨k',e',q'⟩
  refine⟨(ws.getD o "",k)::ps,by rw [e]; rfl,fun j p hp=>?_⟩
  cases j with
  | zero=>cases hp; exact⟨rfl,q⟩
  | succ j =>
   rw [Qi] at hp
   rw [show o+(j+1)=o+1+j by omega]
   exact q2 j p hp
theorem Ft (ns:List Int) (ws:List Str) (hw:ws.length=20) (hn:ws.Nodup):∃ (kf rf:List D) (ps:List (Str×D)) (i:Nat) (k:Kd),i < 16/\(∀ s c,C0 k s c->Ok kf rf ps i (ws.getD i "") k s c)/\k.Pk/\aP iA 2 8 [.lst (ns.map .int),.lst (ws.map .str)]=.ok (.tup [.tup [.tup kf,.tup rf],.int i]):=by
 obtain⟨c1,e1⟩:=TD.Lc ns 1 (by decide)
 obtain⟨c2,e2⟩:=TD.Lc ns 2 (by decide)
 obtain⟨c3,e3⟩:=TD.Lc ns 3 (by decide)
 obtain⟨x,hx,ex⟩:=jx c3 5 (by decide) (by decide)
 obtain⟨k0,pk0,ek0⟩:=Jt x
 have g3:=fun i=>bL (i:=i) (show (0:Int) < 3 by decide)
 have g4:=fun i=>bL (i:=i) (show (0:Int) < 4 by decide)
 have g8:=fun i=>bL (i:=i) (show (0:Int) < 8 by decide)
 have g9:=fun i=>bL (i:=i) (show (0:Int) < 9 by decide)
 have d3:=fun i=>cJ (i:=i) (show (0:Int) < 3 by decide) (show (3:Int) < 10 ^ 200 by decide)
 have d12:=fun i=>cJ (i:=i) (show (0:Int) < 12 by decide) (show (12:Int) < 10 ^ 200 by decide)
 have d16:=fun i=>cJ (i:=i) (show (0:Int) < 16 by decide) (show (16:Int) < 10 ^ 200 by decide)
 have d96:=fun i=>cJ (i:=i) (show (0:Int) < 96 by decide) (show (96:Int) < 10 ^ 200 by decide)
 have d768:=fun i=>cJ (i:=i) (show (0:Int) < 768 by decide) (show (768:Int) < 10 ^ 200 by decide)
 obtain⟨T,hT⟩:∃ T:cB,T=(aN (pW (cy (ah (f2 bJ (af 3) (af 4)) (ax))) (gN 7) (aN (zH 6 pQ (ah (cY (ah (f2 aE (af 1) (af 7)) (ah (fR (aP cQ 2 4) (ah (fR (aP bh 2 3) (ah (fR (aP bW 2 2) (ah (af 0) (ah (fC (.int 2)) (ax)))) (ah (af 7) (ax)))) (ah (f2 Ki (af 7) (af 3)) (ax)))) (ax)))) (ax))) (fZ [7] cG))) (aN (nv 6 (af 5) (cY (ah (f2 aE (af 1) (af 5)) (ah (fR (aP dg 1 2) (ah (fR (aP bh 2 3) (ah (fR (aP bW 2 2) (ah (af 0) (ah (fC (.int 3)) (ax)))) (ah (fC (.int 5)) (ax)))) (ax))) (ax))))) (pE 6 (bH (cY (ah (cY (ah (fL cI (ah (aV (af 6) (aK) (bi (af 3))) (ax))) (ah (fL cI (ah (aV (af 6) (bi (af 3)) (aK)) (ax))) (ax)))) (ah (af 5) (ax)))))))):=⟨_,rfl⟩
 have key:∀ m r i:Nat,1<=m->m<=8->r<=8->i < m+r->∃ (kf rf:List D) (ps:List (Str×D)),(∀ s c,C0 k0 s c->Ok kf rf ps i (ws.getD i "") k0 s c) /\
   T K0 [some (.val (.lst (ns.map .int))),some (.val (.lst (ws.map .str))),none,some (.val (.int m)),some (.val (.int r)),some (.val (.int i)),some (.own (.lst [])),none]=.ok (.tup [.tup [.tup kf,.tup rf],.int i]):=by
  intro m r i hm1 hm2 hr hi
  have rn:kQ [.int ((m:Int)+(r:Int))]=some (cW 0 (m+r)):=fX (m+r) ‹0›
  have nat:∀ j:Nat,j < 20->aE (.lst (ws.map .str)) (.int (j:Int))=some (.str (ws.getD j "")):=fun j hj=>by
   rw [zm,vS,OS,PJ ‹0›,QC,PJ ‹0›]; rfl
  rw [hT,fQ,i6]
  simp! only [rn]
  refine oV (Q:=fun z=>∃ (kf rf:List D) (ps:List (Str×D)),(∀ s c,C0 k0 s c->Ok kf rf ps i (ws.getD i "") k0 s c)/\z=.ok (.tup [.tup [.tup kf,.tup rf],.int i]))
   (fun j ρ=>∃ fs:List D,fs.length=j/\(∀ (j:Nat) (f:D),fs[j]?=some f->∃ k,f=fld (ws.getD (0+j) "",k)/\(0+j < m->pP k)/\vG 1 k)/\ρ=[some (.val (.lst (ns.map .int))),some (.val (.lst (ws.map .str))),none,some (.val (.int m)),some (.val (.int r)),some (.val (.int i)),some (.own (.lst fs)),none]) ?_ ?_ ?_
  ·rintro j d ρ k' hd ⟨fs,u1,u2,rfl⟩
   have hj:=eD hd
   rw [bV] at hj
   have hdi:d=.int (j:Int):=by
    rw [i9,OS,P7 hj] at hd
    cases hd; simp
   subst hdi
   obtain⟨z,hz,ez⟩:=jx c2 (j:Int) ‹0› ‹0›
   obtain⟨k,k1,k2,ek⟩:=Fz z (decide ((m:Int)<=(j:Int)))
   refine⟨_,_,rfl,⟨fs++[fld (ws.getD j "",k)],by simp; omega,?_,rfl⟩,?_⟩
   ·intro j' f hf
    rcases QH j' fs.length with q | q
    ·rw [OQ q] at hf
     exact u2 j' f hf
    ·rw [OM q] at hf
     have:j'=j:=by
      have:=eD hf
      simp at this; omega
     subst this
     rw [show j' - fs.length=0 by omega] at hf
     cases hf
     exact⟨k,by rw [Qm],fun hj'=>k1 (by simp; omega),k2⟩
   ·rw [fQ,ml _ _ _ _ _ (xs:=fs) rfl]
    simp! only [e2,ez,ek,nat j ‹0›,qB,vU (xs:=fs) ‹0›]
  ·exact⟨[],rfl,(fun j f h=>by cases h),rfl⟩
  ·rintro ρ' ⟨fs,u1,u2,rfl⟩
   rw [bV] at u1
   obtain⟨ps,rfl,q⟩:=yG (P:=fun j k=>(j < m->pP k)/\vG 1 k) (ws:=ws) fs 0 u2
   rw [OC] at u1
   have pu:∀ (fi fv:FX) (k:Ks) (ρ:az) (xs:List D) (j:Int) (n:Nat) (v:D),ρ[6]?=some (some (.own (.lst xs)))->fv ρ=.ok v->fi ρ=.ok (.int j)->xt xs.length j=some n->nv 6 fi fv k ρ=k.nx (ρ.set 6 (some (.own (.lst (xs.set n v))))):=fun fi fv k ρ xs j n v h1 h2 h3 h4=>by
    unfold nv
    rw [h1]
    simp only [h2,h3,fM,nz,h4]
   have ixi:xt (ps.map fld).length (i:Int)=some i:=by
    unfold xt
    rw [if_pos ‹0›,OC,if_pos ‹0›]; rfl
   have flk:pP k0.d:=(tH pk0).flk.1
   have sfs:(ps.map fld).set i (fld (ws.getD i "",k0.d))=(ps.set i (ws.getD i "",k0.d)).map fld:=by rw [List.map_set]
   obtain⟨ps',hps⟩:∃ ps',ps'=ps.set i (ws.getD i "",k0.d):=⟨_,rfl⟩
   have lp:ps'.length=m+r:=by rw [hps,O2]; exact u1
   have q':∀ (j:Nat) (p:Str×D),ps'[j]?=some p->p.1=ws.getD j ""/\(j < m->pP p.2)/\vG 1 p.2:=fun j p hp=>by
    rw [hps] at hp
    by_cases hj:j=i
    ·subst hj
     rw [Oo ‹0›] at hp
     cases hp
     exact⟨rfl,fun _=>flk,flk.kin⟩
    ·rw [Oq (Ne.symm hj)] at hp
     have:=q j p hp
     rw [Qm] at this
     exact this
   have nm:ps'.map (·.1)=ws.take (m+r):=by
    apply List.ext_getElem?
    intro j
    rw [OS]
    by_cases hj:j < m+r
    ·rw [OT hj,PJ ‹0›,PJ ‹0›]
     have:=(q' j ps'[j] (PJ ‹0›)).1
     rw [QC,PJ ‹0›] at this
     show some ps'[j].1=_
     rw [this]; rfl
    ·rw [QI ‹0›,QI (by rw [OL]; omega)]; rfl
   have l1:((ps'.take m).map fld).length=m:=by rw [OC,OL]; omega
   refine⟨(ps'.take m).map fld,(ps'.drop m).map fld,ps',fun s c tw=>⟨?_,?_,?_,?_,?_,?_,?_,tw,?_,?_⟩,?_⟩
   ·rw [<- PX,Q7]
   ·rw [OC,OC,OL,O0]; omega
   ·rw [l1]; omega
   ·rw [l1]; omega
   ·rw [OC,O0]; omega
   ·rw [nm]; exact hn.sublist (OU _ _)
   ·rw [hps,Oo ‹0›]
   ·intro f hf
    obtain⟨p,hp,rfl⟩:=List.mem_map.mp hf
    obtain⟨j,hj,ej⟩:=PQ hp
    rw [OL] at hj
    rw [List.getElem_take] at ej
    exact⟨p.1,p.2,rfl,(q' j p (by rw [<- ej]; exact PJ _)).2.1 ‹0›⟩
   ·intro f hf
    obtain⟨p,hp,rfl⟩:=List.mem_map.mp hf
    obtain⟨j,hj,ej⟩:=PQ (QP hp)
    exact⟨p.1,p.2,rfl,(q' j p (by rw [<- ej]; exact PJ _)).2.2⟩
   ·dsimp only
    rw [fQ,pu _ _ _ _ (ps.map fld) i i (fld (ws.getD i "",k0.d)) rfl (by simp! only [nat i ‹0›,e3,ex,ek0,qB]) (by simp! only []) ixi,sfs,<- hps]
    simp! only [fh,lK,qB,QS,QR]
 rw [cH]
 unfold iA
 rw [<- hT]
 obtain⟨m,hm1,hm8,r,hr8,mr⟩:∃ m:Nat,1<=m/\m<=8/\∃ r:Nat,r<=8/\((c1 / 12%8=1/\1+c1 / 96%8=(m:Int)/\c1 / 768%9=(r:Int))\/(c1 / 12%8≠1/\1+c1%3=(m:Int)/\c1 / 3%4=(r:Int))):=by
  by_cases h:c1 / 12%8=1
  ·exact⟨(1+c1 / 96%8).toNat,by omega,by omega,(c1 / 768%9).toNat,by omega,.inl ⟨h,by omega,by omega⟩⟩
  ·exact⟨(1+c1%3).toNat,by omega,by omega,(c1 / 3%4).toNat,by omega,.inr ⟨h,by omega,by omega⟩⟩
 have md:=fun z=>bL (i:=z) (show (0:Int) < (m:Int)+(r:Int) by omega)
 have n1:=QZ c3 (show (m:Int)+(r:Int)≠0 by omega)
 have n2:=Q1 c3 (show 0 < (m:Int)+(r:Int) by omega)
 obtain⟨i,hi,ei⟩:∃ i:Nat,i < m+r/\c3%((m:Int)+(r:Int))=(i:Int):=⟨(c3%((m:Int)+(r:Int))).toNat,by omega,by omega⟩
 obtain⟨kf,rf,ps,z1,z4⟩:=key m r i hm1 hm8 hr8 hi
 refine⟨kf,rf,ps,i,k0,by omega,z1,pk0,?_⟩
 simp only [K0] at z4
 rcases mr with ⟨y1,y2,y3⟩ | ⟨y1,y2,y3⟩
 ·have b1:(c1 / 12%8==1)=true:=by simp [y1]
  simp! only [e1,g3,d3,g4,d12,g8,b1,d96,y2,d768,g9,y3,e3,md,ei,Hr,z4]
 ·have b1:(c1 / 12%8==1)=false:=by simp [y1]
  simp! only [e1,g3,d3,g4,d12,g8,b1,y2,y3,e3,md,ei,Hr,z4]
theorem math (ns:List Int) (hl:ns.length<=63):aP sS 1 10 [.lst (ns.map .int)]=.ok (.bl true):=by
 obtain⟨c0,e0⟩:=TD.Lc ns 0 (by decide)
 obtain⟨c4,e4⟩:=TD.Lc ns 4 (by decide)
 obtain⟨ws,w1,w2,wn,ew⟩:=TD.Eo c0 20 (by decide)
 have ew':aP dt 2 10 [.int c0,.int 20]=.ok (.lst (ws.map .str)):=ew
 have hn:=wn (by decide)
 obtain⟨kf,rf,ps,i,k,hi',ok,pk,ef⟩:=Ft ns ws w1 hn
 have ni:aE (.lst (ws.map .str)) (.int (i:Int))=some (.str (ws.getD i "")):=by
  rw [zm,vS,OS,PJ ‹0›,QC,PJ ‹0›]; rfl
 obtain⟨x,hx,ex⟩:=jx c4 6 (by decide) (by decide)
 obtain⟨s,sv,es⟩:=D9 pk x
 have lb:=D4 sv pk
 have o0:=ok k k (tH pk)
 have il:=o0.il
 have kl:=o0.kl
 have rl:=o0.rl
 have at1:aE (.tup (kf++rf)) (.int (i:Int))=some (.tup [.str (ws.getD i ""),k.d]):=by
  rw [yk,vS,o0.e,OS,o0.at']; rfl
 have tu:=Fs kf rf i il
 have nw:∀ (fas:az->R (List D)) (ρ:az),fNew "Sieve" ["name","kind"] fas ρ=(fas ρ).bind fun as=>if as.length=2 then .ok (.obj "Sieve" ["name","kind"] as) else un:=fun _ _=>rfl
 have rv:∀ xs:List D,Fb (.tup xs)=some (.tup xs.reverse):=fun _=>nr rfl
 have un2:∀ (a b:D) (ρ:az),gT 2 (uy [2,3]) (.tup [a,b]) ρ=some (setV 3 b (setV 2 a ρ)):=fun _ _ _=>rfl
 have evU:∀ (f:FX) (g:GF) (k:Ks) (ρ:az),Gs f g k ρ=rH (f ρ) k ρ fun d=>(rO (g d ρ)).bind k.nx:=fun _ _ _ _=>rfl
 have c530:(cutD ns (some 5) (some 35)).length<=30:=by
  unfold cutD
  rw [OL]
  have e1:HT.sIx ns.length 0 (some 5)=min 5 ns.length:=HT.Lz _ _ 5
  have e2:HT.sIx ns.length ns.length (some 35)=min 35 ns.length:=HT.Lz _ _ 35
  rw [e1,e2]
  omega
 have right:∀ s' c,C0 k s' c->aP eX 3 4 [stp (ws.getD i "") s',.str (ws.getD i ""),s'.d]=.ok (.bl true)/\aP dq 5 12 [stp (ws.getD i "") s',.tup [.tup kf,.tup rf],.int i,c.d,.lst (cutD (ns.map .int) (some 5) (some 35))]=.ok (.bl true)/\aP dq 5 12 [stp (ws.getD i "") s',.tup [.tup kf.reverse,.tup rf.reverse],.int (turn kf.length rf.length i),c.d,.lst (cutD (ns.map .int) (some 5) (some 35))]=.ok (.bl true):=fun s' c tw=>by
  have o:=ok s' c tw
  obtain⟨ps',o'⟩:=o.rev
  rw [qT]
  exact⟨GD tw.sb,yS o _ c530,yS o' _ c530⟩
 obtain⟨C,hC⟩:∃ C:az->R Bool,C=(yc (gG (fB (f2 gQ (f2 aE (af 6) (fC (.int 0))) (fC (.str "number")))) (fB (f2 HA (f2 aE (af 6) (fC (.int 1))) (f2 aE (af 6) (fC (.int 2)))))) (fB (f2 gQ (af 6) (cY (ah (fC (.str "word")) (ah (cY (ax)) (ax))))))):=⟨_,rfl⟩
 have Cb:∀ x0 x1 x2 x3 x4 x5 x7 x8 x9:Option S,C [x0,x1,x2,x3,x4,x5,some (.val (Gq k s).d),x7,x8,x9]=.ok (Gq k s).bad:=fun x0 x1 x2 x3 x4 x5 x7 x8 x9=>by
  have en:=GA (Gq k s)
  generalize Gq k s=b at en ⊢
  rw [hC]
  cases b with
  | num u v =>
   have pe:pyEq (Kd.num u v).d (Kd.wrd []).d=false:=by
    unfold Kd.d
    rw [pyEq]
    unfold pyEqL
    have:pyEq (.str "number") (.str "word")=false:=by unfold pyEq; decide +kernel
    rw [this]; rfl
   rw [pe] at en
   unfold Kd.d at en ⊢
   unfold Kd.bad
   cases hd:decide (v < u) <;> simp! only [qf,hd,Kg,qB,en]
  | wrd us =>
   have pe:pyEq (Kd.wrd us).d (Kd.wrd []).d=us.isEmpty:=by
    unfold Kd.d
    rw [pyEq]
    unfold pyEqL
    have:pyEq (.str "word") (.str "word")=true:=by unfold pyEq; decide +kernel
    rw [this]
    unfold pyEqL
    rw [pyEq]
    cases us with
    | nil=>rfl
    | cons a r =>
     have z:pyEqL (.str a::r.map .str) []=false:=by unfold pyEqL; rfl
     rw [OB,O7,z]; rfl
   rw [pe] at en
   unfold Kd.d at en ⊢
   unfold Kd.bad
   simp! only [lq,Kg,qB,en]
 rw [kj]
 unfold sS
 rw [<- hC]
 cases hb:(Gq k s).bad with
 | true =>
  rw [hb] at Cb
  obtain⟨td,r1,r2⟩:=right k k (tH pk)
  simp! only [e0,e4,ew',ef,evU,un2,e8 kf rf ‹0›,at1,ex,es,lb,Cb,ni,nw,eq_self,rv,qB,td,r1,tu,r2]
 | false =>
  rw [hb] at Cb
  obtain⟨td,r1,r2⟩:=right s (Gq k s) (sv.two pk hb)
  simp! only [e0,e4,ew',ef,evU,un2,e8 kf rf ‹0›,at1,ex,es,lb,Cb,ni,nw,eq_self,rv,qB,td,r1,tu,r2]
end Tk32
open PySem PySem.W PyProof.Rows
theorem PySem.W.Fast.tw9433538303557116194 : True := trivial
theorem PySem.W.Fast.tw2833011395206526693 : True := trivial
theorem PySem.W.Fast.tw13709292751108174526 : True := trivial
theorem PySem.W.Fast.tw4486323559547769786 : True := trivial
theorem PySem.W.Fast.tw3538910059684088410 : True := trivial
theorem PySem.W.Fast.tw3383684809231342532 : True := trivial
theorem PySem.W.Fast.tw12628550254277911942 : True := trivial
theorem PySem.W.Fast.tw1640315997097861679 : True := trivial
theorem PySem.W.Fast.tw11390587626063385112 : True := trivial
theorem PySem.W.Fast.tw11560164458657992295 : True := trivial
theorem PySem.W.Fast.tw16515589558089804395 : True := trivial
theorem PySem.W.Fast.tw5918862315064801054 : True := trivial
theorem PySem.W.Fast.tw8838009464844096403 : True := trivial
theorem PySem.W.Fast.tw4330941779088086804 : True := trivial
theorem PySem.W.Fast.tw7386273214501931205 : True := trivial
theorem PySem.W.Fast.tw1385282293771739162 : True := trivial
theorem PySem.W.Fast.tw9895987366897184400 : True := trivial
theorem PySem.W.Fast.tw17389868644599582962 : True := trivial
theorem PySem.W.Fast.tw12811545849998256832 : True := trivial
theorem PySem.W.Fast.tw7049581525057549123 : True := trivial
theorem PySem.W.Fast.tw8183915911810204139 : True := trivial
theorem PySem.W.Fast.tw9541644058675516251 : True := trivial
theorem PySem.W.Fast.tw17129792430163533390 : True := trivial
theorem PySem.W.Fast.tw2228679791304005275 : True := trivial
theorem PySem.W.Fast.tw9753727389471692473 : True := trivial
theorem PySem.W.Fast.tw11360132212945920312 : True := trivial
theorem PySem.W.Fast.tw11173374561168677473 : True := trivial
theorem PySem.W.Fast.tw1079099819631588691 : True := trivial
theorem PySem.W.Fast.tw10215857608778928056 : True := trivial
theorem PySem.W.Fast.tw1751530401863482644 : True := trivial
theorem PySem.W.Fast.tw3993442529863136684 : True := trivial
theorem PySem.W.Fast.tw2530148565698531207 : True := trivial
theorem PySem.W.Fast.tw2422447332403275126 : True := trivial
theorem PySem.W.Fast.tw12780823945959448225 : True := trivial
theorem PySem.W.Fast.tw10752057313854999527 : True := trivial
theorem PySem.W.Fast.tw8257301448843715497 : True := trivial
theorem PySem.W.Fast.tw15619523764397634563 : True := trivial
theorem PySem.W.Fast.tw6106766479286001085 : True := trivial
theorem PySem.W.Fast.tw8566782181262818746 : True := trivial
theorem PySem.W.Fast.tw3494489957268538372 : True := trivial
theorem PySem.W.Fast.tw1573770326458571166 : True := trivial
theorem PySem.W.Fast.tw11101376388248739106 : True := trivial
theorem PySem.W.Fast.tw180695711758262728 : True := trivial
theorem PySem.W.Fast.tw6693491996178766380 : True := trivial
theorem PySem.W.Fast.tw15644434730423176130 : True := trivial
theorem PySem.W.Fast.tw7340521438984876956 : True := trivial
theorem PySem.W.Fast.tw12045890876170535927 : True := trivial
theorem PySem.W.Fast.tw14052801150856184955 : True := trivial
theorem PySem.W.Fast.tw16550127189687510227 : True := trivial
theorem PySem.W.Fast.tw9389691891564150627 : True := trivial
theorem PySem.W.Fast.tw1110088202017185651 : True := trivial
theorem PySem.W.Fast.tw16964211640900796912 : True := trivial
theorem PySem.W.Fast.tw15874629909268701389 : True := trivial
theorem PySem.W.Fast.tw17923486223401220991 : True := trivial
theorem PySem.W.Fast.tw9243915485241179616 : True := trivial
theorem PySem.W.Fast.tw1970262551972792421 : True := trivial
theorem PySem.W.Fast.tw6240536068281881743 : True := trivial
theorem PySem.W.Fast.tw12563311722495774575 : True := trivial
theorem PySem.W.Fast.tw16001892929380497890 : True := trivial
theorem PySem.W.Fast.tw14489071770034440602 : True := trivial
theorem PySem.W.Fast.tw13640032937928139546 : True := trivial
theorem PySem.W.Fast.tw8060998728825671712 : True := trivial
theorem PySem.W.Fast.tw887965841465065990 : True := trivial
theorem PySem.W.Fast.tw17846412245505674605 : True := trivial
theorem PySem.W.Fast.tw2441881854020714430 : True := trivial
theorem PySem.W.Fast.tw2757174279022726136 : True := trivial
theorem PySem.W.Fast.tw680778118837657563 : True := trivial
theorem PySem.W.Fast.tw12135690324326060753 : True := trivial
theorem PySem.W.Fast.tw17424447516090095764 : True := trivial
theorem PySem.W.Fast.tw11155345992316696728 : True := trivial
theorem PySem.W.Fast.tw12720886818191934566 : True := trivial
theorem PySem.W.Fast.tw3621805864628072398 : True := trivial
theorem PySem.W.Fast.tw17014441993313903150 : True := trivial
theorem PySem.W.Fast.tw16021107184892233686 : True := trivial
theorem PySem.W.Fast.tw9803899893092629484 : True := trivial
theorem PySem.W.Fast.tw13056213665892320299 : True := trivial
theorem PySem.W.Fast.tw17206634711321882579 : True := trivial
theorem PySem.W.Fast.tw9057379987286267953 : True := trivial
theorem PySem.W.Fast.tw13957396349336778281 : True := trivial
theorem PySem.W.Fast.tw6353813004095269055 : True := trivial
theorem PySem.W.Fast.tw14874430460994132852 : True := trivial
theorem PySem.W.Fast.tw15110492455677161887 : True := trivial
theorem PySem.W.Fast.tw1491876362287852151 : True := trivial
theorem PySem.W.Fast.tw5612057532733158016 : True := trivial
theorem PySem.W.Fast.tw11904562494975059985 : True := trivial
theorem PySem.W.Fast.tw11589761061414433785 : True := trivial
theorem PySem.W.Fast.tw13726514826716264753 : True := trivial
theorem PySem.W.Fast.tw1197590121419360984 : True := trivial
theorem PySem.W.Fast.tw6862791739553767269 : True := trivial
theorem PySem.W.Fast.tw1664065388322752241 : True := trivial
theorem PySem.W.Fast.tw5057848659137833291 : True := trivial
theorem PySem.W.Fast.tw8788213368941826507 : True := trivial
theorem PySem.W.Fast.tw4544753719347839540 : True := trivial
theorem PySem.W.Fast.tw5709124542572616662 : True := trivial
theorem PySem.W.Fast.tw17763710990540658014 : True := trivial
theorem PySem.W.Fast.tw319062679214678838 : True := trivial
theorem PySem.W.Fast.tw1678308487747690492 : True := trivial
theorem PySem.W.Fast.tw15058069111300615157 : True := trivial
theorem PySem.W.Fast.tw2582857126093788385 : True := trivial
theorem PySem.W.Fast.tw11595054951870730144 : True := trivial
theorem PySem.W.Fast.tw5964310634895995952 : True := trivial
theorem PySem.W.Fast.tw14393546811889210099 : True := trivial
theorem PySem.W.Fast.tw1142675469000620442 : True := trivial
theorem PySem.W.Fast.tw8139726052114069251 : True := trivial
theorem PySem.W.Fast.tw5202020350640897824 : True := trivial
theorem PySem.W.Fast.tw2998318918718542864 : True := trivial
theorem PySem.W.Fast.tw12071999580092348695 : True := trivial
theorem PySem.W.Fast.tw6037628580569975286 : True := trivial
theorem PySem.W.Fast.tw15227625440738981993 : True := trivial
theorem PySem.W.Fast.tw17221067665296416132 : True := trivial
theorem PySem.W.Fast.tw590785985502121247 : True := trivial
theorem PySem.W.Fast.tw17584637289434021989 : True := trivial
theorem PySem.W.Fast.tw16668866903535169759 : True := trivial
theorem PySem.W.Fast.tw2263537441428257431 : True := trivial
theorem PySem.W.Fast.tw7289668825734006934 : True := trivial
theorem PySem.W.Fast.tw7233321357996836886 : True := trivial
theorem PySem.W.Fast.tw6812788952800331551 : True := trivial
theorem PySem.W.Fast.tw7336810107739883174 : True := trivial
theorem PySem.W.Fast.tw539338765123060636 : True := trivial
theorem PySem.W.Fast.tw1306531907989956378 : True := trivial
theorem PySem.W.Fast.tw2025078053739118730 : True := trivial
theorem PySem.W.Fast.tw4850785189481082558 : True := trivial
theorem PySem.W.Fast.tw1528947873241131387 : True := trivial
theorem PySem.W.Fast.tw10228514967388759507 : True := trivial
set_option maxRecDepth 100000 in
set_option maxHeartbeats 0 in
theorem PySem.Challenge.cw_twoglass_k32_rows_sieved_holds : PySem.Challenge.rw_twoglass_k32_rows_sieved.Holds := by
  w_on; o_law; k_head; (case hw => w_witness2)
  k_fill
  refine Tk32.walk (l := PySem.Challenge.rw_twoglass_k32_rows_sieved) rfl rfl (fun w h Y => ⟨PySem.W.km_in_of Y, PySem.W.km_tabs_of Y _ (List.Mem.head _)⟩) ?F Tk32.math
  case F =>
    intro w mg fa h KX G hmg
    refine' Tk32.all_mk KX G hmg ?ac0 ?ac1 ?a0 ?l0 ?c0 ?k0 ?a1 ?i1 ?l1 ?c1 ?k1 ?a2 ?l2 ?c2 ?k2 ?a3 ?l3 ?c3 ?k3 ?a4 ?l4 ?c4 ?k4 ?a5 ?l5 ?c5 ?k5 ?a6 ?l6 ?c6 ?k6 ?a7 ?l7 ?c7 ?k7 ?a8 ?l8 ?c8 ?k8 ?a9 ?l9 ?c9 ?k9 ?a10 ?l10 ?c10 ?k10 ?a11 ?l11 ?c11 ?k11 ?a12 ?l12 ?c12 ?k12 ?a13 ?l13 ?c13 ?k13 ?a14 ?i14 ?l14 ?c14 ?k14 ?a15 ?l15 ?c15 ?k15 ?a16 ?l16 ?c16 ?k16 ?a17 ?l17 ?c17 ?k17 ?a18 ?i18 ?l18 ?c18 ?k18 ?a19 ?i19 ?l19 ?c19 ?k19 ?a20 ?i20 ?l20 ?c20 ?k20 ?a21 ?l21 ?c21 ?k21 ?a22 ?l22 ?c22 ?k22 ?a23 ?l23 ?c23 ?k23 ?a24 ?l24 ?c24 ?k24 ?a25 ?l25 ?c25 ?k25 ?a26 ?i26 ?l26 ?c26 ?k26 ?a27 ?i27 ?l27 ?c27 ?k27 ?a28 ?i28 ?l28 ?c28 ?k28 ?a29 ?i29 ?l29 ?c29 ?k29 ?a30 ?l30 ?c30 ?k30 ?a31 ?l31 ?c31 ?k31 ?a32 ?i32 ?l32 ?c32 ?k32 ?a33 ?l33 ?c33 ?k33 ?a34 ?l34 ?c34 ?k34 ?a35 ?l35 ?c35 ?k35 ?a36 ?l36 ?c36 ?k36 ?a37 ?l37 ?c37 ?k37 ?a38 ?l38 ?c38 ?k38 ?a39 ?l39 ?c39 ?k39 ?a40 ?i40 ?l40 ?c40 ?k40 ?a41 ?l41 ?c41 ?k41 ?a42 ?i42 ?l42 ?c42 ?k42 ?a43 ?l43 ?c43 ?k43 ?a44 ?l44 ?c44 ?k44 ?a45 ?l45 ?c45 ?k45 ?a46 ?l46 ?c46 ?k46 ?a47 ?l47 ?c47 ?k47 ?a48 ?l48 ?c48 ?k48 ?a49 ?l49 ?c49 ?k49 ?a50 ?l50 ?c50 ?k50 ?a51 ?l51 ?c51 ?k51 ?a52 ?l52 ?c52 ?k52 ?a53 ?l53 ?c53 ?k53 ?a54 ?i54 ?l54 ?c54 ?k54 ?p0 ?q0 ?r0 ?s0 ?n0_0 ?n0_1 ?m0 ?kp0 ?p1 ?q1 ?r1 ?s1 ?y1_1 ?y1_0 ?z0 ?z1 ?z2 ?z3 ?z4 ?z5 ?z6 ?z7 ?z8 ?z9 ?z10 ?z11 ?z12 ?z13 ?z14 ?lc ?lh ?lt
    (case ac0 => k_is)
    (case ac1 => k_is)
    (case a0 => k_is)
    (case l0 => delta TX.Lk; k_is)
    (case c0 => k_is)
    (case k0 => k_is)
    (case a1 => k_is)
    (case i1 => k_is)
    (case l1 => delta TX.Lk; k_is)
    (case c1 => k_is)
    (case k1 => k_is)
    (case a2 => k_is)
    (case l2 => delta TX.Lk; k_is)
    (case c2 => k_is)
    (case k2 => k_is)
    (case a3 => k_is)
    (case l3 => delta TX.Lk; k_is)
    (case c3 => k_is)
    (case k3 => k_is)
    (case a4 => k_is)
    (case l4 => delta TX.Lk; k_is)
    (case c4 => k_is)
    (case k4 => k_is)
    (case a5 => k_is)
    (case l5 => delta TX.Lk; k_is)
    (case c5 => k_is)
    (case k5 => k_is)
    (case a6 => k_is)
    (case l6 => delta TX.Lk; k_is)
    (case c6 => k_is)
    (case k6 => k_is)
    (case a7 => k_is)
    (case l7 => delta TX.Lk; k_is)
    (case c7 => k_is)
    (case k7 => k_is)
    (case a8 => k_is)
    (case l8 => delta TX.Lk; k_is)
    (case c8 => k_is)
    (case k8 => k_is)
    (case a9 => k_is)
    (case l9 => delta TX.Lk; k_is)
    (case c9 => k_is)
    (case k9 => k_is)
    (case a10 => k_is)
    (case l10 => delta TX.Lk; k_is)
    (case c10 => k_is)
    (case k10 => k_is)
    (case a11 => k_is)
    (case l11 => delta TX.Lk; k_is)
    (case c11 => k_is)
    (case k11 => k_is)
    (case a12 => k_is)
    (case l12 => delta TX.Lk; k_is)
    (case c12 => k_is)
    (case k12 => k_is)
    (case a13 => k_is)
    (case l13 => delta TX.Lk; k_is)
    (case c13 => k_is)
    (case k13 => k_is)
    (case a14 => k_is)
    (case i14 => k_is)
    (case l14 => delta TX.Lk; k_is)
    (case c14 => k_is)
    (case k14 => k_is)
    (case a15 => k_is)
    (case l15 => delta TX.Lk; k_is)
    (case c15 => k_is)
    (case k15 => k_is)
    (case a16 => k_is)
    (case l16 => delta TX.Lk; k_is)
    (case c16 => k_is)
    (case k16 => k_is)
    (case a17 => k_is)
    (case l17 => delta TX.Lk; k_is)
    (case c17 => k_is)
    (case k17 => k_is)
    (case a18 => k_is)
    (case i18 => k_is)
    (case l18 => delta TX.Lk; k_is)
    (case c18 => k_is)
    (case k18 => k_is)
    (case a19 => k_is)
    (case i19 => k_is)
    (case l19 => delta TX.Lk; k_is)
    (case c19 => k_is)
    (case k19 => k_is)
    (case a20 => k_is)
    (case i20 => k_is)
    (case l20 => delta TX.Lk; k_is)
    (case c20 => k_is)
    (case k20 => k_is)
    (case a21 => k_is)
    (case l21 => delta TX.Lk; k_is)
    (case c21 => k_is)
    (case k21 => k_is)
    (case a22 => k_is)
    (case l22 => delta TX.Lk; k_is)
    (case c22 => k_is)
    (case k22 => k_is)
    (case a23 => k_is)
    (case l23 => delta TX.Lk; k_is)
    (case c23 => k_is)
    (case k23 => k_is)
    (case a24 => k_is)
    (case l24 => delta TX.Lk; k_is)
    (case c24 => k_is)
    (case k24 => k_is)
    (case a25 => k_is)
    (case l25 => delta TX.Lk; k_is)
    (case c25 => k_is)
    (case k25 => k_is)
    (case a26 => k_is)
    (case i26 => k_is)
    (case l26 => delta TX.Lk; k_is)
    (case c26 => k_is)
    (case k26 => k_is)
    (case a27 => k_is)
    (case i27 => k_is)
    (case l27 => delta TX.Lk; k_is)
    (case c27 => k_is)
    (case k27 => k_is)
    (case a28 => k_is)
    (case i28 => k_is)
    (case l28 => delta TX.Lk; k_is)
    (case c28 => k_is)
    (case k28 => k_is)
    (case a29 => k_is)
    (case i29 => k_is)
    (case l29 => delta TX.Lk; k_is)
    (case c29 => k_is)
    (case k29 => k_is)
    (case a30 => k_is)
    (case l30 => delta TX.Lk; k_is)
    (case c30 => k_is)
    (case k30 => k_is)
    (case a31 => k_is)
    (case l31 => delta TX.Lk; k_is)
    (case c31 => k_is)
    (case k31 => k_is)
    (case a32 => k_is)
    (case i32 => k_is)
    (case l32 => delta TX.Lk; k_is)
    (case c32 => k_is)
    (case k32 => k_is)
    (case a33 => k_is)
    (case l33 => delta TX.Lk; k_is)
    (case c33 => k_is)
    (case k33 => k_is)
    (case a34 => k_is)
    (case l34 => delta TX.Lk; k_is)
    (case c34 => k_is)
    (case k34 => k_is)
    (case a35 => k_is)
    (case l35 => delta TX.Lk; k_is)
    (case c35 => k_is)
    (case k35 => k_is)
    (case a36 => k_is)
    (case l36 => delta TX.Lk; k_is)
    (case c36 => k_is)
    (case k36 => k_is)
    (case a37 => k_is)
    (case l37 => delta TX.Lk; k_is)
    (case c37 => k_is)
    (case k37 => k_is)
    (case a38 => k_is)
    (case l38 => delta TX.Lk; k_is)
    (case c38 => k_is)
    (case k38 => k_is)
    (case a39 => k_is)
    (case l39 => delta TX.Lk; k_is)
    (case c39 => k_is)
    (case k39 => k_is)
    (case a40 => k_is)
    (case i40 => k_is)
    (case l40 => delta TX.Lk; k_is)
    (case c40 => k_is)
    (case k40 => k_is)
    (case a41 => k_is)
    (case l41 => delta TX.Lk; k_is)
    (case c41 => k_is)
    (case k41 => k_is)
    (case a42 => k_is)
    (case i42 => k_is)
    (case l42 => delta TX.Lk; k_is)
    (case c42 => k_is)
    (case k42 => k_is)
    (case a43 => k_is)
    (case l43 => delta TX.Lk; k_is)
    (case c43 => k_is)
    (case k43 => k_is)
    (case a44 => k_is)
    (case l44 => delta TX.Lk; k_is)
    (case c44 => k_is)
    (case k44 => k_is)
    (case a45 => k_is)
    (case l45 => delta TX.Lk; k_is)
    (case c45 => k_is)
    (case k45 => k_is)
    (case a46 => k_is)
    (case l46 => delta TX.Lk; k_is)
    (case c46 => k_is)
    (case k46 => k_is)
    (case a47 => k_is)
    (case l47 => delta TX.Lk; k_is)
    (case c47 => k_is)
    (case k47 => k_is)
    (case a48 => k_is)
    (case l48 => delta TX.Lk; k_is)
    (case c48 => k_is)
    (case k48 => k_is)
    (case a49 => k_is)
    (case l49 => delta TX.Lk; k_is)
    (case c49 => k_is)
    (case k49 => k_is)
    (case a50 => k_is)
    (case l50 => delta TX.Lk; k_is)
    (case c50 => k_is)
    (case k50 => k_is)
    (case a51 => k_is)
    (case l51 => delta TX.Lk; k_is)
    (case c51 => k_is)
    (case k51 => k_is)
    (case a52 => k_is)
    (case l52 => delta TX.Lk; k_is)
    (case c52 => k_is)
    (case k52 => k_is)
    (case a53 => k_is)
    (case l53 => delta TX.Lk; k_is)
    (case c53 => k_is)
    (case k53 => k_is)
    (case a54 => k_is)
    (case i54 => k_is)
    (case l54 => delta TX.Lk; k_is)
    (case c54 => k_is)
    (case k54 => k_is)
    (case p0 => k_is)
    (case q0 => k_is)
    (case r0 => k_is)
    (case s0 => k_is)
    (case n0_0 => k_is)
    (case n0_1 => k_is)
    (case m0 => k_is)
    (case kp0 => k_is)
    (case p1 => k_is)
    (case q1 => k_is)
    (case r1 => k_is)
    (case s1 => k_is)
    (case y1_1 => k_is)
    (case y1_0 => k_is)
    (case z0 => k_is)
    (case z1 => k_is)
    (case z2 => k_is)
    (case z3 => k_is)
    (case z4 => k_is)
    (case z5 => k_is)
    (case z6 => k_is)
    (case z7 => k_is)
    (case z8 => k_is)
    (case z9 => k_is)
    (case z10 => k_is)
    (case z11 => k_is)
    (case z12 => k_is)
    (case z13 => k_is)
    (case z14 => k_is)
    (case lc => rfl)
    (case lh => kernel_rfl)
    (case lt => kernel_rfl)

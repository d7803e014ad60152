import PyProof.Rows.All
import Wide.All
import OpenK.AllK
import Wide.FinOn
import Lean
import PyProof.EqAt
import PyProof.EqKinds
import PyProof.TupleCall
import PyProof.NeKinds
import PyProof.ZipIter
import PyProof.Draws
import PyProof.FactsAll.zip
import KE.KSortTup
import KE.KDictSum
import PyProof.TupleOfSeq
import PyProof.StrWalks
import PyProof.Rows.SetFrom
import KE.KRevIter
import PyProof.Rows.Range3
import KE.KTryMore
import KE.KIsNot
import PyProof.ExcArgsOwn
import PyProof.ExcAttrAll.ValueError
import PyProof.ExcBaseAll.ValueError
import PyProof.NsDelKeeps
import PyProof.Rows.CallKwBuiltin
import PyProof.WalkInts
import PyProof.Rows.Catch
import KE.KLam
import KE.KNestM
import PyProof.FactsAll.list_3
import KE.KDictList
import PyProof.Rows.CountFlat
import KE.KDictOf
import PyProof.AttrMissHeap
import PyProof.DictFindH
import PySem.Challenge.RW_twoglass_k40_nested
set_option Elab.async false
set_option linter.all false
set_option maxRecDepth 100000
open List renaming filterMap_cons→MI, mem_cons_self→MJ, mem_cons_of_mem→MK, mem_append_left→ML, getElem?_set_self→MM, getElem?_set_ne→MN, mem_append_right→MQ, size_toArray→MT, length_cons→MV, map_cons→MX, length_map→MY, append_nil→M1, of_mem_zip→M3, length_take→M4, getElem?_append_right→M5, getElem?_replicate→M6, getElem?_append_left→M7, getElem?_map→M8, mem_of_getElem?→M9, length_append→Nb, length_drop→Nf, length_singleton→Ni, map_nil→Nk, find?_cons→Nm, any_cons→Nn, length_nil→Np, nodup_nil→Nr, lookup_cons→Nt, forIn_cons→Nu, cons_append→Nx, take_zero→Ny, take_nil→Nz, take_succ_cons→NA, drop_zero→NB, drop_succ_cons→NC, all_cons→ND, getElem?_eq_getElem→NE, getElem_of_mem→NM, nil_append→NN, map_congr_left→NP, map_append→NQ, take_add_one→NR, getElem?_drop→NS, length_range→NT, take_length→NU, getElem?_range→NW, drop_eq_getElem_cons→NX, append_assoc→NZ, drop_length→N0, mem_cons→N1, not_mem_nil→N2, getElem?_cons_zero→N3, getElem?_cons_succ→N4, zip_cons_cons→N8, contains_cons→N9, nodup_append→Oc, replicate_zero→Oe, zip_nil_right→Of, replicate_succ→Og, foldl_cons→Oh, not_lt_nil→Oi, nil_lt_cons→Oj, cons_lt_cons_iff→Ol, pairwise_singleton→Om, filter_cons_of_pos→Oo, filter_cons_of_neg→Oq, getElem_mem→Ot, pairwise_map→Ou, getD_eq_getElem?_getD→Ov, map_map→Ow, any_map→Ox, mem_nil_iff→Oy, mem_singleton→Oz, find?_cons_of_pos→OA, find?_cons_of_neg→OB, getElem?_eq_none→OC, take_of_length_le→OH, set_cons_zero→OI, set_cons_succ→OJ, foldl_append→OS, take_take→OT, getLast?_append→OU, getLast?_eq_getLast→OV, getLast_mem→OW, dropLast_concat_getLast→OX, flatMap_cons→OY, flatMap_append→OZ, flatMap_singleton→O0, map_singleton→O1, take_append_drop→O2, getElem_map→O3, take_succ_eq_append_getElem→O5, getElem_append_right→O6, mem_of_mem_take→O8, mem_of_mem_drop→O9, map_take→Pa, map_drop→Pb
open Int renaming natCast_nonneg→MR, fdiv_eq_ediv_of_nonneg→MS, toNat_natCast→Nc, emod_nonneg→OO, emod_lt_of_pos→OQ, toNat_of_nonneg→O7
open Nat renaming lt_of_lt_of_le→MD, lt_irrefl→ME, ne_of_lt→MF, le_trans→MG, le_of_lt→MH, ne_of_gt→MO, le_refl→MP, le_of_eq→MZ, zero_le→M0, le_succ→M2, lt_trans→Nq, lt_succ_of_lt→Nw, min_self→NF, sub_zero→NV, lt_of_le_of_lt→NY, le_add_right→N5, add_lt_add_left→N6, lt_add_of_pos_right→N7, sub_self→Od, zero_add→OD, min_eq_left→OG
open Bool renaming false_ne_true→MU, and_eq_true→Ng, and_false→Nj, false_eq_true→Nv, and_true→NI, or_eq_true→NK, or_eq_false_iff→Oa, not_true→OL, not_false→OM
open Option renaming getD_none→Nh
open PySem renaming Value→Qo, World→Qp, Program→Qq, Addr→Qr, Paired→Qs, Heap→Qt, sizeLine→Qu, mainGlobals→Qv, bootBuiltins→Qw, Around→Qx, Shared→Qy, Scope→Qz, wpAny→QA, Expr→QB, starEach→QC, Stmt→QD, wpAny_mono→QE, wpAny_truthy_bool→QF, wpAny_execs_nil→QG, wpAny_pure→QH, wpAny_bind→QI, wpAny_pyIter_list→QJ, PassesOwn→QK, foldedSetIterable→QL, wpAny_passesOwn→QM, binaryOp→QN, compareOp→QO, CmpOp→QP, behindInMarks→QQ, sizeLine_eq→QR, Result→QS, codeAny→QT, attributeBase→QU, callWith→QV, keywordEach→QW, cLine→QX, FuncData→QY, BindsTo→QZ, codeAny_mono→Q0, wpAny_Call_Name_kw→Q1, Keyword→Q2, NameKind→Q3, concat_meets→Q4, noFill_tuple_add→Q5, seq_tuple_add→Q6, IsPart→Q7, wpAny_field→Q8, wpAny_holding→Q9, wpAny_callSpecial?_slot→Ra, wpAny_call_entry→Rb, wpAny_typeOf→Rc, wpAny_newObj_type→Rf, DictEntry→Rg, tupleKind_room_in1→Rh, wpAny_rule→Ri, wpAny_getItem_str_slice→Rj, post_val_or_str→Rl, wpAny_seqItems→Rm, wpAny_setField→Rn, wpAny_of_eq→Ro, wpAny_handled→Rp, IsZip→Rq, IsPair→Rr, wpAny_setField_rec→Rt, wpAny_onRaise→Ru, wpAny_updateSeq_pair→Rv, wpAny_letGo→Rw, wpAny_newTuple→Rx, wpAny_attempt→Ry, wpAny_isInstance→Rz, isSubtype_stop→RA, codeAny_builtin→RC, wpAny_tryCatch→RD, wpAny_updateSeq→RE, plainId_quiet→RF, wpAny_notOrdered_dict→RG, wpAny_dictEntries→RH, wpAny_dictEpoch→RJ, IsItemIter→RK, IsItemIterOut→RL, wpAny_typeNameOfWhole_itemiter→RM, wpAny_typeNameOf_itemiter→RN, wpAny_fieldsOf→RO, wpAny_isOneOf_itemiter→RP, wpAny_typeNameOfWhole_keyiter→RQ, wpAny_typeNameOf_keyiter→RT
open PySem.W renaming instObj→Pg, methodObj→Ph, Frag→Pj, lookIn→Pk, plainGet→Pl, hasDictIn→Pm, findIn→Pn, handedIn→Pp, plainGet_of→Pq, isFn→Pr, plainOver→Pt, takerIn→Pu, makesIn→Pw, emptyDict→Px, keepIn→Py, callWith_K→Pz, cellsFrom_some→PB, fnOf→PC, codeIn→PD, OpenLaw→PF, nsIn→PH, kitOne→PJ, kia_one→PL, BoolBack→PN, kdl_call→PP, mg_of→PQ, mg_none_of→PR
open PySem.Heap renaming lt_size→PV, get?_none_of_le→PX, SameBut→PY, get?_push_of_some→PZ, get?_push_size→P0, size_push→P4, get?_update_other→P5, get?_update_self→P6, ExtBut→P7, get?_push_ne→P8
open PyProof.Rows renaming callWith_type1→P9, slot_tuple_getitem→Qa, envOfC→Qb, IsTup→Qc, boot_str→Qd, boot_bool→Qe, boot_int→Qf, boot_tuple→Qg, boot_list→Qh, boot_max→Qi, listUpdate_at→RB
open PySem.F renaming slot_tuple_add→Qj, entry_tuple_add→Qk, args_tuple_add_2→Ql, slot_list_append→Qm, type_list_append→Qn
set_option maxHeartbeats 1000000
local macro_rules | `(‹1›)=>`(by first | exact Or.inl rfl | exact Or.inr rfl)
local macro_rules | `(‹2›)=>`(⟨rfl, rfl, rfl, by decide +kernel, rfl, by decide +kernel, by decide +kernel⟩)
local macro_rules | `(‹0›)=>`(by omega)
namespace L2
open PySem PySem.Spec PyProof.Rows

abbrev Key:=Sum Int Str
def pV:Key->Qo->Bool
 | .inl k,v=>Value.isInt k v
 | .inr x,v=>Value.isStrOf x v
def KS (w:Qp):Key->Int
 | .inl k=>hashInt k
 | .inr x=>hashStr w x
theorem dj:∀ {k:Key} {v:Qo},pV k v=true->(∃ i t,k=Sum.inl i/\v=Value.int i t)\/(∃ x t,k=Sum.inr x/\v=Value.str x t)
 | .inl i,v,h=>by
  obtain⟨t,e⟩:=Value.isInt_shape (k:=i) (v:=v) h
  exact .inl ⟨i,t,rfl,e⟩
 | .inr x,v,h=>by
  obtain⟨t,e⟩:=Value.isStrOf_shape (x:=x) (v:=v) h
  exact .inr ⟨x,t,rfl,e⟩
theorem A6 (i:Int) (t:Tok):pV (.inl i) (.int i t)=true:=by simp [pV,Value.isInt]
theorem Bb (x:Str) (t:Tok):pV (.inr x) (.str x t)=true:=by simp [pV,Value.isStrOf]
theorem Gm (a b:Int):decide ((Sum.inl a:Key)=Sum.inl b)=(a==b):=by
 by_cases e:a=b
 ·subst e; simp
 ·have h:¬ (Sum.inl a:Key)=Sum.inl b:=fun q=>e (Sum.inl.inj q)
  rw [decide_eq_false h]
  exact(beq_eq_false_iff_ne.mpr e).symm
theorem GC (a b:Str):decide ((Sum.inr a:Key)=Sum.inr b)=decide (a=b):=by
 by_cases e:a=b
 ·subst e; simp
 ·have h:¬ (Sum.inr a:Key)=Sum.inr b:=fun q=>e (Sum.inr.inj q)
  rw [decide_eq_false h,decide_eq_false e]
theorem FZ (a:Int) (b:Str):decide ((Sum.inl a:Key)=Sum.inr b)=false:=decide_eq_false (fun q=>nomatch q)
theorem GK (a:Str) (b:Int):decide ((Sum.inr a:Key)=Sum.inl b)=false:=decide_eq_false (fun q=>nomatch q)

def cw (prog:Qq) (w:Qp):PySem.KeyKind prog w Key where
 is:=pV
 hash:=KS w
 inj:=fun v a b ha hb=>by
  rcases dj ha with ⟨i,t,rfl,rfl⟩ | ⟨x,t,rfl,rfl⟩
  ·rcases dj hb with ⟨j,u,rfl,e⟩ | ⟨y,u,rfl,e⟩
   ·injection e with e1 _; rw [e1]
   ·exact nomatch e
  ·rcases dj hb with ⟨j,u,rfl,e⟩ | ⟨y,u,rfl,e⟩
   ·exact nomatch e
   ·injection e with e1 _; rw [e1]
 byValue:=fun k v h=>by
  rcases dj h with ⟨i,t,rfl,rfl⟩ | ⟨x,t,rfl,rfl⟩ <;> rfl
 pyHash:=fun hv h=>by
  rcases dj hv with ⟨i,t,rfl,rfl⟩ | ⟨x,t,rfl,rfl⟩
  ·exact wpAny_pyHash_int h
  ·exact wpAny_pyHash_str h
 eqBool:=fun hu hv h=>by
  rcases dj hu with ⟨i,t,rfl,rfl⟩ | ⟨x,t,rfl,rfl⟩
  ·rcases dj hv with ⟨j,u,rfl,rfl⟩ | ⟨y,u,rfl,rfl⟩
   ·rw [Gm] at h; exact wpAny_eqBool_int h
   ·rw [FZ] at h; exact SeqAt.EqAt.int_str i t y u _ _ _ _ h
  ·rcases dj hv with ⟨j,u,rfl,rfl⟩ | ⟨y,u,rfl,rfl⟩
   ·rw [GK] at h; exact SeqAt.EqAt.str_int x t j u _ _ _ _ h
   ·rw [GC] at h; exact wpAny_eqBool_str h
 «strs»:=fun k x t v h=>by
  rcases dj h with ⟨i,u,rfl,e⟩ | ⟨y,u,rfl,e⟩
  ·exact nomatch e
  ·injection e with e1 _
   subst e1
   cases v <;> rfl

theorem yA (prog:Qq) (w:Qp) (k:Key) (v:Qo):(cw prog w).is k v=pV k v:=rfl
theorem vY (prog:Qq) (w:Qp) (i:Int) (t:Tok):(cw prog w).is (.inl i) (.int i t)=true:=A6 i t
theorem wQ (prog:Qq) (w:Qp) (x:Str) (t:Tok):(cw prog w).is (.inr x) (.str x t)=true:=Bb x t
end L2

namespace L2
open PySem PySem.Spec PyProof.Rows

inductive V where
 | non | bl (b:Bool) | int (i:Int) | str (x:Str) | byt (b:Array UInt8) | flt (b:UInt64) | ref (a:Qr) | ty (n:String)
 deriving DecidableEq

def RelV:V->Qo->Prop
 | .non,u=>u=Value.none
 | .bl b,u=>u=Value.bool b
 | .int i,u=>∃ t,u=Value.int i t
 | .str x,u=>∃ t,u=Value.str x t
 | .byt b,u=>∃ t,u=Value.bytes b t
 | .flt b,u=>∃ t,u=Value.float b t
 | .ref a,u=>u=Value.ref a
 | .ty n,u=>u=Value.type n

abbrev Vals:List V->List Qo->Prop:=Qs RelV
theorem Vals.length {xs:List V} {us:List Qo} (r:Vals xs us):xs.length=us.length:=Paired.length r
theorem Vals.get:∀ {xs:List V} {us:List Qo} {i:Nat} {x:V},Vals xs us->xs[i]?=some x->∃ u,us[i]?=some u/\RelV x u
 | _,_,_,_,.nil,e=>by simp at e
 | _,_,0,_,.cons r _,e=>by simp at e; subst e; exact⟨_,rfl,r⟩
 | _,_,i+1,x,.cons _ t,e=>by
  obtain⟨u,h1,h2⟩:=Vals.get (i:=i) (x:=x) t (by simpa using e)
  exact⟨u,by simpa using h1,h2⟩
theorem Vals.append:∀ {xs ys:List V} {us ws:List Qo},Vals xs us->Vals ys ws->Vals (xs++ys) (us++ws)
 | _,_,_,_,.nil,s=>s
 | _,_,_,_,.cons r t,s=>.cons r (Vals.append t s)
theorem Vals.take:∀ {xs:List V} {us:List Qo} (n:Nat),Vals xs us->Vals (xs.take n) (us.take n)
 | _,_,0,_=>.nil
 | _,_,_+1,.nil=>.nil
 | _,_,n+1,.cons r t=>.cons r (Vals.take n t)
theorem Vals.drop:∀ {xs:List V} {us:List Qo} (n:Nat),Vals xs us->Vals (xs.drop n) (us.drop n)
 | _,_,0,r=>r
 | _,_,_+1,.nil=>.nil
 | _,_,n+1,.cons _ t=>Vals.drop n t
def rQ:Option V->Option Qo->Prop
 | some v,some u=>RelV v u
 | none,none=>True
 | _,_=>False
def KV {κ:Type}:List (κ×V)->List (κ×Qo)->Prop:=Qs fun (p:κ×V) (q:κ×Qo)=>p.1=q.1/\RelV p.2 q.2

def kV:Key->V
 | .inl i=>.int i
 | .inr x=>.str x

inductive HO where
  | lst (xs:List V)
  | tup (xs:List V)
  | dK (kvs:List (Key×V)) | dT (kvs:List (List Key×V))
  | set (S:Int->Bool) (n:Nat)
  | ins (C dx:Qr) (fs:List (Str×V))
  | own (x:Qr)
  | xd (fs:List (Str×V))
  | met (f x:Qr)
  | rng (lo hi:Int)
  | frz (o:Obj) (u:HO)
  | tbl (ps:Array Qo)
  | ext (φ:(Qr->Prop)->Qt->Prop)

abbrev Hp:=Qr->Option HO
def upd (H:Hp) (a:Qr) (o:HO):Hp:=fun b=>if b=a then some o else H b
theorem bb {H:Hp} {a:Qr} {o:HO}:upd H a o a=some o:=by unfold upd; rw [if_pos rfl]
theorem aJ {H:Hp} {a b:Qr} {o:HO} (h:b≠a):upd H a o b=H b:=by unfold upd; rw [if_neg h]
theorem DB {H:Hp} {a:Qr} {o u:HO}:upd (upd H a o) a u=upd H a u:=by
 funext b; unfold upd; split <;> rfl
theorem Dg {H:Hp} {a b:Qr} {o u:HO} (h:H a=some o) (h':H b=some u) (d:o≠u):a≠b:=by
 intro e; subst e; rw [h] at h'; exact d (Option.some.inj h')
theorem bg {H:Hp} {a b:Qr} {o:HO} (h:H a=some o) (h':H b=none):a≠b:=by
 intro e; subst e; rw [h] at h'; cases h'

section
variable (P:Qq) (w:Qp)
def dm (H:Hp) (h:Qt) (a:Qr):HO->Prop
 | .lst xs=>xs.length<=Qu/\∃ (its:List Qo) (n:Nat),Vals xs its/\h.get? a=some { cls:=.type "list",data:=.seq its.toArray n }
 | .tup xs=>xs.length<=Qu/\∃ its:List Qo,Vals xs its/\IsTup h a its.toArray
 | .dK kvs=>kvs.length<=Qu/\(a==sysModules)=false/\∃ vs,KV kvs vs/\h.DictOf (cw P w) a vs
 | .dT kvs=>kvs.length<=Qu/\(a==sysModules)=false/\∃ xs:List (List Key×Qr×Qo),
   Qs (fun (p:List Key×V) (q:List Key×Qr×Qo)=>p.1=q.1/\H q.2.1=some (.tup (p.1.map kV))/\RelV p.2 q.2.2) kvs xs /\
   ∃ o es ep,h.get? a=some o/\o.ExactDict/\o.data=.dict es ep/\es.toList=xs.map (entryOfKey (tupleKind (cw P w)))/\(xs.map (·.1)).Nodup
 | .set S n=>h.SetOf (intKind P w) a S n
 | .ins C dx fs=>H dx=some (.own a)/\fs.length<=1000/\dx≠a/\h.get? a=some (Pg C dx) /\
   ∃ mA,h.Ns1 dx mA/\(∀ f,rQ (fs.lookup f) (mA f))/\PySem.Within mA (fs.map (·.1))
 | .own _=>∃ o,h.get? a=some o
 | .xd fs=>∃ mA,h.Ns1 a mA/\∀ f,rQ (fs.lookup f) (mA f)
 | .rng lo hi=>∃ t u v,h.get? a=some { cls:=.type "range",data:=.fields #[.int lo t,.int hi u,.int 1 v] }
 | .frz o u=>h.get? a=some o/\dm H h a u
 | .tbl ps=>h.get? a=some { cls:=.none,data:=.fields ps }
 | .met f x=>h.get? a=some (Ph (.ref f) (.ref x))
 | .ext φ=>φ (fun b=>H b=some (.own a)) h/\(∃ o,h.get? a=some o)/\∀ (S1 S2:Qr->Prop) (h1 h2:Qt),φ S1 h1->(∀ b,S1 b->S2 b)->(∀ b o,(b=a\/S1 b)->h1.get? b=some o->h2.get? b=some o)->φ S2 h2
def oO (H:Hp) (h:Qt):Prop:=∀ a o,H a=some o->dm P w H h a o
end

section
variable {P:Qq} {w:Qp} {H H':Hp} {h h':Qt} {a:Qr} {o:HO}
theorem dm.lt (x:dm P w H h a o):a < h.objs.size:=by
 cases o with
 | lst xs=>obtain⟨_,_,_,_,e⟩:=x; exact PV e
 | tup xs=>obtain⟨_,_,_,p⟩:=x; exact p.lt
 | dK kvs=>obtain⟨_,_,_,_,o,_,_,e,_⟩:=x; exact PV e
 | dT kvs=>obtain⟨_,_,_,_,o,_,_,e,_⟩:=x; exact PV e
 | set S n=>obtain⟨o,_,_,_,e,_⟩:=x; exact PV e
 | ins C dx fs=>obtain⟨_,_,_,e,_⟩:=x; exact PV e
 | own y=>obtain⟨_,e⟩:=x; exact PV e
 | xd fs=>obtain⟨_,⟨_,_,_,e,_⟩,_⟩:=x; exact PV e
 | rng lo hi=>obtain⟨_,_,_,e⟩:=x; exact PV e
 | frz ob u=>obtain⟨e,_⟩:=x; exact PV e
 | tbl ps=>exact PV (show h.get? a=some _ from x)
 | met f y=>exact PV (show h.get? a=some _ from x)
 | ext φ=>obtain⟨_,⟨_,e⟩,_⟩:=x; exact PV e
theorem Paired.mapP {α β:Type} {F G:α->β->Prop}:∀ {l₁:List α} {l₂:List β},Qs F l₁ l₂->(∀ a b,F a b->G a b)->Qs G l₁ l₂
 | _,_,.nil,_=>.nil
 | _,_,.cons r t,f=>.cons (f _ _ r) (Paired.mapP t f)
theorem dm.stay (x:dm P w H h a o) (k:∀ b u,(b=a\/H b=some (.own a))->h.get? b=some u->h'.get? b=some u)
  (ho:∀ b,H b=some (.own a)->H' b=some (.own a)) (ht:∀ b xs,H b=some (.tup xs)->H' b=some (.tup xs)):dm P w H' h' a o:=by
 induction o with
 | lst xs=>obtain⟨z,its,n,r,e⟩:=x; exact⟨z,its,n,r,k _ _ (.inl rfl) e⟩
 | tup xs=>obtain⟨z,its,r,ob,e,c⟩:=x; exact⟨z,its,r,ob,k _ _ (.inl rfl) e,c⟩
 | dK kvs=>obtain⟨z,y,vs,r,ob,es,ep,e,c⟩:=x; exact⟨z,y,vs,r,ob,es,ep,k _ _ (.inl rfl) e,c⟩
 | dT kvs =>
  obtain⟨z,y,xs,r,ob,es,ep,e,c⟩:=x
  exact⟨z,y,xs,Paired.mapP r fun p q z=>⟨z.1,ht _ _ z.2.1,z.2.2⟩,ob,es,ep,k _ _ (.inl rfl) e,c⟩
 | set S n=>obtain⟨ob,es,ep,t,e,c⟩:=x; exact⟨ob,es,ep,t,k _ _ (.inl rfl) e,c⟩
 | ins C dx fs =>
  obtain⟨d,z,ne,e,mA,⟨od,es,ep,e2,c⟩,r⟩:=x
  exact⟨ho _ d,z,ne,k _ _ (.inl rfl) e,mA,⟨od,es,ep,k _ _ (.inr d) e2,c⟩,r⟩
 | own y=>obtain⟨ob,e⟩:=x; exact⟨ob,k _ _ (.inl rfl) e⟩
 | xd fs=>obtain⟨mA,⟨od,es,ep,e,c⟩,r⟩:=x; exact⟨mA,⟨od,es,ep,k _ _ (.inl rfl) e,c⟩,r⟩
 | rng lo hi=>obtain⟨t,u,v,e⟩:=x; exact⟨t,u,v,k _ _ (.inl rfl) e⟩
 | frz ob u ih=>obtain⟨e,q⟩:=x; exact⟨k _ _ (.inl rfl) e,ih q⟩
 | tbl ps =>
  have e:h.get? a=some { cls:=.none,data:=.fields ps }:=x
  show h'.get? a=some { cls:=.none,data:=.fields ps }
  exact k a _ (.inl rfl) e
 | met f y =>
  have e:h.get? a=some (Ph (.ref f) (.ref y)):=x
  show h'.get? a=some (Ph (.ref f) (.ref y))
  exact k a _ (.inl rfl) e
 | ext φ=>obtain⟨p,⟨o,e⟩,st⟩:=x; exact⟨st _ _ _ _ p ho k,⟨o,k _ _ (.inl rfl) e⟩,st⟩
theorem oO.lt (x:oO P w H h) (e:H a=some o):a < h.objs.size:=(x a o e).lt
theorem oO.fresh (x:oO P w H h) (e:h.objs.size<=a):H a=none:=by
 cases q:H a with
 | none=>rfl
 | some u=>exact absurd (MD (x.lt q) e) (ME _)
theorem oO.kept (x:oO P w H h) (k:∀ b u,h.get? b=some u->h'.get? b=some u):oO P w H h':=fun a o e =>
 (x a o e).stay (fun b u _ q=>k b u q) (fun _ q=>q) fun _ _ q=>q
theorem oO.laid (x:oO P w H h) (k:∀ b u,h.get? b=some u->h'.get? b=some u) (hp:h.objs.size<=a) (new:dm P w (upd H a o) h' a o):oO P w (upd H a o) h':=fun b u e=>by
 have hn:=x.fresh hp
 by_cases hb:b=a
 ·subst hb; rw [bb] at e; cases e; exact new
 ·rw [aJ hb] at e
  exact(x b u e).stay (fun c v _ q=>k c v q) (fun c q=>by rw [aJ (bg q hn)]; exact q) fun c xs q=>by rw [aJ (bg q hn)]; exact q
end

def Rd (H:Hp) (a:Qr) (u:HO):Prop:=H a=some u\/∃ o,H a=some (.frz o u)
theorem Rd.ok {P:Qq} {w:Qp} {H:Hp} {h:Qt} {a:Qr} {u:HO} (r:Rd H a u) (x:oO P w H h):dm P w H h a u:=by
 rcases r with r | ⟨o,r⟩
 ·exact x a u r
 ·obtain⟨_,q⟩:=x a _ r
  exact q
def Im:Option HO->Prop
 | some (.lst _)=>True
 | some (.dK _)=>True
 | some (.dT _)=>True
 | some (.set _ _)=>True
 | some (.ins _ _ _)=>True
 | some (.ext _)=>True
 | _=>False
section
variable {P:Qq} {w:Qp} {H:Hp} {h h':Qt} {x e:Qr} {o':HO}
theorem oO.write (ok:oO P w H h) (mu:Im (H x)) (he:e=x\/H e=some (.own x)) (k:∀ b u,b≠e->h.get? b=some u->h'.get? b=some u) (heo:∃ u,h'.get? e=some u)
  (new:dm P w (upd H x o') h' x o'):oO P w (upd H x o') h':=fun b u q=>by
 have nown:∀ c y,H c=some (.own y)->c≠x:=fun c y r z=>by subst z; rw [r] at mu; exact mu
 have ntup:∀ c xs,H c=some (.tup xs)->c≠x:=fun c xs r z=>by subst z; rw [r] at mu; exact mu
 by_cases hb:b=x
 ·subst hb; rw [bb] at q; cases q; exact new
 ·rw [aJ hb] at q
  by_cases hbe:b=e
  ·have q':H b=some (.own x):=by
    rcases he with z | z
    ·exact absurd (hbe.trans z) hb
    ·rw [hbe]; exact z
   rw [q] at q'; cases q'
   obtain⟨v,hv⟩:=heo
   exact⟨v,by rw [hbe]; exact hv⟩
  ·refine(ok b u q).stay (fun c v hc r=>k c v ?_ r) (fun c r=>by rw [aJ (nown c b r)]; exact r) fun c xs r=>by rw [aJ (ntup c xs r)]; exact r
   rcases hc with rfl | hc
   ·exact hbe
   ·rintro rfl
    rcases he with z | z
    ·exact nown c b hc z
    ·rw [hc] at z; cases z; exact hb rfl
end

structure Un (fs ex:List Qr) (H H':Hp) (h h':Qt):Prop where
 keep:∀ b o,h.get? b=some o->H b=none->b∉fs->b∉ex->h'.get? b=some o
 slot:∀ b o,h.get? b=some o->H b=none->b∈fs->b∉ex->∃ sl,h'.get? b=some { o with slots:=sl }
 free:∀ b o,h.get? b=some o->H b=none->b∉ex->H' b=none
 there:∀ b o,h.get? b=some o->b∉ex->∃ o',h'.get? b=some o'
 tups:∀ b xs,H b=some (.tup xs)->H' b=some (.tup xs)
 frzs:∀ b o u,H b=some (.frz o u)->H' b=some (.frz o u)
 tbls:∀ b ps,H b=some (.tbl ps)->∃ more,H' b=some (.tbl (ps++more))
section
variable {fs fs' ex ex':List Qr} {H H1 H2:Hp} {h h1 h2 h':Qt} {a x e:Qr} {o:HO}
theorem Un.any (u:Un fs ex H H1 h h1) {b:Qr} {ob:Obj} (q:h.get? b=some ob) (n:H b=none) (hx:b∉ex):∃ sl,h1.get? b=some { ob with slots:=sl }:=by
 by_cases hb:b∈fs
 ·exact u.slot b ob q n hb hx
 ·exact⟨ob.slots,u.keep b ob q n hb hx⟩
theorem Un.kept (k:∀ b u,h.get? b=some u->h'.get? b=some u):Un fs ex H H h h' :=
 ⟨fun b ob q _ _ _=>k b ob q,fun b ob q _ _ _=>⟨ob.slots,k b ob q⟩,fun _ _ _ n _=>n,fun b ob q _=>⟨ob,k b ob q⟩,fun _ _ q=>q,fun _ _ _ q=>q,fun _ ps q=>⟨#[],by rw [q]; simp⟩⟩
theorem Un.refl:Un fs ex H H h h:=Un.kept fun _ _ q=>q
theorem Un.laid (k:∀ b u,h.get? b=some u->h'.get? b=some u) (hp:h.objs.size<=a) (hn:H a=none):Un fs ex H (upd H a o) h h' where
 keep:=fun b u q _ _ _=>k b u q
 slot:=fun b u q _ _ _=>⟨u.slots,k b u q⟩
 free:=fun b u q n _=>by rw [aJ (MF (MD (PV q) hp))]; exact n
 there:=fun b u q _=>⟨u,k b u q⟩
 tups:=fun b xs q=>by rw [aJ (bg q hn)]; exact q
 frzs:=fun b u xs q=>by rw [aJ (bg q hn)]; exact q
 tbls:=fun b ps q=>⟨#[],by rw [aJ (bg q hn),q]; simp⟩
theorem Un.write (mu:Im (H x)) (he:e=x\/H e=some (.own x)) (k:∀ b u,b≠e->h.get? b=some u->h'.get? b=some u) (heo:∃ u,h'.get? e=some u):Un fs ex H (upd H x o) h h':=by
 have hx:∀ b,H b=none->b≠x:=fun b n z=>by subst z; rw [n] at mu; exact mu
 have hb:∀ b,H b=none->b≠e:=fun b n z=>by
  subst z
  rcases he with r | r
  ·exact hx b n r
  ·rw [n] at r; cases r
 have hm:∀ b u,H b=some u->¬ Im (some u)->b≠x:=fun b u q nm z=>by subst z; rw [q] at mu; exact nm mu
 refine⟨fun b u q n _ _=>k b u (hb b n) q,fun b u q n _ _=>⟨u.slots,k b u (hb b n) q⟩,fun b u q n _=>by rw [aJ (hx b n)]; exact n,fun b u q _=>?_,
  fun b xs q=>by rw [aJ (hm b _ q fun z=>z)]; exact q,fun b u xs q=>by rw [aJ (hm b _ q fun z=>z)]; exact q,fun b ps q=>⟨#[],by rw [aJ (hm b _ q fun z=>z),q]; simp⟩⟩
 by_cases hbe:b=e
 ·subst hbe; exact heo
 ·exact⟨u,k b u hbe q⟩
end

def JM (h:Qt) (H:Hp):List Qr:=(List.range h.objs.size).filter fun a=>(H a).isSome
def vB (h:Qt) (H:Hp):Qt:=PySem.W.hideAll h (JM h H)
theorem AD (h:Qt) (H:Hp):(vB h H).objs.size=h.objs.size:=PySem.W.hideAll_size _ _
theorem CA {h:Qt} {H:Hp} {b:Qr} {o:Obj} (e:h.get? b=some o) (n:H b=none):(vB h H).get? b=some o :=
 PySem.W.hideAll_get _ e fun hm=>by
  have q:(H b).isSome=true:=(List.mem_filter.mp hm).2
  rw [n] at q; simp at q
theorem DN {h:Qt} {H:Hp} {b:Qr} {o:Obj} (e:(vB h H).get? b=some o):h.get? b=some o/\H b=none:=by
 have e':h.get? b=some o:=PySem.W.of_hideAll (JM h H) e
 refine⟨e',?_⟩
 cases q:H b with
 | none=>rfl
 | some x =>
  have hm:b∈JM h H:=List.mem_filter.mpr ⟨List.mem_range.mpr (PV e'),by simp [q]⟩
  have z:(vB h H).get? b=none:=PySem.W.hideAll_none (JM h H) hm
  rw [z] at e; cases e

def Ei (g h:Qt) (L:Qr):List (Qr×Obj):=(List.range h.objs.size).filterMap fun a=>if a=L\/(g.get? a).isSome=true then none else (h.get? a).map fun o=>(a,o)
def rest (g h:Qt) (L d:Qr):List (Qr×Obj):=(Ei g h L).filter fun p=>decide (p.1≠d)
end L2

namespace L2
open PySem PySem.Spec PyProof.Rows

structure Mod (K:Pj) (mg:Str->Option Qo) (base:Qt):Prop where
 kin:K.In base
 glob:base.Ns Qv mg
 blt:∃ mb,base.Ns builtinsNs mb/\∀ x:Str,x ≠ "__name__"->mb x=Qw x
 nolimit:base.NoLimit

structure Cx where
 prog:Qq
 w:Qp
 K:Pj
 mg:Str->Option Qo
 base:Qt
 A:Qx
 N:List Str
 s₀:Qy
 H₀:Hp
 env:Env
 outer:List Env
 stack:List Env
 ex:List Qr
 fn:Str->Bool
 calm:Bool
 pn:List (Qr×Obj)
 xe:Qo->Qy->Prop
def frs (l:List Env):List Qr:=l.filterMap (·.frame)
abbrev Cx.fs (X:Cx):List Qr:=frs X.outer

def HY (sc:Qz) (x:Str):Prop:=sc.names.lookup x=some .local\/sc.names.lookup x=some .cell\/sc.names.lookup x=some .free
def Loc (sc:Qz) (x:Str):Prop:=sc.names.lookup x=some .local\/sc.names.lookup x=some .cell
def Look (env:Env) (h:Qt) (m:Str->Option Qo) (x:Str) (u:Qo):Prop :=
 (env.kindOf x=some .local/\m x=some u)\/((env.kindOf x=some .cell\/env.kindOf x=some .free)/\∃ c,env.cells.lookup x=some c/\h.IsCell c (some u))

structure Cx.Ok (X:Cx):Prop where
 mod:Mod X.K X.mg X.base
 kind:X.env.scope.kind=.function
 glob:X.env.globals=Qv
 blt:X.env.builtins=builtinsNs
 above:X.s₀.heap.objs.size<=X.env.locals
 inj:∀ x y c,X.env.cells.lookup x=some c->X.env.cells.lookup y=some c->x=y
 has:∀ x,(X.env.kindOf x=some .cell\/X.env.kindOf x=some .free)->∃ c,X.env.cells.lookup x=some c
 cab:∀ x c,X.fn x=true->X.env.cells.lookup x=some c->X.s₀.heap.objs.size<=c
 hd:X.calm=true->X.A.handled=none
 frames:X.A.frames=some X.stack
 stk:X.stack=X.outer\/(X.stack=X.env::X.outer/\X.env.frame=some X.env.locals)
 exf:∀ b∈X.ex,b≠X.env.locals/\∀ x c,X.env.cells.lookup x=some c->c≠b
 bs:∀ b o,X.base.get? b=some o->X.s₀.heap.get? b=some o/\X.H₀ b=none
 bsz:X.base.objs.size<=X.s₀.heap.objs.size
 noex:∀ b o,X.base.get? b=some o->b∉X.ex
 exfs:∀ b∈X.ex,b∉X.fs
 funs:X.s₀.heap.FunFrames X.base X.outer
 frf:∀ b∈X.fs,X.H₀ b=none

structure Inv (X:Cx) (pins:List (Qr×Obj)) (σ:List (Option V)) (H:Hp) (s:Qy):Prop where
 ok:X.Ok
 os:s.os=X.s₀.os
 bare:AllBare s.gens
 base:Un X.fs X.ex X.H₀ H X.s₀.heap s.heap
 loc:∃ m,s.heap.Ns X.env.locals m/\∀ (i:Nat) (x:Str) (v:V),X.N[i]?=some x->σ[i]?=some (some v)->HY X.env.scope x->∃ u,RelV v u/\Look X.env s.heap m x u
 cell:∀ x c,X.env.cells.lookup x=some c->∃ v,s.heap.IsCell c v
 free:H X.env.locals=none
 freeC:∀ x c,X.env.cells.lookup x=some c->H c=none
 pin:∀ p∈X.pn++pins,s.heap.get? p.1=some p.2/\H p.1=none/\p.1≠X.env.locals/\p.1∉X.fs/\∀ v,p.2.data≠.cell v
 hok:oO X.prog X.w H s.heap
 len:σ.length=X.N.length

section
variable {X:Cx} {pins:List (Qr×Obj)} {σ:List (Option V)} {H H':Hp} {s:Qy} {h':Qt}

theorem Cx.Ok.nofr (ok:X.Ok) {b:Qr} {o:Obj} (e:X.base.get? b=some o):b∉X.fs:=fun hb=>by
 have:=(ok.funs.mem hb).1
 rw [e] at this; cases this
theorem Inv.bs (I:Inv X pins σ H s):∀ b o,X.base.get? b=some o->s.heap.get? b=some o/\H b=none:=fun b o e =>
 ⟨I.base.keep b o (I.ok.bs b o e).1 (I.ok.bs b o e).2 (I.ok.nofr e) (I.ok.noex b o e),I.base.free b o (I.ok.bs b o e).1 (I.ok.bs b o e).2 (I.ok.noex b o e)⟩
theorem Inv.bk (I:Inv X pins σ H s):∀ b o,X.base.get? b=some o->s.heap.get? b=some o:=fun b o e=>(I.bs b o e).1
theorem Inv.mod (I:Inv X pins σ H s):Mod X.K X.mg X.base:=I.ok.mod
theorem Inv.kIn (I:Inv X pins σ H s):X.K.In s.heap:=I.ok.mod.kin.keeps I.bk
theorem Inv.lt (I:Inv X pins σ H s):X.env.locals < s.heap.objs.size:=let ⟨_,hn,_⟩:=I.loc; hn.lt
theorem Inv.sz (I:Inv X pins σ H s):X.s₀.heap.objs.size<=s.heap.objs.size:=MG I.ok.above (MH I.lt)
theorem Inv.nofs (I:Inv X pins σ H s) {a:Qr} (h:s.heap.objs.size<=a):a∉X.fs:=fun hb=>by
 obtain⟨_,o,ho,_⟩:=I.ok.funs.mem hb
 exact absurd (MD (PV ho) (MG I.sz h)) (ME _)
theorem Inv.cne (I:Inv X pins σ H s):∀ x c,X.env.cells.lookup x=some c->c≠X.env.locals:=fun x c e z=>by
 obtain⟨v,o,ho,hd⟩:=I.cell x c e
 obtain⟨m,⟨o',es,ep,ho',hd',_⟩,_⟩:=I.loc
 rw [z,ho'] at ho; cases ho; rw [hd'] at hd; cases hd
theorem Inv.funs (I:Inv X pins σ H s):s.heap.FunFrames X.base X.outer:=by
 have all:∀ (l:List Env),(∀ b∈frs l,b∈X.fs)->X.s₀.heap.FunFrames X.base l->s.heap.FunFrames X.base l:=by
  intro l
  induction l with
  | nil=>intro _ _; trivial
  | cons env r ih =>
   intro hs hl
   obtain⟨hk,⟨L,o,hf,hn,ho,hd⟩,hr⟩:=hl
   have hL:L∈X.fs:=hs L (by unfold frs; rw [MI,hf]; exact MJ)
   obtain⟨sl,e⟩:=I.base.slot L o ho (I.ok.frf L hL) hL fun z=>I.ok.exfs L z hL
   exact⟨hk,⟨L,_,hf,hn,e,hd⟩,ih (fun b hb=>hs b (by unfold frs; rw [MI,hf]; exact MK _ hb)) hr⟩
 exact all X.outer (fun _ hb=>hb) I.ok.funs

theorem Inv.stack (I:Inv X pins σ H s):s.heap.FunFrames X.base X.stack:=by
 rcases I.ok.stk with e | ⟨e,hf⟩
 ·rw [e]; exact I.funs
 ·rw [e]
  obtain⟨m,hn,_⟩:=I.loc
  refine .cons (by rw [I.ok.kind]; decide) hf hn ?_ I.funs
  exact PX (MG I.ok.bsz I.ok.above)
theorem Inv.stkSub (I:Inv X pins σ H s):∀ b∈frs X.stack,b∈X.env.locals::X.fs:=fun b hb=>by
 rcases I.ok.stk with e | ⟨e,hf⟩
 ·rw [e] at hb; exact MK _ hb
 ·rw [e] at hb
  unfold frs at hb
  rw [MI,hf] at hb
  exact hb
theorem Inv.stkFree (I:Inv X pins σ H s):∀ b∈frs X.stack,H b=none:=fun b hb=>by
 rcases List.mem_cons.mp (I.stkSub b hb) with e | hb
 ·rw [e]; exact I.free
 ·obtain⟨_,o,ho,_⟩:=I.ok.funs.mem hb
  exact I.base.free b o ho (I.ok.frf b hb) fun z=>I.ok.exfs b z hb

theorem Inv.step {g':Array GenState} {t':Nat} {d':Drawn} {ch:List Qr} (I:Inv X pins σ H s)
  (hch:∀ b∈ch,(b∈X.ex\/X.s₀.heap.objs.size<=b)/\b≠X.env.locals/\(∀ x c,X.env.cells.lookup x=some c->c≠b)/\∀ p∈X.pn++pins,p.1≠b)
  (keep:∀ b o,b≠X.env.locals->b∉X.fs->b∉ch->s.heap.get? b=some o->H b=none->h'.get? b=some o)
  (slot:∀ b o,b≠X.env.locals->b∈X.fs->b∉ch->s.heap.get? b=some o->H b=none->∃ sl,h'.get? b=some { o with slots:=sl }) (free:∀ b o,b∉ch->s.heap.get? b=some o->H b=none->H' b=none)
  (there:∀ b o,b∉ch->s.heap.get? b=some o->∃ o',h'.get? b=some o')
  (tups:∀ b xs,H b=some (.tup xs)->H' b=some (.tup xs)) (frzs:∀ b o u,H b=some (.frz o u)->H' b=some (.frz o u)) (tbls:∀ b ps,H b=some (.tbl ps)->∃ more,H' b=some (.tbl (ps++more)))
  (ns:∀ m,s.heap.Ns X.env.locals m->h'.Ns X.env.locals m) (hok:oO X.prog X.w H' h') (hg:AllBare g') :
  Inv X pins σ H' { s with heap:=h',gens:=g',drawn:=d',toks:=t' }:=by
 have neL:∀ b o,X.s₀.heap.get? b=some o->b≠X.env.locals:=fun b o e=>MF (MD (PV e) I.ok.above)
 have neC:∀ b o,X.s₀.heap.get? b=some o->b∉X.ex->b∉ch:=fun b o e hx hb=>by
  rcases(hch b hb).1 with z | z
  ·exact hx z
  ·exact absurd (MD (PV e) z) (ME _)
 have cellK:∀ x c,X.env.cells.lookup x=some c->∀ v,s.heap.IsCell c v->h'.IsCell c v:=fun x c e v ⟨o,ho,hd⟩=>by
  have nch:c∉ch:=fun z=>(hch c z).2.2.1 x c e rfl
  by_cases hc:c∈X.fs
  ·obtain⟨sl,q⟩:=slot c o (I.cne x c e) hc nch ho (I.freeC x c e)
   exact⟨_,q,hd⟩
  ·exact⟨o,keep c o (I.cne x c e) hc nch ho (I.freeC x c e),hd⟩
 refine⟨I.ok,I.os,hg,⟨fun b o e n hb hx=>?_,fun b o e n hb hx=>?_,fun b o e n hx=>?_,fun b o e hx=>?_,fun b xs e=>tups b xs (I.base.tups b xs e),fun b o xs e=>frzs b o xs (I.base.frzs b o xs e),fun b ps e=>?_⟩,?_,fun x c e=>?_,?_,fun x c e=>?_,fun p hp=>?_,hok,I.len⟩
 ·exact keep b o (neL b o e) hb (neC b o e hx) (I.base.keep b o e n hb hx) (I.base.free b o e n hx)
 ·obtain⟨sl,e1⟩:=I.base.slot b o e n hb hx
  obtain⟨sl',e2⟩:=slot b _ (neL b o e) hb (neC b o e hx) e1 (I.base.free b o e n hx)
  exact⟨sl',e2⟩
 ·obtain⟨o',e1⟩:=I.base.there b o e hx
  exact free b o' (neC b o e hx) e1 (I.base.free b o e n hx)
 ·obtain⟨o',e1⟩:=I.base.there b o e hx
  exact there b o' (neC b o e hx) e1
 ·obtain⟨m1,e1⟩:=I.base.tbls b ps e
  obtain⟨m2,e2⟩:=tbls b _ e1
  exact⟨m1++m2,by rw [e2,Array.append_assoc]⟩
 ·obtain⟨m,hn,hl⟩:=I.loc
  refine⟨m,ns m hn,fun i x v e1 e2 e3=>?_⟩
  obtain⟨u,r,l⟩:=hl i x v e1 e2 e3
  refine⟨u,r,?_⟩
  rcases l with l | ⟨k,c,e,z⟩
  ·exact .inl l
  ·exact .inr ⟨k,c,e,cellK x c e _ z⟩
 ·obtain⟨v,z⟩:=I.cell x c e
  exact⟨v,cellK x c e v z⟩
 ·obtain⟨m,⟨o,_,_,ho,_⟩,_⟩:=I.loc
  exact free _ o (fun z=>(hch _ z).2.1 rfl) ho I.free
 ·obtain⟨v,o,ho,hd⟩:=I.cell x c e
  exact free c o (fun z=>(hch c z).2.2.1 x c e rfl) ho (I.freeC x c e)
 ·obtain⟨e,n,ne,nf,d⟩:=I.pin p hp
  have nch:p.1∉ch:=fun z=>(hch p.1 z).2.2.2 p hp rfl
  exact⟨keep p.1 p.2 ne nf nch e n,free p.1 p.2 nch e n,ne,nf,d⟩
theorem Inv.un {t':Nat} (I:Inv X pins σ H s) (u:Un X.fs [] H H' s.heap h') (hok:oO X.prog X.w H' h'):Inv X pins σ H' { s with heap:=h',toks:=t' }:=by
 obtain⟨m,⟨o,es,ep,ho,r⟩,_⟩:=id I.loc
 obtain⟨sl,hL⟩:=u.any ho I.free (by simp)
 exact I.step (g':=s.gens) (d':=s.drawn) (ch:=[]) (fun _ z=>nomatch z) (fun b o _ hb _ e n=>u.keep b o e n hb (by simp)) (fun b o _ hb _ e n=>u.slot b o e n hb (by simp)) (fun b o _ e n=>u.free b o e n (by simp)) (fun b o _ e=>u.there b o e (by simp)) u.tups u.frzs u.tbls (fun m' hm=>by
  obtain⟨o',es',ep',ho',r'⟩:=hm
  rw [ho] at ho'; cases ho'
  exact⟨_,es',ep',hL,r'⟩) hok I.bare
theorem Inv.call {g':Array GenState} {t':Nat} {d':Drawn} {ch:List Qr} (I:Inv X pins σ H s) (u:Un (frs X.stack) ch H H' s.heap h') (hok:oO X.prog X.w H' h') (hg:AllBare g')
  (hch:∀ b∈ch,(b∈X.ex\/X.s₀.heap.objs.size<=b)/\b≠X.env.locals/\(∀ x c,X.env.cells.lookup x=some c->c≠b)/\∀ p∈X.pn++pins,p.1≠b) :
  Inv X pins σ H' { s with heap:=h',gens:=g',drawn:=d',toks:=t' }:=by
 obtain⟨m,⟨o,es,ep,ho,r⟩,_⟩:=id I.loc
 obtain⟨sl,hL⟩:=u.any ho I.free fun z=>(hch _ z).2.1 rfl
 exact I.step (ch:=ch) hch (fun b o hL hb hc e n=>u.keep b o e n (fun z=>(List.mem_cons.mp (I.stkSub b z)).elim hL hb) hc) (fun b o _ _ hc e n=>u.any e n hc) (fun b o hc e n=>u.free b o e n hc) (fun b o hc e=>u.there b o e hc) u.tups u.frzs u.tbls (fun m' hm=>by
  obtain⟨o',es',ep',ho',r'⟩:=hm
  rw [ho] at ho'; cases ho'
  exact⟨_,es',ep',hL,r'⟩) hok hg
theorem Inv.turned {t':Nat} {it:Qr} (I:Inv X pins σ H s) (k:∀ b o,b≠it->s.heap.get? b=some o->h'.get? b=some o) (hn:H it=none) (hL:it≠X.env.locals)
  (h1:it∈X.ex\/X.s₀.heap.objs.size<=it) (h2:∀ x c,X.env.cells.lookup x=some c->c≠it) (h3:∀ p∈X.pn++pins,p.1≠it):Inv X pins σ H { s with heap:=h',toks:=t' }:=by
 have nit:∀ b u,H b=some u->b≠it:=fun b u e z=>by rw [z,hn] at e; cases e
 refine I.step (g':=s.gens) (d':=s.drawn) (ch:=[it]) (fun b hb=>?_) (fun b o _ _ hc e _=>k b o (fun z=>hc (by simp [z])) e) (fun b o _ _ hc e _=>⟨o.slots,k b o (fun z=>hc (by simp [z])) e⟩) (fun _ _ _ _ n=>n)
  (fun b o hc e=>⟨o,k b o (fun z=>hc (by simp [z])) e⟩) (fun _ _ e=>e) (fun _ _ _ e=>e) (fun b ps e=>⟨#[],by rw [e]; simp⟩) (fun m hm=>?_) (fun b u e=>?_) I.bare
 ·have e:b=it:=by simpa using hb
  subst e
  exact⟨h1,hL,h2,h3⟩
 ·obtain⟨o,es,ep,ho,r⟩:=hm
  exact⟨o,es,ep,k _ o (Ne.symm hL) ho,r⟩
 ·refine(I.hok b u e).stay (fun c v hc q=>k c v ?_ q) (fun _ q=>q) fun _ _ q=>q
  rcases hc with z | z
  ·rw [z]; exact nit b u e
  ·exact nit c _ z
theorem Inv.tok (I:Inv X pins σ H s) (t:Nat):Inv X pins σ H { s with toks:=t }:=I.un (h':=s.heap) (t':=t) Un.refl I.hok
theorem Inv.kept {t':Nat} (I:Inv X pins σ H s) (k:∀ b u,s.heap.get? b=some u->h'.get? b=some u):Inv X pins σ H { s with heap:=h',toks:=t' }:=I.un (Un.kept k) (I.hok.kept k)
theorem Inv.laid {a:Qr} {o:HO} {t':Nat} (I:Inv X pins σ H s) (k:∀ b u,s.heap.get? b=some u->h'.get? b=some u) (hp:s.heap.objs.size<=a) (new:dm X.prog X.w (upd H a o) h' a o) :
  Inv X pins σ (upd H a o) { s with heap:=h',toks:=t' }:=I.un (Un.laid k hp (I.hok.fresh hp)) (I.hok.laid k hp new)
theorem Inv.write {x e:Qr} {o:HO} {t':Nat} (I:Inv X pins σ H s) (mu:Im (H x)) (he:e=x\/H e=some (.own x)) (k:∀ b u,b≠e->s.heap.get? b=some u->h'.get? b=some u) (heo:∃ u,h'.get? e=some u)
  (new:dm X.prog X.w (upd H x o) h' x o):Inv X pins σ (upd H x o) { s with heap:=h',toks:=t' }:=I.un (Un.write mu he k heo) (I.hok.write mu he k heo new)
theorem Inv.pins_of {pins':List (Qr×Obj)} (I:Inv X pins σ H s) (h:∀ p∈pins',s.heap.get? p.1=some p.2/\H p.1=none/\p.1≠X.env.locals/\p.1∉X.fs/\∀ v,p.2.data≠.cell v):Inv X pins' σ H s :=
 ⟨I.ok,I.os,I.bare,I.base,I.loc,I.cell,I.free,I.freeC,fun p hp=>(List.mem_append.mp hp).elim (fun z=>I.pin p (ML _ z)) (h p),I.hok,I.len⟩

theorem wK {N:List Str} (hN:N.Nodup) {i j:Nat} {x:Str} (a:N[i]?=some x) (b:N[j]?=some x):i=j:=by
 obtain⟨h1,e1⟩:=List.getElem?_eq_some_iff.mp a
 obtain⟨h2,e2⟩:=List.getElem?_eq_some_iff.mp b
 exact(List.getElem_inj hN).mp (e1.trans e2.symm)

theorem Ac {M:Model} {A:Qx} {E:Qo->Qy->Prop} {i:Nat} {x:Str} {v:V} {u:Qo} {Q:Unit->Qy->Prop} (I:Inv X pins σ H s) (hN:X.N.Nodup) (hi:X.N[i]?=some x) (hx:Loc X.env.scope x) (r:RelV v u)
  (h:∀ s',Inv X pins (σ.set i (some v)) H s'->(∃ a,PY a s.heap s'.heap/\(a=X.env.locals\/X.env.cells.lookup x=some a))->Q () s') (hf:X.fn x=true\/X.env.scope.names.lookup x=some .local:=by first | exact .inl rfl | exact .inr rfl | assumption):QA M A (storeName X.env x u) Q E s:=by
 obtain⟨m,hn,hl⟩:=id I.loc
 have hcls:(X.env.scope.kind==.class || (X.env.scope.kind==.module && X.env.locals != X.env.globals))=false:=by rw [I.ok.kind]; rfl
 have hiσ:i < σ.length:=by rw [I.len]; exact(List.getElem?_eq_some_iff.mp hi).1
 have cne:=I.cne
 have tracked:∀ {a:Qr} {h':Qt},(∃ o,s.heap.get? a=some o/\H a=none)->PY a s.heap h'->oO X.prog X.w H h':=fun {a h'} ha hs b ob e=>by
  obtain⟨_,_,hfree⟩:=ha
  refine(I.hok b ob e).stay (fun c w' hc q=>(hs.2 c ?_).trans q) (fun _ q=>q) fun _ _ q=>q
  rintro rfl
  rcases hc with rfl | hc
  ·rw [hfree] at e; cases e
  ·rw [hfree] at hc; cases hc
 rcases hx with hk | hk
 ·refine wpAny_storeName_local hk hn (fun h' hn' hs=>?_) hcls
  obtain⟨oL,_,_,hoL,_⟩:=id hn
  refine h _ ⟨I.ok,I.os,I.bare,⟨fun b o e n hb hx=>?_,fun b o e n hb hx=>?_,I.base.free,fun b o e hx=>?_,I.base.tups,I.base.frzs,I.base.tbls⟩,⟨_,hn',fun j y v' e1 e2 e3=>?_⟩,fun y c e=>?_,I.free,I.freeC,fun p hp=>?_,tracked ⟨oL,hoL,I.free⟩ hs,by simpa using I.len⟩ ⟨_,hs,.inl rfl⟩
  ·exact(hs.2 b (MF (MD (PV e) I.ok.above))).trans (I.base.keep b o e n hb hx)
  ·obtain⟨sl,e1⟩:=I.base.slot b o e n hb hx
   exact⟨sl,(hs.2 b (MF (MD (PV e) I.ok.above))).trans e1⟩
  ·obtain⟨o',e1⟩:=I.base.there b o e hx
   exact⟨o',(hs.2 b (MF (MD (PV e) I.ok.above))).trans e1⟩
  ·by_cases hj:j=i
   ·subst hj
    rw [hi] at e1; cases e1
    rw [MM hiσ] at e2
    cases e2
    exact⟨u,r,.inl ⟨hk,by simp⟩⟩
   ·rw [MN (Ne.symm hj)] at e2
    obtain⟨u',r',q⟩:=hl j y v' e1 e2 e3
    refine⟨u',r',?_⟩
    rcases q with ⟨k,e⟩ | ⟨k,c,e,z⟩
    ·refine .inl ⟨k,?_⟩
     have:y≠x:=fun e=>hj (wK hN e1 (e ▸ hi))
     simp [this,e]
    ·exact .inr ⟨k,c,e,z.sameBut hs (cne y c e)⟩
  ·obtain⟨w',z⟩:=I.cell y c e
   exact⟨w',z.sameBut hs (cne y c e)⟩
  ·obtain⟨e,n,ne,nf,d⟩:=I.pin p hp
   exact⟨(hs.2 p.1 ne).trans e,n,ne,nf,d⟩
 ·have hfn:X.fn x=true:=by
   rcases hf with z | z
   ·exact z
   ·rw [z] at hk; cases hk
  obtain⟨c,hc⟩:=I.ok.has x (.inl hk)
  obtain⟨w',z⟩:=I.cell x c hc
  refine wpAny_storeName_cell I.ok.kind hk hc z (fun h' hc' hs=>?_)
  obtain⟨oc,hoc,hocd⟩:=id z
  refine h { s with heap:=h' } ⟨I.ok,I.os,I.bare,⟨fun b o e n hb hx=>?_,fun b o e n hb hx=>?_,I.base.free,fun b o e hx=>?_,I.base.tups,I.base.frzs,I.base.tbls⟩,⟨m,hn.sameBut hs (Ne.symm (cne x c hc)),fun j y v' e1 e2 e3=>?_⟩,fun y c' e=>?_,I.free,I.freeC,fun p hp=>?_,tracked ⟨oc,hoc,I.freeC x c hc⟩ hs,by simpa using I.len⟩ ⟨c,hs,.inr hc⟩
  ·exact(hs.2 b (MF (MD (PV e) (I.ok.cab x c hfn hc)))).trans (I.base.keep b o e n hb hx)
  ·obtain⟨sl,e1⟩:=I.base.slot b o e n hb hx
   exact⟨sl,(hs.2 b (MF (MD (PV e) (I.ok.cab x c hfn hc)))).trans e1⟩
  ·obtain⟨o',e1⟩:=I.base.there b o e hx
   exact⟨o',(hs.2 b (MF (MD (PV e) (I.ok.cab x c hfn hc)))).trans e1⟩
  ·by_cases hj:j=i
   ·subst hj
    rw [hi] at e1; cases e1
    rw [MM hiσ] at e2
    cases e2
    exact⟨u,r,.inr ⟨.inl hk,c,hc,hc'⟩⟩
   ·rw [MN (Ne.symm hj)] at e2
    obtain⟨u',r',q⟩:=hl j y v' e1 e2 e3
    refine⟨u',r',?_⟩
    rcases q with q | ⟨k,c',e,z'⟩
    ·exact .inl q
    ·refine .inr ⟨k,c',e,z'.sameBut hs ?_⟩
     rintro rfl
     exact hj (wK hN e1 (I.ok.inj _ _ _ e hc ▸ hi))
  ·by_cases hcc:c'=c
   ·subst hcc; exact⟨_,hc'⟩
   ·obtain⟨w2,z2⟩:=I.cell y c' e
    exact⟨w2,z2.sameBut hs hcc⟩
  ·obtain⟨e,n,ne,nf,d⟩:=I.pin p hp
   refine⟨(hs.2 p.1 ?_).trans e,n,ne,nf,d⟩
   intro q
   rw [q,hoc] at e
   have q':oc=p.2:=Option.some.inj e
   exact d w' (by rw [<- q']; exact hocd)
theorem vD {M:Model} {A:Qx} {E:Qo->Qy->Prop} {i:Nat} {x:Str} {v:V} {u:Qo} {Q:Unit->Qy->Prop} (I:Inv X pins σ H s) (hN:X.N.Nodup) (hi:X.N[i]?=some x) (hx:Loc X.env.scope x) (r:RelV v u)
  (h:∀ s',Inv X pins (σ.set i (some v)) H s'->Q () s') (hf:X.fn x=true\/X.env.scope.names.lookup x=some .local:=by first | exact .inl rfl | exact .inr rfl | assumption):QA M A (storeName X.env x u) Q E s :=
 Ac I hN hi hx r (fun s' I' _=>h s' I') hf
theorem Inv.call' {s':Qy} {ch:List Qr} (I:Inv X pins σ H s) (ho:s'.os=s.os) (u:Un (frs X.stack) ch H H' s.heap s'.heap) (hok:oO X.prog X.w H' s'.heap) (hg:AllBare s'.gens)
  (hch:∀ b∈ch,(b∈X.ex\/X.s₀.heap.objs.size<=b)/\b≠X.env.locals/\(∀ x c,X.env.cells.lookup x=some c->c≠b)/\∀ p∈X.pn++pins,p.1≠b):Inv X pins σ H' s':=by
 obtain⟨h',g',d',t',o'⟩:=s'
 have e:o'=s.os:=ho
 subst e
 exact I.call (g':=g') (t':=t') (d':=d') u hok hg hch
end

abbrev XK:=Qo->Option Qr->Hp->Prop
abbrev St:=List (Option V)
abbrev VK:=V->Hp->Prop
abbrev TE:=St->Hp->VK->Prop
abbrev TT:=St->Hp->(Bool->Hp->Prop)->Prop
abbrev TA:=St->Hp->(List V->Hp->Prop)->Prop
structure Ends where
 nx:St->Hp->Prop
 rt:VK
 bk:St->Hp->Prop:=fun _ _=>False
 ct:St->Hp->Prop:=fun _ _=>False
abbrev TS:=Ends->St->Hp->Prop

def EP (X:Cx) (pins:List (Qr×Obj)) (σ:St) (Q:VK) (u:Qo) (s':Qy):Prop:=∃ v H',Inv X pins σ H' s'/\RelV v u/\Q v H'
def TP (X:Cx) (pins:List (Qr×Obj)) (σ:St) (Q:Bool->Hp->Prop) (b:Bool) (s':Qy):Prop:=∃ H',Inv X pins σ H' s'/\Q b H'
def AP (X:Cx) (pins:List (Qr×Obj)) (σ:St) (Q:List V->Hp->Prop) (us:List Qo) (s':Qy):Prop:=∃ vs H',Inv X pins σ H' s'/\Vals vs us/\Q vs H'
def SP (X:Cx) (pins:List (Qr×Obj)) (D:Ends) (f:Flow) (s':Qy):Prop :=
 match f with
 | .next=>∃ σ' H',Inv X pins σ' H' s'/\D.nx σ' H'
 | .brk=>∃ σ' H',Inv X pins σ' H' s'/\D.bk σ' H'
 | .cont=>∃ σ' H',Inv X pins σ' H' s'/\D.ct σ' H'
 | .ret u=>∃ v σ' H',Inv X pins σ' H' s'/\RelV v u/\D.rt v H'

def PE (X:Cx) (e:QB) (t:TE):Prop :=
 ∀ (pins:List (Qr×Obj)) (s:Qy) (σ:St) (H:Hp) (Q:VK),Inv X pins σ H s->t σ H Q->QA (model X.prog X.w) X.A (eval e X.env) (EP X pins σ Q) X.xe s
def PT (X:Cx) (e:QB) (t:TT):Prop :=
 ∀ (pins:List (Qr×Obj)) (s:Qy) (σ:St) (H:Hp) (Q:Bool->Hp->Prop),Inv X pins σ H s->t σ H Q->QA (model X.prog X.w) X.A (isTrue e X.env (eval e X.env)) (TP X pins σ Q) X.xe s
def PW (X:Cx) (e:QB) (t:TT):Prop :=
 ∀ (whole:Sem Qo) (pins:List (Qr×Obj)) (s:Qy) (σ:St) (H:Hp) (Q:Bool->Hp->Prop),Inv X pins σ H s->t σ H Q->QA (model X.prog X.w) X.A (isTrue e X.env whole) (TP X pins σ Q) X.xe s
theorem PW.pt {X:Cx} {e:QB} {t:TT} (h:PW X e t):PT X e t:=h _
def PA (X:Cx) (es:List QB) (t:TA):Prop :=
 ∀ (pos:Pos) (pins:List (Qr×Obj)) (s:Qy) (σ:St) (H:Hp) (Q:List V->Hp->Prop),Inv X pins σ H s->t σ H Q->QA (model X.prog X.w) X.A (spliced (backTo pos (QC es X.env))) (AP X pins σ Q) X.xe s
def PS (X:Cx) (st:QD) (t:TS):Prop :=
 ∀ (pins:List (Qr×Obj)) (s:Qy) (σ:St) (H:Hp) (D:Ends),Inv X pins σ H s->t D σ H->QA (model X.prog X.w) X.A (exec st X.env) (SP X pins D) X.xe s
def xi (X:Cx) (st:List QD) (t:TS):Prop :=
 ∀ (pins:List (Qr×Obj)) (s:Qy) (σ:St) (H:Hp) (D:Ends),Inv X pins σ H s->t D σ H->QA (model X.prog X.w) X.A (execs st X.env) (SP X pins D) X.xe s
theorem dX {α:Type} {t:Sem α} {Q Q':α->Qy->Prop} {M:Model} {A:Qx} {E:Qo->Qy->Prop} {s:Qy} (h:QA M A t Q E s) (hQ:∀ a s,Q a s->Q' a s):QA M A t Q' E s:=QE h hQ fun _ _ x=>x
end L2

namespace L2
open PySem PySem.Spec PyProof.Rows
section
variable {X:Cx}

def oQ (i:Nat):TE:=fun σ H Q=>∃ v,σ[i]?=some (some v)/\Q v H
def tC (v:V):TE:=fun _ H Q=>Q v H
theorem Gz {i:Nat} {x:Str} {pos:Pos} (hN:X.N[i]?=some x) (hv:HY X.env.scope x) (hd:(x==("__debug__":Str))=false:=by decide) (hcd:(x==("__classdict__":Str))=false:=by decide):PE X (.Name x pos) (oQ i):=by
 intro pins s σ H Q I h
 obtain⟨v,e,h⟩:=h
 obtain⟨m,hn,hl⟩:=I.loc
 obtain⟨u,r,l⟩:=hl i x v hN e hv
 have fin:EP X pins σ Q u s:=⟨v,H,I,r,h⟩
 rcases l with ⟨hk,hm⟩ | ⟨hk,c,hc,hcell⟩
 ·exact wpAny_Name (wpAny_loadName_local I.ok.kind hk hn hm fin) hd
 ·rcases hk with hk | hk
  ·exact wpAny_Name (wpAny_loadName_cell I.ok.kind hk hc hcell fin) hd
  ·exact wpAny_Name (wpAny_loadName_free I.ok.kind hk hc hcell fin hcd) hd
theorem C5 {i j pos}:PE X (.Constant (.int i) j pos) (tC (.int i)):=fun _ _ _ H _ I h=>wpAny_Constant_int ⟨.int i,H,I.tok _,⟨_,rfl⟩,h⟩
theorem HF {b j pos}:PE X (.Constant (.bool b) j pos) (tC (.bl b)):=fun _ _ _ H _ I h=>Constant_bool ⟨.bl b,H,I,rfl,h⟩
theorem Hv {x j pos}:PE X (.Constant (.str x) j pos) (tC (.str x)):=fun _ _ _ H _ I h=>Calls.Constant_str ⟨.str x,H,I.tok _,⟨_,rfl⟩,h⟩

def Gl (X:Cx) (x:Str):Prop:=X.env.kindOf x=some .globalImplicit
theorem u9 {E:Qo->Qy->Prop} {pins:List (Qr×Obj)} {s:Qy} {σ:St} {H:Hp} {x:Str} {u:Qo} {pos:Pos} {Q:Qo->Qy->Prop} (I:Inv X pins σ H s) (hg:Gl X x) (hm:X.mg x=some u) (h:Q u s)
  (hd:(x==("__debug__":Str))=false:=by decide):QA (model X.prog X.w) X.A (eval (.Name x pos) X.env) Q E s :=
 Calls.Name_function_global I.ok.kind hg (Calls.loadGlobal_global (by rw [I.ok.glob]; exact I.mod.glob.keeps I.bk) hm h) hd
theorem nK {E:Qo->Qy->Prop} {pins:List (Qr×Obj)} {s:Qy} {σ:St} {H:Hp} {x:Str} {u:Qo} {pos:Pos} {Q:Qo->Qy->Prop} (I:Inv X pins σ H s) (hg:Gl X x) (hm:X.mg x=none) (hv:Qw x=some u) (h:Q u s)
  (hn:x ≠ "__name__":=by decide) (hd:(x==("__debug__":Str))=false:=by decide):QA (model X.prog X.w) X.A (eval (.Name x pos) X.env) Q E s:=by
 obtain⟨mb,h1,h2⟩:=I.mod.blt
 exact Calls.Name_function_global I.ok.kind hg (Calls.loadGlobal_builtin (by rw [I.ok.glob]; exact I.mod.glob.keeps I.bk) hm (by rw [I.ok.blt]; exact h1.keeps I.bk) ((h2 x hn).trans hv) h) hd
theorem EG {x:Str} {v:V} {u:Qo} {pos:Pos} (hg:Gl X x) (hm:X.mg x=some u) (r:RelV v u) (hd:(x==("__debug__":Str))=false:=by decide):PE X (.Name x pos) (tC v) :=
 fun _ _ _ H _ I h=>u9 I hg hm ⟨v,H,I,r,h⟩ hd
theorem EC {x:Str} {v:V} {u:Qo} {pos:Pos} (hg:Gl X x) (hm:X.mg x=none) (hv:Qw x=some u) (r:RelV v u) (hn:x ≠ "__name__":=by decide) (hd:(x==("__debug__":Str))=false:=by decide):PE X (.Name x pos) (tC v) :=
 fun _ _ _ H _ I h=>nK I hg hm hv ⟨v,H,I,r,h⟩ hn hd

variable {a b:QB} {ta tb:TE} {pos:Pos}
variable {tA tB':TT} {rest:List QB}
def Mu (t u:TT):TT:=fun σ H Q=>t σ H fun c H1=>if c=true then Q true H1 else u σ H1 Q
def LN (t:TT):TT:=fun σ H Q=>t σ H fun c H1=>Q (!c) H1
theorem Fw (ha:PT X a tA):PW X (.BoolOp .Or [a] pos) tA:=by
 intro wh pins s σ H Q I h
 refine isTrue_or (dX (ha pins s σ H Q I h) fun c s1 e=>?_)
 cases c with
 | false=>exact isTrue_or_nil e
 | true=>exact e
theorem HN (ha:PT X a tA) (hb:PW X (.BoolOp .Or (b::rest) pos) tB'):PW X (.BoolOp .Or (a::b::rest) pos) (Mu tA tB'):=by
 intro wh pins s σ H Q I h
 refine isTrue_or (dX (ha pins s σ H _ I h) fun c s1 ⟨H1,I1,q1⟩=>?_)
 cases c with
 | true=>exact⟨H1,I1,q1⟩
 | false=>exact hb wh pins s1 σ H1 Q I1 q1
theorem FP (ha:PT X a tA):PT X (.UnaryOp .Not a pos) (LN tA):=by
 intro pins s σ H Q I h
 exact isTrue_not (ha pins s σ H (fun c H1=>Q (!c) H1) I h)
def Iz (ta tb:TE):TE:=fun σ H Q=>ta σ H fun x H1=>∃ c,x=.bl c/\if c=true then tb σ H1 Q else Q (.bl false) H1
def Je (ta:TE):TE:=fun σ H Q=>ta σ H fun x H1=>∃ c,x=.bl c/\Q (.bl (!c)) H1
theorem G1 {op} {t:TE} (h:PE X a t):PE X (.BoolOp op [a] pos) t:=fun pins s σ H Q I hw=>BoolOp_one (h pins s σ H Q I hw)
theorem GJ (ha:PE X a ta) (hb:PE X (.BoolOp .And (b::rest) pos) tb):PE X (.BoolOp .And (a::b::rest) pos) (Iz ta tb):=by
 intro pins s σ H Q I h
 refine BoolOp_and (dX (ha pins s σ H _ I h) fun v s1 ⟨x,H1,I1,r1,q1⟩=>?_)
 obtain⟨c,rfl,q1⟩:=q1
 cases r1
 refine QF ?_
 cases c with
 | true=>exact hb pins s1 σ H1 Q I1 q1
 | false=>exact⟨.bl false,H1,I1,rfl,q1⟩
theorem Gr (ha:PE X a ta):PE X (.UnaryOp .Not a pos) (Je ta):=by
 intro pins s σ H Q I h
 refine UnaryOp_ (dX (ha pins s σ H _ I h) fun v s1 ⟨x,H1,I1,r1,q1⟩=>?_)
 obtain⟨c,rfl,q1⟩:=q1
 cases r1
 exact not_of (QF ⟨.bl (!c),H1,I1,rfl,q1⟩)
def Mx (t:TT) (ta tb:TE):TE:=fun σ H Q=>t σ H fun c H1=>if c=true then ta σ H1 Q else tb σ H1 Q
theorem Dm {c:QB} (hc:PT X c tA) (ha:PE X a ta) (hb:PE X b tb):PE X (.IfExp c a b pos) (Mx tA ta tb):=by
 intro pins s σ H Q I h
 refine wpAny_IfExp (dX (hc pins s σ H _ I h) fun d s1 ⟨H1,I1,q1⟩=>?_)
 cases d with
 | true=>exact ha pins s1 σ H1 Q I1 q1
 | false=>exact hb pins s1 σ H1 Q I1 q1
end
end L2

namespace L2
open PySem PySem.Spec PyProof.Rows

def oo (K:Pj) (H:Hp) (a:Qr) (xs:List V):Prop :=
 Rd H a (.lst xs) \/
  ∃ (o:Obj) (its:Array Qo) (n:Nat),K.lookup a=some o/\o.cls=.type "list"/\o.dict=none/\o.data=.seq its n/\its.size<=Qu/\Vals xs its.toList
def p4 (K:Pj) (H:Hp) (a:Qr) (xs:List V):Prop :=
 Rd H a (.tup xs) \/
  ∃ (o:Obj) (its:Array Qo) (n:Nat),K.lookup a=some o/\o.cls=.type "tuple"/\o.data=.seq its n/\its.size<=Qu/\Vals xs its.toList
def Ly:Qo->Option V
 | .none=>some .non
 | .bool b=>some (.bl b)
 | .int i _=>some (.int i)
 | .str x _=>some (.str x)
 | .bytes b _=>some (.byt b)
 | .float b _=>some (.flt b)
 | .ref a=>some (.ref a)
 | .type n=>some (.ty n)
 | _=>none
theorem RelV.abs {x:V} {u:Qo} (r:RelV x u):Ly u=some x:=by
 cases x with
 | non=>cases r; rfl
 | bl _=>cases r; rfl
 | int _=>obtain⟨t,rfl⟩:=r; rfl
 | str _=>obtain⟨t,rfl⟩:=r; rfl
 | byt _=>obtain⟨t,rfl⟩:=r; rfl
 | flt _=>obtain⟨t,rfl⟩:=r; rfl
 | ref _=>cases r; rfl
 | ty _=>cases r; rfl
theorem RelV.inj {x y:V} {u:Qo} (r:RelV x u) (q:RelV y u):x=y:=Option.some.inj (r.abs.symm.trans q.abs)
theorem Vals.inj:∀ {xs ys:List V} {us:List Qo},Vals xs us->Vals ys us->xs=ys
 | _,_,_,.nil,.nil=>rfl
 | _,_,_,.cons r t,.cons r' t'=>by rw [r.inj r',Vals.inj t t']
section
variable {X:Cx} {pins:List (Qr×Obj)} {σ:St} {H:Hp} {s:Qy} {a:Qr} {xs ys:List V}
theorem oo.of {K:Pj} (h:H a=some (.lst xs)):oo K H a xs:=.inl (.inl h)
theorem p4.of {K:Pj} (h:H a=some (.tup xs)):p4 K H a xs:=.inl (.inl h)
theorem Inv.list (I:Inv X pins σ H s) (h:oo X.K H a xs):∃ its:List Qo,Vals xs its/\PlainL s.heap a its.toArray/\xs.length<=Qu:=by
 rcases h with h | ⟨o,its,n,hk,hc,hd,hs,hz,r⟩
 ·obtain⟨z,its,n,r,e⟩:=h.ok I.hok
  exact⟨its,r,⟨_,n,e,rfl,rfl,rfl⟩,z⟩
 ·refine⟨its.toList,r,⟨o,n,I.kIn a o hk,hc,hd,by simpa using hs⟩,?_⟩
  have e:=r.length
  simp only [Array.length_toList] at e
  omega
theorem Inv.tuple (I:Inv X pins σ H s) (h:p4 X.K H a xs):∃ its:List Qo,Vals xs its/\IsTup s.heap a its.toArray/\xs.length<=Qu:=by
 rcases h with h | ⟨o,its,n,hk,hc,hs,hz,r⟩
 ·obtain⟨z,its,r,p⟩:=h.ok I.hok
  exact⟨its,r,p,z⟩
 ·refine⟨its.toList,r,⟨o,I.kIn a o hk,hc,n,by simpa using hs⟩,?_⟩
  have e:=r.length
  simp only [Array.length_toList] at e
  omega
theorem Inv.list_inj (I:Inv X pins σ H s) (h:oo X.K H a xs) (h':oo X.K H a ys):xs=ys:=by
 obtain⟨its,r,⟨o,n,e,_,_,d⟩,_⟩:=I.list h
 obtain⟨its',r',⟨o',n',e',_,_,d'⟩,_⟩:=I.list h'
 rw [e] at e'; cases e'
 rw [d] at d'
 injection d' with d1 _
 have:its=its':=by simpa using congrArg Array.toList d1
 subst this
 exact r.inj r'
theorem Inv.tuple_inj (I:Inv X pins σ H s) (h:p4 X.K H a xs) (h':p4 X.K H a ys):xs=ys:=by
 obtain⟨its,r,⟨o,e,_,n,d⟩,_⟩:=I.tuple h
 obtain⟨its',r',⟨o',e',_,n',d'⟩,_⟩:=I.tuple h'
 rw [e] at e'; cases e'
 rw [d] at d'
 injection d' with d1 _
 have:its=its':=by simpa using congrArg Array.toList d1
 subst this
 exact r.inj r'
end

abbrev Cx.wish (X:Cx) (E:Qo->Qy->Prop):Cx:={ X with xe:=E }
abbrev Cx.nox (X:Cx):Cx:=X.wish fun _ _=>False
theorem Cx.Ok.wish {X:Cx} (ok:X.Ok) (E:Qo->Qy->Prop):(X.wish E).Ok :=
 ⟨ok.mod,ok.kind,ok.glob,ok.blt,ok.above,ok.inj,ok.has,ok.cab,ok.hd,ok.frames,ok.stk,ok.exf,ok.bs,ok.bsz,ok.noex,ok.exfs,ok.funs,ok.frf⟩
theorem Cx.Ok.unwish {X:Cx} {E:Qo->Qy->Prop} (ok:(X.wish E).Ok):X.Ok :=
 ⟨ok.mod,ok.kind,ok.glob,ok.blt,ok.above,ok.inj,ok.has,ok.cab,ok.hd,ok.frames,ok.stk,ok.exf,ok.bs,ok.bsz,ok.noex,ok.exfs,ok.funs,ok.frf⟩
section
variable {X:Cx} {pins:List (Qr×Obj)} {σ:St} {H:Hp} {s:Qy} {E:Qo->Qy->Prop}
theorem Inv.wish (I:Inv X pins σ H s) (E:Qo->Qy->Prop):Inv (X.wish E) pins σ H s:=⟨I.ok.wish E,I.os,I.bare,I.base,I.loc,I.cell,I.free,I.freeC,I.pin,I.hok,I.len⟩
theorem Inv.unwish (I:Inv (X.wish E) pins σ H s):Inv X pins σ H s:=⟨I.ok.unwish,I.os,I.bare,I.base,I.loc,I.cell,I.free,I.freeC,I.pin,I.hok,I.len⟩
theorem SP.unwish {D:Ends} {f:Flow} {s':Qy} (h:SP (X.wish E) pins D f s'):SP X pins D f s':=by
 cases f with
 | next=>obtain⟨σ',H',I,q⟩:=h; exact⟨σ',H',I.unwish,q⟩
 | brk=>obtain⟨σ',H',I,q⟩:=h; exact⟨σ',H',I.unwish,q⟩
 | cont=>obtain⟨σ',H',I,q⟩:=h; exact⟨σ',H',I.unwish,q⟩
 | ret u=>obtain⟨v,σ',H',I,r,q⟩:=h; exact⟨v,σ',H',I.unwish,r,q⟩
theorem xi.nox {st:List QD} {t:TS} (h:xi X.nox st t):xi X st t:=fun pins s σ H D I hw =>
 QE (h pins s σ H D (I.wish _) hw) (fun _ _ q=>q.unwish) fun _ _ z=>False.elim z
end

section
variable {X:Cx} {st:QD} {rest:List QD} {t u:TS} {e:QB} {te:TE} {pos:Pos}
def Ig:TS:=fun D σ H=>D.nx σ H
def LY (t u:TS):TS:=fun D σ H=>t { D with nx:=u D } σ H
theorem EH:xi X [] Ig:=fun _ _ σ H _ I h=>QG ⟨σ,H,I,h⟩
theorem wf (h1:PS X st t) (h2:xi X rest u):xi X (st::rest) (LY t u):=by
 intro pins s σ H D I h
 refine wpAny_execs_cons (dX (h1 pins s σ H { D with nx:=u D } I h) fun f s1 q=>?_)
 cases f with
 | next =>
  obtain⟨σ',H',I',q⟩:=q
  exact h2 pins s1 σ' H' D I' q
 | ret v=>exact q
 | brk=>exact q
 | cont=>exact q
theorem zM (h1:PS X st t):xi X [st] t:=by
 intro pins s σ H D I h
 refine wpAny_execs_cons (dX (h1 pins s σ H D I h) fun f s1 q=>?_)
 cases f with
 | next=>exact QG q
 | ret v=>exact q
 | brk=>exact q
 | cont=>exact q
theorem Inv.quiet {pins:List (Qr×Obj)} {σ:St} {H:Hp} {s:Qy} (I:Inv X pins σ H s):interactive X.env=false:=by simp [interactive,I.ok.kind]
def HZ (te:TE):TS:=fun D σ H=>te σ H fun _ H1=>D.nx σ H1
theorem vj (he:PE X e te) (hs:swapsWith e none pos.line X.env=pure false:=by rfl):PS X (.Expr e pos) (HZ te):=by
 intro pins s σ H D I h
 exact wpAny_Expr_any (dX (he pins s σ H _ I h) fun v s1 ⟨x,H1,I1,r1,q1⟩=>⟨σ,H1,I1,q1⟩) I.quiet hs
def L3 (te:TE):TS:=fun D σ H=>te σ H D.rt
theorem Gw (he:PE X e te):PS X (.Return (some e) pos) (L3 te):=by
 intro pins s σ H D I h
 exact wpAny_Return_some (dX (he pins s σ H _ I h) fun v s1 ⟨x,H1,I1,r1,q1⟩=>⟨x,σ,H1,I1,r1,q1⟩)
def Ko (c:TT) (t u:TS):TS:=fun D σ H=>c σ H fun b H1=>if b=true then t D σ H1 else u D σ H1
theorem IP {c:QB} {a b:List QD} {tc:TT} (hc:PT X c tc) (ha:xi X a t) (hb:xi X b u):PS X (.If c a b pos) (Ko tc t u):=by
 intro pins s σ H D I h
 refine wpAny_If (dX (hc pins s σ H _ I h) fun d s1 ⟨H1,I1,q1⟩=>?_)
 cases d with
 | true=>exact ha pins s1 σ H1 D I1 q1
 | false=>exact hb pins s1 σ H1 D I1 q1
end

abbrev TG:=V->St->Hp->(St->Hp->Prop)->Prop
abbrev Fq:=List V->St->Hp->(St->Hp->Prop)->Prop
def PG (X:Cx) (target:QB) (t:TG):Prop :=
 ∀ (pins:List (Qr×Obj)) (s:Qy) (σ:St) (H:Hp) (v:V) (u:Qo) (Q:St->Hp->Prop),Inv X pins σ H s->RelV v u->t v σ H Q ->
  QA (model X.prog X.w) X.A (assign target X.env u) (fun _ s'=>∃ σ' H',Inv X pins σ' H' s'/\Q σ' H') X.xe s
def HM (X:Cx) (ts:List QB) (t:Fq):Prop :=
 ∀ (pins:List (Qr×Obj)) (s:Qy) (σ:St) (H:Hp) (vs:List V) (us:List Qo) (Q:St->Hp->Prop),Inv X pins σ H s->Vals vs us->t vs σ H Q ->
  QA (model X.prog X.w) X.A (assignInOrder ((assignEach ts X.env).map (·.2)) us) (fun _ s'=>∃ σ' H',Inv X pins σ' H' s'/\Q σ' H') X.xe s
section
variable {X:Cx} {pos:Pos}
def zF (i:Nat):TG:=fun v σ H Q=>Q (σ.set i (some v)) H
theorem DH {i:Nat} {x:Str} (hN:X.N.Nodup) (hi:X.N[i]?=some x) (hx:Loc X.env.scope x) (hf:X.fn x=true\/X.env.scope.names.lookup x=some .local:=by first | exact .inl rfl | exact .inr rfl | assumption):PG X (.Name x pos) (zF i):=by
 intro pins s σ H v u Q I r h
 exact wpAny_assign_Name (vD I hN hi hx r (fun s' I'=>⟨_,H,I',h⟩) hf)
def K1:Fq:=fun vs σ H Q=>vs=[]/\Q σ H
def Jd (t:TG) (u:Fq):Fq:=fun vs σ H Q=>∃ v r,vs=v::r/\t v σ H fun σ' H'=>u r σ' H' Q
theorem DR:HM X [] K1:=by
 intro pins s σ H vs us Q I r h
 obtain⟨e,h⟩:=h
 subst e
 cases r
 exact assignInOrder_nil ⟨σ,H,I,h⟩
theorem CZ {e:QB} {es:List QB} {t:TG} {u:Fq} (h1:PG X e t) (h2:HM X es u)
  (hs:(assignEach (e::es) X.env).map (·.2)=assign e X.env::(assignEach es X.env).map (·.2):=by rfl):HM X (e::es) (Jd t u):=by
 intro pins s σ H vs us Q I r h
 obtain⟨v,vr,e1,h⟩:=h
 subst e1
 cases r with
 | cons r rr =>
  rw [hs]
  refine assignInOrder_cons (dX (h1 pins s σ H _ _ _ I r h) fun _ s1 ⟨σ1,H1,I1,q1⟩=>?_)
  exact h2 pins s1 σ1 H1 _ _ Q I1 rr q1
def KJ (K:Pj) (n:Nat) (t:Fq):TG:=fun v σ H Q=>∃ a xs,v=.ref a/\p4 K H a xs/\xs.length=n/\t xs σ H Q
theorem G5 {es:List QB} {k:Nat} {t:Fq} {n:Nat} (hc:X.calm=true) (h:HM X es t)
  (hn:(assignEach es X.env).length=n:=by rfl) (hst:(assignEach es X.env).findIdx? (·.1)=none:=by rfl):PG X (.Tuple es k pos) (KJ X.K n t):=by
 intro pins s σ H v u Q I r hw
 obtain⟨a,xs,e1,hq,hl,hw⟩:=hw
 subst e1
 cases r
 obtain⟨its,rv,ht,hz⟩:=I.tuple hq
 refine assign_Tuple_tuple (I.ok.hd hc) ht (by simp [hn,<- hl,rv.length]) hst fun h' hx=>?_
 have I1:Inv X pins σ H { s with heap:=h' }:=I.kept (t':=s.toks) fun b o e=>hx b o (MF (PV e)) e
 exact h pins _ σ H xs _ Q I1 (by simpa using rv) hw
def Hi (te:TE) (g:TG):TS:=fun D σ H=>te σ H fun x H1=>g x σ H1 D.nx
theorem xM {i:Nat} {x:Str} {e:QB} {te:TE} {pos':Pos} (hN:X.N.Nodup) (hi:X.N[i]?=some x) (hx:Loc X.env.scope x) (he:PE X e te) (hs:swapsWith e (some (.Name x pos')) pos.line X.env=pure false:=by rfl) (hf:X.fn x=true\/X.env.scope.names.lookup x=some .local:=by first | exact .inl rfl | exact .inr rfl | assumption) :
  PS X (.Assign [.Name x pos'] e pos) (Hi te (zF i)):=by
 intro pins s σ H D I h
 refine wpAny_Assign_Name (dX (he pins s σ H _ I h) fun v s1 ⟨y,H1,I1,r1,q1⟩=>?_) hs
 exact vD I1 hN hi hx r1 (fun s2 I2=>⟨_,H1,I2,q1⟩) hf
end


structure It where
 go:Nat->Hp->Prop
 yld:Nat->Hp->V->Hp->Prop
 stop:Nat->Hp->Prop
def sL (X:Cx) (pins:List (Qr×Obj)) (H:Hp) (b:Qr):Prop :=
 H b=none/\b≠X.env.locals/\b∉X.fs/\(b∈X.ex\/X.s₀.heap.objs.size<=b)/\(∀ x c,X.env.cells.lookup x=some c->c≠b)/\∀ p∈X.pn++pins,p.1≠b
theorem Inv.fpOk {X:Cx} {pins:List (Qr×Obj)} {σ:St} {H H':Hp} {s:Qy} {b:Qr} (I:Inv X pins σ H s) (hb:s.heap.objs.size<=b) (hn:H' b=none):sL X pins H' b:=by
 refine⟨hn,MO (MD I.lt hb),I.nofs hb,.inr (MG I.sz hb),fun x c e z=>?_,fun p hp z=>?_⟩
 ·obtain⟨v,q⟩:=I.cell x c e
  exact absurd (MD q.lt (by rw [z]; exact hb)) (ME _)
 ·exact absurd (MD (PV (I.pin p hp).1) (by rw [z]; exact hb)) (ME _)
structure Turn (P:Qq) (w:Qp) (K:Pj) (tg:QB) (J:It) (fp:List Qr) (it:Qr) (tn:Nat->Qt->Prop):Prop where
 mem:it∈fp
 obj:∀ i h,tn i h->∀ b∈fp,∃ o,h.get? b=some o/\∀ v,o.data≠.cell v
 keep:∀ i h h',tn i h->(∀ b∈fp,∀ o,h.get? b=some o->h'.get? b=some o)->tn i h'
 item:∀ (X:Cx),X.prog=P->X.w=w->X.K=K->X.calm=true->∀ (i:Nat) (pins:List (Qr×Obj)) (s:Qy) (σ:St) (H:Hp) (E:Qo->Qy->Prop),Inv X pins σ H s->(∀ b∈fp,sL X pins H b)->tn i s.heap->J.go i H ->
  QA (model P w) X.A (pyNext (.ref it)) (fun r s1=>∃ u,r=some u /\
   QA (model P w) X.A (letOwnedTupleGo tg (.ref it) u) (fun _ s2=>∃ x H',Inv X pins σ H' s2/\RelV x u/\J.yld i H x H'/\tn (i+1) s2.heap/\∀ b∈fp,H' b=none) E s1) E s
 done:∀ (X:Cx),X.prog=P->X.w=w->X.K=K->X.calm=true->∀ (i:Nat) (pins:List (Qr×Obj)) (s:Qy) (σ:St) (H:Hp) (E:Qo->Qy->Prop),Inv X pins σ H s->(∀ b∈fp,sL X pins H b)->tn i s.heap->J.stop i H ->
  QA (model P w) X.A (pyNext (.ref it)) (fun r s1=>r=none/\Inv X pins σ H s1) E s
 self:∀ (A:Qx) (i:Nat) (s:Qy) (Q:Qo->Qy->Prop) (E:Qo->Qy->Prop),tn i s.heap->Q (.ref it) s->QA (model P w) A (pyIter (.ref it)) Q E s
abbrev TI:=St->Hp->(It->Hp->Prop)->Prop
def PIE (X:Cx) (pins:List (Qr×Obj)) (σ:St) (tg:QB) (R:It->Hp->Prop) (itv:Qo) (s2:Qy):Prop :=
 ∃ (it:Qr) (fp:List Qr) (tn:Nat->Qt->Prop) (J:It) (H':Hp),itv=.ref it/\Inv X pins σ H' s2/\Turn X.prog X.w X.K tg J fp it tn/\tn 0 s2.heap/\(∀ b∈fp,sL X pins H' b)/\R J H'
def PI (X:Cx) (tg iter:QB) (wi:TI):Prop :=
 ∀ (pins:List (Qr×Obj)) (s:Qy) (σ:St) (H:Hp) (R:It->Hp->Prop),Inv X pins σ H s->wi σ H R ->
  QA (model X.prog X.w) X.A (eval iter X.env) (fun v s1=>QA (model X.prog X.w) X.A (pyIter v) (PIE X pins σ tg R) X.xe s1) X.xe s

theorem BC {M:Model} {A:Qx} {E:Qo->Qy->Prop} {s:Qy} {tg:QB} {it:Qr} {u:Qo} {o:Obj} {n:String} {vs:Array Qo} {Q:Unit->Qy->Prop} (ho:s.heap.get? it=some o) (hc:o.cls=.type n) (hd:o.data=.fields vs)
    (hn:["enumerate","zip","dict_itemiterator","dict_reverseitemiterator","odict_iterator","itertools.zip_longest","itertools.pairwise"].contains n=false) (hQ:Q () s):QA M A (letOwnedTupleGo tg (.ref it) u) Q E s:=by
  unfold letOwnedTupleGo
  cases tg <;> first
    | exact QH hQ
    | (cases u <;> first
        | exact QH hQ
        | (refine QI (wpAny_load ho ?_)
           rw [hc,hd]
           show QA M A (if (["enumerate","zip","dict_itemiterator","dict_reverseitemiterator","odict_iterator","itertools.zip_longest","itertools.pairwise"].contains n && vs[0]?==some (rawInt _))=true then _ else _) Q E s
           rw [if_neg (by intro h; rw [hn,Bool.false_and] at h; cases h)]
           exact QH hQ))

def Ku (K:Pj) (a:Qr):It :=
 ⟨fun i H=>∃ xs x,oo K H a xs/\xs[i]?=some x,fun i H x H'=>H'=H/\∀ xs,oo K H a xs->xs[i]?=some x,fun i H=>∃ xs,oo K H a xs/\xs.length<=i⟩
def LD (K:Pj) (a:Qr):It :=
 ⟨fun i H=>∃ xs x,p4 K H a xs/\xs[i]?=some x,fun i H x H'=>H'=H/\∀ xs,p4 K H a xs->xs[i]?=some x,fun i H=>∃ xs,p4 K H a xs/\xs.length<=i⟩
def HV (lo:Int) (n:Nat):It:=⟨fun i _=>i < n,fun i H x H'=>H'=H/\x=.int (lo+i),fun i _=>n<=i⟩
theorem Ae {P:Qq} {w:Qp} {K:Pj} {tg:QB} (a it:Qr):Turn P w K tg (Ku K a) [it] it (fun i h=>h.IsListIter it a i) where
 mem:=by simp
 obj:=fun i h st b hb=>by
  have e:b=it:=by simpa using hb
  subst e
  obtain⟨o,e,c,d⟩:=st
  exact⟨o,e,fun v z=>by rw [d] at z; cases z⟩
 keep:=fun i h h' st k=>st.at fun o e=>k it (by simp) o e
 item:=by
  intro X hP hw hK hc i pins s σ H E I hf st hg
  subst hP hw hK
  obtain⟨xs,x,hq,hx⟩:=hg
  obtain⟨its,rv,p,hz⟩:=I.list hq
  obtain⟨u,hu,ru⟩:=rv.get hx
  obtain⟨f0,f1,f2,f3,f4,f5⟩:=hf it (by simp)
  refine wpAny_pyNext_list_item st p.isList (x:=u) (by simpa using hu) fun h' st' sb=>?_
  have I1:Inv X pins σ H { s with heap:=h' }:=I.turned (t':=s.toks) (fun b o hb e=>(sb.2 b hb).trans e) f0 f1 f3 f4 f5
  obtain⟨o,e,c,d⟩:=id st'
  exact⟨u,rfl,BC (s:={ s with heap:=h' }) e c d (by decide) ⟨x,H,I1,ru,⟨rfl,fun ys hy=>by rw [I.list_inj hy hq]; exact hx⟩,st',fun b hb=>(hf b hb).1⟩⟩
 done:=by
  intro X hP hw hK hc i pins s σ H E I hf st hg
  subst hP hw hK
  obtain⟨xs,hq,hx⟩:=hg
  obtain⟨its,rv,p,hz⟩:=I.list hq
  obtain⟨f0,f1,f2,f3,f4,f5⟩:=hf it (by simp)
  have hl:=rv.length
  exact wpAny_pyNext_list_end (I.ok.hd hc) st p.isList (by simp; omega) fun h' eb=>⟨rfl,I.turned (t':=s.toks) (fun b o hb e=>eb b o hb e) f0 f1 f3 f4 f5⟩
 self:=fun _ _ _ _ _ st h=>wpAny_pyIter_listiter st h
theorem xY {P:Qq} {w:Qp} {K:Pj} {tg:QB} (a it:Qr):Turn P w K tg (LD K a) [it] it (fun i h=>h.IsTupleIter it a i) where
 mem:=by simp
 obj:=fun i h st b hb=>by
  have e:b=it:=by simpa using hb
  subst e
  obtain⟨o,e,c,d⟩:=st
  exact⟨o,e,fun v z=>by rw [d] at z; cases z⟩
 keep:=fun i h h' st k=>st.at fun o e=>k it (by simp) o e
 item:=by
  intro X hP hw hK hc i pins s σ H E I hf st hg
  subst hP hw hK
  obtain⟨xs,x,hq,hx⟩:=hg
  obtain⟨its,rv,p,hz⟩:=I.tuple hq
  obtain⟨u,hu,ru⟩:=rv.get hx
  obtain⟨f0,f1,f2,f3,f4,f5⟩:=hf it (by simp)
  refine wpAny_pyNext_tuple_item st (show s.heap.IsTuple a its.toArray from p) (x:=u) (by simpa using hu) fun h' st' sb=>?_
  have I1:Inv X pins σ H { s with heap:=h' }:=I.turned (t':=s.toks) (fun b o hb e=>(sb.2 b hb).trans e) f0 f1 f3 f4 f5
  obtain⟨o,e,c,d⟩:=id st'
  exact⟨u,rfl,BC (s:={ s with heap:=h' }) e c d (by decide) ⟨x,H,I1,ru,⟨rfl,fun ys hy=>by rw [I.tuple_inj hy hq]; exact hx⟩,st',fun b hb=>(hf b hb).1⟩⟩
 done:=by
  intro X hP hw hK hc i pins s σ H E I hf st hg
  subst hP hw hK
  obtain⟨xs,hq,hx⟩:=hg
  obtain⟨its,rv,p,hz⟩:=I.tuple hq
  obtain⟨f0,f1,f2,f3,f4,f5⟩:=hf it (by simp)
  have hl:=rv.length
  exact wpAny_pyNext_tuple_end (I.ok.hd hc) st (show s.heap.IsTuple a its.toArray from p) (by simp; omega) fun h' eb=>⟨rfl,I.turned (t':=s.toks) (fun b o hb e=>eb b o hb e) f0 f1 f3 f4 f5⟩
 self:=fun _ _ _ _ _ st h=>wpAny_pyIter_tupleiter st h
theorem yw {P:Qq} {w:Qp} {K:Pj} {tg:QB} (it:Qr) (lo:Int) (n:Nat):Turn P w K tg (HV lo n) [it] it (fun i h=>IsRangeIter h it (lo+(i:Nat)*1) ((n:Int) - (i:Nat)) 1) where
 mem:=by simp
 obj:=fun i h st b hb=>by
  have e:b=it:=by simpa using hb
  subst e
  exact⟨_,st,fun v z=>by
   have z':Data.fields _=Data.cell v:=z
   cases z'⟩
 keep:=fun i h h' st k=>k it (by simp) _ st
 item:=by
  intro X hP hw hK hc i pins s σ H E I hf st hg
  subst hP hw hK
  obtain⟨f0,f1,f2,f3,f4,f5⟩:=hf it (by simp)
  have W:=Walks.range (prog:=X.prog) (w:=X.w) (I.ok.hd hc) it lo 1 n
  refine W.item i s _ _ hg st fun v h' tk hv st' kk=>?_
  obtain⟨t,rfl⟩:=hv
  have I1:Inv X pins σ H { s with heap:=h',toks:=tk }:=I.turned (fun b o hb e=>kk b o (by simpa using hb) e) f0 f1 f3 f4 f5
  refine⟨_,rfl,BC (s:={ s with heap:=h',toks:=tk }) (n := "range_iterator") st' rfl rfl (by decide) ⟨.int (lo+i),H,I1,⟨t,?_⟩,⟨rfl,rfl⟩,st',fun b hb=>(hf b hb).1⟩⟩
  rw [Int.mul_one]
 done:=by
  intro X hP hw hK hc i pins s σ H E I hf st hg
  subst hP hw hK
  obtain⟨f0,f1,f2,f3,f4,f5⟩:=hf it (by simp)
  exact wpAny_pyNext_range_end (I.ok.hd hc) st (by have:n<=i:=hg; omega) fun h' eb=>⟨rfl,I.turned (t':=s.toks) (fun b o hb e=>eb b o hb e) f0 f1 f3 f4 f5⟩
 self:=fun _ _ _ _ _ st h=>wpAny_pyIter_rangeiter st h
end L2

namespace L2
open PySem PySem.Spec PyProof.Rows
section
variable {X:Cx} {tg:QB}
def IJ (K:Pj) (tl:TE):TI:=fun σ H R=>tl σ H fun x H1=>∃ a,x=.ref a/\(∃ xs,oo K H1 a xs)/\R (Ku K a) H1
def J5 (K:Pj) (tl:TE):TI:=fun σ H R=>tl σ H fun x H1=>∃ a,x=.ref a/\(∃ xs,p4 K H1 a xs)/\R (LD K a) H1
theorem zh {l:QB} {tl:TE} (hl:PE X l tl):PI X tg l (IJ X.K tl):=by
 intro pins s σ H R I h
 refine dX (hl pins s σ H _ I h) fun v s1 ⟨x,H1,I1,r1,q1⟩=>?_
 obtain⟨a,e,⟨xs,hq⟩,q⟩:=q1
 subst e
 cases r1
 obtain⟨its,rv,p,hz⟩:=I1.list hq
 refine QJ p.isList ?_
 refine⟨s1.heap.objs.size,[s1.heap.objs.size],_,_,H1,rfl,I1.kept (t':=s1.toks) fun b o e=>PZ _ e,Ae a _,⟨_,P0 _ rfl,rfl,rfl⟩,fun b hb=>?_,q⟩
 have e:b=s1.heap.objs.size:=by simpa using hb
 subst e
 exact I1.fpOk (MP _) (I1.hok.fresh (MP _))
theorem GZ {l:QB} {tl:TE} (hl:PE X l tl):PI X tg l (J5 X.K tl):=by
 intro pins s σ H R I h
 refine dX (hl pins s σ H _ I h) fun v s1 ⟨x,H1,I1,r1,q1⟩=>?_
 obtain⟨a,e,⟨xs,hq⟩,q⟩:=q1
 subst e
 cases r1
 obtain⟨its,rv,p,hz⟩:=I1.tuple hq
 refine wpAny_pyIter_tuple (show s1.heap.IsTuple a its.toArray from p) ?_
 refine⟨s1.heap.objs.size,[s1.heap.objs.size],_,_,H1,rfl,I1.kept (t':=s1.toks) fun b o e=>PZ _ e,xY a _,⟨_,P0 _ rfl,rfl,rfl⟩,fun b hb=>?_,q⟩
 have e:b=s1.heap.objs.size:=by simpa using hb
 subst e
 exact I1.fpOk (MP _) (I1.hok.fresh (MP _))
theorem wg {pins:List (Qr×Obj)} {σ:St} {H:Hp} {s:Qy} {R:It->Hp->Prop} {E:Qo->Qy->Prop} {lo hi:Int} {t u v:Tok} {tk:Nat} (I:Inv X pins σ H s) (h1:-(2 ^ 62)<=lo) (h2:lo < 2 ^ 62) (h3:-(2 ^ 62)<=hi) (h4:hi < 2 ^ 62)
  (q:R (HV lo (hi - lo).toNat) H):QA (model X.prog X.w) X.A (pyIter (.ref s.heap.objs.size)) (PIE X pins σ tg R) E { s with heap:=s.heap.push { cls:=.type "range",data:=.fields #[.int lo t,.int hi u,.int 1 v] },toks:=tk }:=by
 refine wpAny_pyIter_range (IsRange.new ..) (small_one h1 h2 h3 h4) ?_
 have I1:Inv X pins σ H { s with heap:=s.heap.push { cls:=.type "range",data:=.fields #[.int lo t,.int hi u,.int 1 v] },toks:=tk }:=I.kept fun b o e=>PZ _ e
 refine⟨(s.heap.push { cls:=.type "range",data:=.fields #[.int lo t,.int hi u,.int 1 v] }).objs.size,[(s.heap.push { cls:=.type "range",data:=.fields #[.int lo t,.int hi u,.int 1 v] }).objs.size],_,_,H,rfl,
  I1.kept (t':=tk) fun b o e=>PZ _ e,yw _ lo (hi - lo).toNat,?_,fun b hb=>?_,q⟩
 ·have e1:lo+((0:Nat):Int)*1=lo:=by simp
  have e2:(((hi - lo).toNat:Nat):Int) - ((0:Nat):Int)=Builtin.Range.rangeSize lo hi 1:=by rw [rangeSize_one]; split <;> omega
  show IsRangeIter _ _ (lo+((0:Nat):Int)*1) ((((hi - lo).toNat:Nat):Int) - ((0:Nat):Int)) 1
  rw [e1,e2]
  exact P0 _ rfl
 ·have e:b=(s.heap.push { cls:=.type "range",data:=.fields #[.int lo t,.int hi u,.int 1 v] }).objs.size:=by simpa using hb
  subst e
  exact I1.fpOk (MP _) (I1.hok.fresh (MP _))
def Jl (ta:TA):TI:=fun σ H R=>ta σ H fun vs H1=>∃ j:Int,vs=[.int j]/\-(2 ^ 62)<=j/\j < 2 ^ 62/\R (HV 0 j.toNat) H1
def HJ (ta:TA):TI:=fun σ H R=>ta σ H fun vs H1=>∃ i j:Int,vs=[.int i,.int j]/\(-(2 ^ 62)<=i/\i < 2 ^ 62/\-(2 ^ 62)<=j/\j < 2 ^ 62)/\R (HV i (j - i).toNat) H1
theorem Aj {a:QB} {ta:TA} {p pos:Pos} (hg:Gl X "range") (hm:X.mg "range"=none) (ha:PA X [a] ta) (hs:QC [a] X.env=[(false,eval a X.env)]:=by rfl):PI X tg (.Call (.Name "range" p) [a] [] pos) (Jl ta):=by
 intro pins s σ H R I h
 refine Call_ (nK I hg hm boot_range (P9 (dX (ha pos pins s σ H _ I h) fun us s1 ⟨vs,H1,I1,r1,q1⟩=>?_) hs rfl))
 obtain⟨j,e,q1,q2,q⟩:=q1
 subst e
 cases r1 with
 | cons r rr =>
  cases rr
  obtain⟨t,rfl⟩:=r
  exact call_range_1 (wg I1 ‹0› ‹0› q1 q2 (by simpa using q))
theorem Ah {a b:QB} {ta:TA} {p pos:Pos} (hg:Gl X "range") (hm:X.mg "range"=none) (ha:PA X [a,b] ta) (hs:QC [a,b] X.env=[(false,eval a X.env),(false,eval b X.env)]:=by rfl) (hs2:QC [b] X.env=[(false,eval b X.env)]:=by rfl) :
  PI X tg (.Call (.Name "range" p) [a,b] [] pos) (HJ ta):=by
 intro pins s σ H R I h
 refine Call_ (nK I hg hm boot_range (P9 (dX (ha pos pins s σ H _ I h) fun us s1 ⟨vs,H1,I1,r1,q1⟩=>?_) (by rw [hs,hs2]) (by rw [hs2]; rfl)))
 obtain⟨i,j,e,⟨q1,q2,q3,q4⟩,q⟩:=q1
 subst e
 cases r1 with
 | cons r rr =>
  cases rr with
  | cons r' rr =>
   cases rr
   obtain⟨t,rfl⟩:=r
   obtain⟨t',rfl⟩:=r'
   exact call_range_2 (wg I1 q1 q2 q3 q4 q)

def K9 (wi:TI) (g:TG) (tb:TS):TS:=fun D σ H=>wi σ H fun J H1=>∃ W:Nat->Nat->St->Hp->Prop,(∃ m,W 0 m σ H1)/\∀ i m σ H,W i m σ H ->
 (J.stop i H/\D.nx σ H)\/(J.go i H/\∃ N:St->Hp->Prop,(∀ σ' H',N σ' H'->∃ m',m' < m/\W (i+1) m' σ' H')/\∀ x H',J.yld i H x H'->g x σ H' fun σ2 H2=>tb { D with nx:=N,ct:=N,bk:=D.nx } σ2 H2)
def qZ (fp:List Qr) (h:Qt):List (Qr×Obj):=fp.filterMap fun b=>(h.get? b).map fun o=>(b,o)
theorem kR {fp:List Qr} {h:Qt} {b:Qr} {o:Obj} (hb:b∈fp) (e:h.get? b=some o):(b,o)∈qZ fp h:=List.mem_filterMap.mpr ⟨b,hb,by rw [e]; rfl⟩
theorem Bs {fp:List Qr} {h:Qt} {p:Qr×Obj} (hp:p∈qZ fp h):p.1∈fp/\h.get? p.1=some p.2:=by
 obtain⟨b,hb,e⟩:=List.mem_filterMap.mp hp
 cases q:h.get? b with
 | none=>rw [q] at e; cases e
 | some o =>
  rw [q] at e
  have e':(b,o)=p:=Option.some.inj e
  subst e'
  exact⟨hb,q⟩
theorem Inv.pinned {pins:List (Qr×Obj)} {σ:St} {H:Hp} {s:Qy} {fp:List Qr} (I:Inv X pins σ H s) (hf:∀ b∈fp,sL X pins H b) (ho:∀ b∈fp,∃ o,s.heap.get? b=some o/\∀ v,o.data≠.cell v):Inv X (pins++qZ fp s.heap) σ H s :=
 I.pins_of fun p hp=>(List.mem_append.mp hp).elim (fun z=>I.pin p (MQ _ z)) fun z=>by
  obtain⟨hb,e⟩:=Bs z
  obtain⟨f0,f1,f2,_⟩:=hf p.1 hb
  obtain⟨o,e',d⟩:=ho p.1 hb
  rw [e] at e'; cases e'
  exact⟨e,f0,f1,f2,d⟩
theorem Inv.unpinned {pins pl:List (Qr×Obj)} {σ:St} {H:Hp} {s:Qy} (I:Inv X (pins++pl) σ H s):Inv X pins σ H s:=I.pins_of fun p hp=>I.pin p (MQ _ (ML _ hp))
theorem FQ {iter:QB} {body:List QD} {wi:TI} {g:TG} {tb:TS} {pos:Pos} (hp:QK (model X.prog X.w) X.A X.env X.xe) (hc:X.calm=true) (hi:PI X tg iter wi) (hg:PG X tg g) (hb:xi X body tb)
  (hs:∀ x,QL iter X.env x=pure x:=by intro _; rfl):PS X (.For tg iter body [] pos) (K9 wi g tb):=by
 intro pins s σ H D I h
 refine wpAny_For (dX (hi pins s σ H _ I h) fun v s1 h1=>dX h1 fun itv s2 h2=>?_) hs
 obtain⟨it,fp,tn,J,H2,e,I2,T,st2,f2,W,⟨m0,w0⟩,turn⟩:=h2
 subst e
 have stat:∀ {H':Hp},(∀ b∈fp,H' b=none)->∀ b∈fp,sL X pins H' b:=fun hn b hb=>⟨hn b hb,(f2 b hb).2⟩
 refine codeAny_forLoop_any (fun n s'=>∃ i σ' H',Inv X pins σ' H' s'/\tn i s'.heap/\(∀ b∈fp,H' b=none)/\W i n σ' H') ?_ m0 ⟨0,σ,H2,I2,st2,fun b hb=>(f2 b hb).1,w0⟩
 rintro n s3 ⟨i,σ3,H3,I3,st3,fr3,w3⟩
 rcases turn i n σ3 H3 w3 with ⟨stop,qn⟩ | ⟨go,N,hN,step⟩
 ·refine QM hp (dX (T.done X rfl rfl rfl hc i pins s3 σ3 H3 X.xe I3 (stat fr3) st3 stop) fun r s4 ⟨hr,I4⟩=>?_)
  subst hr
  exact QG ⟨σ3,H3,I4,qn⟩
 ·refine QM hp (dX (T.item X rfl rfl rfl hc i pins s3 σ3 H3 X.xe I3 (stat fr3) st3 go) fun r s4 ⟨u,hr,h4⟩=>?_)
  subst hr
  refine QM hp (dX h4 fun _ s5 ⟨x,H5,I5,r5,y5,st5,fr5⟩=>?_)
  have I5':=I5.pinned (stat fr5) (T.obj _ _ st5)
  refine QM hp (dX (hg _ s5 σ3 H5 x u _ I5' r5 (step x H5 y5)) fun _ s6 ⟨σ6,H6,I6,q6⟩=>?_)
  refine QM hp (dX (hb _ s6 σ6 H6 _ I6 q6) fun f s7 q7=>?_)
  have again:∀ {σ7:St} {H7:Hp},Inv X (pins++qZ fp s5.heap) σ7 H7 s7->N σ7 H7->∃ m,m < n/\∃ i σ' H',Inv X pins σ' H' s7/\tn i s7.heap/\(∀ b∈fp,H' b=none)/\W i m σ' H':=fun {σ7 H7} I7 n7=>by
   obtain⟨m',hm,w7⟩:=hN σ7 H7 n7
   refine⟨m',hm,i+1,σ7,H7,I7.unpinned,T.keep _ _ _ st5 fun b hb o e=>(I7.pin (b,o) (MQ _ (MQ _ (kR hb e)))).1,fun b hb=>?_,w7⟩
   obtain⟨o,e,d⟩:=T.obj _ _ st5 b hb
   exact(I7.pin (b,o) (MQ _ (MQ _ (kR hb e)))).2.1
  cases f with
  | next=>obtain⟨σ7,H7,I7,n7⟩:=q7; exact again I7 n7
  | cont=>obtain⟨σ7,H7,I7,n7⟩:=q7; exact again I7 n7
  | brk=>obtain⟨σ7,H7,I7,q7⟩:=q7; exact⟨σ7,H7,I7.unpinned,q7⟩
  | ret v=>obtain⟨x7,σ7,H7,I7,r7,q7⟩:=q7; exact⟨x7,σ7,H7,I7.unpinned,r7,q7⟩
end

end L2

namespace L2
open PySem PySem.Spec PyProof.Rows

abbrev R2:=V->V->Hp->VK->Prop
def jr (X:Cx) (f:Qo->Qo->Sem Qo) (r:R2):Prop :=
 ∀ (pins:List (Qr×Obj)) (s:Qy) (σ:St) (H:Hp) (x y:V) (v u:Qo) (Q:VK),Inv X pins σ H s->RelV x v->RelV y u->r x y H Q ->
  QA (model X.prog X.w) X.A (f v u) (EP X pins σ Q) X.xe s
def Ky (X:Cx) (f:Qo->Sem Qo) (r:V->Hp->VK->Prop):Prop :=
 ∀ (pins:List (Qr×Obj)) (s:Qy) (σ:St) (H:Hp) (x:V) (v:Qo) (Q:VK),Inv X pins σ H s->RelV x v->r x H Q ->
  QA (model X.prog X.w) X.A (f v) (EP X pins σ Q) X.xe s
def dW (X:Cx) (f:Qo) (r:List V->Hp->VK->Prop):Prop :=
 ∀ (pins:List (Qr×Obj)) (s:Qy) (σ:St) (H:Hp) (xs:List V) (us:List Qo) (Q:VK),Inv X pins σ H s->Vals xs us->r xs H Q ->
  QA (model X.prog X.w) X.A (call f us) (EP X pins σ Q) X.xe s
def Ke (X:Cx) (r:V->Hp->(Bool->Hp->Prop)->Prop):Prop :=
 ∀ (pins:List (Qr×Obj)) (s:Qy) (σ:St) (H:Hp) (x:V) (v:Qo) (Q:Bool->Hp->Prop),Inv X pins σ H s->RelV x v->r x H Q ->
  QA (model X.prog X.w) X.A (truthy v) (TP X pins σ Q) X.xe s

def Ie (r:R2) (ta tb:TE):TE:=fun σ H Q=>ta σ H fun x H1=>tb σ H1 fun y H2=>r x y H2 Q
def Mf (r:V->Hp->VK->Prop) (ta:TE):TE:=fun σ H Q=>ta σ H fun x H1=>r x H1 Q
def rI (C:Int->Int->Prop) (g:Int->Int->V):R2:=fun x y H Q=>∃ i j,x=.int i/\y=.int j/\C i j/\Q (g i j) H
def Bv (g:Int->Int->V):R2:=fun x y H Q=>∃ i j,x=.int i/\y=.int j/\Q (g i j) H
def rU (g:Int->V):V->Hp->VK->Prop:=fun x H Q=>∃ i,x=.int i/\Q (g i) H

section
variable {X:Cx} {a b c:QB} {ta tb tc:TE} {pos:Pos}

theorem Gx (ha:PE X a ta) (hb:PE X b tb) {pins:List (Qr×Obj)} {s:Qy} {σ:St} {H:Hp} {R:V->V->Hp->Prop} (I:Inv X pins σ H s)
  (h:ta σ H fun x H1=>tb σ H1 fun y H2=>R x y H2) {Q:Qo->Qy->Prop} {f:Qo->Qo->Sem Qo}
  (hf:∀ v u s2 x y H2,Inv X pins σ H2 s2->RelV x v->RelV y u->R x y H2->QA (model X.prog X.w) X.A (f v u) Q X.xe s2) :
  QA (model X.prog X.w) X.A (eval a X.env) (fun v s₁=>QA (model X.prog X.w) X.A (eval b X.env) (fun u s₂=>QA (model X.prog X.w) X.A (f v u) Q X.xe s₂) X.xe s₁) X.xe s:=by
 refine dX (ha pins s σ H _ I h) fun v s1 ⟨x,H1,I1,r1,q1⟩=>?_
 refine dX (hb pins s1 σ H1 _ I1 q1) fun u s2 ⟨y,H2,I2,r2,q2⟩=>?_
 exact hf v u s2 x y H2 I2 r1 r2 q2

theorem IX {op:Operator} {r:R2} (ho:jr X (QN op) r) (ha:PE X a ta) (hb:PE X b tb):PE X (.BinOp a op b pos) (Ie r ta tb):=by
 intro pins s σ H Q I h
 exact wpAny_BinOp (Gx ha hb I h fun v u s2 x y H2 I2 rx ry q=>ho pins s2 σ H2 x y v u Q I2 rx ry q)
theorem Iq {op:UnaryOp} {r:V->Hp->VK->Prop} (ho:Ky X (unaryOp op) r) (ha:PE X a ta):PE X (.UnaryOp op a pos) (Mf r ta):=by
 intro pins s σ H Q I h
 exact UnaryOp_ (dX (ha pins s σ H _ I h) fun v s1 ⟨x,H1,I1,r1,q1⟩=>ho pins s1 σ H1 x v Q I1 r1 q1)
theorem Ii {f:Qo->Qo->Sem Qo} {C:Int->Int->Prop} {g:Int->Int->Int}
  (rule:∀ (i j:Int) (t u:Tok) (s:Qy) (Q:Qo->Qy->Prop) (E:Qo->Qy->Prop),C i j->Q (.int (g i j) s.toks) { s with toks:=s.toks+1 }->QA (model X.prog X.w) X.A (f (.int i t) (.int j u)) Q E s) :
  jr X f (rI C fun i j=>.int (g i j)):=by
 intro pins s σ H x y v u Q I rx ry h
 obtain⟨i,j,rfl,rfl,hc,q⟩:=h
 obtain⟨t,rfl⟩:=rx
 obtain⟨t',rfl⟩:=ry
 exact rule i j t t' s _ _ hc ⟨.int (g i j),H,I.tok _,⟨_,rfl⟩,q⟩
theorem Gh {f:Qo->Qo->Sem Qo} {g:Int->Int->Int}
  (rule:∀ (i j:Int) (t u:Tok) (s:Qy) (Q:Qo->Qy->Prop) (E:Qo->Qy->Prop),Q (.int (g i j) s.toks) { s with toks:=s.toks+1 }->QA (model X.prog X.w) X.A (f (.int i t) (.int j u)) Q E s) :
  jr X f (Bv fun i j=>.int (g i j)):=by
 intro pins s σ H x y v u Q I rx ry h
 obtain⟨i,j,rfl,rfl,q⟩:=h
 obtain⟨t,rfl⟩:=rx
 obtain⟨t',rfl⟩:=ry
 exact rule i j t t' s _ _ ⟨.int (g i j),H,I.tok _,⟨_,rfl⟩,q⟩
theorem Gn {f:Qo->Qo->Sem Qo} {g:Int->Int->Bool}
  (rule:∀ (i j:Int) (t u:Tok) (s:Qy) (Q:Qo->Qy->Prop) (E:Qo->Qy->Prop),Q (.bool (g i j)) s->QA (model X.prog X.w) X.A (f (.int i t) (.int j u)) Q E s) :
  jr X f (Bv fun i j=>.bl (g i j)):=by
 intro pins s σ H x y v u Q I rx ry h
 obtain⟨i,j,rfl,rfl,q⟩:=h
 obtain⟨t,rfl⟩:=rx
 obtain⟨t',rfl⟩:=ry
 exact rule i j t t' s _ _ ⟨.bl (g i j),H,I,rfl,q⟩

def Ih (i j:Int):Prop:=0<=j/\j<=1000000/\i.natAbs < 2 ^ 64
def Hk (i j:Int):Prop:=(-(2 ^ 64) < i/\i < 2 ^ 64)\/(-(2 ^ 64) < j/\j < 2 ^ 64)
theorem Hk.ok {i j:Int} (h:Hk i j):IntMulOk i j:=by
 rcases h with ⟨h1,h2⟩ | ⟨h1,h2⟩
 ·exact .of_left (intBits_le_64 h1 h2)
 ·exact .of_right (intBits_le_64 h1 h2)
theorem yN (k:Nat):(0:Int)<=2 ^ k:=by
 rw [two_pow_cast]
 exact MR _

theorem Fz:jr X (QN .Add) (Bv fun i j=>.int (i+j)):=Gh fun _ _ _ _ _ _ _ q=>add_int q
theorem oP:jr X (QN .Sub) (Bv fun i j=>.int (i - j)):=Gh fun _ _ _ _ _ _ _ q=>sub_int q
theorem i7:jr X (QN .Mult) (rI Hk fun i j=>.int (i*j)):=Ii fun _ _ _ _ _ _ _ hc q=>mul_int q hc.ok
theorem bx:jr X (QN .Mod) (rI (fun _ j=>0 < j) fun i j=>.int (i%j)):=Ii fun i j _ _ _ _ _ hc q=>by
 have h1:(0:Int) < j:=hc
 exact mod_int' ‹0› (by rw [Int.fmod_eq_emod_of_nonneg i ‹0›]; exact q)
theorem oC:jr X (QN .Pow) (rI Ih fun i j=>.int (i ^ j.toNat)):=Ii fun _ _ _ _ _ _ _ hc q=>pow_int_small hc.1 hc.2.1 hc.2.2 q
theorem Ho:jr X (QN .RShift) (rI (fun _ j=>0<=j) fun i j=>.int (i / 2 ^ j.toNat)):=Ii fun i j _ _ _ _ _ hc q =>
 rshift_int hc (by rw [MS i (yN _)]; exact q)
theorem Hg:jr X (QN .BitAnd) (Bv fun i j=>.int (Builtin.bitAnd i j)):=Gh fun _ _ _ _ _ _ _ q=>and_int q
theorem Mz {f:Qo->Sem Qo} {g:Int->Int}
  (rule:∀ (i:Int) (t:Tok) (s:Qy) (Q:Qo->Qy->Prop) (E:Qo->Qy->Prop),Q (.int (g i) s.toks) { s with toks:=s.toks+1 }->QA (model X.prog X.w) X.A (f (.int i t)) Q E s) :
  Ky X f (rU fun i=>.int (g i)):=by
 intro pins s σ H x v Q I rx h
 obtain⟨i,rfl,q⟩:=h
 obtain⟨t,rfl⟩:=rx
 exact rule i t s _ _ ⟨.int (g i),H,I.tok _,⟨_,rfl⟩,q⟩
theorem GW:Ky X (unaryOp .USub) (rU fun i=>.int (-i)):=Mz fun _ _ _ _ _ q=>neg_int q
end

section
variable {X:Cx} {a b c:QB} {ta tb tc:TE} {pos:Pos}
theorem B9 {pins:List (Qr×Obj)} {σ:St} {H:Hp} {s:Qy} {Q:VK} {k k':Bool} (I:Inv X pins σ H s) (q:Q (.bl k) H) (e:k=k'):EP X pins σ Q (.bool k') s:=by
 subst e
 exact⟨.bl k,H,I,rfl,q⟩
theorem Jf:jr X (QO .Lt) (Bv fun i j=>.bl (decide (i < j))):=Gn fun _ _ _ _ _ _ _ q=>lt_int q
theorem Jp:jr X (QO .LtE) (Bv fun i j=>.bl (decide (i<=j))):=Gn fun _ _ _ _ _ _ _ q=>le_int q
theorem IZ:jr X (QO .GtE) (Bv fun i j=>.bl (decide (j<=i))):=Gn fun _ _ _ _ _ _ _ q=>ge_int q
theorem Ad:jr X (QO .Lt) (fun x y H Q=>∃ i j,x=.str i/\y=.str j/\Q (.bl (decide (i.cps.toList < j.cps.toList))) H):=by
 intro pins s σ H x y v u Q I rx ry h
 obtain⟨i,j,rfl,rfl,q⟩:=h
 obtain⟨t,rfl⟩:=rx
 obtain⟨t',rfl⟩:=ry
 exact lt_str (B9 I q rfl)
theorem cW (b:QB) {op:QP} (h:op≠.In:=by decide) (h2:op≠.NotIn:=by decide):QQ op b=false:=by
 have e1:(op==CmpOp.In)=false:=by cases op <;> first | rfl | exact absurd rfl h
 have e2:(op==CmpOp.NotIn)=false:=by cases op <;> first | rfl | exact absurd rfl h2
 cases b <;> simp [QQ,e1,e2]
theorem Dq {op:QP} {r:R2} (ho:jr X (QO op) r) (ha:PE X a ta) (hb:PE X b tb) (hm:QQ op b=false):PE X (.Compare a [op] [b] pos) (Ie r ta tb):=by
 intro pins s σ H Q I h
 exact wpAny_Compare1 (Gx ha hb I h fun v u s2 x y H2 I2 rx ry q=>ho pins s2 σ H2 x y v u Q I2 rx ry q) hm
def CD (t:TE):TT:=fun σ H Q=>t σ H fun x H'=>∃ k,x=.bl k/\Q k H'
theorem Dy {op:QP} {r:R2} (ho:jr X (QO op) r) (ha:PE X a ta) (hb:PE X b tb) (hm:QQ op b=false):PT X (.Compare a [op] [b] pos) (CD (Ie r ta tb)):=by
 intro pins s σ H Q I h
 refine wpAny_isTrue_Compare1 (dX (ha pins s σ H _ I h) fun v s1 ⟨x,H1,I1,r1,q1⟩=>dX (hb pins s1 σ H1 _ I1 q1) fun u s2 ⟨y,H2,I2,r2,q2⟩ =>
  dX (ho pins s2 σ H2 x y v u _ I2 r1 r2 q2) fun c s3 ⟨z,H3,I3,r3,k,e,q3⟩=>?_) hm
 subst e
 cases r3
 exact QF ⟨H3,I3,q3⟩
def Ca (r r':R2) (ta tb tc:TE):TE:=fun σ H Q=>ta σ H fun x H1=>tb σ H1 fun y H2=>r x y H2 fun z H3=>∃ k,z=.bl k /\
 (if k=true then tc σ H3 fun w' H4=>r' y w' H4 Q else Q (.bl false) H3)
theorem CN {op op':QP} {r r':R2} (ho:jr X (QO op) r) (ho':jr X (QO op') r') (ha:PE X a ta) (hb:PE X b tb) (hc:PE X c tc)
  (hm:lastMarks [op,op'] [b,c]=false:=by with_unfolding_all rfl):PT X (.Compare a [op,op'] [b,c] pos) (CD (Ca r r' ta tb tc)):=by
 intro pins s σ H Q I h
 refine isTrue_chain (dX (ha pins s σ H _ I h) fun v s1 ⟨x,H1,I1,r1,q1⟩=>test_link (dX (hb pins s1 σ H1 _ I1 q1) fun u s2 ⟨y,H2,I2,r2,q2⟩ =>
  dX (ho pins s2 σ H2 x y v u _ I2 r1 r2 q2) fun d s3 ⟨z,H3,I3,r3,k,e,q3⟩=>?_)) hm
 subst e
 cases r3
 refine QF ?_
 cases k with
 | false =>
  obtain⟨k',e',q'⟩:=q3
  cases e'
  exact ite_ff ⟨H3,I3,q'⟩
 | true =>
  refine ite_tt (test_last (dX (hc pins s3 σ H3 _ I3 q3) fun w' s4 ⟨z',H4,I4,r4,q4⟩=>dX (ho' pins s4 σ H4 y z' u w' _ I4 r2 r4 q4) fun d' s5 ⟨z2,H5,I5,r5,k2,e2,q5⟩=>?_))
  subst e2
  cases r5
  exact QF ⟨H5,I5,q5⟩

def IT (K:Pj) (x:V) (H:Hp) (k:Bool):Prop :=
 match x with
 | .non=>k=false
 | .bl b=>k=b
 | .int i=>k=(i != 0)
 | .str y=>y.length<=Qu/\k=((y.length:Int) != 0)
 | .byt y=>y.size<=Qu/\k=((y.size:Int) != 0)
 | .ref p=>(∃ xs,oo K H p xs/\k=!xs.isEmpty)\/(∃ xs,p4 K H p xs/\k=!xs.isEmpty)\/∃ kvs,H p=some (.dK kvs)/\k=!kvs.isEmpty
 | _=>False
theorem xK {κ:Type} {kvs:List (κ×V)} {vs:List (κ×Qo)} (r:KV kvs vs):(!vs.isEmpty)=!kvs.isEmpty:=by
 cases r <;> rfl
theorem rp {xs:List V} {its:List Qo} (r:Vals xs its):(!its.toArray.isEmpty)=!xs.isEmpty:=by
 cases r <;> simp
theorem oY:(Qu:Nat) < 2 ^ 63:=by rw [QR]; decide
theorem GB:Ke X (fun x H Q=>∃ k,IT X.K x H k/\Q k H):=by
 intro pins s σ H x v Q I rx h
 obtain⟨k,e,q⟩:=h
 have hl:=oY
 have hs:Qu=16777216:=QR
 cases x with
 | non =>
  cases rx
  have e':k=false:=e
  subst e'
  exact truthy_none ⟨H,I,q⟩
 | bl b =>
  cases rx
  have e':k=b:=e
  subst e'
  exact QF ⟨H,I,q⟩
 | int i =>
  obtain⟨t,rfl⟩:=rx
  have e':k=(i != 0):=e
  subst e'
  exact PySem.P.truthy_int ⟨H,I,q⟩
 | str y =>
  obtain⟨t,rfl⟩:=rx
  obtain⟨hy,e'⟩:y.length<=Qu/\k=((y.length:Int) != 0):=e
  subst e'
  exact PySem.P.truthy_str ‹0› ⟨H,I.tok _,q⟩
 | byt y =>
  obtain⟨t,rfl⟩:=rx
  obtain⟨hy,e'⟩:y.size<=Qu/\k=((y.size:Int) != 0):=e
  subst e'
  exact PySem.W.truthy_bytes ‹0› ⟨H,I.tok _,q⟩
 | ref p =>
  cases rx
  have e':(∃ xs,oo X.K H p xs/\k=!xs.isEmpty)\/(∃ xs,p4 X.K H p xs/\k=!xs.isEmpty)\/∃ kvs,H p=some (.dK kvs)/\k=!kvs.isEmpty:=e
  rcases e' with ⟨xs,hx,e'⟩ | ⟨xs,hx,e'⟩ | ⟨kvs,hx,e'⟩
  ·subst e'
   obtain⟨its,r,pl,hz⟩:=I.list hx
   have hlen:=r.length
   exact wpAny_truthy_list pl.isList (by simp only [MT]; omega) ⟨H,I.tok _,by rw [rp r]; exact q⟩
  ·subst e'
   obtain⟨its,r,pl,hz⟩:=I.tuple hx
   have hlen:=r.length
   exact truthy_tuple pl (by simp only [MT]; omega) ⟨H,I.tok _,by rw [rp r]; exact q⟩
  ·subst e'
   obtain⟨hz,hS,vs,r,m⟩:kvs.length<=Qu/\(p==sysModules)=false/\∃ vs,KV kvs vs/\s.heap.DictOf (cw X.prog X.w) p vs:=I.hok p _ hx
   have hlen:kvs.length=vs.length:=Paired.length r
   exact wpAny_truthy_dict hS m ‹0› ⟨H,I.tok _,by rw [xK r]; exact q⟩
 | _=>exact(show False from e).elim
theorem C0 (ha:PE X a ta) (he:∀ whole,isTrue a X.env whole=(do let v <- whole; standAt a.pos; holding [v] (truthy v))) :
  PT X a (fun σ H Q=>ta σ H fun x H'=>∃ k,IT X.K x H' k/\Q k H'):=by
 intro pins s σ H Q I h
 exact isTrue_plain (dX (ha pins s σ H _ I h) fun v s1 ⟨x,H1,I1,r1,q1⟩=>GB pins s1 σ H1 x v Q I1 r1 q1) (he _)

theorem x8:jr X (QN .Add) (fun x y H Q=>∃ i j,x=.str i/\y=.str j/\i.length+j.length<=Qu/\Q (.str (i++j)) H):=by
 intro pins s σ H x y v u Q I rx ry h
 obtain⟨i,j,rfl,rfl,hz,q⟩:=h
 obtain⟨t,rfl⟩:=rx
 obtain⟨t',rfl⟩:=ry
 exact add_str (fun t' tk=>⟨.str (i++j),H,I.tok _,⟨_,rfl⟩,q⟩) hz
theorem vals1 {x:V} {us:List Qo} (r:Vals [x] us):∃ u,us=[u]/\RelV x u:=by
 cases r with
 | cons r1 r2=>cases r2; exact⟨_,rfl,r1⟩
theorem vals2 {x y:V} {us:List Qo} (r:Vals [x,y] us):∃ u w',us=[u,w']/\RelV x u/\RelV y w':=by
 cases r with
 | cons r1 r2 =>
  cases r2 with
  | cons r3 r4=>cases r4; exact⟨_,_,rfl,r1,r3⟩
theorem A8 (hc:X.calm=true):dW X (.builtin "max") (fun xs H Q=>∃ i j,xs=[.int i,.int j]/\Q (.int (if j > i then j else i)) H):=by
 intro pins s σ H xs us Q I r h
 obtain⟨i,j,rfl,q⟩:=h
 obtain⟨u,w',rfl,⟨t,rfl⟩,⟨t',rfl⟩⟩:=vals2 r
 refine max_two_ints (I.ok.hd hc) fun h' tk k=>⟨_,H,I.kept k,?_,q⟩
 by_cases hj:j > i
 ·rw [if_pos hj,if_pos hj]; exact⟨_,rfl⟩
 ·rw [if_neg hj,if_neg hj]; exact⟨_,rfl⟩
theorem Am (hc:X.calm=true):dW X (.builtin "min") (fun xs H Q=>∃ i j,xs=[.int i,.int j]/\Q (.int (if j < i then j else i)) H):=by
 intro pins s σ H xs us Q I r h
 obtain⟨i,j,rfl,q⟩:=h
 obtain⟨u,w',rfl,⟨t,rfl⟩,⟨t',rfl⟩⟩:=vals2 r
 refine min_two_ints (I.ok.hd hc) fun h' tk k=>⟨_,H,I.kept k,?_,q⟩
 by_cases hj:j < i
 ·rw [if_pos hj,if_pos hj]; exact⟨_,rfl⟩
 ·rw [if_neg hj,if_neg hj]; exact⟨_,rfl⟩
theorem tW:dW X (.type "int") (fun xs H Q=>(∃ i,xs=[.int i]/\Q (.int i) H)\/∃ k,xs=[.bl k]/\Q (.int (if k then 1 else 0)) H):=by
 intro pins s σ H xs us Q I r h
 rcases h with ⟨i,rfl,q⟩ | ⟨k,rfl,q⟩
 ·obtain⟨u,rfl,t,rfl⟩:=vals1 r
  exact call_int_int ⟨.int i,H,I,⟨_,rfl⟩,q⟩
 ·obtain⟨u,rfl,r1⟩:=vals1 r
  cases r1
  exact call_int_bool ⟨.int (if k then 1 else 0),H,I.tok _,⟨_,rfl⟩,q⟩
theorem vy:dW X (.type "str") (fun xs H Q=>∃ i,xs=[.int i]/\i.natAbs.log2 < 1920/\Q (.str (toString i)) H):=by
 intro pins s σ H xs us Q I r h
 obtain⟨i,rfl,hz,q⟩:=h
 obtain⟨u,rfl,t,rfl⟩:=vals1 r
 exact PySem.P.str_of_int hz ⟨.str _,H,I.tok _,⟨_,rfl⟩,q⟩
end
end L2

namespace L2
open PySem PySem.Spec PyProof.Rows

structure A1 (h:Qt) (x dx C:Qr) (mA:Str->Option Qo):Prop where
 obj:h.get? x=some (Pg C dx)
 ns:h.Ns1 dx mA
 ne:dx≠x

theorem AA {h:Qt} {dx:Qr} {mA:Str->Option Qo} (n:h.Ns1 dx mA):∃ od,h.get? dx=some od/\∀ name,Pk name od=some (mA name):=by
 obtain⟨o,es,ep,ho,hd,hk,_,hm⟩:=n
 refine⟨o,ho,fun name=>?_⟩
 have e:=hm name
 unfold nsFind findBy at e
 rw [<- Array.find?_toList] at e
 unfold Pk
 rw [hd]
 dsimp only
 split
 ·rename_i y q
  rw [q] at e
  exact congrArg some e
 ·rename_i q
  rw [q] at e
  have a:es.toList.any (·.refKey)=false:=by
   rw [List.any_eq_false]
   intro y hy
   obtain⟨z,t,hkey⟩:=hk y (Array.mem_toList_iff.mp hy)
   simp [DictEntry.refKey,hkey]
  have a':¬ es.toList.any (·.refKey)=true:=by rw [a]; exact MU
  rw [if_neg a']
  exact congrArg some e

theorem A1.look {h:Qt} {x dx C:Qr} {mA:Str->Option Qo} (I:A1 h x dx C mA):∃ od,PySem.W.InstAt h x (Pg C dx) C (some od)/\∀ name,Pk name od=some (mA name) :=
 let ⟨od,ho,hl⟩:=AA I.ns
 ⟨od,⟨I.obj,rfl,rfl,ho⟩,hl⟩

section
variable {prog:Qq} {w:Qp} {A:Qx} {E:Qo->Qy->Prop} {s:Qy} {K:Pj} {x dx C f:Qr} {mA:Str->Option Qo} {name:Str} {v:Qo}

theorem D7 {expr:Bool} {Q:Qo->Qy->Prop} (X:K.In s.heap) (I:A1 s.heap x dx C mA) (hg:Pl K C name=true) (hh:Pm K C=true)
  (ha:Pn K (.ref C) name=some none) (hv:mA name=some v) (hv':Pp v=true) (h:Q v { s with toks:=s.toks+1 }) :
  QA (model prog w) A (getAttr (.ref x) name expr) Q E s:=by
 obtain⟨od,J,hl⟩:=I.look
 exact PySem.W.get_value X J (Pq hg).1 (PySem.W.findObj_own hh ha rfl (by rw [hl,hv])) hv' h

theorem Cy {pl:Sem Bool} {Q:Qo×List Qo->Qy->Prop} (X:K.In s.heap) (I:A1 s.heap x dx C mA) (hg:Pl K C name=true)
  (hf:Pn K (.ref C) name=some (some (.ref f))) (ht:Pr K (.ref f)=true) (hv:mA name=none) (h:Q (.ref f,[.ref x]) s) :
  QA (model prog w) A (getMethod (.ref x) name pl) Q E s:=by
 obtain⟨od,J,hl⟩:=I.look
 exact PySem.W.method_fn X J (Pq hg).1 (Pq hg).2 hf (beq_iff_eq.mp ht) (by show (Pk name od).map (·.isSome)=some false; rw [hl,hv]; rfl) h

theorem EB {ns:List Str} {Q:Unit->Qy->Prop} (X:K.In s.heap) (I:A1 s.heap x dx C mA)
  (hs:Pn K (.ref C) "__setattr__"=some (some (.builtin "object.__setattr__"))) (hp:Pt K C=true) (ht:Pu K C name=some none) (hh:Pm K C=true)
  (hw:PySem.Within mA ns) (hsz:ns.length<=Qu)
  (h:∀ h',A1 h' x dx C (fun y=>if y=name then some v else mA y)->PY dx s.heap h'->Q () { s with heap:=h',toks:=s.toks+2 }) :
  QA (model prog w) A (setAttr (.ref x) name v) Q E s:=by
 obtain⟨od,J,hl⟩:=I.look
 refine PySem.W.set_plain X J hs (PySem.W.osa_open (s:={ s with toks:=s.toks+1 }) (r:=none) X J hp ht fun b=>?_)
 obtain⟨cd,hc,hd'⟩:=PySem.W.any_some hh
 have hx:s.heap.get? x=some ⟨.ref C,some dx,.plain,#[]⟩:=I.obj
 refine QI (QH (QI (QI (wpAny_loadPart hx (QI (PySem.W.Looks.here (s:={ s with toks:=s.toks+1 }) (PySem.W.looks_clsIn X hc) ?_))))))
 rw [hd']
 refine QH (a:=some dx) (QI (QH (QI ?_)))
 refine wpAny_nsSet1 (s:={ s with toks:=s.toks+1 }) I.ns fun h' hn2 hs2=>?_
 obtain⟨oD,esD,epD,hoD,hdD,hcD⟩:=hn2.count (PySem.Within.cons name v hw)
 refine QI (wpAny_lookBehind hoD (by rw [hdD]; exact pastItsLine_dict (MG hcD (by rw [MV]; omega))) ?_)
 exact QH (h _ ⟨(hs2.2 _ (Ne.symm I.ne)).trans I.obj,hn2,I.ne⟩ hs2)

theorem BZ {R:QS->Qy->Prop} {vs:List Qo} {kw:List (Str×Qo)} (X:K.In s.heap) (hm:Pw K C=true)
  (hi:Pn K (.ref C) "__init__"=some (some (.ref f))) (hf:PySem.W.typeIn K (.ref f)=some (.type "function"))
  (h:QT (model prog w) (A.under (.builtin "type.__call__" ⟨.ref C::vs,kw⟩)) (.call (.ref f) ⟨.ref (s.heap.objs.size+1)::vs,kw⟩) (PySem.W.InitBack (s.heap.objs.size+1) R)
   { s with heap:=(s.heap.push Px).push (Pg C s.heap.objs.size) }) :
  QT (model prog w) A (.call (.ref C) ⟨vs,kw⟩) R s:=by
 obtain⟨hh,g,d,t,os⟩:=s
 exact PySem.W.make_core (PySem.W.makes_of X hm) (PySem.W.looks_findIn X hi) (fun self=>PySem.W.bind_fn X self hf) (.inl rfl) h
end

def kY (f:Str) (v:V):List (Str×V)->List (Str×V)
 | []=>[(f,v)]
 | (g,x)::r=>if g=f then (g,v)::r else (g,x)::kY f v r
theorem pR (f g:Str) (v:V):∀ fs:List (Str×V),(kY f v fs).lookup g=if g=f then some v else fs.lookup g
 | []=>by
  show List.lookup g [(f,v)]=_
  by_cases h:g=f
  ·have hb:(g==f)=true:=beq_iff_eq.mpr h
   simp only [List.lookup,hb,if_pos h]
  ·have hb:(g==f)=false:=beq_eq_false_iff_ne.mpr h
   simp only [List.lookup,hb,if_neg h]
 | (k,x)::r=>by
  have ih:=pR f g v r
  rw [show kY f v ((k,x)::r)=(if k=f then (k,v)::r else (k,x)::kY f v r) from rfl]
  by_cases hk:k=f
  ·rw [if_pos hk]
   by_cases h:g=k
   ·have hb:(g==k)=true:=beq_iff_eq.mpr h
    simp only [List.lookup,hb,if_pos (h.trans hk)]
   ·have hb:(g==k)=false:=beq_eq_false_iff_ne.mpr h
    simp only [List.lookup,hb,if_neg (fun e:g=f=>h (e.trans hk.symm))]
  ·rw [if_neg hk]
   by_cases h:g=k
   ·have hb:(g==k)=true:=beq_iff_eq.mpr h
    simp only [List.lookup,hb,if_neg (fun e:g=f=>hk (h.symm.trans e))]
   ·have hb:(g==k)=false:=beq_eq_false_iff_ne.mpr h
    simp only [List.lookup,hb]
    exact ih
theorem oE (f:Str) (v:V):∀ fs:List (Str×V),f∈(kY f v fs).map (·.1)/\∀ g,g∈fs.map (·.1)->g∈(kY f v fs).map (·.1)
 | []=>⟨by simp [kY],fun g h=>by simp at h⟩
 | (k,x)::r=>by
  obtain⟨i1,i2⟩:=oE f v r
  rw [show kY f v ((k,x)::r)=(if k=f then (k,v)::r else (k,x)::kY f v r) from rfl]
  by_cases hk:k=f
  ·rw [if_pos hk]
   subst hk
   exact⟨by simp,fun g h=>by simpa using h⟩
  ·rw [if_neg hk]
   refine⟨?_,fun g h=>?_⟩
   ·rw [MX]
    exact MK _ i1
   ·rw [MX] at h ⊢
    rcases List.mem_cons.mp h with e | e
    ·exact List.mem_cons.mpr (.inl e)
    ·exact MK _ (i2 g e)
theorem pK (f:Str) (v:V):∀ fs:List (Str×V),(kY f v fs).length<=fs.length+1
 | []=>by simp [kY]
 | (k,x)::r=>by
  have ih:=pK f v r
  rw [show kY f v ((k,x)::r)=(if k=f then (k,v)::r else (k,x)::kY f v r) from rfl]
  by_cases hk:k=f
  ·rw [if_pos hk,MV,MV]; omega
  ·rw [if_neg hk,MV,MV]; omega

theorem rQ.some_of {v:V} {o:Option Qo} (r:rQ (some v) o):∃ u,o=some u/\RelV v u:=by
 cases o with
 | none=>exact(show False from r).elim
 | some u=>exact⟨u,rfl,r⟩
theorem rQ.none_of {o:Option Qo} (r:rQ none o):o=none:=by
 cases o with
 | none=>rfl
 | some u=>exact(show False from r).elim
theorem Bh {v:V} {u:Qo} (r:RelV v u):Pp u=true:=by
 cases v with
 | non=>cases (show u=Value.none from r); rfl
 | bl b=>cases (show u=Value.bool b from r); rfl
 | int i=>obtain⟨t,e⟩:=(show ∃ t,u=Value.int i t from r); cases e; rfl
 | str x=>obtain⟨t,e⟩:=(show ∃ t,u=Value.str x t from r); cases e; rfl
 | byt b=>obtain⟨t,e⟩:=(show ∃ t,u=Value.bytes b t from r); cases e; rfl
 | flt b=>obtain⟨t,e⟩:=(show ∃ t,u=Value.float b t from r); cases e; rfl
 | ref a=>cases (show u=Value.ref a from r); rfl
 | ty n=>cases (show u=Value.type n from r); rfl

section
variable {P:Qq} {w:Qp} {H H':Hp} {h h':Qt} {a C dx:Qr} {fs fs':List (Str×V)}
theorem vx (hok:oO P w H h) (e:H a=some (.ins C dx fs)):∃ mA,A1 h a dx C mA/\(∀ f,rQ (fs.lookup f) (mA f))/\PySem.Within mA (fs.map (·.1))/\fs.length<=1000/\H dx=some (.own a):=by
 obtain⟨d,z,ne,ob,mA,n,r,q⟩:=(show dm P w H h a (.ins C dx fs) from hok a _ e)
 exact⟨mA,⟨ob,n,ne⟩,r,q,z,d⟩
end

structure ye (K:Pj) (C:Qr):Prop where
 pg:Pl K C Str.empty=true
 hd:Pm K C=true
 po:Pt K C=true
 sa:Pn K (.ref C) "__setattr__"=some (some (.builtin "object.__setattr__"))
theorem ye.get {K:Pj} {C:Qr} (c:ye K C) (f:Str):Pl K C f=true:=c.pg
def j3 (K:Pj) (C:Qr) (f:Str):Prop:=Pn K (.ref C) f=some none
theorem j3.taker {K:Pj} {C:Qr} {f:Str} (n:j3 K C f):Pu K C f=some none:=by
 unfold Pu
 rw [show Pn K (.ref C) f=some none from n]
 rfl
structure Meth (K:Pj) (C:Qr) (m:Str) (f:Qr):Prop where
 at_:Pn K (.ref C) m=some (some (.ref f))
 fn:Pr K (.ref f)=true
 kp:Py K (.ref f)=true

section
variable {X:Cx} {pins:List (Qr×Obj)} {σ:St} {H:Hp} {s:Qy} {a C dx:Qr} {fs:List (Str×V)} {f:Str} {v:V} {A:Qx} {E:Qo->Qy->Prop}

theorem xW {b:Bool} {Q:Qo->Qy->Prop} (I:Inv X pins σ H s) (e:H a=some (.ins C dx fs)) (c:ye X.K C) (n:j3 X.K C f) (l:fs.lookup f=some v)
  (h:∀ u s',Inv X pins σ H s'->RelV v u->Q u s'):QA (model X.prog X.w) A (getAttr (.ref a) f b) Q E s:=by
 obtain⟨mA,O,r,_,_,_⟩:=vx I.hok e
 obtain⟨u,hu,ru⟩:=rQ.some_of (v:=v) (o:=mA f) (by rw [<- l]; exact r f)
 exact D7 I.kIn O (c.get f) c.hd n hu (Bh ru) (h u _ (I.tok _) ru)

theorem ya {m:Str} {g:Qr} {pl:Sem Bool} {Q:Qo×List Qo->Qy->Prop} (I:Inv X pins σ H s) (e:H a=some (.ins C dx fs)) (c:ye X.K C) (k:Meth X.K C m g) (l:fs.lookup m=none)
  (h:Q (.ref g,[.ref a]) s):QA (model X.prog X.w) A (getMethod (.ref a) m pl) Q E s:=by
 obtain⟨mA,O,r,_,_,_⟩:=vx I.hok e
 have hn:mA m=none:=rQ.none_of (by rw [<- l]; exact r m)
 exact Cy I.kIn O (c.get m) k.at_ k.fn hn h

theorem ym {y:V} {u:Qo} {Q:Unit->Qy->Prop} (I:Inv X pins σ H s) (e:H a=some (.ins C dx fs)) (c:ye X.K C) (n:j3 X.K C f) (hl:fs.length < 1000) (ry:RelV y u)
  (h:∀ s',Inv X pins σ (upd H a (.ins C dx (kY f y fs))) s'->Q () s'):QA (model X.prog X.w) A (setAttr (.ref a) f u) Q E s:=by
 obtain⟨mA,O,r,wi,_,ho⟩:=vx I.hok e
 have hz:(fs.map (·.1)).length<=Qu:=by rw [MY,QR]; omega
 refine EB I.kIn O c.sa c.po n.taker c.hd wi hz fun h' O' sb=>h _ ?_
 have hd:∃ o,h'.get? dx=some o:=let ⟨o,_,_,e',_⟩:=O'.ns; ⟨o,e'⟩
 refine I.write (x:=a) (e:=dx) (by rw [e]; exact True.intro) (.inr ho) (fun b q hb z=>(sb.2 b hb).trans z) hd ?_
 refine⟨by rw [aJ O.ne]; exact ho,?_,O.ne,O'.obj,_,O'.ns,fun g=>?_,fun g hg=>?_⟩
 ·have:=pK f y fs; omega
 ·show rQ ((kY f y fs).lookup g) (if g=f then some u else mA g)
  rw [pR]
  by_cases q:g=f
  ·rw [if_pos q,if_pos q]; exact ry
  ·rw [if_neg q,if_neg q]; exact r g
 ·by_cases q:g=f
  ·rw [q]; exact(oE f y fs).1
  ·refine(oE f y fs).2 g (wi g fun z=>hg ?_)
   show (if g=f then some u else mA g)=none
   rw [if_neg q]; exact z

theorem Inv.made (I:Inv X pins σ H s):Inv X pins σ (upd (upd H s.heap.objs.size (.own (s.heap.objs.size+1))) (s.heap.objs.size+1) (.ins C s.heap.objs.size []))
  { s with heap:=(s.heap.push Px).push (Pg C s.heap.objs.size) }:=by
 have e1:(s.heap.push Px).get? s.heap.objs.size=some Px:=P0 s.heap rfl
 have e2:((s.heap.push Px).push (Pg C s.heap.objs.size)).get? (s.heap.objs.size+1)=some (Pg C s.heap.objs.size):=by
  have:=P0 (s.heap.push Px) (o:=Pg C s.heap.objs.size) rfl
  rwa [P4] at this
 have e3:(s.heap.push Px).Ns s.heap.objs.size (fun _=>none):=⟨Px,#[],_,e1,rfl,(fun e he=>absurd he (by simp)),fun _=>rfl⟩
 have I1:=I.laid (a:=s.heap.objs.size) (o:=.own (s.heap.objs.size+1)) (h':=s.heap.push Px) (t':=s.toks) (fun b u q=>PZ _ q) (MP _) ⟨_,e1⟩
 refine I1.laid (a:=s.heap.objs.size+1) (o:=.ins C s.heap.objs.size []) (t':=s.toks) (fun b u q=>PZ _ q) (MZ (P4 _ _)) ?_
 have ne:s.heap.objs.size≠s.heap.objs.size+1:=MF (Nat.lt_succ_self _)
 refine⟨by rw [aJ ne,bb],M0 _,ne,e2,fun _=>none,(Heap.Ns1.of_empty e3).at fun o q=>PZ _ q,fun _=>True.intro,fun y hy=>absurd rfl hy⟩

theorem D9 {prog:Qq} {w:Qp} {env:Env} {e:QB} {f:Str} {pos:Pos} {s:Qy} {Q:Qo->Qy->Prop} (hb:QU e f env (eval e env)=eval e env)
  (h:QA (model prog w) A (eval e env) (fun o s₁=>QA (model prog w) A (getAttr o f true) Q E s₁) E s):QA (model prog w) A (eval (.Attribute e f pos) env) Q E s :=
 Attribute_any_ h (by rw [arm_eval_Attribute,hb])
end

def Lw (K:Pj) (ta:TE) (f:Str):TE:=fun σ H Q=>ta σ H fun x H1=>∃ a C dx fs v,x=.ref a/\H1 a=some (.ins C dx fs)/\ye K C/\j3 K C f/\fs.lookup f=some v/\Q v H1
def Le (K:Pj) (ta tv:TE) (f:Str):TS:=fun D σ H=>tv σ H fun y H1=>ta σ H1 fun x H2=>∃ a C dx fs,x=.ref a/\H2 a=some (.ins C dx fs)/\ye K C/\j3 K C f/\fs.length < 1000 /\
 D.nx σ (upd H2 a (.ins C dx (kY f y fs)))
section
variable {X:Cx} {o e value:QB} {f:Str} {pos pos' tpos:Pos} {ta tv:TE}
theorem Hf (he:PE X e ta) (hb:QU e f X.env (eval e X.env)=eval e X.env):PE X (.Attribute e f pos) (Lw X.K ta f):=by
 intro pins s σ H Q I h
 refine D9 hb (dX (he pins s σ H _ I h) fun u s1 ⟨x,H1,I1,rx,a,C,dx,fs,v,ex,ea,c,n,l,q⟩=>?_)
 subst ex
 obtain rfl:u=Value.ref a:=rx
 exact xW I1 ea c n l fun u' s2 I2 ru=>⟨v,H1,I2,ru,q⟩
theorem CB (ha:PE X o ta) (hv:PE X value tv) (hs:swapsWith value (some (.Attribute o f pos')) pos.line X.env=pure false):PS X (.Assign [.Attribute o f pos'] value pos) (Le X.K ta tv f):=by
 intro pins s σ H D I h
 refine plainObj_wpAny_Assign_Attribute (dX (hv pins s σ H _ I h) fun u s1 ⟨y,H1,I1,ry,q⟩=>dX (ha pins s1 σ H1 _ I1 q) fun ov s2 ⟨x,H2,I2,rx,a,C,dx,fs,ex,ea,c,n,l,q2⟩=>?_) hs
 subst ex
 obtain rfl:ov=Value.ref a:=rx
 exact ym I2 ea c n l ry fun s3 I3=>⟨σ,_,I3,q2⟩
theorem xG {pl:Sem Bool} {m:Str} {apos:Pos} {args:List QB} {pins:List (Qr×Obj)} {s:Qy} {σ:St} {H:Hp} {Q:Qo->Qy->Prop} {te:TE} (he:PE X e te) (I:Inv X pins σ H s)
  (h:te σ H fun x H1=>∃ a C dx fs g,x=.ref a/\H1 a=some (.ins C dx fs)/\ye X.K C/\Meth X.K C m g/\fs.lookup m=none /\
   ∀ s1,Inv X pins σ H1 s1->QA (model X.prog X.w) X.A (QV pos (.ref g) [.ref a] (backTo pos (QC args X.env)) (backToKw pos (QW [] X.env))) Q X.xe s1)
  (ht:eval (.Call (.Attribute e m apos) args [] pos) X.env=(do
   let ov <- eval e X.env
   standAt apos.atName
   let (f,first) <- holding [ov] (getMethod ov m pl)
   QV pos f first (backTo pos (QC args X.env)) (backToKw pos (QW [] X.env)))) :
  QA (model X.prog X.w) X.A (eval (.Call (.Attribute e m apos) args [] pos) X.env) Q X.xe s:=by
 refine PySem.W.methodCall_KW (pl:=pl) (dX (he pins s σ H _ I h) fun u s1 ⟨x,H1,I1,rx,a,C,dx,fs,g,ex,ea,c,k,l,q⟩=>?_) ht
 subst ex
 obtain rfl:u=Value.ref a:=rx
 exact ya I1 ea c k l (q s1 I1)
end

end L2

namespace L2
open PySem PySem.Spec PyProof.Rows

structure fZ (k:Nat) (A:Qx):Prop where
 hd:A.handled=none
 dp:A.depth+3*k+5 < recursionLimit
 un:A.units+16*k+200 < QX
theorem fZ.mono {j k:Nat} {A:Qx} (r:fZ k A) (h:j<=k):fZ j A:=⟨r.hd,by have:=r.dp; omega,by have:=r.un; omega⟩
theorem fZ.deeper {k:Nat} {A:Qx} (r:fZ (k+1) A) (env:Env):fZ k (A.deeper env) :=
 ⟨r.hd,by have:=r.dp; show A.depth+1+3*k+5 < _; omega,by have:=r.un; show A.units+3+16*k+200 < _; omega⟩
theorem x3 {A:Qx} {C:Qr} {us:List Qo} {kw:List (Str×Qo)}:(A.under (.builtin "type.__call__" ⟨.ref C::us,kw⟩)).depth=A.depth+1:=by
 first | rfl | simp [Around.under,Code.weight,Code.isCreation,Code.isGuard,Code.isCaller,Code.frames,Code.isFrame,guardIds]
theorem xV {A:Qx} {C:Qr} {us:List Qo} {kw:List (Str×Qo)}:(A.under (.builtin "type.__call__" ⟨.ref C::us,kw⟩)).units=A.units+1:=by
 first | rfl | simp [Around.under,Code.cUnits,Code.frames,Code.isFrame]
theorem fZ.make {k:Nat} {A:Qx} (r:fZ (k+1) A) (C:Qr) (us:List Qo) (kw:List (Str×Qo)):fZ k (A.under (.builtin "type.__call__" ⟨.ref C::us,kw⟩)) :=
 ⟨r.hd,by have:=r.dp; rw [x3]; omega,by have:=r.un; rw [xV]; omega⟩
theorem fZ.depth {k:Nat} {A:Qx} (r:fZ k A):A.depth < recursionLimit:=by have:=r.dp; omega
theorem fZ.units {k:Nat} {A:Qx} (r:fZ k A):A.units+64 < QX:=by have:=r.un; omega
def Io:TA:=fun _ H Q=>Q [] H
def EX (ta:TE) (tr:TA):TA:=fun σ H Q=>ta σ H fun x H1=>tr σ H1 fun xs H2=>Q (x::xs) H2
section
variable {X:Cx} {e:QB} {es:List QB} {te:TE} {t:TA} {pos:Pos}
theorem oN:PA X [] Io:=fun _ _ _ _ H Q I h=>Calls.spliced_nil ⟨[],H,I,.nil,h⟩
theorem ku (ha:PE X e te) (hr:PA X es t) (hs:QC (e::es) X.env=(false,eval e X.env)::QC es X.env:=by rfl):PA X (e::es) (EX te t):=by
 intro pos pins s σ H Q I h
 rw [hs]
 show QA _ _ (spliced ((false,eval e X.env)::backTo pos (QC es X.env))) _ _ s
 refine Calls.spliced_cons (dX (ha pins s σ H _ I h) fun u s1 ⟨x,H1,I1,r1,q1⟩=>?_)
 exact dX (hr pos pins s1 σ H1 _ I1 q1) fun us s2 ⟨xs,H2,I2,r2,q2⟩=>⟨x::xs,H2,I2,.cons r1 r2,q2⟩

def Kv (t:TA):TE:=fun σ H Q=>t σ H fun xs H1=>xs.length<=Qu/\∀ p,H1 p=none->Q (.ref p) (upd H1 p (.tup xs))
def Ki (t:TA):TE:=fun σ H Q=>t σ H fun xs H1=>xs.length<=Qu/\∀ p,H1 p=none->Q (.ref p) (upd H1 p (.lst xs))
theorem Gj {x1} (h:PA X es t):PE X (.Tuple es x1 pos) (Kv t):=by
 intro pins s σ H Q I hq
 refine wpAny_Tuple_spliced (dX (h pos pins s σ H _ I hq) fun us s1 ⟨xs,H1,I1,r,z,q⟩=>⟨by rw [<- r.length]; exact z,?_⟩)
 have hf:H1 s1.heap.objs.size=none:=I1.hok.fresh (MP _)
 refine⟨.ref s1.heap.objs.size,upd H1 s1.heap.objs.size (.tup xs),I1.laid (t':=s1.toks) (fun b u e=>PZ _ e) (MP _) ?_,rfl,q _ hf⟩
 exact⟨z,us,r,⟨_,P0 _ rfl,rfl,_,rfl⟩⟩
theorem yI (h:PA X es t):PE X (.List es pos) (Ki t):=by
 intro pins s σ H Q I hq
 refine wpAny_List_spliced (dX (h pos pins s σ H _ I hq) fun us s1 ⟨xs,H1,I1,r,z,q⟩=>⟨by rw [<- r.length]; exact z,?_⟩)
 have hf:H1 s1.heap.objs.size=none:=I1.hok.fresh (MP _)
 refine⟨.ref s1.heap.objs.size,upd H1 s1.heap.objs.size (.lst xs),I1.laid (t':=s1.toks) (fun b u e=>PZ _ e) (MP _) ?_,rfl,q _ hf⟩
 exact⟨z,us,0,r,P0 _ rfl⟩
end

abbrev Sp:=List V->Hp->VK->XK->Prop
abbrev xJ:=List Env->Hp->Qy->XK->Qo->Qy->Prop

structure Ai (P:Qq) (w:Qp) (K:Pj) (mg:Str->Option Qo) (base:Qt) (A:Qx) (outer:List Env) (s:Qy) (H:Hp):Prop where
 frames:A.frames=some outer
 mod:Mod K mg base
 bs:∀ b o,base.get? b=some o->s.heap.get? b=some o/\H b=none
 bsz:base.objs.size<=s.heap.objs.size
 funs:s.heap.FunFrames base outer
 frf:∀ b∈frs outer,H b=none
 hok:oO P w H s.heap
 bare:AllBare s.gens
def CE (outer:List Env) (P:Qq) (w:Qp) (H:Hp) (s:Qy) (Q:VK) (u:Qo) (s':Qy):Prop :=
 ∃ v H',s'.os=s.os/\AllBare s'.gens/\Un (frs outer) [] H H' s.heap s'.heap/\oO P w H' s'.heap/\RelV v u/\Q v H'
def CR (CX:xJ) (outer:List Env) (P:Qq) (w:Qp) (H:Hp) (s:Qy) (Q:VK) (E:XK) (r:QS) (s':Qy):Prop :=
 match r with
 | .ok (.ret u)=>CE outer P w H s Q u s'
 | .ok _=>False
 | .error e=>CX outer H s E e s'
structure jp (P:Qq) (w:Qp) (K:Pj) (mg:Str->Option Qo) (base:Qt) (CX:xJ) (k:Nat) (f:Qr) (fd:QY) (ps:List Str) (sp:Sp):Prop where
 len:∀ vs H Q E,sp vs H Q E->vs.length=ps.length
 run:∀ (A:Qx) (outer:List Env) (s:Qy) (H:Hp) (args:Args) (us:List Qo) (vs:List V) (Q:VK) (E:XK),fZ k A->Ai P w K mg base A outer s H->QZ s fd args (ps.zip us)->Vals vs us->sp vs H Q E ->
  QT (model P w) A (.call (.ref f) args) (CR CX outer P w H s Q E) s
theorem jp.mono {P:Qq} {w:Qp} {K:Pj} {mg:Str->Option Qo} {base:Qt} {CX:xJ} {j k:Nat} {f:Qr} {fd:QY} {ps:List Str} {sp:Sp} (F:jp P w K mg base CX j f fd ps sp) (h:j<=k) :
  jp P w K mg base CX k f fd ps sp:=⟨F.len,fun A outer s H args us vs Q E hr=>F.run A outer s H args us vs Q E (hr.mono h)⟩
theorem Ai.make {P:Qq} {w:Qp} {K:Pj} {mg:Str->Option Qo} {base:Qt} {A:Qx} {outer:List Env} {s:Qy} {H:Hp} (e:Ai P w K mg base A outer s H) (C:Qr) (us:List Qo) (kw:List (Str×Qo)) :
  Ai P w K mg base (A.under (.builtin "type.__call__" ⟨.ref C::us,kw⟩)) outer s H:=⟨by first | exact e.frames | (simpa [Around.under,Code.envs,Code.isFrame,pushEnvs] using e.frames),e.mod,e.bs,e.bsz,e.funs,e.frf,e.hok,e.bare⟩
section
variable {X:Cx} {pins:List (Qr×Obj)} {σ:St} {H:Hp} {s s':Qy}
theorem Inv.env0 (I:Inv X pins σ H s):Ai X.prog X.w X.K X.mg X.base X.A X.stack s H :=
 ⟨I.ok.frames,I.ok.mod,I.bs,MG I.ok.bsz I.sz,I.stack,I.stkFree,I.hok,I.bare⟩
theorem Inv.after {Q:VK} {u:Qo} (I:Inv X pins σ H s) (h:CE X.stack X.prog X.w H s Q u s'):EP X pins σ Q u s':=by
 obtain⟨v,H',os,bare,un,hok,r,q⟩:=h
 obtain⟨hh,g,d,t,os'⟩:=s'
 obtain rfl:os'=s.os:=os
 exact⟨v,H',I.call (h':=hh) (g':=g) (d':=d) (t':=t) (ch:=[]) un hok bare (fun b z=>absurd z (by simp)),r,q⟩
end

def IV (C:Qr) (sp:Sp) (dvs:List V) (E:XK) (t:TA):TE:=fun σ H Q=>t σ H fun vs H1=>∀ x dx,H1 x=none->H1 dx=none->dx≠x ->
 sp (.ref x::(vs++dvs)) (upd (upd H1 dx (.own x)) x (.ins C dx [])) (fun v H2=>v=.non/\Q (.ref x) H2) E

def Binds (K:Pj) (fd:QY) (ps:List Str) (ds:List Qo):Prop :=
 ∀ (s:Qy) (us:List Qo),K.In s.heap->(us++ds).length=ps.length->QZ s fd ⟨us,[]⟩ (ps.zip (us++ds))
theorem Binds.all {K:Pj} {fd:QY} {ps:List Str} (h:∀ us:List Qo,us.length=ps.length->bindArgs fd ⟨us,[]⟩=pure (ps.zip us)):Binds K fd ps []:=fun s us _ hl=>by
 rw [M1] at hl ⊢
 exact .of_eq (h us hl)

def yj (CX:xJ) (X:Cx) (E:XK):Prop:=∀ (pins:List (Qr×Obj)) (σ:St) (H:Hp) (s:Qy) (e:Qo) (s':Qy),Inv X pins σ H s->CX X.stack H s E e s'->X.xe e s'

section
variable {X:Cx} {CX:xJ} {k:Nat} {f C:Qr} {fd:QY} {ps:List Str} {sp:Sp} {dvs:List V} {ds:List Qo} {E:XK} {x m:Str} {p pos apos:Pos} {e o:QB} {es:List QB} {ta:TE} {t:TA}

structure Mk (K:Pj) (C f:Qr):Prop where
 makes:Pw K C=true
 init:Pn K (.ref C) "__init__"=some (some (.ref f))
 fn:Pr K (.ref f)=true
 kp:Py K (.ref C)=true

theorem BI {pins:List (Qr×Obj)} {σ:St} {H:Hp} {s:Qy} {Q:VK} {us:List Qo} {vs:List V} (M:Mk X.K C f) (F:jp X.prog X.w X.K X.mg X.base CX k f fd ps sp) (hr:fZ (k+1) X.A) (hb:Binds X.K fd ps ds) (hd:Vals dvs ds)
  (hx:yj CX X E) (I:Inv X pins σ H s) (r:Vals vs us)
  (h:∀ x dx,H x=none->H dx=none->dx≠x->sp (.ref x::(vs++dvs)) (upd (upd H dx (.own x)) x (.ins C dx [])) (fun v H2=>v=.non/\Q (.ref x) H2) E) :
  QA (model X.prog X.w) X.A (call (.ref C) us) (EP X pins σ Q) X.xe s:=by
 have hq:=h (s.heap.objs.size+1) s.heap.objs.size (I.hok.fresh (M2 _)) (I.hok.fresh (MP _)) (MF (Nat.lt_succ_self _))
 have I2:=Inv.made (C:=C) I
 have r2:Vals (V.ref (s.heap.objs.size+1)::(vs++dvs)) (Value.ref (s.heap.objs.size+1)::(us++ds)):=.cons rfl (r.append hd)
 have hl:(Value.ref (s.heap.objs.size+1)::us++ds).length=ps.length:=by
  have e:=r2.length
  rw [F.len _ _ _ _ hq] at e
  exact e.symm
 refine wpAny_call (BZ (f:=f) I.kIn M.makes M.init (beq_iff_eq.mp M.fn) (Q0 (F.run _ X.stack _ _ ⟨Value.ref (s.heap.objs.size+1)::us,[]⟩ (Value.ref (s.heap.objs.size+1)::(us++ds)) _ _ E (hr.make C us [])
  (I2.env0.make C us []) (hb _ (Value.ref (s.heap.objs.size+1)::us) I2.kIn hl) r2 hq) fun r s' hq'=>?_))
 cases r with
 | error e=>exact hx pins σ _ _ e s' I2 hq'
 | ok fl =>
  cases fl with
  | ret u =>
   obtain⟨v,H',I3,rv,ev,q3⟩:=I2.after hq'
   subst ev
   exact⟨rv,⟨V.ref (s.heap.objs.size+1),H',I3,rfl,q3⟩⟩
  | next=>exact False.elim hq'
  | brk=>exact False.elim hq'
  | cont=>exact False.elim hq'
theorem Dv (M:Mk X.K C f) (F:jp X.prog X.w X.K X.mg X.base CX k f fd ps sp) (hr:fZ (k+1) X.A) (hg:Gl X x) (hm:X.mg x=some (.ref C)) (hb:Binds X.K fd ps ds) (hd:Vals dvs ds) (hx:yj CX X E)
  (ha:PA X (e::es) t) (hdb:(x==("__debug__":Str))=false:=by decide) (he:QC (e::es) X.env=(false,eval e X.env)::QC es X.env:=by rfl) (hpl:(backTo pos (QC es X.env)).any (·.1)=false:=by rfl) :
  PE X (.Call (.Name x p) (e::es) [] pos) (IV C sp dvs E t):=by
 intro pins s σ H Q I h
 refine Q1 (u9 I hg hm ?_ hdb)
 refine Pz (h₀:=X.base) I.ok.mod.kin M.kp (dX (ha pos pins s σ H _ I h) fun us s1 ⟨vs,H1,I1,r,q⟩=>⟨I1.kIn,?_⟩) he hpl
 exact BI M F hr hb hd hx I1 r q
end

def PK (X:Cx) (kws:List Q2) (t:TA):Prop :=
 ∀ (pos:Pos) (pins:List (Qr×Obj)) (s:Qy) (σ:St) (H:Hp) (Q:List V->Hp->Prop),Inv X pins σ H s->t σ H Q->QA (model X.prog X.w) X.A (evalAll ((backToKw pos (QW kws X.env)).map (·.2))) (AP X pins σ Q) X.xe s
section
variable {X:Cx} {CX:xJ} {k:Nat} {f C:Qr} {fd:QY} {ps ks:List Str} {sp:Sp} {E:XK} {x m:Str} {p pos apos kpos:Pos} {e o:QB} {es:List QB} {kws:List Q2} {te ta:TE} {t tk:TA} {nm:Option Str}
theorem Gs:PK X [] Io:=fun _ _ _ _ H Q I h=>wpAny_evalAll_nil ⟨[],H,I,.nil,h⟩
theorem DY (ha:PE X e te) (hr:PK X kws t):PK X (⟨nm,e,kpos⟩::kws) (EX te t):=by
 intro pos pins s σ H Q I h
 show QA _ _ (evalAll ((do let v <- eval e X.env; standAt pos; pure v)::(backToKw pos (QW kws X.env)).map (·.2))) _ _ s
 refine wpAny_evalAll_cons (QI (dX (ha pins s σ H _ I h) fun u s1 ⟨x,H1,I1,r1,q1⟩=>QI (wpAny_standAt (QH ?_))))
 exact dX (hr pos pins s1 σ H1 _ I1 q1) fun us s2 ⟨xs,H2,I2,r2,q2⟩=>⟨x::xs,H2,I2,.cons r1 r2,q2⟩

variable {g:List Qo->List Qo->List Qo} {gV:List V->List V->List V}
end

structure bc (N P:List Str) (sc:Qz):Prop where
 kind:sc.kind=.function
 co:sc.isCoroutine=false
 gen:sc.isGenerator=false
 nd:N.Nodup
 pre:N.take P.length=P
 par:∀ x∈P,sc.names.lookup x=some .local\/sc.names.lookup x=some .cell
 nofree:∀ y∈sc.names,y.2≠.free

theorem uo {kindOf:Str->Option Q3} {x:Str}:∀ {binds:List (Str×Qo)} {m:Str->Option Qo},(∀ v,(x,v)∉binds)->bindL kindOf binds m x=m x
 | [],_,_=>rfl
 | (n,v)::r,m,h=>by
  unfold bindL
  rw [uo fun w hw=>h w (MK _ hw)]
  split
  ·have:x≠n:=by rintro rfl; exact h v MJ
   simp [this]
  ·rfl
theorem uz {kindOf:Str->Option Q3} {x:Str}:∀ {binds:List (Str×Qo)} {m:Str->Option Qo},(∀ v,(x,v)∉binds)->bindC kindOf binds m x=m x
 | [],_,_=>rfl
 | (n,v)::r,m,h=>by
  unfold bindC
  rw [uz fun w hw=>h w (MK _ hw)]
  split
  ·rfl
  ·have:x≠n:=by rintro rfl; exact h v MJ
   simp [this]
theorem tZ {kindOf:Str->Option Q3} {x:Str} {v:Qo}:∀ {P:List Str} {vs:List Qo} {i:Nat} {m:Str->Option Qo},P.Nodup->P[i]?=some x->vs[i]?=some v->kindOf x=some .local ->
  bindL kindOf (P.zip vs) m x=some v
 | [],_,_,_,_,h,_,_=>by simp at h
 | _::_,[],_,_,_,_,h,_=>by simp at h
 | p::P,w::vs,0,m,nd,h1,h2,hk=>by
  simp at h1 h2; subst h1; subst h2
  show bindL kindOf ((p,w)::P.zip vs) m p=_
  unfold bindL
  rw [uo fun v hv=>(List.nodup_cons.mp nd).1 (M3 hv).1,if_pos hk]
  simp
 | p::P,w::vs,i+1,m,nd,h1,h2,hk=>by
  show bindL kindOf ((p,w)::P.zip vs) m x=_
  unfold bindL
  exact tZ (i:=i) (List.nodup_cons.mp nd).2 (by simpa using h1) (by simpa using h2) hk
theorem tL {kindOf:Str->Option Q3} {x:Str} {v:Qo}:∀ {P:List Str} {vs:List Qo} {i:Nat} {m:Str->Option Qo},P.Nodup->P[i]?=some x->vs[i]?=some v->kindOf x≠some .local ->
  bindC kindOf (P.zip vs) m x=some v
 | [],_,_,_,_,h,_,_=>by simp at h
 | _::_,[],_,_,_,_,h,_=>by simp at h
 | p::P,w::vs,0,m,nd,h1,h2,hk=>by
  simp at h1 h2; subst h1; subst h2
  show bindC kindOf ((p,w)::P.zip vs) m p=_
  unfold bindC
  rw [uz fun v hv=>(List.nodup_cons.mp nd).1 (M3 hv).1,if_neg hk]
  simp
 | p::P,w::vs,i+1,m,nd,h1,h2,hk=>by
  show bindC kindOf ((p,w)::P.zip vs) m x=_
  unfold bindC
  exact tL (i:=i) (List.nodup_cons.mp nd).2 (by simpa using h1) (by simpa using h2) hk

def start (N:List Str) (vs:List V):St:=vs.map some++List.replicate (N.length - vs.length) none

def lu (CX:xJ) (P:Qq) (w:Qp) (K:Pj) (mg:Str->Option Qo) (base:Qt) (N:List Str) (qual:Str) (scope:Qz) (f:Qr) (cd:Qo) (A:Qx) (outer:List Env) (s:Qy) (H:Hp) (E:XK):Cx where
 prog:=P
 w:=w
 K:=K
 mg:=mg
 base:=base
 A:=A.deeper (envOfC qual scope s.heap.objs.size f cd)
 N:=N
 s₀:=s
 H₀:=H
 env:=envOfC qual scope s.heap.objs.size f cd
 outer:=outer
 stack:=envOfC qual scope s.heap.objs.size f cd::outer
 ex:=[]
 calm:=true
 fn:=fun _=>true
 pn:=[]
 xe:=fun e s'=>QA (model P w) (A.deeper (envOfC qual scope s.heap.objs.size f cd)) (leaving (envOfC qual scope s.heap.objs.size f cd) e) (fun _ s''=>CX outer H s E e s'') (fun e' s''=>CX outer H s E e' s'') s'

theorem wj {sc:Qz} {n:Nat} {x:Str} (h:sc.names.lookup x=some .cell):∃ c,(cellsFrom n sc.names []).lookup x=some c:=by
 have q:=PB sc.names n [] (.inl h)
 exact Option.isSome_iff_exists.mp q

theorem An {CX:xJ} {P:Qq} {w:Qp} {K:Pj} {mg:Str->Option Qo} {base:Qt} {N ps:List Str} {qual:Str} {scope:Qz} {f:Qr} {cd:Qo} {A:Qx} {outer:List Env} {s s1:Qy} {H:Hp} {E:XK} {us:List Qo} {vs:List V}
  (S:bc N ps scope) (hd:A.handled=none) (e0:Ai P w K mg base A outer s H) (hl:vs.length=ps.length) (r:Vals vs us)
  (x:InCallC s s.heap.objs.size (bindL (envOfC qual scope s.heap.objs.size f cd).kindOf (ps.zip us) fun _=>none) (cellsFrom (s.heap.objs.size+1) scope.names []) (bindC (envOfC qual scope s.heap.objs.size f cd).kindOf (ps.zip us) fun _=>none) s1) :
  Inv (lu CX P w K mg base N qual scope f cd A outer s H E) [] (start N vs) H s1:=by
 have hpl:ps.length<=N.length:=by have:=congrArg List.length S.pre; rw [M4] at this; omega
 obtain⟨h1,tk,rfl,hk⟩:=x.done
 have noA:∀ b:Qr,b∉(lu CX P w K mg base N qual scope f cd A outer s H E).ex:=fun b z=>absurd (show b∈([]:List Qr) from z) (by simp)
 refine⟨⟨e0.mod,S.kind,rfl,rfl,MP _,fun y z c h1 h2=>?_,fun y hy=>?_,fun y c _ h=>?_,fun _=>hd,Around.frames_deeper e0.frames,.inr ⟨rfl,rfl⟩,fun b z=>absurd z (noA b),e0.bs,e0.bsz,fun b _ _=>noA b,fun b z=>absurd z (noA b),e0.funs,e0.frf⟩,
  rfl,e0.bare,Un.kept hk,⟨_,x.toInCall.ns,fun i y v h1 h2 h3=>?_⟩,fun y c h=>⟨_,x.cell y c h⟩,e0.hok.fresh (MP _),fun y c h=>?_,fun p hp=>absurd (show p∈([]:List (Qr×Obj)) from hp) (by simp),e0.hok.kept hk,?_⟩
 ·exact name_of_addr x.apart (PySem.mem_of_lookup h1) (PySem.mem_of_lookup h2)
 ·have hy:scope.names.lookup y=some .cell\/scope.names.lookup y=some .free:=hy
  rcases hy with hy | hy
  ·exact wj hy
  ·exact absurd rfl (S.nofree _ (PySem.mem_of_lookup hy))
 ·exact MH (x.above y c (PySem.mem_of_lookup h))
 ·have hi:i < vs.length:=by
   unfold start at h2
   by_cases hi:i < vs.length
   ·exact hi
   ·rw [M5 (by simpa using hi)] at h2
    rw [M6] at h2
    split at h2 <;> cases h2
  have ha:vs[i]?=some v:=by
   unfold start at h2
   rw [M7 (by simpa using hi),M8] at h2
   cases e:vs[i]? with
   | none=>rw [e] at h2; cases h2
   | some a=>rw [e] at h2; cases h2; rfl
  obtain⟨u,hu,rv⟩:=r.get ha
  have hp:ps[i]?=some y:=by
   rw [<- S.pre,List.getElem?_take_of_lt ‹0›]; exact h1
  have ndP:ps.Nodup:=by rw [<- S.pre]; exact S.nd.sublist (List.take_sublist _ _)
  refine⟨u,rv,?_⟩
  rcases S.par y (M9 hp) with k | k
  ·exact .inl ⟨k,tZ ndP hp hu k⟩
  ·obtain⟨c,e⟩:=wj (n:=s.heap.objs.size+1) k
   refine .inr ⟨.inl k,c,e,?_⟩
   have q:=x.cell y c e
   rw [tL ndP hp hu (by show scope.names.lookup y≠_; rw [k]; decide)] at q
   exact q
 ·exact e0.hok.fresh (MH (x.above y c (PySem.mem_of_lookup h)))
 ·unfold start
  show _=N.length
  rw [Nb,MY,List.length_replicate]
  omega

theorem E7 {CX:xJ} {P:Qq} {w:Qp} {K:Pj} {mg:Str->Option Qo} {base:Qt} {k:Nat} {f:Qr} {name qual:Str} {params:Arguments} {body:List QD} {scope:Qz} {dV kV doc pm cdv ct oc:Qo} {an od:Option Qr}
  {osl:Array (Option Qo)} {N ps:List Str} {sp:Sp} (lk:K.lookup f=some ⟨oc,od,.func (PC name qual params body scope dV kV doc pm an cdv ct),osl⟩) (hcd:PD K cdv qual=true) (S:bc N ps scope)
  (len:∀ vs H Q E,sp vs H Q E->vs.length=ps.length)
  (hbody:∀ (A:Qx) (outer:List Env) (s:Qy) (H:Hp) (vs:List V) (Q:VK) (E:XK),fZ k (A.deeper (envOfC qual scope s.heap.objs.size f cdv))->sp vs H Q E ->
   ∃ t,xi (lu CX P w K mg base N qual scope f cdv A outer s H E) body t/\t { nx:=fun _ H'=>Q .non H',rt:=Q } (start N vs) H) :
  jp P w K mg base CX (k+1) f (PC name qual params body scope dV kV doc pm an cdv ct) ps sp:=by
 refine⟨len,fun A outer s H args us vs Q E hr e0 hb r hsp=>?_⟩
 have hl:=len _ _ _ _ hsp
 have KX:K.In s.heap:=e0.mod.kin.keeps fun b o e=>(e0.bs b o e).1
 have lim:s.heap.NoLimit:=e0.mod.nolimit.keeps fun b o e=>(e0.bs b o e).1
 have hkind:∀ y∈ps.zip us,scope.names.lookup y.1=some .local\/(scope.names.lookup y.1=some .cell/\((cellsFrom (s.heap.objs.size+1) scope.names []).lookup y.1).isSome=true):=fun ⟨n,v⟩ hy=>by
  rcases S.par n (M3 hy).1 with q | q
  ·exact .inl q
  ·exact .inr ⟨q,PB _ _ _ (.inl q)⟩
 refine codeAny_call_function hr.depth (KX _ _ lk) rfl S.co S.gen rfl (PySem.W.codeRec_of KX hcd) (hb _ _ _ _ ?_)
 refine wpAny_newFunctionEnv_cells S.kind hkind fun env he s1 x=>?_
 subst he
 refine⟨lim.keeps x.toInCall.keep,codeAny_func ?_⟩
 obtain⟨t,ht,hq⟩:=hbody A outer s H vs Q E (hr.deeper _) hsp
 have I:Inv (lu CX P w K mg base N qual scope f cdv A outer s H E) [] (start N vs) H s1:=An S hr.hd e0 hl r x
 refine QE (ht [] s1 (start N vs) H _ I hq) (fun fl s' hs=>?_) fun e s' hs=>hs
 have fin:∀ {σ':St} {H':Hp} {v:V} {u:Qo},Inv (lu CX P w K mg base N qual scope f cdv A outer s H E) [] σ' H' s'->RelV v u->Q v H'->CE outer P w H s Q u s' :=
  fun {σ' H' v u} J rv q=>⟨v,H',J.os,J.bare,J.base,J.hok,rv,q⟩
 cases fl with
 | ret u =>
  obtain⟨v,σ',H',J,rv,q⟩:=hs
  exact fin J rv q
 | next =>
  obtain⟨σ',H',J,q⟩:=hs
  exact fin (v:=V.non) (u:=Value.none) J rfl q
 | brk =>
  obtain⟨_,_,_,q⟩:=hs
  exact False.elim q
 | cont =>
  obtain⟨_,_,_,q⟩:=hs
  exact False.elim q
end L2

namespace L2
open PySem PySem.Spec PyProof.Rows
section
variable {X:Cx} {x:Str} {p pos:Pos} {e:QB} {es:List QB} {t:TA} {id T:String} {r:List V->Hp->VK->Prop}

def Km (r:List V->Hp->VK->Prop) (t:TA):TE:=fun σ H Q=>t σ H fun vs H1=>r vs H1 Q
theorem vR (hc:dW X (.builtin id) r) (hg:Gl X x) (hm:X.mg x=none) (hv:Qw x=some (.builtin id)) (ha:PA X (e::es) t) (hn:x ≠ "__name__":=by decide) (hdb:(x==("__debug__":Str))=false:=by decide)
  (he:QC (e::es) X.env=(false,eval e X.env)::QC es X.env:=by rfl) (hpl:(backTo pos (QC es X.env)).any (·.1)=false:=by rfl):PE X (.Call (.Name x p) (e::es) [] pos) (Km r t):=by
 intro pins s σ H Q I h
 refine Q1 (nK I hg hm hv ?_ hn hdb)
 exact PyProof.Rows.callWith_builtin1 (dX (ha pos pins s σ H _ I h) fun us s1 ⟨vs,H1,I1,r1,q1⟩=>hc pins s1 σ H1 vs us Q I1 r1 q1) he hpl
theorem AV (hc:dW X (.type T) r) (hg:Gl X x) (hm:X.mg x=none) (hv:Qw x=some (.type T)) (ha:PA X (e::es) t) (hn:x ≠ "__name__":=by decide) (hdb:(x==("__debug__":Str))=false:=by decide)
  (he:QC (e::es) X.env=(false,eval e X.env)::QC es X.env:=by rfl) (hpl:(backTo pos (QC es X.env)).any (·.1)=false:=by rfl):PE X (.Call (.Name x p) (e::es) [] pos) (Km r t):=by
 intro pins s σ H Q I h
 refine Q1 (nK I hg hm hv ?_ hn hdb)
 exact P9 (dX (ha pos pins s σ H _ I h) fun us s1 ⟨vs,H1,I1,r1,q1⟩=>hc pins s1 σ H1 vs us Q I1 r1 q1) he hpl
end
end L2

namespace HT
open PySem PyProof.Rows

theorem IK (A:Qx) (s:Qy) (a:Int) (t:Tok) (c:Int) (u:Tok) (prog:Qq) (w:Qp) (E:Qo->Qy->Prop) (Q:Qo->Qy->Prop) (h:Q (.bool (decide (a < c))) s) :
  QA (model prog w) A (richCompare .Lt (.int a t) (.int c u)) Q E s :=
 (PyProof.Rows.lt_int h:QA (model prog w) A (QO .Lt (.int a t) (.int c u)) Q E s)

section
open PySem.SeqAt
open PySem.AutoSeq1 (wpAny_loadPart')
open PySem.MeetsSeq PySem.MeetsSeq2 PySem.MeetsSeq3

end

section
variable {prog:Qq} {w:Qp} {A:Qx} {E:Qo->Qy->Prop} {s:Qy}

theorem JW {t b:Qr} {vs ws:List Qo} {Q:Qo->Qy->Prop} (ht:IsTup s.heap t vs.toArray) (hb:IsTup s.heap b ws.toArray) (hv:vs≠[])
  (h1:ws=[]->Q (.ref t) s) (h2:ws≠[]->Q (.ref s.heap.objs.size) { s with heap:=s.heap.push { cls:=.type "tuple",data:=.seq (vs++ws).toArray } })
  (hsz:vs.length+ws.length<=Qu):QA (model prog w) A (QN .Add (.ref t) (.ref b)) Q E s:=by
 obtain⟨⟨cls,dd,data,sl⟩,ho,hc,n,hd⟩:=id ht
 obtain⟨⟨cls2,dd2,data2,sl2⟩,ho2,hc2,n2,hd2⟩:=id hb
 simp only at hc hd hc2 hd2
 subst hc hd hc2 hd2
 have e:vs.toArray++ws.toArray=(vs++ws).toArray:=by simp
 by_cases hw:ws=[]
 ·exact Q4 ⟨_,ho,rfl⟩ ⟨_,ho2,rfl⟩ Q5 Q6 Qj Qk (Ql _ _)
   (tuple_addW1 t b vs.toArray ws.toArray n n2 dd dd2 sl sl2 (by simpa using hv) (by simp [hw])) ⟨ho,ho2,h1 hw⟩
 ·refine Q4 ⟨_,ho,rfl⟩ ⟨_,ho2,rfl⟩ Q5 Q6 Qj Qk (Ql _ _)
   (tuple_addW2 t b vs.toArray ws.toArray n n2 dd dd2 sl sl2 (by simpa using hv) (by simpa using hw) (by rw [MT,MT]; exact hsz)) ⟨ho,ho2,?_⟩
  rw [e]
  exact h2 hw

def sIx (n d:Nat):Option Int->Nat
 | none=>d
 | some v=>if v < 0 then (v+(n:Int)).toNat else min v.toNat n
theorem Jk (n d:Nat):sIx n d none=d:=rfl
theorem JG (n d k:Nat):sIx n d (some (k:Int))=min k n:=by
 show (if (k:Int) < 0 then ((k:Int)+(n:Int)).toNat else min (k:Int).toNat n)=min k n
 rw [if_neg ‹0›,Nc]
theorem G8 (n d:Nat) (hd:d<=n) (o:Option Int):sIx n d o<=n:=by
 cases o with
 | none=>exact hd
 | some v =>
  show (if v < 0 then (v+(n:Int)).toNat else min v.toNat n)<=n
  by_cases hv:v < 0
  ·rw [if_pos hv]; omega
  ·rw [if_neg hv]; exact Nat.min_le_right _ _
theorem zO (v:Int) (n d:Nat):(if v < 0 then max (v+(n:Int)) 0 else min v (n:Int))=((sIx n d (some v):Nat):Int):=by
 show (if v < 0 then max (v+(n:Int)) 0 else min v (n:Int))=(((if v < 0 then (v+(n:Int)).toNat else min v.toNat n):Nat):Int)
 by_cases hv:v < 0
 ·simp only [if_pos hv]; omega
 ·simp only [if_neg hv]; omega
theorem yP (lo hi:Option Int) (n:Nat):Builtin.Slice.sliceAdjust lo hi 1 (n:Int)=(((sIx n 0 lo:Nat):Int),((sIx n n hi:Nat):Int)):=by
 have h1:¬ ((1:Int) < 0):=by omega
 unfold Builtin.Slice.sliceAdjust
 simp only [h1,if_false]
 refine Prod.ext ?_ ?_
 ·cases lo with
  | none=>rfl
  | some v=>exact zO v n 0
 ·cases hi with
  | none=>rfl
  | some v=>exact zO v n n
theorem yF (i j:Nat):Builtin.Slice.slicePlaces (i:Int) (j:Int) 1=j - i:=by
 unfold Builtin.Slice.slicePlaces
 have h1:(1:Int) > 0:=by omega
 simp only [h1,if_true,Int.ediv_one]
 split <;> omega
theorem ro {v:Qo} {o:Option Int} {Q:Option Int->Qy->Prop} (p:Q7 v o) (h:Q o s):QA (model prog w) A (Builtin.Slice.slicePartIndex v) Q E s:=by
 cases p with
 | none=>exact slicePart_none h
 | int i t=>exact slicePart_int h
theorem pG {sl:Qr} {vl vu:Qo} {lo hi:Option Int} {n:Nat} {Q:Int×Int×Nat->Qy->Prop} (hs:s.heap.IsSliceOf sl vl vu .none) (pl:Q7 vl lo) (pu:Q7 vu hi)
  (h:Q (((sIx n 0 lo:Nat):Int),1,sIx n n hi - sIx n 0 lo) s):QA (model prog w) A (Builtin.Slice.sliceApplied (.ref sl) (pure (n:Int))) Q E s:=by
 obtain⟨os,hos,hcs,hds⟩:=id hs
 unfold Builtin.Slice.sliceApplied Builtin.Slice.sliceFields
 refine QI (QI (Q8 hos hds (x:=vl) rfl (QI (Q8 hos hds (x:=vu) rfl (QI (Q8 hos hds (x:=.none) rfl (QH ?_)))))))
 refine QI (slicePart_none ?_)
 show QA _ _ (if ((1:Int)==0)=true then _ else _) _ _ s
 rw [if_neg (by decide)]
 refine QI (ro pl (QI (ro pu (QI (QH ?_)))))
 show QA _ _ (match Builtin.Slice.sliceAdjust lo hi 1 (n:Int) with | (lo,hi)=>pure (lo,(1:Int),Builtin.Slice.slicePlaces lo hi 1)) _ _ s
 rw [yP lo hi n]
 show QA _ _ (pure (((sIx n 0 lo:Nat):Int),(1:Int),Builtin.Slice.slicePlaces ((sIx n 0 lo:Nat):Int) ((sIx n n hi:Nat):Int) 1)) _ _ s
 rw [yF]
 exact QH h
theorem Ct (xs:Array Qo) (i k:Nat):((List.range k).filterMap fun (m:Nat)=>xs[((i:Int)+(m:Int)*1).toNat]?).toArray=((xs.toList.drop i).take k).toArray:=by
 have e:(fun (m:Nat)=>xs[((i:Int)+(m:Int)*1).toNat]?)=fun m=>xs[i+m]?:=by
  funext m
  have:((i:Int)+(m:Int)*1).toNat=i+m:=by omega
  rw [this]
 rw [e]
 have:=pick_run xs i k
 rw [List.filterMap_map] at this
 have e2:((fun x=>xs[x]?) ∘ fun x=>i+x)=fun m=>xs[i+m]?:=rfl
 rw [e2] at this
 rw [this]

theorem zC {t sl:Qr} {items:Array Qo} {vl vu:Qo} {lo hi:Option Int} {Q:Qo->Qy->Prop} (ht:IsTup s.heap t items) (hs:s.heap.IsSliceOf sl vl vu .none) (pl:Q7 vl lo) (pu:Q7 vu hi)
  (hw:¬ (sIx items.size 0 lo=0/\sIx items.size items.size hi=items.size))
  (h:Q (.ref s.heap.objs.size) { s with heap:=s.heap.push { cls:=.type "tuple",data:=.seq ((items.toList.drop (sIx items.size 0 lo)).take (sIx items.size items.size hi - sIx items.size 0 lo)).toArray } })
  (hsz:items.size<=Qu):QA (model prog w) A (getItem (.ref t) (.ref sl)) Q E s:=by
 have htake:sizeOk (.seq ((items.toList.drop (sIx items.size 0 lo)).take (sIx items.size items.size hi - sIx items.size 0 lo)).toArray):=by
  show ((items.toList.drop (sIx items.size 0 lo)).take (sIx items.size items.size hi - sIx items.size 0 lo)).toArray.size<=Qu
  rw [MT,M4,Nf,Array.length_toList]
  omega
 have hj:sIx items.size items.size hi<=items.size:=G8 _ _ (MP _) hi
 obtain⟨os,hos,hcs,hds⟩:=id hs
 have hTs:s.TypeIs (.ref sl) "slice":=⟨os,hos,hcs⟩
 unfold getItem
 try with_reducible refine Q9 ?_
 first | refine QI (QH ?_) | skip
 refine QI (wpAny_sequenceKey ht.typeIs (by decide) ?_)
 refine QI (Ra (name:=Str.ofString "__getitem__") ht.typeIs Qa
  (Rb Qa ht.typeIs entry_tuple_getitem ?_ (args_tuple_getitem _ _)))
 show QA _ _ (Builtin.Tuple.tupleItemsOf (.ref t) >>= _) _ _ s
 refine QI (tupleItemsOf_ ht ?_)
 refine QI (Rc hTs ?_)
 rw [if_pos (by decide)]
 refine QI (pG hs pl pu ?_)
 have hno:¬ ((((sIx items.size 0 lo:Nat):Int)==0 && (1:Int)==1 && (sIx items.size items.size hi - sIx items.size 0 lo)==items.size)=true):=by
  intro q
  rw [Ng,Ng] at q
  have q1:((sIx items.size 0 lo:Nat):Int)=0:=eq_of_beq q.1.1
  have q2:sIx items.size items.size hi - sIx items.size 0 lo=items.size:=eq_of_beq q.2
  exact hw ⟨by omega,by omega⟩
 show QA _ _ (if (((sIx items.size 0 lo:Nat):Int)==0 && (1:Int)==1 && (sIx items.size items.size hi - sIx items.size 0 lo)==items.size)=true then _ else _) _ _ s
 rw [if_neg hno,Ct]
 first
  | exact QI (m:=Builtin.Tuple.tupleExact _) (Rf (QH ⟨_,rfl,QH h⟩) htake)
  | exact QI (m:=Builtin.Tuple.tupleExact _) (Rf (QI (QH (QH ⟨_,rfl,QH h⟩))) htake)
  | exact QI (QI (m:=Builtin.Tuple.tupleExact _) (Rf (QH (QH ⟨_,rfl,QH h⟩)) htake))
  | exact QI (QI (m:=Builtin.Tuple.tupleExact _) (Rf (QH ⟨_,rfl,QH h⟩) htake))
end
end HT

namespace L2
open PySem PySem.Spec PyProof.Rows

abbrev TO:=St->Hp->(Option Int->Hp->Prop)->Prop
def PO (X:Cx) (e:Option QB) (t:TO):Prop :=
 ∀ (pins:List (Qr×Obj)) (s:Qy) (σ:St) (H:Hp) (Q:Option Int->Hp->Prop),Inv X pins σ H s->t σ H Q ->
  QA (model X.prog X.w) X.A (evalPart e X.env) (fun u s'=>∃ o H',Inv X pins σ H' s'/\Q7 u o/\Q o H') X.xe s
def EK:TO:=fun _ H Q=>Q none H
def IH (t:TE):TO:=fun σ H Q=>t σ H fun x H1=>∃ i,x=.int i/\Q (some i) H1

section
variable {X:Cx} {e:QB} {te:TE} {lo hi:Option QB} {tl th:TO} {pos p2:Pos}

theorem Eu:PO X none EK:=by
 intro pins s σ H Q I h
 rw [evalPart_none]
 exact QH ⟨none,H,I,.none,h⟩
theorem Es (h:PE X e te):PO X (some e) (IH te):=by
 intro pins s σ H Q I hw
 rw [evalPart_some]
 refine dX (h pins s σ H _ I hw) fun u s1 ⟨x,H1,I1,r1,q1⟩=>?_
 obtain⟨i,rfl,q⟩:=q1
 obtain⟨t,rfl⟩:=r1
 exact⟨some i,H1,I1,.int i t,q⟩

def JY (X:Cx) (r:V->Option Int->Option Int->Hp->VK->Prop):Prop :=
 ∀ (pins:List (Qr×Obj)) (s:Qy) (σ:St) (H:Hp) (x:V) (v vl vu:Qo) (lo hi:Option Int) (sl:Qr) (Q:VK),Inv X pins σ H s->RelV x v->s.heap.IsSliceOf sl vl vu .none->Q7 vl lo->Q7 vu hi->r x lo hi H Q ->
  ∃ T id,typeLookup (.type T) "__getitem__"=pure (some (.builtin id))/\s.TypeIs v T/\QA (model X.prog X.w) X.A (getItem v (.ref sl)) (EP X pins σ Q) X.xe s
def Mm (r:V->Option Int->Option Int->Hp->VK->Prop) (te:TE) (tl th:TO):TE:=fun σ H Q=>te σ H fun x H1=>tl σ H1 fun l H2=>th σ H2 fun u H3=>r x l u H3 Q
theorem Cu {r:V->Option Int->Option Int->Hp->VK->Prop} (hr:JY X r) (he:PE X e te) (hl:PO X lo tl) (hu:PO X hi th):PE X (.Subscript e (.Slice lo hi none p2) pos) (Mm r te tl th):=by
 intro pins s σ H Q I h
 refine Subscript_ (dX (he pins s σ H _ I h) fun v s1 ⟨x,H1,I1,r1,q1⟩=>?_)
 refine wpAny_Slice (dX (hl pins s1 σ H1 _ I1 q1) fun vl s2 ⟨l,H2,I2,pl,q2⟩=>dX (hu pins s2 σ H2 _ I2 q2) fun vu s3 ⟨u,H3,I3,pu,q3⟩=>?_)
 rw [evalPart_none]
 refine QH ?_
 have I4:Inv X pins σ H3 { s3 with heap:=s3.heap.push { cls:=.type "slice",data:=.fields #[vl,vu,.none] } }:=I3.kept (t':=s3.toks) fun b ob q=>PZ _ q
 obtain⟨T,id,hT,ht,hg⟩:=hr pins { s3 with heap:=s3.heap.push { cls:=.type "slice",data:=.fields #[vl,vu,.none] } } σ H3 x v vl vu l u s3.heap.objs.size Q I4 r1 (Heap.IsSliceOf.new ..) pl pu q3
 show QA (model X.prog X.w) X.A (subscriptTail e (.Slice lo hi none p2) v (.ref s3.heap.objs.size)) (EP X pins σ Q) X.xe { s3 with heap:=s3.heap.push { cls:=.type "slice",data:=.fields #[vl,vu,.none] } }
 exact tail_any (ops:=[.ref s3.heap.objs.size,v]) ht hT hg (by with_unfolding_all rfl)

def xt (xs:List V) (lo hi:Option Int):List V:=(xs.drop (HT.sIx xs.length 0 lo)).take (HT.sIx xs.length xs.length hi - HT.sIx xs.length 0 lo)
theorem pJ (xs:List V) (lo hi:Option Int):(xt xs lo hi).length<=xs.length:=by
 unfold xt
 rw [M4,Nf]
 omega
def La (K:Pj):V->Option Int->Option Int->Hp->VK->Prop:=fun x lo hi H Q=>∃ a xs,x=.ref a/\p4 K H a xs /\
 ¬ (HT.sIx xs.length 0 lo=0/\HT.sIx xs.length xs.length hi=xs.length)/\∀ p,H p=none->Q (.ref p) (upd H p (.tup (xt xs lo hi)))
theorem G7:JY X (La X.K):=by
 intro pins s σ H x v vl vu lo hi sl Q I rx hs pl pu h
 obtain⟨a,xs,rfl,hx,hw,q⟩:=h
 cases rx
 obtain⟨its,r,ht,hz⟩:=I.tuple hx
 have hlen:its.toArray.size=xs.length:=by rw [MT]; exact r.length.symm
 refine⟨"tuple",_,PyProof.Rows.slot_tuple_getitem.lookup,ht.typeIs,?_⟩
 refine HT.zC ht hs pl pu (by rw [hlen]; exact hw) ?_ (by rw [hlen]; exact hz)
 rw [hlen]
 refine⟨.ref s.heap.objs.size,_,I.laid (t':=s.toks) (o:=.tup (xt xs lo hi)) (fun b ob q=>PZ _ q) (MP _) ?_,rfl,q _ (I.hok.fresh (MP _))⟩
 exact⟨MG (pJ xs lo hi) hz,_,(r.drop (HT.sIx xs.length 0 lo)).take (HT.sIx xs.length xs.length hi - HT.sIx xs.length 0 lo),IsTup.new _ _⟩

def Jq (K:Pj):R2:=fun x y H Q=>∃ a b xs ys,x=.ref a/\y=.ref b/\p4 K H a xs/\p4 K H b ys/\xs≠[]/\xs.length+ys.length<=Qu /\
 (ys=[]->Q (.ref a) H)/\(ys≠[]->∀ p,H p=none->Q (.ref p) (upd H p (.tup (xs++ys))))
theorem Vals.nil_iff {xs:List V} {us:List Qo} (r:Vals xs us):us=[]↔xs=[]:=by
 cases r with
 | nil=>simp
 | cons _ _=>simp
theorem DU:jr X (QN .Add) (Jq X.K):=by
 intro pins s σ H x y v u Q I rx ry h
 obtain⟨a,b,xs,ys,rfl,rfl,ha,hb,hx,hz,q1,q2⟩:=h
 cases rx
 cases ry
 obtain⟨its,r1,p1,_⟩:=I.tuple ha
 obtain⟨its2,r2,p2,_⟩:=I.tuple hb
 refine HT.JW p1 p2 (fun z=>hx (r1.nil_iff.mp z)) (fun z=>⟨.ref a,H,I,rfl,q1 (r2.nil_iff.mp z)⟩) (fun z=>?_) (by rw [<- r1.length,<- r2.length]; exact hz)
 refine⟨.ref s.heap.objs.size,_,I.laid (t':=s.toks) (o:=.tup (xs++ys)) (fun b ob q=>PZ _ q) (MP _) ?_,rfl,q2 (fun w=>z (r2.nil_iff.mpr w)) _ (I.hok.fresh (MP _))⟩
 exact⟨by rw [Nb]; exact hz,_,r1.append r2,IsTup.new _ _⟩
end
end L2

namespace L2
open PySem PySem.Spec PyProof.Rows

def FK (n:Nat) (i:Int):Option Nat:=if 0<=i then (if i < n then some i.toNat else none) else if -(n:Int)<=i then some (i+n).toNat else none
def ox {α:Type} (xs:List α) (i:Int):Option α:=(FK xs.length i).bind fun j=>xs[j]?
theorem Eg {n:Nat} {i:Int} {j:Nat} (h:FK n i=some j):seqIndex? i n=some j/\j < n/\-(n:Int)<=i/\i < n:=by
 unfold FK at h
 by_cases h0:0<=i
 ·rw [if_pos h0] at h
  by_cases h1:i < n
  ·rw [if_pos h1] at h
   have e:i.toNat=j:=Option.some.inj h
   exact⟨by rw [seqIndex_of h0 h1,e],by omega,by omega,h1⟩
  ·rw [if_neg h1] at h; cases h
 ·rw [if_neg h0] at h
  by_cases h1:-(n:Int)<=i
  ·rw [if_pos h1] at h
   have e:(i+n).toNat=j:=Option.some.inj h
   exact⟨by rw [seqIndex_neg ‹0› h1,e],by omega,h1,by omega⟩
  ·rw [if_neg h1] at h; cases h
theorem uL {α:Type} {xs:List α} {i:Int} {v:α} (h:ox xs i=some v):∃ j,seqIndex? i xs.length=some j/\xs[j]?=some v/\j < xs.length/\-(xs.length:Int)<=i/\i < xs.length:=by
 unfold ox at h
 cases e:FK xs.length i with
 | none=>rw [e] at h; cases h
 | some j =>
  rw [e] at h
  obtain⟨h1,h2,h3,h4⟩:=Eg e
  exact⟨j,h1,h,h2,h3,h4⟩
def vA (b:QB):Prop:=∀ o i,subscripted b false o i=operate [o,i] (getItem o i)
def Jr (X:Cx) (r:R2):Prop :=
 ∀ (value slice:QB) (pins:List (Qr×Obj)) (s:Qy) (σ:St) (H:Hp) (x y:V) (v u:Qo) (Q:VK),Inv X pins σ H s->RelV x v->RelV y u->r x y H Q ->
  subscripted slice false v u=operate [v,u] (getItem v u)->QA (model X.prog X.w) X.A (subscriptTail value slice v u) (EP X pins σ Q) X.xe s
def Ms (X:Cx) (id:String) (r:V->List V->Hp->VK->Prop):Prop :=
 ∀ (pins:List (Qr×Obj)) (s:Qy) (σ:St) (H:Hp) (x:V) (xs:List V) (v:Qo) (us:List Qo) (Q:VK),Inv X pins σ H s->RelV x v->Vals xs us->r x xs H Q ->
  QA (model X.prog X.w) X.A (call (.builtin id) (v::us)) (EP X pins σ Q) X.xe s
section
variable {X:Cx} {a b:QB} {ta tb:TE} {pos:Pos}
theorem Iw {r:R2} (hr:Jr X r) (ha:PE X a ta) (hb:PE X b tb) (hs:vA b):PE X (.Subscript a b pos) (Ie r ta tb):=by
 intro pins s σ H Q I h
 exact Subscript_ (Gx ha hb I h fun v u s2 x y H2 I2 rx ry q=>hr a b pins s2 σ H2 x y v u Q I2 rx ry q (hs _ _))

def J7 (K:Pj):R2:=fun x y H Q=>∃ p xs i v,x=.ref p/\y=.int i/\oo K H p xs/\ox xs i=some v/\Q v H
def KR (K:Pj):R2:=fun x y H Q=>∃ p xs i v,x=.ref p/\y=.int i/\p4 K H p xs/\ox xs i=some v/\Q v H
def KI:R2:=fun x y H Q=>∃ z i c,x=.str z/\y=.int i/\z.length<=Qu/\ox z.cps.toList i=some c/\Q (.str ⟨#[c]⟩) H
theorem D0:Jr X (J7 X.K):=by
 intro value slice pins s σ H x y v u Q I rx ry h hs
 obtain⟨p,xs,i,z,rfl,rfl,hq,he,q⟩:=h
 cases rx
 obtain⟨t,rfl⟩:=ry
 obtain⟨its,r,pl,hz⟩:=I.list hq
 obtain⟨j,h1,h2,h3,h4,h5⟩:=uL he
 obtain⟨w,ew,rw'⟩:=r.get h2
 have hl:=r.length
 have hn:=oY
 have fin:EP X pins σ Q w s:=⟨z,H,I,rw',q⟩
 by_cases h0:0<=i
 ·have hj:i.toNat=j:=by
   rw [seqIndex_of h0 h5] at h1
   exact Option.some.inj h1
  exact item_listR pl.isList h0 ‹0› (by rw [hj]; simpa using ew) fin hs
 ·have hj:(i+(its.toArray.size:Int)).toNat=j:=by
   rw [seqIndex_neg ‹0› h4] at h1
   rw [MT,<- hl]
   exact Option.some.inj h1
  exact subscriptTail_builtinR (x:=w) pl.isList.typeIs slot_list_getitem.lookup
   (wpAny_getItem_list_neg (Q:=fun r s'=>r=w/\EP X pins σ Q r s') pl.isList ‹0› (by rw [MT] <;> omega) ‹0› (by rw [hj]; simpa using ew) ⟨rfl,fin⟩) hs
theorem Fx:Jr X (KR X.K):=by
 intro value slice pins s σ H x y v u Q I rx ry h hs
 obtain⟨p,xs,i,z,rfl,rfl,hq,he,q⟩:=h
 cases rx
 obtain⟨t,rfl⟩:=ry
 obtain⟨its,r,pl,hz⟩:=I.tuple hq
 obtain⟨j,h1,h2,h3,h4,h5⟩:=uL he
 obtain⟨w,ew,rw'⟩:=r.get h2
 have hl:=r.length
 have hn:=oY
 have fin:EP X pins σ Q w s:=⟨z,H,I,rw',q⟩
 exact subscriptTail_builtinR (x:=w) pl.typeIs slot_tuple_getitem.lookup
  (getItem_tuple (j:=j) (Q:=fun r s'=>r=w/\EP X pins σ Q r s') pl ‹0› ‹0› (by rw [MT,<- hl]; exact h1) (by simpa using ew) ⟨rfl,fin⟩) hs
theorem Gk:Jr X KI:=by
 intro value slice pins s σ H x y v u Q I rx ry h hs
 obtain⟨z,i,c,rfl,rfl,hz,he,q⟩:=h
 obtain⟨t,rfl⟩:=rx
 obtain⟨t',rfl⟩:=ry
 obtain⟨j,h1,h2,h3,h4,h5⟩:=uL he
 have hl:z.cps.toList.length=z.length:=by simp [Str.length]
 rw [hl] at h1 h4 h5
 have hn:=oY
 exact tail_any (typeIs_str s z t) slot_str_getitem.lookup (getItem_str (c:=c) (by
  have e1:decide (i < -(2 ^ 63:Int))=false:=decide_eq_false ‹0›
  have e2:decide (i>=2 ^ 63)=false:=decide_eq_false ‹0›
  rw [e1,e2,Bool.or_false]) (by rw [h1]; simpa using h2) ⟨.str ⟨#[c]⟩,H,I.tok _,⟨_,rfl⟩,q⟩) hs
theorem vn (lo hi:Option Int) (n:Nat):(sliceBounds lo hi none n).1=((HT.sIx n 0 lo:Nat):Int)/\(sliceBounds lo hi none n).2.1=((HT.sIx n n hi:Nat):Int)/\(sliceBounds lo hi none n).2.2=1:=by
 refine⟨?_,?_,rfl⟩
 ·cases lo with
  | none=>simp [sliceBounds,HT.sIx]
  | some i =>
   simp only [sliceBounds,HT.sIx,Nh,show (1:Int) > 0 by decide,if_true]
   by_cases h:i < 0
   ·simp only [h,if_true] <;> omega
   ·simp only [h,if_false] <;> omega
 ·cases hi with
  | none=>simp [sliceBounds,HT.sIx]
  | some i =>
   simp only [sliceBounds,HT.sIx,Nh,show (1:Int) > 0 by decide,if_true]
   by_cases h:i < 0
   ·simp only [h,if_true] <;> omega
   ·simp only [h,if_false] <;> omega
theorem sG (its:List Qo) (lo hi:Option Int):slicePick its.toArray lo hi none=((its.drop (HT.sIx its.length 0 lo)).take (HT.sIx its.length its.length hi - HT.sIx its.length 0 lo)).toArray:=by
 obtain⟨h1,h2,h3⟩:=vn lo hi its.toArray.size
 unfold slicePick
 rw [h1,h2,h3]
 simp only [sliceRange_one,pick_run,MT] <;> rfl
def LV (K:Pj):V->Option Int->Option Int->Hp->VK->Prop:=fun x lo hi H Q=>∃ a xs,x=.ref a/\oo K H a xs/\∀ p,H p=none->Q (.ref p) (upd H p (.lst (xt xs lo hi)))
theorem DA:JY X (LV X.K):=by
 intro pins s σ H x v vl vu lo hi sl Q I rx hs pl pu h
 obtain⟨a,xs,rfl,hx,q⟩:=h
 cases rx
 obtain⟨its,r,ht,hz⟩:=I.list hx
 have hlen:=r.length
 refine⟨"list",_,slot_list_getitem.lookup,ht.isList.typeIs,?_⟩
 refine wpAny_getItem_list_slice ht.isList hs pl pu .none (by simp) ?_ (by rw [MT] <;> omega)
 rw [sG,<- hlen]
 refine⟨.ref s.heap.objs.size,_,I.laid (t':=s.toks) (o:=.lst (xt xs lo hi)) (fun b ob q=>PZ _ q) (MP _) ?_,rfl,q _ (I.hok.fresh (MP _))⟩
 exact⟨MG (pJ xs lo hi) hz,_,0,(r.drop (HT.sIx xs.length 0 lo)).take (HT.sIx xs.length xs.length hi - HT.sIx xs.length 0 lo),P0 _ rfl⟩

def BD:V->Bool
 | .non=>true
 | .bl _=>true
 | .int _=>true
 | .str _=>true
 | _=>false
def K5:V->V->Bool
 | .non,.non=>true
 | .bl a,.bl b=>a==b
 | .bl a,.int b=>(if a then 1 else 0)==b
 | .int a,.bl b=>a==(if b then 1 else 0)
 | .int a,.int b=>a==b
 | .str a,.str b=>a==b
 | _,_=>false
theorem FU {A:Qx} {s:Qy} {y x:V} {u v:Qo} (ry:RelV y u) (rx:RelV x v) (fy:BD y=true) (fx:BD x=true):SeqAt.EqAt A s u v (K5 y x):=by
 cases y with
 | non =>
  cases ry
  cases x with
  | non=>cases rx; exact SeqAt.EqAt.same _
  | bl b=>cases rx; exact SeqAt.EqAt.none_bool b
  | int b=>obtain⟨t,rfl⟩:=rx; exact SeqAt.EqAt.none_int b t
  | str b=>obtain⟨t,rfl⟩:=rx; exact SeqAt.EqAt.none_str b t
  | _=>exact absurd (show false=true from fx) MU
 | bl a =>
  cases ry
  cases x with
  | non=>cases rx; exact SeqAt.EqAt.bool_none a
  | bl b=>cases rx; exact SeqAt.EqAt.bool_bool a b
  | int b=>obtain⟨t,rfl⟩:=rx; exact SeqAt.EqAt.bool_int a b t
  | str b=>obtain⟨t,rfl⟩:=rx; exact SeqAt.EqAt.bool_str a b t
  | _=>exact absurd (show false=true from fx) MU
 | int a =>
  obtain⟨t',rfl⟩:=ry
  cases x with
  | non=>cases rx; exact SeqAt.EqAt.int_none a t'
  | bl b=>cases rx; exact SeqAt.EqAt.int_bool a t' b
  | int b=>obtain⟨t,rfl⟩:=rx; exact SeqAt.EqAt.int_int a t' b t
  | str b=>obtain⟨t,rfl⟩:=rx; exact SeqAt.EqAt.int_str a t' b t
  | _=>exact absurd (show false=true from fx) MU
 | str a =>
  obtain⟨t',rfl⟩:=ry
  cases x with
  | non=>cases rx; exact SeqAt.EqAt.str_none a t'
  | bl b=>cases rx; exact SeqAt.EqAt.str_bool a t' b
  | int b=>obtain⟨t,rfl⟩:=rx; exact SeqAt.EqAt.str_int a t' b t
  | str b=>obtain⟨t,rfl⟩:=rx; exact SeqAt.EqAt.str_str a t' b t
  | _=>exact absurd (show false=true from fx) MU
 | _=>exact absurd (show false=true from fy) MU
theorem nY:dW X (.builtin "len") (fun xs H Q=>∃ p ys,xs=[.ref p]/\(oo X.K H p ys\/p4 X.K H p ys)/\Q (.int ys.length) H):=by
 intro pins s σ H xs us Q I r h
 obtain⟨p,ys,rfl,hq,q⟩:=h
 obtain⟨u,rfl,rx⟩:=vals1 r
 cases rx
 have hn:=oY
 rcases hq with hq | hq
 ·obtain⟨its,r',pl,hz⟩:=I.list hq
  have hlen:=r'.length
  exact Calls.call_len_list pl.isList (by simp only [MT] <;> omega) ⟨.int ys.length,H,I.tok _,⟨s.toks+1,by rw [MT,hlen]⟩,q⟩
 ·obtain⟨its,r',pl,hz⟩:=I.tuple hq
  have hlen:=r'.length
  exact len_tuple pl (by simp only [MT] <;> omega) ⟨.int ys.length,H,I.tok _,⟨s.toks+1,by rw [MT,hlen]⟩,q⟩
theorem uD:dW X (.builtin "len") (fun xs H Q=>∃ z,xs=[.str z]/\z.length<=Qu/\Q (.int z.length) H):=by
 intro pins s σ H xs us Q I r h
 obtain⟨z,rfl,hz,q⟩:=h
 obtain⟨u,rfl,t,rfl⟩:=vals1 r
 have hn:=oY
 exact len_str ‹0› ⟨.int z.length,H,I.tok _,⟨_,rfl⟩,q⟩
theorem m8:dW X (.type "tuple") (fun xs H Q=>∃ p ys,xs=[.ref p]/\((oo X.K H p ys/\∀ l,H l=none->Q (.ref l) (upd H l (.tup ys)))\/(p4 X.K H p ys/\Q (.ref p) H))):=by
 intro pins s σ H xs us Q I r h
 obtain⟨p,ys,rfl,h⟩:=h
 obtain⟨u,rfl,rx⟩:=vals1 r
 cases rx
 rcases h with ⟨hq,q⟩ | ⟨hq,q⟩
 ·obtain⟨its,r',pl,hz⟩:=I.list hq
  have hlen:=r'.length
  refine call_tuple_list pl.isList (fun h' kp=>?_) (by simp only [MT] <;> omega)
  have I1:Inv X pins σ H { s with heap:=h' }:=I.kept (t':=s.toks) kp
  have I2:Inv X pins σ (upd H h'.objs.size (.tup ys)) { s with heap:=h'.push { cls:=.type "tuple",data:=.seq its.toArray } } :=
   I1.laid (t':=s.toks) (fun b o e=>PZ _ e) (MP _) (show dm X.prog X.w _ _ _ (.tup ys) from ⟨hz,its,r',IsTup.new _ _⟩)
  exact⟨.ref h'.objs.size,_,I2,rfl,q _ (I1.hok.fresh (MP _))⟩
 ·obtain⟨its,r',pl,hz⟩:=I.tuple hq
  exact call_tuple_same pl ⟨.ref p,H,I,rfl,q⟩

def K7 (K:Pj) (T:String) (x:V) (H:Hp):Prop:=match x with
 | .str _=>T = "str"
 | .int _=>T = "int"
 | .ref p=>(T = "list"/\∃ xs,oo K H p xs)\/(T = "tuple"/\∃ o,K.lookup p=some o/\o.cls=.type "tuple"/\o.dict=none) \/
   (T = "dict"/\((∃ kvs,H p=some (.dK kvs))\/∃ kvs,H p=some (.dT kvs)))\/(T = "set"/\∃ S n,H p=some (.set S n))
 | _=>False
theorem Ge {pins:List (Qr×Obj)} {σ:St} {H:Hp} {s:Qy} {T:String} {x:V} {v:Qo} (I:Inv X pins σ H s) (r:RelV x v) (ty:K7 X.K T x H) :
  s.TypeIs v T/\∀ a,v=.ref a->∃ ob,s.heap.get? a=some ob/\ob.dict=none:=by
 cases x with
 | str z =>
  obtain⟨t,rfl⟩:=r
  cases (show T = "str" from ty)
  exact⟨typeIs_str s z t,fun _ e=>nomatch e⟩
 | int i =>
  obtain⟨t,rfl⟩:=r
  cases (show T = "int" from ty)
  exact⟨typeIs_int s i t,fun _ e=>nomatch e⟩
 | ref p =>
  cases r
  rcases ty with ⟨rfl,xs,hq⟩ | ⟨rfl,o,hk,hc,hd⟩ | ⟨rfl,hk⟩ | ⟨rfl,S,n,hk⟩
  ·obtain⟨its,_,pl,_⟩:=I.list hq
   refine⟨pl.isList.typeIs,fun a e=>?_⟩
   cases e
   obtain⟨o,n,e,c,hd,_⟩:=pl
   exact⟨o,e,hd⟩
  ·refine⟨⟨o,I.kIn p o hk,hc⟩,fun a e=>?_⟩
   cases e
   exact⟨o,I.kIn _ o hk,hd⟩
  ·have z:∃ o,s.heap.get? p=some o/\o.ExactDict:=by
    rcases hk with ⟨kvs,hk⟩ | ⟨kvs,hk⟩
    ·obtain⟨_,_,_,_,o,_,_,e,ex,_⟩:=I.hok p _ hk
     exact⟨o,e,ex⟩
    ·obtain⟨_,_,_,_,o,_,_,e,ex,_⟩:=I.hok p _ hk
     exact⟨o,e,ex⟩
   obtain⟨o,e,ex⟩:=z
   refine⟨⟨o,e,ex.1⟩,fun a e2=>?_⟩
   cases e2
   exact⟨o,e,ex.2.1⟩
  ·obtain⟨o,_,_,_,e,ex,_⟩:=I.hok p _ hk
   refine⟨⟨o,e,ex.1⟩,fun a e2=>?_⟩
   cases e2
   exact⟨o,e,ex.2.1⟩
 | _=>exact False.elim ty
def MC (K:Pj) (T:String) (r:V->List V->Hp->VK->Prop) (to:TE) (t:TA):TE:=fun σ H Q=>to σ H fun x H1=>K7 K T x H1/\t σ H1 fun xs H2=>r x xs H2 Q
variable {o e:QB} {es:List QB} {to:TE} {t:TA} {name:Str} {apos cpos:Pos} {T id:String} {r:V->List V->Hp->VK->Prop}
theorem zk (pa:PlainAttrs T) (slot:Slot T name id) (hty:typeOf (.builtin id)=pure (.type "method_descriptor")) (hm:Ms X id r) (ho:PE X o to) (ha:PA X (e::es) t)
  (hbase:QU o name X.env (eval o X.env)=eval o X.env:=by rfl)
  (hfew:((backTo cpos (QC (e::es) X.env)).all (fun x=>!x.1) && (backToKw cpos (QW [] X.env)).all (fun x=>x.1.isSome)
   && decide ((e::es).length+([]:List Q2).length+(if ([]:List Q2).isEmpty then 0 else 1) < 30))=true:=by rfl)
  (hline:(apos.endLine==cpos.line)=true:=by rfl) (hs:QC (e::es) X.env=(false,eval e X.env)::QC es X.env:=by rfl) (hplain:(backTo cpos (QC es X.env)).any (·.1)=false:=by rfl) :
  PE X (.Call (.Attribute o name apos) (e::es) [] cpos) (MC X.K T r to t):=by
 intro pins s σ H Q I h
 refine wpAny_Call_method_late hbase hfew hline rfl (dX (ho pins s σ H _ I h) fun v s1 ⟨x,H1,I1,r1,ty,q1⟩=>?_)
 obtain⟨h1,h2⟩:=Ge I1 r1 ty
 refine⟨T,id,pa,slot,hty,h1,h2,?_⟩
 have hA:=ha cpos pins s1 σ H1 _ I1 q1
 rw [hs] at hA ⊢
 refine Calls.callWith_builtin (by show (false || (backTo cpos (QC es X.env)).any (·.1))=false; rw [hplain] <;> rfl) (Calls.evalArgs_plain ?_)
 exact dX hA fun us s2 ⟨vs,H2,I2,r2,q2⟩=>hm pins s2 σ H2 x vs v us Q I2 r1 r2 q2
end
end L2

namespace L2
open PySem PySem.Spec PyProof.Rows

def Ib (X:Cx) (id:String) (r:V->List V->Hp->VK->Prop):Prop :=
 ∀ (pins:List (Qr×Obj)) (s:Qy) (σ:St) (H:Hp) (x:V) (xs:List V) (v:Qo) (us:List Qo) (Q:VK),Inv X pins σ H s->RelV x v->Vals xs us->r x xs H Q ->
  QA (model X.prog X.w) X.A (call (.builtin id) (v::us)) (EP X pins σ Q) X.xe s

theorem Vals.one:∀ {x:V} {us:List Qo},Vals [x] us->∃ u,us=[u]/\RelV x u
 | _,_,.cons r .nil=>⟨_,rfl,r⟩
theorem Vals.two:∀ {x y:V} {us:List Qo},Vals [x,y] us->∃ u v,us=[u,v]/\RelV x u/\RelV y v
 | _,_,_,.cons r (.cons q .nil)=>⟨_,_,rfl,r,q⟩
section
variable {X:Cx} {pins:List (Qr×Obj)} {σ:St} {H:Hp} {s:Qy} {l b:Qr} {xs ys zs:List V}

theorem Inv.lset {its its':List Qo} {n:Nat} {f:Array Qo->Array Qo} {t':Nat} (I:Inv X pins σ H s) (hH:H l=some (.lst xs))
  (e:s.heap.get? l=some { cls:=.type "list",data:=.seq its.toArray n }) (hf:f its.toArray=its'.toArray) (hv:Vals ys its') (hz:ys.length<=Qu) :
  Inv X pins σ (upd H l (.lst ys)) { s with heap:=s.heap.update l (Obj.mapSeq f),toks:=t' }:=by
 have q:=PySem.IsL.update e f
 rw [hf] at q
 refine I.write (x:=l) (e:=l) (by rw [hH]; exact trivial) (.inl rfl) (fun b' u hb hu=>(P5 s.heap (Obj.mapSeq f) (Ne.symm hb)).trans hu) ⟨_,q⟩ ?_
 exact⟨hz,its',_,hv,q⟩
theorem Inv.lnew {its:List Qo} {t':Nat} (I:Inv X pins σ H s) (hv:Vals ys its) (hz:ys.length<=Qu) :
  Inv X pins σ (upd H s.heap.objs.size (.lst ys)) { s with heap:=s.heap.push { cls:=.type "list",data:=.seq its.toArray },toks:=t' } :=
 I.laid (fun _ _ q=>PZ _ q) (MP _) ⟨hz,its,0,hv,P0 _ rfl⟩
theorem Inv.fresh (I:Inv X pins σ H s):H s.heap.objs.size=none:=I.hok.fresh (MP _)
theorem Inv.lstM (I:Inv X pins σ H s) (hH:H l=some (.lst xs)):xs.length<=Qu/\∃ (its:List Qo) (n:Nat),Vals xs its/\xs.length=its.length/\s.heap.get? l=some { cls:=.type "list",data:=.seq its.toArray n }:=by
 obtain⟨z,its,n,r,e⟩:=I.hok l _ hH
 exact⟨z,its,n,r,r.length,e⟩

theorem CU {n:Nat} (h:n<=Qu):Builtin.List.listTooLong n=false:=by
 unfold Builtin.List.listTooLong
 exact decide_eq_false ‹0›
end

section
variable {X:Cx}

def u6:V->List V->Hp->VK->Prop:=fun x vs H Q=>∃ l xs y,x=.ref l/\vs=[y]/\H l=some (.lst xs)/\xs.length < Qu/\Q .non (upd H l (.lst (xs++[y])))
theorem eM:Ib X "list.append" u6:=by
 intro pins s σ H x vs v us Q I rx rv h
 obtain⟨l,xs,y,rfl,rfl,hH,hz,q⟩:=h
 cases rx
 obtain⟨u,rfl,ru⟩:=rv.one
 obtain⟨z,its,n,r,hl,e⟩:=I.lstM hH
 refine call_meets F.slot_list_append ⟨_,e,rfl⟩ F.entry_list_append (F.args_list_append_2 _ _) (PySem.list_append l its.toArray n u (by rw [MT]; omega)) ⟨e,?_⟩
 refine⟨.non,_,I.lset (its':=its++[u]) hH e (by simp) (r.append (.cons ru .nil)) ?_,rfl,q⟩
 rw [Nb,Ni]
 omega

def Ek:V->List V->Hp->VK->Prop:=fun x vs H Q=>∃ l b xs zs,x=.ref l/\vs=[.ref b]/\H l=some (.lst xs)/\H b=some (.lst zs)/\xs.length+zs.length<=Qu/\Q .non (upd H l (.lst (xs++zs)))
theorem AZ:Ib X "list.extend" Ek:=by
 intro pins s σ H x vs v us Q I rx rv h
 obtain⟨l,b,xs,zs,rfl,rfl,hH,hB,hz,q⟩:=h
 cases rx
 obtain⟨u,rfl,ru⟩:=rv.one
 cases ru
 obtain⟨z,its,n,r,hl,e⟩:=I.lstM hH
 obtain⟨z2,its2,n2,r2,hl2,e2⟩:=I.lstM hB
 have hsz:its.toArray.size+its2.toArray.size<=Qu:=by rw [MT,MT]; omega
 have hlong:¬ (!its.toArray.isEmpty && Builtin.List.listTooLong (its.toArray.size+its2.toArray.size))=true:=by
  rw [CU hsz,Nj]
  exact MU
 refine call_meets F.slot_list_extend ⟨_,e,rfl⟩ F.entry_list_extend (F.args_list_extend_2 _ _)
  (AutoSeq1.list_extend_list_list_0 l its.toArray n b its2.toArray n2 hlong (by rw [MT]; omega) ‹0›) ⟨e,e2,?_⟩
 refine⟨.non,_,I.lset (its':=its++its2) hH e (by simp) (r.append r2) ?_,rfl,q⟩
 rw [Nb]
 omega

end


end L2

namespace Att
open PySem PySem.W PySem.Calls PyProof.Rows

theorem qe {P:Params} {h:Qt}:∀ (ns:List Int) (vs:List Qo),WellAll P h vs (ns.map WData.int)->IntsAre vs ns:=by
 intro ns
 induction ns with
 | nil =>
  intro vs w
  rw [Nk] at w
  cases w
  exact .nil
 | cons n ns ih =>
  intro vs w
  rw [MX] at w
  cases w with
  | cons a b =>
   cases a
   exact .cons _ _ (ih _ b)

theorem AY {l:OpenLaw} {n:Nat} (hn:l.most=some n) {P:Params} {h:Qt} {args:List WData} {vals:List Qo}
  (hpre:l.row.toRowW.claim.pre args=true) (hwl:WellAll P h vals args) :
  ∃ a vs ns,vals=[Value.ref a]/\args=[WData.list (ns.map WData.int)]/\h.get? a=some { cls:=.type "list",data:=.seq vs.toArray }/\IntsAre vs ns/\ns.length<=n:=by
 have hsh:WShape.hasAll [] args [.list .int]=true:=(pre_splitW hpre).1
 have hc:l.pre.holds [] { args:=args }=true:=(pre_splitW hpre).2
 obtain⟨d,r,rfl,h1,h2⟩:=hasAllW_cons hsh
 obtain rfl:=hasAllW_nil h2
 obtain⟨xs,rfl,h3⟩:=hasW_list h1
 obtain⟨ns,rfl⟩:=items_int h3
 have hlen:ns.length<=n:=by
  unfold OpenLaw.pre at hc
  have h4:(WTm.not (.lt (.lit (.int (n:Int))) (.len (.arg 0)))).holds [] { args:=[.list (ns.map .int)] }=true:=by
   have h4:=(holds_andW hc).1
   rw [hn] at h4
   exact h4
  have h5:=condW_of h4 (w_not (w_lt w_lit (w_len_list (w_arg rfl))))
  rw [MY] at h5
  refine Nat.le_of_not_lt fun q=>?_
  have q':(n:Int) < ((ns.length:Nat):Int):=by omega
  first
   | (rw [decide_eq_true q'] at h5; exact absurd h5 (by decide))
   | (simp at h5; omega)
 cases hwl with
 | cons w1 w2 =>
  cases w2
  cases w1 with
  | list ho hall=>exact⟨_,_,ns,rfl,rfl,ho,qe ns _ hall,hlen⟩

theorem zV (l:OpenLaw) (args:List WData):l.row.toRowW.claim.post args (.bool true) args=true :=
 postW_of (r:=l.row.toRowW) (X:=(true==true))
  (show WShape.has [] (.bool true) .bool=true by first | rfl | decide | simp [WShape.has,WShape.arms,WShape.armsAll])
  (show (WTm.eq .res (.lit (.bool true))).value [] { args:=args,res:=some (.bool true),after:=args }=some (.bool (true==true)) from w_eq_bool (w_res rfl) w_lit) rfl

theorem E5 {l:OpenLaw} {n:Nat} {q:Qq} {loose:List Str} {XP:(Str->Option Qo)->Qt->Prop} {YP:Qp->Qt->Prop} {d:DefRec}
  (hn:l.most=some n) (hdf:d.params.defaults=[])
  (call:∀ (w:Qp) (s₀ s₁:Qy) (mg mb:Str->Option Qo) (fa:Qr) (o:Obj) (pm cd doc:Qo) (a:Qr) (vs:List Qo) (ns:List Int),
   Ground q loose [] XP w s₀ mg mb s₁.heap->YP w s₁.heap ->
   s₁.heap.get? fa=some o->o.data=.func (docDef d.name d.params d.body d.scope pm cd doc)->s₁.heap.CodeRec cd d.name->mg d.name=some (.ref fa) ->
   s₁.heap.get? a=some { cls:=.type "list",data:=.seq vs.toArray }->IntsAre vs ns->ns.length<=n->s₁.gens=#[] ->
   QT (model l.prog w) callerA (.call (.ref fa) ⟨[.ref a],[]⟩) (fun r s'=>r=.ok (.ret (.bool true))/\OldK s₁.heap s'.heap/\s'.os=s₁.os/\AllBare s'.gens) s₁) :
  WalkO q loose XP YP l.row.toRowW d [] (fun f vs=>PySem.call f vs):=by
 intro w s₀ s₁ mg mb G Y fa o pm cd doc dV kV ho hd hcd hD hmg hg args vals as hpre hlay hrd hwl hlo
 obtain rfl:dV=.none:=Dflts.none hD hdf
 obtain rfl:kV=.none:=Dflts.noKw hD
 obtain⟨a,vs,ns,rfl,rfl,hobj,hints,hlen⟩:=AY hn hpre hwl
 refine enter_call (Q0 (call w s₀ s₁ mg mb fa o pm cd doc a vs ns G Y ho (fd_plain hd) hcd hmg hobj hints hlen hg) fun r s' hq=>?_)
 obtain⟨rfl,h2,h3,h4⟩:=hq
 exact⟨.inl ⟨.bool true,.bool true,[],rfl,fun _=>rfl,.bool true,zV l _,fun _=>⟨List.Pairwise.nil,fun _ hm=>(nomatch hm)⟩⟩,h2,h3,h4⟩

section
variable {prog:Qq} {w:Qp} {A:Qx} {E:Qo->Qy->Prop} {s:Qy} {K:Frag}

end
end Att

namespace L2
open PySem PySem.Spec PyProof.Rows

theorem tO:∀ {vs:List Qo} {ns:List Int},IntsAre vs ns->Vals (ns.map V.int) vs
 | _,_,.nil=>.nil
 | _,_,.cons n t h=>.cons ⟨t,rfl⟩ (tO h)

def Only (H:Hp):Prop:=∀ b,H b=none\/∃ o xs,H b=some (.frz o (.lst xs))

theorem CT {P:Qq} {w:Qp} {K:Pj} {mg mb:Str->Option Qo} {CX:xJ} {k:Nat} {fa a:Qr} {fd:QY} {x:Str} {sp:Sp} {s₁:Qy} {vs:List Qo} {ns:List Int}
  (KX:K.In s₁.heap) (hns:s₁.heap.Ns Qv mg) (hb:s₁.heap.Ns builtinsNs mb) (hbb:∀ x:Str,x ≠ "__name__"->mb x=Qw x) (hlim:s₁.heap.NoLimit) (hg:s₁.gens=#[])
  (ha:s₁.heap.get? a=some { cls:=.type "list",data:=.seq vs.toArray }) (hi:IntsAre vs ns) (hl:ns.length<=Qu) (hr:fZ k callerA)
  (F:∀ base:Qt,K.In base->base.Ns Qv mg->jp P w K mg base CX k fa fd [x] sp) (hbind:∀ (s:Qy) (u:Qo),QZ s fd ⟨[u],[]⟩ [(x,u)])
  (hsp:∀ H:Hp,Only H->oo K H a (ns.map V.int)->sp [.ref a] H (fun v _=>v=.bl true) fun _ _ _=>False)
  (hCX:∀ H e s',CX [] H s₁ (fun _ _ _=>False) e s'->False) :
  QT (model P w) callerA (.call (.ref fa) ⟨[.ref a],[]⟩) (fun r s'=>r=.ok (.ret (.bool true))/\OldK s₁.heap s'.heap/\s'.os=s₁.os/\AllBare s'.gens) s₁:=by
 have rv:=tO hi
 have lenV:=hi.length
 have core:∀ H:Hp,Only H->oo K H a (ns.map V.int)->oO P w H s₁.heap->(∀ b,H b≠none->b=a)->(H a≠none->K.lookup a=none) ->
   QT (model P w) callerA (.call (.ref fa) ⟨[.ref a],[]⟩) (fun r s'=>r=.ok (.ret (.bool true))/\OldK s₁.heap s'.heap/\s'.os=s₁.os/\AllBare s'.gens) s₁:=by
  intro H hO hS hok hA hK
  have base_of:∀ {b:Qr} {o:Obj},s₁.heap.get? b=some o->H b=none->(vB s₁.heap H).get? b=some o:=fun e n=>CA e n
  have noA:∀ {b:Qr} {o:Obj} {es:Array Rg} {ep:Nat},s₁.heap.get? b=some o->o.data=.dict es ep->H b=none:=fun {b o es ep} e d=>by
   cases q:H b with
   | none=>rfl
   | some u =>
    have e':b=a:=hA b (by rw [q]; simp)
    subst e'
    rw [ha] at e; cases e
    have d':Data.seq vs.toArray _=Data.dict es ep:=d
    cases d'
  have nsK:∀ {b:Qr} {m:Str->Option Qo},s₁.heap.Ns b m->(vB s₁.heap H).Ns b m:=fun {b m} ⟨o,es,ep,e,d,r⟩=>⟨o,es,ep,base_of e (noA e d),d,r⟩
  have hKb:K.In (vB s₁.heap H):=fun b o e=>base_of (KX b o e) (by
   cases q:H b with
   | none=>rfl
   | some u =>
    have e':b=a:=hA b (by rw [q]; simp)
    subst e'
    rw [hK (by rw [q]; simp)] at e; cases e)
  have hM:Mod K mg (vB s₁.heap H):=⟨hKb,nsK hns,⟨mb,nsK hb,hbb⟩,let ⟨mc,h1,h2⟩:=hlim; ⟨mc,nsK h1,h2⟩⟩
  have e0:Ai P w K mg (vB s₁.heap H) callerA [] s₁ H:=⟨rfl,hM,fun b o e=>DN e,MZ (AD _ _),trivial,fun b hb=>absurd (show b∈([]:List Qr) from hb) (by simp),hok,.of_eq hg⟩
  refine Q0 ((F _ hKb (nsK hns)).run callerA [] s₁ H ⟨[.ref a],[]⟩ [.ref a] [.ref a] _ _ hr e0 (hbind s₁ (.ref a)) (.cons rfl .nil) (hsp H hO hS)) fun r s' h=>?_
  cases r with
  | error e=>exact(hCX H e s' h).elim
  | ok fl =>
   cases fl with
   | next=>exact False.elim h
   | brk=>exact False.elim h
   | cont=>exact False.elim h
   | ret u =>
    obtain⟨v,H',os,bare,un,hok',r',q⟩:=h
    have q':v=.bl true:=q
    subst q'
    obtain rfl:u=Value.bool true:=r'
    refine⟨rfl,OldK.of_keep fun b o e=>?_,os,bare⟩
    cases q:H b with
    | none=>exact un.keep b o e q (by intro z; exact absurd (show b∈([]:List Qr) from z) (by simp)) (by simp)
    | some u =>
     rcases hO b with z | ⟨ob,xs,z⟩
     ·rw [q] at z; cases z
     ·have z2:=un.frzs b ob _ z
      obtain⟨e1,_⟩:=hok b _ z
      obtain⟨e2,_⟩:=hok' b _ z2
      rw [e] at e1; cases e1
      exact e2
 cases hk:K.lookup a with
 | some o =>
  have e:=KX a o hk
  rw [ha] at e
  cases e
  refine core (fun _=>none) (fun _=>.inl rfl) (.inr ⟨_,vs.toArray,_,hk,rfl,rfl,rfl,by rw [MT,lenV]; exact hl,by simpa using rv⟩) (fun b u z=>by have z':(none:Option HO)=some u:=z; cases z') (fun b z=>absurd rfl z) fun z=>absurd rfl z
 | none =>
  refine core (fun b=>if b=a then some (.frz { cls:=.type "list",data:=.seq vs.toArray } (.lst (ns.map V.int))) else none) (fun b=>?_) (.inl (.inr ⟨{ cls:=.type "list",data:=.seq vs.toArray },if_pos rfl⟩)) (fun b u z=>?_) (fun b z=>?_) fun _=>hk
  ·by_cases hb:b=a
   ·exact .inr ⟨_,_,if_pos hb⟩
   ·exact .inl (if_neg hb)
  ·by_cases hb:b=a
   ·have z':=(if_pos hb).symm.trans z
    cases z'
    subst hb
    exact⟨ha,by rw [MY]; exact hl,vs,_,rv,ha⟩
   ·have z':=(if_neg hb).symm.trans z
    cases z'
  ·by_cases hb:b=a
   ·exact hb
   ·exact absurd (if_neg hb) z
end L2

namespace L2
open PySem PySem.Spec PyProof.Rows

theorem J3 {l:PF} {n k:Nat} {q:Qq} {loose:List Str} {XP:(Str->Option Qo)->Qt->Prop} {YP:Qp->Qt->Prop} {d:DefRec} {K:Params->Pj} {CX:Qp->xJ} {sp:Qp->Sp} {x:Str}
  (hn:l.most=some n) (hn2:n<=Qu) (hdf:d.params.defaults=[]) (hr:fZ k callerA)
  (hY:∀ (w:Qp) (h:Qt),YP w h->(K w.params).In h)
  (F:∀ (w:Qp) (mg:Str->Option Qo) (fa:Qr) (h:Qt),(K w.params).In h->h.Ns Qv mg->mg d.name=some (.ref fa) ->
   ∃ fd:QY,(∀ (s:Qy) (u:Qo),QZ s fd ⟨[u],[]⟩ [(x,u)]) /\
    ∀ base:Qt,(K w.params).In base->base.Ns Qv mg->jp l.prog w (K w.params) mg base (CX w) k fa fd [x] (sp w))
  (hsp:∀ (w:Qp) (H:Hp) (a:Qr) (ns:List Int),ns.length<=n->Only H->oo (K w.params) H a (ns.map V.int)->sp w [.ref a] H (fun v _=>v=.bl true) fun _ _ _=>False)
  (hCX:∀ (w:Qp) (H:Hp) (s:Qy) (e:Qo) (s':Qy),CX w [] H s (fun _ _ _=>False) e s'->False) :
  PySem.W.WalkO q loose XP YP l.row.toRowW d [] (fun f vs=>PySem.call f vs):=by
 refine Att.E5 hn hdf fun w s₀ s₁ mg mb fa o pm cd doc a vs ns G Y ho hd hcd hmg hobj hints hlen hg=>?_
 have KX:=hY w _ Y
 obtain⟨fd,hb,hF⟩:=F w mg fa _ KX G.T.g hmg
 exact CT KX G.T.g G.T.b G.T.builtins G.T.nolimit hg hobj hints (MG hlen hn2) hr hF hb (fun H hO hS=>hsp w H a ns hlen hO hS) fun H e s'=>hCX w H s₁ e s'
end L2

namespace L2
open PySem PySem.Spec PyProof.Rows

def inClass (s:QD) (j:Nat):QD:=match s with
 | .ClassDef _ _ _ body _ _ _ _ _ _ _=>body.getD j (.Pass ⟨0,0,0,0⟩)
 | _=>.Pass ⟨0,0,0,0⟩
def mJ (s:QD):Arguments:=match s with
 | .FunctionDef _ a _ _ _ _ _ _ _ _=>a
 | _=>{ posonlyargs:=[],args:=[],vararg:=none,kwonlyargs:=[],kw_defaults:=[],kwarg:=none,defaults:=[] }
def fP (s:QD):List QD:=match s with
 | .FunctionDef _ _ b _ _ _ _ _ _ _=>b
 | _=>[]
def aB (s:QD):Qz:=match s with
 | .FunctionDef _ _ _ _ _ _ sc _ _ _=>sc
 | _=>{ kind:=.function,names:=[],isGenerator:=false,isCoroutine:=false }

abbrev Jx:xJ:=fun _ _ _ _ _ _=>False
abbrev E0:XK:=fun _ _ _=>False
structure vC (K:Pj) (x qual:Str) (st:QD) (f:Qr) (fd:QY):Prop where
 ex:∃ (oc:Qo) (od:Option Qr) (kV doc pm:Qo) (an:Option Qr) (cdv ct:Qo) (osl:Array (Option Qo)),
  fd=PC x qual (mJ st) (fP st) (aB st) .none kV doc pm an cdv ct/\K.lookup f=some ⟨oc,od,.func fd,osl⟩/\PD K cdv qual=true
 kp:Py K (.ref f)=true
section
variable {P:Qq} {w:Qp} {K:Pj} {mg:Str->Option Qo} {base:Qt}
theorem vC.ok {x qual:Str} {st:QD} {f:Qr} {fd:QY} {N ps:List Str} {k:Nat} {sp:Sp} (F:vC K x qual st f fd) (S:bc N ps (aB st)) (len:∀ vs H Q E,sp vs H Q E->vs.length=ps.length)
  (hbody:∀ (cdv:Qo) (A:Qx) (outer:List Env) (s:Qy) (H:Hp) (vs:List V) (Q:VK) (E:XK),fZ k (A.deeper (envOfC qual (aB st) s.heap.objs.size f cdv))->sp vs H Q E ->
   ∃ t,xi (lu Jx P w K mg base N qual (aB st) f cdv A outer s H E).nox (fP st) t/\t { nx:=fun _ H'=>Q .non H',rt:=Q } (start N vs) H):jp P w K mg base Jx (k+1) f fd ps sp:=by
 obtain⟨oc,od,kV,doc,pm,an,cdv,ct,osl,rfl,lk,hcd⟩:=F.ex
 refine E7 lk hcd S len fun A outer s H vs Q E hr hsp=>?_
 obtain⟨t,h,q⟩:=hbody cdv A outer s H vs Q E hr hsp
 exact⟨t,h.nox,q⟩
theorem vC.binds {x qual:Str} {st:QD} {f:Qr} {fd:QY} {ps:List Str} (F:vC K x qual st f fd)
  (h:∀ (kV doc pm:Qo) (an:Option Qr) (cdv ct:Qo) (us:List Qo),us.length=ps.length->bindArgs (PC x qual (mJ st) (fP st) (aB st) .none kV doc pm an cdv ct) ⟨us,[]⟩=pure (ps.zip us)):Binds K fd ps []:=by
 obtain⟨oc,od,kV,doc,pm,an,cdv,ct,osl,rfl,lk,hcd⟩:=F.ex
 exact .all (h kV doc pm an cdv ct)
theorem bR {x qual:Str} {st:QD} {f:Qr} {oc:Qo} {od an:Option Qr} {osl:Array (Option Qo)} {kV doc pm cdv ct:Qo} (l:K.lookup f=some ⟨oc,od,.func (PC x qual (mJ st) (fP st) (aB st) .none kV doc pm an cdv ct),osl⟩)
  (c:PD K cdv qual=true) (k:Py K (.ref f)=true):vC K x qual st f (PC x qual (mJ st) (fP st) (aB st) .none kV doc pm an cdv ct):=⟨⟨oc,od,kV,doc,pm,an,cdv,ct,osl,rfl,l,c⟩,k⟩
end
section
variable {X:Cx}
theorem pv (i:Nat) {x:Str} {pos:Pos} (hN:X.N[i]?=some x:=by rfl) (hv:HY X.env.scope x:=by first | exact Or.inl rfl | exact Or.inr (Or.inl rfl) | exact Or.inr (Or.inr rfl)) (hd:(x==("__debug__":Str))=false:=by decide)
  (hcd:(x==("__classdict__":Str))=false:=by decide):PE X (.Name x pos) (oQ i):=Gz hN hv hd hcd
end

theorem Af {A B:Prop} (h:B):if false=true then A else B:=by
 rw [if_neg MU]
 exact h
theorem AU {A B:Prop} (h:A):if true=true then A else B:=by
 rw [if_pos rfl]
 exact h
def bm (H H':Hp):Prop:=∀ b o,H b=some o->H' b=some o
theorem bm.refl (H:Hp):bm H H:=fun _ _ h=>h
theorem bm.trans {H H1 H2:Hp} (a:bm H H1) (b:bm H1 H2):bm H H2:=fun c o h=>b c o (a c o h)
theorem bm.free {H H':Hp} (e:bm H H') {l:Qr} (h:H' l=Option.none):H l=Option.none:=by
 cases q:H l with
 | none=>rfl
 | some o =>
  rw [e l o q] at h
  cases h
theorem bm.seq {K:Pj} {H H':Hp} {a:Qr} {xs:List V} (e:bm H H') (h:oo K H a xs):oo K H' a xs:=by
 rcases h with (h | ⟨o,h⟩) | h
 ·exact .inl (.inl (e _ _ h))
 ·exact .inl (.inr ⟨o,e _ _ h⟩)
 ·exact .inr h

end L2
namespace L2
open PySem PySem.Spec PyProof.Rows

section
variable {κ:Type} [DecidableEq κ]
def kI (kvs:List (κ×V)) (k:κ):Option V:=(kvs.find? fun kv=>decide (kv.1=k)).map (·.2)
def putK (kvs:List (κ×V)) (k:κ) (v:V):List (κ×V) :=
 if (kvs.any fun kv=>decide (kv.1=k))=true then kvs.map (fun kv=>if kv.1=k then (kv.1,v) else kv) else kvs++[(k,v)]
theorem kZ {p:κ×V} {r:List (κ×V)} {k:κ} (e:p.1=k):kI (p::r) k=some p.2:=by simp [kI,Nm,e]
theorem jB {p:κ×V} {r:List (κ×V)} {k:κ} (e:¬ p.1=k):kI (p::r) k=kI r k:=by simp [kI,Nm,e]
theorem rV (k:κ):∀ kvs:List (κ×V),(kvs.any fun kv=>decide (kv.1=k))=(kI kvs k).isSome
 | []=>rfl
 | p::r=>by
  rw [Nn]
  by_cases e:p.1=k
  ·simp only [kZ e,decide_eq_true e,Bool.true_or,Option.isSome_some]
  ·rw [jB e,decide_eq_false e,Bool.false_or]; exact rV k r
theorem jj (kvs:List (κ×V)) (k:κ) (v:V):(putK kvs k v).length<=kvs.length+1:=by
 unfold putK
 split
 ·rw [MY]; omega
 ·rw [Nb,MV,Np]; omega
theorem rQ.isSome_eq {o:Option V} {u:Option Qo} (r:rQ o u):o.isSome=u.isSome:=by
 cases o with
 | none=>cases u with
  | none=>rfl
  | some _=>exact(show False from r).elim
 | some _=>cases u with
  | none=>exact(show False from r).elim
  | some _=>rfl
theorem KV.val {kvs:List (κ×V)} {vs:List (κ×Qo)} (r:KV kvs vs) (k:κ):rQ (kI kvs k) (valueAt vs k):=by
 unfold KV at r
 induction r with
 | nil=>exact True.intro
 | @cons p q ps qs h t ih =>
  obtain⟨h1,h2⟩:=h
  by_cases e:p.1=k
  ·have e':q.1=k:=h1.symm.trans e
   have b:valueAt (q::qs) k=some q.2:=by simp [valueAt,Nm,e']
   rw [kZ e,b]; exact h2
  ·have e':¬ q.1=k:=fun z=>e (h1.trans z)
   have b:valueAt (q::qs) k=valueAt qs k:=by simp [valueAt,Nm,e']
   rw [jB e,b]; exact ih
theorem KV.any {kvs:List (κ×V)} {vs:List (κ×Qo)} (r:KV kvs vs) (k:κ):(kvs.any fun kv=>decide (kv.1=k))=vs.any fun kv=>decide (kv.1=k):=by
 unfold KV at r
 induction r with
 | nil=>rfl
 | cons h t ih=>rw [Nn,Nn,ih,h.1]
theorem KV.repl {kvs:List (κ×V)} {vs:List (κ×Qo)} (r:KV kvs vs) (k:κ) {y:V} {u:Qo} (ry:RelV y u) :
  KV (kvs.map fun kv=>if kv.1=k then (kv.1,y) else kv) (vs.map fun kv=>if kv.1=k then (kv.1,u) else kv):=by
 unfold KV at r ⊢
 induction r with
 | nil=>exact .nil
 | @cons p q ps qs h t ih =>
  rw [MX,MX]
  refine .cons ?_ ih
  obtain⟨h1,h2⟩:=h
  by_cases e:p.1=k
  ·rw [if_pos e,if_pos (h1.symm.trans e)]; exact⟨h1,ry⟩
  ·rw [if_neg e,if_neg (fun z=>e (h1.trans z))]; exact⟨h1,h2⟩
theorem KV.put {kvs:List (κ×V)} {vs:List (κ×Qo)} (r:KV kvs vs) (k:κ) {y:V} {u:Qo} (ry:RelV y u):KV (putK kvs k y) (stored vs k u):=by
 unfold putK stored
 rw [r.any k]
 by_cases e:(vs.any fun kv=>decide (kv.1=k))=true
 ·rw [if_pos e,if_pos e]; exact r.repl k ry
 ·rw [if_neg e,if_neg e]; exact Paired.snoc r ⟨rfl,ry⟩
theorem KV.keys {kvs:List (κ×V)} {vs:List (κ×Qo)} (r:KV kvs vs):kvs.map (·.1)=vs.map (·.1):=by
 unfold KV at r
 induction r with
 | nil=>rfl
 | cons h t ih=>rw [MX,MX,ih,h.1]
theorem KV.length {kvs:List (κ×V)} {vs:List (κ×Qo)} (r:KV kvs vs):kvs.length=vs.length:=Paired.length r
end


theorem BM {P:Qq} {w:Qp} {k:Key} {u:Qo} (r:RelV (kV k) u):(cw P w).is k u=true:=by
 cases k with
 | inl i=>obtain⟨t,e⟩:=(show ∃ t,u=Value.int i t from r); subst e; exact vY P w i t
 | inr x=>obtain⟨t,e⟩:=(show ∃ t,u=Value.str x t from r); subst e; exact wQ P w x t
theorem uc {P:Qq} {w:Qp}:∀ {ks:List Key} {us:List Qo},Vals (ks.map kV) us->ItemsAre (cw P w) ks us
 | [],_,r=>by rw [Nk] at r; cases r; exact .nil
 | k::ks,_,r=>by
  rw [MX] at r
  cases r with
  | cons h t=>exact .cons (BM h) (uc t)

abbrev KT (H:Hp):List (List Key×V)->List (List Key×Qr×Qo)->Prop:=Qs fun p q=>p.1=q.1/\H q.2.1=some (.tup (p.1.map kV))/\RelV p.2 q.2.2
theorem KT.val {H:Hp} {kvs:List (List Key×V)} {xs:List (List Key×Qr×Qo)} (r:KT H kvs xs) (k:List Key):rQ (kI kvs k) ((atKey xs k).map (·.2)):=by
 induction r with
 | nil=>exact True.intro
 | @cons p q ps qs h t ih =>
  obtain⟨h1,_,h2⟩:=h
  by_cases e:p.1=k
  ·have e':q.1=k:=h1.symm.trans e
   have b:atKey (q::qs) k=some q.2:=by simp [atKey,Nm,e']
   rw [kZ e,b]; exact h2
  ·have e':¬ q.1=k:=fun z=>e (h1.trans z)
   have b:atKey (q::qs) k=atKey qs k:=by simp [atKey,Nm,e']
   rw [jB e,b]; exact ih
theorem KT.repl {H:Hp} {kvs:List (List Key×V)} {xs:List (List Key×Qr×Qo)} (r:KT H kvs xs) (k:List Key) {y:V} {u:Qo} (ry:RelV y u) :
  KT H (kvs.map fun kv=>if kv.1=k then (kv.1,y) else kv) (xs.map (putAt k u)):=by
 induction r with
 | nil=>exact .nil
 | @cons p q ps qs h t ih =>
  rw [MX,MX]
  refine .cons ?_ ih
  obtain⟨h1,h2,h3⟩:=h
  unfold putAt
  by_cases e:p.1=k
  ·rw [if_pos e,if_pos (h1.symm.trans e)]; exact⟨h1,h2,ry⟩
  ·rw [if_neg e,if_neg (fun z=>e (h1.trans z))]; exact⟨h1,h2,h3⟩
theorem KT.put {H:Hp} {kvs:List (List Key×V)} {xs:List (List Key×Qr×Qo)} (r:KT H kvs xs) (k:List Key) {b:Qr} {y:V} {u:Qo} (hb:H b=some (.tup (k.map kV))) (ry:RelV y u) :
  KT H (putK kvs k y) (storedH xs k b u):=by
 have e:(kvs.any fun kv=>decide (kv.1=k))=(atKey xs k).isSome:=by
  rw [rV,(r.val k).isSome_eq,Option.isSome_map]
 unfold putK storedH
 rw [e]
 by_cases q:(atKey xs k).isSome=true
 ·rw [if_pos q,if_pos q]; exact r.repl k ry
 ·rw [if_neg q,if_neg q]; exact Paired.snoc r ⟨rfl,hb,ry⟩
theorem KT.keeps {H H':Hp} {kvs:List (List Key×V)} {xs:List (List Key×Qr×Qo)} (r:KT H kvs xs) (ht:∀ b ys,H b=some (.tup ys)->H' b=some (.tup ys)):KT H' kvs xs :=
 Paired.mapP r fun _ _ z=>⟨z.1,ht _ _ z.2.1,z.2.2⟩

section
variable {P:Qq} {w:Qp} {H:Hp} {h:Qt} {a:Qr}
theorem Fg {u:HO} (ok:oO P w H h) (e:Rd H a u):dm P w H h a u:=e.ok ok
theorem C8 {kvs:List (Key×V)} (ok:oO P w H h) (e:Rd H a (.dK kvs)):kvs.length<=Qu/\(a==sysModules)=false/\∃ vs,KV kvs vs/\h.DictOf (cw P w) a vs :=
 show dm P w H h a (.dK kvs) from Fg ok e
theorem Fa {kvs:List (Key×V)} (ok:oO P w H h) (e:H a=some (.dK kvs)):kvs.length<=Qu/\(a==sysModules)=false/\∃ vs,KV kvs vs/\h.DictOf (cw P w) a vs:=C8 ok (.inl e)
theorem qH {ks:List Key} (ok:oO P w H h) (e:H a=some (.tup (ks.map kV))):(tupleKind (cw P w)).is h ks a:=by
 obtain⟨_,its,r,o,h1,h2,n,h3⟩:=(show dm P w H h a (.tup (ks.map kV)) from ok a _ e)
 exact⟨o,its.toArray,n,h1,h2,h3,by simpa using uc r⟩
theorem zq {kvs:List (List Key×V)} (ok:oO P w H h) (e:Rd H a (.dT kvs)):kvs.length<=Qu/\(a==sysModules)=false /\
  ∃ xs,KT H kvs xs/\h.DictOfH (tupleKind (cw P w)) a xs:=by
 obtain⟨z,y,xs,r,o,es,ep,h1,h2,h3,h4,h5⟩:=(show dm P w H h a (.dT kvs) from Fg ok e)
 refine⟨z,y,xs,r,o,es,ep,h1,h2,h3,h4,fun x hx=>?_,h5⟩
 have all:∀ {l:List (List Key×V)} {m:List (List Key×Qr×Qo)},KT H l m->∀ x∈m,(tupleKind (cw P w)).is h x.1 x.2.1:=by
  intro l m q
  induction q with
  | nil=>intro x hx; exact nomatch hx
  | @cons p q ps qs hq t ih =>
   intro x hx
   rcases List.mem_cons.mp hx with e | hx
   ·subst e
    exact qH ok (by rw [<- hq.1]; exact hq.2.1)
   ·exact ih x hx
 exact all r x hx
theorem Fi {kvs:List (List Key×V)} (ok:oO P w H h) (e:H a=some (.dT kvs)):kvs.length<=Qu/\(a==sysModules)=false /\
  ∃ xs,KT H kvs xs/\h.DictOfH (tupleKind (cw P w)) a xs:=zq ok (.inl e)
end

def Hw (H:Hp) (a:Qr) (y:V) (r:Option V):Prop :=
 (∃ kvs k,Rd H a (.dK kvs)/\y=kV k/\r=kI kvs k)\/∃ kvs k b,Rd H a (.dT kvs)/\y=.ref b/\H b=some (.tup (k.map kV))/\r=kI kvs k
def Hr (H:Hp) (a:Qr) (y v:V) (H':Hp):Prop :=
 (∃ kvs k,H a=some (.dK kvs)/\y=kV k/\kvs.length < Qu/\H'=upd H a (.dK (putK kvs k v))) \/
 ∃ kvs k b,H a=some (.dT kvs)/\y=.ref b/\H b=some (.tup (k.map kV))/\kvs.length < Qu/\H'=upd H a (.dT (putK kvs k v))
theorem Hr.k {H:Hp} {a:Qr} {kvs:List (Key×V)} {k:Key} {v:V} (e:H a=some (.dK kvs)) (hl:kvs.length < Qu):Hr H a (kV k) v (upd H a (.dK (putK kvs k v))):=.inl ⟨kvs,k,e,rfl,hl,rfl⟩
theorem Hr.t {H:Hp} {a b:Qr} {kvs:List (List Key×V)} {k:List Key} {v:V} (e:H a=some (.dT kvs)) (eb:H b=some (.tup (k.map kV))) (hl:kvs.length < Qu) :
  Hr H a (.ref b) v (upd H a (.dT (putK kvs k v))):=.inr ⟨kvs,k,b,e,rfl,eb,hl,rfl⟩


section
variable {X:Cx} {pins:List (Qr×Obj)} {σ:St} {H:Hp} {s:Qy} {a:Qr} {y v:V} {u r:Qo} {o:Option V} {A:Qx} {E:Qo->Qy->Prop}

theorem Inv.big (I:Inv X pins σ H s):sysModules < s.heap.objs.size:=by
 have h:Qv < s.heap.objs.size:=(I.mod.glob.keeps I.bk).lt
 exact Nq (by decide) h

theorem Bq {Q:Qo->Qy->Prop} (hu:A.units+1 < QX) (I:Inv X pins σ H s) (g:Hw H a y (some v)) (ry:RelV y u) (h:∀ w' s',Inv X pins σ H s'->RelV v w'->Q w' s') :
  QA (model X.prog X.w) A (getItem (.ref a) u) Q E s:=by
 rcases g with ⟨kvs,k,e,ey,l⟩ | ⟨kvs,k,b,e,ey,eb,l⟩
 ·subst ey
  obtain⟨z,hd,vs,rel,dd⟩:=C8 I.hok e
  obtain⟨w',hw,rw'⟩:=rQ.some_of (v:=v) (o:=valueAt vs k) (by rw [l]; exact rel.val k)
  exact wpAny_getItem_of (BM ry) dd.mapOf hw (h w' _ (I.tok _) rw')
 ·subst ey
  cases (show u=Value.ref b from ry)
  obtain⟨z,hd,xs,rel,dd⟩:=zq I.hok e
  obtain⟨w',hw,rw'⟩:=rQ.some_of (v:=v) (o:=(atKey xs k).map (·.2)) (by rw [l]; exact rel.val k)
  obtain⟨p,hp,hp2⟩:=Option.map_eq_some_iff.mp hw
  refine wpAny_getItem_heap (Rh hu) (qH I.hok eb) dd hp ?_
  rw [hp2]
  exact h w' _ (I.tok _) rw'
theorem mS {h':Qt} {t':Nat} {ob:HO} (I:Inv X pins σ H s) (mu:Im (H a)) (hs:PY a s.heap h') (he:∃ q,h'.get? a=some q) (new:dm X.prog X.w (upd H a ob) h' a ob) :
  Inv X pins σ (upd H a ob) { s with heap:=h',toks:=t' } :=
 I.write (x:=a) (e:=a) mu (.inl rfl) (fun b q hb z=>(hs.2 b hb).trans z) he new
theorem FL {P:Qq} {w:Qp} {H':Hp} {h':Qt} {kvs:List (Key×V)} {vs:List (Key×Qo)} (z:kvs.length<=Qu) (hd:(a==sysModules)=false) (rel:KV kvs vs) (dd:h'.DictOf (cw P w) a vs) :
  dm P w H' h' a (.dK kvs):=⟨z,hd,vs,rel,dd⟩
theorem mG {H':Hp} {Q:Unit->Qy->Prop} (hu:A.units+1 < QX) (I:Inv X pins σ H s) (g:Hr H a y v H') (ry:RelV y u) (rv:RelV v r) (h:∀ s',Inv X pins σ H' s'->Q () s') :
  QA (model X.prog X.w) A (setItem (.ref a) u r) Q E s:=by
 rcases g with ⟨kvs,k,e,ey,l,eH⟩ | ⟨kvs,k,b,e,ey,eb,l,eH⟩
 ·subst ey eH
  obtain⟨z,hd,vs,rel,dd⟩:=Fa I.hok e
  have hz:vs.length<=Qu:=by rw [<- rel.length]; exact z
  have hl:(putK kvs k v).length<=Qu:=by have:=jj kvs k v; omega
  refine wpAny_setItem_pairs (hsz:=hz) (BM ry) dd fun h' dd' hs=>h _ ?_
  have he:∃ q,h'.get? a=some q:=let ⟨q,_,_,hq,_⟩:=dd'; ⟨q,hq⟩
  exact mS I (by rw [e]; exact True.intro) hs he (FL hl hd (rel.put k rv) dd')
 ·subst ey eH
  cases (show u=Value.ref b from ry)
  obtain⟨z,hd,xs,rel,dd⟩:=Fi I.hok e
  have hz:xs.length<=Qu:=by rw [<- Paired.length rel]; exact z
  have hl:(putK kvs k v).length<=Qu:=by have:=jj kvs k v; omega
  refine wpAny_setItem_heap (hsz:=hz) (Rh hu) (qH I.hok eb) dd fun h' dd' hs=>h _ ?_
  obtain⟨q,es,ep,hq,h2,h3,h4,_,h5⟩:=dd'
  refine mS I (by rw [e]; exact True.intro) hs ⟨q,hq⟩ ⟨hl,hd,_,(rel.put k eb rv).keeps fun c ys ec=>?_,q,es,ep,hq,h2,h3,h4,h5⟩
  rw [aJ (Dg ec e (fun z=>nomatch z))]
  exact ec
end



def Dz (i:QB):Prop:=∀ ov iv,subscripted i false ov iv=operate [ov,iv] (getItem ov iv)
theorem Dr {prog:Qq} {w:Qp} {A:Qx} {E:Qo->Qy->Prop} {s:Qy} {env:Env} {value slice:QB} {pos:Pos} {T id:String} {Q:Qo->Qy->Prop}
  (hl:typeLookup (.type T) "__getitem__"=pure (some (.builtin id))) (hs:Dz slice)
  (h:QA (model prog w) A (eval value env) (fun o s₁=>QA (model prog w) A (eval slice env) (fun i s₂=>s₂.TypeIs o T/\QA (model prog w) A (getItem o i) Q E s₂) E s₁) E s) :
  QA (model prog w) A (eval (.Subscript value slice pos) env) Q E s:=by
 refine Subscript_ (QE h (fun o s₁ h₁=>QE h₁ (fun i s₂ h₂=>?_) fun _ _ x=>x) fun _ _ x=>x)
 obtain⟨hT,h₂⟩:=h₂
 unfold subscriptTail
 refine QI ?_
 rw [getitemInPython_of_ne hT.not_modules]
 refine QI (wpAny_specialOf hT hl ?_)
 have fin:QA (model prog w) A (subscripted slice false o i) (fun r s₃=>QA (model prog w) A (letTemporaryGo value o r >>= fun _=>pure r) Q E s₃) E s₂:=by
  rw [hs o i]
  exact wpAny_operating (QE h₂ (fun r s₃ h₃=>QI (wpAny_letTemporaryGo (QH h₃))) fun _ _ x=>x)
 first
  | exact QH (QI fin)
  | exact QI (QH (QI fin))
  | exact QI fin

theorem vN {X:Cx} {pins:List (Qr×Obj)} {σ:St} {H:Hp} {s:Qy} {a:Qr} {y:V} {o:Option V} (I:Inv X pins σ H s) (g:Hw H a y o):s.TypeIs (.ref a) "dict":=by
 rcases g with ⟨kvs,k,e,_,_⟩ | ⟨kvs,k,b,e,_,_,_⟩
 ·obtain⟨_,_,vs,_,dd⟩:=C8 I.hok e
  exact dd.typeIs
 ·obtain⟨_,_,xs,_,dd⟩:=zq I.hok e
  exact dd.typeIs
def HK (td ty:TE):TE:=fun σ H Q=>td σ H fun x H1=>ty σ H1 fun y H2=>∃ a v,x=.ref a/\Hw H2 a y (some v)/\Q v H2
section
variable {X:Cx} {o i e value:QB} {pos pos' tpos:Pos} {td ty tv:TE}
theorem DZ (hu:X.A.units+1 < QX) (ho:PE X o td) (hi:PE X i ty) (hs:Dz i):PE X (.Subscript o i pos) (HK td ty):=by
 intro pins s σ H Q I h
 refine Dr PySem.F.slot_dict_getitem.lookup hs (dX (ho pins s σ H _ I h) fun u s1 ⟨x,H1,I1,rx,q1⟩=>dX (hi pins s1 σ H1 _ I1 q1) fun iv s2 ⟨y,H2,I2,ry,a,v,ex,g,q2⟩=>?_)
 subst ex
 obtain rfl:u=Value.ref a:=rx
 exact⟨vN I2 g,Bq hu I2 g ry fun w' s3 I3 rw'=>⟨v,H2,I3,rw',q2⟩⟩
end


theorem BK {P:Qq} {w:Qp} {H:Hp} (h:Qt) (hb:sysModules < h.objs.size):dm P w H (h.push { cls:=.type "dict",data:=.dict #[] }) h.objs.size (.dT []) :=
 ⟨M0 _,beq_eq_false_iff_ne.mpr (Ne.symm (MF hb)),[],.nil,_,#[],0,P0 _ rfl,⟨rfl,rfl,rfl⟩,rfl,rfl,Nr⟩
def FH:TE:=fun _ H Q=>∀ p,H p=none->Q (.ref p) (upd H p (.dT []))
section
variable {X:Cx} {pos:Pos}
theorem CJ:PE X (.Dict [] [] pos) FH:=fun pins s σ H Q I h =>
 wpAny_Dict_empty ⟨.ref s.heap.objs.size,_,I.laid (a:=s.heap.objs.size) (o:=.dT []) (t':=s.toks) (fun _ _ q=>PZ _ q) (MP _) (BK s.heap I.big),rfl,h _ (I.hok.fresh (MP _))⟩
end





end L2
namespace L2
open PySem PySem.Spec PyProof.Rows
end L2
namespace L2
open PySem PySem.Spec PyProof.Rows

def dJ (cells:List (Str×Qr)):List (Str×Q3)->List (Str×Qr)->List (Str×Qr)
 | [],acc=>acc
 | (n,k)::r,acc=>if k=.free then (match cells.lookup n with | some c=>dJ cells r ((n,c)::acc) | none=>dJ cells r acc) else dJ cells r acc
theorem mR {cells:List (Str×Qr)}:∀ (names:List (Str×Q3)) (acc:List (Str×Qr)),(∀ x c,acc.lookup x=some c->cells.lookup x=some c) ->
  ∀ x c,(dJ cells names acc).lookup x=some c->cells.lookup x=some c
 | [],acc,h=>h
 | (n,k)::r,acc,h=>by
  unfold dJ
  by_cases hk:k=.free
  ·rw [if_pos hk]
   cases e:cells.lookup n with
   | none=>exact mR r acc h
   | some c0 =>
    refine mR r _ fun x c q=>?_
    rw [Nt] at q
    cases hx:x==n with
    | true =>
     rw [hx] at q
     have e1:x=n:=by simpa using hx
     cases q
     rw [e1]; exact e
    | false=>rw [hx] at q; exact h x c q
  ·rw [if_neg hk]; exact mR r acc h
theorem kM {cells:List (Str×Qr)}:∀ (names:List (Str×Q3)) (acc:List (Str×Qr)) (x:Str),(acc.lookup x).isSome=true->((dJ cells names acc).lookup x).isSome=true
 | [],acc,x,h=>h
 | (n,k)::r,acc,x,h=>by
  unfold dJ
  by_cases hk:k=.free
  ·rw [if_pos hk]
   cases e:cells.lookup n with
   | none=>exact kM r acc x h
   | some c0 =>
    refine kM r _ x ?_
    rw [Nt]
    cases hx:x==n with
    | true=>rfl
    | false=>exact h
  ·rw [if_neg hk]; exact kM r acc x h
theorem jy {cells:List (Str×Qr)}:∀ (names:List (Str×Q3)) (acc:List (Str×Qr)) (x:Str),(x,NameKind.free)∈names->(∃ c,cells.lookup x=some c)->((dJ cells names acc).lookup x).isSome=true
 | [],acc,x,h,_=>absurd h (by simp)
 | (n,k)::r,acc,x,h,hc=>by
  unfold dJ
  rcases List.mem_cons.mp h with e | h
  ·cases e
   rw [if_pos rfl]
   obtain⟨c,e⟩:=hc
   rw [e]
   refine kM r _ _ ?_
   rw [Nt]
   simp
  ·by_cases hk:k=.free
   ·rw [if_pos hk]
    cases e:cells.lookup n with
    | none=>exact jy r acc x h hc
    | some c0=>exact jy r _ x h hc
   ·rw [if_neg hk]; exact jy r acc x h hc
theorem vi {scope:Qz} {env:Env} (h:∀ p∈scope.names,p.2=.free->∃ c,env.cells.lookup p.1=some c):closureFor scope env=pure (dJ env.cells scope.names []):=by
 have go:∀ (names:List (Str×Q3)) (acc:List (Str×Qr)),(∀ p∈names,p.2=.free->∃ c,env.cells.lookup p.1=some c) ->
   (forIn names acc fun x cs=>(match x with | (name,kind)=>if (kind==NameKind.free)=true then do let a <- cellOf env name; pure (ForInStep.yield ((name,a)::cs)) else pure (ForInStep.yield cs):Sem (ForInStep (List (Str×Qr)))))=pure (dJ env.cells names acc):=by
  intro names
  induction names with
  | nil=>intro acc _; rfl
  | cons p r ih =>
   intro acc hp
   obtain⟨n,k⟩:=p
   rw [Nu]
   by_cases hk:k=.free
   ·obtain⟨c,e⟩:=hp (n,k) MJ hk
    subst hk
    have e2:cellOf env n=pure c:=by unfold cellOf; rw [e]
    simp only [beq_self_eq_true,if_true,e2,pure_bind]
    rw [ih _ fun q hq=>hp q (MK _ hq)]
    conv=>rhs; rw [dJ]
    simp [e]
   ·have hb:(k==NameKind.free)=false:=by simpa using hk
    simp only [hb,Nv,if_false,pure_bind]
    rw [ih _ fun q hq=>hp q (MK _ hq)]
    conv=>rhs; rw [dJ,if_neg hk]
 have:=go scope.names [] h
 unfold closureFor
 simp only []
 rw [this]
 rfl

def dq (X:Cx) (scope:Qz) (N:List Str) (cl:List (Str×Qr)) (C:Qr) (fp:List Qr) (s:Qy) (H:Hp) (E:Qo->Qy->Prop):Cx where
 prog:=X.prog
 w:=X.w
 K:=X.K
 mg:=X.mg
 base:=X.base
 A:=X.A
 N:=N
 s₀:=s
 H₀:=H
 env:=compEnvC scope cl C X.env
 outer:=X.stack
 stack:=X.stack
 ex:=fp
 fn:=fun _=>false
 calm:=X.calm
 pn:=[]
 xe:=E

def xl (XN N:List Str) (names:List (Str×Q3)) (ix:List (Option Nat)):Bool :=
 decide (ix.length=N.length) && (N.zip ix).all fun p=>match p.2 with
  | some i=>decide (XN[i]?=some p.1) && decide (names.lookup p.1=some .free)
  | none=>true
def inBlock (ix:List (Option Nat)) (σ:St):St:=ix.map fun o=>match o with
 | some i=>(σ[i]?).getD none
 | none=>none
theorem xl.len {XN N:List Str} {names:List (Str×Q3)} {ix:List (Option Nat)} (h:xl XN N names ix=true):ix.length=N.length:=by
 unfold xl at h
 rw [Ng] at h
 exact of_decide_eq_true h.1
theorem xl.at_ {XN N:List Str} {names:List (Str×Q3)} {ix:List (Option Nat)} (h:xl XN N names ix=true) {j i:Nat} {x:Str} (h1:N[j]?=some x) (h2:ix[j]?=some (some i)):XN[i]?=some x/\names.lookup x=some .free:=by
 unfold xl at h
 rw [Ng] at h
 have hm:(x,some i)∈N.zip ix:=by
  have e:(N.zip ix)[j]?=some (x,some i):=by rw [List.getElem?_zip_eq_some]; exact⟨h1,h2⟩
  exact M9 e
 have q:=List.all_eq_true.mp h.2 _ hm
 simp only [Ng] at q
 exact⟨of_decide_eq_true q.1,of_decide_eq_true q.2⟩

theorem ly {env:Env}:∀ {names:List (Str×Q3)} {x:Str} {k:Q3},
  (names.map fun (n,k)=>if (k==NameKind.free && env.scope.kind==.function && env.kindOf n==some .cell) then (n,NameKind.cell) else (n,k)).lookup x=some k ->
  names.lookup x=some k\/(names.lookup x=some .free/\k=.cell)
 | [],_,_,h=>by simp at h
 | (n,k0)::r,x,k,h=>by
  have ih:=@ly env r x k
  replace h:List.lookup x ((if (k0==NameKind.free && env.scope.kind==.function && env.kindOf n==some .cell)=true then (n,NameKind.cell) else (n,k0))::(r.map fun (n,k)=>if (k==NameKind.free && env.scope.kind==.function && env.kindOf n==some .cell) then (n,NameKind.cell) else (n,k)))=some k:=h
  by_cases hc:(k0==NameKind.free && env.scope.kind==.function && env.kindOf n==some .cell)=true
  ·rw [if_pos hc] at h
   have hk0:k0=.free:=by
    simp only [Ng] at hc
    simpa using hc.1.1
   cases hx:x==n with
   | true =>
    simp only [Nt,hx] at h
    simp only [Nt,hx]
    cases h
    exact .inr ⟨by rw [hk0],rfl⟩
   | false =>
    simp only [Nt,hx] at h ⊢
    exact ih h
  ·rw [if_neg hc] at h
   cases hx:x==n with
   | true =>
    simp only [Nt,hx] at h ⊢
    exact .inl h
   | false =>
    simp only [Nt,hx] at h ⊢
    exact ih h
def Hy (X:Cx) (ifs:List QB) (t:TT):Prop :=
 ∀ (pins:List (Qr×Obj)) (s:Qy) (σ:St) (H:Hp) (Q:Bool->Hp->Prop),Inv X pins σ H s->t σ H Q ->
  QA (model X.prog X.w) X.A (forIn ifs true fun c r=>if r=true then do let ok <- isTrue c X.env (eval c X.env); pure (ForInStep.yield ok) else pure (ForInStep.yield r)) (TP X pins σ Q) X.xe s
def IG:TT:=fun _ H Q=>Q true H
theorem DE {X:Cx}:Hy X [] IG:=fun _ _ _ H _ I h=>wpAny_tests_nil ⟨H,I,h⟩
theorem En {X:Cx} {c:QB} {t:TT} (h:PT X c t):Hy X [c] t:=fun pins s σ H Q I q=>wpAny_tests_one (h pins s σ H Q I q)

theorem lw {prog:Qq} {w:Qp} {A:Qx} {R:QS->Qy->Prop} {s:Qy} {elt target iter:QB} {ifs:List QB} {scope:Qz} {pos:Pos} {it acc:Qo} {env:Env} (I:Nat->Qy->Prop)
  (turn:∀ n s,I n s->QA (model prog w) A (pyNext it) (fun r s₁=>match r with
   | none=>R (.ok .next) s₁
   | some v=>QA (model prog w) A (letOwnedTupleGo target it v) (fun _ s₁'=>QA (model prog w) A (assign target env v) (fun _ s₂ =>
     QA (model prog w) A (forIn ifs true fun c r=>if r=true then do let ok <- isTrue c env (eval c env); pure (ForInStep.yield ok) else pure (ForInStep.yield r)) (fun ok s₃ =>
      if ok=true then QA (model prog w) A (eval elt env) (fun x s₄ =>
       QA (model prog w) A (call (.builtin "list.append") [acc,x]) (fun _ s₅=>∃ m,m < n/\I m s₅) (notedBy (model prog w) A env fun e s'=>R (.error e) s') s₄) (notedBy (model prog w) A env fun e s'=>R (.error e) s') s₃
      else ∃ m,m < n/\I m s₃) (notedBy (model prog w) A env fun e s'=>R (.error e) s') s₂) (notedBy (model prog w) A env fun e s'=>R (.error e) s') s₁') (notedBy (model prog w) A env fun e s'=>R (.error e) s') s₁) (notedBy (model prog w) A env fun e s'=>R (.error e) s') s)
  (n:Nat) (h:I n s) :
  QT (model prog w) A (.compLoop (.ListComp elt [⟨target,iter,ifs,0⟩] scope pos) 0 it acc env) R s:=by
 refine codeAny_loop rfl I (fun n s hI=>?_) n h
 show QA _ A ((compTurn (.ListComp elt [⟨target,iter,ifs,0⟩] scope pos) 0 it acc env).onRaise (fun x=>do noteFrame x env; theTreesLotGoes x)) _ _ s
 refine wpAny_noted ?_
 rw [compTurn_list]
 refine QI (wpAny_standAt (QI (QE (turn n s hI) (fun r s₁ h₁=>?_) fun _ _ h'=>h')))
 cases r with
 | none=>exact QH h₁
 | some v =>
  refine QI (QE h₁ (fun _ s₁' h₁'=>?_) fun _ _ h'=>h')
  refine QI (QE h₁' (fun _ s₂ h₂=>QI (QE h₂ (fun ok s₃ h₃=>?_) fun _ _ h'=>h')) fun _ _ h'=>h')
  cases ok with
  | false=>exact QH ⟨rfl,h₃⟩
  | true =>
   exact QI (QI (QE h₃ (fun x s₄ h₄=>QI (QE h₄ (fun _ s₅ h₅=>QH (QH ⟨rfl,h₅⟩)) fun _ _ h'=>h')) fun _ _ h'=>h'))

def KQ (wi:TI) (g:TG) (tc:TT) (te:TE) (ix:List (Option Nat)):TE:=fun σ H Q =>
 wi σ H fun J H1=>∀ D,H1 D=none->∃ W:Nat->Nat->St->Hp->Prop,(∃ m,W 0 m (inBlock ix σ) (upd H1 D (.lst []))) /\
  ∀ i m σ' H',W i m σ' H'->(J.stop i H'/\Q (.ref D) H') \/
   (J.go i H'/\∀ x H2,J.yld i H' x H2->g x σ' H2 fun σ3 H3=>tc σ3 H3 fun b H4 =>
    if b=true then te σ3 H4 fun v H5=>∃ acc,H5 D=some (.lst acc)/\acc.length < Qu/\∃ m',m' < m/\W (i+1) m' σ3 (upd H5 D (.lst (acc++[v])))
    else ∃ m',m' < m/\W (i+1) m' σ3 H4)

section
variable {X:Cx} {elt tg iter:QB} {ifs:List QB} {scope:Qz} {pos:Pos} {N:List Str} {ix:List (Option Nat)} {wi:TI} {g:TG} {tc:TT} {te:TE}

theorem yy {pins:List (Qr×Obj)} {σ:St} {s2:Qy} {H2:Hp} {it:Qr} {fp:List Qr} {tn:Nat->Qt->Prop} {J:It} {Q:V->Hp->Prop} {E:Qo->Qy->Prop} {RR:Qo->Qr->QS->Qy->Prop}
    (hc:X.calm=true) (hcell:∀ y∈scope.names,y.2≠.cell) (hkind:scope.kind=.function)
    (hfr:∀ y∈scope.names,y.2=.free->X.env.scope.names.lookup y.1=some .cell\/X.env.scope.names.lookup y.1=some .free)
    (hix:xl X.N N scope.names ix=true)
    (hb:∀ cl C fp s H E,PG (dq X scope N cl C fp s H E) tg g/\Hy (dq X scope N cl C fp s H E) ifs tc/\PE (dq X scope N cl C fp s H E) elt te)
    (I2:Inv X pins σ H2 s2) (T:Turn X.prog X.w X.K tg J fp it tn) (st2:tn 0 s2.heap) (f2:∀ b∈fp,sL X pins H2 b)
    (q:∀ D,H2 D=none->∃ W:Nat->Nat->St->Hp->Prop,(∃ m,W 0 m (inBlock ix σ) (upd H2 D (.lst []))) /\
      ∀ i m σ' H',W i m σ' H'->(J.stop i H'/\Q (.ref D) H') \/
        (J.go i H'/\∀ x H3,J.yld i H' x H3->g x σ' H3 fun σ3 H3=>tc σ3 H3 fun b H4 =>
          if b=true then te σ3 H4 fun v H5=>∃ acc,H5 D=some (.lst acc)/\acc.length < Qu/\∃ m',m' < m/\W (i+1) m' σ3 (upd H5 D (.lst (acc++[v])))
          else ∃ m',m' < m/\W (i+1) m' σ3 H4))
    (hRR:∀ D C H' s' m,H2 D=none->s2.heap.objs.size<=C->H' C=none->s'.heap.Ns C m->(∀ h',PY C s'.heap h'->Inv X pins σ H' { s' with heap:=h' })->Q (.ref D) H'->RR (.ref D) C (.ok .next) s') :
    QA (model X.prog X.w) X.A (newList []) (fun acc s₃=>QA (model X.prog X.w) X.A (newFunctionEnv scope X.env.globals (dJ X.env.cells scope.names []) [] X.env.qual none .none (some X.env)) (fun cenv s₄ =>
      QT (model X.prog X.w) X.A (.compStart (.ListComp elt [⟨tg,iter,ifs,0⟩] scope pos) 0 (.ref it) acc { cenv with scope:=relabel scope X.env }) (RR acc cenv.locals) s₄) E s₃) E s2:=by
  refine Rf (wpAny_newFunctionEnv hcell (by intro y hy; simp at hy) (fun h₁ hns₁ hsb₁=>?_) hkind)
  dsimp only at hns₁ hsb₁ ⊢
  have I3:Inv X pins σ (upd H2 s2.heap.objs.size (.lst [])) { s2 with heap:=s2.heap.push { cls:=.type "list",dict:=none,data:=.seq ([]:List Qo).toArray },toks:=s2.toks }:=I2.lnew (its:=[]) (t':=s2.toks) .nil (M0 _)
  generalize hs3:({ s2 with heap:=s2.heap.push { cls:=.type "list",dict:=none,data:=.seq ([]:List Qo).toArray },toks:=s2.toks }:Qy)=s3 at I3
  have eh3:s2.heap.push { cls:=.type "list",dict:=none,data:=.seq ([]:List Qo).toArray }=s3.heap:=by rw [<- hs3]
  rw [eh3] at hns₁ hsb₁ ⊢
  have hC3:s3.heap.objs.size=s2.heap.objs.size+1:=by rw [<- eh3,P4]
  have hD:H2 s2.heap.objs.size=none:=I2.fresh
  obtain⟨W,⟨m0,w0⟩,turn⟩:=q s2.heap.objs.size hD
  generalize hH3:upd H2 s2.heap.objs.size (.lst [])=H3 at I3 w0
  have old:∀ b o,s3.heap.get? b=some o->h₁.get? b=some o:=fun b o e=>hsb₁.extBut b o (MF (PV e)) (PZ _ e)
  have fpH3:∀ b∈fp,H3 b=none:=fun b hb'=>by
    rw [<- hH3,aJ]
    · exact(f2 b hb').1
    · obtain⟨o,e,_⟩:=T.obj _ _ st2 b hb'
      exact MF (PV e)
  have fpLt:∀ b∈fp,b < s3.heap.objs.size:=fun b hb'=>by
    obtain⟨o,e,_⟩:=T.obj _ _ st2 b hb'
    rw [hC3]; exact Nw (PV e)
  have hfree:∀ p∈scope.names,p.2=.free->∃ c,X.env.cells.lookup p.1=some c:=fun p hp hk=>I2.ok.has p.1 (hfr p hp hk)
  have csub:∀ x c,(dJ X.env.cells scope.names []).lookup x=some c->X.env.cells.lookup x=some c:=mR scope.names [] (fun x c e=>by simp at e)
  have names':∀ x k,(relabel scope X.env).names.lookup x=some k->scope.names.lookup x=some k\/(scope.names.lookup x=some .free/\k=.cell):=fun x k h=>ly h
  have ok:(dq X scope N (dJ X.env.cells scope.names []) s3.heap.objs.size fp s3 H3 (notedBy (model X.prog X.w) X.A (compEnvC scope (dJ X.env.cells scope.names []) s3.heap.objs.size X.env) fun e s'=>RR (.ref s2.heap.objs.size) s3.heap.objs.size (.error e) s')).Ok :=
    { mod:=I3.ok.mod
      kind:=hkind
      glob:=I3.ok.glob
      blt:=I3.ok.blt
      above:=MP _
      inj:=fun x y c h1 h2=>I3.ok.inj x y c (csub x c h1) (csub y c h2)
      has:=fun x hx=>by
        have fr:scope.names.lookup x=some .free:=by
          rcases hx with hx | hx
          · rcases names' x .cell hx with h | ⟨h,_⟩
            · exact absurd rfl (hcell _ (PySem.mem_of_lookup h))
            · exact h
          · rcases names' x .free hx with h | ⟨_,h⟩
            · exact h
            · cases h
        have hm:=PySem.mem_of_lookup fr
        exact Option.isSome_iff_exists.mp (jy scope.names [] x hm (hfree _ hm rfl))
      cab:=fun x c h _=>by cases h
      hd:=I3.ok.hd
      frames:=I3.ok.frames
      stk:=.inl rfl
      exf:=fun b hb'=>⟨MF (fpLt b hb'),fun x c e=>(f2 b hb').2.2.2.2.1 x c (csub x c e)⟩
      bs:=fun b o e=>I3.bs b o e
      bsz:=MG I3.ok.bsz I3.sz
      noex:=fun b o e hb'=>by
        obtain⟨_,_,_,h4,_⟩:=f2 b hb'
        rcases h4 with h4 | h4
        · exact I3.ok.noex b o e h4
        · exact absurd (MD (PV (I3.ok.bs b o e).1) h4) (ME _)
      exfs:=fun b hb' hs=>by
        obtain⟨_,h2,h3,_⟩:=f2 b hb'
        rcases List.mem_cons.mp (I3.stkSub b hs) with e | e
        · exact h2 e
        · exact h3 e
      funs:=I3.stack
      frf:=fun b hb'=>I3.stkFree b hb' }
  generalize hE:(notedBy (model X.prog X.w) X.A (compEnvC scope (dJ X.env.cells scope.names []) s3.heap.objs.size X.env) fun e s'=>RR (.ref s2.heap.objs.size) s3.heap.objs.size (.error e) s')=E' at ok
  obtain⟨hg,htc,hel⟩:=hb (dJ X.env.cells scope.names []) s3.heap.objs.size fp s3 H3 E'
  have Istart:∀ tk,Inv (dq X scope N (dJ X.env.cells scope.names []) s3.heap.objs.size fp s3 H3 E') [] (inBlock ix σ) H3 { s3 with heap:=h₁,toks:=tk }:=fun tk=>by
    refine⟨ok,rfl,I3.bare,Un.kept old,⟨_,hns₁,fun j x v e1 e2 _=>?_⟩,fun x c e=>?_,I3.fresh,fun x c e=>I3.freeC x c (csub x c e),fun p hp=>absurd (show p∈([]:List (Qr×Obj)) from hp) (by simp),I3.hok.kept old,?_⟩
    · -- a captured name
      unfold inBlock at e2
      rw [M8] at e2
      cases q1:ix[j]? with
      | none=>rw [q1] at e2; simp at e2
      | some o =>
        rw [q1] at e2
        cases o with
        | none=>simp at e2
        | some i =>
          obtain⟨n1,n2⟩:=xl.at_ hix e1 q1
          have e2':(σ[i]?).getD none=some v:=Option.some.inj e2
          have e3:σ[i]?=some (some v):=by
            cases q2:σ[i]? with
            | none=>rw [q2] at e2'; simp at e2'
            | some o2=>rw [q2] at e2'; simpa using e2'
          obtain⟨m,hn,hl⟩:=I3.loc
          have hm:=PySem.mem_of_lookup n2
          have hk:=hfr _ hm rfl
          have hv:HY X.env.scope x:=by
            rcases hk with hk | hk
            · exact .inr (.inl hk)
            · exact .inr (.inr hk)
          obtain⟨u,r,l⟩:=hl i x v n1 e3 hv
          refine⟨u,r,.inr ?_⟩
          rcases l with ⟨kl,_⟩ | ⟨_,c,hcx,hcell'⟩
          · have kl':X.env.scope.names.lookup x=some .local:=kl
            rcases hk with hk | hk
            · rw [kl'] at hk; cases hk
            · rw [kl'] at hk; cases hk
          · obtain⟨c',hc'⟩:=Option.isSome_iff_exists.mp (jy (cells:=X.env.cells) scope.names [] x hm ⟨c,hcx⟩)
            have ec:c'=c:=Option.some.inj ((csub x c' hc').symm.trans hcx)
            subst ec
            refine⟨?_,c',hc',?_⟩
            · -- its kind in the block: cell or free
              show (relabel scope X.env).names.lookup x=some .cell\/(relabel scope X.env).names.lookup x=some .free
              have gen:∀ names:List (Str×Q3),names.lookup x=some .free->((names.map fun (n,k)=>if (k==NameKind.free && X.env.scope.kind==.function && X.env.kindOf n==some .cell) then (n,NameKind.cell) else (n,k)).lookup x=some .cell\/(names.map fun (n,k)=>if (k==NameKind.free && X.env.scope.kind==.function && X.env.kindOf n==some .cell) then (n,NameKind.cell) else (n,k)).lookup x=some .free):=by
                intro names
                induction names with
                | nil=>intro h; simp at h
                | cons p r ih =>
                  obtain⟨n,k⟩:=p
                  intro h
                  show List.lookup x ((if (k==NameKind.free && X.env.scope.kind==.function && X.env.kindOf n==some .cell)=true then (n,NameKind.cell) else (n,k))::_)=_\/List.lookup x ((if (k==NameKind.free && X.env.scope.kind==.function && X.env.kindOf n==some .cell)=true then (n,NameKind.cell) else (n,k))::_)=_
                  cases hx:x==n with
                  | true =>
                    simp only [Nt,hx] at h
                    by_cases hcc:(k==NameKind.free && X.env.scope.kind==.function && X.env.kindOf n==some .cell)=true
                    · rw [if_pos hcc]; left; simp only [Nt,hx]
                    · rw [if_neg hcc]; right; simp only [Nt,hx]; exact h
                  | false =>
                    simp only [Nt,hx] at h
                    by_cases hcc:(k==NameKind.free && X.env.scope.kind==.function && X.env.kindOf n==some .cell)=true
                    · rw [if_pos hcc]; simp only [Nt,hx]; exact ih h
                    · rw [if_neg hcc]; simp only [Nt,hx]; exact ih h
              exact gen scope.names n2
            · exact hcell'.keeps old
    · obtain⟨v,z⟩:=I3.cell x c (csub x c e)
      exact⟨v,z.keeps old⟩
    · show (inBlock ix σ).length=N.length
      unfold inBlock
      rw [MY]
      exact xl.len hix
  have stat:∀ {H':Hp},(∀ b∈fp,H' b=none)->∀ b∈fp,sL (dq X scope N (dJ X.env.cells scope.names []) s3.heap.objs.size fp s3 H3 E') [] H' b:=fun hn b hb' =>
    ⟨hn b hb',(ok.exf b hb').1,ok.exfs b hb',.inl hb',(ok.exf b hb').2,fun p hp=>absurd (show p∈([]:List (Qr×Obj)) from hp) (by simp)⟩
  have tn1:tn 0 h₁:=T.keep _ _ _ st2 fun b hb' o e=>old b o (by rw [<- eh3]; exact PZ _ e)
  have loop:∀ tk,QT (model X.prog X.w) X.A (.compLoop (.ListComp elt [⟨tg,iter,ifs,0⟩] scope pos) 0 (.ref it) (.ref s2.heap.objs.size) (compEnvC scope (dJ X.env.cells scope.names []) s3.heap.objs.size X.env))
      (RR (.ref s2.heap.objs.size) s3.heap.objs.size) { s3 with heap:=h₁,toks:=tk }:=by
    intro tk
    refine lw (fun n s'=>∃ i σ' H',Inv (dq X scope N (dJ X.env.cells scope.names []) s3.heap.objs.size fp s3 H3 E') [] σ' H' s'/\tn i s'.heap/\(∀ b∈fp,H' b=none)/\W i n σ' H') ?_ m0 ⟨0,_,_,Istart tk,tn1,fpH3,w0⟩
    rintro n s5 ⟨i,σ5,H5,I5,st5,fr5,w5⟩
    rw [hE]
    rcases turn i n σ5 H5 w5 with ⟨stop,qn⟩ | ⟨go,step⟩
    · refine dX (T.done (dq X scope N (dJ X.env.cells scope.names []) s3.heap.objs.size fp s3 H3 E') rfl rfl rfl hc i [] s5 σ5 H5 _ I5 (stat fr5) st5 stop) fun r s6 ⟨hr,I6⟩=>?_
      subst hr
      obtain⟨m6,hn6,_⟩:=I6.loc
      refine hRR s2.heap.objs.size s3.heap.objs.size H5 s6 m6 hD (by rw [hC3]; exact M2 _) I6.free hn6 (fun h' sb=>?_) qn
      have ne:∀ b o,s3.heap.get? b=some o->b≠s3.heap.objs.size:=fun b o e=>MF (PV e)
      refine I3.call' (s':={ s6 with heap:=h' }) (H':=H5) (ch:=fp) I6.os ⟨fun b o e n hb' hx=>?_,fun b o e n hb' hx=>?_,fun b o e n hx=>?_,fun b o e hx=>?_,I6.base.tups,I6.base.frzs,I6.base.tbls⟩ ?_ I6.bare fun b hb'=>?_
      · exact(sb.2 b (ne b o e)).trans (I6.base.keep b o e n hb' hx)
      · obtain⟨sl,e1⟩:=I6.base.slot b o e n hb' hx
        exact⟨sl,(sb.2 b (ne b o e)).trans e1⟩
      · exact I6.base.free b o e n hx
      · obtain⟨o',e1⟩:=I6.base.there b o e hx
        exact⟨o',(sb.2 b (ne b o e)).trans e1⟩
      · intro b ob e
        have hfreeC:H5 s3.heap.objs.size=none:=I6.free
        refine(I6.hok b ob e).stay (fun c v hcc q=>(sb.2 c ?_).trans q) (fun _ q=>q) fun _ _ q=>q
        rintro rfl
        rcases hcc with rfl | hcc
        · rw [hfreeC] at e; cases e
        · rw [hfreeC] at hcc; cases hcc
      · obtain⟨_,h2',_,h4',h5',h6'⟩:=f2 b hb'
        exact⟨h4',h2',h5',h6'⟩
    · refine dX (T.item (dq X scope N (dJ X.env.cells scope.names []) s3.heap.objs.size fp s3 H3 E') rfl rfl rfl hc i [] s5 σ5 H5 _ I5 (stat fr5) st5 go) fun r s6 ⟨u,hr,h6⟩=>?_
      subst hr
      refine dX h6 fun _ s7 ⟨x,H7,I7,r7,y7,st7,fr7⟩=>?_
      have I7':=I7.pinned (stat fr7) (T.obj _ _ st7)
      refine dX (hg _ s7 σ5 H7 x u _ I7' r7 (step x H7 y7)) fun _ s8 ⟨σ8,H8,I8,q8⟩=>?_
      refine dX (htc _ s8 σ8 H8 _ I8 q8) fun b s9 ⟨H9,I9,q9⟩=>?_
      have again:∀ {σ':St} {H':Hp} {s':Qy} {m':Nat},Inv (dq X scope N (dJ X.env.cells scope.names []) s3.heap.objs.size fp s3 H3 E') ([]++qZ fp s7.heap) σ' H' s'->m' < n->W (i+1) m' σ' H' ->
          ∃ m,m < n/\∃ i σ' H',Inv (dq X scope N (dJ X.env.cells scope.names []) s3.heap.objs.size fp s3 H3 E') [] σ' H' s'/\tn i s'.heap/\(∀ b∈fp,H' b=none)/\W i m σ' H':=fun {σ' H' s' m'} I' hm w'=>by
        refine⟨m',hm,i+1,σ',H',I'.unpinned,T.keep _ _ _ st7 fun b hb' o e=>(I'.pin (b,o) (MQ _ (MQ _ (kR hb' e)))).1,fun b hb'=>?_,w'⟩
        obtain⟨o,e,d⟩:=T.obj _ _ st7 b hb'
        exact(I'.pin (b,o) (MQ _ (MQ _ (kR hb' e)))).2.1
      cases b with
      | false =>
        rw [if_neg MU] at q9 ⊢
        obtain⟨m',hm,w9⟩:=q9
        exact again I9 hm w9
      | true =>
        rw [if_pos rfl] at q9 ⊢
        refine dX (hel _ s9 σ8 H9 _ I9 q9) fun y s10 ⟨v,H10,I10,r10,q10⟩=>?_
        obtain⟨acc,ha,hz,m',hm,w10⟩:=q10
        refine dX (eM _ s10 σ8 H10 (.ref s2.heap.objs.size) [v] (.ref s2.heap.objs.size) [y] (fun _ H'=>H'=upd H10 s2.heap.objs.size (.lst (acc++[v]))) I10 rfl (.cons r10 .nil) ⟨_,acc,v,rfl,rfl,ha,hz,rfl⟩) fun _ s11 ⟨_,H11,I11,_,e11⟩=>?_
        subst e11
        exact again I11 hm w10
  subst hs3
  exact codeAny_compStart_list (loop _) (T.self _ 0 _ _ _ tn1 (loop _))

theorem E9 (hc:X.calm=true) (hcell:∀ y∈scope.names,y.2≠.cell) (hkind:scope.kind=.function) (hnames:∀ y∈scope.names,y.2=.local->scope.names.lookup y.1=some .local)
  (hfr:∀ y∈scope.names,y.2=.free->X.env.scope.names.lookup y.1=some .cell\/X.env.scope.names.lookup y.1=some .free)
  (hix:xl X.N N scope.names ix=true) (hi:PI X tg iter wi)
  (hb:∀ cl C fp s H E,PG (dq X scope N cl C fp s H E) tg g/\Hy (dq X scope N cl C fp s H E) ifs tc/\PE (dq X scope N cl C fp s H E) elt te)
  (hs:∀ x,QL iter X.env x=pure x:=by intro _; rfl):PE X (.ListComp elt [⟨tg,iter,ifs,0⟩] scope pos) (KQ wi g tc te ix):=by
 intro pins s σ H Q I h
 rw [eval_ListComp]
 refine wpAny_comprehension_free (use:=none) rfl hs (vi fun p hp hk=>I.ok.has p.1 (hfr p hp hk)) hkind hnames (dX (hi pins s σ H _ I h) fun v s1 h1=>dX h1 fun itv s2 h2=>?_)
 obtain⟨it,fp,tn,J,H2,e,I2,T,st2,f2,q⟩:=h2
 subst e
 refine yy (Q:=Q) (RR:=fun acc C=>compPost (model X.prog X.w) X.A X.xe none (EP X pins σ Q) acc C) hc hcell hkind hfr hix hb I2 T st2 f2 q ?_
 intro D C H' s' m _ _ _ hn hI hq
 exact⟨m,hn,fun h' sb=>⟨.ref D,H',hI h' sb,rfl,hq⟩⟩

end
end L2
namespace TG
open PySem PySem.Spec L2

inductive D where
 | non | bl (b:Bool) | int (i:Int) | str (x:Str) | tup (xs:List D) | lst (xs:List D)
 | dct (ks vs:List D) | obj (c:Str) (fs:List Str) (vs:List D) | exc (c:Str) (fs:List Str) (vs:List D)

def bv:Key->D
 | .inl i=>.int i
 | .inr x=>.str x
def clsAt (K:Pj) (c:Str) (C:Qr):Prop:=PH K Qv c=some (some (.ref C))
def Ln (C a:Qr) (dx:Option Qr):(Qr->Prop)->Qt->Prop:=fun _ h=>∃ o,h.get? a=some o/\o.cls=.ref C/\o.dict=dx
mutual
def cQ (K:Pj) (H:Hp):D->V->Prop
 | .non,v=>v=.non
 | .bl b,v=>v=.bl b
 | .int i,v=>v=.int i
 | .str x,v=>v=.str x
 | .tup xs,v=>∃ a vs,v=.ref a/\H a=some (.tup vs)/\aY K H xs vs
 | .lst xs,v=>∃ a vs,v=.ref a/\oo K H a vs/\aY K H xs vs
 | .dct ks ds,v=>∃ a vs,v=.ref a/\aY K H ds vs/\((∃ kvs:List (Key×V),H a=some (.dK kvs)/\ks=kvs.map (fun p=>bv p.1)/\vs=kvs.map (·.2)) \/
   (∃ kvs:List (List Key×V),H a=some (.dT kvs)/\ks=kvs.map (fun p=>.tup (p.1.map bv))/\vs=kvs.map (·.2)) \/
   ∃ (kvs:List (List Key×V)) (o:Obj),H a=some (.frz o (.dT kvs))/\ks=.non::kvs.map (fun p=>.tup (p.1.map bv))/\vs=kvs.map (·.2))
 | .obj c fs ds,v=>∃ a vs,v=.ref a/\aY K H ds vs/\fs.length=vs.length/\∃ C dx,clsAt K c C/\H a=some (.ins C dx (fs.zip vs))
 | .exc c fs ds,v=>∃ a vs,v=.ref a/\aY K H ds vs/\fs.length=vs.length/\∃ C dx,clsAt K c C/\H a=some (.ext (Ln C a dx))/\(fs=[]\/∃ d,dx=some d/\H d=some (.xd (fs.zip vs)))
def aY (K:Pj) (H:Hp):List D->List V->Prop
 | [],vs=>vs=[]
 | x::xs,vs=>∃ v r,vs=v::r/\cQ K H x v/\aY K H xs r
end

theorem A9 {K:Pj} {H H':Hp} {a:Qr} {xs:List V} (e:bm H H') (h:p4 K H a xs):p4 K H' a xs:=by
 rcases h with (h | ⟨o,h⟩) | h
 ·exact .inl (.inl (e _ _ h))
 ·exact .inl (.inr ⟨o,e _ _ h⟩)
 ·exact .inr h
theorem cC {K:Pj} {H H':Hp} {a:Qr} {xs:List V} (e:bm H H') (h:H a=some (.tup xs)):p4 K H' a xs:=p4.of (e _ _ h)
mutual
theorem cQ.mono {K:Pj} {H H':Hp} (e:bm H H'):∀ {d:D} {v:V},cQ K H d v->cQ K H' d v
 | .non,_,h=>by unfold cQ at h ⊢; exact h
 | .bl _,_,h=>by unfold cQ at h ⊢; exact h
 | .int _,_,h=>by unfold cQ at h ⊢; exact h
 | .str _,_,h=>by unfold cQ at h ⊢; exact h
 | .tup xs,_,h=>by
  unfold cQ at h ⊢
  obtain⟨a,vs,e1,h1,h2⟩:=h
  exact⟨a,vs,e1,e _ _ h1,aY.mono e h2⟩
 | .lst xs,_,h=>by
  unfold cQ at h ⊢
  obtain⟨a,vs,e1,h1,h2⟩:=h
  exact⟨a,vs,e1,e.seq h1,aY.mono e h2⟩
 | .dct _ ds,_,h=>by
  unfold cQ at h ⊢
  obtain⟨a,vs,e1,h1,h2⟩:=h
  refine⟨a,vs,e1,aY.mono e h1,?_⟩
  rcases h2 with ⟨kvs,h2,h3⟩ | ⟨kvs,h2,h3⟩ | ⟨kvs,o,h2,h3⟩
  ·exact .inl ⟨kvs,e _ _ h2,h3⟩
  ·exact .inr (.inl ⟨kvs,e _ _ h2,h3⟩)
  ·exact .inr (.inr ⟨kvs,o,e _ _ h2,h3⟩)
 | .obj _ _ ds,_,h=>by
  unfold cQ at h ⊢
  obtain⟨a,vs,e1,h1,h2,C,dx,h3,h4⟩:=h
  exact⟨a,vs,e1,aY.mono e h1,h2,C,dx,h3,e _ _ h4⟩
 | .exc _ _ ds,_,h=>by
  unfold cQ at h ⊢
  obtain⟨a,vs,e1,h1,h2,C,dx,h3,h4,h5⟩:=h
  exact⟨a,vs,e1,aY.mono e h1,h2,C,dx,h3,e _ _ h4,h5.imp id fun ⟨d,q1,q2⟩=>⟨d,q1,e _ _ q2⟩⟩
theorem aY.mono {K:Pj} {H H':Hp} (e:bm H H'):∀ {ds:List D} {vs:List V},aY K H ds vs->aY K H' ds vs
 | [],_,h=>by unfold aY at h ⊢; exact h
 | x::xs,_,h=>by
  unfold aY at h ⊢
  obtain⟨v,r,e1,h1,h2⟩:=h
  exact⟨v,r,e1,cQ.mono e h1,aY.mono e h2⟩
end
section
variable {K:Pj} {H:Hp}
theorem j5 {v:V}:cQ K H .non v↔v=.non:=by unfold cQ; rfl
theorem lh {b:Bool} {v:V}:cQ K H (.bl b) v↔v=.bl b:=by unfold cQ; rfl
theorem e8 {i:Int} {v:V}:cQ K H (.int i) v↔v=.int i:=by unfold cQ; rfl
theorem eW {x:Str} {v:V}:cQ K H (.str x) v↔v=.str x:=by unfold cQ; rfl
theorem cV {xs:List D} {v:V}:cQ K H (.tup xs) v↔∃ a vs,v=.ref a/\H a=some (.tup vs)/\aY K H xs vs:=by unfold cQ; rfl
theorem cX {xs:List D} {v:V}:cQ K H (.lst xs) v↔∃ a vs,v=.ref a/\oo K H a vs/\aY K H xs vs:=by unfold cQ; rfl
theorem JH {ks ds : List D} {v : V} : cQ K H (.dct ks ds) v ↔ ∃ a vs, v = .ref a /\ aY K H ds vs /\ ((∃ kvs : List (Key × V), H a = some (.dK kvs) /\ ks = kvs.map (fun p => bv p.1) /\ vs = kvs.map (·.2)) \/
      (∃ kvs:List (List Key×V),H a=some (.dT kvs)/\ks=kvs.map (fun p=>.tup (p.1.map bv))/\vs=kvs.map (·.2)) \/
      ∃ (kvs:List (List Key×V)) (o:Obj),H a=some (.frz o (.dT kvs))/\ks=.non::kvs.map (fun p=>.tup (p.1.map bv))/\vs=kvs.map (·.2)):=by unfold cQ; rfl
theorem JT {c:Str} {fs:List Str} {ds:List D} {v:V}:cQ K H (.obj c fs ds) v↔∃ a vs,v=.ref a/\aY K H ds vs/\fs.length=vs.length/\∃ C dx,clsAt K c C/\H a=some (.ins C dx (fs.zip vs)):=by unfold cQ; rfl
theorem cR {vs:List V}:aY K H [] vs↔vs=[]:=by unfold aY; rfl
theorem bo {x:D} {xs:List D} {vs:List V}:aY K H (x::xs) vs↔∃ v r,vs=v::r/\cQ K H x v/\aY K H xs r:=by conv=>lhs; unfold aY
theorem aY.length:∀ {ds:List D} {vs:List V},aY K H ds vs->ds.length=vs.length
 | [],_,h=>by rw [cR] at h; rw [h]; rfl
 | _::xs,_,h=>by
  rw [bo] at h
  obtain⟨v,r,e,_,h⟩:=h
  rw [e,MV,MV,aY.length h]
theorem aY.get:∀ {ds:List D} {vs:List V} {i:Nat} {d:D},aY K H ds vs->ds[i]?=some d->∃ v,vs[i]?=some v/\cQ K H d v
 | [],_,_,_,_,e=>by simp at e
 | x::xs,_,0,d,h,e=>by
  rw [bo] at h
  obtain⟨v,r,rfl,h1,_⟩:=h
  simp at e
  subst e
  exact⟨v,rfl,h1⟩
 | x::xs,_,i+1,d,h,e=>by
  rw [bo] at h
  obtain⟨v,r,rfl,_,h2⟩:=h
  obtain⟨w,e1,e2⟩:=aY.get (i:=i) h2 (by simpa using e)
  exact⟨w,by simpa using e1,e2⟩
theorem aY.append:∀ {ds es:List D} {vs ws:List V},aY K H ds vs->aY K H es ws->aY K H (ds++es) (vs++ws)
 | [],_,_,_,h,h'=>by rw [cR] at h; subst h; exact h'
 | x::xs,_,_,_,h,h'=>by
  rw [bo] at h
  obtain⟨v,r,rfl,h1,h2⟩:=h
  rw [Nx,bo]
  exact⟨v,_,rfl,h1,aY.append h2 h'⟩
theorem aY.take:∀ {ds:List D} {vs:List V} (n:Nat),aY K H ds vs->aY K H (ds.take n) (vs.take n)
 | _,_,0,_=>by rw [Ny,Ny,cR]
 | [],_,_+1,h=>by rw [cR] at h; subst h; rw [Nz,Nz,cR]
 | x::xs,_,n+1,h=>by
  rw [bo] at h
  obtain⟨v,r,rfl,h1,h2⟩:=h
  rw [NA,NA,bo]
  exact⟨v,_,rfl,h1,aY.take n h2⟩
theorem aY.drop:∀ {ds:List D} {vs:List V} (n:Nat),aY K H ds vs->aY K H (ds.drop n) (vs.drop n)
 | _,_,0,h=>by rw [NB,NB]; exact h
 | [],_,_+1,h=>by rw [cR] at h; subst h; rw [List.drop_nil,List.drop_nil,cR]
 | x::xs,_,n+1,h=>by
  rw [bo] at h
  obtain⟨v,r,rfl,h1,h2⟩:=h
  rw [NC,NC]
  exact aY.drop n h2
theorem aY.snoc {ds:List D} {vs:List V} {d:D} {v:V} (h:aY K H ds vs) (h':cQ K H d v):aY K H (ds++[d]) (vs++[v]) :=
 h.append (bo.mpr ⟨v,[],rfl,h',cR.mpr rfl⟩)
theorem aY.one {d:D} {vs:List V} (h:aY K H [d] vs):∃ v,vs=[v]/\cQ K H d v:=by
 rw [bo] at h
 obtain⟨v,r,rfl,h1,h2⟩:=h
 rw [cR] at h2
 subst h2
 exact⟨v,rfl,h1⟩
theorem aY.two {d e:D} {vs:List V} (h:aY K H [d,e] vs):∃ v w,vs=[v,w]/\cQ K H d v/\cQ K H e w:=by
 rw [bo] at h
 obtain⟨v,r,rfl,h1,h2⟩:=h
 obtain⟨w,rfl,h3⟩:=h2.one
 exact⟨v,w,rfl,h1,h3⟩
theorem tV:∀ ns:List Int,aY K H (ns.map D.int) (ns.map V.int)
 | []=>cR.mpr rfl
 | n::ns=>bo.mpr ⟨_,_,rfl,e8.mpr rfl,tV ns⟩
end

def hid (H:Hp) (O:List Qr):Hp:=fun b=>if b∈O then none else H b
theorem aI (H:Hp) (O:List Qr):bm (hid H O) H:=fun b o h=>by
 unfold hid at h
 split at h
 ·cases h
 ·exact h
theorem bV {H H':Hp} {O:List Qr} (e:bm H H'):bm (hid H O) (hid H' O):=fun b o h=>by
 unfold hid at h ⊢
 by_cases hb:b∈O
 ·rw [if_pos hb] at h; cases h
 ·rw [if_neg hb] at h ⊢; exact e b o h
theorem iT {H:Hp} {O O':List Qr} (s:∀ a∈O,a∈O'):bm (hid H O') (hid H O):=fun b o h=>by
 unfold hid at h ⊢
 by_cases hb:b∈O'
 ·rw [if_pos hb] at h; cases h
 ·rw [if_neg hb] at h
  rw [if_neg fun z=>hb (s b z)]; exact h
theorem D3 (H:Hp):hid H []=H:=by funext b; unfold hid; simp
theorem uT {H:Hp} {O:List Qr} {p:Qr} {o:HO} (h:H p=none):bm (hid H O) (hid (upd H p o) O):=fun b u q=>by
 unfold hid at q ⊢
 by_cases hb:b∈O
 ·rw [if_pos hb] at q; cases q
 ·rw [if_neg hb] at q ⊢
  rw [aJ (bg q h)]; exact q
theorem cD {H:Hp} {p:Qr} (h:H p=none) (o:HO):bm H (upd H p o):=fun b u q=>by rw [aJ (bg q h)]; exact q
theorem kU {H:Hp} {O:List Qr} {p:Qr} (h:p∉O):hid H O p=H p:=by unfold hid; rw [if_neg h]
theorem gS {H:Hp} {O:List Qr} {p:Qr} {o:HO} (h:p∈O):bm (hid H O) (hid (upd H p o) O):=fun b u q=>by
 unfold hid at q ⊢
 by_cases hb:b∈O
 ·rw [if_pos hb] at q; cases q
 ·rw [if_neg hb] at q ⊢
  rw [aJ (fun z=>hb (by rw [z]; exact h))]; exact q

inductive S where
 | val (d:D) | own (d:D) | nest (d:D)
abbrev au:=List (Option S)
def qN:HO->Prop
 | .lst _=>True
 | .dK _=>True
 | .dT _=>True
 | _=>False
class aR where
 tab:Hp->Prop
 same:∀ {H H':Hp},tab H->bm H H'->tab H'
 own:∀ {H:Hp} {p:Qr} {o o':HO},tab H->H p=some o->qN o->tab (upd H p o')
variable [aR]
def eF (H:Hp) (O:List Qr):Prop:=aR.tab H/\∀ a∈O,∃ o,H a=some o/\qN o
theorem eF.not {H:Hp} {O:List Qr} (h:eF H O) {p:Qr} (n:H p=none):p∉O:=fun z=>by
 obtain⟨vs,e,_⟩:=h.2 p z
 rw [n] at e; cases e
theorem eF.same {H H':Hp} {O:List Qr} (h:eF H O) (e:bm H H'):eF H' O:=⟨aR.same h.1 e,fun a ha=>let ⟨vs,q,m⟩:=h.2 a ha; ⟨vs,e _ _ q,m⟩⟩
theorem eF.upd {H:Hp} {O:List Qr} {p:Qr} {o:HO} (h:eF H O) (hp:p∈O) (m:qN o):eF (L2.upd H p o) O:=⟨let ⟨_,q,r⟩:=h.2 p hp; aR.own h.1 q r,fun a ha=>by
 by_cases z:a=p
 ·rw [z]; exact⟨o,bb,m⟩
 ·obtain⟨u,q,r⟩:=h.2 a ha
  exact⟨u,by rw [aJ z]; exact q,r⟩⟩
theorem eF.cons {H:Hp} {O:List Qr} {p:Qr} {o:HO} (h:eF H O) (hp:H p=some o) (m:qN o):eF H (p::O):=⟨h.1,fun a ha=>by
 rcases List.mem_cons.mp ha with z | z
 ·rw [z]; exact⟨o,hp,m⟩
 ·exact h.2 a z⟩
def dF (K:Pj) (H:Hp) (O:List Qr) (a:Qr) (d:D):Prop:=∃ o vs,H a=some o/\match d with
 | .lst xs=>o=.lst vs/\aY K (hid H O) xs vs
 | .dct ks ds=>aY K (hid H O) ds vs/\((∃ kvs:List (Key×V),o=.dK kvs/\ks=kvs.map (fun p=>bv p.1)/\vs=kvs.map (·.2)) \/
   ∃ kvs:List (List Key×V),o=.dT kvs/\ks=kvs.map (fun p=>.tup (p.1.map bv))/\vs=kvs.map (·.2))
 | _=>False
theorem dF.mono {K:Pj} {H H':Hp} {O O':List Qr} {a:Qr} {d:D} (h:dF K H O a d) (e:H a=H' a) (s:bm (hid H O) (hid H' O')):dF K H' O' a d:=by
 obtain⟨o,vs,h1,h2⟩:=h
 refine⟨o,vs,by rw [<- e]; exact h1,?_⟩
 cases d with
 | lst xs=>exact⟨h2.1,h2.2.mono s⟩
 | dct ks ds=>exact⟨h2.1.mono s,h2.2⟩
 | _=>exact h2
theorem dF.some {K:Pj} {H:Hp} {O:List Qr} {a:Qr} {d:D} (h:dF K H O a d):∃ o,H a=some o:=let ⟨o,_,e,_⟩:=h; ⟨o,e⟩
theorem dF.den {K:Pj} {H:Hp} {O O':List Qr} {a:Qr} {d:D} (h:dF K H O a d) (s:bm (hid H O) (hid H O')) (ha:a∉O'):cQ K (hid H O') d (.ref a):=by
 obtain⟨o,vs,h1,h2⟩:=h
 have h1':hid H O' a=Option.some o:=by rw [kU ha]; exact h1
 cases d with
 | lst xs =>
  obtain⟨e,g⟩:=h2
  subst e
  exact cX.mpr ⟨a,vs,rfl,oo.of h1',g.mono s⟩
 | dct ks ds =>
  obtain⟨g,q⟩:=h2
  refine JH.mpr ⟨a,vs,rfl,g.mono s,?_⟩
  rcases q with ⟨kvs,e,q⟩ | ⟨kvs,e,q⟩
  ·subst e; exact .inl ⟨kvs,h1',q⟩
  ·subst e; exact .inr (.inl ⟨kvs,h1',q⟩)
 | _=>exact h2.elim
structure dQ (K:Pj) (O:List Qr) (H:Hp) (ρ:au) (σ:St):Prop where
 val:∀ (i:Nat) d,ρ[i]?=some (some (.val d))->∃ v,σ[i]?=some (some v)/\cQ K (hid H O) d v
 own:∀ (i:Nat) d,ρ[i]?=some (some (.own d))->∃ a,σ[i]?=some (some (.ref a))/\a∈O/\dF K H O a d
 one:∀ (i j:Nat) xs ys a,ρ[i]?=some (some (.own xs))->ρ[j]?=some (some (.own ys))->σ[i]?=some (some (.ref a))->σ[j]?=some (some (.ref a))->i=j
 all:eF H O
theorem qu {H H':Hp} (e:bm H H') {a:Qr} {o:HO} (h:H a=some o):H a=H' a:=by rw [h,e _ _ h]
theorem dQ.same {K:Pj} {O:List Qr} {H H':Hp} {ρ:au} {σ:St} (h:dQ K O H ρ σ) (e:bm H H'):dQ K O H' ρ σ :=
  ⟨fun i d q=>let ⟨v,a,b⟩:=h.val i d q; ⟨v,a,b.mono (bV e)⟩,
   fun i xs q=>let ⟨a,q1,q2,q3⟩:=h.own i xs q; ⟨a,q1,q2,q3.mono (let ⟨_,z⟩:=q3.some; qu e z) (bV e)⟩,h.one,h.all.same e⟩

structure Ex where
 c:Str
 fs:List Str
 vs:List D
abbrev R (α:Type):=Except (Option Ex) α
abbrev un {α:Type}:R α:=.error none
def rO {α:Type}:Option α->R α
 | some a=>.ok a
 | none=>.error none
def HS (K:Pj) (Hd:Hp) (x:Ex) (C:Qr) (dx:Option Qr):Prop:=clsAt K x.c C/\∃ ws,aY K Hd x.vs ws/\x.fs.length=ws.length/\(x.fs=[]\/∃ d,dx=some d/\Hd d=some (.xd (x.fs.zip ws)))
theorem HS.mono {K:Pj} {H H':Hp} {x:Ex} {C:Qr} {dx:Option Qr} (h:HS K H x C dx) (e:bm H H'):HS K H' x C dx:=by
 obtain⟨h1,ws,h2,h3,h4⟩:=h
 exact⟨h1,ws,h2.mono e,h3,h4.imp id fun ⟨d,q1,q2⟩=>⟨d,q1,e _ _ q2⟩⟩
end TG
namespace TG
open PySem PySem.Spec L2
variable [aR]
open PyProof.Rows (AllBare)
theorem GX {P:Qq} {w:Qp} {H:Hp} {h:Qt} {a:Qr} {o:HO} (x:dm P w H h a o):∃ u,h.get? a=some u:=by
 cases o with
 | lst xs=>obtain⟨_,_,_,_,e⟩:=x; exact⟨_,e⟩
 | tup xs=>obtain⟨_,_,_,o,e,_⟩:=x; exact⟨_,e⟩
 | dK kvs=>obtain⟨_,_,_,_,o,_,_,e,_⟩:=x; exact⟨_,e⟩
 | dT kvs=>obtain⟨_,_,_,_,o,_,_,e,_⟩:=x; exact⟨_,e⟩
 | set S n=>obtain⟨o,_,_,_,e,_⟩:=x; exact⟨_,e⟩
 | ins C dx fs=>obtain⟨_,_,_,e,_⟩:=x; exact⟨_,e⟩
 | own y=>exact x
 | xd fs=>obtain⟨_,⟨_,_,_,e,_⟩,_⟩:=x; exact⟨_,e⟩
 | rng lo hi=>obtain⟨_,_,_,e⟩:=x; exact⟨_,e⟩
 | frz ob u=>obtain⟨e,_⟩:=x; exact⟨_,e⟩
 | tbl ps=>exact⟨_,(show h.get? a=some _ from x)⟩
 | met f y=>exact⟨_,(show h.get? a=some _ from x)⟩
 | ext φ=>obtain⟨_,e,_⟩:=x; exact e
def ra (X:Cx) (H:Hp) (b:Qr):Prop:=((∃ o,X.s₀.heap.get? b=some o)/\b∉X.ex)\/H b≠none\/(∃ o,(b,o)∈X.pn)\/∃ x,X.env.cells.lookup x=some b
def Mr (B:Qt) (e:Qr) (cls a0:Qo) (h:Qt):Prop:=h.TracedW B e cls a0\/∃ oe vs,h.get? e=some oe/\oe.cls=cls/\oe.data=.fields vs/\vs[1]?=some .none/\vs[0]?=some a0
def HG (X:Cx) (H:Hp) (s:Qy) (e C:Qr):Prop:=∃ B a0,B.StaysIn s.heap/\B.get? e=none/\s.heap.FunFrames B X.stack/\Mr B e (.ref C) a0 s.heap/\∀ b o,s.heap.get? b=some o->ra X H b->b∉frs X.stack->B.get? b=some o
def Mw (X:Cx) (H:Hp) (O:List Qr) (s:Qy) (u:Qo) (x:Ex):Prop:=∃ e C dx,u=.ref e/\HS X.K (hid H O) x C dx/\HG X H s e C
def oV (P:Qq) (w:Qp):xJ:=fun outer H s E u s'=>∃ e C dx H' B a0,u=.ref e/\s'.os=s.os/\AllBare s'.gens/\Un (frs outer) [] H H' s.heap s'.heap/\oO P w H' s'.heap/\Heap.FlyingW B outer e (.ref C) a0 s'.heap /\
 (∀ b o,s'.heap.get? b=some o->((∃ o',s.heap.get? b=some o')\/H' b≠none)->b∉frs outer->B.get? b=some o)/\E (.ref C) dx H'
def Kk (K:Pj) (H:Hp) (O:List Qr) (x:Ex) (E:XK):Prop:=∀ C dx H',bm H H'->HS K (hid H' O) x C dx->E (.ref C) dx H'
def Hx (X:Cx) (σ:St) (O:List Qr) (H:Hp) (x:Ex):Prop:=∀ pins s u H',Inv X pins σ H' s->bm H H'->Mw X H' O s u x->X.xe u s
theorem Hx.mono {X:Cx} {σ:St} {O:List Qr} {H H':Hp} {x:Ex} (h:Hx X σ O H x) (s:bm H H'):Hx X σ O H' x:=fun pins st u H2 I s2 f=>h pins st u H2 I (s.trans s2) f
def zm (X:Cx) (O:List Qr) (H:Hp) (x:Ex):XK:=fun u dx H'=>∃ C,u=.ref C/\bm H H'/\HS X.K (hid H' O) x C dx
def lE (CX:xJ) (X:Cx) (σ:St) (E:XK):Prop:=∀ (pins:List (Qr×Obj)) (H:Hp) (s:Qy) (e:Qo) (s':Qy),Inv X pins σ H s->CX X.stack H s E e s'->X.xe e s'
theorem zS {X:Cx} {σ:St} {O:List Qr} {H:Hp} {x:Ex} (h:Hx X σ O H x):lE (oV X.prog X.w) X σ (zm X O H x):=by
 rintro pins H1 s u s' I ⟨e,C,dx,H',B,a0,rfl,os,bare,un,hok,⟨f1,f2,f3,f4⟩,kp,C',eC,sm,hd⟩
 cases eC
 have I':Inv X pins σ H' s':=I.call' os un hok bare (ch:=[]) fun b z=>absurd z (by simp)
 refine h pins s' _ H' I' sm ⟨e,C,dx,rfl,hd,B,a0,f1,f2,f3,.inl f4,fun b o eb hb nf=>kp b o eb ?_ nf⟩
 rcases hb with ⟨⟨o',hb⟩,nx⟩ | hb | ⟨o',hb⟩ | ⟨y,hb⟩
 ·exact .inl (I.base.there b o' hb nx)
 ·exact .inr hb
 ·exact .inl ⟨_,(I.pin _ (ML _ hb)).1⟩
 ·obtain⟨v,o,q,_⟩:=I.cell y b hb
  exact .inl ⟨o,q⟩
theorem y8 {X:Cx} {σ:St}:lE (oV X.prog X.w) X σ E0:=fun _ _ _ _ _ _ ⟨_,_,_,_,_,_,_,_,_,_,_,_,_,z⟩=>z.elim
theorem wY {X:Cx} {O:List Qr} {H:Hp} {x:Ex}:Kk X.K H O x (zm X O H x):=fun C dx H' s e=>⟨C,rfl,s,e⟩
section
variable {X:Cx} {pins:List (Qr×Obj)} {σ:St} {H:Hp} {s:Qy} {h':Qt}
theorem Ec (I:Inv X pins σ H s) (k:∀ b o,s.heap.get? b=some o->ra X H b->b∉frs X.stack->h'.get? b=some o):oO X.prog X.w H h':=fun a ob ea =>
 (I.hok a ob ea).stay (fun b u hb q=>by
  have hn:H b≠none:=by
   rcases hb with e | e
   ·rw [e,ea]; intro z; cases z
   ·rw [e]; intro z; cases z
  exact k b u q (.inr (.inl hn)) fun hf=>hn (I.stkFree b hf)) (fun _ q=>q) fun _ _ q=>q
theorem tG (I:Inv X pins σ H s) (us:s.heap.UpToSlots h') {b:Qr} {o:Obj} (hb:b∈frs X.stack) (e:s.heap.get? b=some o):∃ sl,h'.get? b=some { o with slots:=sl }:=by
 obtain⟨_,o',e',nf⟩:=I.stack.mem hb
 rw [e] at e'; cases e'
 exact us b o e nf
theorem GO (I:Inv X pins σ H s) (hx:X.ex=[]) (hst:X.stack=X.env::X.outer) (hf:X.env.frame=some X.env.locals) (us:s.heap.UpToSlots h') (k:∀ b o,s.heap.get? b=some o->ra X H b->b∉frs X.stack->h'.get? b=some o) :
  Un (frs X.outer) [] X.H₀ H X.s₀.heap h':=by
 have U:=I.base
 rw [hx] at U
 have fr:frs X.stack=X.env.locals::frs X.outer:=by rw [hst]; show List.filterMap _ (_::_)=_; rw [MI,hf]; rfl
 have nl:∀ b o,X.s₀.heap.get? b=some o->b≠X.env.locals:=fun b o q z=>by
  have h1:=PV q
  have h2:=I.ok.above
  rw [z] at h1; exact ME _ (MD h1 h2)
 have nfr:∀ b o,X.s₀.heap.get? b=some o->b∉frs X.outer->b∉frs X.stack:=fun b o q nb z=>by
  rw [fr] at z
  rcases List.mem_cons.mp z with z | z
  ·exact nl b o q z
  ·exact nb z
 refine⟨fun b o q n nb _=>k b o (U.keep b o q n nb (by simp)) (.inl ⟨⟨o,q⟩,by rw [hx]; simp⟩) (nfr b o q nb),fun b o q n hb _=>?_,fun b o q n _=>U.free b o q n (by simp),fun b o q _=>?_,U.tups,U.frzs,U.tbls⟩
 ·obtain⟨sl,e⟩:=U.slot b o q n hb (by simp)
  obtain⟨sl',e'⟩:=tG I us (by rw [fr]; exact MK _ hb) e
  exact⟨sl',e'⟩
 ·obtain⟨o1,e1⟩:=U.there b o q (by simp)
  by_cases hb:b∈frs X.stack
  ·obtain⟨sl,e⟩:=tG I us hb e1
   exact⟨_,e⟩
  ·exact⟨o1,k b o1 e1 (.inl ⟨⟨o,q⟩,by rw [hx]; simp⟩) hb⟩
end
theorem Gp {P:Qq} {w:Qp} {K:Pj} {mg:Str->Option Qo} {base:Qt} {N:List Str} {qual:Str} {scope:Qz} {f:Qr} {cd:Qo} {A:Qx} {outer:List Env} {s:Qy} {H:Hp} {E:XK} {σ:St} {O O':List Qr} {H':Hp} {x:Ex}
  (hx:Kk K H O x E) (sm:bm H H') (hs:∀ a∈O,a∈O'):Hx (lu (oV P w) P w K mg base N qual scope f cd A outer s H E) σ O' H' x:=by
 rintro pins s1 u H1 I s2 ⟨e,C,dx,rfl,hd,B,a0,b1,b2,b3,b4,b5⟩
 have fin:∀ h',Heap.FlyingW B outer e (.ref C) a0 h'->s1.heap.UpToSlots h'->oV P w outer H s E (.ref e) { s1 with heap:=h' }:=fun h' fl us=>by
  have k:∀ b o,s1.heap.get? b=some o->ra (lu (oV P w) P w K mg base N qual scope f cd A outer s H E) H1 b->b∉frs (lu (oV P w) P w K mg base N qual scope f cd A outer s H E).stack->h'.get? b=some o:=fun b o q kb nf=>fl.1 b o (b5 b o q kb nf)
  have un:=GO I rfl rfl rfl us k
  have hok:=Ec I k
  refine⟨e,C,dx,H1,B,a0,rfl,I.os,I.bare,un,hok,fl,fun b o q hb nf=>?_,hx C dx H1 (sm.trans s2) (hd.mono (iT hs))⟩
  have nf2:b∉frs (lu (oV P w) P w K mg base N qual scope f cd A outer s H E).stack:=fun z=>by
   rcases List.mem_cons.mp (show b∈s.heap.objs.size::frs outer from z) with z | z
   ·rcases hb with hb | hb
    ·obtain⟨o',hb⟩:=hb
     have:=PV hb
     rw [z] at this; exact ME _ this
    ·rw [z] at hb; exact hb I.free
   ·exact nf z
  have kb:ra (lu (oV P w) P w K mg base N qual scope f cd A outer s H E) H1 b:=hb.elim (fun z=>.inl ⟨z,fun y=>nomatch y⟩) fun z=>.inr (.inl z)
  obtain⟨o1,e1⟩:∃ o1,s1.heap.get? b=some o1:=by
   rcases hb with ⟨o',hb⟩ | hb
   ·exact I.base.there b o' hb (fun z=>nomatch z)
   ·cases q0:H1 b with
    | none=>exact absurd q0 hb
    | some ob=>exact GX (I.hok b ob q0)
  have:=k b o1 e1 kb nf2
  rw [q] at this; cases this
  exact b5 b _ e1 kb nf2
 show QA _ _ (leaving (Qb qual scope s.heap.objs.size f cd) (.ref e)) _ _ s1
 rcases b4 with b4 | ⟨oe,vs,c1,c2,c3,c4,c5⟩
 ·exact wpAny_leaves_onW I.ok.frames rfl ⟨b1,b2,b3,b4⟩ fin
 ·refine wpAny_leaving_firstW I.ok.frames b3 rfl c1 b1 b2 c3 c4 c5 fun h' hL=>?_
  obtain⟨k1,⟨_,_,k2⟩,k3,k4⟩:=hL
  exact fin h' ⟨k1,b2,k2,c2 ▸ k3⟩ k4
end TG
namespace TG
open PySem PySem.Spec L2
variable [aR]

def ir (X:Cx) (σ:St) (O:List Qr) (H:Hp) {α:Type} (r:R α) (Q:α->Prop):Prop:=match r with
 | .ok a=>Q a
 | .error (some x)=>Hx X σ O H x
 | .error none=>False
section
variable {X:Cx} {σ:St} {O:List Qr} {H H':Hp} {α β:Type}
theorem ir.bind {r:R α} {G:α->R β} {Q:β->Prop} (h:ir X σ O H (r.bind G) Q):ir X σ O H r fun a=>ir X σ O H (G a) Q:=by
 match r,h with
 | .ok a,h=>exact h
 | .error (some x),h=>exact h
 | .error none,h=>exact h
theorem ir.imp {r:R α} {Q Q':α->Prop} (h:ir X σ O H r Q) (f:∀ a,Q a->Q' a):ir X σ O H r Q':=by
 match r,h with
 | .ok a,h=>exact f a h
 | .error (some x),h=>exact h
 | .error none,h=>exact h
theorem ir.mono {r:R α} {Q:α->Prop} (h:ir X σ O H r Q) (s:bm H H'):ir X σ O H' r Q:=by
 match r,h with
 | .ok a,h=>exact h
 | .error (some x),h=>exact Hx.mono h s
 | .error none,h=>exact h
theorem ir.rO {o:Option α} {Q:α->Prop} (h:ir X σ O H (rO o) Q):∃ a,o=some a/\Q a:=by
 match o,h with
 | some a,h=>exact⟨a,rfl,h⟩
 | none,h=>exact h.elim
end
abbrev FX:=au->R D
def tF (X:Cx) (F:FX):TE:=fun σ H Q=>∃ O ρ,dQ X.K O H ρ σ/\ir X σ O H (F ρ) fun d=>∀ v H',bm H H'->cQ X.K (hid H' O) d v->Q v H'
def JC (X:Cx) (F:au->R Bool):TT:=fun σ H Q=>∃ O ρ,dQ X.K O H ρ σ/\ir X σ O H (F ρ) fun b=>∀ H',bm H H'->Q b H'
def JN (X:Cx) (F:au->R (List D)):TA:=fun σ H Q=>∃ O ρ,dQ X.K O H ρ σ/\ir X σ O H (F ρ) fun ds=>∀ vs H',bm H H'->aY X.K (hid H' O) ds vs->Q vs H'
def FE (X:Cx) (e:QB) (F:FX):Prop:=PE X e (tF X F)
def FT (X:Cx) (e:QB) (F:au->R Bool):Prop:=PT X e (JC X F)
def FW (X:Cx) (e:QB) (F:au->R Bool):Prop:=PW X e (JC X F)
def FA (X:Cx) (es:List QB) (F:au->R (List D)):Prop:=PA X es (JN X F)

theorem PE.weak {X:Cx} {e:QB} {t t':TE} (h:PE X e t) (w:∀ σ H Q,t' σ H Q->t σ H Q):PE X e t':=fun pins s σ H Q I q=>h pins s σ H Q I (w σ H Q q)
theorem PT.weak {X:Cx} {e:QB} {t t':TT} (h:PT X e t) (w:∀ σ H Q,t' σ H Q->t σ H Q):PT X e t':=fun pins s σ H Q I q=>h pins s σ H Q I (w σ H Q q)
theorem PW.weak {X:Cx} {e:QB} {t t':TT} (h:PW X e t) (w:∀ σ H Q,t' σ H Q->t σ H Q):PW X e t':=fun whole pins s σ H Q I q=>h whole pins s σ H Q I (w σ H Q q)
theorem PA.weak {X:Cx} {es:List QB} {t t':TA} (h:PA X es t) (w:∀ σ H Q,t' σ H Q->t σ H Q):PA X es t':=fun pos pins s σ H Q I q=>h pos pins s σ H Q I (w σ H Q q)
theorem PS.weak {X:Cx} {st:QD} {t t':TS} (h:PS X st t) (w:∀ D σ H,t' D σ H->t D σ H):PS X st t':=fun pins s σ H Q I q=>h pins s σ H Q I (w Q σ H q)
theorem xi.weak {X:Cx} {st:List QD} {t t':TS} (h:xi X st t) (w:∀ D σ H,t' D σ H->t D σ H):xi X st t':=fun pins s σ H Q I q=>h pins s σ H Q I (w Q σ H q)

def qQ (ρ:au) (i:Nat):R D:=match ρ[i]? with
 | some (some (.val d))=>.ok d
 | _=>un
theorem D4 {ρ:au} {i:Nat} {d:D} (h:qQ ρ i=.ok d):ρ[i]?=some (some (.val d)):=by
 unfold qQ at h
 split at h
 ·rename_i e; cases h; exact e
 ·cases h
def ah (i:Nat):FX:=fun ρ=>qQ ρ i
def fC (d:D):FX:=fun _=>.ok d
section
variable {X:Cx}
theorem A4 {σ:St} {O:List Qr} {H:Hp} {ρ:au} {i:Nat} {Q:D->Prop} (h:ir X σ O H (qQ ρ i) Q):∃ d,ρ[i]?=some (some (.val d))/\Q d:=by
 cases e:qQ ρ i with
 | ok d=>rw [e] at h; exact⟨d,D4 e,h⟩
 | error z =>
  rw [e] at h
  cases z with
  | none=>exact h.elim
  | some x =>
   exfalso
   unfold qQ at e
   split at e
   ·cases e
   ·have:=Except.error.inj e; cases this
theorem LA {i:Nat} {x:Str} {pos:Pos} (h:PE X (.Name x pos) (oQ i)):FE X (.Name x pos) (ah i) :=
 PE.weak h fun σ H Q ⟨O,ρ,E,hF⟩=>by
  obtain⟨d,e,q⟩:=A4 hF
  obtain⟨v,e,dv⟩:=E.val i d e
  exact⟨v,e,q v H (bm.refl H) dv⟩
theorem oj {e:QB} {d:D} {v:V} (h:PE X e (tC v)) (hd:∀ K H,cQ K H d v):FE X e (fC d) :=
 PE.weak h fun σ H Q ⟨O,ρ,E,q⟩=>q v H (bm.refl H) (hd _ _)
theorem Ka {i j pos}:FE X (.Constant (.int i) j pos) (fC (.int i)):=oj C5 fun _ _=>e8.mpr rfl
theorem L7 {b j pos}:FE X (.Constant (.bool b) j pos) (fC (.bl b)):=oj HF fun _ _=>lh.mpr rfl
theorem KO {x j pos}:FE X (.Constant (.str x) j pos) (fC (.str x)):=oj Hv fun _ _=>eW.mpr rfl

def noStar:QB->Bool
 | .Starred _ _=>false
 | _=>true
theorem dE {e:QB} {es:List QB} {env:Env} (h:noStar e=true):QC (e::es) env=(false,eval e env)::QC es env:=by
 cases e <;> first | rfl | cases h
theorem ic {pos:Pos} {env:Env}:∀ {es:List QB},es.all noStar=true->(backTo pos (QC es env)).any (·.1)=false
 | [],_=>rfl
 | e::es,h=>by
  rw [ND,Ng] at h
  rw [dE h.1]
  exact ic h.2
def aq:au->R (List D):=fun _=>.ok []
def af (f:FX) (g:au->R (List D)):au->R (List D):=fun ρ=>(f ρ).bind fun x=>(g ρ).bind fun xs=>.ok (x::xs)
theorem GQ:FA X [] aq:=PA.weak oN fun σ H Q ⟨O,ρ,E,q⟩=>q [] H (bm.refl H) (cR.mpr rfl)
theorem bind_some {α β:Type} {o:Option α} {f:α->Option β} {b:β} (h:o.bind f=some b):∃ a,o=some a/\f a=some b:=by
 cases o with
 | none=>cases h
 | some a=>exact⟨a,rfl,h⟩
theorem qi {ε α β:Type} {o:Except ε α} {f:α->Except ε β} {b:β} (h:o.bind f=.ok b):∃ a,o=.ok a/\f a=.ok b:=by
 cases o with
 | error _=>cases h
 | ok a=>exact⟨a,rfl,h⟩
theorem Du {e:QB} {es:List QB} {f:FX} {g:au->R (List D)} (he:FE X e f) (hs:FA X es g) (hns:noStar e=true:=by rfl):FA X (e::es) (af f g) :=
 PA.weak (ku he hs (dE hns)) fun σ H Q ⟨O,ρ,E,h⟩ =>
  ⟨O,ρ,E,(ir.bind h).imp fun x h v H1 s1 d1=>⟨O,ρ,E.same s1,((ir.bind h).mono s1).imp fun xs q vs H2 s2 d2=>q (v::vs) H2 (s1.trans s2) (bo.mpr ⟨v,vs,rfl,d1.mono (bV s2),d2⟩)⟩⟩
def small (n:Nat):Bool:=decide (n<=100000)
theorem d7 {n:Nat} (h:small n=true):n<=Qu:=MG (of_decide_eq_true h) (by decide)
theorem dZ {n:Nat} (h:n<=100000):small n=true:=decide_eq_true h
def t9 (xs:List D):Option D:=if small xs.length then some (.tup xs) else none
def ng (xs:List D):Option D:=if small xs.length then some (.lst xs) else none
def bH (g:au->R (List D)):FX:=fun ρ=>(g ρ).bind fun xs=>rO (t9 xs)
def ki (g:au->R (List D)):FX:=fun ρ=>(g ρ).bind fun xs=>rO (ng xs)
theorem bQ {α:Type} {c:Bool} {a b:α} (h:(if c then some a else none)=some b):c=true/\a=b:=by
 cases c with
 | true=>exact⟨rfl,Option.some.inj h⟩
 | false=>cases h
theorem fH {K:Pj} {H:Hp} {O:List Qr} {p:Qr} {ds:List D} {vs:List V} (hO:eF H O) (hp:H p=none) (d:aY K (hid H O) ds vs):cQ K (hid (upd H p (.tup vs)) O) (.tup ds) (.ref p) :=
 cV.mpr ⟨p,vs,rfl,by rw [kU (hO.not hp),bb],d.mono (uT hp)⟩
theorem fG {K:Pj} {H:Hp} {O:List Qr} {p:Qr} {ds:List D} {vs:List V} (hO:eF H O) (hp:H p=none) (d:aY K (hid H O) ds vs):cQ K (hid (upd H p (.lst vs)) O) (.lst ds) (.ref p) :=
 cX.mpr ⟨p,vs,rfl,oo.of (by rw [kU (hO.not hp),bb]),d.mono (uT hp)⟩
theorem Lh {es:List QB} {g:au->R (List D)} {k pos} (h:FA X es g):FE X (.Tuple es k pos) (bH g) :=
 PE.weak (Gj h) fun σ H Q ⟨O,ρ,E,hF⟩=>⟨O,ρ,E,(ir.bind hF).imp fun xs hF vs H1 s1 d1=>by
  obtain⟨d,e,q⟩:=ir.rO hF
  obtain⟨hz,e⟩:=bQ e
  subst e
  refine⟨by rw [<- d1.length]; exact d7 hz,fun p hp=>?_⟩
  exact q _ _ (s1.trans (cD hp _)) (fH (E.all.same s1) hp d1)⟩
theorem Kf {es:List QB} {g:au->R (List D)} {pos} (h:FA X es g):FE X (.List es pos) (ki g) :=
 PE.weak (yI h) fun σ H Q ⟨O,ρ,E,hF⟩=>⟨O,ρ,E,(ir.bind hF).imp fun xs hF vs H1 s1 d1=>by
  obtain⟨d,e,q⟩:=ir.rO hF
  obtain⟨hz,e⟩:=bQ e
  subst e
  refine⟨by rw [<- d1.length]; exact d7 hz,fun p hp=>?_⟩
  exact q _ _ (s1.trans (cD hp _)) (fG (E.all.same s1) hp d1)⟩

def EA (K:Pj) (r:V->Hp->VK->Prop) (g:D->Option D):Prop :=
 ∀ (a d:D) (x:V) (O:List Qr) (H:Hp) (Q:VK),eF H O->g a=some d->cQ K (hid H O) a x->(∀ v H',bm H H'->cQ K (hid H' O) d v->Q v H')->r x H Q
def f1 (g:D->Option D) (f:FX):FX:=fun ρ=>(f ρ).bind fun a=>rO (g a)
def de (K:Pj) (r:R2) (g:D->D->Option D):Prop :=
 ∀ (a b d:D) (x y:V) (O:List Qr) (H:Hp) (Q:VK),eF H O->g a b=some d->cQ K (hid H O) a x->cQ K (hid H O) b y->(∀ v H',bm H H'->cQ K (hid H' O) d v->Q v H')->r x y H Q
def f2 (g:D->D->Option D) (f1 f2:FX):FX:=fun ρ=>(f1 ρ).bind fun a=>(f2 ρ).bind fun b=>rO (g a b)
theorem vg {r:R2} {g:D->D->Option D} {fa fb:FX} (s:de X.K r g):∀ σ H Q,tF X (f2 g fa fb) σ H Q->Ie r (tF X fa) (tF X fb) σ H Q:=fun σ H Q ⟨O,ρ,E,hF⟩ =>
 ⟨O,ρ,E,(ir.bind hF).imp fun a hF x H1 s1 d1=>⟨O,ρ,E.same s1,((ir.bind hF).mono s1).imp fun b hF y H2 s2 d2=>by
  obtain⟨d,e,q⟩:=ir.rO hF
  exact s a b d x y O H2 Q (E.all.same (s1.trans s2)) e (d1.mono (bV s2)) d2 fun v H3 s3 d3=>q v H3 ((s1.trans s2).trans s3) d3⟩⟩
theorem J4 {a b:QB} {op:Operator} {r:R2} {g:D->D->Option D} {fa fb:FX} {pos:Pos} (ho:jr X (QN op) r) (s:de X.K r g) (ha:FE X a fa) (hb:FE X b fb):FE X (.BinOp a op b pos) (f2 g fa fb) :=
 PE.weak (IX ho ha hb) (vg s)
theorem LI {a b:QB} {op:QP} {r:R2} {g:D->D->Option D} {fa fb:FX} {pos:Pos} (ho:jr X (QO op) r) (s:de X.K r g) (ha:FE X a fa) (hb:FE X b fb) (hm:QQ op b=false):FE X (.Compare a [op] [b] pos) (f2 g fa fb) :=
 PE.weak (Dq ho ha hb hm) (vg s)
def Kb:D->Option Bool
 | .bl b=>some b
 | _=>none
def fB (f:FX):au->R Bool:=fun ρ=>(f ρ).bind fun d=>rO (Kb d)
theorem wM {t:TE} {f:FX} (h:∀ σ H Q,tF X f σ H Q->t σ H Q):∀ σ H Q,JC X (fB f) σ H Q->CD t σ H Q:=fun σ H Q ⟨O,ρ,E,hF⟩ =>
 h σ H _ ⟨O,ρ,E,(ir.bind hF).imp fun d hF v H1 s1 d1=>by
  obtain⟨b,e,q⟩:=ir.rO hF
  cases d with
  | bl b' =>
   cases e
   exact⟨b,lh.mp d1,q H1 s1⟩
  | _=>cases e⟩
theorem K6 {a b:QB} {op:QP} {r:R2} {g:D->D->Option D} {fa fb:FX} {pos:Pos} (ho:jr X (QO op) r) (s:de X.K r g) (ha:FE X a fa) (hb:FE X b fb) (hm:QQ op b=false):FT X (.Compare a [op] [b] pos) (fB (f2 g fa fb)) :=
 PT.weak (Dy ho ha hb hm) (wM (vg s))

def zR (K:Pj) (r:List V->Hp->VK->Prop) (g:List D->Option D):Prop :=
 ∀ (ds:List D) (d:D) (xs:List V) (O:List Qr) (H:Hp) (Q:VK),eF H O->g ds=some d->aY K (hid H O) ds xs->(∀ v H',bm H H'->cQ K (hid H' O) d v->Q v H')->r xs H Q
def fL (g:List D->Option D) (f:au->R (List D)):FX:=fun ρ=>(f ρ).bind fun ds=>rO (g ds)
def fR (g:List D->R D) (f:au->R (List D)):FX:=fun ρ=>(f ρ).bind g
theorem CH {r:List V->Hp->VK->Prop} {g:List D->Option D} {f:au->R (List D)} (s:zR X.K r g):∀ σ H Q,tF X (fL g f) σ H Q->Km r (JN X f) σ H Q:=fun σ H Q ⟨O,ρ,E,hF⟩ =>
 ⟨O,ρ,E,(ir.bind hF).imp fun ds hF vs H1 s1 d1=>by
  obtain⟨d,e,q⟩:=ir.rO hF
  exact s ds d vs O H1 Q (E.all.same s1) e d1 fun v H2 s2 d2=>q v H2 (s1.trans s2) d2⟩

def gf (f:au->R Bool):au->R Bool:=fun ρ=>(f ρ).bind fun b=>.ok (!b)
def LJ (f g:au->R Bool):au->R Bool:=fun ρ=>(f ρ).bind fun b=>if b then g ρ else .ok false
def si (f g:au->R Bool):au->R Bool:=fun ρ=>(f ρ).bind fun b=>if b then .ok true else g ρ
variable {a b c:QB} {rest:List QB} {pos:Pos} {f g:au->R Bool}
theorem K2 (h:FT X a f):FT X (.UnaryOp .Not a pos) (gf f):=PT.weak (FP h) fun σ H Q ⟨O,ρ,E,hF⟩=>⟨O,ρ,E,(ir.bind hF).imp fun b q H1 s1=>q H1 s1⟩
theorem Kt (h:FT X a f):FW X (.BoolOp .Or [a] pos) f:=Fw h
theorem L6 (ha:FT X a f) (hb:FW X (.BoolOp .Or (b::rest) pos) g):FW X (.BoolOp .Or (a::b::rest) pos) (si f g):=PW.weak (HN ha hb) fun σ H Q ⟨O,ρ,E,hF⟩=>⟨O,ρ,E,(ir.bind hF).imp fun c hF H1 s1=>by
 cases c with
 | false=>exact Af ⟨O,ρ,E.same s1,(hF.mono s1).imp fun b q H2 s2=>q H2 (s1.trans s2)⟩
 | true=>exact AU (hF H1 s1)⟩
theorem FW.ft {e:QB} (h:FW X e f):FT X e f:=PW.pt h
def truth:D->Option Bool
 | .non=>some false
 | .bl b=>some b
 | .int i=>some (i != 0)
 | .str x=>if small x.length then some (x.length != 0) else none
 | .tup xs=>some (!xs.isEmpty)
 | .lst xs=>some (!xs.isEmpty)
 | _=>none
def bX (f:FX):au->R Bool:=fun ρ=>(f ρ).bind fun d=>rO (truth d)

def yG (d:D) (k:R D):R D:=match d with
 | .bl true=>k
 | .bl false=>.ok (.bl false)
 | _=>un
def Ja (d:D) (k:R D):R D:=match d with
 | .bl false=>k
 | .bl true=>.ok (.bl true)
 | _=>un
def Hl:D->Option D
 | .bl b=>some (.bl (!b))
 | _=>none
def pY (f g:FX):FX:=fun ρ=>(f ρ).bind fun d=>yG d (g ρ)
def Ls (f g:FX):FX:=fun ρ=>(f ρ).bind fun d=>Ja d (g ρ)
def zr (f:FX):FX:=f1 Hl f
variable {fa fb:FX}
theorem Lq {op} (h:FE X a fa):FE X (.BoolOp op [a] pos) fa:=G1 h
theorem KZ (ha:FE X a fa) (hb:FE X (.BoolOp .And (b::rest) pos) fb):FE X (.BoolOp .And (a::b::rest) pos) (pY fa fb):=PE.weak (GJ ha hb) fun σ H Q ⟨O,ρ,E,hF⟩=>⟨O,ρ,E,(ir.bind hF).imp fun d hF x H1 s1 d1=>by
 cases d with
 | bl c =>
  refine⟨c,lh.mp d1,?_⟩
  cases c with
  | true=>exact AU ⟨O,ρ,E.same s1,(hF.mono s1).imp fun d q v H2 s2 d2=>q v H2 (s1.trans s2) d2⟩
  | false=>exact Af (hF _ H1 s1 (lh.mpr rfl))
 | _=>exact hF.elim⟩
theorem K3 (ha:FE X a fa):FE X (.UnaryOp .Not a pos) (zr fa):=PE.weak (Gr ha) fun σ H Q ⟨O,ρ,E,hF⟩=>⟨O,ρ,E,(ir.bind hF).imp fun d hF x H1 s1 d1=>by
 obtain⟨d',e,q⟩:=ir.rO hF
 cases d with
 | bl c =>
  cases e
  exact⟨c,lh.mp d1,q _ H1 s1 (lh.mpr rfl)⟩
 | _=>cases e⟩
def JO (t:au->R Bool) (f g:FX):FX:=fun ρ=>(t ρ).bind fun c=>if c then f ρ else g ρ
theorem Mh (hc:FT X c f) (ha:FE X a fa) (hb:FE X b fb):FE X (.IfExp c a b pos) (JO f fa fb):=PE.weak (Dm hc ha hb) fun σ H Q ⟨O,ρ,E,hF⟩=>⟨O,ρ,E,(ir.bind hF).imp fun d hF H1 s1=>by
 cases d with
 | true=>exact AU ⟨O,ρ,E.same s1,(hF.mono s1).imp fun d q v H2 s2 d2=>q v H2 (s1.trans s2) d2⟩
 | false=>exact Af ⟨O,ρ,E.same s1,(hF.mono s1).imp fun d q v H2 s2 d2=>q v H2 (s1.trans s2) d2⟩⟩
end
end TG
namespace TG
open PySem PySem.Spec L2
variable [aR]
open PySem.SeqAt (EqAt RcAt RcNeAt)

mutual
def pyEq:D->D->Bool
 | .non,.non=>true
 | .bl a,.bl b=>a==b
 | .bl a,.int b=>(if a then 1 else 0)==b
 | .int a,.bl b=>a==(if b then 1 else 0)
 | .int a,.int b=>a==b
 | .str a,.str b=>a==b
 | .tup xs,.tup ys=>hU xs ys
 | .lst xs,.lst ys=>hU xs ys
 | .dct _ _,.dct _ _=>true
 | .obj _ _ _,.obj _ _ _=>true
 | .exc _ _ _,.exc _ _ _=>true
 | _,_=>false
def hU:List D->List D->Bool
 | [],[]=>true
 | x::xs,y::ys=>pyEq x y && hU xs ys
 | _,_=>false
end
mutual
theorem oT:∀ d:D,pyEq d d=true
 | .non=>by unfold pyEq; rfl
 | .bl b=>by unfold pyEq; simp
 | .int i=>by unfold pyEq; simp
 | .str x=>by unfold pyEq; simp
 | .tup xs=>by unfold pyEq; exact nq xs
 | .lst xs=>by unfold pyEq; exact nq xs
 | .dct _ _=>by unfold pyEq; rfl
 | .obj _ _ _=>by unfold pyEq; rfl
 | .exc _ _ _=>by unfold pyEq; rfl
theorem nq:∀ ds:List D,hU ds ds=true
 | []=>by unfold hU; rfl
 | d::ds=>by unfold hU; rw [oT d,nq ds]; rfl
end
def yg (xs ys:List D) (j:Nat):Bool:=match xs[j]?,ys[j]? with
 | some a,some b=>pyEq a b
 | _,_=>false
theorem gH:∀ xs ys:List D,((List.range (min xs.length ys.length)).all (yg xs ys) && xs.length==ys.length)=hU xs ys
 | [],[]=>by unfold hU; rfl
 | [],_::_=>by unfold hU; simp
 | _::_,[]=>by unfold hU; simp
 | x::xs,y::ys=>by
  have ih:=gH xs ys
  conv=>rhs; unfold hU
  rw [<- ih]
  have e:min (x::xs).length (y::ys).length=min xs.length ys.length+1:=by simp only [MV]; omega
  rw [e,List.range_succ_eq_map,ND,List.all_map]
  have e2:((x::xs).length==(y::ys).length)=(xs.length==ys.length):=by simp
  rw [e2,Bool.and_assoc]
  have e3:(List.range (min xs.length ys.length)).all (yg (x::xs) (y::ys) ∘ Nat.succ)=(List.range (min xs.length ys.length)).all (yg xs ys):=by
   congr 1
  rw [e3]
  rfl
mutual
def pl:D->Bool
 | .tup xs=>p9 xs
 | .lst xs=>p9 xs
 | .dct _ _=>false
 | .obj _ _ _=>false
 | .exc _ _ _=>false
 | _=>true
def p9:List D->Bool
 | []=>true
 | x::xs=>pl x && p9 xs
end
theorem gE {ks vs:List D} (h:pl (.dct ks vs)=true):False:=by unfold pl at h; cases h
theorem gD {c:Str} {fs:List Str} {vs:List D} (h:pl (.obj c fs vs)=true):False:=by unfold pl at h; cases h
theorem gL {c:Str} {fs:List Str} {vs:List D} (h:pl (.exc c fs vs)=true):False:=by unfold pl at h; cases h
theorem mF:∀ {xs:List D},p9 xs=true->∀ x∈xs,pl x=true
 | [],_,_,h=>nomatch h
 | x::xs,h,y,hy=>by
  unfold p9 at h
  rw [Ng] at h
  rcases List.mem_cons.mp hy with z | z
  ·rw [z]; exact h.1
  ·exact mF h.2 y z
theorem d9 {xs:List D}:pl (.tup xs)=p9 xs:=by rw [pl]
theorem eR {xs:List D}:pl (.lst xs)=p9 xs:=by rw [pl]
def gb:Nat->D->Bool
 | n+1,.tup xs=>xs.all (gb n)
 | n+1,.lst xs=>xs.all (gb n)
 | 0,.tup _=>false
 | 0,.lst _=>false
 | _,.dct _ _=>false
 | _,.obj _ _ _=>false
 | _,.exc _ _ _=>false
 | _,_=>true

section
variable {X:Cx} {pins:List (Qr×Obj)} {σ:St} {H:Hp} {s:Qy}
theorem Inv.not_both (I:Inv X pins σ H s) {a:Qr} {xs ys:List V} (h:p4 X.K H a xs) (h':oo X.K H a ys):False:=by
 obtain⟨its,_,ht,_⟩:=I.tuple h
 obtain⟨its2,_,hl,_⟩:=I.list h'
 exact absurd rfl (SeqAt.ne_of_list_tuple hl.isList (show s.heap.IsTuple a its.toArray from ht))
mutual
theorem Inv.den_inj (I:Inv X pins σ H s):∀ {a b:D} {v:V},pl a=true->pl b=true->cQ X.K H a v->cQ X.K H b v->a=b
 | .non,b,v,pa,pb,h,h'=>by
  rw [j5] at h; subst h
  cases b with
  | non=>rfl
  | bl _=>rw [lh] at h'; cases h'
  | int _=>rw [e8] at h'; cases h'
  | str _=>rw [eW] at h'; cases h'
  | tup _=>rw [cV] at h'; obtain⟨_,_,e,_⟩:=h'; cases e
  | lst _=>rw [cX] at h'; obtain⟨_,_,e,_⟩:=h'; cases e
  | dct _ _=>exact(gE pb).elim
  | obj _ _ _=>exact(gD pb).elim
  | exc _ _ _=>exact(gL pb).elim
 | .bl x,b,v,pa,pb,h,h'=>by
  rw [lh] at h; subst h
  cases b with
  | non=>rw [j5] at h'; cases h'
  | bl _=>rw [lh] at h'; cases h'; rfl
  | int _=>rw [e8] at h'; cases h'
  | str _=>rw [eW] at h'; cases h'
  | tup _=>rw [cV] at h'; obtain⟨_,_,e,_⟩:=h'; cases e
  | lst _=>rw [cX] at h'; obtain⟨_,_,e,_⟩:=h'; cases e
  | dct _ _=>exact(gE pb).elim
  | obj _ _ _=>exact(gD pb).elim
  | exc _ _ _=>exact(gL pb).elim
 | .int x,b,v,pa,pb,h,h'=>by
  rw [e8] at h; subst h
  cases b with
  | non=>rw [j5] at h'; cases h'
  | bl _=>rw [lh] at h'; cases h'
  | int _=>rw [e8] at h'; cases h'; rfl
  | str _=>rw [eW] at h'; cases h'
  | tup _=>rw [cV] at h'; obtain⟨_,_,e,_⟩:=h'; cases e
  | lst _=>rw [cX] at h'; obtain⟨_,_,e,_⟩:=h'; cases e
  | dct _ _=>exact(gE pb).elim
  | obj _ _ _=>exact(gD pb).elim
  | exc _ _ _=>exact(gL pb).elim
 | .str x,b,v,pa,pb,h,h'=>by
  rw [eW] at h; subst h
  cases b with
  | non=>rw [j5] at h'; cases h'
  | bl _=>rw [lh] at h'; cases h'
  | int _=>rw [e8] at h'; cases h'
  | str _=>rw [eW] at h'; cases h'; rfl
  | tup _=>rw [cV] at h'; obtain⟨_,_,e,_⟩:=h'; cases e
  | lst _=>rw [cX] at h'; obtain⟨_,_,e,_⟩:=h'; cases e
  | dct _ _=>exact(gE pb).elim
  | obj _ _ _=>exact(gD pb).elim
  | exc _ _ _=>exact(gL pb).elim
 | .tup xs,b,v,pa,pb,h,h'=>by
  rw [cV] at h
  obtain⟨a,vs,e,h1,h2⟩:=h
  subst e
  cases b with
  | non=>rw [j5] at h'; cases h'
  | bl _=>rw [lh] at h'; cases h'
  | int _=>rw [e8] at h'; cases h'
  | str _=>rw [eW] at h'; cases h'
  | tup ys =>
   rw [cV] at h'
   obtain⟨a',vs',e,h1',h2'⟩:=h'
   cases e
   have ev:=I.tuple_inj (p4.of h1) (p4.of h1')
   subst ev
   rw [Inv.denL_inj I (by first | rw [<- d9]; exact pa | rw [<- eR]; exact pa) (by first | rw [<- d9]; exact pb | rw [<- eR]; exact pb) h2 h2']
  | lst _=>rw [cX] at h'; obtain⟨_,_,e,h1',_⟩:=h'; cases e; exact(Inv.not_both I (p4.of h1) h1').elim
  | dct _ _=>exact(gE pb).elim
  | obj _ _ _=>exact(gD pb).elim
  | exc _ _ _=>exact(gL pb).elim
 | .lst xs,b,v,pa,pb,h,h'=>by
  rw [cX] at h
  obtain⟨a,vs,e,h1,h2⟩:=h
  subst e
  cases b with
  | non=>rw [j5] at h'; cases h'
  | bl _=>rw [lh] at h'; cases h'
  | int _=>rw [e8] at h'; cases h'
  | str _=>rw [eW] at h'; cases h'
  | lst ys =>
   rw [cX] at h'
   obtain⟨a',vs',e,h1',h2'⟩:=h'
   cases e
   have ev:=I.list_inj h1 h1'
   subst ev
   rw [Inv.denL_inj I (by first | rw [<- d9]; exact pa | rw [<- eR]; exact pa) (by first | rw [<- d9]; exact pb | rw [<- eR]; exact pb) h2 h2']
  | tup _=>rw [cV] at h'; obtain⟨_,_,e,h1',_⟩:=h'; cases e; exact(Inv.not_both I (p4.of h1') h1).elim
  | dct _ _=>exact(gE pb).elim
  | obj _ _ _=>exact(gD pb).elim
  | exc _ _ _=>exact(gL pb).elim
 | .dct _ _,_,_,pa,_,_,_=>(gE pa).elim
 | .obj _ _ _,_,_,pa,_,_,_=>(gD pa).elim
 | .exc _ _ _,_,_,pa,_,_,_=>(gL pa).elim
theorem Inv.denL_inj (I:Inv X pins σ H s):∀ {as bs:List D} {vs:List V},p9 as=true->p9 bs=true->aY X.K H as vs->aY X.K H bs vs->as=bs
 | [],bs,vs,pa,pb,h,h'=>by
  rw [cR] at h; subst h
  cases bs with
  | nil=>rfl
  | cons b bs=>rw [bo] at h'; obtain⟨_,_,e,_⟩:=h'; cases e
 | a::as,bs,vs,pa,pb,h,h'=>by
  rw [bo] at h
  obtain⟨v,r,e,h1,h2⟩:=h
  subst e
  cases bs with
  | nil=>rw [cR] at h'; cases h'
  | cons b bs =>
   rw [bo] at h'
   obtain⟨v',r',e,h1',h2'⟩:=h'
   cases e
   unfold p9 at pa pb
   rw [Ng] at pa pb
   rw [Inv.den_inj I pa.1 pb.1 h1 h1',Inv.denL_inj I pa.2 pb.2 h2 h2']
end

def nh:D->Option V
 | .non=>some .non
 | .bl b=>some (.bl b)
 | .int i=>some (.int i)
 | .str x=>some (.str x)
 | _=>none
theorem oz {K:Pj} {d:D} {v x:V} (h:nh d=some x) (hd:cQ K H d v):v=x/\BD x=true:=by
 cases d with
 | non=>cases h; exact⟨j5.mp hd,rfl⟩
 | bl b=>cases h; exact⟨lh.mp hd,rfl⟩
 | int i=>cases h; exact⟨e8.mp hd,rfl⟩
 | str y=>cases h; exact⟨eW.mp hd,rfl⟩
 | _=>cases h
theorem Dx {a b:D} {x y:V} (ha:nh a=some x) (hb:nh b=some y):K5 x y=pyEq a b:=by
 cases a <;> cases ha <;> cases b <;> cases hb <;> (unfold pyEq K5; rfl)
theorem vG {a:D} {x:V} (n:Nat) (h:nh a=some x):gb n a=true:=by
 cases a with
 | tup _=>cases h
 | lst _=>cases h
 | dct _ _=>cases h
 | obj _ _ _=>cases h
 | exc _ _ _=>cases h
 | _=>cases n <;> rfl
theorem v6 {a:D} (h:nh a=none):gb 0 a=false:=by
 cases a with
 | tup _=>rfl
 | lst _=>rfl
 | dct _ _=>rfl
 | obj _ _ _=>rfl
 | exc _ _ _=>rfl
 | _=>cases h
theorem in1_units (A:Qx):A.in1.units=A.units+1:=rfl
theorem ow {vs:List V} {us:List Qo} (r:Vals vs us) {j:Nat} (h:j < us.toArray.size):∃ x,vs[j]?=some x/\RelV x us.toArray[j]:=by
 have hj:j < us.length:=by simpa using h
 have hl:=r.length
 have hv:j < vs.length:=by omega
 obtain⟨u,e,ru⟩:=r.get (i:=j) (x:=vs[j]) (by simp [hv])
 refine⟨vs[j],by simp [hv],?_⟩
 have e2:us.toArray[j]=u:=by
  rw [NE hj] at e
  simpa using Option.some.inj e
 rw [e2]; exact ru
theorem oa {K:Pj} {ds:List D} {vs:List V} (h:aY K H ds vs) {j:Nat} {x:V} (e:vs[j]?=some x):∃ d,ds[j]?=some d/\cQ K H d x:=by
 have hj:j < vs.length:=(List.getElem?_eq_some_iff.mp e).1
 have hl:=h.length
 have hd:j < ds.length:=by omega
 obtain⟨v,e1,e2⟩:=h.get (i:=j) (d:=ds[j]) (by simp [hd])
 rw [e] at e1; cases e1
 exact⟨ds[j],by simp [hd],e2⟩

theorem BA (I:Inv X pins σ H s):∀ (n:Nat) (a b:D) (x y:V) (u v:Qo) (A:Qx),pl a=true->pl b=true->(gb n a=true\/gb n b=true)->cQ X.K H a x->cQ X.K H b y->RelV x u->RelV y v->A.units+n < QX->EqAt A s u v (pyEq a b):=by
 intro n
 induction n with
 | zero =>
  intro a b x y u v A pa pb hd ha hb ru rv hA
  have hu:A.units < QX:=hA
  cases ha':nh a with
  | some x' =>
   obtain⟨e,f⟩:=oz ha' ha
   subst e
   cases hb':nh b with
   | some y' =>
    obtain⟨e,f'⟩:=oz hb' hb
    subst e
    rw [<- Dx ha' hb']
    exact FU ru rv f f'
   | none =>
    cases b with
    | tup ys =>
     rw [cV] at hb
     obtain⟨p,vs,e,h1,h2⟩:=hb
     subst e
     cases rv
     obtain⟨its,_,ht,_⟩:=I.tuple (p4.of h1)
     have ht':s.heap.IsTuple p its.toArray:=ht
     cases a with
     | non=>cases ha'; cases ru; unfold pyEq; exact .none_tuple ht' hu
     | bl z=>cases ha'; cases ru; unfold pyEq; exact .bool_tuple z ht' hu
     | int z=>cases ha'; obtain⟨t,rfl⟩:=ru; unfold pyEq; exact .int_tuple z t ht' hu
     | str z=>cases ha'; obtain⟨t,rfl⟩:=ru; unfold pyEq; exact .str_tuple z t ht' hu
     | _=>cases ha'
    | lst ys =>
     rw [cX] at hb
     obtain⟨p,vs,e,h1,h2⟩:=hb
     subst e
     cases rv
     obtain⟨its,_,ht,_⟩:=I.list h1
     have ht':s.heap.IsList p its.toArray:=ht.isList
     cases a with
     | non=>cases ha'; cases ru; unfold pyEq; exact .none_list ht' hu
     | bl z=>cases ha'; cases ru; unfold pyEq; exact .bool_list z ht' hu
     | int z=>cases ha'; obtain⟨t,rfl⟩:=ru; unfold pyEq; exact .int_list z t ht' hu
     | str z=>cases ha'; obtain⟨t,rfl⟩:=ru; unfold pyEq; exact .str_list z t ht' hu
     | _=>cases ha'
    | dct _ _=>exact(gE pb).elim
    | obj _ _ _=>exact(gD pb).elim
    | exc _ _ _=>exact(gL pb).elim
    | _=>cases hb'
  | none =>
   have hdb:gb 0 b=true:=by
    rcases hd with hd | hd
    ·rw [v6 ha'] at hd; cases hd
    ·exact hd
   cases hb':nh b with
   | none=>rw [v6 hb'] at hdb; cases hdb
   | some y' =>
    obtain⟨e,f'⟩:=oz hb' hb
    subst e
    cases a with
    | tup xs =>
     rw [cV] at ha
     obtain⟨p,vs,e,h1,h2⟩:=ha
     subst e
     cases ru
     obtain⟨its,_,ht,_⟩:=I.tuple (p4.of h1)
     have ht':s.heap.IsTuple p its.toArray:=ht
     cases b with
     | non=>cases hb'; cases rv; unfold pyEq; exact .tuple_none ht' hu
     | bl z=>cases hb'; cases rv; unfold pyEq; exact .tuple_bool z ht' hu
     | int z=>cases hb'; obtain⟨t,rfl⟩:=rv; unfold pyEq; exact .tuple_int z t ht' hu
     | str z=>cases hb'; obtain⟨t,rfl⟩:=rv; unfold pyEq; exact .tuple_str z t ht' hu
     | _=>cases hb'
    | lst xs =>
     rw [cX] at ha
     obtain⟨p,vs,e,h1,h2⟩:=ha
     subst e
     cases ru
     obtain⟨its,_,ht,_⟩:=I.list h1
     have ht':s.heap.IsList p its.toArray:=ht.isList
     cases b with
     | non=>cases hb'; cases rv; unfold pyEq; exact .list_none ht' hu
     | bl z=>cases hb'; cases rv; unfold pyEq; exact .list_bool z ht' hu
     | int z=>cases hb'; obtain⟨t,rfl⟩:=rv; unfold pyEq; exact .list_int z t ht' hu
     | str z=>cases hb'; obtain⟨t,rfl⟩:=rv; unfold pyEq; exact .list_str z t ht' hu
     | _=>cases hb'
    | dct _ _=>exact(gE pa).elim
    | obj _ _ _=>exact(gD pa).elim
    | exc _ _ _=>exact(gL pa).elim
    | _=>cases ha'
 | succ n ih =>
  intro a b x y u v A pa pb hd ha hb ru rv hA
  have hu:A.units < QX:=by omega
  have flatWay:(∀ xs ys,¬ (a=.tup xs/\b=.tup ys))->(∀ xs ys,¬ (a=.lst xs/\b=.lst ys))->EqAt A s u v (pyEq a b):=by
   intro n1 n2
   cases ha':nh a with
   | some x'=>exact ih a b x y u v A pa pb (.inl (vG n ha')) ha hb ru rv ‹0›
   | none =>
    cases hb':nh b with
    | some y'=>exact ih a b x y u v A pa pb (.inr (vG n hb')) ha hb ru rv ‹0›
    | none =>
     cases a with
     | tup xs =>
      cases b with
      | tup ys=>exact absurd ⟨rfl,rfl⟩ (n1 xs ys)
      | lst ys =>
       rw [cV] at ha
       obtain⟨p,vs,e,h1,h2⟩:=ha
       subst e
       rw [cX] at hb
       obtain⟨p',vs',e,h1',h2'⟩:=hb
       subst e
       cases ru
       cases rv
       obtain⟨its,_,ht,_⟩:=I.tuple (p4.of h1)
       obtain⟨its2,_,ht2,_⟩:=I.list h1'
       unfold pyEq
       exact .tuple_list (show s.heap.IsTuple p its.toArray from ht) ht2.isList hu
      | dct _ _=>exact(gE pb).elim
      | obj _ _ _=>exact(gD pb).elim
      | exc _ _ _=>exact(gL pb).elim
      | _=>cases hb'
     | lst xs =>
      cases b with
      | lst ys=>exact absurd ⟨rfl,rfl⟩ (n2 xs ys)
      | tup ys =>
       rw [cX] at ha
       obtain⟨p,vs,e,h1,h2⟩:=ha
       subst e
       rw [cV] at hb
       obtain⟨p',vs',e,h1',h2'⟩:=hb
       subst e
       cases ru
       cases rv
       obtain⟨its,_,ht,_⟩:=I.list h1
       obtain⟨its2,_,ht2,_⟩:=I.tuple (p4.of h1')
       unfold pyEq
       exact .list_tuple ht.isList (show s.heap.IsTuple p' its2.toArray from ht2) hu
      | dct _ _=>exact(gE pb).elim
      | obj _ _ _=>exact(gD pb).elim
      | exc _ _ _=>exact(gL pb).elim
      | _=>cases hb'
     | dct _ _=>exact(gE pa).elim
     | obj _ _ _=>exact(gD pa).elim
     | exc _ _ _=>exact(gL pa).elim
     | _=>cases ha'
  have items:∀ (xs ys:List D) (vs vs':List V) (its its':List Qo),p9 xs=true->p9 ys=true->(gb (n+1) (.tup xs)=true\/gb (n+1) (.tup ys)=true)->aY X.K H xs vs->aY X.K H ys vs'->Vals vs its->Vals vs' its' ->
    ∀ j (h1:j < its.toArray.size) (h2:j < its'.toArray.size),EqAt A.in1 s its.toArray[j] its'.toArray[j] (yg xs ys j):=by
   intro xs ys vs vs' its its' px py hdd hx hy rx ry j h1 h2
   obtain⟨w1,e1,r1⟩:=ow rx h1
   obtain⟨w2,e2,r2⟩:=ow ry h2
   obtain⟨d1,f1,g1⟩:=oa hx e1
   obtain⟨d2,f2,g2⟩:=oa hy e2
   have e3:yg xs ys j=pyEq d1 d2:=by unfold yg; rw [f1,f2]
   rw [e3]
   refine ih d1 d2 w1 w2 _ _ A.in1 (mF px _ (M9 f1)) (mF py _ (M9 f2)) ?_ g1 g2 r1 r2 (by rw [in1_units]; omega)
   rcases hdd with hdd | hdd
   ·exact .inl (List.all_eq_true.mp hdd d1 (M9 f1))
   ·exact .inr (List.all_eq_true.mp hdd d2 (M9 f2))
  by_cases hT:∃ xs ys,a=.tup xs/\b=.tup ys
  ·obtain⟨xs,ys,rfl,rfl⟩:=hT
   have da:=ha
   have db:=hb
   rw [cV] at ha hb
   obtain⟨p,vs,e,h1,h2⟩:=ha
   subst e
   obtain⟨p',vs',e,h1',h2'⟩:=hb
   subst e
   cases ru
   cases rv
   by_cases hp:p=p'
   ·subst hp
    have e:=Inv.den_inj I pa pb da db
    rw [e,oT]
    exact EqAt.same _
   ·obtain⟨its,rv1,ht,_⟩:=I.tuple (p4.of h1)
    obtain⟨its2,rv2,ht2,_⟩:=I.tuple (p4.of h1')
    refine EqAt.of_refs hp ?_
    have q:=RcAt.tuples (e:=yg xs ys) (show s.heap.IsTuple p its.toArray from ht) (show s.heap.IsTuple p' its2.toArray from ht2) hu (items xs ys vs vs' its its2 (by first | rw [<- d9]; exact pa | rw [<- eR]; exact pa) (by first | rw [<- d9]; exact pb | rw [<- eR]; exact pb) hd h2 h2' rv1 rv2)
    have z1:its.toArray.size=xs.length:=by rw [MT,<- rv1.length,<- h2.length]
    have z2:its2.toArray.size=ys.length:=by rw [MT,<- rv2.length,<- h2'.length]
    rw [z1,z2,gH] at q
    unfold pyEq
    exact q
  ·by_cases hL:∃ xs ys,a=.lst xs/\b=.lst ys
   ·obtain⟨xs,ys,rfl,rfl⟩:=hL
    have da:=ha
    have db:=hb
    rw [cX] at ha hb
    obtain⟨p,vs,e,h1,h2⟩:=ha
    subst e
    obtain⟨p',vs',e,h1',h2'⟩:=hb
    subst e
    cases ru
    cases rv
    by_cases hp:p=p'
    ·subst hp
     have e:=Inv.den_inj I pa pb da db
     rw [e,oT]
     exact EqAt.same _
    ·obtain⟨its,rv1,ht,_⟩:=I.list h1
     obtain⟨its2,rv2,ht2,_⟩:=I.list h1'
     refine EqAt.of_refs hp ?_
     have z1:its.toArray.size=xs.length:=by rw [MT,<- rv1.length,<- h2.length]
     have z2:its2.toArray.size=ys.length:=by rw [MT,<- rv2.length,<- h2'.length]
     have er:=gH xs ys
     by_cases hz:its.toArray.size=its2.toArray.size
     ·have q:=RcAt.lists (e:=yg xs ys) ht.isList ht2.isList hz hu (items xs ys vs vs' its its2 (by first | rw [<- d9]; exact pa | rw [<- eR]; exact pa) (by first | rw [<- d9]; exact pb | rw [<- eR]; exact pb) hd h2 h2' rv1 rv2)
      rw [z1] at q
      have hz':xs.length=ys.length:=by omega
      rw [<- hz',NF] at er
      simp only [beq_self_eq_true,NI] at er
      rw [er] at q
      unfold pyEq
      exact q
     ·have hne:(its.toArray.size != its2.toArray.size)=true:=by simpa using hz
      have q:=RcAt.lists_lengths (A:=A) ht.isList ht2.isList hne hu
      have hz':(xs.length==ys.length)=false:=by
       rw [z1,z2] at hz
       simpa using hz
      rw [hz',Nj] at er
      unfold pyEq
      rw [<- er]
      exact q
   ·exact flatWay (fun xs ys z=>hT ⟨xs,ys,z⟩) fun xs ys z=>hL ⟨xs,ys,z⟩
end
end TG
namespace TG
open PySem PySem.Spec L2
variable [aR]
open PySem.SeqAt (EqAt RcAt RcNeAt)

section
variable {X:Cx} {pins:List (Qr×Obj)} {σ:St} {H:Hp} {s:Qy}
theorem qA (I:Inv X pins σ H s) {n:Nat} {xs ys:List D} {vs vs':List V} {its its':List Qo} {A:Qx} (px:p9 xs=true) (py:p9 ys=true) (hdd:gb (n+1) (.tup xs)=true\/gb (n+1) (.tup ys)=true) (hx:aY X.K H xs vs) (hy:aY X.K H ys vs') (rx:Vals vs its) (ry:Vals vs' its') (hA:A.units+n < QX) :
  ∀ j (h1:j < its.toArray.size) (h2:j < its'.toArray.size),EqAt A s its.toArray[j] its'.toArray[j] (yg xs ys j):=by
 intro j h1 h2
 obtain⟨w1,e1,r1⟩:=ow rx h1
 obtain⟨w2,e2,r2⟩:=ow ry h2
 obtain⟨d1,f1,g1⟩:=oa hx e1
 obtain⟨d2,f2,g2⟩:=oa hy e2
 have e3:yg xs ys j=pyEq d1 d2:=by unfold yg; rw [f1,f2]
 rw [e3]
 refine BA I n d1 d2 w1 w2 _ _ A (mF px _ (M9 f1)) (mF py _ (M9 f2)) ?_ g1 g2 r1 r2 hA
 rcases hdd with hdd | hdd
 ·exact .inl (List.all_eq_true.mp hdd d1 (M9 f1))
 ·exact .inr (List.all_eq_true.mp hdd d2 (M9 f2))
inductive Way (I:Inv X pins σ H s):D->Qo->Prop where
 | non:Way I .non .none
 | bl (b:Bool):Way I (.bl b) (.bool b)
 | int (i:Int) (t:Tok):Way I (.int i) (.int i t)
 | str (x:Str) (t:Tok):Way I (.str x) (.str x t)
 | tup {xs:List D} {p:Qr} {vs:List V} {its:List Qo} (h:aY X.K H xs vs) (r:Vals vs its) (t:s.heap.IsTuple p its.toArray):Way I (.tup xs) (.ref p)
 | lst {xs:List D} {p:Qr} {vs:List V} {its:List Qo} (h:aY X.K H xs vs) (r:Vals vs its) (t:s.heap.IsList p its.toArray):Way I (.lst xs) (.ref p)
def top:D->Bool
 | .dct _ _=>false
 | .obj _ _ _=>false
 | .exc _ _ _=>false
 | _=>true
theorem fU {d:D} (h:pl d=true):top d=true:=by
 cases d with
 | dct _ _=>exact(gE h).elim
 | obj _ _ _=>exact(gD h).elim
 | exc _ _ _=>exact(gL h).elim
 | _=>rfl
theorem fA (I:Inv X pins σ H s) {d:D} {v:V} {u:Qo} (pd:top d=true) (h:cQ X.K H d v) (r:RelV v u):Way I d u:=by
 cases d with
 | non=>rw [j5] at h; subst h; cases r; exact .non
 | bl b=>rw [lh] at h; subst h; cases r; exact .bl b
 | int i=>rw [e8] at h; subst h; obtain⟨t,rfl⟩:=r; exact .int i t
 | str x=>rw [eW] at h; subst h; obtain⟨t,rfl⟩:=r; exact .str x t
 | tup xs =>
  rw [cV] at h
  obtain⟨p,vs,e,h1,h2⟩:=h
  subst e
  cases r
  obtain⟨its,rv,ht,_⟩:=I.tuple (p4.of h1)
  exact .tup h2 rv ht
 | lst xs =>
  rw [cX] at h
  obtain⟨p,vs,e,h1,h2⟩:=h
  subst e
  cases r
  obtain⟨its,rv,ht,_⟩:=I.list h1
  exact .lst h2 rv ht.isList
 | dct _ _=>cases pd
 | obj _ _ _=>cases pd
 | exc _ _ _=>cases pd
theorem GA (I:Inv X pins σ H s) {n:Nat} {a b:D} {x y:V} {u v:Qo} {A:Qx} (pa:pl a=true) (pb:pl b=true) (hd:gb (n+1) a=true\/gb (n+1) b=true) (ha:cQ X.K H a x) (hb:cQ X.K H b y) (ru:RelV x u) (rv:RelV y v) (hA:A.units+n+1 < QX):RcAt A s u v (pyEq a b):=by
 have hu:A.units < QX:=by omega
 cases fA I (fU pa) ha ru with
 | non=>cases fA I (fU pb) hb rv with
  | non=>unfold pyEq; exact .none_none
  | bl b=>unfold pyEq; exact .none_bool b
  | int i t=>unfold pyEq; exact .none_int i t
  | str x t=>unfold pyEq; exact .none_str x t
  | tup h r t=>unfold pyEq; exact .none_tuple t hu
  | lst h r t=>unfold pyEq; exact .none_list t hu
 | bl z=>cases fA I (fU pb) hb rv with
  | non=>unfold pyEq; exact .bool_none z
  | bl b=>unfold pyEq; exact .bool_bool z b
  | int i t=>unfold pyEq; exact .bool_int z i t
  | str x t=>unfold pyEq; exact .bool_str z x t
  | tup h r t=>unfold pyEq; exact .bool_tuple z t hu
  | lst h r t=>unfold pyEq; exact .bool_list z t hu
 | int z tz=>cases fA I (fU pb) hb rv with
  | non=>unfold pyEq; exact .int_none z tz
  | bl b=>unfold pyEq; exact .int_bool z tz b
  | int i t=>unfold pyEq; exact .int_int z tz i t
  | str x t=>unfold pyEq; exact .int_str z tz x t
  | tup h r t=>unfold pyEq; exact .int_tuple z tz t hu
  | lst h r t=>unfold pyEq; exact .int_list z tz t hu
 | str z tz=>cases fA I (fU pb) hb rv with
  | non=>unfold pyEq; exact .str_none z tz
  | bl b=>unfold pyEq; exact .str_bool z tz b
  | int i t=>unfold pyEq; exact .str_int z tz i t
  | str x t=>unfold pyEq; exact .str_str z tz x t
  | tup h r t=>unfold pyEq; exact .str_tuple z tz t hu
  | lst h r t=>unfold pyEq; exact .str_list z tz t hu
 | @tup xs p vs its h1 r1 t1=>cases fA I (fU pb) hb rv with
  | non=>unfold pyEq; exact .tuple_none t1 hu
  | bl b=>unfold pyEq; exact .tuple_bool b t1 hu
  | int i t=>unfold pyEq; exact .tuple_int i t t1 hu
  | str x t=>unfold pyEq; exact .tuple_str x t t1 hu
  | @tup ys p' vs' its' h2 r2 t2 =>
   have q:=RcAt.tuples (e:=yg xs ys) t1 t2 hu (qA (A:=A.in1) I (by first | rw [<- d9]; exact pa | rw [<- eR]; exact pa) (by first | rw [<- d9]; exact pb | rw [<- eR]; exact pb) hd h1 h2 r1 r2 (by rw [in1_units]; omega))
   have z1:its.toArray.size=xs.length:=by rw [MT,<- r1.length,<- h1.length]
   have z2:its'.toArray.size=ys.length:=by rw [MT,<- r2.length,<- h2.length]
   rw [z1,z2,gH] at q
   unfold pyEq; exact q
  | lst h r t=>unfold pyEq; exact .tuple_list t1 t hu
 | @lst xs p vs its h1 r1 t1=>cases fA I (fU pb) hb rv with
  | non=>unfold pyEq; exact .list_none t1 hu
  | bl b=>unfold pyEq; exact .list_bool b t1 hu
  | int i t=>unfold pyEq; exact .list_int i t t1 hu
  | str x t=>unfold pyEq; exact .list_str x t t1 hu
  | tup h r t=>unfold pyEq; exact .list_tuple t1 t hu
  | @lst ys p' vs' its' h2 r2 t2 =>
   have z1:its.toArray.size=xs.length:=by rw [MT,<- r1.length,<- h1.length]
   have z2:its'.toArray.size=ys.length:=by rw [MT,<- r2.length,<- h2.length]
   have er:=gH xs ys
   by_cases hz:its.toArray.size=its'.toArray.size
   ·have q:=RcAt.lists (e:=yg xs ys) t1 t2 hz hu (qA (A:=A.in1) I (by first | rw [<- d9]; exact pa | rw [<- eR]; exact pa) (by first | rw [<- d9]; exact pb | rw [<- eR]; exact pb) hd h1 h2 r1 r2 (by rw [in1_units]; omega))
    rw [z1] at q
    have hz':xs.length=ys.length:=by omega
    rw [<- hz',NF] at er
    simp only [beq_self_eq_true,NI] at er
    rw [er] at q
    unfold pyEq; exact q
   ·have q:=RcAt.lists_lengths (A:=A) t1 t2 (by simpa using hz) hu
    have hz':(xs.length==ys.length)=false:=by
     rw [z1,z2] at hz
     simpa using hz
    rw [hz',Nj] at er
    unfold pyEq
    rw [<- er]; exact q
theorem BE (I:Inv X pins σ H s) {n:Nat} {a b:D} {x y:V} {u v:Qo} {A:Qx} (pa:pl a=true) (pb:pl b=true) (hd:gb (n+1) a=true\/gb (n+1) b=true) (ha:cQ X.K H a x) (hb:cQ X.K H b y) (ru:RelV x u) (rv:RelV y v) (hA:A.units+n+1 < QX):RcNeAt A s u v (!pyEq a b):=by
 have hu:A.units < QX:=by omega
 cases fA I (fU pa) ha ru with
 | non=>cases fA I (fU pb) hb rv with
  | non=>unfold pyEq; exact .none_none
  | bl b=>unfold pyEq; exact .none_bool b
  | int i t=>unfold pyEq; exact .none_int i t
  | str x t=>unfold pyEq; exact .none_str x t
  | tup h r t=>unfold pyEq; exact .none_tuple t hu
  | lst h r t=>unfold pyEq; exact .none_list t hu
 | bl z=>cases fA I (fU pb) hb rv with
  | non=>unfold pyEq; exact .bool_none z
  | bl b=>unfold pyEq; exact .bool_bool z b
  | int i t=>unfold pyEq; exact .bool_int z i t
  | str x t=>unfold pyEq; exact .bool_str z x t
  | tup h r t=>unfold pyEq; exact .bool_tuple z t hu
  | lst h r t=>unfold pyEq; exact .bool_list z t hu
 | int z tz=>cases fA I (fU pb) hb rv with
  | non=>unfold pyEq; exact .int_none z tz
  | bl b=>unfold pyEq; exact .int_bool z tz b
  | int i t=>unfold pyEq; exact .int_int z tz i t
  | str x t=>unfold pyEq; exact .int_str z tz x t
  | tup h r t=>unfold pyEq; exact .int_tuple z tz t hu
  | lst h r t=>unfold pyEq; exact .int_list z tz t hu
 | str z tz=>cases fA I (fU pb) hb rv with
  | non=>unfold pyEq; exact .str_none z tz
  | bl b=>unfold pyEq; exact .str_bool z tz b
  | int i t=>unfold pyEq; exact .str_int z tz i t
  | str x t=>unfold pyEq; exact .str_str z tz x t
  | tup h r t=>unfold pyEq; exact .str_tuple z tz t hu
  | lst h r t=>unfold pyEq; exact .str_list z tz t hu
 | @tup xs p vs its h1 r1 t1=>cases fA I (fU pb) hb rv with
  | non=>unfold pyEq; exact .tuple_none t1 hu
  | bl b=>unfold pyEq; exact .tuple_bool b t1 hu
  | int i t=>unfold pyEq; exact .tuple_int i t t1 hu
  | str x t=>unfold pyEq; exact .tuple_str x t t1 hu
  | @tup ys p' vs' its' h2 r2 t2 =>
   have q:=RcNeAt.tuples (e:=yg xs ys) t1 t2 hu (qA (A:=A.in1) I (by first | rw [<- d9]; exact pa | rw [<- eR]; exact pa) (by first | rw [<- d9]; exact pb | rw [<- eR]; exact pb) hd h1 h2 r1 r2 (by rw [in1_units]; omega))
   have z1:its.toArray.size=xs.length:=by rw [MT,<- r1.length,<- h1.length]
   have z2:its'.toArray.size=ys.length:=by rw [MT,<- r2.length,<- h2.length]
   rw [z1,z2,gH] at q
   unfold pyEq; exact q
  | lst h r t=>unfold pyEq; exact .tuple_list t1 t hu
 | @lst xs p vs its h1 r1 t1=>cases fA I (fU pb) hb rv with
  | non=>unfold pyEq; exact .list_none t1 hu
  | bl b=>unfold pyEq; exact .list_bool b t1 hu
  | int i t=>unfold pyEq; exact .list_int i t t1 hu
  | str x t=>unfold pyEq; exact .list_str x t t1 hu
  | tup h r t=>unfold pyEq; exact .list_tuple t1 t hu
  | @lst ys p' vs' its' h2 r2 t2 =>
   have z1:its.toArray.size=xs.length:=by rw [MT,<- r1.length,<- h1.length]
   have z2:its'.toArray.size=ys.length:=by rw [MT,<- r2.length,<- h2.length]
   have er:=gH xs ys
   by_cases hz:its.toArray.size=its'.toArray.size
   ·have q:=RcNeAt.lists (e:=yg xs ys) t1 t2 hz hu (qA (A:=A.in1) I (by first | rw [<- d9]; exact pa | rw [<- eR]; exact pa) (by first | rw [<- d9]; exact pb | rw [<- eR]; exact pb) hd h1 h2 r1 r2 (by rw [in1_units]; omega))
    rw [z1] at q
    have hz':xs.length=ys.length:=by omega
    rw [<- hz',NF] at er
    simp only [beq_self_eq_true,NI] at er
    rw [er] at q
    unfold pyEq; exact q
   ·have q:=RcNeAt.lists_lengths (A:=A) t1 t2 (by simpa using hz) hu
    have hz':(xs.length==ys.length)=false:=by
     rw [z1,z2] at hz
     simpa using hz
    rw [hz',Nj] at er
    unfold pyEq
    rw [<- er]; exact q
end

section
variable {X:Cx}
def rD (K:Pj) (g:D->D->Option D):R2:=fun x y H Q=>∃ O a b d,eF H O/\cQ K (hid H O) a x/\cQ K (hid H O) b y/\g a b=some d/\∀ v H',bm H H'->cQ K (hid H' O) d v->Q v H'
theorem ax {K:Pj} {g:D->D->Option D}:de K (rD K g) g:=fun a b d x y O H Q hO hg ha hb q=>⟨O,a,b,d,hO,ha,hb,hg,q⟩
theorem rH {f : Qo -> Qo -> Sem Qo} {g : D -> D -> Option D} (h : ∀ (pins : List (Qr × Obj)) (s : Qy) (σ : St) (H : Hp) (a b d : D) (x y : V) (u v : Qo), Inv X pins σ H s -> cQ X.K H a x -> cQ X.K H b y -> RelV x u -> RelV y v -> g a b = some d ->
      ∃ c,d=.bl c/\∀ (Q:Qo->Qy->Prop),Q (.bool c) s->QA (model X.prog X.w) X.A (f u v) Q X.xe s):jr X f (rD X.K g):=by
  intro pins s σ H x y u v Q I rx ry ⟨O,a,b,d,hO,ha,hb,hg,q⟩
  obtain⟨c,rfl,hq⟩:=h pins s σ H a b d x y u v I (ha.mono (aI H O)) (hb.mono (aI H O)) rx ry hg
  exact hq _ ⟨.bl c,H,I,rfl,q _ H (bm.refl H) (lh.mpr rfl)⟩
def kN (a b:D):Option D:=if (pl a && pl b) && (gb 8 a || gb 8 b) then some (.bl (pyEq a b)) else none
def Bu (a b:D):Option D:=if (pl a && pl b) && (gb 8 a || gb 8 b) then some (.bl (!pyEq a b)) else none
theorem eQ (hu:X.A.units+64 < QX):jr X (QO .Eq) (rD X.K kN):=rH fun pins s σ H a b d x y u v I ha hb ru rv hg=>by
 obtain⟨h1,h2⟩:=bQ hg
 subst h2
 rw [Ng,Ng,NK] at h1
 exact⟨_,rfl,fun Q q=>GA (n:=7) (A:=X.A) I h1.1.1 h1.1.2 h1.2 ha hb ru rv ‹0› X.prog X.w X.xe Q q⟩
theorem BP (hu:X.A.units+64 < QX):jr X (QO .NotEq) (rD X.K Bu):=rH fun pins s σ H a b d x y u v I ha hb ru rv hg=>by
 obtain⟨h1,h2⟩:=bQ hg
 subst h2
 rw [Ng,Ng,NK] at h1
 exact⟨_,rfl,fun Q q=>BE (n:=7) (A:=X.A) I h1.1.1 h1.1.2 h1.2 ha hb ru rv ‹0› X.prog X.w X.xe Q q⟩

def inD (x:D) (ys:List D):Bool:=ys.any fun y=>pyEq y x
def HI (x y:D):Option D:=match y with
 | .tup ys=>if (pl x && p9 ys) && gb 8 x then some (.bl (inD x ys)) else none
 | .lst ys=>if (pl x && p9 ys) && gb 8 x then some (.bl (inD x ys)) else none
 | _=>none
open Classical in
theorem Fb {pins:List (Qr×Obj)} {σ:St} {H:Hp} {s:Qy} (I:Inv X pins σ H s) {xd:D} {x:V} {u:Qo} {A:Qx} (px:pl xd=true) (hd:gb 8 xd=true) (hx:cQ X.K H xd x) (ru:RelV x u) (hA:A.units+8 < QX) {ys:List D} {vs:List V} {its:List Qo} (py:p9 ys=true) (hy:aY X.K H ys vs) (rv:Vals vs its) :
  ∃ e:Qo->Bool,(∀ y,y∈its.toArray->EqAt A s y u (e y))/\its.toArray.any e=inD xd ys:=by
 let e:Qo->Bool:=fun y=>decide (∃ d w,pl d=true/\cQ X.K H d w/\RelV w y/\pyEq d xd=true)
 have he:∀ d w y,pl d=true->cQ X.K H d w->RelV w y->e y=pyEq d xd:=fun d w y h0 h1 h2=>by
  cases hq:pyEq d xd with
  | true=>exact decide_eq_true ⟨d,w,h0,h1,h2,hq⟩
  | false =>
   refine decide_eq_false ?_
   rintro⟨d',w',g0,g1,g2,g3⟩
   have ew:=RelV.inj h2 g2
   subst ew
   rw [Inv.den_inj I h0 g0 h1 g1,g3] at hq
   cases hq
 refine⟨e,fun y hy'=>?_,?_⟩
 ·have hm:y∈its:=by simpa using hy'
  obtain⟨j,hj,rfl⟩:=NM hm
  obtain⟨w,e1,r1⟩:=ow rv (j:=j) (by simpa using hj)
  obtain⟨d,f1,g1⟩:=oa hy e1
  have r1':RelV w its[j]:=by simpa using r1
  have pd:=mF py _ (M9 f1)
  rw [he d w _ pd g1 r1']
  exact BA I 8 d xd w x _ u A pd px (.inr hd) g1 hx r1' ru hA
 ·unfold inD
  have go:∀ (ys:List D) (vs:List V) (its:List Qo),p9 ys=true->aY X.K H ys vs->Vals vs its->its.any e=ys.any fun y=>pyEq y xd:=by
   intro ys
   induction ys with
   | nil =>
    intro vs its py h r
    rw [cR] at h
    subst h
    cases r
    rfl
   | cons y ys ih =>
    intro vs its py h r
    unfold p9 at py
    rw [Ng] at py
    rw [bo] at h
    obtain⟨v,r',e1,h1,h2⟩:=h
    subst e1
    cases r with
    | cons q1 q2=>rw [Nn,Nn,he y v _ py.1 h1 q1,ih _ _ py.2 h2 q2]
  rw [List.any_toArray]
  exact go ys vs its py hy rv
theorem GL (hu:X.A.units+64 < QX):jr X (QO .In) (rD X.K HI):=rH fun pins s σ H a b d x y u v I ha hb ru rv hg=>by
 cases b with
 | tup ys =>
  obtain⟨h1,h2⟩:=bQ hg
  subst h2
  rw [Ng,Ng] at h1
  rw [cV] at hb
  obtain⟨p,vs,e,g1,g2⟩:=hb
  subst e
  cases rv
  obtain⟨its,r,t,_⟩:=I.tuple (p4.of g1)
  obtain⟨e,he,ea⟩:=Fb (A:=X.A.in1) I h1.1.1 h1.2 ha ru (by rw [in1_units]; omega) h1.1.2 g2 r
  exact⟨_,rfl,fun Q q=>SeqAt.in_tupleAt e (show s.heap.IsTuple p its.toArray from t) he (by rw [ea]; exact q)⟩
 | lst ys =>
  obtain⟨h1,h2⟩:=bQ hg
  subst h2
  rw [Ng,Ng] at h1
  rw [cX] at hb
  obtain⟨p,vs,e,g1,g2⟩:=hb
  subst e
  cases rv
  obtain⟨its,r,t,_⟩:=I.list g1
  obtain⟨e,he,ea⟩:=Fb (A:=X.A.in1) I h1.1.1 h1.2 ha ru (by rw [in1_units]; omega) h1.1.2 g2 r
  exact⟨_,rfl,fun Q q=>SeqAt.in_listAt e t.isList he (by rw [ea]; exact q)⟩
 | _=>cases hg
def Fh (p:Int->Int->D) (a b:D):Option D:=match a,b with
 | .int i,.int j=>some (p i j)
 | _,_=>none
def Mv:=Fh fun i j=>.bl (decide (i < j))
def Ml:=Fh fun i j=>.bl (decide (i<=j))
def Mo:=Fh fun i j=>.bl (decide (j < i))
def Mj:=Fh fun i j=>.bl (decide (j<=i))
theorem t7 {K:Pj} {g:Int->Int->Bool}:de K (Bv fun i j=>.bl (g i j)) (Fh fun i j=>.bl (g i j)):=fun a b d x y O H Q hO hg ha hb q=>by
 cases a with
 | int i =>
  cases b with
  | int j=>cases hg; exact⟨i,j,e8.mp ha,e8.mp hb,q _ H (bm.refl H) (lh.mpr rfl)⟩
  | _=>cases hg
 | _=>cases hg

theorem qD {K:Pj} {g:Int->Int->Int}:de K (Bv fun i j=>.int (g i j)) (Fh fun i j=>.int (g i j)):=fun a b d x y O H Q hO hg ha hb q=>by
 cases a with
 | int i =>
  cases b with
  | int j=>cases hg; exact⟨i,j,e8.mp ha,e8.mp hb,q _ H (bm.refl H) (e8.mpr rfl)⟩
  | _=>cases hg
 | _=>cases hg
def HB (c:Int->Int->Bool) (p:Int->Int->Int) (a b:D):Option D:=match a,b with
 | .int i,.int j=>if c i j then some (.int (p i j)) else none
 | _,_=>none
theorem jK {K:Pj} {C:Int->Int->Prop} {c:Int->Int->Bool} {g:Int->Int->Int} (hc:∀ i j,c i j=true->C i j):de K (rI C fun i j=>.int (g i j)) (HB c g):=fun a b d x y O H Q hO hg ha hb q=>by
 cases a with
 | int i =>
  cases b with
  | int j =>
   obtain⟨h1,h2⟩:=bQ hg
   subst h2
   exact⟨i,j,e8.mp ha,e8.mp hb,hc i j h1,q _ H (bm.refl H) (e8.mpr rfl)⟩
  | _=>cases hg
 | _=>cases hg
def x6:=Fh fun i j=>.int (i - j)
def jD:=HB (fun i j=>decide ((-(2 ^ 64) < i/\i < 2 ^ 64)\/(-(2 ^ 64) < j/\j < 2 ^ 64))) (·*·)
def Fp (_ j:Int):Prop:=0 < j/\j < 10 ^ 200
theorem bq:jr X (QN .FloorDiv) (rI Fp fun i j=>.int (i / j)):=Ii fun i j _ _ _ _ _ hc q=>by
 have h1:(0:Int) < j:=hc.1
 have h2:j < 10 ^ 200:=hc.2
 refine PyProof.Rows.floordiv_int ‹0› (by rw [MS i ‹0›]; exact q) (.inl (PyProof.noPylong_of_log2 ?_))
 have h3:j.natAbs < 10 ^ 200:=by omega
 rw [Nat.log2_lt ‹0›]
 exact Nq h3 (by decide +kernel)
def dY:=HB (fun _ j=>decide (0 < j/\j < 10 ^ 200)) (· / ·)
def cP:=HB (fun _ j=>decide (0 < j)) (·%·)
def qc:=HB (fun i j=>decide (0<=j/\j<=1000000/\i.natAbs < 2 ^ 64)) fun i j=>i ^ j.toNat
theorem pq {K:Pj}:de K (Bv fun i j=>.int (i - j)) x6:=qD
theorem ja {K:Pj}:de K (rI Hk fun i j=>.int (i*j)) jD:=jK fun i j h=>by have q:=of_decide_eq_true h; exact q
theorem cq {K:Pj}:de K (rI Fp fun i j=>.int (i / j)) dY:=jK fun i j h=>by have q:=of_decide_eq_true h; exact q
theorem bw {K:Pj}:de K (rI (fun _ j=>0 < j) fun i j=>.int (i%j)) cP:=jK fun _ _ h=>of_decide_eq_true h
theorem oy {K:Pj}:de K (rI Ih fun i j=>.int (i ^ j.toNat)) qc:=jK fun i j h=>by have q:=of_decide_eq_true h; exact q
def Jb (K:Pj):R2:=fun x y H Q=>∃ l b xs zs,x=.ref l/\y=.ref b/\oo K H l xs/\oo K H b zs/\xs.length+zs.length<=Qu/\∀ p,H p=none->Q (.ref p) (upd H p (.lst (xs++zs)))
theorem D6:jr X (QN .Add) (Jb X.K):=by
 intro pins s σ H x y v u Q I rx ry h
 obtain⟨l,b,xs,zs,rfl,rfl,hH,hB,hz,q⟩:=h
 cases rx
 cases ry
 obtain⟨its,r,t1,_⟩:=I.list hH
 obtain⟨its2,r2,t2,_⟩:=I.list hB
 obtain⟨⟨c1,d1,dt1,sl1⟩,n1,ho,hc,hd,hdt⟩:=t1
 obtain⟨⟨c2,d2,dt2,sl2⟩,n2,ho2,hc2,hd2,hdt2⟩:=t2
 simp only at hc hd hdt hc2 hd2 hdt2
 subst hc hd hdt hc2 hd2 hdt2
 have z1:=r.length
 have z2:=r2.length
 refine Q4 ⟨_,ho,rfl⟩ ⟨_,ho2,rfl⟩ noFill_list_add seq_list_add F.slot_list_add F.entry_list_add (F.args_list_add_2 _ _) (PyProof.Rows.list_addW l b its.toArray its2.toArray n1 n2 none none sl1 sl2 (by rw [MT,MT]; omega)) ⟨ho,ho2,?_⟩
 have ea:its.toArray++its2.toArray=(its++its2).toArray:=by simp
 rw [ea]
 exact⟨.ref _,_,I.lnew (t':=s.toks) (r.append r2) (by rw [Nb]; omega),rfl,q _ I.fresh⟩
def Hs (K:Pj):R2:=fun x y H Q=>∃ a b xs ys,x=.ref a/\y=.ref b/\p4 K H a xs/\p4 K H b ys/\xs.length+ys.length<=Qu /\
 (xs=[]->Q (.ref b) H)/\(xs≠[]->ys=[]->Q (.ref a) H)/\(xs≠[]->ys≠[]->∀ p,H p=none->Q (.ref p) (upd H p (.tup (xs++ys))))
theorem CW:jr X (QN .Add) (Hs X.K):=by
 intro pins s σ H x y v u Q I rx ry h
 obtain⟨a,b,xs,ys,ex,ey,ha,hb,hz,q0,q1,q2⟩:=h
 by_cases hx:xs=[]
 ·subst ex ey
  cases rx
  cases ry
  obtain⟨its,r1,p1,_⟩:=I.tuple ha
  obtain⟨its2,r2,p2,_⟩:=I.tuple hb
  obtain⟨⟨cls,dd,data,sl⟩,ho,hc,n,hd⟩:=id p1
  obtain⟨⟨cls2,dd2,data2,sl2⟩,ho2,hc2,n2,hd2⟩:=id p2
  simp only at hc hd hc2 hd2
  subst hc hd hc2 hd2
  have e:its=[]:=r1.nil_iff.mpr hx
  exact Q4 ⟨_,ho,rfl⟩ ⟨_,ho2,rfl⟩ Q5 Q6 F.slot_tuple_add F.entry_tuple_add (F.args_tuple_add_2 _ _)
   (PyProof.Rows.tuple_addW0 a b its.toArray its2.toArray n n2 dd dd2 sl sl2 (by rw [e]; rfl)) ⟨ho,ho2,⟨.ref b,H,I,rfl,q0 hx⟩⟩
 ·exact DU pins s σ H x y v u Q I rx ry ⟨a,b,xs,ys,ex,ey,ha,hb,hx,hz,q1 hx,q2 hx⟩
def ce (a b:D):Option D:=match a,b with
 | .int i,.int j=>some (.int (i+j))
 | .str x,.str y=>if small (x.length+y.length) then some (.str (x++y)) else none
 | .lst xs,.lst ys=>if small (xs.length+ys.length) then some (.lst (xs++ys)) else none
 | .tup xs,.tup ys=>if small (xs.length+ys.length) then some (.tup (xs++ys)) else none
 | _,_=>none
theorem bh:jr X (QN .Add) (rD X.K ce):=by
 intro pins s σ H x y u v Q I rx ry ⟨O,a,b,d,hO,ha,hb,hg,q⟩
 cases a with
 | int i =>
  cases b with
  | int j =>
   cases hg
   exact Fz pins s σ H x y u v Q I rx ry ⟨i,j,e8.mp ha,e8.mp hb,q _ H (bm.refl H) (e8.mpr rfl)⟩
  | _=>cases hg
 | str i =>
  cases b with
  | str j =>
   obtain⟨h1,h2⟩:=bQ hg
   subst h2
   exact x8 pins s σ H x y u v Q I rx ry ⟨i,j,eW.mp ha,eW.mp hb,d7 h1,q _ H (bm.refl H) (eW.mpr rfl)⟩
  | _=>cases hg
 | lst xs =>
  cases b with
  | lst ys =>
   obtain⟨h1,h2⟩:=bQ hg
   subst h2
   rw [cX] at ha hb
   obtain⟨p,vs,ex,g1,g2⟩:=ha
   obtain⟨p',vs',ey,g1',g2'⟩:=hb
   refine D6 pins s σ H x y u v Q I rx ry ⟨p,p',vs,vs',ex,ey,(aI H O).seq g1,(aI H O).seq g1',?_,fun r hr=>?_⟩
   ·rw [<- g2.length,<- g2'.length]; exact d7 h1
   ·exact q _ _ (cD hr _) (fG hO hr (g2.append g2'))
  | _=>cases hg
 | tup xs =>
  cases b with
  | tup ys =>
   obtain⟨h1,h2⟩:=bQ hg
   subst h2
   have da:=ha
   have db:=hb
   rw [cV] at ha hb
   obtain⟨p,vs,ex,g1,g2⟩:=ha
   obtain⟨p',vs',ey,g1',g2'⟩:=hb
   have l1:=g2.length
   have l2:=g2'.length
   refine CW pins s σ H x y u v Q I rx ry ⟨p,p',vs,vs',ex,ey,cC (aI H O) g1,cC (aI H O) g1',?_,fun z=>?_,fun z z'=>?_,fun z z' r hr=>?_⟩
   ·rw [<- l1,<- l2]; exact d7 h1
   ·have e:xs=[]:=List.length_eq_zero_iff.mp (by rw [l1,z]; rfl)
    rw [<- ey]
    refine q _ H (bm.refl H) ?_
    rw [e,NN]; exact db
   ·have e:ys=[]:=List.length_eq_zero_iff.mp (by rw [l2,z']; rfl)
    rw [<- ex]
    refine q _ H (bm.refl H) ?_
    rw [e,M1]; exact da
   ·exact q _ _ (cD hr _) (fH hO hr (g2.append g2'))
  | _=>cases hg
 | _=>cases hg

def aQ (a b:D):Option D:=match a,b with
 | .tup xs,.int i=>ox xs i
 | .lst xs,.int i=>ox xs i
 | .str x,.int i=>if small x.length then (ox x.cps.toList i).bind fun c=>some (.str ⟨#[c]⟩) else none
 | _,_=>none
theorem zP {K:Pj} {H:Hp} {ds:List D} {vs:List V} {i:Int} {d:D} (h:aY K H ds vs) (e:ox ds i=some d):∃ v,ox vs i=some v/\cQ K H d v:=by
 unfold ox at e ⊢
 obtain⟨j,e1,e2⟩:=bind_some e
 rw [<- h.length,e1]
 exact h.get e2
theorem Kx:Jr X (rD X.K aQ):=by
 intro value slice pins s σ H x y u v Q I rx ry ⟨O,a,b,d,hO,ha,hb,hg,q⟩ hsub
 cases a with
 | tup xs =>
  cases b with
  | int i =>
   rw [cV] at ha
   obtain⟨p,vs,ex,g1,g2⟩:=ha
   obtain⟨w,e1,e2⟩:=zP g2 hg
   refine Fx value slice pins s σ H x y u v Q I rx ry ?_ hsub; exact⟨p,vs,i,w,ex,e8.mp hb,cC (aI H O) g1,e1,q w H (bm.refl H) e2⟩
  | _=>cases hg
 | lst xs =>
  cases b with
  | int i =>
   rw [cX] at ha
   obtain⟨p,vs,ex,g1,g2⟩:=ha
   obtain⟨w,e1,e2⟩:=zP g2 hg
   refine D0 value slice pins s σ H x y u v Q I rx ry ?_ hsub; exact⟨p,vs,i,w,ex,e8.mp hb,(aI H O).seq g1,e1,q w H (bm.refl H) e2⟩
  | _=>cases hg
 | str z =>
  cases b with
  | int i =>
   have hg':(if small z.length then (ox z.cps.toList i).bind fun c=>some (D.str ⟨#[c]⟩) else none)=some d:=hg
   cases hs:small z.length with
   | false=>rw [hs] at hg'; cases hg'
   | true =>
    rw [hs] at hg'
    obtain⟨c,e1,e2⟩:=bind_some hg'
    cases e2
    refine Gk value slice pins s σ H x y u v Q I rx ry ?_ hsub; exact⟨z,i,c,eW.mp ha,e8.mp hb,d7 hs,e1,q _ H (bm.refl H) (eW.mpr rfl)⟩
  | _=>cases hg
 | _=>cases hg
theorem Mg {a b:QB} {fa fb:FX} {pos:Pos} (ha:FE X a fa) (hb:FE X b fb) (hs:vA b):FE X (.Subscript a b pos) (f2 aQ fa fb) :=
 PE.weak (Iw Kx ha hb hs) (vg ax)

def cutD {α:Type} (xs:List α) (lo hi:Option Int):List α:=(xs.drop (HT.sIx xs.length 0 lo)).take (HT.sIx xs.length xs.length hi - HT.sIx xs.length 0 lo)
theorem sM {M:Model} {A:Qx} {E:Qo->Qy->Prop} {s:Qy} {t:Qr} {items:Array Qo} {Q:Bool->Qy->Prop} (ht:Qc s.heap t items) (h:Q true s):QA M A (Builtin.Tuple.tupleIsExact (.ref t)) Q E s:=by
 unfold Builtin.Tuple.tupleIsExact
 refine QI (Rc ht.typeIs ?_)
 exact QH h
theorem mY {prog:Qq} {w:Qp} {A:Qx} {E:Qo->Qy->Prop} {s:Qy} {t sl:Qr} {items:Array Qo} {vl vu:Qo} {lo hi:Option Int} {Q:Qo->Qy->Prop} (ht:Qc s.heap t items) (hs:s.heap.IsSliceOf sl vl vu .none) (pl:Q7 vl lo) (pu:Q7 vu hi)
  (hw:HT.sIx items.size 0 lo=0/\HT.sIx items.size items.size hi=items.size) (h:Q (.ref t) s):QA (model prog w) A (getItem (.ref t) (.ref sl)) Q E s:=by
 obtain⟨os,hos,hcs,hds⟩:=id hs
 have hTs:s.TypeIs (.ref sl) "slice":=⟨os,hos,hcs⟩
 unfold getItem
 try with_reducible refine Q9 ?_
 first | refine QI (QH ?_) | skip
 refine QI (wpAny_sequenceKey ht.typeIs (by decide) ?_)
 refine QI (Ra (name:=Str.ofString "__getitem__") ht.typeIs Qa
  (Rb Qa ht.typeIs PyProof.Rows.entry_tuple_getitem ?_ (PyProof.Rows.args_tuple_getitem _ _)))
 show QA _ _ (Builtin.Tuple.tupleItemsOf (.ref t) >>= _) _ _ s
 refine QI (PyProof.Rows.tupleItemsOf_ ht ?_)
 refine QI (Rc hTs ?_)
 rw [if_pos (by decide)]
 refine QI (HT.pG hs pl pu ?_)
 have hyes:(((HT.sIx items.size 0 lo:Nat):Int)==0 && (1:Int)==1 && (HT.sIx items.size items.size hi - HT.sIx items.size 0 lo)==items.size)=true:=by
  rw [hw.1,hw.2]
  simp
 show QA _ _ (if (((HT.sIx items.size 0 lo:Nat):Int)==0 && (1:Int)==1 && (HT.sIx items.size items.size hi - HT.sIx items.size 0 lo)==items.size)=true then _ else _) _ _ s
 rw [if_pos hyes]
 refine QI (sM ht ?_)
 rw [if_pos rfl]
 first
  | exact QI (Ri (QH ⟨_,rfl,QH h⟩))
  | exact QI (Ri (QI (QH (QH ⟨_,rfl,QH h⟩))))
def rX (a:D) (lo hi:Option Int):Option D:=match a with
 | .lst xs=>some (.lst (cutD xs lo hi))
 | .tup xs=>some (.tup (cutD xs lo hi))
 | .str x=>if small x.length then some (.str ⟨(cutD x.cps.toList lo hi).toArray⟩) else none
 | _=>none
theorem Ff (v:Option Int) (d n:Nat) (hd:d<=n):(match v with | none=>(d:Int) | some i=>if (1:Int) > 0 then max 0 (min (if i < 0 then i+(n:Int) else i) (n:Int)) else max (-1) (min (if i < 0 then i+(n:Int) else i) ((n:Int) - 1)))=((HT.sIx n d v:Nat):Int):=by
 cases v with
 | none=>rfl
 | some i =>
  show (if (1:Int) > 0 then max 0 (min (if i < 0 then i+(n:Int) else i) (n:Int)) else max (-1) (min (if i < 0 then i+(n:Int) else i) ((n:Int) - 1)))=(((if i < 0 then (i+(n:Int)).toNat else min i.toNat n):Nat):Int)
  rw [if_pos (by decide)]
  by_cases h:i < 0
  ·rw [if_pos h,if_pos h]; omega
  ·rw [if_neg h,if_neg h]; omega
theorem BH (lo hi:Option Int) (n:Nat):Builtin.Str.strSliceIndices lo hi 1 n=(List.range (HT.sIx n n hi - HT.sIx n 0 lo)).map fun k=>HT.sIx n 0 lo+k:=by
 have e1:=Ff lo 0 n (M0 _)
 have e2:=Ff hi n n (MP _)
 have e:Builtin.Str.strSliceIndices lo hi 1 n=sliceRange ((HT.sIx n 0 lo:Nat):Int) ((HT.sIx n n hi:Nat):Int) 1:=by
  rw [<- e1,<- e2]
  cases lo <;> cases hi <;> rfl
 rw [e]
 unfold sliceRange
 dsimp only
 rw [if_pos (by decide:(1:Int) > 0)]
 have e3:(if ((HT.sIx n 0 lo:Nat):Int) < ((HT.sIx n n hi:Nat):Int) then (((HT.sIx n n hi:Nat):Int) - ((HT.sIx n 0 lo:Nat):Int)+1 - 1) / 1 else 0:Int).toNat=HT.sIx n n hi - HT.sIx n 0 lo:=by
  rw [Int.ediv_one]
  split <;> omega
 rw [e3]
 refine NP fun k _=>?_
 omega
theorem Cm {α:Type} (l:List α) (a:Nat):∀ n:Nat,((List.range n).map fun k=>a+k).filterMap (fun i=>l[i]?)=(l.drop a).take n
 | 0=>by simp
 | n+1=>by
  rw [List.range_succ,NQ,List.filterMap_append,Cm l a n,NR,NS]
  cases e:l[a+n]? <;> simp [e]
theorem As (x:Str) (lo hi:Option Int):Txt.slice x lo hi=⟨(cutD x.cps.toList lo hi).toArray⟩:=by
 have hl:x.cps.toList.length=x.length:=by simp [Str.length]
 have pick:(Builtin.Str.strSliceIndices lo hi 1 x.length).filterMap (x.cps[·]?)=cutD x.cps.toList lo hi:=by
  rw [BH]
  have q:=Cm x.cps.toList (HT.sIx x.length 0 lo) (HT.sIx x.length x.length hi - HT.sIx x.length 0 lo)
  unfold cutD
  rw [hl,<- q]
  congr 1
  funext i
  simp
 unfold Txt.slice
 split
 ·rename_i h
  have h':(Builtin.Str.strSliceIndices lo hi 1 x.length).length=x.length:=by simpa using h
  rw [BH,MY,NT] at h'
  have h1:=HT.G8 x.length x.length (MP _) hi
  have z1:HT.sIx x.length 0 lo=0\/x.length=0:=by omega
  have e:cutD x.cps.toList lo hi=x.cps.toList:=by
   unfold cutD
   rw [hl,h']
   rcases z1 with z1 | z1
   ·rw [z1,NB,<- hl,NU]
   ·have:x.cps.toList=[]:=List.length_eq_zero_iff.mp (by rw [hl]; exact z1)
    rw [this]; simp
  rw [e]
 ·rw [pick]
def Lv (K:Pj):V->Option Int->Option Int->Hp->VK->Prop:=fun x lo hi H Q=>∃ O a d,eF H O/\cQ K (hid H O) a x/\rX a lo hi=some d/\∀ v H',bm H H'->cQ K (hid H' O) d v->Q v H'
theorem aY.cut {K:Pj} {H:Hp} {ds:List D} {vs:List V} (h:aY K H ds vs) (lo hi:Option Int):aY K H (cutD ds lo hi) (xt vs lo hi):=by
 unfold cutD xt
 rw [h.length]
 exact(h.drop _).take _
theorem Lz:JY X (Lv X.K):=by
 intro pins s σ H x v vl vu lo hi sl Q I rx hs pl pu ⟨O,a,d,hO,ha,hg,q⟩
 cases a with
 | lst xs =>
  cases hg
  rw [cX] at ha
  obtain⟨p,vs,ex,g1,g2⟩:=ha
  exact DA pins s σ H x v vl vu lo hi sl Q I rx hs pl pu ⟨p,vs,ex,(aI H O).seq g1,fun r hr=>q _ _ (cD hr _) (fG hO hr (g2.cut lo hi))⟩
 | tup xs =>
  cases hg
  have da:=ha
  rw [cV] at ha
  obtain⟨p,vs,ex,g1,g2⟩:=ha
  by_cases hw:HT.sIx vs.length 0 lo=0/\HT.sIx vs.length vs.length hi=vs.length
  ·subst ex
   cases rx
   obtain⟨its,r,ht,hz⟩:=I.tuple (cC (aI H O) g1)
   have hlen:its.toArray.size=vs.length:=by rw [MT]; exact r.length.symm
   refine⟨"tuple",_,PyProof.Rows.slot_tuple_getitem.lookup,ht.typeIs,mY ht hs pl pu (by rw [hlen]; exact hw) ⟨.ref p,H,I,rfl,q _ H (bm.refl H) ?_⟩⟩
   have e:cutD xs lo hi=xs:=by
    unfold cutD
    rw [g2.length,hw.1,hw.2,NV,NB,<- g2.length,NU]
   rw [e]; exact da
  ·exact G7 pins s σ H x v vl vu lo hi sl Q I rx hs pl pu ⟨p,vs,ex,cC (aI H O) g1,hw,fun r hr=>q _ _ (cD hr _) (fH hO hr (g2.cut lo hi))⟩
 | str z =>
  obtain⟨h1,h2⟩:=bQ hg
  subst h2
  rw [eW] at ha
  subst ha
  obtain⟨t,rfl⟩:=rx
  have fin:∀ t' tk,EP X pins σ Q (.str (Txt.slice z lo hi) t') { s with toks:=tk }:=fun t' tk=>by
   rw [As]
   exact⟨.str _,H,I.tok _,⟨_,rfl⟩,q _ H (bm.refl H) (eW.mpr rfl)⟩
  obtain⟨os,hos,hcs,hds⟩:=id hs
  have hz:=d7 h1
  refine⟨"str",_,F.slot_str_getitem.lookup,typeIs_str _ _ _,?_⟩
  cases pl with
  | none =>
   cases pu with
   | none=>exact Rj (l:=none) (u:=none) (st:=none) ⟨os,hos,hcs,hds⟩ rfl (Rl ⟨MG (Txt.slice_le z _ _) hz,fun t' k=>fin t' k⟩)
   | int j tj=>exact Rj (l:=none) (u:=some (j,tj)) (st:=none) ⟨os,hos,hcs,hds⟩ rfl (Rl ⟨MG (Txt.slice_le z _ _) hz,fun t' k=>fin t' k⟩)
  | int i ti =>
   cases pu with
   | none=>exact Rj (l:=some (i,ti)) (u:=none) (st:=none) ⟨os,hos,hcs,hds⟩ rfl (Rl ⟨MG (Txt.slice_le z _ _) hz,fun t' k=>fin t' k⟩)
   | int j tj=>exact Rj (l:=some (i,ti)) (u:=some (j,tj)) (st:=none) ⟨os,hos,hcs,hds⟩ rfl (Rl ⟨MG (Txt.slice_le z _ _) hz,fun t' k=>fin t' k⟩)
 | _=>cases hg
def aU:au->R (Option Int):=fun _=>.ok none
def yf:D->Option (Option Int)
 | .int i=>some (some i)
 | _=>none
def bU (f:FX):au->R (Option Int):=fun ρ=>(f ρ).bind fun d=>rO (yf d)
def My (X:Cx) (F:au->R (Option Int)):TO:=fun σ H Q=>∃ O ρ,dQ X.K O H ρ σ/\ir X σ O H (F ρ) fun o=>∀ H',bm H H'->Q o H'
def FO (X:Cx) (e:Option QB) (F:au->R (Option Int)):Prop:=PO X e (My X F)
theorem JZ:FO X none aU:=fun pins s σ H Q I ⟨O,ρ,E,q⟩=>Eu pins s σ H Q I (q H (bm.refl H))
theorem JS {e:QB} {f:FX} (h:FE X e f):FO X (some e) (bU f):=fun pins s σ H Q I ⟨O,ρ,E,hF⟩ =>
 Es h pins s σ H Q I ⟨O,ρ,E,(ir.bind hF).imp fun d hF v H1 s1 d1=>by
  obtain⟨o,e,q⟩:=ir.rO hF
  cases d with
  | int i =>
   cases e
   exact⟨i,e8.mp d1,q H1 s1⟩
  | _=>cases e⟩
def bn (f:FX) (l h:au->R (Option Int)):FX:=fun ρ=>(f ρ).bind fun a=>(l ρ).bind fun lo=>(h ρ).bind fun hi=>rO (rX a lo hi)
theorem HH {e:QB} {f:FX} {l h:au->R (Option Int)} {lo hi:Option QB} {p2 pos:Pos} (he:FE X e f) (hl:FO X lo l) (hh:FO X hi h):FE X (.Subscript e (.Slice lo hi none p2) pos) (bn f l h) :=
 PE.weak (Cu Lz he hl hh) fun σ H Q ⟨O,ρ,E,hF⟩=>⟨O,ρ,E,(ir.bind hF).imp fun a hF x H1 s1 d1=>⟨O,ρ,E.same s1,((ir.bind hF).mono s1).imp fun lo' hF H2 s2=>⟨O,ρ,E.same (s1.trans s2),((ir.bind hF).mono (s1.trans s2)).imp fun hi' hF H3 s3=>by
  obtain⟨d,e,q⟩:=ir.rO hF
  exact⟨O,a,d,E.all.same ((s1.trans s2).trans s3),d1.mono (bV (s2.trans s3)),e,fun v H4 s4 d4=>q v H4 (((s1.trans s2).trans s3).trans s4) d4⟩⟩⟩⟩
end
end TG
namespace TG
open PySem PySem.Spec L2
variable [aR]

def xI (K:Pj) (g:List D->Option D):List V->Hp->VK->Prop:=fun xs H Q=>∃ O ds d,eF H O/\aY K (hid H O) ds xs/\g ds=some d/\∀ v H',bm H H'->cQ K (hid H' O) d v->Q v H'
theorem qR {K:Pj} {g:List D->Option D}:zR K (xI K g) g:=fun ds d xs O H Q hO hg hd q=>⟨O,ds,d,hO,hd,hg,q⟩
section
variable {X:Cx} {x:Str} {p pos:Pos} {e:QB} {es:List QB} {id T:String} {g:List D->Option D} {f:au->R (List D)}
theorem Ji (hc:dW X (.builtin id) (xI X.K g)) (hg:Gl X x) (hm:X.mg x=none) (hv:Qw x=some (.builtin id)) (ha:FA X (e::es) f) (hn:x ≠ "__name__":=by decide) (hdb:(x==("__debug__":Str))=false:=by decide)
  (hns:(e::es).all noStar=true:=by rfl):FE X (.Call (.Name x p) (e::es) [] pos) (fL g f) :=
 PE.weak (vR hc hg hm hv ha hn hdb (dE (Ng _ _ ▸ hns).1) (ic (Ng _ _ ▸ hns).2)) (CH qR)
theorem HA (hc:dW X (.type T) (xI X.K g)) (hg:Gl X x) (hm:X.mg x=none) (hv:Qw x=some (.type T)) (ha:FA X (e::es) f) (hn:x ≠ "__name__":=by decide) (hdb:(x==("__debug__":Str))=false:=by decide)
  (hns:(e::es).all noStar=true:=by rfl):FE X (.Call (.Name x p) (e::es) [] pos) (fL g f) :=
 PE.weak (AV hc hg hm hv ha hn hdb (dE (Ng _ _ ▸ hns).1) (ic (Ng _ _ ▸ hns).2)) (CH qR)

def jH:List D->Option D
 | [.lst xs]=>some (.int xs.length)
 | [.tup xs]=>some (.int xs.length)
 | [.str x]=>if small x.length then some (.int x.length) else none
 | _=>none
theorem du:dW X (.builtin "len") (xI X.K jH):=by
 intro pins s σ H xs us Q I r ⟨O,ds,d,hO,hd,hg,q⟩
 unfold jH at hg
 split at hg
 ·rename_i ys
  cases hg
  obtain⟨v,ev,h1⟩:=hd.one
  rw [cX] at h1
  obtain⟨p,vs,ep,g1,g2⟩:=h1
  exact nY pins s σ H xs us Q I r ⟨p,vs,by rw [ev,ep],.inl ((aI H O).seq g1),q _ H (bm.refl H) (e8.mpr (by rw [g2.length]))⟩
 ·rename_i ys
  cases hg
  obtain⟨v,ev,h1⟩:=hd.one
  rw [cV] at h1
  obtain⟨p,vs,ep,g1,g2⟩:=h1
  exact nY pins s σ H xs us Q I r ⟨p,vs,by rw [ev,ep],.inr (cC (aI H O) g1),q _ H (bm.refl H) (e8.mpr (by rw [g2.length]))⟩
 ·rename_i z
  obtain⟨h1,h2⟩:=bQ hg
  subst h2
  obtain⟨v,ev,h1'⟩:=hd.one
  exact uD pins s σ H xs us Q I r ⟨z,by rw [ev,eW.mp h1'],d7 h1,q _ H (bm.refl H) (e8.mpr rfl)⟩
 ·cases hg
def cH:List D->Option D
 | [.lst xs]=>some (.tup xs)
 | [.tup xs]=>some (.tup xs)
 | _=>none
theorem cL:dW X (.type "tuple") (xI X.K cH):=by
 intro pins s σ H xs us Q I r ⟨O,ds,d,hO,hd,hg,q⟩
 unfold cH at hg
 split at hg
 ·rename_i ys
  cases hg
  obtain⟨v,ev,h1⟩:=hd.one
  rw [cX] at h1
  obtain⟨p,vs,ep,g1,g2⟩:=h1
  exact m8 pins s σ H xs us Q I r ⟨p,vs,by rw [ev,ep],.inl ⟨(aI H O).seq g1,fun l hl=>q _ _ (cD hl _) (fH hO hl g2)⟩⟩
 ·rename_i ys
  cases hg
  obtain⟨v,ev,h1⟩:=hd.one
  have h0:=h1
  rw [cV] at h1
  obtain⟨p,vs,ep,g1,g2⟩:=h1
  rw [ep] at h0
  exact m8 pins s σ H xs us Q I r ⟨p,vs,by rw [ev,ep],.inr ⟨cC (aI H O) g1,q _ H (bm.refl H) h0⟩⟩
 ·cases hg
def qW:List D->Option D
 | [.int i,.int j]=>some (.int (if j > i then j else i))
 | _=>none
def vS:List D->Option D
 | [.int i,.int j]=>some (.int (if j < i then j else i))
 | _=>none
def zv:List D->Option D
 | [.int i]=>some (.int i)
 | [.bl k]=>some (.int (if k then 1 else 0))
 | _=>none
theorem rP (hc:X.calm=true):dW X (.builtin "max") (xI X.K qW):=by
 intro pins s σ H xs us Q I r ⟨O,ds,d,hO,hd,hg,q⟩
 unfold qW at hg
 split at hg
 ·rename_i i j
  cases hg
  obtain⟨v,w,ev,h1,h2⟩:=hd.two
  exact A8 hc pins s σ H xs us Q I r ⟨i,j,by rw [ev,e8.mp h1,e8.mp h2],q _ H (bm.refl H) (e8.mpr rfl)⟩
 ·cases hg
theorem xQ (hc:X.calm=true):dW X (.builtin "min") (xI X.K vS):=by
 intro pins s σ H xs us Q I r ⟨O,ds,d,hO,hd,hg,q⟩
 unfold vS at hg
 split at hg
 ·rename_i i j
  cases hg
  obtain⟨v,w,ev,h1,h2⟩:=hd.two
  exact Am hc pins s σ H xs us Q I r ⟨i,j,by rw [ev,e8.mp h1,e8.mp h2],q _ H (bm.refl H) (e8.mpr rfl)⟩
 ·cases hg
theorem yM:dW X (.type "int") (xI X.K zv):=by
 intro pins s σ H xs us Q I r ⟨O,ds,d,hO,hd,hg,q⟩
 unfold zv at hg
 split at hg
 ·rename_i i
  cases hg
  obtain⟨v,ev,h1⟩:=hd.one
  exact tW pins s σ H xs us Q I r (.inl ⟨i,by rw [ev,e8.mp h1],q _ H (bm.refl H) (e8.mpr rfl)⟩)
 ·rename_i k
  cases hg
  obtain⟨v,ev,h1⟩:=hd.one
  exact tW pins s σ H xs us Q I r (.inr ⟨k,by rw [ev,lh.mp h1],q _ H (bm.refl H) (e8.mpr rfl)⟩)
 ·cases hg

def FD:D->String
 | .non => "NoneType"
 | .bl _ => "bool"
 | .int _ => "int"
 | .str _ => "str"
 | .tup _ => "tuple"
 | .lst _ => "list"
 | .dct _ _ => "dict"
 | _ => ""
def DT (T:String) (d:D):Bool:=match d with
 | .bl _=>T == "bool" || T == "int"
 | .non=>T == "NoneType"
 | .int _=>T == "int"
 | .str _=>T == "str"
 | .tup _=>T == "tuple"
 | .lst _=>T == "list"
 | .dct _ _=>T == "dict"
 | _=>false
def wD (K:Pj) (T:String):Prop:=∀ d:D,top d=true->PJ K (.type (FD d)) (.type T)=some (DT T d)
def KD (K:Pj) (T:String):List V->Hp->VK->Prop:=fun xs H Q=>∃ O x d,xs=[x,.ty T]/\top d=true/\cQ K (hid H O) d x/\Q (.bl (DT T d)) H
theorem BG (ok:wD X.K T):dW X (.builtin "isinstance") (KD X.K T):=by
 intro pins s σ H xs us Q I r ⟨O,x,d,ex,td,hd,q⟩
 subst ex
 obtain⟨u,w',rfl,rx,rt⟩:=vals2 r
 cases rt
 have e:=ok d td
 have fin:∀ tk,EP X pins σ Q (.bool (DT T d)) { s with toks:=tk }:=fun tk=>⟨.bl _,H,I.tok _,rfl,q⟩
 cases fA I td (hd.mono (aI H O)) rx with
 | non=>exact PL PySem.W.kitx_none I.kIn True.intro e (fun z=>nomatch z) fin
 | bl b=>exact PL PySem.W.kitx_bool I.kIn True.intro e (fun z=>nomatch z) fin
 | int i t=>exact PL PySem.W.kitx_int I.kIn True.intro e (fun z=>nomatch z) fin
 | str y t=>exact PL PySem.W.kitx_str I.kIn True.intro e (fun z=>nomatch z) fin
 | tup h rv t =>
  obtain⟨o,h1,h2,_⟩:=t
  exact PL PySem.W.kitx_tuple I.kIn ⟨o,h1,h2⟩ e (fun z=>nomatch z) fin
 | lst h rv t =>
  obtain⟨o,h1,h2,_⟩:=t
  exact PL PySem.W.kitx_list I.kIn ⟨o,h1,h2⟩ e (fun z=>nomatch z) fin
theorem Df:Qw "isinstance"=some (.builtin "isinstance"):=by first | rfl | decide +kernel
def gC (T:String) (d:D):Option D:=if top d then some (.bl (DT T d)) else none
def nE (T:String) (f:FX):FX:=f1 (gC T) f
theorem Kl {f:FX} {xT:Str} {p2:Pos} (ok:wD X.K T) (hg:Gl X "isinstance") (hm:X.mg "isinstance"=none) (hgT:Gl X xT) (hmT:X.mg xT=none) (hvT:Qw xT=some (.type T)) (he:FE X e f)
  (hn2:xT ≠ "__name__":=by decide) (hd2:(xT==("__debug__":Str))=false:=by decide)
  (hns:noStar e=true:=by rfl) :
  FE X (.Call (.Name "isinstance" p) [e,.Name xT p2] [] pos) (nE T f) :=
 PE.weak (vR (BG ok) hg hm Df (ku he (ku (EC (v:=.ty T) hgT hmT hvT rfl hn2 hd2) oN (dE rfl)) (dE hns)) (by decide) (by decide) (dE hns) (ic rfl)) fun σ H Q ⟨O,ρ,E,hF⟩=>⟨O,ρ,E,(ir.bind hF).imp fun a hF v H1 s1 d1=>by
  obtain⟨d,e,q⟩:=ir.rO hF
  obtain⟨h1,h2⟩:=bQ e
  subst h2
  exact⟨O,v,a,rfl,h1,d1,q _ H1 s1 (lh.mpr rfl)⟩⟩
end

section
variable {X:Cx} {a:QB} {f:FX} {pos:Pos}
def isNon:D->Bool
 | .non=>true
 | _=>false
def KP (d:D):Option D:=some (.bl (isNon d))
def IL (d:D):Option D:=some (.bl (!isNon d))
def LW (f:FX):FX:=f1 KP f
def Ic (f:FX):FX:=f1 IL f
theorem Jm (h:FE X a f) (he:∀ whole,isTrue a X.env whole=(do let v <- whole; standAt a.pos; holding [v] (truthy v)):=by intro _; rfl):FT X a (bX f):=PT.weak (C0 h he) fun σ H Q ⟨O,ρ,E,hF⟩=>⟨O,ρ,E,(ir.bind hF).imp fun d hF x H1 s1 d1=>by
 obtain⟨r,hF,q⟩:=ir.rO hF
 refine⟨r,?_,q H1 s1⟩
 cases d with
 | non=>cases hF; rw [j5.mp d1]; rfl
 | bl b=>cases hF; rw [lh.mp d1]; rfl
 | int i=>cases hF; rw [e8.mp d1]; rfl
 | str y =>
  obtain⟨hz,e⟩:=bQ hF
  subst e
  rw [eW.mp d1]
  refine⟨d7 hz,?_⟩
  show (y.length != 0)=((y.length:Int) != 0)
  cases y.length <;> rfl
 | tup xs =>
  cases hF
  obtain⟨p,vs,e,g1,g2⟩:=cV.mp d1
  rw [e]
  refine .inr (.inl ⟨vs,cC (aI H1 O) g1,?_⟩)
  have l:=g2.length
  cases xs <;> cases vs <;> first | rfl | (simp at l)
 | lst xs =>
  cases hF
  obtain⟨p,vs,e,g1,g2⟩:=cX.mp d1
  rw [e]
  refine .inl ⟨vs,(aI H1 O).seq g1,?_⟩
  have l:=g2.length
  cases xs <;> cases vs <;> first | rfl | (simp at l)
 | _=>cases hF⟩
end

def Walk (K:Pj) (Hd:Hp) (J:It) (ds:List D):Prop :=
 ∀ (Hn:Hp) (O':List Qr) (i:Nat),eF Hn O'->bm Hd (hid Hn O')->(∀ d,ds[i]?=some d->J.go i Hn/\∀ x H2,J.yld i Hn x H2->bm Hn H2/\cQ K (hid H2 O') d x)/\(i=ds.length->J.stop i Hn)
def J9 (X:Cx) (G:au->R (List D)):TI:=fun σ H RR=>∃ O ρ,dQ X.K O H ρ σ/\ir X σ O H (G ρ) fun ds=>∀ J H1,bm H H1->Walk X.K (hid H1 O) J ds->RR J H1
def FI (X:Cx) (tg iter:QB) (G:au->R (List D)):Prop:=PI X tg iter (J9 X G)
def rh:D->Option (List D)
 | .lst xs=>some xs
 | .tup xs=>some xs
 | _=>none
def cA (f:FX):au->R (List D):=fun ρ=>(f ρ).bind fun d=>rO (rh d)
section
variable {X:Cx} {tg:QB}
theorem Ay {K:Pj} {Hd:Hp} {a:Qr} {ds:List D} {vs:List V} (h:oo K Hd a vs) (g:aY K Hd ds vs):Walk K Hd (Ku K a) ds:=fun Hn O' i hO s =>
  have s':bm Hd Hn:=s.trans (aI Hn O')
  ⟨fun d e=>by
    obtain⟨v,ev,dv⟩:=g.get e
    refine⟨⟨vs,v,s'.seq h,ev⟩,fun x H2 ⟨e2,y⟩=>?_⟩
    have q:=y vs (s'.seq h)
    rw [ev] at q; cases q
    subst e2
    exact⟨bm.refl _,dv.mono s⟩,
   fun hl=>⟨vs,s'.seq h,by rw [<- g.length]; exact MZ hl.symm⟩⟩
theorem BQ {K:Pj} {Hd:Hp} {a:Qr} {ds:List D} {vs:List V} (h:Hd a=some (.tup vs)) (g:aY K Hd ds vs):Walk K Hd (LD K a) ds:=fun Hn O' i hO s =>
  have s':bm Hd Hn:=s.trans (aI Hn O')
  ⟨fun d e=>by
    obtain⟨v,ev,dv⟩:=g.get e
    refine⟨⟨vs,v,cC s' h,ev⟩,fun x H2 ⟨e2,y⟩=>?_⟩
    have q:=y vs (cC s' h)
    rw [ev] at q; cases q
    subst e2
    exact⟨bm.refl _,dv.mono s⟩,
   fun hl=>⟨vs,cC s' h,by rw [<- g.length]; exact MZ hl.symm⟩⟩
theorem LK {e:QB} {f:FX} (h:FE X e f):FI X tg e (cA f):=by
 intro pins s σ H R I ⟨O,ρ,E,hG⟩
 have hG':=ir.bind hG
 cases hf:f ρ with
 | error z=>exact zh h pins s σ H R I ⟨O,ρ,E,by rw [hf] at hG' ⊢; cases z with | none=>exact hG'.elim | some x=>exact hG'⟩
 | ok d =>
  rw [hf] at hG'
  obtain⟨ds,e1,q⟩:=ir.rO (α:=List D) (o:=rh d) hG'
  cases d with
  | lst xs =>
   cases e1
   refine zh h pins s σ H R I ⟨O,ρ,E,?_⟩
   rw [hf]
   refine fun v H1 s1 d1=>?_
   obtain⟨p,vs,ev,g1,g2⟩:=cX.mp d1
   exact⟨p,ev,⟨vs,(aI H1 O).seq g1⟩,q _ H1 s1 (Ay g1 g2)⟩
  | tup xs =>
   cases e1
   refine GZ h pins s σ H R I ⟨O,ρ,E,?_⟩
   rw [hf]
   refine fun v H1 s1 d1=>?_
   obtain⟨p,vs,ev,g1,g2⟩:=cV.mp d1
   exact⟨p,ev,⟨vs,cC (aI H1 O) g1⟩,q _ H1 s1 (BQ g1 g2)⟩
  | _=>cases e1
def fw (lo:Int) (n:Nat):List D:=(List.range n).map fun (k:Nat)=>D.int (lo+(k:Int))
theorem sk (lo:Int) (n:Nat):(fw lo n).length=n:=by unfold fw; rw [MY,NT]
theorem qC {K:Pj} {Hd:Hp} (lo:Int) (n:Nat):Walk K Hd (HV lo n) (fw lo n):=fun Hn O' i hO s =>
  ⟨fun d e=>by
    unfold fw at e
    rw [M8] at e
    cases hi:(List.range n)[i]? with
    | none=>rw [hi] at e; cases e
    | some k =>
      rw [hi] at e
      cases e
      have hlt:i < n:=by
        have:=(List.getElem?_eq_some_iff.mp hi).1
        rwa [NT] at this
      have ek:k=i:=by
        rw [NW hlt] at hi
        exact(Option.some.inj hi).symm
      subst ek
      exact⟨hlt,fun x H2 ⟨e1,e2⟩=>by subst e1; exact⟨bm.refl _,e8.mpr e2⟩⟩,
   fun hl=>by rw [sk] at hl; exact MZ hl.symm⟩
def okR (j:Int):Bool:=decide (-(2 ^ 62)<=j/\j < 2 ^ 62)
def mB:List D->Option (List D)
 | [.int j]=>if okR j then some (fw 0 j.toNat) else none
 | _=>none
def qf:List D->Option (List D)
 | [.int i,.int j]=>if okR i && okR j then some (fw i (j - i).toNat) else none
 | _=>none
def gX (f:au->R (List D)):au->R (List D):=fun ρ=>(f ρ).bind fun ds=>rO (mB ds)
def qt (f:au->R (List D)):au->R (List D):=fun ρ=>(f ρ).bind fun ds=>rO (qf ds)
theorem Hz {a:QB} {f:au->R (List D)} {p pos:Pos} (hg:Gl X "range") (hm:X.mg "range"=none) (ha:FA X [a] f) (hs:QC [a] X.env=[(false,eval a X.env)]:=by rfl):FI X tg (.Call (.Name "range" p) [a] [] pos) (gX f):=by
 intro pins s σ H R I ⟨O,ρ,E,hG⟩
 refine Aj hg hm ha hs pins s σ H R I ⟨O,ρ,E,(ir.bind hG).imp fun es hG' vs H1 s1 d1=>?_⟩
 clear hG
 obtain⟨ds,hG,q⟩:=ir.rO hG'
 clear hG'
 unfold mB at hG
 split at hG
 ·rename_i j
  obtain⟨h1,h2⟩:=bQ hG
  subst h2
  obtain⟨j1,j2⟩:=of_decide_eq_true h1
  obtain⟨v,ev,dv⟩:=d1.one
  exact⟨j,by rw [ev,e8.mp dv],j1,j2,q _ H1 s1 (qC 0 _)⟩
 ·cases hG
theorem HE {a b:QB} {f:au->R (List D)} {p pos:Pos} (hg:Gl X "range") (hm:X.mg "range"=none) (ha:FA X [a,b] f) (hs:QC [a,b] X.env=[(false,eval a X.env),(false,eval b X.env)]:=by rfl) (hs2:QC [b] X.env=[(false,eval b X.env)]:=by rfl):FI X tg (.Call (.Name "range" p) [a,b] [] pos) (qt f):=by
 intro pins s σ H R I ⟨O,ρ,E,hG⟩
 refine Ah hg hm ha hs hs2 pins s σ H R I ⟨O,ρ,E,(ir.bind hG).imp fun es hG' vs H1 s1 d1=>?_⟩
 clear hG
 obtain⟨ds,hG,q⟩:=ir.rO hG'
 clear hG'
 unfold qf at hG
 split at hG
 ·rename_i i j
  obtain⟨h1,h2⟩:=bQ hG
  subst h2
  rw [Ng] at h1
  obtain⟨i1,i2⟩:=of_decide_eq_true h1.1
  obtain⟨j1,j2⟩:=of_decide_eq_true h1.2
  obtain⟨v,w,ev,dv,dw⟩:=d1.two
  exact⟨i,j,by rw [ev,e8.mp dv,e8.mp dw],⟨i1,i2,j1,j2⟩,q _ H1 s1 (qC i _)⟩
 ·cases hG
end

abbrev GF:=D->au->Option au
def J0 (K:Pj) (g:GF):TG:=fun v σ H Q=>∃ O ρ d ρ',dQ K O H ρ σ/\cQ K (hid H O) d v/\g d ρ=some ρ'/\∀ σ',dQ K O H ρ' σ'->(∀ (i:Nat) x,ρ'[i]?=some (some x)->(∀ d,x≠.val d)->σ'[i]?=σ[i]?/\ρ[i]?=some (some x))->Q σ' H
def FG (X:Cx) (tg:QB) (g:GF):Prop:=PG X tg (J0 X.K g)
def setV (i:Nat) (d:D) (ρ:au):au:=ρ.set i (some (.val d))
theorem bf {α:Type} {l:List α} {i j:Nat} {a b:α} (h:(l.set i a)[j]?=some b):(j=i/\b=a)\/(j≠i/\l[j]?=some b):=by
 by_cases e:j=i
 ·subst e
  left
  have hj:j < (l.set j a).length:=(List.getElem?_eq_some_iff.mp h).1
  rw [List.length_set] at hj
  rw [MM hj] at h
  exact⟨rfl,(Option.some.inj h).symm⟩
 ·right
  rw [MN (Ne.symm e)] at h
  exact⟨e,h⟩
theorem dQ.setV {K:Pj} {O:List Qr} {H:Hp} {ρ:au} {σ:St} (E:dQ K O H ρ σ) {i:Nat} {d:D} {v:V} (hi:i < σ.length) (hd:cQ K (hid H O) d v):dQ K O H (setV i d ρ) (σ.set i (some v)) :=
  ⟨fun j d' e=>by
    rcases bf e with ⟨hj,eq⟩ | ⟨ne,eq⟩
    · cases eq; rw [hj]; exact⟨v,MM hi,hd⟩
    · obtain⟨w,e1,e2⟩:=E.val j d' eq
      exact⟨w,by rw [MN (Ne.symm ne)]; exact e1,e2⟩,
   fun j xs e=>by
    rcases bf e with ⟨_,eq⟩ | ⟨ne,eq⟩
    · cases eq
    · obtain⟨a,e1,e2⟩:=E.own j xs eq
      exact⟨a,by rw [MN (Ne.symm ne)]; exact e1,e2⟩,
   fun j k xs ys a e1 e2 e3 e4=>by
    rcases bf e1 with ⟨_,q1⟩ | ⟨ne1,q1⟩
    · cases q1
    · rcases bf e2 with ⟨_,q2⟩ | ⟨ne2,q2⟩
      · cases q2
      · rw [MN (Ne.symm ne1)] at e3
        rw [MN (Ne.symm ne2)] at e4
        exact E.one j k xs ys a q1 q2 e3 e4,E.all⟩
section
variable {X:Cx} {pos:Pos}
def gN (i:Nat):GF:=fun d ρ=>some (setV i d ρ)
theorem JR {i:Nat} {x:Str} (hN:X.N.Nodup) (hi:X.N[i]?=some x) (hx:Loc X.env.scope x) (hf:X.fn x=true\/X.env.scope.names.lookup x=some .local:=by first | exact .inl rfl | exact .inr rfl | assumption):FG X (.Name x pos) (gN i):=by
 intro pins s σ H v u Q I r ⟨O,ρ,d,ρ',E,hd,hg,q⟩
 cases hg
 have hiσ:i < σ.length:=by rw [I.len]; exact(List.getElem?_eq_some_iff.mp hi).1
 refine DH hN hi hx hf pins s σ H v u Q I r (q _ (E.setV hiσ hd) fun j x e nv=>?_)
 rcases bf e with ⟨_,eq⟩ | ⟨ne,eq⟩
 ·cases eq; exact absurd rfl (nv _)
 ·exact⟨MN (Ne.symm ne),eq⟩
abbrev Bt:=List D->au->Option au
def Kw (K:Pj) (g:Bt):Fq:=fun vs σ H Q=>∃ O ρ ds ρ',dQ K O H ρ σ/\aY K (hid H O) ds vs/\g ds ρ=some ρ'/\∀ σ',dQ K O H ρ' σ'->(∀ (i:Nat) x,ρ'[i]?=some (some x)->(∀ d,x≠.val d)->σ'[i]?=σ[i]?/\ρ[i]?=some (some x))->Q σ' H
def Iy (X:Cx) (ts:List QB) (g:Bt):Prop:=HM X ts (Kw X.K g)
def By:Bt:=fun ds ρ=>match ds with
 | []=>some ρ
 | _=>none
def yh (g:GF) (h:Bt):Bt:=fun ds ρ=>match ds with
 | d::r=>(g d ρ).bind fun ρ1=>h r ρ1
 | _=>none
theorem JE:Iy X [] By:=by
 intro pins s σ H vs us Q I r ⟨O,ρ,ds,ρ',E,hd,hg,q⟩
 cases ds with
 | nil =>
  cases hg
  rw [cR] at hd
  exact DR pins s σ H vs us Q I r ⟨hd,q _ E fun i x e _=>⟨rfl,e⟩⟩
 | cons _ _=>cases hg
theorem HR {e:QB} {es:List QB} {g:GF} {h:Bt} (h1:FG X e g) (h2:Iy X es h) (hs:(assignEach (e::es) X.env).map (·.2)=assign e X.env::(assignEach es X.env).map (·.2):=by rfl):Iy X (e::es) (yh g h):=by
 intro pins s σ H vs us Q I r ⟨O,ρ,ds,ρ',E,hd,hg,q⟩
 cases ds with
 | nil=>cases hg
 | cons d ds =>
  obtain⟨ρ1,e1,e2⟩:=bind_some hg
  rw [bo] at hd
  obtain⟨v,vr,ev,d1,d2⟩:=hd
  exact CZ h1 h2 hs pins s σ H vs us Q I r ⟨v,vr,ev,O,ρ,d,ρ1,E,d1,e1,fun σ1 E1 k1=>⟨O,ρ1,ds,ρ',E1,d2,e2,fun σ2 E2 k2=>q σ2 E2 fun i x e nv=>by
   obtain⟨a1,a2⟩:=k2 i x e nv
   obtain⟨b1,b2⟩:=k1 i x a2 nv
   exact⟨a1.trans b1,b2⟩⟩⟩
def gT (n:Nat) (g:Bt):GF:=fun d ρ=>match d with
 | .tup xs=>if xs.length=n then g xs ρ else none
 | _=>none
theorem Lx {es:List QB} {k:Nat} {g:Bt} {n:Nat} (hc:X.calm=true) (h:Iy X es g) (hn:(assignEach es X.env).length=n:=by rfl) (hst:(assignEach es X.env).findIdx? (·.1)=none:=by rfl):FG X (.Tuple es k pos) (gT n g):=by
 intro pins s σ H v u Q I r ⟨O,ρ,d,ρ',E,hd,hg,q⟩
 cases d with
 | tup xs =>
  obtain⟨p,vs,ev,g1,g2⟩:=cV.mp hd
  have hg':(if xs.length=n then g xs ρ else none)=some ρ':=hg
  by_cases hl:xs.length=n
  ·rw [if_pos hl] at hg'
   exact G5 hc h hn hst pins s σ H v u Q I r ⟨p,vs,ev,cC (aI H O) g1,by rw [<- g2.length]; exact hl,O,ρ,xs,ρ',E,g2,hg',q⟩
  ·rw [if_neg hl] at hg'; cases hg'
 | _=>cases hg
end

def A3 {α:Type} (r:R α):R α:=match r with
 | .ok a=>.ok a
 | .error _=>un
theorem Cb {α:Type} {r:R α} {a:α} (h:A3 r=.ok a):r=.ok a:=by
 cases r with
 | ok b=>exact h
 | error z=>cases h
def inB (ix:List (Option Nat)) (ρ:au):au:=ix.map fun o=>match o with
 | some i=>match ρ[i]? with
  | some (some (.val d))=>some (.val d)
  | _=>none
 | none=>none
def zx (ρ:au) (g:GF) (C:au->R Bool) (Fe:FX):List D->R (List D)
 | []=>.ok []
 | d::ds=>(rO (g d ρ)).bind fun ρ1=>(A3 (C ρ1)).bind fun c=>if c then (A3 (Fe ρ1)).bind fun v=>(zx ρ g C Fe ds).bind fun r=>.ok (v::r) else zx ρ g C Fe ds
theorem lH (ρ:au) (g:GF) (C:au->R Bool) (Fe:FX) (d:D) (ds:List D):zx ρ g C Fe (d::ds)=(rO (g d ρ)).bind fun ρ1=>(A3 (C ρ1)).bind fun c=>if c then (A3 (Fe ρ1)).bind fun v=>(zx ρ g C Fe ds).bind fun r=>.ok (v::r) else zx ρ g C Fe ds:=rfl
def nG (ix:List (Option Nat)) (G:au->R (List D)) (g:GF) (C:au->R Bool) (Fe:FX):FX:=fun ρ=>(G ρ).bind fun ds=>if small ds.length then A3 ((zx (inB ix ρ) g C Fe ds).bind fun r=>.ok (.lst r)) else un
def JL (X:Cx) (ifs:List QB) (F:au->R Bool):Prop:=Hy X ifs (JC X F)
def eS:au->R Bool:=fun _=>.ok true
theorem Jt {X:Cx}:JL X [] eS:=fun pins s σ H Q I ⟨O,ρ,E,q⟩=>DE pins s σ H Q I (q H (bm.refl H))
theorem JX {X:Cx} {c:QB} {F:au->R Bool} (h:FT X c F):JL X [c] F:=En h
theorem nU {ix:List (Option Nat)} {ρ:au} {j:Nat} {x:S} (e:(inB ix ρ)[j]?=some (some x)):∃ i d,ix[j]?=some (some i)/\ρ[i]?=some (some (.val d))/\x=.val d:=by
 unfold inB at e
 rw [M8] at e
 cases q:ix[j]? with
 | none=>rw [q] at e; cases e
 | some o =>
  rw [q] at e
  cases o with
  | none=>cases e
  | some i =>
   have e':(match ρ[i]? with | some (some (.val d))=>some (S.val d) | _=>none)=some x:=Option.some.inj e
   split at e'
   ·rename_i d hd
    cases e'
    exact⟨i,d,rfl,hd,rfl⟩
   ·cases e'
theorem EF {K:Pj} {O:List Qr} {H:Hp} {ρ:au} {σ:St} (ix:List (Option Nat)) (E:dQ K O H ρ σ):dQ K O H (inB ix ρ) (inBlock ix σ):=by
 refine⟨fun j d e=>?_,fun j xs e=>?_,fun j k xs ys a e=>?_,E.all⟩
 ·obtain⟨i,d',q1,q2,q3⟩:=nU e
  cases q3
  obtain⟨v,e1,e2⟩:=E.val i d q2
  refine⟨v,?_,e2⟩
  unfold inBlock
  rw [M8,q1]
  show some ((σ[i]?).getD none)=some (some v)
  rw [e1]; rfl
 ·obtain⟨_,_,_,_,q3⟩:=nU e
  cases q3
 ·obtain⟨_,_,_,_,q3⟩:=nU e
  cases q3
theorem rg {H:Hp} {O:List Qr} {p:Qr} {o:HO} (hp:H p=none):bm (hid H O) (hid (upd H p o) (p::O)):=fun b u h=>by
 unfold hid at h ⊢
 by_cases hb:b∈O
 ·rw [if_pos hb] at h; cases h
 ·rw [if_neg hb] at h
  have ne:=bg h hp
  rw [if_neg (by intro z; rcases List.mem_cons.mp z with z | z; exact ne z; exact hb z),aJ ne]; exact h
theorem dQ.hideNew {K:Pj} {O:List Qr} {H:Hp} {ρ:au} {σ:St} {p:Qr} {o:HO} (m:qN o) (E:dQ K O H ρ σ) (hp:H p=none):dQ K (p::O) (upd H p o) ρ σ:=by
 have s:bm (hid H O) (hid (upd H p o) (p::O)):=rg hp
 refine⟨fun i d e=>let ⟨v,a,b⟩:=E.val i d e; ⟨v,a,b.mono s⟩,fun i xs e=>?_,E.one,(E.all.same (cD hp o)).cons bb m⟩
 obtain⟨a,e1,e2,e3⟩:=E.own i xs e
 obtain⟨u,hu⟩:=e3.some
 exact⟨a,e1,MK _ e2,e3.mono (by rw [aJ (bg hu hp)]) s⟩
theorem dQ.rewrite {K:Pj} {O:List Qr} {H:Hp} {ρ:au} {σ:St} {p:Qr} {o:HO} (m:qN o) (E:dQ K O H ρ σ) (hp:p∈O) (hs:∀ (i:Nat) xs,ρ[i]?=some (some (.own xs))->σ[i]?≠some (some (.ref p))):dQ K O (upd H p o) ρ σ:=by
 have s:bm (hid H O) (hid (upd H p o) O):=gS hp
 refine⟨fun i d e=>let ⟨v,a,b⟩:=E.val i d e; ⟨v,a,b.mono s⟩,fun i xs e=>?_,E.one,E.all.upd hp m⟩
 obtain⟨a,e1,e2,e3⟩:=E.own i xs e
 have ne:a≠p:=fun z=>hs i xs e (by rw [<- z]; exact e1)
 exact⟨a,e1,e2,e3.mono (by rw [aJ ne]) s⟩
theorem dQ.forget {K:Pj} {O:List Qr} {H:Hp} {ρ ρ':au} {σ:St} (E:dQ K O H ρ σ) (h:∀ (i:Nat) x,ρ'[i]?=some (some x)->ρ[i]?=some (some x)):dQ K O H ρ' σ :=
 ⟨fun i d e=>E.val i d (h i _ e),fun i xs e=>E.own i xs (h i _ e),fun i j xs ys a e1 e2=>E.one i j xs ys a (h i _ e1) (h j _ e2),E.all⟩

def Fills (ρ:au) (g:GF):Prop:=∀ d ρ1,g d ρ=some ρ1->∀ (i:Nat) x,ρ[i]?=some (some x)->ρ1[i]?=some (some x)
theorem tY (ix:List (Option Nat)) (ρ:au):∀ (i:Nat) xs,(inB ix ρ)[i]?≠some (some (.own xs)):=by
 intro j xs e
 obtain⟨_,_,_,_,q3⟩:=nU e
 cases q3
theorem Jc {α:Type} {o:Option α} {a:α} (h:rO o=.ok a):o=some a:=by
 cases o with
 | none=>cases h
 | some b=>cases h; rfl

end TG
namespace TG
open PySem PySem.Spec L2
variable [aR]

section
variable {X:Cx} {elt tg iter:QB} {ifs:List QB} {scope:Qz} {pos:Pos} {N:List Str} {ix:List (Option Nat)} {G:au->R (List D)} {g:GF} {C:au->R Bool} {Fe:FX}
structure wy (ix:List (Option Nat)) (g:GF):Prop where
 fill:∀ ρ,Fills (inB ix ρ) g
 own:∀ ρ d ρ1,g d (inB ix ρ)=some ρ1->∀ (i:Nat) xs,ρ1[i]?≠some (some (.own xs))
theorem xg {ρ:au} {i:Nat} (h:ix[i]?=some none):∀ x,(inB ix ρ)[i]?≠some (some x):=fun x e=>by
 obtain⟨_,_,q,_⟩:=nU e
 rw [h] at q; cases q
theorem iP {i:Nat} (h:ix[i]?=some none):wy ix (gN i) :=
  ⟨fun ρ d ρ1 e j x q=>by
    cases e
    by_cases z:j=i
    · subst z; exact absurd q (xg h x)
    · unfold setV; rw [MN (Ne.symm z)]; exact q,
   fun ρ d ρ1 e j xs q=>by
    cases e
    rcases bf q with ⟨_,z⟩ | ⟨_,z⟩
    · cases z
    · exact tY ix ρ j xs z⟩
def DC (ix:List (Option Nat)) (is:List Nat):Bool:=is.all fun i=>match ix[i]? with
 | some none=>true
 | _=>false
def uE:List Nat->Bt
 | []=>By
 | i::is=>yh (gN i) (uE is)
theorem zt:∀ (is:List Nat) (ds:List D) (ρ ρ1:au),uE is ds ρ=some ρ1->∀ (k:Nat) (x:S),ρ1[k]?=some (some x)->(k∈is/\∃ d,x=.val d)\/ρ[k]?=some (some x)
 | [],ds,ρ,ρ1,h,k,x,e=>by
  cases ds with
  | nil=>cases h; exact .inr e
  | cons _ _=>cases h
 | i::is,ds,ρ,ρ1,h,k,x,e=>by
  cases ds with
  | nil=>cases h
  | cons d ds =>
   rcases zt is ds (setV i d ρ) ρ1 h k x e with ⟨a,b⟩ | q
   ·exact .inl ⟨MK _ a,b⟩
   ·rcases bf q with ⟨z,w⟩ | ⟨_,w⟩
    ·exact .inl ⟨by rw [z]; exact MJ,d,Option.some.inj w⟩
    ·exact .inr w
theorem vZ:∀ (is:List Nat) (ds:List D) (ρ ρ1:au),uE is ds ρ=some ρ1->∀ (k:Nat) (x:S),k∉is->ρ[k]?=some (some x)->ρ1[k]?=some (some x)
 | [],ds,ρ,ρ1,h,k,x,_,e=>by
  cases ds with
  | nil=>cases h; exact e
  | cons _ _=>cases h
 | i::is,ds,ρ,ρ1,h,k,x,n,e=>by
  cases ds with
  | nil=>cases h
  | cons d ds =>
   refine vZ is ds (setV i d ρ) ρ1 h k x (fun z=>n (MK _ z)) ?_
   unfold setV
   rw [MN (fun z=>n (by rw [z]; exact MJ))]; exact e
theorem sd {is:List Nat} {n:Nat} (h:DC ix is=true):wy ix (gT n (uE is)):=by
 have hn:∀ i∈is,ix[i]?=some none:=fun i hi=>by
  have:=List.all_eq_true.mp h i hi
  cases e:ix[i]? with
  | none=>rw [e] at this; cases this
  | some o=>cases o with
   | none=>rfl
   | some _=>rw [e] at this; cases this
 have shape:∀ ρ d ρ1,gT n (uE is) d ρ=some ρ1->∃ ds,uE is ds ρ=some ρ1:=fun ρ d ρ1 e=>by
  cases d with
  | tup xs =>
   have e':(if xs.length=n then uE is xs ρ else none)=some ρ1:=e
   by_cases hl:xs.length=n
   ·rw [if_pos hl] at e'; exact⟨xs,e'⟩
   ·rw [if_neg hl] at e'; cases e'
  | _=>cases e
 refine⟨fun ρ d ρ1 e k x q=>?_,fun ρ d ρ1 e k xs q=>?_⟩
 ·obtain⟨ds,e⟩:=shape _ d ρ1 e
  exact vZ is ds _ ρ1 e k x (fun z=>xg (hn k z) x q) q
 ·obtain⟨ds,e⟩:=shape _ d ρ1 e
  rcases zt is ds _ ρ1 e k _ q with ⟨_,d,z⟩ | z
  ·cases z
  ·exact tY ix ρ k xs z
structure nR (X:Cx) (scope:Qz) (N:List Str) (ix:List (Option Nat)):Prop where
 cell:∀ y∈scope.names,y.2≠.cell
 kind:scope.kind=.function
 names:∀ y∈scope.names,y.2=.local->scope.names.lookup y.1=some .local
 free:∀ y∈scope.names,y.2=.free->X.env.scope.names.lookup y.1=some .cell\/X.env.scope.names.lookup y.1=some .free
 ix:xl X.N N scope.names ix=true
def yX (XS:List (Str×Q3)) (XN:List Str) (scope:Qz) (N:List Str) (ix:List (Option Nat)):Bool :=
 scope.names.all (fun y=>decide (y.2≠.cell)) && decide (scope.kind=.function) && scope.names.all (fun y=>decide (y.2≠.local) || decide (scope.names.lookup y.1=some .local)) &&
  scope.names.all (fun y=>decide (y.2≠.free) || (decide (XS.lookup y.1=some .cell) || decide (XS.lookup y.1=some .free))) && xl XN N scope.names ix
theorem nR.of (h:yX X.env.scope.names X.N scope N ix=true):nR X scope N ix:=by
 unfold yX at h
 simp only [Ng] at h
 obtain⟨⟨⟨⟨h1,h2⟩,h3⟩,h4⟩,h5⟩:=h
 refine⟨fun y hy=>of_decide_eq_true (List.all_eq_true.mp h1 y hy),of_decide_eq_true h2,fun y hy e=>?_,fun y hy e=>?_,h5⟩
 ·rcases NK _ _ ▸ List.all_eq_true.mp h3 y hy with q | q
  ·exact absurd e (of_decide_eq_true q)
  ·exact of_decide_eq_true q
 ·rcases NK _ _ ▸ List.all_eq_true.mp h4 y hy with q | q
  ·exact absurd e (of_decide_eq_true q)
  ·rcases NK _ _ ▸ q with q | q
   ·exact .inl (of_decide_eq_true q)
   ·exact .inr (of_decide_eq_true q)
def JF (X:Cx) (scope:Qz) (N:List Str) (tg elt:QB) (ifs:List QB) (g:GF) (C:au->R Bool) (Fe:FX):Prop :=
 ∀ cl C' fp s H E,FG (dq X scope N cl C' fp s H E) tg g/\JL (dq X scope N cl C' fp s H E) ifs C/\FE (dq X scope N cl C' fp s H E) elt Fe
def GY (K:Pj) (F:au->R Bool):TT:=fun σ H Q=>∃ O ρ b,dQ K O H ρ σ/\F ρ=.ok b/\∀ H',bm H H'->Q b H'
def LC (K:Pj) (F:FX):TE:=fun σ H Q=>∃ O ρ d,dQ K O H ρ σ/\F ρ=.ok d/\∀ v H',bm H H'->cQ K (hid H' O) d v->Q v H'
theorem JF.k (hb:JF X scope N tg elt ifs g C Fe):∀ cl C' fp s H E,PG (dq X scope N cl C' fp s H E) tg (J0 X.K g)/\Hy (dq X scope N cl C' fp s H E) ifs (GY X.K C)/\PE (dq X scope N cl C' fp s H E) elt (LC X.K Fe):=fun cl C' fp s H E=>by
 obtain⟨h1,h2,h3⟩:=hb cl C' fp s H E
 refine⟨h1,fun pins s σ H Q I ⟨O,ρ,b,e1,e2,q⟩=>h2 pins s σ H Q I ⟨O,ρ,e1,by rw [e2]; exact q⟩,fun pins s σ H Q I ⟨O,ρ,d,e1,e2,q⟩=>h3 pins s σ H Q I ⟨O,ρ,e1,by rw [e2]; exact q⟩⟩
def KU (X:Cx) (F:FX):TE:=fun σ H Q=>∃ O ρ,dQ X.K O H ρ σ/\ir X σ O H (F ρ) fun d=>∀ D H' total acc,d=.lst total->bm H H'->H D=none->H' D=some (.lst acc)->aY X.K (hid H' (D::O)) total acc->Q (.ref D) H'
theorem Li {F:FX}:∀ σ H Q,tF X F σ H Q->KU X F σ H Q:=fun σ H Q ⟨O,ρ,E,hF⟩=>⟨O,ρ,E,hF.imp fun d q D H' total acc e sm hD hD' dn=>by
 subst e
 have DO:D∉O:=E.all.not hD
 exact q _ H' sm (cX.mpr ⟨D,acc,rfl,oo.of (by rw [kU DO]; exact hD'),dn.mono (iT fun a ha=>MK _ ha)⟩)⟩
theorem E6 (tk:wy ix g):∀ σ H Q,KU X (nG ix G g C Fe) σ H Q->KQ (J9 X G) (J0 X.K g) (GY X.K C) (LC X.K Fe) ix σ H Q:=fun σ H Q ⟨O,ρ,E,hF⟩=>by
 refine⟨O,ρ,E,(ir.bind hF).imp fun ds hF=>?_⟩
 have hz:small ds.length=true:=by
  cases e:small ds.length with
  | true=>rfl
  | false=>rw [e] at hF; exact hF.elim
 rw [hz,if_pos rfl] at hF
 cases hL:zx (inB ix ρ) g C Fe ds with
 | error z=>rw [hL] at hF; exact hF.elim
 | ok total =>
 rw [hL] at hF
 have q:∀ D H' total' acc,TG.D.lst total=.lst total'->bm H H'->H D=none->H' D=some (.lst acc)->aY X.K (hid H' (D::O)) total' acc->Q (.ref D) H':=hF
 have e2:=hL
 have hfill:=tk.fill
 have hown:=tk.own
 refine fun J H1 s1 wk D hD=>?_
 have E1:dQ X.K (D::O) (upd H1 D (.lst [])) (inB ix ρ) (inBlock ix σ):=((EF ix E).same s1).hideNew trivial hD
 have DO:D∉O:=(E.all.same s1).not hD
 refine⟨fun i m σ' H'=>m=ds.length - i/\i<=ds.length/\bm H1 H'/\dQ X.K (D::O) H' (inB ix ρ) σ'/\∃ acc dn rest,H' D=some (.lst acc)/\acc.length<=i/\aY X.K (hid H' (D::O)) dn acc/\zx (inB ix ρ) g C Fe (ds.drop i)=.ok rest/\dn++rest=total,
  ⟨ds.length,by rw [NV],M0 _,cD hD _,E1,[],[],total,bb,MP _,cR.mpr rfl,by rw [NB]; exact e2,rfl⟩,?_⟩
 rintro i m σ' H' ⟨rfl,hi,sm,E',acc,dn,rest,hacc,hlen,hdn,hrest,htot⟩
 have sH:bm (hid H1 O) (hid H' (D::O)):=fun b o h=>by
  have h2:=sm b o (aI H1 O b o h)
  unfold hid at h ⊢
  by_cases hb:b∈O
  ·rw [if_pos hb] at h; cases h
  ·rw [if_neg hb] at h
   have ne:b≠D:=bg h hD
   rw [if_neg (by intro z; rcases List.mem_cons.mp z with z | z; exact ne z; exact hb z)]; exact h2
 by_cases hlt:i < ds.length
 ·right
  obtain⟨go,yl⟩:=(wk H' (D::O) i E'.all sH).1 ds[i] (by simp [hlt])
  refine⟨go,fun x H2 y=>?_⟩
  obtain⟨s2,dx'⟩:=yl x H2 y
  have E':=E'.same s2
  have sm:=sm.trans s2
  have hacc:=s2 _ _ hacc
  have hdn:=hdn.mono (bV s2)
  rw [NX hlt,lH] at hrest
  obtain⟨ρ1,g1,hrest⟩:=qi hrest
  have g1:=Jc g1
  obtain⟨c,c1,hrest⟩:=qi hrest
  have c1:=Cb c1
  refine⟨D::O,inB ix ρ,ds[i],ρ1,E',dx',g1,fun σ3 E3 _=>?_⟩
  refine⟨D::O,ρ1,c,E3,c1,fun H4 s4=>?_⟩
  have E4:=E3.same s4
  have back:∀ {H5:Hp},dQ X.K (D::O) H5 ρ1 σ3->dQ X.K (D::O) H5 (inB ix ρ) σ3:=fun z=>z.forget fun j x e=>hfill ρ _ _ g1 j x e
  cases c with
  | true =>
   refine AU ?_
   rw [if_pos rfl] at hrest
   obtain⟨v,v1,hrest⟩:=qi hrest
   have v1:=Cb v1
   obtain⟨r,r1,hrest⟩:=qi hrest
   cases hrest
   refine⟨D::O,ρ1,v,E4,v1,fun w H5 s5 dw=>?_⟩
   have s45:=s4.trans s5
   have ha5:H5 D=some (.lst acc):=s45 _ _ hacc
   have hzl:ds.length < Qu:=NY (of_decide_eq_true hz) (by decide)
   refine⟨acc,ha5,by omega,ds.length - (i+1),by omega,rfl,hlt,?_,?_,acc++[w],dn++[v],r,bb,by rw [Nb,Ni]; omega,?_,r1,by rw [NZ]; exact htot⟩
   ·intro b o h
    rw [aJ (bg h hD)]; exact s45 _ _ (sm _ _ h)
   ·exact back ((E3.same s45).rewrite trivial MJ fun j xs e=>absurd e (hown ρ _ _ g1 j xs))
   ·have s6:bm (hid H5 (D::O)) (hid (upd H5 D (.lst (acc++[w]))) (D::O)):=gS MJ
    exact(hdn.mono ((bV s45).trans s6)).snoc (dw.mono s6)
  | false =>
   refine Af ?_
   rw [if_neg MU] at hrest
   exact⟨ds.length - (i+1),by omega,rfl,hlt,sm.trans s4,back E4,acc,dn,rest,s4 _ _ hacc,by omega,hdn.mono (bV s4),hrest,htot⟩
 ·left
  have ei:i=ds.length:=by omega
  subst ei
  refine⟨(wk H' (D::O) ds.length E'.all sH).2 rfl,?_⟩
  rw [N0] at hrest
  cases hrest
  rw [M1] at htot
  subst htot
  exact q D H' _ acc rfl (s1.trans sm) (s1.free hD) hacc hdn
theorem Il (tk:wy ix g):∀ σ H Q,tF X (nG ix G g C Fe) σ H Q->KQ (J9 X G) (J0 X.K g) (GY X.K C) (LC X.K Fe) ix σ H Q:=fun σ H Q h=>E6 tk σ H Q (Li σ H Q h)
theorem Mi (hc:X.calm=true) (ok:nR X scope N ix) (tk:wy ix g) (hi:FI X tg iter G) (hb:JF X scope N tg elt ifs g C Fe)
  (hs:∀ x,QL iter X.env x=pure x:=by intro _; rfl):FE X (.ListComp elt [⟨tg,iter,ifs,0⟩] scope pos) (nG ix G g C Fe) :=
 PE.weak (E9 hc ok.cell ok.kind ok.names ok.free ok.ix hi hb.k hs) (Il tk)
end

structure Ks where
 nx:au->R D
 bk:au->R D:=fun _=>un
 ct:au->R D:=fun _=>un
 ex:Ex->au->R D:=fun x _=>.error (some x)
abbrev cB:=Ks->au->R D
def sg {α:Type} (r:R α) (k:Ks) (ρ:au) (f:α->R D):R D:=match r with
 | .ok a=>f a
 | .error (some x)=>k.ex x ρ
 | .error none=>un
structure Base (Hb:Hp) (Ob:List Qr) (H:Hp) (O:List Qr):Prop where
 same:bm Hb H
 sub:∀ a∈Ob,a∈O
 new:∀ a∈O,a∈Ob\/Hb a=none
def lF (K:Pj) (H:Hp) (O:List Qr):List Qr->List D->Prop
 | [],[]=>True
 | b::bs,x::xs=>dF K H O b x/\lF K H O bs xs
 | _,_=>False
def wm (K:Pj) (H:Hp) (O:List Qr) (a:Qr) (bs:List Qr) (d:D):Prop :=
 ∃ xs,lF K H O bs xs/\((d=.lst xs/\H a=some (.lst (bs.map .ref)))\/(∃ kvs:List (List Key×V),d=.dct (kvs.map fun p=>.tup (p.1.map bv)) xs/\H a=some (.dT kvs)/\kvs.map (·.2)=bs.map .ref)\/(d=.dct [] xs/\bs=[]/\H a=some (.dK [])))
def zB (K:Pj) (Hb:Hp) (Ob O:List Qr) (H:Hp) (ρ:au) (σ:St) (i:Nat) (d:D):Prop :=
 ∃ a bs,σ[i]?=some (some (.ref a))/\wm K H O a bs d/\(a::bs).Nodup/\(∀ b∈a::bs,b∈O/\Hb b=none/\b∉Ob/\∀ (j:Nat) d',ρ[j]?=some (some (.own d'))->σ[j]?≠some (some (.ref b)))/\∀ (j:Nat) d',ρ[j]?=some (some (.nest d'))->j=i
theorem lF.mono {K:Pj} {H H':Hp} {O O':List Qr} (s:bm (hid H O) (hid H' O')):∀ {bs:List Qr} {xs:List D},lF K H O bs xs->(∀ b∈bs,(∃ o,H b=some o)->H' b=H b)->lF K H' O' bs xs
 | [],[],_,_=>trivial
 | b::bs,x::xs,h,e=>⟨h.1.mono (e b MJ h.1.some).symm s,lF.mono s h.2 fun b' hb=>e b' (MK _ hb)⟩
 | [],_::_,h,_=>h.elim
 | _::_,[],h,_=>h.elim
theorem lF.some {K:Pj} {H:Hp} {O:List Qr}:∀ {bs:List Qr} {xs:List D},lF K H O bs xs->∀ b∈bs,∃ o,H b=some o
 | [],_,_,_,hb=>nomatch hb
 | b::bs,x::xs,h,b',hb=>by
  rcases List.mem_cons.mp hb with z | z
  ·rw [z]; exact h.1.some
  ·exact lF.some h.2 b' z
 | _::_,[],h,_,_=>h.elim
theorem wm.some {K:Pj} {H:Hp} {O:List Qr} {a:Qr} {bs:List Qr} {d:D} (h:wm K H O a bs d):∀ b∈a::bs,∃ o,H b=some o:=fun b hb=>by
 obtain⟨xs,h1,h2⟩:=h
 rcases List.mem_cons.mp hb with z | z
 ·rw [z]
  rcases h2 with ⟨_,q⟩ | ⟨_,_,q,_⟩ | ⟨_,_,q⟩ <;> exact⟨_,q⟩
 ·exact h1.some b z
theorem wm.mono {K:Pj} {H H':Hp} {O O':List Qr} {a:Qr} {bs:List Qr} {d:D} (h:wm K H O a bs d) (s:bm (hid H O) (hid H' O')) (e:∀ b∈a::bs,(∃ o,H b=Option.some o)->H' b=H b):wm K H' O' a bs d:=by
 have ea:=e a MJ (h.some a MJ)
 obtain⟨xs,h1,h2⟩:=h
 refine⟨xs,h1.mono s fun b hb=>e b (MK _ hb),?_⟩
 rw [ea]; exact h2
theorem zB.to {K:Pj} {Hb Hb':Hp} {Ob O O':List Qr} {H H':Hp} {ρ ρ':au} {σ σ':St} {i:Nat} {d:D} (h:zB K Hb Ob O H ρ σ i d) (hσ:σ'[i]?=σ[i]?) (s:bm (hid H O) (hid H' O'))
  (k:∀ b,b∈O->Hb b=none->b∉Ob->(∀ (j:Nat) d',ρ[j]?=some (some (.own d'))->σ[j]?≠some (some (.ref b)))->(∃ o,H b=some o)->H' b=H b/\b∈O'/\Hb' b=none/\∀ (j:Nat) d',ρ'[j]?=some (some (.own d'))->σ'[j]?≠some (some (.ref b)))
  (n:∀ (j:Nat) d',ρ'[j]?=some (some (.nest d'))->∃ d2,ρ[j]?=some (some (.nest d2))):zB K Hb' Ob O' H' ρ' σ' i d:=by
 obtain⟨a,bs,h1,h2,h3,h4,h5⟩:=h
 refine⟨a,bs,hσ.trans h1,h2.mono s fun b hb ho=>?_,h3,fun b hb=>?_,fun j d' q=>?_⟩
 ·obtain⟨q1,q2,q3,q4⟩:=h4 b hb
  exact(k b q1 q2 q3 q4 ho).1
 ·obtain⟨q1,q2,q3,q4⟩:=h4 b hb
  obtain⟨_,w2,w3,w4⟩:=k b q1 q2 q3 q4 (h2.some b hb)
  exact⟨w2,w3,q3,w4⟩
 ·obtain⟨d2,q⟩:=n j d' q
  exact h5 j d2 q
structure eK (K:Pj) (Hb:Hp) (Ob O:List Qr) (H:Hp) (ρ:au) (σ:St):Prop where
 env:dQ K O H ρ σ
 base:Base Hb Ob H O
 mine:∀ (i:Nat) xs a,ρ[i]?=some (some (.own xs))->σ[i]?=some (some (.ref a))->Hb a=none/\a∉Ob
 nst:∀ (i:Nat) d,ρ[i]?=some (some (.nest d))->zB K Hb Ob O H ρ σ i d
theorem Base.same' {Hb:Hp} {Ob:List Qr} {H H':Hp} {O:List Qr} (b:Base Hb Ob H O) (s:bm H H'):Base Hb Ob H' O:=⟨b.same.trans s,b.sub,b.new⟩
theorem eK.same {K:Pj} {Hb:Hp} {Ob O:List Qr} {H H':Hp} {ρ:au} {σ:St} (h:eK K Hb Ob O H ρ σ) (s:bm H H'):eK K Hb Ob O H' ρ σ:=⟨h.env.same s,h.base.same' s,h.mine,fun i d q=>(h.nst i d q).to rfl (bV s) (fun b q1 q2 q3 q4 ⟨o,ho⟩=>⟨by rw [ho,s _ _ ho],q1,q2,q4⟩) fun j d' z=>⟨d',z⟩⟩
theorem eK.after {K:Pj} {Hb:Hp} {Ob O:List Qr} {H:Hp} {ρ ρ':au} {σ σ':St} (S:eK K Hb Ob O H ρ σ) (E':dQ K O H ρ' σ') (own:∀ (i:Nat) x,ρ'[i]?=some (some x)->(∀ d,x≠.val d)->σ'[i]?=σ[i]?/\ρ[i]?=some (some x)):eK K Hb Ob O H ρ' σ' :=
 ⟨E',S.base,fun i xs a q1 q2=>by
  obtain⟨w1,w2⟩:=own i _ q1 (fun _ z=>nomatch z)
  rw [w1] at q2
  exact S.mine i xs a w2 q2,fun i d q=>by
  obtain⟨w1,w2⟩:=own i _ q (fun _ z=>nomatch z)
  refine(S.nst i d w2).to w1 (fun _ _ z=>z) (fun b q1 q2 q3 q4 _=>⟨rfl,q1,q2,fun l d' w=>?_⟩) fun l d' w=>⟨d',(own l _ w (fun _ z=>nomatch z)).2⟩
  obtain⟨z1,z2⟩:=own l _ w (fun _ z=>nomatch z)
  rw [z1]; exact q4 l d' z2⟩
structure JQ (X:Cx) (Hb:Hp) (Ob:List Qr) (E:Ends) (k:Ks) (r:R D):Prop where
 ne:r≠un
 nx:∀ O ρ σ H,eK X.K Hb Ob O H ρ σ->k.nx ρ=r->E.nx σ H
 bk:∀ O ρ σ H,eK X.K Hb Ob O H ρ σ->k.bk ρ=r->E.bk σ H
 ct:∀ O ρ σ H,eK X.K Hb Ob O H ρ σ->k.ct ρ=r->E.ct σ H
 rt:∀ d O v H,r=.ok d->Base Hb Ob H O->cQ X.K (hid H O) d v->E.rt v H
 ex:∀ O ρ σ H x,eK X.K Hb Ob O H ρ σ->k.ex x ρ=r->Hx X σ O H x
def Lg (X:Cx) (Hb:Hp) (Ob:List Qr) (F:cB):TS:=fun E σ H=>∃ O ρ k r,eK X.K Hb Ob O H ρ σ/\F k ρ=r/\JQ X Hb Ob E k r
def FS (X:Cx) (st:QD) (F:cB):Prop:=∀ Hb Ob,PS X st (Lg X Hb Ob F)
def yu (X:Cx) (st:List QD) (F:cB):Prop:=∀ Hb Ob,xi X st (Lg X Hb Ob F)
theorem ir.on {X:Cx} {Hb:Hp} {Ob O:List Qr} {H:Hp} {ρ:au} {σ:St} {E:Ends} {k:Ks} {r:R D} {α:Type} {fr:R α} {G:α->R D} {Q:α->Prop} (h:sg fr k ρ G=r) (hk:JQ X Hb Ob E k r) (S:eK X.K Hb Ob O H ρ σ) (q:∀ a,G a=r->Q a):ir X σ O H fr Q:=by
 match fr,h with
 | .ok a,h=>exact q a h
 | .error (some x),h=>exact hk.ex O ρ σ H x S h
 | .error none,h=>exact absurd h.symm hk.ne
section
variable {X:Cx} {st:QD} {rest body:List QD} {pos:Pos}
def cz:cB:=fun k ρ=>k.nx ρ
def aG (F1 F2:cB):cB:=fun k ρ=>F1 { k with nx:=F2 k } ρ
theorem Jv:yu X [] cz:=fun Hb Ob=>xi.weak EH fun E σ H ⟨O,ρ,k,r,S,hF,hk⟩=>hk.nx O ρ σ H S hF
theorem IR {F1 F2:cB} (h1:FS X st F1) (h2:yu X rest F2):yu X (st::rest) (aG F1 F2):=fun Hb Ob=>xi.weak (wf (h1 Hb Ob) (h2 Hb Ob)) fun E σ H ⟨O,ρ,k,r,S,hF,hk⟩ =>
 ⟨O,ρ,{ k with nx:=F2 k },r,S,hF,hk.ne,fun O' ρ' σ' H' S' e=>⟨O',ρ',k,r,S',e,hk⟩,hk.bk,hk.ct,hk.rt,hk.ex⟩
theorem JP {F1:cB} (h1:FS X st F1):yu X [st] F1:=fun Hb Ob=>zM (h1 Hb Ob)
def bC (f:FX):cB:=fun k ρ=>sg (f ρ) k ρ .ok
theorem Kn {e:QB} {f:FX} (h:FE X e f):FS X (.Return (some e) pos) (bC f):=fun Hb Ob=>PS.weak (Gw h) fun E σ H ⟨O,ρ,k,r,S,hF,hk⟩ =>
 ⟨O,ρ,S.env,ir.on hF hk S fun d e v H' s' d'=>hk.rt d O v H' e.symm (S.base.same' s') d'⟩
def Jg:cB:=fun _ _=>.ok .non
def jb (c:au->R Bool) (A B:cB):cB:=fun k ρ=>sg (c ρ) k ρ fun b=>if b then A k ρ else B k ρ
theorem Mb {c:QB} {a b:List QD} {tc:au->R Bool} {A B:cB} (hc:FT X c tc) (ha:yu X a A) (hb:yu X b B):FS X (.If c a b pos) (jb tc A B):=fun Hb Ob=>PS.weak (IP hc (ha Hb Ob) (hb Hb Ob)) fun E σ H ⟨O,ρ,k,r,S,hF,hk⟩ =>
 ⟨O,ρ,S.env,ir.on hF hk S fun z e H1 s1=>by
  cases z with
  | true=>exact AU ⟨O,ρ,k,r,S.same s1,e,hk⟩
  | false=>exact Af ⟨O,ρ,k,r,S.same s1,e,hk⟩⟩
def bW (i:Nat) (f:FX):cB:=fun k ρ=>sg (f ρ) k ρ fun d=>k.nx (setV i d ρ)
theorem eK.setV {K:Pj} {Hb:Hp} {Ob O:List Qr} {H:Hp} {ρ:au} {σ:St} (E:eK K Hb Ob O H ρ σ) {i:Nat} {d:D} {v:V} (hi:i < σ.length) (hd:cQ K (hid H O) d v):eK K Hb Ob O H (setV i d ρ) (σ.set i (some v)) :=
  ⟨E.env.setV hi hd,E.base,fun j xs a e1 e2=>by
    rcases bf e1 with ⟨_,q⟩ | ⟨ne,q⟩
    · cases q
    · rw [MN (Ne.symm ne)] at e2
      exact E.mine j xs a q e2,
   fun j dn e=>by
    rcases bf e with ⟨_,q⟩ | ⟨ne,q⟩
    · cases q
    · refine(E.nst j dn q).to (MN (Ne.symm ne)) (fun _ _ z=>z) (fun b q1 q2 q3 q4 _=>⟨rfl,q1,q2,fun l d' w=>?_⟩) fun l d' w=>?_
      · rcases bf w with ⟨_,z⟩ | ⟨nl,z⟩
        · cases z
        · rw [MN (Ne.symm nl)]; exact q4 l d' z
      · rcases bf w with ⟨_,z⟩ | ⟨_,z⟩
        · cases z
        · exact⟨d',z⟩⟩
theorem AK {f:FX} {i:Nat} (hi:i < X.N.length) (h:PS X st (Hi (tF X f) (zF i))):FS X st (bW i f):=fun Hb Ob pins s σ H E I ⟨O,ρ,k,r,S,hF,hk⟩ =>
 h pins s σ H E I ⟨O,ρ,S.env,ir.on hF hk S fun d e v H1 s1 d1=>hk.nx O _ _ H1 ((S.same s1).setV (by rw [I.len]; exact hi) d1) e⟩
theorem KH {i:Nat} {x:Str} {e:QB} {f:FX} {pos':Pos} (hN:X.N.Nodup) (hi:X.N[i]?=some x) (hx:Loc X.env.scope x) (he:FE X e f) (hs:swapsWith e (some (.Name x pos')) pos.line X.env=pure false:=by rfl) (hf:X.fn x=true\/X.env.scope.names.lookup x=some .local:=by first | exact .inl rfl | exact .inr rfl | assumption) :
  FS X (.Assign [.Name x pos'] e pos) (bW i f):=AK (List.getElem?_eq_some_iff.mp hi).1 (xM hN hi hx he hs hf)
def vF:cB:=fun _ _=>un
theorem JV:FS X st vF:=fun Hb Ob pins s σ H E I ⟨O,ρ,k,r,S,hF,hk⟩=>absurd hF.symm hk.ne
def kill (is:List Nat) (ρ:au):au:=is.foldl (fun ρ i=>ρ.set i none) ρ
theorem jw:∀ (is:List Nat) (ρ:au) (i:Nat) (x:S),(kill is ρ)[i]?=some (some x)->ρ[i]?=some (some x)
 | [],ρ,i,x,e=>e
 | j::is,ρ,i,x,e=>by
  rcases bf (jw is (ρ.set j none) i x e) with ⟨_,q⟩ | ⟨_,q⟩
  ·cases q
  ·exact q
theorem eK.kill {K:Pj} {Hb:Hp} {Ob O:List Qr} {H:Hp} {ρ:au} {σ:St} (E:eK K Hb Ob O H ρ σ) (is:List Nat):eK K Hb Ob O H (kill is ρ) σ :=
 ⟨E.env.forget (jw is ρ),E.base,fun i xs a e1 e2=>E.mine i xs a (jw is ρ i _ e1) e2,fun i d q=>(E.nst i d (jw is ρ i _ q)).to rfl (fun _ _ z=>z) (fun b q1 q2 q3 q4 _=>⟨rfl,q1,q2,fun l d' w=>q4 l d' (jw is ρ l _ w)⟩) fun l d' w=>⟨d',jw is ρ l _ w⟩⟩
def fK (is:List Nat) (F:cB):cB:=fun k ρ=>F k (kill is ρ)
theorem Ip {st:List QD} {F:cB} (is:List Nat) (h:yu X st F):yu X st (fK is F):=fun Hb Ob=>xi.weak (h Hb Ob) fun E σ H ⟨O,ρ,k,r,S,hF,hk⟩=>⟨O,TG.kill is ρ,k,r,S.kill is,hF,hk⟩
end
def kW (g:GF) (B:cB) (k:Ks):List D->au->R D
 | [],ρ=>k.nx ρ
 | d::ds,ρ=>(rO (g d ρ)).bind fun ρ1=>B ⟨kW g B k ds,k.nx,kW g B k ds,k.ex⟩ ρ1
def kK (G:au->R (List D)) (g:GF) (B:cB):cB:=fun k ρ=>sg (G ρ) k ρ fun ds=>kW g B k ds ρ
def lb (H:Hp) (O Ob:List Qr):Hp:=fun b=>if b∈O/\b∉Ob then none else H b
theorem vq {H:Hp} {O Ob:List Qr} {b:Qr} (h1:b∈O) (h2:b∉Ob):lb H O Ob b=none:=by unfold lb; rw [if_pos ⟨h1,h2⟩]
theorem Dt {H:Hp} {O Ob:List Qr} {b:Qr} {o:HO} (h:lb H O Ob b=some o):H b=some o/\¬ (b∈O/\b∉Ob):=by
 unfold lb at h
 split at h
 ·cases h
 ·rename_i n; exact⟨h,n⟩
theorem Ci {H:Hp} {O Ob:List Qr} {b:Qr} {o:HO} (h:H b=some o) (n:¬ (b∈O/\b∉Ob)):lb H O Ob b=some o:=by unfold lb; rw [if_neg n]; exact h
theorem Base.loop {Hb:Hp} {Ob:List Qr} {H:Hp} {O:List Qr} (b:Base Hb Ob H O):Base (lb H O Ob) Ob H O :=
 ⟨fun c o h=>(Dt h).1,b.sub,fun a ha=>by
  by_cases h:a∈Ob
  ·exact .inl h
  ·exact .inr (vq ha h)⟩
theorem Base.back {Hb:Hp} {Ob:List Qr} {H H':Hp} {O O':List Qr} (b:Base Hb Ob H O) (b':Base (lb H O Ob) Ob H' O'):Base Hb Ob H' O':=by
 have up:bm Hb (lb H O Ob):=fun c o h=>Ci (b.same c o h) fun ⟨z1,z2⟩=>by
  rcases b.new c z1 with z | z
  ·exact z2 z
  ·rw [z] at h; cases h
 exact⟨up.trans b'.same,b'.sub,fun a ha=>(b'.new a ha).imp id up.free⟩
theorem eK.loop {K:Pj} {Hb:Hp} {Ob O:List Qr} {H:Hp} {ρ:au} {σ:St} (E:eK K Hb Ob O H ρ σ):eK K (lb H O Ob) Ob O H ρ σ :=
 ⟨E.env,E.base.loop,fun i xs a e1 e2=>by
  obtain⟨_,n⟩:=E.mine i xs a e1 e2
  obtain⟨a',e3,e4,_⟩:=E.env.own i xs e1
  rw [e2] at e3; cases e3
  exact⟨vq e4 n,n⟩,fun i d q=>(E.nst i d q).to rfl (fun _ _ z=>z) (fun b q1 q2 q3 q4 _=>⟨rfl,q1,vq q1 q3,q4⟩) fun l d' w=>⟨d',w⟩⟩
theorem eK.back {K:Pj} {Hb:Hp} {Ob O O':List Qr} {H H':Hp} {ρ':au} {σ':St} (b:Base Hb Ob H O) (E:eK K (lb H O Ob) Ob O' H' ρ' σ'):eK K Hb Ob O' H' ρ' σ' :=
 have up:bm Hb (lb H O Ob):=fun c o h=>Ci (b.same c o h) fun ⟨z1,z2⟩=>by
  rcases b.new c z1 with z | z
  ·exact z2 z
  ·rw [z] at h; cases h
 ⟨E.env,b.back E.base,fun i xs a e1 e2=>by
  obtain⟨z,n⟩:=E.mine i xs a e1 e2
  exact⟨up.free z,n⟩,fun i d q=>(E.nst i d q).to rfl (fun _ _ z=>z) (fun b q1 q2 q3 q4 _=>⟨rfl,q1,up.free q2,q4⟩) fun l d' w=>⟨d',w⟩⟩
theorem Dl {Hb:Hp} {Ob O O':List Qr} {H H':Hp} (b:Base Hb Ob H O) (b':Base (lb H O Ob) Ob H' O'):bm (hid H O) (hid H' O'):=fun c o h=>by
 unfold hid at h ⊢
 by_cases hc:c∈O
 ·rw [if_pos hc] at h; cases h
 ·rw [if_neg hc] at h
  have h1:lb H O Ob c=some o:=Ci h fun z=>hc z.1
  rw [if_neg]
  ·exact b'.same _ _ h1
  ·intro z
   rcases b'.new c z with z | z
   ·exact hc (b.sub c z)
   ·rw [h1] at z; cases z
theorem JQ.loop {X:Cx} {Hb:Hp} {Ob O:List Qr} {H:Hp} {E E':Ends} {k k':Ks} {r:R D} (hk:JQ X Hb Ob E k r) (b:Base Hb Ob H O) (hn:∀ O' ρ' σ' H',eK X.K (lb H O Ob) Ob O' H' ρ' σ'->k'.nx ρ'=r->E'.nx σ' H') (hc:∀ O' ρ' σ' H',eK X.K (lb H O Ob) Ob O' H' ρ' σ'->k'.ct ρ'=r->E'.ct σ' H')
    (eb:k'.bk=k.nx) (ee:k'.ex=k.ex) (Eb:E'.bk=E.nx) (Er:E'.rt=E.rt):JQ X (lb H O Ob) Ob E' k' r :=
  ⟨hk.ne,hn,fun O' ρ' σ' H' S e=>by rw [Eb]; exact hk.nx O' ρ' σ' H' (S.back b) (by rw [<- eb]; exact e),hc,fun d O' v H' e b' dv=>by rw [Er]; exact hk.rt d O' v H' e (b.back b') dv,
   fun O' ρ' σ' H' x S e=>hk.ex O' ρ' σ' H' x (S.back b) (by rw [<- ee]; exact e)⟩
section
variable {X:Cx} {st:QD} {rest body:List QD} {pos:Pos}
theorem K4 {tg iter:QB} {G:au->R (List D)} {g:GF} {B:cB} (hp:QK (model X.prog X.w) X.A X.env X.xe) (hc:X.calm=true) (hi:FI X tg iter G) (hg:FG X tg g) (hb:yu X body B)
  (hs:∀ x,QL iter X.env x=pure x:=by intro _; rfl):FS X (.For tg iter body [] pos) (kK G g B):=fun Hb Ob pins s σ H E I ⟨O,ρ,k,r,S,hF,hk⟩=>by
 have hall:xi X body (fun E σ H=>∃ Hb',Lg X Hb' Ob B E σ H):=fun pins s σ H E I ⟨Hb',q⟩=>hb Hb' Ob pins s σ H E I q
 refine FQ hp hc hi hg hall hs pins s σ H E I ⟨O,ρ,S.env,ir.on hF hk S fun ds hF J H1 s1 wk=>?_⟩
 have E1:=S.same s1
 refine⟨fun i m σ H=>m=ds.length - i/\i<=ds.length/\∃ O' ρ',eK X.K (lb H1 O Ob) Ob O' H ρ' σ/\kW g B k (ds.drop i) ρ'=r,
  ⟨ds.length,by rw [NV],M0 _,O,ρ,E1.loop,by rw [NB]; exact hF⟩,?_⟩
 rintro i m σ' H' ⟨rfl,hi',O',ρ',E',hr⟩
 have sD:=Dl E1.base E'.base
 by_cases hlt:i < ds.length
 ·right
  obtain⟨go,yl⟩:=(wk H' O' i E'.env.all sD).1 ds[i] (by simp [hlt])
  refine⟨go,fun σ2 H2=>ds.length - (i+1)=ds.length - (i+1)/\i+1<=ds.length/\∃ O' ρ',eK X.K (lb H1 O Ob) Ob O' H2 ρ' σ2/\kW g B k (ds.drop (i+1)) ρ'=r,fun σ2 H2 z=>⟨ds.length - (i+1),by omega,z⟩,fun x H2 y=>?_⟩
  obtain⟨s2,dx⟩:=yl x H2 y
  have E':=E'.same s2
  rw [NX hlt] at hr
  cases hg':g ds[i] ρ' with
  | none =>
   have hr':(rO (g ds[i] ρ')).bind (fun ρ1=>B ⟨kW g B k (ds.drop (i+1)),k.nx,kW g B k (ds.drop (i+1)),k.ex⟩ ρ1)=r:=hr
   rw [hg'] at hr'
   exact absurd hr'.symm hk.ne
  | some ρ1 =>
   have hr':(rO (g ds[i] ρ')).bind (fun ρ1=>B ⟨kW g B k (ds.drop (i+1)),k.nx,kW g B k (ds.drop (i+1)),k.ex⟩ ρ1)=r:=hr
   rw [hg'] at hr'
   refine⟨O',ρ',ds[i],ρ1,E'.env,dx,hg',fun σ3 E3 own=>?_⟩
   have E3':eK X.K (lb H1 O Ob) Ob O' H2 ρ1 σ3:=E'.after E3 own
   exact⟨lb H1 O Ob,O',ρ1,⟨kW g B k (ds.drop (i+1)),k.nx,kW g B k (ds.drop (i+1)),k.ex⟩,r,E3',hr',hk.loop E1.base (fun O4 ρ4 σ4 H4 E4 z=>⟨rfl,hlt,O4,ρ4,E4,z⟩) (fun O4 ρ4 σ4 H4 E4 z=>⟨rfl,hlt,O4,ρ4,E4,z⟩) rfl rfl rfl rfl⟩
 ·left
  have ei:i=ds.length:=by omega
  subst ei
  refine⟨(wk H' O' ds.length E'.env.all sD).2 rfl,?_⟩
  rw [N0] at hr
  exact hk.nx O' ρ' σ' H' (E'.back E1.base) hr
end
end TG
namespace TG
open PySem PySem.Spec L2
variable [aR]

theorem eK.setO {K:Pj} {Hb:Hp} {Ob O:List Qr} {H:Hp} {ρ:au} {σ:St} (E:eK K Hb Ob O H ρ σ) {i:Nat} {d d':D} {a:Qr} {o:HO} (hi:ρ[i]?=some (some (.own d))) (ha:σ[i]?=some (some (.ref a))) (m:qN o) (new:dF K (upd H a o) O a d') :
  eK K Hb Ob O (upd H a o) (ρ.set i (some (.own d'))) σ:=by
 obtain⟨a',ha',haO,hat⟩:=E.env.own i d hi
 rw [ha] at ha'; cases ha'
 obtain⟨m1,m2⟩:=E.mine i d a hi ha
 have s:bm (hid H O) (hid (upd H a o) O):=gS haO
 have own:∀ (j:Nat) ys,(ρ.set i (some (.own d')))[j]?=some (some (.own ys))->∃ ys',ρ[j]?=some (some (.own ys')):=fun j ys q=>by
  rcases bf q with ⟨hj,_⟩ | ⟨_,q⟩
  ·rw [hj]; exact⟨d,hi⟩
  ·exact⟨ys,q⟩
 refine⟨⟨fun j d1 e=>?_,fun j ys e=>?_,fun j l ys zs b q1 q2 q3 q4=>?_,E.env.all.upd haO m⟩,⟨fun b u h=>?_,E.base.sub,E.base.new⟩,fun j ys b q1 q2=>?_,fun j dn q=>?_⟩
 ·rcases bf e with ⟨_,q⟩ | ⟨ne,q⟩
  ·cases q
  ·obtain⟨w,q1,q2⟩:=E.env.val j d1 q
   exact⟨w,q1,q2.mono s⟩
 ·rcases bf e with ⟨hj,q⟩ | ⟨ne,q⟩
  ·cases q
   rw [hj]
   exact⟨a,ha,haO,new⟩
  ·obtain⟨b,q1,q2,q3⟩:=E.env.own j ys q
   have nb:b≠a:=fun z=>ne (E.env.one j i ys d a q hi (by rw [<- z]; exact q1) ha)
   exact⟨b,q1,q2,q3.mono (by rw [aJ nb]) s⟩
 ·obtain⟨_,q1'⟩:=own j ys q1
  obtain⟨_,q2'⟩:=own l zs q2
  exact E.env.one j l _ _ b q1' q2' q3 q4
 ·have nb:b≠a:=fun z=>by rw [z,m1] at h; cases h
  rw [aJ nb]; exact E.base.same b u h
 ·obtain⟨ys',q⟩:=own j ys q1
  exact E.mine j ys' b q q2
 ·have q:ρ[j]?=some (some (.nest dn)):=by
   rcases bf q with ⟨_,z⟩ | ⟨_,z⟩
   ·cases z
   ·exact z
  refine(E.nst j dn q).to rfl s (fun b q1 q2 q3 q4 _=>⟨aJ fun z=>q4 i d hi (by rw [z]; exact ha),q1,q2,fun l d1 w=>?_⟩) fun l d1 w=>?_
  ·obtain⟨_,w'⟩:=own l d1 w
   exact q4 l _ w'
  ·rcases bf w with ⟨_,z⟩ | ⟨_,z⟩
   ·cases z
   ·exact⟨d1,z⟩
theorem eK.setNew {K:Pj} {Hb:Hp} {Ob O:List Qr} {H H':Hp} {ρ:au} {σ:St} (E:eK K Hb Ob O H ρ σ) {i:Nat} {d:D} {p:Qr} (hi:i < σ.length) (sm:bm H H') (hp:H p=none) (m:∃ o,H' p=some o/\qN o) (new:dF K H' (p::O) p d) :
  eK K Hb Ob (p::O) H' (ρ.set i (some (.own d))) (σ.set i (some (.ref p))):=by
 have hpO:p∉O:=E.env.all.not hp
 have s:bm (hid H O) (hid H' (p::O)):=fun b o h=>by
  unfold hid at h ⊢
  by_cases hb:b∈O
  ·rw [if_pos hb] at h; cases h
  ·rw [if_neg hb] at h
   have ne:=bg h hp
   rw [if_neg (by intro z; rcases List.mem_cons.mp z with z | z; exact ne z; exact hb z)]; exact sm _ _ h
 have other:∀ (j:Nat) xs,ρ[j]?=some (some (.own xs))->σ[j]?≠some (some (.ref p)):=fun j xs e z=>by
  obtain⟨a,e1,e2,e3⟩:=E.env.own j xs e
  rw [z] at e1; cases e1
  obtain⟨o,e3⟩:=e3.some
  rw [hp] at e3; cases e3
 refine⟨⟨fun j d' e=>?_,fun j xs e=>?_,fun j k xs ys a e1 e2 e3 e4=>?_,⟨(E.env.all.same sm).1,fun a ha=>?_⟩⟩,⟨E.base.same.trans sm,fun a ha=>MK _ (E.base.sub a ha),fun a ha=>?_⟩,fun j xs a e1 e2=>?_,fun j dn e=>?_⟩
 ·rcases bf e with ⟨_,q⟩ | ⟨ne,q⟩
  ·cases q
  ·obtain⟨v,q1,q2⟩:=E.env.val j d' q
   exact⟨v,by rw [MN (Ne.symm ne)]; exact q1,q2.mono s⟩
 ·rcases bf e with ⟨hj,q⟩ | ⟨ne,q⟩
  ·cases q
   rw [hj]
   exact⟨p,MM hi,MJ,new⟩
  ·obtain⟨a,q1,q2,q3⟩:=E.env.own j xs q
   obtain⟨o,ho⟩:=q3.some
   exact⟨a,by rw [MN (Ne.symm ne)]; exact q1,MK _ q2,q3.mono (qu sm ho) s⟩
 ·rcases bf e1 with ⟨hj,q1⟩ | ⟨nj,q1⟩
  ·rcases bf e2 with ⟨hk,q2⟩ | ⟨nk,q2⟩
   ·exact hj.trans hk.symm
   ·rw [hj,MM hi] at e3
    cases e3
    rw [MN (Ne.symm nk)] at e4
    exact absurd e4 (other k ys q2)
  ·rcases bf e2 with ⟨hk,q2⟩ | ⟨nk,q2⟩
   ·rw [hk,MM hi] at e4
    cases e4
    rw [MN (Ne.symm nj)] at e3
    exact absurd e3 (other j xs q1)
   ·rw [MN (Ne.symm nj)] at e3
    rw [MN (Ne.symm nk)] at e4
    exact E.env.one j k xs ys a q1 q2 e3 e4
 ·rcases List.mem_cons.mp ha with rfl | ha
  ·exact m
  ·exact(E.env.all.same sm).2 a ha
 ·rcases List.mem_cons.mp ha with rfl | ha
  ·exact .inr (E.base.same.free hp)
  ·exact E.base.new a ha
 ·rcases bf e1 with ⟨hj,q1⟩ | ⟨nj,q1⟩
  ·rw [hj,MM hi] at e2
   cases e2
   exact⟨E.base.same.free hp,fun z=>hpO (E.base.sub p z)⟩
  ·rw [MN (Ne.symm nj)] at e2
   exact E.mine j xs a q1 e2
 ·rcases bf e with ⟨_,q⟩ | ⟨ne,q⟩
  ·cases q
  ·refine(E.nst j dn q).to (MN (Ne.symm ne)) s (fun b q1 q2 q3 q4 ⟨o,ho⟩=>⟨by rw [ho,sm _ _ ho],MK _ q1,q2,fun l d1 w=>?_⟩) fun l d1 w=>?_
   ·rcases bf w with ⟨hl,z⟩ | ⟨nl,z⟩
    ·rw [hl,MM hi]
     intro z
     cases z
     rw [hp] at ho; cases ho
    ·rw [MN (Ne.symm nl)]; exact q4 l d1 z
   ·rcases bf w with ⟨_,z⟩ | ⟨_,z⟩
    ·cases z
    ·exact⟨d1,z⟩
def KN (X:Cx) (F:FX):TE:=fun σ H Q=>∃ O ρ,dQ X.K O H ρ σ/\ir X σ O H (F ρ) fun d=>∀ p H',bm H H'->H p=none->(∃ o,H' p=some o/\qN o)->dF X.K H' (p::O) p d->Q (.ref p) H'
def FN (X:Cx) (e:QB) (F:FX):Prop:=PE X e (KN X F)
section
variable {X:Cx} {pos:Pos}
theorem xq {K:Pj} {H:Hp} {O:List Qr} {p:Qr} {ds:List D} {vs:List V} (hp:H p=none) (d:aY K (hid H O) ds vs):dF K (upd H p (.lst vs)) (p::O) p (.lst ds):=⟨_,vs,bb,rfl,d.mono (rg hp)⟩
theorem Lc {es:List QB} {g:au->R (List D)} (h:FA X es g):FN X (.List es pos) (ki g) :=
 PE.weak (yI h) fun σ H Q ⟨O,ρ,E,hF⟩=>⟨O,ρ,E,(ir.bind hF).imp fun xs hF vs H1 s1 d1=>by
  obtain⟨d,e,q⟩:=ir.rO hF
  obtain⟨hz,e⟩:=bQ e
  subst e
  refine⟨by rw [<- d1.length]; exact d7 hz,fun p hp=>?_⟩
  exact q p _ (s1.trans (cD hp _)) (s1.free hp) ⟨_,bb,trivial⟩ (xq hp d1)⟩
def uB:FX:=fun _=>.ok (.dct [] [])
theorem B3:FN X (.Dict [] [] pos) uB:=PE.weak CJ fun σ H Q ⟨O,ρ,E,q⟩ p hp=>q p _ (cD hp _) hp ⟨_,bb,trivial⟩ ⟨_,[],bb,cR.mpr rfl,.inr ⟨[],rfl,rfl,rfl⟩⟩
def n5 (i:Nat) (f:FX):cB:=fun k ρ=>sg (f ρ) k ρ fun d=>k.nx (ρ.set i (some (.own d)))
theorem Bc {st:QD} {f:FX} {i:Nat} (hi:i < X.N.length) (h:PS X st (Hi (KN X f) (zF i))):FS X st (n5 i f):=fun Hb Ob pins s σ H E I ⟨O,ρ,k,r,S,hF,hk⟩ =>
 h pins s σ H E I ⟨O,ρ,S.env,ir.on hF hk S fun d e p H1 s1 hp m o=>hk.nx _ _ _ H1 (S.setNew (by rw [I.len]; exact hi) s1 hp m o) e⟩
theorem L5 {i:Nat} {x:Str} {e:QB} {f:FX} {pos':Pos} (hN:X.N.Nodup) (hi:X.N[i]?=some x) (hx:Loc X.env.scope x) (he:FN X e f) (hs:swapsWith e (some (.Name x pos')) pos.line X.env=pure false:=by rfl) (hf:X.fn x=true\/X.env.scope.names.lookup x=some .local:=by first | exact .inl rfl | exact .inr rfl | assumption) :
  FS X (.Assign [.Name x pos'] e pos) (n5 i f):=Bc (List.getElem?_eq_some_iff.mp hi).1 (xM hN hi hx he hs hf)
end
theorem II {X:Cx} {F:FX}:∀ σ H Q,KN X F σ H Q->KU X F σ H Q:=fun σ H Q ⟨O,ρ,E,hF⟩=>⟨O,ρ,E,hF.imp fun d q D H' total acc e sm hD hD' dn=>by
 subst e
 exact q D H' sm hD ⟨_,hD',trivial⟩ ⟨_,acc,hD',rfl,dn⟩⟩
theorem L9 {X:Cx} {elt tg iter:QB} {ifs:List QB} {scope:Qz} {pos:Pos} {N:List Str} {ix:List (Option Nat)} {G:au->R (List D)} {g:GF} {C:au->R Bool} {Fe:FX} (hc:X.calm=true) (ok:nR X scope N ix) (tk:wy ix g) (hi:FI X tg iter G) (hb:JF X scope N tg elt ifs g C Fe)
  (hs:∀ x,QL iter X.env x=pure x:=by intro _; rfl):FN X (.ListComp elt [⟨tg,iter,ifs,0⟩] scope pos) (nG ix G g C Fe) :=
 PE.weak (E9 hc ok.cell ok.kind ok.names ok.free ok.ix hi hb.k hs) fun σ H Q q=>E6 tk σ H _ (II σ H _ q)
def AH (i:Nat) (u:List D->List D->Option (List D)) (f:au->R (List D)):cB:=fun k ρ=>match ρ[i]? with
 | some (some (.own (.lst xs)))=>sg (f ρ) k ρ fun ds=>(rO (u xs ds)).bind fun ys=>k.nx (ρ.set i (some (.own (.lst ys))))
 | _=>un
def CF (K:Pj) (r:V->List V->Hp->VK->Prop) (u:List D->List D->Option (List D)):Prop :=
 ∀ (H:Hp) (O:List Qr) (a:Qr) (xs ys as:List D) (ws vs:List V) (Q:VK),eF H O->a∈O->H a=some (.lst ws)->aY K (hid H O) xs ws->aY K (hid H O) as vs->u xs as=some ys->(∀ ws' v,aY K (hid H O) ys ws'->Q v (upd H a (.lst ws')))->r (.ref a) vs H Q
theorem p5 {K:Pj} {H:Hp} {O:List Qr} {a:Qr} {ys:List D} {ws:List V} (ha:a∈O) (h:aY K (hid H O) ys ws):dF K (upd H a (.lst ws)) O a (.lst ys):=⟨_,ws,bb,rfl,h.mono (gS ha)⟩
theorem Md {X:Cx} {i:Nat} {x m:Str} {id:String} {r:V->List V->Hp->VK->Prop} {u:List D->List D->Option (List D)} {e:QB} {es:List QB} {f:au->R (List D)} {npos apos cpos pos:Pos} (slot:Slot "list" m id) (hty:typeOf (.builtin id)=pure (.type "method_descriptor")) (hm:Ib X id r) (ok:CF X.K r u) (hx:PE X (.Name x npos) (oQ i)) (he:FA X (e::es) f)
  (hbase:QU (.Name x npos) m X.env (eval (.Name x npos) X.env)=eval (.Name x npos) X.env:=by rfl)
  (hfew:((backTo cpos (QC (e::es) X.env)).all (fun x=>!x.1) && (backToKw cpos (QW [] X.env)).all (fun x=>x.1.isSome)
   && decide ((e::es:List QB).length+([]:List Q2).length+(if ([]:List Q2).isEmpty then 0 else 1) < 30))=true:=by rfl)
  (hline:(apos.endLine==cpos.line)=true:=by rfl) (hs:QC (e::es) X.env=(false,eval e X.env)::QC es X.env:=by rfl) (hplain:(backTo cpos (QC es X.env)).any (·.1)=false:=by rfl)
  (hsw:swapsWith (.Call (.Attribute (.Name x npos) m apos) (e::es) [] cpos) none pos.line X.env=pure false:=by rfl) :
  FS X (.Expr (.Call (.Attribute (.Name x npos) m apos) (e::es) [] cpos) pos) (AH i u f):=fun Hb Ob pins s σ H E I ⟨O,ρ,k,rr,S,hF,hk⟩=>by
 unfold AH at hF
 split at hF
 ·rename_i xs hxs
  obtain⟨a,ha,haO,hat⟩:=S.env.own i _ hxs
  obtain⟨o,vs0,ho,eo,dn⟩:=hat
  subst eo
  refine vj (zk F.plainAttrs_list slot hty hm hx he hbase hfew hline hs hplain) hsw pins s σ H E I ⟨.ref a,ha,.inl ⟨rfl,vs0,oo.of ho⟩,O,ρ,S.env,ir.on hF hk S fun ds hr vs H1 s1 d1=>?_⟩
  have S1:=S.same s1
  cases hu1:u xs ds with
  | none=>rw [hu1] at hr; exact absurd hr.symm hk.ne
  | some ys =>
   rw [hu1] at hr
   exact ok H1 O a xs ys ds vs0 vs _ S1.env.all haO (s1 _ _ ho) (dn.mono (bV s1)) d1 hu1 fun ws' v new=>hk.nx O _ σ _ (S1.setO hxs ha trivial (p5 haO new)) hr
 ·exact absurd hF.symm hk.ne
def gx (xs:List D) (ds:List D):Option (List D):=match ds with
 | [y]=>if small (xs.length+1) then some (xs++[y]) else none
 | _=>none
theorem gI {K:Pj}:CF K u6 gx:=fun H O a xs ys as ws vs Q hO haO ha dx da hu q=>by
 unfold gx at hu
 split at hu
 ·rename_i y
  obtain⟨h1,h2⟩:=bQ hu
  subst h2
  obtain⟨v,rfl,dv⟩:=da.one
  have:=d7 h1
  rw [dx.length] at this
  exact⟨a,ws,v,rfl,rfl,ha,by omega,q _ _ (dx.snoc dv)⟩
 ·cases hu
def frz (i:Nat) (ρ:au):au:=match ρ[i]? with
 | some (some (.own d))=>setV i d ρ
 | _=>ρ
theorem dQ.frz {K:Pj} {O:List Qr} {H:Hp} {ρ:au} {σ:St} (E:dQ K O H ρ σ) (i:Nat):∃ O',dQ K O' H (frz i ρ) σ/\(∀ b∈O',b∈O)/\∀ b∈O,b∉O'->∃ d,ρ[i]?=some (some (.own d))/\σ[i]?=some (some (.ref b)):=by
 unfold TG.frz
 split
 ·rename_i d hd
  obtain⟨a,ha,haO,hat⟩:=E.own i d hd
  have sub:∀ b∈O.filter (fun b=>decide (b≠a)),b∈O:=fun b hb=>(List.mem_filter.mp hb).1
  have s:bm (hid H O) (hid H (O.filter fun b=>decide (b≠a))):=iT sub
  have na:a∉O.filter fun b=>decide (b≠a):=fun z=>absurd rfl (of_decide_eq_true (List.mem_filter.mp z).2)
  refine⟨O.filter fun b=>decide (b≠a),⟨fun j d' e=>?_,fun j ys e=>?_,fun j l ys zs b q1 q2 q3 q4=>?_,⟨E.all.1,fun b hb=>E.all.2 b (sub b hb)⟩⟩,sub,fun b hb nb=>?_⟩
  ·rcases bf e with ⟨hj,q⟩ | ⟨ne,q⟩
   ·cases q
    rw [hj]
    exact⟨.ref a,ha,hat.den s na⟩
   ·obtain⟨w,q1,q2⟩:=E.val j d' q
    exact⟨w,q1,q2.mono s⟩
  ·rcases bf e with ⟨_,q⟩ | ⟨ne,q⟩
   ·cases q
   ·obtain⟨b,q1,q2,q3⟩:=E.own j ys q
    have nb:b≠a:=fun z=>ne (E.one j i ys d a q hd (by rw [<- z]; exact q1) ha)
    exact⟨b,q1,List.mem_filter.mpr ⟨q2,decide_eq_true nb⟩,q3.mono rfl s⟩
  ·rcases bf q1 with ⟨_,q⟩ | ⟨_,q⟩
   ·cases q
   ·rcases bf q2 with ⟨_,q'⟩ | ⟨_,q'⟩
    ·cases q'
    ·exact E.one j l ys zs b q q' q3 q4
  ·by_cases z:b=a
   ·exact⟨d,hd,by rw [z]; exact ha⟩
   ·exact absurd (List.mem_filter.mpr ⟨hb,decide_eq_true z⟩) nb
 ·exact⟨O,E,fun _ z=>z,fun b hb nb=>absurd hb nb⟩
theorem eK.frz {K:Pj} {Hb:Hp} {Ob O:List Qr} {H:Hp} {ρ:au} {σ:St} (E:eK K Hb Ob O H ρ σ) (i:Nat):∃ O',eK K Hb Ob O' H (frz i ρ) σ:=by
 obtain⟨O',E',sub,gone⟩:=E.env.frz i
 refine⟨O',E',⟨E.base.same,fun a ha=>?_,fun a ha=>E.base.new a (sub a ha)⟩,fun j xs a q1 q2=>?_,fun j dn q1=>?_⟩
 ·by_cases z:a∈O'
  ·exact z
  ·obtain⟨d,e1,e2⟩:=gone a (E.base.sub a ha) z
   exact absurd ha (E.mine i d a e1 e2).2
 ·have q:ρ[j]?=some (some (.own xs)):=by
   unfold TG.frz at q1
   split at q1
   ·rcases bf q1 with ⟨_,q⟩ | ⟨_,q⟩
    ·cases q
    ·exact q
   ·exact q1
  exact E.mine j xs a q q2
 ·have bk:∀ (l:Nat) x,(TG.frz i ρ)[l]?=some (some x)->(∀ d,x≠.val d)->ρ[l]?=some (some x):=fun l x e nv=>by
   unfold TG.frz at e
   split at e
   ·rcases bf e with ⟨_,q⟩ | ⟨_,q⟩
    ·cases q; exact absurd rfl (nv _)
    ·exact q
   ·exact e
  refine(E.nst j dn (bk j _ q1 (fun _ z=>nomatch z))).to rfl (iT sub) (fun b w1 w2 w3 w4 _=>⟨rfl,?_,w2,fun l d1 w=>w4 l d1 (bk l _ w (fun _ z=>nomatch z))⟩) fun l d1 w=>⟨d1,bk l _ w (fun _ z=>nomatch z)⟩
  by_cases z:b∈O'
  ·exact z
  ·obtain⟨d,e1,e2⟩:=gone b w1 z
   exact absurd e2 (w4 i d e1)
def iq (i:Nat) (F:cB):cB:=fun k ρ=>F k (frz i ρ)
theorem JB {X:Cx} {st:List QD} {F:cB} (i:Nat) (h:yu X st F):yu X st (iq i F):=fun Hb Ob=>xi.weak (h Hb Ob) fun E σ H ⟨O,ρ,k,r,S,hF,hk⟩=>by
 obtain⟨O',S'⟩:=S.frz i
 exact⟨O',TG.frz i ρ,k,r,S',hF,hk⟩
def frzs (is:List Nat) (ρ:au):au:=is.foldl (fun ρ i=>frz i ρ) ρ
theorem dQ.frzs {K:Pj} {H:Hp} {σ:St}:∀ (is:List Nat) {O:List Qr} {ρ:au},dQ K O H ρ σ->∃ O',dQ K O' H (frzs is ρ) σ
 | [],O,_,E=>⟨O,E⟩
 | i::is,_,_,E=>by
  obtain⟨O',E',_⟩:=E.frz i
  exact dQ.frzs is E'
def lm (is:List Nat) (f:au->R Bool):au->R Bool:=fun ρ=>A3 (f (frzs is ρ))
theorem Jw {X:Cx} {e:QB} {f:au->R Bool} (is:List Nat) (h:FT X e f):FT X e (lm is f):=PT.weak h fun σ H Q ⟨O,ρ,E,hF⟩=>by
 obtain⟨O',E'⟩:=E.frzs is
 refine⟨O',TG.frzs is ρ,E',?_⟩
 unfold lm at hF
 cases hf:f (TG.frzs is ρ) with
 | error z=>rw [hf] at hF; exact hF.elim
 | ok d=>rw [hf] at hF; exact hF
end TG
namespace TG
open PySem PySem.Spec L2
variable [aR]

def Bx (K:Pj) (n:Nat) (g:List D->R D):Sp:=fun vs H Q E=>∃ O ds,vs.length=n/\eF H O/\aY K (hid H O) ds vs/\match g ds with
 | .ok d=>∀ v H',bm H H'->cQ K (hid H' O) d v->Q v H'
 | .error (some x)=>Kk K H O x E
 | .error none=>False
section
variable {X:Cx} {k:Nat} {f C:Qr} {fd:QY} {ps:List Str} {sp:Sp} {x m:Str} {p pos apos:Pos} {e o:QB} {es:List QB} {ta:TE} {t:TA}
theorem uO {pins:List (Qr×Obj)} {σ:St} {H:Hp} {s:Qy} {Q:VK} {E:XK} {us:List Qo} {vs:List V} (F:jp X.prog X.w X.K X.mg X.base (oV X.prog X.w) k f fd ps sp) (hr:fZ k X.A) (hb:Binds X.K fd ps []) (hx:lE (oV X.prog X.w) X σ E)
  (I:Inv X pins σ H s) (r:Vals vs us) (h:sp vs H Q E):QA (model X.prog X.w) X.A (call (.ref f) us) (EP X pins σ Q) X.xe s:=by
 have hl:(us++[]).length=ps.length:=by rw [M1,<- r.length]; exact F.len _ _ _ _ h
 have hb':=hb s us I.kIn hl
 rw [M1] at hb'
 refine wpAny_call (Q0 (F.run X.A X.stack s H ⟨us,[]⟩ us vs Q E hr I.env0 hb' r h) fun r s' hq=>?_)
 cases r with
 | error e=>exact hx pins H s e s' I hq
 | ok fl =>
  cases fl with
  | ret u=>exact I.after hq
  | next=>exact False.elim hq
  | brk=>exact False.elim hq
  | cont=>exact False.elim hq
def BF (X:Cx) (sp:Sp) (t:TA):TE:=fun σ H Q=>t σ H fun vs H1=>∃ E,lE (oV X.prog X.w) X σ E/\sp vs H1 Q E
theorem Bz (F:jp X.prog X.w X.K X.mg X.base (oV X.prog X.w) k f fd ps sp) (hr:fZ k X.A) (hg:Gl X x) (hm:X.mg x=some (.ref f)) (hk:Py X.K (.ref f)=true) (hb:Binds X.K fd ps [])
  (ha:PA X (e::es) t) (hdb:(x==("__debug__":Str))=false:=by decide) (he:QC (e::es) X.env=(false,eval e X.env)::QC es X.env:=by rfl) (hpl:(backTo pos (QC es X.env)).any (·.1)=false:=by rfl) :
  PE X (.Call (.Name x p) (e::es) [] pos) (BF X sp t):=by
 intro pins s σ H Q I h
 refine Q1 (u9 I hg hm ?_ hdb)
 refine Pz (h₀:=X.base) I.ok.mod.kin hk (dX (ha pos pins s σ H _ I h) fun us s1 ⟨vs,H1,I1,r,E,hx,q⟩=>⟨I1.kIn,?_⟩) he hpl
 exact uO F hr hb hx I1 r q
theorem Bp {n:Nat} {g:List D->R D} {f:au->R (List D)} (hn:∀ ds,g ds≠un->ds.length=n):∀ σ H Q,tF X (fR g f) σ H Q->BF X (Bx X.K n g) (JN X f) σ H Q:=fun σ H Q ⟨O,ρ,E,hF⟩ =>
 ⟨O,ρ,E,(ir.bind hF).imp fun ds hF vs H1 s1 d1=>by
  cases hg:g ds with
  | ok d =>
   rw [hg] at hF
   refine⟨E0,y8,O,ds,by rw [<- d1.length]; exact hn ds (by rw [hg]; intro z; cases z),E.all.same s1,d1,?_⟩
   rw [hg]
   exact fun v H2 s2 d2=>hF v H2 (s1.trans s2) d2
  | error z =>
   rw [hg] at hF
   cases z with
   | none=>exact hF.elim
   | some x =>
    refine⟨zm X O H1 x,zS (Hx.mono hF s1),O,ds,by rw [<- d1.length]; exact hn ds (by rw [hg]; intro z; cases z),E.all.same s1,d1,?_⟩
    rw [hg]
    exact wY⟩
end
def Callee (P:Qq) (w:Qp) (K:Pj) (mg:Str->Option Qo) (base:Qt) (k:Nat) (x:Str) (ps:List Str) (g:List D->R D):Prop :=
 ∃ f fd,jp P w K mg base (oV P w) k f fd ps (Bx K ps.length g)/\Binds K fd ps []/\Py K (.ref f)=true/\mg x=some (.ref f)
def Ar (n:Nat) (g:List D->R D):Prop:=∀ ds,g ds≠un->ds.length=n
theorem HC {X:Cx} {k k':Nat} {ps:List Str} {g:List D->R D} {h:au->R (List D)} {x:Str} {p pos:Pos} {e:QB} {es:List QB}
  (C:Callee X.prog X.w X.K X.mg X.base k x ps g) (hn:Ar ps.length g) (hr:fZ k' X.A) (hk:k<=k') (ha:FA X (e::es) h) (hg:Gl X x:=by rfl)
  (hdb:(x==("__debug__":Str))=false:=by decide) (hns:(e::es).all noStar=true:=by rfl) :
  FE X (.Call (.Name x p) (e::es) [] pos) (fR g h):=by
 obtain⟨f,fd,F,b,kp,m⟩:=C
 exact PE.weak (Bz F (hr.mono hk) hg m kp b ha hdb (dE (Ng _ _ ▸ hns).1) (ic (Ng _ _ ▸ hns).2)) (Bp hn)
def K0:Ks:={ nx:=fun _=>.ok .non }
def env0 (n:Nat) (ds:List D):au:=ds.map (fun d=>some (.val d))++List.replicate (n - ds.length) none
def aF (B:cB) (np n:Nat):List D->R D:=fun ds=>if ds.length=np then B K0 (env0 n ds) else un
theorem aP {B:cB} {np n:Nat}:Ar np (aF B np n):=fun ds h=>by
 unfold aF at h
 split at h
 ·assumption
 ·exact absurd rfl h
theorem lR {n:Nat} {ds:List D} (i:Nat) (x:S) (e:(env0 n ds)[i]?=some (some x)):∃ d,ds[i]?=some d/\x=.val d:=by
 unfold env0 at e
 by_cases hi:i < ds.length
 ·rw [M7 (by rw [MY]; exact hi),M8,NE hi] at e
  have e':some (S.val ds[i])=some x:=Option.some.inj e
  exact⟨ds[i],by rw [NE hi],(Option.some.inj e').symm⟩
 ·rw [M5 (by rw [MY]; omega),MY,M6] at e
  split at e
  ·cases e
  ·cases e
theorem yH {K:Pj} {O:List Qr} {H:Hp} {N:List Str} {ds:List D} {vs:List V} (hO:eF H O) (h:aY K (hid H O) ds vs):dQ K O H (env0 N.length ds) (L2.start N vs):=by
 refine⟨fun i d e=>?_,fun i xs e=>?_,fun i j xs ys a e=>?_,hO⟩
 ·obtain⟨d',e1,e2⟩:=lR i _ e
  cases e2
  obtain⟨v,e3,e4⟩:=h.get e1
  refine⟨v,?_,e4⟩
  unfold L2.start
  have hi:i < vs.length:=(List.getElem?_eq_some_iff.mp e3).1
  rw [M7 (by rw [MY]; exact hi),M8,e3]; rfl
 ·obtain⟨d',_,e2⟩:=lR i _ e
  cases e2
 ·obtain⟨d',_,e2⟩:=lR i _ e
  cases e2
section
variable {P:Qq} {w:Qp} {K:Pj} {mg:Str->Option Qo} {base:Qt}
structure BodyOk (P:Qq) (w:Qp) (K:Pj) (mg:Str->Option Qo) (base:Qt) (k:Nat) (N:List Str) (qual:Str) (st:QD) (f:Qr) (B:cB):Prop where
 h:∀ (cdv:Qo) (A:Qx) (outer:List Env) (s:Qy) (H:Hp) (E:XK),fZ k (A.deeper (Qb qual (aB st) s.heap.objs.size f cdv))->QK (model P w) (A.deeper (Qb qual (aB st) s.heap.objs.size f cdv)) (Qb qual (aB st) s.heap.objs.size f cdv) (lu (oV P w) P w K mg base N qual (aB st) f cdv A outer s H E).xe ->
  yu (lu (oV P w) P w K mg base N qual (aB st) f cdv A outer s H E) (fP st) B
theorem LQ {x qual:Str} {st:QD} {f:Qr} {fd:QY} {N ps:List Str} {k:Nat} {sp:Sp} {CX:xJ} (F:vC K x qual st f fd) (S:bc N ps (aB st)) (len:∀ vs H Q E,sp vs H Q E->vs.length=ps.length)
  (hbody:∀ (cdv:Qo) (A:Qx) (outer:List Env) (s:Qy) (H:Hp) (vs:List V) (Q:VK) (E:XK),fZ k (A.deeper (Qb qual (aB st) s.heap.objs.size f cdv))->sp vs H Q E ->
   ∃ t,xi (lu CX P w K mg base N qual (aB st) f cdv A outer s H E) (fP st) t/\t { nx:=fun _ H'=>Q .non H',rt:=Q } (L2.start N vs) H):jp P w K mg base CX (k+1) f fd ps sp:=by
 obtain⟨oc,od,kV,doc,pm,an,cdv,ct,osl,rfl,lk,hcd⟩:=F.ex
 exact E7 lk hcd S len fun A outer s H vs Q E hr hsp=>hbody cdv A outer s H vs Q E hr hsp
theorem jp.any {CX:xJ} {k:Nat} {f:Qr} {fd:QY} {ps:List Str} {sp:Sp} (F:jp P w K mg base Jx k f fd ps sp):jp P w K mg base CX k f fd ps sp :=
 ⟨F.len,fun A outer s H args us vs Q E hr he hb hv hs=>Q0 (F.run A outer s H args us vs Q E hr he hb hv hs) fun r s' h=>by
  cases r with
  | error e=>exact False.elim h
  | ok fl=>cases fl <;> exact h⟩
theorem uK {x qual:Str} {st:QD} {f:Qr} {fd:QY} {N ps:List Str} {k:Nat} {B:cB} (F:vC K x qual st f fd) (SC:bc N ps (aB st)) (hb:BodyOk P w K mg base k N qual st f B) :
  jp P w K mg base (oV P w) (k+1) f fd ps (Bx K ps.length (aF B ps.length N.length)):=by
 refine LQ F SC (fun vs H Q E h=>?_) fun cdv A outer s H vs Q E hr h=>?_
 ·obtain⟨O,ds,h1,_⟩:=h
  exact h1
 ·obtain⟨O,ds,h1,h2,h3,h4⟩:=h
  have hl:ds.length=ps.length:=h3.length.trans h1
  have e4:aF B ps.length N.length ds=B K0 (env0 N.length ds):=by unfold aF; rw [if_pos hl]
  rw [e4] at h4
  refine⟨_,hb.h cdv A outer s H E hr PassesOwn.leaving H O,O,env0 N.length ds,K0,_,⟨yH h2 h3,⟨bm.refl H,fun _ z=>z,fun a z=>.inl z⟩,fun i xs a e=>?_,fun i d e=>by obtain⟨d',_,e2⟩:=lR i _ e; cases e2⟩,rfl,?_⟩
  ·obtain⟨d',_,e2⟩:=lR i _ e
   cases e2
  ·generalize B K0 (env0 N.length ds)=r at h4
   refine⟨fun z=>by rw [z] at h4; exact h4,fun O' ρ' σ' H' S e=>?_,fun O' ρ' σ' H' S e=>?_,fun O' ρ' σ' H' S e=>?_,fun d O' v H' e b dv=>?_,fun O' ρ' σ' H' x S e=>?_⟩
   ·have e:(.ok .non:R D)=r:=e
    subst e
    exact h4 .non H' S.base.same (j5.mpr rfl)
   ·have e:(un:R D)=r:=e
    subst e
    exact h4.elim
   ·have e:(un:R D)=r:=e
    subst e
    exact h4.elim
   ·subst e
    exact h4 v H' b.same (dv.mono (iT b.sub))
   ·have e:(.error (some x):R D)=r:=e
    subst e
    exact Gp h4 S.base.same S.base.sub
theorem bE {x qual:Str} {st:QD} {f:Qr} {fd:QY} {N ps:List Str} {k:Nat} {B:cB} (F:vC K x qual st f fd) (b:Binds K fd ps []) (m:mg x=some (.ref f)) (SC:bc N ps (aB st)) (hb:BodyOk P w K mg base k N qual st f B) :
  Callee P w K mg base (k+1) x ps (aF B ps.length N.length):=⟨f,fd,uK F SC hb,b,F.kp,m⟩
theorem eI {x qual:Str} {st:QD} {f:Qr} {fd:QY} {ps:List Str} (k:Nat) (F:vC K x qual st f fd) (b:Binds K fd ps []) (m:mg x=some (.ref f)):Callee P w K mg base k x ps (fun _=>un):=by
 have no:∀ vs H Q E,¬ Bx K ps.length (fun _=>un) vs H Q E:=fun vs H Q E ⟨O,ds,_,_,_,e⟩=>e
 exact⟨f,fd,⟨fun vs H Q E h=>absurd h (no vs H Q E),fun A outer s H args us vs Q E _ _ _ _ h=>absurd h (no vs H Q E)⟩,b,F.kp,m⟩
end
theorem qv {K:Pj} {T:String} (h1:PJ K (.type "NoneType") (.type T)=some (T == "NoneType")) (h2:PJ K (.type "bool") (.type T)=some (T == "bool" || T == "int")) (h3:PJ K (.type "int") (.type T)=some (T == "int")) (h4:PJ K (.type "str") (.type T)=some (T == "str"))
  (h5:PJ K (.type "tuple") (.type T)=some (T == "tuple")) (h6:PJ K (.type "list") (.type T)=some (T == "list")):wD K T:=fun d hd=>by
 cases d with
 | dct _ _=>cases hd
 | obj _ _ _=>cases hd
 | exc _ _ _=>cases hd
 | non=>exact h1
 | bl _=>exact h2
 | int _=>exact h3
 | str _=>exact h4
 | tup _=>exact h5
 | lst _=>exact h6
theorem rS {K:Pj}:wD K "int":=qv rfl rfl rfl rfl rfl rfl
theorem jS {K:Pj}:wD K "bool":=qv rfl rfl rfl rfl rfl rfl
theorem rC {K:Pj}:wD K "str":=qv rfl rfl rfl rfl rfl rfl
theorem xU {K:Pj}:wD K "tuple":=qv rfl rfl rfl rfl rfl rfl
end TG
namespace TG
open PySem PySem.Spec L2
variable [aR]

section
variable {X:Cx} {a b c:QB} {fa fb fc:FX} {pos:Pos}
theorem FY {r:V->Hp->VK->Prop} {g:D->Option D} (s:EA X.K r g):∀ σ H Q,tF X (f1 g fa) σ H Q->Mf r (tF X fa) σ H Q:=fun σ H Q ⟨O,ρ,E,hF⟩=>⟨O,ρ,E,(ir.bind hF).imp fun a hF x H1 s1 d1=>by
 obtain⟨d,e,q⟩:=ir.rO hF
 exact s a d x O H1 Q (E.all.same s1) e d1 fun v H2 s2 d2=>q v H2 (s1.trans s2) d2⟩
def rq (g g':D->D->Option D) (fa fb fc:FX):FX:=fun ρ=>(fa ρ).bind fun x=>(fb ρ).bind fun y=>(rO (g x y)).bind fun z=>yG z ((fc ρ).bind fun w=>rO (g' y w))
theorem A7 {r r':R2} {g g':D->D->Option D} (s:de X.K r g) (s':de X.K r' g'):∀ σ H Q,tF X (rq g g' fa fb fc) σ H Q->Ca r r' (tF X fa) (tF X fb) (tF X fc) σ H Q:=fun σ H Q ⟨O,ρ,E,hF⟩ =>
 ⟨O,ρ,E,(ir.bind hF).imp fun x hF v1 H1 s1 d1=>⟨O,ρ,E.same s1,((ir.bind hF).mono s1).imp fun y hF v2 H2 s2 d2=>by
  obtain⟨z,e3,hF⟩:=ir.rO (ir.bind hF)
  refine s x y z v1 v2 O H2 _ (E.all.same (s1.trans s2)) e3 (d1.mono (bV s2)) d2 fun v3 H3 s3 d3=>?_
  cases z with
  | bl k =>
   refine⟨k,lh.mp d3,?_⟩
   cases k with
   | false=>exact Af (hF _ H3 ((s1.trans s2).trans s3) (lh.mpr rfl))
   | true =>
    refine AU ⟨O,ρ,E.same ((s1.trans s2).trans s3),((ir.bind (show ir X σ O H ((fc ρ).bind fun w=>rO (g' y w)) _ from hF)).mono ((s1.trans s2).trans s3)).imp fun w hF v4 H4 s4 d4=>?_⟩
    obtain⟨d,e5,q⟩:=ir.rO hF
    exact s' y w d v2 v4 O H4 Q (E.all.same (((s1.trans s2).trans s3).trans s4)) e5 (d2.mono (bV (s3.trans s4))) d4 fun v5 H5 s5 d5=>q v5 H5 ((((s1.trans s2).trans s3).trans s4).trans s5) d5
  | _=>exact hF.elim⟩⟩
theorem IM {op op':QP} {r r':R2} {g g':D->D->Option D} (ho:jr X (QO op) r) (s:de X.K r g) (ho':jr X (QO op') r') (s':de X.K r' g') (ha:FE X a fa) (hb:FE X b fb) (hc:FE X c fc)
  (hm:lastMarks [op,op'] [b,c]=false:=by with_unfolding_all rfl):FT X (.Compare a [op,op'] [b,c] pos) (fB (rq g g' fa fb fc)):=PT.weak (CN ho ho' ha hb hc hm) (wM (A7 s s'))
def G0:D->Option D
 | .int i=>some (.int (-i))
 | _=>none
def EQ (f:FX):FX:=f1 G0 f
theorem Ld (ha:FE X a fa):FE X (.UnaryOp .USub a pos) (EQ fa):=PE.weak (Iq GW ha) (FY fun x d v O H Q _ e dv q=>by
 cases x with
 | int i=>cases e; exact⟨i,e8.mp dv,q _ H (bm.refl H) (e8.mpr rfl)⟩
 | _=>cases e)
theorem J2 {x:Str} {i:Int} (hg:Gl X x) (hm:∃ t,X.mg x=some (.int i t)) (hd:(x==("__debug__":Str))=false:=by decide):FE X (.Name x pos) (fC (.int i)):=by
 obtain⟨t,m⟩:=hm
 exact oj (EG (v:=.int i) hg m ⟨t,rfl⟩ hd) fun _ _=>e8.mpr rfl
def yi:List D->Option D
 | [.int i]=>if decide (i.natAbs.log2 < 1920) then some (.str (toString i)) else none
 | _=>none
theorem uv:dW X (.type "str") (xI X.K yi):=by
 intro pins s σ H xs us Q I r ⟨O,ds,d,hO,hd,hg,q⟩
 unfold yi at hg
 split at hg
 ·rename_i i
  obtain⟨h1,h2⟩:=bQ hg
  subst h2
  obtain⟨v,ev,h1'⟩:=hd.one
  exact vy pins s σ H xs us Q I r ⟨i,by rw [ev,e8.mp h1'],of_decide_eq_true h1,q _ H (bm.refl H) (eW.mpr rfl)⟩
 ·cases hg
def Cj:D->Option D
 | .str x=>if small x.length then some (.str (Txt.upper x)) else none
 | _=>none
def Gi (f:FX):FX:=f1 Cj f
def Hj:D->Option D
 | .lst xs=>some (.lst xs.reverse)
 | .tup xs=>some (.tup xs.reverse)
 | _=>none
def L1 (f:FX):FX:=f1 Hj f
end

end TG
namespace ZI
open PySem PySem.Spec PyProof.Rows
section
variable {prog:Qq} {w:Qp} {A:Qx} {E:Qo->Qy->Prop} {s:Qy}
theorem xL {it t:Qr} {i:Nat} {its:Array Qo} {x:Qo} {Q:Qo->Qy->Prop} (hit:s.heap.IsTupleIter it t i) (ht:s.heap.IsTuple t its) (hx:its[i]?=some x)
  (hQ:∀ g,g.IsTupleIter it t (i+1)->PY it s.heap g->Q x { s with heap:=g }):QA (model prog w) A (Builtin.SmallTypes.nextOf (.ref it)) Q E s:=by
 obtain⟨ob,h1,h2,h3⟩:=id hit
 obtain⟨ol,g1,_,n,g2⟩:=ht
 unfold Builtin.SmallTypes.nextOf
 refine QI (Ra (name:=Str.ofString "__next__") hit.typeIs F.slot_tuple_iterator_next (Rb F.slot_tuple_iterator_next hit.typeIs F.entry_tuple_iterator_next ?_ (F.args_tuple_iterator_next_1 _)))
 show QA _ _ (field (.ref it) 0 >>= _) _ _ s; refine QI (Q8 h1 h3 (x:=.ref t) rfl ?_)
 show QA _ _ (if (Value.ref t==Value.none)=true then _ else _) _ _ s; rw [if_neg (show ¬ ((Value.ref t==Value.none)=true) from fun z=>MU z)]
 show QA _ _ (field (.ref it) 1 >>= _) _ _ s; refine QI (Q8 h1 h3 (x:=.int i 0) rfl ?_)
 show QA _ _ (seqItems? (.ref t) >>= _) _ _ s; refine QI (Rm g1 g2 ?_)
 simp only [Nc,hx]
 refine QI (Rn h1 h3 (by simp) (QH ⟨x,rfl,QH (hQ _ ⟨_,P6 _ h1 (Obj.isFreed_of_fields (Obj.data_mapFields h3 _)),(Obj.cls_mapFields ..).trans h2,by rw [Obj.data_mapFields h3]; simp [rawInt]⟩ (Heap.SameBut.update ..))⟩))
theorem Au {it t:Qr} {i:Nat} {its:Array Qo} {Q:Qo->Qy->Prop} (hh:A.handled=none) (hit:s.heap.IsTupleIter it t i) (ht:s.heap.IsTuple t its) (hx:its[i]?=none)
  (hE:∀ g e,P7 it s.heap g->(∃ o,g.get? e=some o/\o.cls=.type "StopIteration")->E (.ref e) { s with heap:=g }):QA (model prog w) A (Builtin.SmallTypes.nextOf (.ref it)) Q E s:=by
 obtain⟨ob,h1,h2,h3⟩:=id hit
 obtain⟨ol,g1,_,n,g2⟩:=ht
 unfold Builtin.SmallTypes.nextOf
 refine QI (Ra (name:=Str.ofString "__next__") hit.typeIs F.slot_tuple_iterator_next (Rb F.slot_tuple_iterator_next hit.typeIs F.entry_tuple_iterator_next ?_ (F.args_tuple_iterator_next_1 _)))
 show QA _ _ (field (.ref it) 0 >>= _) _ _ s; refine QI (Q8 h1 h3 (x:=.ref t) rfl ?_)
 show QA _ _ (if (Value.ref t==Value.none)=true then _ else _) _ _ s; rw [if_neg (show ¬ ((Value.ref t==Value.none)=true) from fun z=>MU z)]
 show QA _ _ (field (.ref it) 1 >>= _) _ _ s; refine QI (Q8 h1 h3 (x:=.int i 0) rfl ?_)
 show QA _ _ (seqItems? (.ref t) >>= _) _ _ s; refine QI (Rm g1 g2 ?_)
 simp only [Nc,hx]; refine QI (Ri (QI (Rn h1 h3 (by simp) ?_)))
 show QA _ _ (newExc (.type "StopIteration") [] >>= _) _ _ _; refine QI ?_
 simp only [newExc,newTuple]; refine QI (Rf ?_ (by size_fits))
 refine QI (m:=firstArgMember _ _) (Ro (a:=Value.none) (by first | rfl | (simp only [firstArgMember]; rfl)) ?_); refine Rf ?_ (by size_fits)
 simp only [raiseNew]; refine QI (Rp ?_)
 first | rw [show A.in1.handled=none from hh] | rw [hh]
 refine QI (QH (wpAny_throw ?_)); exact hE _ _ (((Heap.SameBut.update ..).extBut.push _).push _) ⟨_,P0 _ rfl,rfl⟩
end
theorem G3 {prog:Qq} {w:Qp} {A:Qx} (hh:A.handled=none) (it t:Qr) (hne:t≠it) (its:Array Qo):Draws prog w A it [it,t] its.size (fun i v=>its[i]?=some v) (fun i h=>h.IsTupleIter it t i/\h.IsTuple t its) where
 live:=fun i h ⟨⟨o,e,_⟩,_⟩=>⟨o,e⟩
 frame:=fun i h h' ⟨x,y⟩ k=>⟨x.at fun o e=>k it (by simp) o e,let ⟨o,e,r⟩:=y; ⟨o,k t (by simp) o e,r⟩⟩
 item:=fun i s Q E hi ⟨x,y⟩ hQ=>xL x y (Array.getElem?_eq_getElem hi) fun g hg hs=>hQ _ g s.toks (Array.getElem?_eq_getElem hi) ⟨hg,let ⟨o,e,r⟩:=y; ⟨o,(hs.2 t hne).trans e,r⟩⟩ hs
 done:=fun s Q E ⟨x,y⟩ hE=>Au hh x y (by simp) hE

structure Apart (z TI TO i1 i2:Qr) (fp1 fp2:List Qr):Prop where
 a1:TI≠z
 a2:TO≠z
 a3:TI≠TO
 b1:z∉fp1
 b2:TO∉fp1
 b3:i2∉fp1
 c1:z∉fp2
 c2:TO∉fp2
 c3:i1∉fp2
 d1:TI≠i1
 d2:TI≠i2
 e1:i1∈fp1
 e2:i2∈fp2
section
variable {prog:Qq} {w:Qp} {A:Qx} {E:Qo->Qy->Prop} {s:Qy} {z TI TO i1 i2:Qr} {fp1 fp2:List Qr} {n1 n2 i:Nat} {P1 P2:Nat->Qo->Prop} {S1 S2:Nat->Qt->Prop} {a b:Qo}
theorem next_item {Q:Qo->Qy->Prop} (Ap:Apart z TI TO i1 i2 fp1 fp2) (D1:Draws prog w A i1 fp1 n1 P1 S1) (D2:Draws prog w A i2 fp2 n2 P2 S2) (hz:Rq s.heap z TI TO .none) (hTI:Rr s.heap TI (.ref i1) (.ref i2)) (hTO:Rr s.heap TO a b) (st1:S1 i s.heap) (st2:S2 i s.heap) (l1:i < n1) (l2:i < n2)
  (hQ:∀ x y g tk,P1 i x->P2 i y->Rq g z TI TO (rawInt s.heap.objs.size)->Rr g TO x y->S1 (i+1) g->S2 (i+1) g->Rr g s.heap.objs.size x y->g.objs.size=s.heap.objs.size+1 ->
   (∀ c o,c≠z->c≠TO->c≠i1->c≠i2->s.heap.get? c=some o->g.get? c=some o)->Q (.ref s.heap.objs.size) { s with heap:=g,toks:=tk }) :
  QA (model prog w) A (Builtin.«zip.__next__» ⟨[.ref z],[]⟩) (fun fin s'=>∃ v,fin=.done (.ret v)/\Q v s') E s:=by
 have n1z:i1≠z:=fun e=>Ap.b1 (e ▸ Ap.e1)
 have n2z:i2≠z:=fun e=>Ap.c1 (e ▸ Ap.e2)
 have n1T:i1≠TO:=fun e=>Ap.b2 (e ▸ Ap.e1)
 have n2T:i2≠TO:=fun e=>Ap.c2 (e ▸ Ap.e2)
 show QA _ _ (field (.ref z) 2 >>= _) _ _ _; refine QI (Q8 hz rfl (x:=.bool false) rfl ?_)
 show QA _ _ (field (.ref z) 3 >>= _) _ _ _; refine QI (Q8 hz rfl (x:=.ref TI) rfl ?_); refine QI (Rm hTI rfl ?_)
 show QA _ _ (Builtin.SmallTypes.ownedTupleIsFree (.ref z) >>= _) _ _ _; refine QI ?_
 unfold Builtin.SmallTypes.ownedTupleIsFree; refine QI (Q8 hz rfl (x:=.none) rfl (QH ?_))
 simp only [if_true]; refine QI (Ri ?_); refine QI (Q8 hz rfl (x:=.ref TO) rfl ?_)
 refine QI (Rt hz (by simp) fun g1 hz1 k1=>?_)
 have hz1:Rq g1 z TI TO .ellipsis:=hz1
 refine QI ?_; simp only [List.zipIdx_cons,List.zipIdx_nil,Nu,List.forIn_nil]
 refine QI (QI (Ru ?_)); show QA _ _ (Builtin.SmallTypes.nextOf (.ref i1) >>= _) _ _ _
 have q1:S1 i g1:=D1.frame _ _ _ st1 fun b hb o e=>k1.extBut _ _ (fun z'=>Ap.b1 (z' ▸ hb)) e
 refine QI (D1.item i { s with heap:=g1 } _ _ l1 q1 fun x g2 tk2 p1 q2 k2=>QH ?_)
 have t2:Rr g2 TO a b:=k2.extBut _ _ n1T.symm (k1.extBut _ _ Ap.a2 hTO)
 refine QI (Rm t2 rfl ?_); refine QI (Rv t2 fun g3 t3 k3=>?_)
 have t3:Rr g3 TO x b:=t3
 refine QI (Rw (QH ?_)); refine QI (QI (Ru ?_)); show QA _ _ (Builtin.SmallTypes.nextOf (.ref i2) >>= _) _ _ _
 have q3:S2 i g3:=D2.frame _ _ _ st2 fun b hb o e=>k3.extBut _ _ (fun z'=>Ap.c2 (z' ▸ hb)) (k2.extBut _ _ (fun z'=>Ap.c3 (z' ▸ hb)) (k1.extBut _ _ (fun z'=>Ap.c1 (z' ▸ hb)) e))
 refine QI (D2.item i { s with heap:=g3,toks:=tk2 } _ _ l2 q3 fun y g4 tk4 p2 q4 k4=>QH ?_)
 have t4:Rr g4 TO x b:=k4.extBut _ _ n2T.symm t3
 refine QI (Rm t4 rfl ?_); refine QI (Rv t4 fun g5 t5 k5=>?_)
 have t5:Rr g5 TO x y:=t5
 refine QI (Rw (QH (QH ?_))); refine QI (Rm t5 rfl ?_); refine QI (Rx ?_)
 have hsz:g5.objs.size=s.heap.objs.size:=by rw [k5.1,k4.1,k3.1,k2.1,k1.1]
 have hz5:Rq g5 z TI TO .ellipsis:=k5.extBut _ _ Ap.a2.symm (k4.extBut _ _ n2z.symm (k3.extBut _ _ Ap.a2.symm (k2.extBut _ _ n1z.symm hz1)))
 have k15:∀ c o,c≠z->c≠TO->c≠i1->c≠i2->s.heap.get? c=some o->g5.get? c=some o:=fun c o c1 c2 c3 c4 e=>k5.extBut _ _ c2 (k4.extBut _ _ c4 (k3.extBut _ _ c2 (k2.extBut _ _ c3 (k1.extBut _ _ c1 e))))
 have r1:S1 (i+1) g5:=D1.frame _ _ _ q2 fun b hb o e=>k5.extBut _ _ (fun z'=>Ap.b2 (z' ▸ hb)) (k4.extBut _ _ (fun z'=>Ap.b3 (z' ▸ hb)) (k3.extBut _ _ (fun z'=>Ap.b2 (z' ▸ hb)) e))
 have r2:S2 (i+1) g5:=D2.frame _ _ _ q4 fun b hb o e=>k5.extBut _ _ (fun z'=>Ap.c2 (z' ▸ hb)) e
 have lz:z < g5.objs.size:=PV hz5
 show QA _ _ (Builtin.SmallTypes.ownedTupleHandOut (.ref z) (.ref g5.objs.size) >>= _) _ _ _; refine QI ?_
 unfold Builtin.SmallTypes.ownedTupleHandOut
 have hz6:Rq (g5.push { cls:=.type "tuple",data:=.seq #[x,y] }) z TI TO .ellipsis:=PZ _ hz5
 refine QI (Rt hz6 (by simp) fun g7 hz7 k7=>?_)
 have hz7:Rq g7 z TI TO (rawInt g5.objs.size):=hz7
 refine Rt hz7 (by simp) fun g8 hz8 k8=>?_
 have hz8:Rq g8 z TI TO (rawInt g5.objs.size):=hz8
 have up:∀ c o,c≠z->g5.get? c=some o->g8.get? c=some o:=fun c o c1 e=>k8.extBut _ _ c1 (k7.extBut _ _ c1 (PZ _ e))
 have t8:Rr g8 g5.objs.size x y:=k8.extBut _ _ (MO lz) (k7.extBut _ _ (MO lz) (P0 _ rfl))
 have s8:g8.objs.size=g5.objs.size+1:=by rw [k8.1,k7.1,P4]
 rw [hsz] at hz8 t8 s8
 refine QH ⟨_,rfl,?_⟩
 show Q (.ref g5.objs.size) _
 rw [hsz]
 exact hQ x y g8 tk4 p1 p2 hz8 (up _ _ Ap.a2 t5) (D1.frame _ _ _ r1 fun b hb o e=>up b o (fun z'=>Ap.b1 (z' ▸ hb)) e) (D2.frame _ _ _ r2 fun b hb o e=>up b o (fun z'=>Ap.c1 (z' ▸ hb)) e) t8 s8 fun c o c1 c2 c3 c4 e=>up c o c1 (k15 c o c1 c2 c3 c4 e)
theorem next_end {Q:Fin->Qy->Prop} (Ap:Apart z TI TO i1 i2 fp1 fp2) (D1:Draws prog w A i1 fp1 n1 P1 S1) (D2:Draws prog w A i2 fp2 n2 P2 S2) (hz:Rq s.heap z TI TO .none) (hTI:Rr s.heap TI (.ref i1) (.ref i2)) (hTO:Rr s.heap TO a b) (st1:S1 i s.heap) (st2:S2 i s.heap) (hend:i=n1\/(i < n1/\i=n2))
  (hE:∀ g e tk,(∀ c o,c≠z->c≠TO->c≠i1->c≠i2->s.heap.get? c=some o->g.get? c=some o)->(∃ o,g.get? e=some o/\o.cls=.type "StopIteration")->E (.ref e) { s with heap:=g,toks:=tk }) :
  QA (model prog w) A (Builtin.«zip.__next__» ⟨[.ref z],[]⟩) Q E s:=by
 have n1z:i1≠z:=fun e=>Ap.b1 (e ▸ Ap.e1)
 have n2z:i2≠z:=fun e=>Ap.c1 (e ▸ Ap.e2)
 have n1T:i1≠TO:=fun e=>Ap.b2 (e ▸ Ap.e1)
 show QA _ _ (field (.ref z) 2 >>= _) _ _ _; refine QI (Q8 hz rfl (x:=.bool false) rfl ?_)
 show QA _ _ (field (.ref z) 3 >>= _) _ _ _; refine QI (Q8 hz rfl (x:=.ref TI) rfl ?_); refine QI (Rm hTI rfl ?_)
 show QA _ _ (Builtin.SmallTypes.ownedTupleIsFree (.ref z) >>= _) _ _ _; refine QI ?_
 unfold Builtin.SmallTypes.ownedTupleIsFree; refine QI (Q8 hz rfl (x:=.none) rfl (QH ?_))
 simp only [if_true]; refine QI (Ri ?_); refine QI (Q8 hz rfl (x:=.ref TO) rfl ?_)
 refine QI (Rt hz (by simp) fun g1 hz1 k1=>?_)
 have hz1:Rq g1 z TI TO .ellipsis:=hz1
 refine QI ?_; simp only [List.zipIdx_cons,List.zipIdx_nil,Nu,List.forIn_nil]
 refine QI (QI (Ru ?_)); show QA _ _ (Builtin.SmallTypes.nextOf (.ref i1) >>= _) _ _ _
 have q1:S1 i g1:=D1.frame _ _ _ st1 fun b hb o e=>k1.extBut _ _ (fun z'=>Ap.b1 (z' ▸ hb)) e
 rcases hend with hend | ⟨l1,hend⟩
 ·subst hend
  refine QI (D1.done { s with heap:=g1 } _ _ q1 fun g2 e k2 he=>?_)
  obtain⟨oe,hoe,hce⟩:=he
  have hz2:Rq g2 z TI TO .ellipsis:=k2 _ _ n1z.symm hz1
  have hez:e≠z:=fun x=>by rw [x,hz2] at hoe; cases hoe; simp at hce
  exact Rt hz2 (by simp) fun g3 _ k3=>hE g3 e s.toks (fun c o c1 _ c3 _ x=>k3.extBut _ _ c1 (k2 _ _ c3 (k1.extBut _ _ c1 x))) ⟨oe,k3.extBut _ _ hez hoe,hce⟩
 ·refine QI (D1.item i { s with heap:=g1 } _ _ l1 q1 fun x g2 tk2 p1 q2 k2=>QH ?_)
  have t2:Rr g2 TO a b:=k2.extBut _ _ n1T.symm (k1.extBut _ _ Ap.a2 hTO)
  refine QI (Rm t2 rfl ?_); refine QI (Rv t2 fun g3 t3 k3=>?_)
  refine QI (Rw (QH ?_)); refine QI (QI (Ru ?_)); show QA _ _ (Builtin.SmallTypes.nextOf (.ref i2) >>= _) _ _ _
  have q3:S2 i g3:=D2.frame _ _ _ st2 fun b hb o e=>k3.extBut _ _ (fun z'=>Ap.c2 (z' ▸ hb)) (k2.extBut _ _ (fun z'=>Ap.c3 (z' ▸ hb)) (k1.extBut _ _ (fun z'=>Ap.c1 (z' ▸ hb)) e))
  subst hend
  refine QI (D2.done { s with heap:=g3,toks:=tk2 } _ _ q3 fun g4 e k4 he=>?_)
  obtain⟨oe,hoe,hce⟩:=he
  have hz4:Rq g4 z TI TO .ellipsis:=k4 _ _ n2z.symm (k3.extBut _ _ Ap.a2.symm (k2.extBut _ _ n1z.symm hz1))
  have hez:e≠z:=fun x=>by rw [x,hz4] at hoe; cases hoe; simp at hce
  exact Rt hz4 (by simp) fun g5 _ k5=>hE g5 e tk2 (fun c o c1 c2 c3 c4 x=>k5.extBut _ _ c1 (k4 _ _ c4 (k3.extBut _ _ c2 (k2.extBut _ _ c3 (k1.extBut _ _ c1 x))))) ⟨oe,k5.extBut _ _ hez hoe,hce⟩
end
def SQ (b:Bool) (h:Qt) (l:Qr) (xs:Array Qo):Prop:=if b then h.IsList l xs else h.IsTuple l xs
def SI (b:Bool) (h:Qt) (i l:Qr) (k:Nat):Prop:=if b then h.IsListIter i l k else h.IsTupleIter i l k
def Js (b:Bool):String:=if b then "list_iterator" else "tuple_iterator"
theorem SQ.keep {b:Bool} {h h':Qt} {l:Qr} {xs:Array Qo} (x:SQ b h l xs) (k:∀ o,h.get? l=some o->h'.get? l=some o):SQ b h' l xs:=by
 cases b with
 | true=>exact Heap.IsList.at x k
 | false=>obtain⟨o,e,r⟩:=(show h.IsTuple l xs from x); exact(show h'.IsTuple l xs from ⟨o,k o e,r⟩)
theorem SI.keep {b:Bool} {h h':Qt} {i l:Qr} {n:Nat} (x:SI b h i l n) (k:∀ o,h.get? i=some o->h'.get? i=some o):SI b h' i l n:=by
 cases b with
 | true=>exact Heap.IsListIter.at x k
 | false=>exact Heap.IsTupleIter.at x k
theorem SQ.lt {b:Bool} {h:Qt} {l:Qr} {xs:Array Qo} (x:SQ b h l xs):l < h.objs.size:=by
 cases b with
 | true=>obtain⟨o,e,_⟩:=(show h.IsList l xs from x); exact PV e
 | false=>obtain⟨o,e,_⟩:=(show h.IsTuple l xs from x); exact PV e
theorem SI.get {b:Bool} {h:Qt} {i l:Qr} {n:Nat} (x:SI b h i l n):∃ o,h.get? i=some o/\∀ v,o.data≠.cell v:=by
 cases b with
 | true=>obtain⟨o,e,_,d⟩:=(show h.IsListIter i l n from x); exact⟨o,e,fun v z=>by rw [d] at z; cases z⟩
 | false=>obtain⟨o,e,_,d⟩:=(show h.IsTupleIter i l n from x); exact⟨o,e,fun v z=>by rw [d] at z; cases z⟩
theorem SI.new {b:Bool} {h:Qt} {l:Qr}:SI b (h.push { cls:=.type (Js b),data:=.fields #[.ref l,.int 0 0] }) h.objs.size l 0:=by
 cases b with
 | true=>exact⟨_,P0 _ rfl,rfl,rfl⟩
 | false=>exact⟨_,P0 _ rfl,rfl,rfl⟩
theorem Cz {b:Bool} {prog:Qq} {w:Qp} {A:Qx} {E:Qo->Qy->Prop} {s:Qy} {l:Qr} {xs:Array Qo} {Q:Qo->Qy->Prop} (h:SQ b s.heap l xs)
  (hQ:Q (.ref s.heap.objs.size) { s with heap:=s.heap.push { cls:=.type (Js b),data:=.fields #[.ref l,.int 0 0] } }):QA (model prog w) A (pyIter (.ref l)) Q E s:=by
 cases b with
 | true=>exact QJ h hQ
 | false=>exact wpAny_pyIter_tuple h hQ
theorem qy {prog:Qq} {w:Qp} {A:Qx} (b:Bool) (hh:A.handled=none) (it l:Qr) (hne:l≠it) (its:Array Qo):Draws prog w A it [it,l] its.size (fun i v=>its[i]?=some v) (fun i h=>SI b h it l i/\SQ b h l its):=by
 cases b with
 | true=>exact Draws.list hh it l hne its
 | false=>exact G3 hh it l hne its
abbrev Gy (b1:Bool) (h:Qt) (l1:Qr):Qt:=h.push { cls:=.type (Js b1),data:=.fields #[.ref l1,.int 0 0] }
abbrev IY (b1 b2:Bool) (h:Qt) (l1 l2:Qr):Qt:=(Gy b1 h l1).push { cls:=.type (Js b2),data:=.fields #[.ref l2,.int 0 0] }
abbrev Ju (b1 b2:Bool) (h:Qt) (l1 l2:Qr):Qt:=(IY b1 b2 h l1 l2).push { cls:=.type "tuple",data:=.seq #[.ref h.objs.size,.ref (Gy b1 h l1).objs.size] }
abbrev JK (b1 b2:Bool) (h:Qt) (l1 l2:Qr):Qt:=(Ju b1 b2 h l1 l2).push { cls:=.type "tuple",data:=.seq #[.none,.none] }
abbrev Fc (b1 b2:Bool) (h:Qt) (l1 l2:Qr):Qt:=(JK b1 b2 h l1 l2).push { cls:=.type "zip",data:=.fields #[.none,.bool false,.bool false,.ref (IY b1 b2 h l1 l2).objs.size,.ref (Ju b1 b2 h l1 l2).objs.size] }
theorem Ce (b1 b2:Bool) (l1 l2:Qr) (xs ys:Array Qo):Meets (Builtin.«zip.__new__» ⟨[.type "zip",.ref l1,.ref l2],[]⟩) (fun _ R s=>SQ b1 s.heap l1 xs/\SQ b2 s.heap l2 ys/\R (.ok (.ret (.ref (JK b1 b2 s.heap l1 l2).objs.size))) { s with heap:=Fc b1 b2 s.heap l1 l2 }) :=
 .of_wp fun prog w A R s h=>by
  obtain⟨hp,g,d,tk,os⟩:=s
  obtain⟨q1,q2,h⟩:=h
  have hsub:=sub_zip
  have e1:SQ b1 (Shared.heap ⟨hp,g,d,tk,os⟩) l1 xs:=q1
  have e2:SQ b2 (Shared.heap ⟨Gy b1 hp l1,g,d,tk,os⟩) l2 ys:=q2.keep fun o e=>PZ _ e
  wp_walk using Cz e1,Cz e2
  exact⟨_,rfl,h⟩
theorem B1 {prog:Qq} {w:Qp} {A:Qx} {E:Qo->Qy->Prop} {s:Qy} {b1 b2:Bool} {l1 l2:Qr} {xs ys:Array Qo} {Q:Qo->Qy->Prop} (h1:SQ b1 s.heap l1 xs) (h2:SQ b2 s.heap l2 ys)
  (h:∀ g,Rq g (s.heap.objs.size+4) (s.heap.objs.size+2) (s.heap.objs.size+3) .none->Rr g (s.heap.objs.size+2) (.ref s.heap.objs.size) (.ref (s.heap.objs.size+1))->Rr g (s.heap.objs.size+3) .none .none->SI b1 g s.heap.objs.size l1 0->SI b2 g (s.heap.objs.size+1) l2 0 ->
   (∀ c o,s.heap.get? c=some o->g.get? c=some o)->Q (.ref (s.heap.objs.size+4)) { s with heap:=g }):QA (model prog w) A (call (.type "zip") [.ref l1,.ref l2]) Q E s:=by
 refine callType_new F.called_zip (by decide) (F.typeCall_zip_2 _ _) (F.newCall_zip_2 _ _) (fun obj=>F.args_object_init_3 obj _ _) F.entry_zip_new (Ce b1 b2 l1 l2 xs ys) ⟨h1,h2,?_⟩
 have z1:(Gy b1 s.heap l1).objs.size=s.heap.objs.size+1:=P4 ..
 have z2:(IY b1 b2 s.heap l1 l2).objs.size=s.heap.objs.size+2:=by rw [P4,z1]
 have z3:(Ju b1 b2 s.heap l1 l2).objs.size=s.heap.objs.size+3:=by rw [P4,z2]
 have z4:(JK b1 b2 s.heap l1 l2).objs.size=s.heap.objs.size+4:=by rw [P4,z3]
 have u1:∀ c o,(Gy b1 s.heap l1).get? c=some o->(Fc b1 b2 s.heap l1 l2).get? c=some o:=fun c o e=>PZ _ (PZ _ (PZ _ (PZ _ e)))
 have u2:∀ c o,(IY b1 b2 s.heap l1 l2).get? c=some o->(Fc b1 b2 s.heap l1 l2).get? c=some o:=fun c o e=>PZ _ (PZ _ (PZ _ e))
 have g5:(Fc b1 b2 s.heap l1 l2).get? (JK b1 b2 s.heap l1 l2).objs.size=some _:=P0 _ rfl
 have g4:(Fc b1 b2 s.heap l1 l2).get? (Ju b1 b2 s.heap l1 l2).objs.size=some _:=PZ _ (P0 _ rfl)
 have g3:(Fc b1 b2 s.heap l1 l2).get? (IY b1 b2 s.heap l1 l2).objs.size=some _:=PZ _ (PZ _ (P0 _ rfl))
 have g2:SI b2 (Fc b1 b2 s.heap l1 l2) (Gy b1 s.heap l1).objs.size l2 0:=SI.keep (SI.new (h:=Gy b1 s.heap l1)) fun o e=>u2 _ o e
 have g1:SI b1 (Fc b1 b2 s.heap l1 l2) s.heap.objs.size l1 0:=SI.keep SI.new fun o e=>u1 _ o e
 show _/\_
 rw [z2,z3,z4] at g5
 rw [z1,z2] at g3
 rw [z3] at g4
 rw [z1] at g2
 rw [z4]
 exact⟨⟨_,g5,rfl⟩,h _ g5 g3 g4 g1 g2 fun c o e=>u1 c o (PZ _ e)⟩
end ZI
namespace TG
open PySem PySem.Spec L2 ZI
variable [aR]
section
variable {X:Cx} {pins:List (Qr×Obj)} {σ:St} {H:Hp} {s:Qy} {h':Qt}
theorem Inv.turnedL {ch:List Qr} {p:Qr} {o:HO} {t':Nat} (I:Inv X pins σ H s) (hf:∀ b∈ch,sL X pins H b) (k:∀ b u,b∉ch->s.heap.get? b=some u->h'.get? b=some u) (hp:s.heap.objs.size<=p) (new:dm X.prog X.w (upd H p o) h' p o) :
  Inv X pins σ (upd H p o) { s with heap:=h',toks:=t' }:=by
 have hn:=I.hok.fresh hp
 have nch:∀ b u,H b=some u->b∉ch:=fun b u e z=>by rw [(hf b z).1] at e; cases e
 refine I.step (g':=s.gens) (d':=s.drawn) (ch:=ch) (fun b hb=>?_) (fun b o _ _ hc e _=>k b o hc e) (fun b o _ _ hc e _=>⟨o.slots,k b o hc e⟩) (fun b u _ q n=>by rw [aJ (MF (MD (PV q) hp))]; exact n)
  (fun b o hc e=>⟨o,k b o hc e⟩) (fun b xs q=>by rw [aJ (bg q hn)]; exact q) (fun b u xs q=>by rw [aJ (bg q hn)]; exact q) (fun b ps q=>⟨#[],by rw [aJ (bg q hn),q]; simp⟩) (fun m hm=>?_) (fun b u e=>?_) I.bare
 ·obtain⟨_,f1,_,f3,f4,f5⟩:=hf b hb
  exact⟨f3,f1,f4,f5⟩
 ·obtain⟨o,es,ep,ho,r⟩:=hm
  exact⟨o,es,ep,k _ o (fun z=>(hf _ z).2.1 rfl) ho,r⟩
 ·by_cases hb:b=p
  ·subst hb; rw [bb] at e; cases e; exact new
  ·rw [aJ hb] at e
   refine(I.hok b u e).stay (fun c v hc q=>k c v ?_ q) (fun c q=>by rw [aJ (bg q hn)]; exact q) fun c xs q=>by rw [aJ (bg q hn)]; exact q
   rcases hc with z | z
   ·rw [z]; exact nch b u e
   ·exact nch c _ z
theorem Inv.turned0 {ch:List Qr} {t':Nat} (I:Inv X pins σ H s) (hf:∀ b∈ch,sL X pins H b) (k:∀ b u,b∉ch->s.heap.get? b=some u->h'.get? b=some u):Inv X pins σ H { s with heap:=h',toks:=t' }:=by
 have nch:∀ b u,H b=some u->b∉ch:=fun b u e z=>by rw [(hf b z).1] at e; cases e
 refine I.step (g':=s.gens) (d':=s.drawn) (ch:=ch) (fun b hb=>?_) (fun b o _ _ hc e _=>k b o hc e) (fun b o _ _ hc e _=>⟨o.slots,k b o hc e⟩) (fun _ _ _ _ n=>n)
  (fun b o hc e=>⟨o,k b o hc e⟩) (fun _ _ e=>e) (fun _ _ _ e=>e) (fun b ps e=>⟨#[],by rw [e]; simp⟩) (fun m hm=>?_) (fun b u e=>?_) I.bare
 ·obtain⟨_,f1,_,f3,f4,f5⟩:=hf b hb
  exact⟨f3,f1,f4,f5⟩
 ·obtain⟨o,es,ep,ho,r⟩:=hm
  exact⟨o,es,ep,k _ o (fun z=>(hf _ z).2.1 rfl) ho,r⟩
 ·refine(I.hok b u e).stay (fun c v hc q=>k c v ?_ q) (fun _ q=>q) fun _ _ q=>q
  rcases hc with z | z
  ·rw [z]; exact nch b u e
  ·exact nch c _ z
end
def SX (K:Pj) (b:Bool) (H:Hp) (a:Qr) (xs:List V):Prop:=if b then oo K H a xs else p4 K H a xs
theorem SX.same {K:Pj} {b:Bool} {H H':Hp} {a:Qr} {xs:List V} (e:bm H H') (h:SX K b H a xs):SX K b H' a xs:=by
 cases b with
 | true=>exact e.seq (show oo K H a xs from h)
 | false=>exact A9 e (show p4 K H a xs from h)
section
variable {X:Cx} {pins:List (Qr×Obj)} {σ:St} {H:Hp} {s:Qy}
theorem Inv.sx (I:Inv X pins σ H s) {b:Bool} {a:Qr} {xs:List V} (h:SX X.K b H a xs):∃ its:List Qo,Vals xs its/\SQ b s.heap a its.toArray/\xs.length<=Qu:=by
 cases b with
 | true=>obtain⟨its,r,p,z⟩:=I.list (show oo X.K H a xs from h); exact⟨its,r,p.isList,z⟩
 | false=>obtain⟨its,r,p,z⟩:=I.tuple (show p4 X.K H a xs from h); exact⟨its,r,p,z⟩
theorem Inv.sx_inj (I:Inv X pins σ H s) {b:Bool} {a:Qr} {xs ys:List V} (h:SX X.K b H a xs) (h':SX X.K b H a ys):xs=ys:=by
 cases b with
 | true=>exact I.list_inj h h'
 | false=>exact I.tuple_inj h h'
end
def L8 (K:Pj) (b1 b2:Bool) (a1 a2:Qr):It :=
  ⟨fun i H=>∃ xs ys,SX K b1 H a1 xs/\SX K b2 H a2 ys/\i < xs.length/\i < ys.length,
   fun i H v H'=>∃ p x y,v=.ref p/\H p=none/\H'=upd H p (.tup [x,y])/\(∀ xs,SX K b1 H a1 xs->xs[i]?=some x)/\∀ ys,SX K b2 H a2 ys->ys[i]?=some y,
   fun i H=>∃ xs ys,SX K b1 H a1 xs/\SX K b2 H a2 ys/\(i=xs.length\/(i < xs.length/\i=ys.length))⟩
theorem B6 {P:Qq} {w:Qp} {K:Pj} {es:List QB} {k:Nat} {pos:Pos} {b1 b2:Bool} {a1 a2 z TI TO i1 i2:Qr} (Ap:Apart z TI TO i1 i2 [i1,a1] [i2,a2]) (n1:a1≠i1) (n2:a2≠i2) (n3:z≠i1) (n4:z≠i2):Turn P w K (.Tuple es k pos) (L8 K b1 b2 a1 a2) [z,TI,TO,i1,i2] z
  (fun i h=>Rq h z TI TO .none/\Rr h TI (.ref i1) (.ref i2)/\(∃ a b,Rr h TO a b)/\SI b1 h i1 a1 i/\SI b2 h i2 a2 i) where
 mem:=by simp
 obj:=fun i h ⟨hz,hI,⟨a,b,hO⟩,s1,s2⟩ c hc=>by
  simp only [N1,N2,or_false] at hc
  rcases hc with rfl | rfl | rfl | rfl | rfl
  ·exact⟨_,hz,fun v q=>by cases q⟩
  ·exact⟨_,hI,fun v q=>by cases q⟩
  ·exact⟨_,hO,fun v q=>by cases q⟩
  ·exact s1.get
  ·exact s2.get
 keep:=fun i h h' ⟨hz,hI,⟨a,b,hO⟩,s1,s2⟩ kp=>⟨kp z (by simp) _ hz,kp TI (by simp) _ hI,⟨a,b,kp TO (by simp) _ hO⟩,s1.keep fun o e=>kp i1 (by simp) o e,s2.keep fun o e=>kp i2 (by simp) o e⟩
 item:=by
  intro X hP hw hK hc i pins s σ H E I hf ⟨hz,hI,⟨a,b,hO⟩,s1,s2⟩ hg
  subst hP hw hK
  obtain⟨xs,ys,g1,g2,l1,l2⟩:=hg
  obtain⟨its1,r1,q1,z1⟩:=Inv.sx I g1
  obtain⟨its2,r2,q2,z2⟩:=Inv.sx I g2
  have hh:X.A.in1.handled=none:=I.ok.hd hc
  have hT:s.TypeIs (.ref z) "zip":=⟨_,hz,rfl⟩
  unfold pyNext
  refine QI (Ry (Ra (name:=Str.ofString "__next__") hT F.slot_zip_next (Rb F.slot_zip_next hT F.entry_zip_next
   (next_item Ap (qy (A:=X.A.in1) b1 hh i1 a1 n1 its1.toArray) (qy (A:=X.A.in1) b2 hh i2 a2 n2 its2.toArray) hz hI hO ⟨s1,q1⟩ ⟨s2,q2⟩ (by rw [MT,<- r1.length]; exact l1) (by rw [MT,<- r2.length]; exact l2) fun u v g tk p1 p2 hz' hO' t1 t2 hp sz kp=>?_) (F.args_zip_next_1 _))))
  have e1:its1[i]?=some u:=by simpa using p1
  have e2:its2[i]?=some v:=by simpa using p2
  have hx:∃ x,xs[i]?=some x/\RelV x u:=by
   obtain⟨u',hu,ru⟩:=r1.get (i:=i) (x:=xs[i]) (by simp [l1])
   rw [e1] at hu; cases hu
   exact⟨xs[i],by simp [l1],ru⟩
  have hy:∃ y,ys[i]?=some y/\RelV y v:=by
   obtain⟨u',hu,ru⟩:=r2.get (i:=i) (x:=ys[i]) (by simp [l2])
   rw [e2] at hu; cases hu
   exact⟨ys[i],by simp [l2],ru⟩
  obtain⟨x,ex,rx⟩:=hx
  obtain⟨y,ey,ry⟩:=hy
  refine QH ⟨_,rfl,?_⟩
  refine wpAny_letOwnedTupleGo_zip hz' fun g' hz2 sb=>?_
  have hpz:s.heap.objs.size≠z:=MO (PV hz)
  have hp':Rr g' s.heap.objs.size u v:=sb.extBut _ _ hpz hp
  have I':Inv X pins σ (upd H s.heap.objs.size (.tup [x,y])) { s with heap:=g',toks:=tk }:=Inv.turnedL (ch:=[z,TI,TO,i1,i2]) I hf (fun c o hc e=>by
   simp only [N1,N2,or_false,not_or] at hc
   exact sb.extBut _ _ hc.1 (kp c o hc.1 hc.2.2.1 hc.2.2.2.1 hc.2.2.2.2 e)) (MP _) ⟨by show 2<=Qu; decide,[u,v],.cons rx (.cons ry .nil),_,hp',rfl,_,rfl⟩
  have fr:H s.heap.objs.size=none:=I.fresh
  have ne:∀ c∈[z,TI,TO,i1,i2],c≠s.heap.objs.size:=fun c hc e=>by
   simp only [N1,N2,or_false] at hc
   rcases hc with rfl | rfl | rfl | rfl | rfl
   ·exact hpz e.symm
   ·exact absurd (PV hI) (by rw [e]; exact ME _)
   ·exact absurd (PV hO) (by rw [e]; exact ME _)
   ·obtain⟨o,q,_⟩:=s1.get; exact absurd (PV q) (by rw [e]; exact ME _)
   ·obtain⟨o,q,_⟩:=s2.get; exact absurd (PV q) (by rw [e]; exact ME _)
  refine⟨.ref s.heap.objs.size,_,I',rfl,⟨_,x,y,rfl,fr,rfl,fun xs' h=>by rw [Inv.sx_inj I h g1]; exact ex,fun ys' h=>by rw [Inv.sx_inj I h g2]; exact ey⟩,⟨hz2,?_,⟨u,v,sb.extBut _ _ Ap.a2 hO'⟩,?_,?_⟩,fun c hc=>by rw [aJ (ne c hc)]; exact(hf c hc).1⟩
  ·exact sb.extBut _ _ Ap.a1 (kp TI _ Ap.a1 Ap.a3 Ap.d1 Ap.d2 hI)
  ·exact t1.1.keep fun o e=>sb.extBut _ _ n3.symm e
  ·exact t2.1.keep fun o e=>sb.extBut _ _ n4.symm e
 done:=by
  intro X hP hw hK hc i pins s σ H E I hf ⟨hz,hI,⟨a,b,hO⟩,s1,s2⟩ hg
  subst hP hw hK
  obtain⟨xs,ys,g1,g2,hl⟩:=hg
  obtain⟨its1,r1,q1,z1⟩:=Inv.sx I g1
  obtain⟨its2,r2,q2,z2⟩:=Inv.sx I g2
  have hh:X.A.in1.handled=none:=I.ok.hd hc
  have hT:s.TypeIs (.ref z) "zip":=⟨_,hz,rfl⟩
  unfold pyNext
  refine QI (Ry (Ra (name:=Str.ofString "__next__") hT F.slot_zip_next (Rb F.slot_zip_next hT F.entry_zip_next
   (next_end (i:=i) Ap (qy (A:=X.A.in1) b1 hh i1 a1 n1 its1.toArray) (qy (A:=X.A.in1) b2 hh i2 a2 n2 its2.toArray) hz hI hO ⟨s1,q1⟩ ⟨s2,q2⟩ (by rw [MT,MT,<- r1.length,<- r2.length]; exact hl) fun g e tk kp he=>?_) (F.args_zip_next_1 _))))
  obtain⟨o,ho,hce⟩:=he
  refine QI (Rz (T := "StopIteration") (b:=true) ⟨o,ho,hce⟩ RA ?_)
  refine QH ⟨rfl,Inv.turned0 (ch:=[z,TI,TO,i1,i2]) I hf fun c o hc e=>?_⟩
  simp only [N1,N2,or_false,not_or] at hc
  exact kp c o hc.1 hc.2.2.1 hc.2.2.2.1 hc.2.2.2.2 e
 self:=fun _ _ _ _ _ ⟨hz,_⟩ h=>wpAny_pyIter_zip hz h
def Eh:D->Option (Bool×List D)
 | .lst xs=>some (true,xs)
 | .tup xs=>some (false,xs)
 | _=>none
theorem xu {K:Pj} {H:Hp} {d:D} {b:Bool} {xs:List D} {v:V} (e:Eh d=some (b,xs)) (h:cQ K H d v):∃ a vs,v=.ref a/\SX K b H a vs/\aY K H xs vs:=by
 cases d with
 | lst ys=>cases e; exact cX.mp h
 | tup ys=>cases e; obtain⟨a,vs,e1,e2,e3⟩:=cV.mp h; exact⟨a,vs,e1,p4.of e2,e3⟩
 | _=>cases e
def ot:List D->List D->List D
 | x::xs,y::ys=>.tup [x,y]::ot xs ys
 | _,_=>[]
theorem pP:∀ xs ys:List D,(ot xs ys).length=min xs.length ys.length
 | [],_=>by simp [ot]
 | _::_,[]=>by simp [ot]
 | x::xs,y::ys=>by
  rw [ot,MV,pP xs ys,MV,MV]; omega
theorem xo:∀ {xs ys:List D} {i:Nat} {d:D},(ot xs ys)[i]?=some d->∃ x y,xs[i]?=some x/\ys[i]?=some y/\d=.tup [x,y]
 | [],_,i,d,h=>by simp [ot] at h
 | _::_,[],i,d,h=>by simp [ot] at h
 | x::xs,y::ys,0,d,h=>by
  rw [ot,N3] at h
  cases h
  exact⟨x,y,rfl,rfl,rfl⟩
 | x::xs,y::ys,i+1,d,h=>by
  rw [ot,N4] at h
  obtain⟨a,b,h1,h2,h3⟩:=xo h
  exact⟨a,b,by rw [N4]; exact h1,by rw [N4]; exact h2,h3⟩
theorem CQ {K:Pj} {Hd:Hp} {b1 b2:Bool} {a1 a2:Qr} {ds es:List D} {vs ws:List V} (h1:SX K b1 Hd a1 vs) (g1:aY K Hd ds vs) (h2:SX K b2 Hd a2 ws) (g2:aY K Hd es ws):Walk K Hd (L8 K b1 b2 a1 a2) (ot ds es):=fun Hn O' i hO sm =>
  have s':bm Hd Hn:=sm.trans (aI Hn O')
  ⟨fun d e=>by
    obtain⟨x,y,e1,e2,rfl⟩:=xo e
    have l1:i < ds.length:=(List.getElem?_eq_some_iff.mp e1).1
    have l2:i < es.length:=(List.getElem?_eq_some_iff.mp e2).1
    obtain⟨v,ev,dv⟩:=g1.get e1
    obtain⟨w,ew,dw⟩:=g2.get e2
    refine⟨⟨vs,ws,h1.same s',h2.same s',by rw [<- g1.length]; exact l1,by rw [<- g2.length]; exact l2⟩,fun u H2 ⟨p,x',y',eu,hp,eH,q1,q2⟩=>?_⟩
    have z1:=q1 vs (h1.same s')
    rw [ev] at z1; cases z1
    have z2:=q2 ws (h2.same s')
    rw [ew] at z2; cases z2
    subst eH eu
    exact⟨cD hp _,fH hO hp (bo.mpr ⟨v,_,rfl,dv.mono sm,bo.mpr ⟨w,_,rfl,dw.mono sm,cR.mpr rfl⟩⟩)⟩,
   fun hl=>by
    rw [pP] at hl
    refine⟨vs,ws,h1.same s',h2.same s',?_⟩
    rw [<- g1.length,<- g2.length]
    omega⟩
def Al:List D->Option (List D)
 | [a,b]=>(Eh a).bind fun x=>(Eh b).bind fun y=>some (ot x.2 y.2)
 | _=>none
def Em (f:au->R (List D)):au->R (List D):=fun ρ=>(f ρ).bind fun ds=>rO (Al ds)
section
variable {X:Cx}
theorem HD {a b c:Qr} (h1:a≠b) (h2:a≠c):a∉[b,c]:=fun h=>by
 rcases List.mem_cons.mp h with z | z
 ·exact h1 z
 ·exact h2 (List.mem_singleton.mp z)
theorem zU {n a1 a2:Qr} (h1:a1 < n) (h2:a2 < n):Apart (n+4) (n+2) (n+3) n (n+1) [n,a1] [n+1,a2]:=by
 have lt:∀ {a b:Nat},a < b->(b:Qr)≠(a:Qr):=fun h=>MO h
 have lt':∀ {a b:Nat},a < b->(a:Qr)≠(b:Qr):=fun h=>MF h
 have g:∀ k:Nat,a1 < n+k:=fun k=>MD h1 (N5 _ _)
 have g':∀ k:Nat,a2 < n+k:=fun k=>MD h2 (N5 _ _)
 have p:∀ {j k:Nat},j < k->n+j < n+k:=fun h=>N6 h n
 have p0:∀ {k:Nat},0 < k->n < n+k:=fun h=>N7 h
 exact⟨lt' (p (by decide)),lt' (p (by decide)),lt' (p (by decide)),HD (lt (p0 (by decide))) (lt (g 4)),HD (lt (p0 (by decide))) (lt (g 3)),HD (lt (p0 (by decide))) (lt (g 1)),
  HD (lt (p (by decide))) (lt (g' 4)),HD (lt (p (by decide))) (lt (g' 3)),HD (lt' (p0 (by decide))) (lt h2),lt (p0 (by decide)),lt (p (by decide)),MJ,MJ⟩
theorem FJ {pins:List (Qr×Obj)} {s:Qy} {σ:St} {H:Hp} {O:List Qr} {es:List QB} {k:Nat} {tpos:Pos} {ds r:List D} {vs:List V} {us:List Qo} {RR:It->Hp->Prop} (I:Inv X pins σ H s) (hc:Al ds=some r) (d1:aY X.K (hid H O) ds vs) (rv:Vals vs us) (q:∀ J,Walk X.K (hid H O) J r->RR J H) :
  QA (model X.prog X.w) X.A (call (.type "zip") us) (fun v s1=>QA (model X.prog X.w) X.A (pyIter v) (PIE X pins σ (.Tuple es k tpos) RR) X.xe s1) X.xe s:=by
 unfold Al at hc
 split at hc
 ·rename_i a b
  obtain⟨⟨b1,xs⟩,e1,hc⟩:=bind_some hc
  obtain⟨⟨b2,ys⟩,e2,hc⟩:=bind_some hc
  cases hc
  obtain⟨va,vb,rfl,da,db⟩:=d1.two
  obtain⟨u1,u2,rfl,r1,r2⟩:=vals2 rv
  obtain⟨a1,ws1,rfl,x1,y1⟩:=xu e1 da
  obtain⟨a2,ws2,rfl,x2,y2⟩:=xu e2 db
  cases r1
  cases r2
  obtain⟨its1,rr1,q1,_⟩:=Inv.sx I (x1.same (aI H O))
  obtain⟨its2,rr2,q2,_⟩:=Inv.sx I (x2.same (aI H O))
  refine B1 q1 q2 fun g hz hI hO s1 s2 kp=>wpAny_pyIter_zip hz ?_
  have Ap:=zU q1.lt q2.lt
  refine⟨_,_,_,_,H,rfl,I.kept (t':=s.toks) kp,B6 (b1:=b1) (b2:=b2) Ap (MF q1.lt) (MF (MD q2.lt (N5 _ 1))) (MO (N7 (by decide))) (MO (N6 (by decide) _)),⟨hz,hI,⟨_,_,hO⟩,s1,s2⟩,fun b hb=>?_,q _ (CQ x1 y1 x2 y2)⟩
  have le:s.heap.objs.size<=b:=by
   simp only [N1,N2,or_false] at hb
   rcases hb with rfl | rfl | rfl | rfl | rfl
   ·exact N5 _ _
   ·exact N5 _ _
   ·exact N5 _ _
   ·exact MP _
   ·exact N5 _ _
  exact I.fpOk le (I.hok.fresh le)
 ·cases hc
theorem J6 {a b:QB} {es:List QB} {k:Nat} {tpos:Pos} {f:au->R (List D)} {p pos:Pos} (hg:Gl X "zip") (hm:X.mg "zip"=none) (ha:FA X [a,b] f) (hs:QC [a,b] X.env=(false,eval a X.env)::QC [b] X.env:=by rfl) (hpl:(backTo pos (QC [b] X.env)).any (·.1)=false:=by rfl):FI X (.Tuple es k tpos) (.Call (.Name "zip" p) [a,b] [] pos) (Em f):=by
 intro pins s σ H RR I ⟨O,ρ,E,hG⟩
 have hA:=ha pos pins s σ H (fun vs H1=>∃ ds r,Al ds=some r/\aY X.K (hid H1 O) ds vs/\∀ J,Walk X.K (hid H1 O) J r->RR J H1) I ⟨O,ρ,E,(ir.bind hG).imp fun ds hG vs H1 s1 d1=>by
  obtain⟨r,e,q⟩:=ir.rO hG
  exact⟨ds,r,e,d1,fun J wk=>q J H1 s1 wk⟩⟩
 refine PyProof.Rows.Call_ (nK I hg hm PyProof.Rows.boot_zip (P9 (dX hA fun us s1 ⟨vs,H1,I1,r1,ds,r,er,d1,q⟩=>?_) hs hpl))
 exact FJ I1 er d1 r1 q
end
def Ft (i:Nat):List D->List D
 | []=>[]
 | x::xs=>.tup [.int i,x]::Ft (i+1) xs
def Fu:List D->Option (List D)
 | [a]=>(Eh a).bind fun x=>some (Ft 0 x.2)
 | _=>none
def xO (f:au->R (List D)):au->R (List D):=fun ρ=>(f ρ).bind fun ds=>rO (Fu ds)
end TG
namespace TG
open PySem PySem.Spec L2
variable [aR]

theorem oI {K:Pj} {c:Str} {C C':Qr} (h:clsAt K c C) (h':clsAt K c C'):C=C':=by
 unfold clsAt at h h'
 rw [h] at h'
 cases h'; rfl
theorem qP {K:Pj} {H:Hp} {f:Str}:∀ {fs:List Str} {ds:List D} {vs:List V} {d:D},aY K H ds vs->(fs.zip ds).lookup f=some d->∃ v,(fs.zip vs).lookup f=some v/\cQ K H d v
 | [],_,_,_,_,e=>by simp at e
 | _::_,[],_,_,_,e=>by simp at e
 | g::fs,x::ds,vs,d,h,e=>by
  rw [bo] at h
  obtain⟨v,r,rfl,h1,h2⟩:=h
  rw [N8,Nt] at e ⊢
  cases hg:f==g with
  | true=>rw [hg] at e; cases e; exact⟨v,rfl,h1⟩
  | false=>rw [hg] at e; exact qP h2 e
theorem uf {f:Str}:∀ {fs:List Str} {vs:List V},fs.contains f=false->(fs.zip vs).lookup f=none
 | [],_,_=>by simp
 | _::_,[],_=>by simp
 | g::fs,x::vs,h=>by
  rw [N9,Oa] at h
  rw [N8,Nt,h.1]
  exact uf h.2
def jq (f:Str) (cs:List Str) (d:D):Option D:=match d with
 | .obj c fs vs=>if cs.contains c then (fs.zip vs).lookup f else none
 | _=>none
def lg (K:Pj) (f:Str) (cs:List Str):Prop:=∀ c∈cs,∀ C,clsAt K c C->ye K C/\j3 K C f
section
variable {X:Cx} {a o e:QB} {es:List QB} {fa fo:FX} {fas:au->R (List D)} {f m x:Str} {cs:List Str} {pos apos p:Pos} {k k':Nat} {ps:List Str}
theorem LO (ok:lg X.K f cs) (h:FE X a fa) (hb:QU a f X.env (eval a X.env)=eval a X.env:=by rfl):FE X (.Attribute a f pos) (f1 (jq f cs) fa) :=
 PE.weak (Hf h hb) fun σ H Q ⟨O,ρ,E,hF⟩=>⟨O,ρ,E,(ir.bind hF).imp fun d hF v H1 s1 d1=>by
  obtain⟨r,e,q⟩:=ir.rO hF
  cases d with
  | obj c fs vs =>
   have e':(if cs.contains c then (fs.zip vs).lookup f else none)=some r:=e
   cases hc:cs.contains c with
   | false=>rw [hc] at e'; cases e'
   | true =>
    rw [hc] at e'
    obtain⟨a,ws,ev,g1,g2,C,dx,g3,g4⟩:=JT.mp d1
    obtain⟨w,l1,l2⟩:=qP g1 e'
    obtain⟨cl,na⟩:=ok c (List.contains_iff_mem.mp hc) C g3
    exact⟨a,C,dx,_,w,ev,aI H1 O _ _ g4,cl,na,l1,q w H1 s1 l2⟩
  | _=>cases e⟩
def MethAt (P:Qq) (w:Qp) (K:Pj) (mg:Str->Option Qo) (base:Qt) (k:Nat) (c m:Str) (ps:List Str) (g:List D->R D):Prop :=
 ∃ C f fd,clsAt K c C/\ye K C/\Meth K C m f/\jp P w K mg base (oV P w) k f fd ps (Bx K ps.length g)/\Binds K fd ps []
def cn (m:Str) (tbl:List (Str×(List D->R D))) (fo:FX) (fas:au->R (List D)):FX:=fun ρ=>(fo ρ).bind fun o=>match o with
 | .obj c fs vs=>match tbl.lookup c with
  | some g=>if fs.contains m then un else (fas ρ).bind fun as=>g (o::as)
  | none=>un
 | _=>un
def eG (P:Qq) (w:Qp) (K:Pj) (mg:Str->Option Qo) (base:Qt) (k:Nat) (m:Str) (ps:List Str) (tbl:List (Str×(List D->R D))):Prop :=
 ∀ c g,tbl.lookup c=some g->MethAt P w K mg base k c m ps g/\Ar ps.length g
theorem jc {P:Qq} {w:Qp} {K:Pj} {mg:Str->Option Qo} {base:Qt}:eG P w K mg base k m ps []:=fun _ _ h=>nomatch h
theorem cS {P:Qq} {w:Qp} {K:Pj} {mg:Str->Option Qo} {base:Qt} {c:Str} {g:List D->R D} {tbl:List (Str×(List D->R D))} (h:MethAt P w K mg base k c m ps g) (hn:Ar ps.length g) (t:eG P w K mg base k m ps tbl):eG P w K mg base k m ps ((c,g)::tbl):=fun c' g' e=>by
 rw [Nt] at e
 cases hc:c'==c with
 | true =>
  rw [hc] at e
  cases e
  have:c'=c:=by simpa using hc
  subst this
  exact⟨h,hn⟩
 | false=>rw [hc] at e; exact t c' g' e
theorem MethAt.mono {P:Qq} {w:Qp} {K:Pj} {mg:Str->Option Qo} {base:Qt} {c:Str} {g:List D->R D} (h:MethAt P w K mg base k c m ps g) (hk:k<=k'):MethAt P w K mg base k' c m ps g:=by
 obtain⟨C,f,fd,h1,h2,h3,h4,h5⟩:=h
 exact⟨C,f,fd,h1,h2,h3,h4.mono hk,h5⟩
theorem vQ {tbl:List (Str×(List D->R D))} {args:List QB} {pl:Sem Bool} (tb:eG X.prog X.w X.K X.mg X.base k m ps tbl) (hr:fZ k X.A) (ho:FE X o fo)
  (hc:∀ (pins:List (Qr×Obj)) (s1:Qy) (σ:St) (H1:Hp) (O:List Qr) (ρ:au) (a f:Qr) (od:D) (Q:VK) (g:List D->R D) (fd:QY) (w0:V),Py X.K (.ref f)=true->jp X.prog X.w X.K X.mg X.base (oV X.prog X.w) k f fd ps (Bx X.K ps.length g)->Binds X.K fd ps []->Ar ps.length g->Inv X pins σ H1 s1->dQ X.K O H1 ρ σ->cQ X.K (hid H1 O) od (.ref a) ->
   (ir X σ O H1 ((fas ρ).bind fun as=>g (od::as)) fun d=>∀ v H',bm H1 H'->cQ X.K (hid H' O) d v->Q v H') ->
   QA (model X.prog X.w) X.A (QV pos (.ref f) [.ref a] (backTo pos (QC args X.env)) (backToKw pos (QW [] X.env))) (EP X pins σ Q) X.xe s1)
  (ht:eval (.Call (.Attribute o m apos) args [] pos) X.env=(do
   let ov <- eval o X.env
   standAt apos.atName
   let (f,first) <- holding [ov] (getMethod ov m pl)
   QV pos f first (backTo pos (QC args X.env)) (backToKw pos (QW [] X.env)))) :
  FE X (.Call (.Attribute o m apos) args [] pos) (cn m tbl fo fas):=by
 intro pins s σ H Q I ⟨O,ρ,E,hF⟩
 refine xG ho I ?_ ht
 refine⟨O,ρ,E,(ir.bind hF).imp fun d hF v H1 s1 d1=>?_⟩
 cases d with
 | obj c fs vs =>
  have hF':ir X σ O H (match tbl.lookup c with | some g=>if fs.contains m then un else (fas ρ).bind fun as=>g (.obj c fs vs::as) | none=>un) _:=hF
  cases hg:tbl.lookup c with
  | none=>rw [hg] at hF'; exact hF'.elim
  | some g =>
   rw [hg] at hF'
   have hF2:ir X σ O H (if fs.contains m then un else (fas ρ).bind fun as=>g (.obj c fs vs::as)) _:=hF'
   cases hm:fs.contains m with
   | true=>rw [hm] at hF2; exact hF2.elim
   | false =>
    rw [hm] at hF2
    have hF3:ir X σ O H ((fas ρ).bind fun as=>g (.obj c fs vs::as)) _:=hF2
    have d0:=d1
    obtain⟨a,ws,ev,g1,g2,C,dx,g3,g4⟩:=JT.mp d1
    obtain⟨⟨C',f,fd,m1,m2,m3,m4,m5⟩,ar⟩:=tb c g hg
    have eC:=oI g3 m1
    subst eC
    subst ev
    refine⟨a,C,dx,_,f,rfl,aI H1 O _ _ g4,m2,m3,uf hm,fun s2 I2=>?_⟩
    exact hc pins s2 σ H1 O ρ a f _ Q g fd (.ref a) m3.kp m4 m5 ar I2 (E.same s1) d0 ((hF3.mono s1).imp fun d q v H2 s2 d2=>q v H2 (s1.trans s2) d2)
 | _=>exact hF.elim
theorem qS {σ:St} {O:List Qr} {H:Hp} {g:List D->R D} {ds:List D} {vs:List V} {Q:VK} {n:Nat} (ar:Ar n g) (hO:eF H O) (d1:aY X.K (hid H O) ds vs) (h:ir X σ O H (g ds) fun d=>∀ v H',bm H H'->cQ X.K (hid H' O) d v->Q v H'):∃ E,lE (oV X.prog X.w) X σ E/\Bx X.K n g vs H Q E:=by
 cases hg:g ds with
 | ok d =>
  rw [hg] at h
  refine⟨E0,y8,O,ds,by rw [<- d1.length]; exact ar ds (by rw [hg]; intro z; cases z),hO,d1,?_⟩
  rw [hg]; exact h
 | error z =>
  rw [hg] at h
  cases z with
  | none=>exact h.elim
  | some x =>
   refine⟨zm X O H x,zS h,O,ds,by rw [<- d1.length]; exact ar ds (by rw [hg]; intro z; cases z),hO,d1,?_⟩
   rw [hg]; exact wY
theorem Jz {tbl:List (Str×(List D->R D))} {pl:Sem Bool} (tb:eG X.prog X.w X.K X.mg X.base k m ps tbl) (hr:fZ k' X.A) (hk:k<=k') (ho:FE X o fo) (ha:FA X (e::es) fas)
  (hns:(e::es).all noStar=true:=by rfl)
  (ht:eval (.Call (.Attribute o m apos) (e::es) [] pos) X.env=(do
   let ov <- eval o X.env
   standAt apos.atName
   let (f,first) <- holding [ov] (getMethod ov m pl)
   QV pos f first (backTo pos (QC (e::es) X.env)) (backToKw pos (QW [] X.env))):=by rfl) :
  FE X (.Call (.Attribute o m apos) (e::es) [] pos) (cn m tbl fo fas) :=
 vQ tb (hr.mono hk) ho (fun pins s1 σ H1 O ρ a f od Q g fd _ kp F b ar I1 E1 dO hP=>by
  refine Pz (first:=[.ref a]) (h₀:=X.base) I1.ok.mod.kin kp (dX (ha pos pins s1 σ H1 _ I1 ⟨O,ρ,E1,(ir.bind hP).imp fun as hP vs H2 s2 d2=>qS (vs:=.ref a::vs) ar (E1.all.same s2) (bo.mpr ⟨_,_,rfl,dO.mono (bV s2),d2⟩) ((hP.mono s2).imp fun d q v H3 s3 d3=>q v H3 (s2.trans s3) d3)⟩) fun us s2 ⟨vs,H2,I2,r,Ex,hx,q2⟩=>⟨I2.kIn,?_⟩) (dE (Ng _ _ ▸ hns).1) (ic (Ng _ _ ▸ hns).2)
  exact uO (us:=.ref a::us) (vs:=.ref a::vs) F (hr.mono hk) b hx I2 (.cons rfl r) q2) ht
theorem Jn {tbl:List (Str×(List D->R D))} {pl:Sem Bool} (tb:eG X.prog X.w X.K X.mg X.base k m ps tbl) (hr:fZ k' X.A) (hk:k<=k') (ho:FE X o fo)
  (ht:eval (.Call (.Attribute o m apos) [] [] pos) X.env=(do
   let ov <- eval o X.env
   standAt apos.atName
   let (f,first) <- holding [ov] (getMethod ov m pl)
   QV pos f first (backTo pos (QC [] X.env)) (backToKw pos (QW [] X.env))):=by rfl) :
  FE X (.Call (.Attribute o m apos) [] [] pos) (cn m tbl fo aq) :=
 vQ tb (hr.mono hk) ho (fun pins s1 σ H1 O ρ a f od Q g fd _ kp F b ar I1 E1 dO hP=>by
  have hP':ir X σ O H1 (g [od]) fun d=>∀ v H',bm H1 H'->cQ X.K (hid H' O) d v->Q v H':=hP
  obtain⟨Ex,hx,q2⟩:=qS (vs:=[.ref a]) ar E1.all (bo.mpr ⟨_,_,rfl,dO,cR.mpr rfl⟩) hP'
  exact PySem.W.callWith_K0 (first:=[.ref a]) I1.kIn kp (uO (us:=[.ref a]) (vs:=[.ref a]) F (hr.mono hk) b hx I1 (.cons rfl .nil) q2)) ht
theorem cy {P:Qq} {w:Qp} {K:Pj} {mg:Str->Option Qo} {base:Qt} {c y qual:Str} {C f:Qr} {fd:QY} {st:QD} {N:List Str} {B:cB} (h1:clsAt K c C) (h2:ye K C) (h3:Meth K C m f) (F:vC K y qual st f fd) (b:Binds K fd ps []) (SC:bc N ps (aB st)) (hb:BodyOk P w K mg base k N qual st f B) :
  MethAt P w K mg base (k+1) c m ps (aF B ps.length N.length):=⟨C,f,fd,h1,h2,h3,uK F SC hb,b⟩
def Mq (C:Qr) (fs:List Str):Sp:=fun vs H Q _=>∃ x dx as,vs=.ref x::as/\as.length=fs.length/\H x=some (.ins C dx [])/\Q .non (upd H x (.ins C dx (fs.zip as)))
def rd (P:Qq) (w:Qp) (K:Pj) (mg:Str->Option Qo) (base:Qt) (k:Nat) (c:Str) (ps fs:List Str):Prop :=
 ∃ C f fd,clsAt K c C/\Mk K C f/\jp P w K mg base (oV P w) k f fd ps (Mq C fs)/\Binds K fd ps []/\mg c=some (.ref C)
def fNew (c:Str) (fs:List Str) (fas:au->R (List D)):FX:=fun ρ=>(fas ρ).bind fun as=>if as.length=fs.length then .ok (.obj c fs as) else un
theorem xC {K:Pj} {H1:Hp} {O:List Qr} {c:Str} {fs:List Str} {as:List D} {vs:List V} {C x dx:Qr} (hc:clsAt K c C) (hl:as.length=fs.length) (d1:aY K (hid H1 O) as vs) (hO:eF H1 O) (hx:H1 x=none) (hd:H1 dx=none) (ne:dx≠x) :
  bm H1 (upd (upd (upd H1 dx (.own x)) x (.ins C dx [])) x (.ins C dx (fs.zip vs)))/\cQ K (hid (upd (upd (upd H1 dx (.own x)) x (.ins C dx [])) x (.ins C dx (fs.zip vs))) O) (.obj c fs as) (.ref x):=by
 have sm:bm H1 (upd (upd (upd H1 dx (.own x)) x (.ins C dx [])) x (.ins C dx (fs.zip vs))):=fun b o h=>by
  have n1:=bg h hx
  have n2:=bg h hd
  rw [aJ n1,aJ n1,aJ n2]; exact h
 exact⟨sm,JT.mpr ⟨x,vs,rfl,d1.mono (bV sm),by rw [<- d1.length,hl],C,dx,hc,by rw [kU (hO.not hx),bb]⟩⟩
theorem Ik {X:Cx}:yj (oV X.prog X.w) X E0:=fun _ _ _ _ _ _ _ h=>by
 obtain⟨_,_,_,_,_,_,_,_,_,_,_,_,_,z⟩:=h
 exact z.elim
theorem KC {c:Str} {fs:List Str} (IA:rd X.prog X.w X.K X.mg X.base k c ps fs) (hr:fZ k' X.A) (hk:k+1<=k') (hg:Gl X c) (ha:FA X (e::es) fas) (hdb:(c==("__debug__":Str))=false:=by decide)
  (hns:(e::es).all noStar=true:=by rfl):FE X (.Call (.Name c p) (e::es) [] pos) (fNew c fs fas):=by
 obtain⟨C,f,fd,h1,h2,h3,h4,h5⟩:=IA
 refine PE.weak (Dv (dvs:=[]) (E:=E0) h2 h3 (hr.mono hk) hg h5 h4 .nil Ik ha hdb (dE (Ng _ _ ▸ hns).1) (ic (Ng _ _ ▸ hns).2)) fun σ H Q ⟨O,ρ,E,hF⟩=>⟨O,ρ,E,(ir.bind hF).imp fun as hF vs H1 s1 d1 x dx hx hd ne=>?_⟩
 by_cases hl:as.length=fs.length
 ·rw [if_pos hl] at hF
  rw [M1]
  refine⟨x,dx,vs,rfl,by rw [<- d1.length,hl],by rw [bb],rfl,?_⟩
  obtain⟨sm,dn⟩:=xC h1 hl d1 (E.all.same s1) hx hd ne
  exact hF _ _ (s1.trans sm) dn
 ·rw [if_neg hl] at hF; exact hF.elim
theorem qK (f:Str) (v:V):∀ {fs:List (Str×V)},(fs.map (·.1)).contains f=false->kY f v fs=fs++[(f,v)]
 | [],_=>rfl
 | (g,w)::fs,h=>by
  rw [MX,N9,Oa] at h
  have ne:¬ g=f:=fun z=>by
   have:=h.1
   rw [z] at this
   simp at this
  have:=qK f v (fs:=fs) h.2
  unfold kY
  simp only [ne,if_false,this,Nx]
def zG (X:Cx) (cs:List Str) (body:List QD) (fs:List Str) (i:Nat):Prop :=
 ∃ t,xi X body t/\∀ (D:Ends) (σ:St) (H:Hp) (x dx C:Qr) (done:List (Str×V)) (as:List V),σ[0]?=some (some (.ref x))->(∀ j v,as[j]?=some v->σ[i+j]?=some (some v))->as.length=fs.length->ye X.K C->(∀ f∈fs,j3 X.K C f)->done.length+fs.length < 1000->(done.map (·.1)++fs).Nodup->H x=some (.ins C dx done) ->
  D.nx σ (upd H x (.ins C dx (done++fs.zip as)))->t D σ H
theorem Br {st:QD} {f:Str} {i:Nat} {o v:QB} {p1 p2:Pos} (hst:st=.Assign [.Attribute o f p1] v p2) (ho:PE X o (oQ 0)) (hv:PE X v (oQ i)) (hs:swapsWith v (some (.Attribute o f p1)) p2.line X.env=pure false):zG X cs [st] [f] i:=by
 subst hst
 refine⟨_,zM (CB ho hv hs),fun D σ H x dx C done as h0 ha hl cl na hz nd hx q=>?_⟩
 obtain⟨a,rfl⟩:∃ a,as=[a]:=by
  match as,hl with
  | [a],_=>exact⟨a,rfl⟩
 refine⟨a,ha 0 a rfl,.ref x,h0,x,C,dx,done,rfl,hx,cl,na f (List.mem_singleton.mpr rfl),by simp at hz; omega,?_⟩
 rw [qK f a (by
  have:=nd
  rw [Oc] at this
  have h3:=this.2.2
  cases hc:(done.map (·.1)).contains f with
  | false=>rfl
  | true=>exact absurd rfl (h3 f (List.contains_iff_mem.mp hc) f (List.mem_singleton.mpr rfl)))]
 exact q
theorem yv {st:QD} {rest:List QD} {f:Str} {fs:List Str} {i:Nat} {o v:QB} {p1 p2:Pos} (hst:st=.Assign [.Attribute o f p1] v p2) (ho:PE X o (oQ 0)) (hv:PE X v (oQ i)) (hs:swapsWith v (some (.Attribute o f p1)) p2.line X.env=pure false) (hr:zG X cs rest fs (i+1)):zG X cs (st::rest) (f::fs) i:=by
 subst hst
 obtain⟨t,ht,hq⟩:=hr
 refine⟨_,wf (CB ho hv hs) ht,fun D σ H x dx C done as h0 ha hl cl na hz nd hx q=>?_⟩
 obtain⟨a,as,rfl⟩:∃ a r,as=a::r:=by
  match as,hl with
  | a::r,_=>exact⟨a,r,rfl⟩
 have hno:(done.map (·.1)).contains f=false:=by
  have:=nd
  rw [Oc] at this
  have h3:=this.2.2
  cases hc:(done.map (·.1)).contains f with
  | false=>rfl
  | true=>exact absurd rfl (h3 f (List.contains_iff_mem.mp hc) f MJ)
 refine⟨a,ha 0 a rfl,.ref x,h0,x,C,dx,done,rfl,hx,cl,na f MJ,by simp at hz; omega,?_⟩
 rw [qK f a hno]
 refine hq D σ _ x dx C (done++[(f,a)]) as h0 (fun j v e=>?_) (by simpa using hl) cl (fun g hg=>na g (MK _ hg)) (by simp at hz ⊢; omega) (by simpa [NZ] using nd) (by rw [bb]) ?_
 ·have:=ha (j+1) v (by simpa using e)
  rw [show i+1+j=i+(j+1) by omega]; exact this
 ·rw [DB,NZ]; exact q
theorem A5 {P:Qq} {w:Qp} {K:Pj} {mg:Str->Option Qo} {base:Qt} {c qual:Str} {C f:Qr} {fd:QY} {st:QD} {fs:List Str} (h1:clsAt K c C) (hM:Mk K C f) (cl:ye K C) (na:∀ g∈fs,j3 K C g) (F:vC K "__init__" qual st f fd) (b:Binds K fd ps []) (hmg:mg c=some (.ref C)) (SC:bc ps ps (aB st)) (hps:ps.length=fs.length+1) (hnd:fs.Nodup) (hlen:fs.length < 1000)
  (hb:∀ (cdv:Qo) (A:Qx) (outer:List Env) (s:Qy) (H:Hp) (E:XK),zG (lu Jx P w K mg base ps qual (aB st) f cdv A outer s H E).nox [] (fP st) fs 1):rd P w K mg base (k+1) c ps fs:=by
 refine⟨C,f,fd,h1,hM,?_,b,hmg⟩
 refine jp.any (F.ok SC (fun vs H Q E h=>?_) fun cdv A outer s H vs Q E hr h=>?_)
 ·obtain⟨x,dx,as,rfl,hl,_⟩:=h
  rw [MV,hl,hps]
 ·obtain⟨t,ht,hq⟩:=hb cdv A outer s H E
  obtain⟨x,dx,as,rfl,hl,hx,q⟩:=h
  have hst:L2.start ps (.ref x::as)=(.ref x::as).map some:=by
   unfold L2.start
   rw [MV,hl,hps,Od,Oe,M1]
  refine⟨t,ht,hq _ _ H x dx C [] as (by rw [hst]; rfl) (fun j v e=>?_) hl cl na (by simpa using hlen) (by simpa using hnd) hx q⟩
  rw [hst,Nat.add_comm,MX,N4,M8,e]; rfl
end
end TG
namespace TG
open PySem PySem.Spec L2
variable [aR]
section
variable {X:Cx}
def MB:D->Option Str
 | .str z=>some z
 | _=>none
def Kq (a b:D):Option D:=match a,b with
 | .bl c,.bl d=>some (.bl (c==d))
 | _,_=>none
def iz (a b:D):Option D:=match a,b with
 | .bl c,.bl d=>some (.bl (!(c==d)))
 | _,_=>none
theorem ua:jr X (QO .IsNot) (rD X.K iz):=by
 intro pins s σ H x y u v Q I rx ry ⟨O,a,b,d,hO,ha,hb,hg,q⟩
 cases a with
 | bl i =>
  cases b with
  | bl j =>
   cases hg
   rw [lh.mp ha] at rx
   rw [lh.mp hb] at ry
   cases rx
   cases ry
   exact PyProof.Rows.isnot_bool ⟨.bl _,H,I,rfl,q _ H (bm.refl H) (lh.mpr rfl)⟩
  | _=>cases hg
 | _=>cases hg
end
section
variable {X:Cx} {C:Qr} {pins:List (Qr×Obj)} {σ:St} {H:Hp} {s:Qy} {Q:VK}
end
end TG
namespace TG
open PySem PySem.Spec PyProof.Rows L2
variable [aR]
def eB:List D->List D->Option Bool
 | [],[]=>some false
 | [],_::_=>some true
 | _::_,[]=>some false
 | a::as,b::bs=>match a,b with
  | .int i,.int j=>if i=j then eB as bs else some (decide (i < j))
  | .str x,.str y=>if x=y then eB as bs else some (decide (x.cps.toList < y.cps.toList))
  | _,_=>none
inductive ia:List Qo->List D->Prop where
 | nil:ia [] []
 | int (i:Int) (t:Tok) {vs:List Qo} {ds:List D} (h:ia vs ds):ia (.int i t::vs) (.int i::ds)
 | str (x:Str) (t:Tok) {vs:List Qo} {ds:List D} (h:ia vs ds):ia (.str x t::vs) (.str x::ds)
theorem ia.length:∀ {vs:List Qo} {ds:List D},ia vs ds->vs.length=ds.length
 | _,_,.nil=>rfl
 | _,_,.int _ _ h=>by rw [MV,MV,h.length]
 | _,_,.str _ _ h=>by rw [MV,MV,h.length]
theorem EZ (A:Qx) (s:Qy) (a:Int) (t:Tok) (c:Int) (u:Tok):∃ e,SeqAt.EqAt A s (.int a t) (.int c u) e/\(e=true↔a=c) :=
 ⟨(a==c),SeqAt.EqAt.int_int a t c u,by simp⟩
theorem Fk (A:Qx) (s:Qy) (a:Str) (t:Tok) (c:Str) (u:Tok):∃ e,SeqAt.EqAt A s (.str a t) (.str c u) e/\(e=true↔a=c) :=
 ⟨(a==c),SeqAt.EqAt.str_str a t c u,by simp⟩
theorem Jo (A:Qx) (s:Qy) (a:Str) (t:Tok) (c:Str) (u:Tok) (prog:Qq) (w:Qp) (E:Qo->Qy->Prop) (Q:Qo->Qy->Prop) (h:Q (.bool (decide (a.cps.toList < c.cps.toList))) s) :
  QA (model prog w) A (richCompare .Lt (.str a t) (.str c u)) Q E s :=
 (PySem.P.lt_str h:QA (model prog w) A (QO .Lt (.str a t) (.str c u)) Q E s)
section
open PySem.SeqAt
open PySem.AutoSeq1 (wpAny_loadPart')
open PySem.MeetsSeq PySem.MeetsSeq2 PySem.MeetsSeq3
set_option maxHeartbeats 1000000 in
theorem sE (l b:Qr) (items items2:Array Qo) (n n2:Nat) (dd dd2:Option Qr) (sl sl2:Array (Option Qo)) (ns ms:List D) (r:Bool) (hi:ia items.toList ns) (hj:ia items2.toList ms) (hr:eB ns ms=some r) :
  Meets (Builtin.«tuple.__lt__» ⟨[.ref l,.ref b],[]⟩)
   (fun _ R s=>s.heap.get? l=some { cls:=.type "tuple",dict:=dd,data:=.seq items n,slots:=sl }/\s.heap.get? b=some { cls:=.type "tuple",dict:=dd2,data:=.seq items2 n2,slots:=sl2 } /\
    R (.ok (.ret (.bool r))) s) :=
 .of_wp fun prog w A R s h=>by
  obtain⟨hp,g,d,tk,os⟩:=s; obtain⟨hl,hb,h⟩:=h
  have f2:=AutoSeq1.sub_tuple_tuple
  have z1:items.size=ns.length:=by rw [<- hi.length]; simp
  have z2:items2.size=ms.length:=by rw [<- hj.length]; simp
  wp_walk using wpAny_loadPart' hl,wpAny_loadPart' hb,wpAny_forIn_list _ (fun rest b s'=>b.1=none/\s'=⟨hp,g,d,tk,os⟩/\∃ (vs ws:List Qo) (ns' ms':List D),rest=vs.zip ws /\
   ia vs ns'/\ia ws ms'/\ns'.length+items2.size=ms'.length+items.size/\eB ns' ms'=some r/\R (.ok (.ret (.bool r))) ⟨hp,g,d,tk,os⟩) _
  case turn =>
   rintro⟨y,x⟩ rest b s' ⟨hb',rfl,vs,ws,ns',ms',hz,hvi,hwi,hlen,hL,hR⟩
   cases hvi with
   | nil=>rw [List.zip_nil_left] at hz; cases hz
   | int a t hvi' =>
    cases hwi with
    | nil=>rw [Of] at hz; cases hz
    | str c u hwi'=>cases hL
    | int c u hwi' =>
     rw [N8] at hz
     injection hz with hyx hrest
     injection hyx with hy hx
     subst hy hx
     have hL':(if a=c then eB _ _ else some (decide (a < c)))=some r:=hL
     simp only [MV] at hlen
     obtain⟨e,he,hiff⟩:=EZ A.in1 ⟨hp,g,d,tk,os⟩ a t c u
     refine QI (he prog w _ _ ?_)
     cases e with
     | true =>
      rw [if_pos (hiff.mp rfl)] at hL'
      wp_walk
      exact⟨rfl,rfl,_,_,_,_,hrest,hvi',hwi',by omega,hL',hR⟩
     | false =>
      rw [if_neg (fun q=>absurd (hiff.mpr q) MU)] at hL'
      cases hL'
      have hri:=HT.IK A.in1 ⟨hp,g,d,tk,os⟩ a t c u prog w
      wp_walk using hri
      exact⟨_,rfl,by simpa using hR⟩
   | str a t hvi' =>
    cases hwi with
    | nil=>rw [Of] at hz; cases hz
    | int c u hwi'=>cases hL
    | str c u hwi' =>
     rw [N8] at hz
     injection hz with hyx hrest
     injection hyx with hy hx
     subst hy hx
     have hL':(if a=c then eB _ _ else some (decide (a.cps.toList < c.cps.toList)))=some r:=hL
     simp only [MV] at hlen
     obtain⟨e,he,hiff⟩:=Fk A.in1 ⟨hp,g,d,tk,os⟩ a t c u
     refine QI (he prog w _ _ ?_)
     cases e with
     | true =>
      rw [if_pos (hiff.mp rfl)] at hL'
      wp_walk
      exact⟨rfl,rfl,_,_,_,_,hrest,hvi',hwi',by omega,hL',hR⟩
     | false =>
      rw [if_neg (fun q=>absurd (hiff.mpr q) MU)] at hL'
      cases hL'
      have hri:=Jo A.in1 ⟨hp,g,d,tk,os⟩ a t c u prog w
      wp_walk using hri
      exact⟨_,rfl,by simpa using hR⟩
  case fin =>
   rintro⟨b1,b2⟩ s' ⟨hb',rfl,vs,ws,ns',ms',hz,hvi,hwi,hlen,hL,hR⟩
   simp only at hb'
   subst hb'
   have hv:r=decide (items.size < items2.size):=by
    have l1:=hvi.length
    have l2:=hwi.length
    cases ns' with
    | nil =>
     cases ms' with
     | nil =>
      simp only [Np] at hlen
      cases hL
      exact(decide_eq_false ‹0›).symm
     | cons c u =>
      simp only [Np,MV] at hlen
      cases hL
      exact(decide_eq_true ‹0›).symm
    | cons a t =>
     cases ms' with
     | nil =>
      simp only [Np,MV] at hlen
      cases hL
      exact(decide_eq_false ‹0›).symm
     | cons c u =>
      have:=congrArg List.length hz
      simp only [Np,List.length_zip,l1,l2,MV] at this
      omega
   rw [hv] at hR
   wp_walk
   exact⟨_,rfl,by simpa [Builtin.Tuple.tupleCompareSizes] using hR⟩
  case h =>
   exact⟨rfl,rfl,items.toList,items2.toList,ns,ms,rfl,hi,hj,by omega,hr,h⟩
end
section
variable {X:Cx}
theorem tX {α:Type} {c:Bool} {o:Option α} {a:α} (h:(if c then o else none)=some a):c=true/\o=some a:=by
 cases c with
 | true=>exact⟨rfl,h⟩
 | false=>cases h
theorem yJ {prog:Qq} {w:Qp} {A:Qx} {E:Qo->Qy->Prop} {s:Qy} {l b:Qr} {items items2:Array Qo} {ns ms:List D} {r:Bool} {Q:Qo->Qy->Prop} (hl:IsTup s.heap l items) (hb:IsTup s.heap b items2) (hi:ia items.toList ns) (hj:ia items2.toList ms) (hr:eB ns ms=some r)
  (hu:A.units < QX) (h:Q (.bool r) s):QA (model prog w) A (QO .Lt (.ref l) (.ref b)) Q E s:=by
 obtain⟨⟨cls,dd,data,sl⟩,ho,hc,n,hd⟩:=id hl
 obtain⟨⟨cls2,dd2,data2,sl2⟩,ho2,hc2,n2,hd2⟩:=id hb
 simp only at hc hd hc2 hd2
 subst hc hd hc2 hd2
 exact richCompare_meets_room (op:=.Lt) ⟨_,ho,rfl⟩ ⟨_,ho2,rfl⟩ PySem.F.slot_tuple_lt PySem.F.entry_tuple_lt (PySem.F.args_tuple_lt_2 _ _) (sE l b items items2 n n2 dd dd2 sl sl2 ns ms r hi hj hr)
  ⟨ho,ho2,show Value.bool r≠Value.notImplemented/\Q (.bool r) s from ⟨(fun x=>nomatch x),h⟩⟩ hu
def pN:List D->Bool
 | []=>true
 | .int _::r=>pN r
 | .str _::r=>pN r
 | _=>false
theorem li {K:Pj} {H:Hp}:∀ {ds:List D} {vs:List V} {us:List Qo},pN ds=true->aY K H ds vs->Vals vs us->ia us ds
 | [],vs,us,_,h,r=>by
  rw [cR] at h
  subst h
  cases r
  exact .nil
 | d::ds,vs,us,hf,h,r=>by
  obtain⟨v,r',e,h1,h2⟩:=bo.mp h
  subst e
  cases r with
  | cons q1 q2 =>
   cases d with
   | int i =>
    rw [e8] at h1
    subst h1
    obtain⟨t,rfl⟩:=q1
    exact .int i t (li hf h2 q2)
   | str x =>
    rw [eW] at h1
    subst h1
    obtain⟨t,rfl⟩:=q1
    exact .str x t (li hf h2 q2)
   | _=>cases hf
def su (a b:D):Option D:=match a,b with
 | .int i,.int j=>some (.bl (decide (i < j)))
 | .str x,.str y=>some (.bl (decide (x.cps.toList < y.cps.toList)))
 | .tup xs,.tup ys=>if pN xs && pN ys then (eB xs ys).bind fun r=>some (.bl r) else none
 | _,_=>none
theorem o4 (hu:X.A.units+64 < QX):jr X (QO .Lt) (rD X.K su):=by
 intro pins s σ H x y u v Q I rx ry ⟨O,a,b,d,hO,ha,hb,hg,q⟩
 cases a with
 | int i =>
  cases b with
  | int j =>
   cases hg
   exact Jf pins s σ H x y u v Q I rx ry ⟨i,j,e8.mp ha,e8.mp hb,q _ H (bm.refl H) (lh.mpr rfl)⟩
  | _=>cases hg
 | str i =>
  cases b with
  | str j =>
   cases hg
   exact Ad pins s σ H x y u v Q I rx ry ⟨i,j,eW.mp ha,eW.mp hb,q _ H (bm.refl H) (lh.mpr rfl)⟩
  | _=>cases hg
 | tup xs =>
  cases b with
  | tup ys =>
   obtain⟨h1,h2⟩:=tX hg
   obtain⟨r,e1,e2⟩:=bind_some h2
   cases e2
   rw [Ng] at h1
   obtain⟨p,vs,ex,g1,g2⟩:=cV.mp ha
   obtain⟨p',vs',ey,g1',g2'⟩:=cV.mp hb
   subst ex ey
   cases rx
   cases ry
   obtain⟨its,r1,t1,_⟩:=I.tuple (cC (aI H O) g1)
   obtain⟨its2,r2,t2,_⟩:=I.tuple (cC (aI H O) g1')
   exact yJ t1 t2 (li h1.1 g2 r1) (li h1.2 g2' r2) e1 ‹0› (B9 I (q _ H (bm.refl H) (lh.mpr rfl)) rfl)
  | _=>cases hg
 | _=>cases hg
end
end TG
namespace TG
open PySem PySem.Spec L2
variable [aR]
def j9 (x:Str) (n:Int):Str:=if (n==1 || x.length==0)=true then x else ⟨(List.replicate n.toNat x.cps).foldl (·++·) #[]⟩
theorem foldl_size:∀ (n:Nat) (c a:Array Nat),((List.replicate n c).foldl (·++·) a).size=a.size+n*c.size
 | 0,_,a=>by simp
 | n+1,c,a=>by
  rw [Og,Oh,foldl_size n c,Array.size_append,Nat.succ_mul]; omega
theorem wZ {x:Str} {n:Int} (h:1<=n):(j9 x n).length=n.toNat*x.length:=by
 unfold j9
 split
 ·rename_i q
  rw [NK] at q
  rcases q with q | q
  ·have:n=1:=by simpa using q
   rw [this]; simp
  ·have:x.length=0:=by simpa using q
   rw [this]; simp
 ·show ((List.replicate n.toNat x.cps).foldl (·++·) #[]).size=n.toNat*x.cps.size
  rw [foldl_size]; simp
def vL (a b:D):Option D:=match a,b with
 | .int i,.int j=>jD (.int i) (.int j)
 | .str x,.int n=>if decide (1<=n/\n<=1000/\x.length<=1000) then some (.str (j9 x n)) else none
 | _,_=>none
section
variable {X:Cx}
theorem uM:jr X (QN .Mult) (rD X.K vL):=by
 intro pins s σ H x y u v Q I rx ry ⟨O,a,b,d,hO,ha,hb,hg,q⟩
 cases a with
 | int i =>
  cases b with
  | int j=>exact i7 pins s σ H x y u v Q I rx ry (ja (.int i) (.int j) d x y O H Q hO hg ha hb q)
  | _=>cases hg
 | str z =>
  cases b with
  | int n =>
   obtain⟨h1,h2⟩:=bQ hg
   subst h2
   obtain⟨n1,n2,zl⟩:=of_decide_eq_true h1
   rw [eW] at ha
   rw [e8] at hb
   subst ha hb
   obtain⟨t,rfl⟩:=rx
   obtain⟨t',rfl⟩:=ry
   have zn:z.length*n.toNat<=1000*1000:=Nat.mul_le_mul zl ‹0›
   refine P.mul_str (by rw [decide_eq_false ‹0›,decide_eq_false ‹0›]; rfl) (fun _ _=>?_) (fun _ _=>?_) ?_
   ·have:(2 ^ 63 - 1:Int) / n>=(2 ^ 63 - 1) / 1000:=by
     rw [ge_iff_le,Int.le_ediv_iff_mul_le ‹0›]
     have h3:(2 ^ 63 - 1:Int) / 1000*n<=(2 ^ 63 - 1) / 1000*1000:=Int.mul_le_mul_of_nonneg_left n2 (by decide)
     have h4:(2 ^ 63 - 1:Int) / 1000*1000<=2 ^ 63 - 1:=by decide
     omega
    have h5:(2 ^ 63 - 1:Int) / 1000=9223372036854775:=by decide
    omega
   ·unfold Builtin.Str.tooLong
    rw [decide_eq_false]
    rw [QR]; omega
   ·rw [if_neg ‹0›]
    have fin:∀ tk,EP X pins σ Q (.str (j9 z n) tk) { s with toks:=s.toks+1 }/\EP X pins σ Q (.str (j9 z n) tk) s:=fun tk=>⟨⟨.str (j9 z n),H,I.tok _,⟨_,rfl⟩,q _ H (bm.refl H) (eW.mpr rfl)⟩,⟨.str (j9 z n),H,I,⟨_,rfl⟩,q _ H (bm.refl H) (eW.mpr rfl)⟩⟩
    by_cases e:(n==1 || z.length==0)=true
    ·rw [if_pos e]
     have:j9 z n=z:=by unfold j9; rw [if_pos e]
     rw [this] at fin
     exact(fin t).2
    ·rw [if_neg e]
     have e2:j9 z n=⟨(List.replicate n.toNat z.cps).foldl (·++·) #[]⟩:=by unfold j9; rw [if_neg e]
     rw [e2] at fin
     refine⟨?_,(fin _).1⟩
     have rl:=wZ (x:=z) (n:=n) ‹0›
     rw [e2] at rl
     rw [rl,QR,Nat.mul_comm]; omega
  | _=>cases hg
 | _=>cases hg
end
end TG
namespace TG
open PySem PySem.Spec PyProof.Rows PySem.W L2
variable [aR]
theorem rB:∀ a:List Nat,¬ a < a
 | []=>Oi _
 | x::xs=>fun h=>by
  rcases List.cons_lt_cons_iff.mp h with h | ⟨_,h⟩
  ·omega
  ·exact rB xs h
theorem lQ:∀ {a b c:List Nat},a < b->b < c->a < c
 | _,_,[],_,h=>absurd h (Oi _)
 | _,[],_::_,h,_=>absurd h (Oi _)
 | [],_::_,_::_,_,_=>Oj _ _
 | x::xs,y::ys,z::zs,h,h'=>by
  rw [Ol] at h h' ⊢
  rcases h with h | ⟨e,h⟩ <;> rcases h' with h' | ⟨e',h'⟩
  ·exact .inl ‹0›
  ·exact .inl ‹0›
  ·exact .inl ‹0›
  ·exact .inr ⟨by omega,lQ h h'⟩
theorem BO:∀ a b:List Nat,a < b\/a=b\/b < a
 | [],[]=>.inr (.inl rfl)
 | [],_::_=>.inl (Oj _ _)
 | _::_,[]=>.inr (.inr (Oj _ _))
 | x::xs,y::ys=>by
  rw [Ol,Ol]
  rcases Nat.lt_trichotomy x y with h | h | h
  ·exact .inl (.inl h)
  ·rcases BO xs ys with q | q | q
   ·exact .inl (.inr ⟨h,q⟩)
   ·exact .inr (.inl (by rw [h,q]))
   ·exact .inr (.inr (.inr ⟨h.symm,q⟩))
  ·exact .inr (.inr (.inl h))
theorem C6 {x y:Str} (h:x.cps.toList=y.cps.toList):x=y:=by
 cases x; cases y
 congr 1
 exact Array.toList_inj.mp h
inductive Sh:List Bool->List D->Prop where
 | nil:Sh [] []
 | int (i:Int) {bs:List Bool} {ds:List D} (h:Sh bs ds):Sh (true::bs) (.int i::ds)
 | str (x:Str) {bs:List Bool} {ds:List D} (h:Sh bs ds):Sh (false::bs) (.str x::ds)
theorem Sh.length:∀ {σ:List Bool} {a:List D},Sh σ a->a.length=σ.length
 | _,_,.nil=>rfl
 | _,_,.int _ h=>by rw [MV,MV,h.length]
 | _,_,.str _ h=>by rw [MV,MV,h.length]
theorem uG:∀ {σ:List Bool} {a:List D},Sh σ a->pN a=true
 | _,_,.nil=>rfl
 | _,_,.int i h=>by
  unfold pN; exact uG h
 | _,_,.str i h=>by
  unfold pN; exact uG h
theorem oh (i j:Int) (as bs:List D):eB (.int i::as) (.int j::bs)=if i=j then eB as bs else some (decide (i < j)):=by rw [eB]
theorem og (x y:Str) (as bs:List D):eB (.str x::as) (.str y::bs)=if x=y then eB as bs else some (decide (x.cps.toList < y.cps.toList)):=by rw [eB]
theorem Ck:eB [] []=some false:=by rw [eB]
theorem mV:∀ {σ:List Bool} {a:List D},Sh σ a->eB a a=some false
 | _,_,.nil=>Ck
 | _,_,.int i h=>by rw [oh,if_pos rfl]; exact mV h
 | _,_,.str x h=>by rw [og,if_pos rfl]; exact mV h
theorem mN:∀ {σ:List Bool} {a b:List D},Sh σ a->Sh σ b->(eB a b=some true/\eB b a=some false/\a≠b)\/a=b\/(eB b a=some true/\eB a b=some false/\a≠b)
 | _,_,_,.nil,.nil=>.inr (.inl rfl)
 | _,_,_,.int i h,.int j h'=>by
  rw [oh,oh]
  by_cases e:i=j
  ·subst e
   rw [if_pos rfl,if_pos rfl]
   rcases mN h h' with ⟨q1,q2,q3⟩ | q | ⟨q1,q2,q3⟩
   ·exact .inl ⟨q1,q2,fun z=>q3 (by injection z)⟩
   ·exact .inr (.inl (by rw [q]))
   ·exact .inr (.inr ⟨q1,q2,fun z=>q3 (by injection z)⟩)
  ·rw [if_neg e,if_neg (fun z=>e z.symm)]
   rcases Int.lt_or_gt_of_ne e with q | q
   ·exact .inl ⟨by rw [decide_eq_true q],by rw [decide_eq_false ‹0›],fun z=>e (by injection z with z1; injection z1)⟩
   ·exact .inr (.inr ⟨by rw [decide_eq_true q],by rw [decide_eq_false ‹0›],fun z=>e (by injection z with z1; injection z1)⟩)
 | _,_,_,.str x h,.str y h'=>by
  rw [og,og]
  by_cases e:x=y
  ·subst e
   rw [if_pos rfl,if_pos rfl]
   rcases mN h h' with ⟨q1,q2,q3⟩ | q | ⟨q1,q2,q3⟩
   ·exact .inl ⟨q1,q2,fun z=>q3 (by injection z)⟩
   ·exact .inr (.inl (by rw [q]))
   ·exact .inr (.inr ⟨q1,q2,fun z=>q3 (by injection z)⟩)
  ·rw [if_neg e,if_neg (fun z=>e z.symm)]
   rcases BO x.cps.toList y.cps.toList with q | q | q
   ·exact .inl ⟨by rw [decide_eq_true q],by rw [decide_eq_false fun z=>rB _ (lQ q z)],fun z=>e (by injection z with z1; injection z1)⟩
   ·exact absurd (C6 q) e
   ·exact .inr (.inr ⟨by rw [decide_eq_true q],by rw [decide_eq_false fun z=>rB _ (lQ q z)],fun z=>e (by injection z with z1; injection z1)⟩)
theorem mU:∀ {σ:List Bool} {a b c:List D},Sh σ a->Sh σ b->Sh σ c->eB a b=some true->eB b c=some true->eB a c=some true
 | _,_,_,_,.nil,.nil,.nil,h,_=>by rw [Ck] at h; cases h
 | _,_,_,_,.int i h,.int j h',.int k h'',q,q'=>by
  rw [oh] at q q' ⊢
  by_cases e:i=j
  ·subst e
   rw [if_pos rfl] at q
   by_cases e':i=k
   ·subst e'
    rw [if_pos rfl] at q' ⊢
    exact mU h h' h'' q q'
   ·rw [if_neg e'] at q' ⊢
    exact q'
  ·rw [if_neg e] at q
   have q1:=of_decide_eq_true (Option.some.inj q)
   by_cases e':j=k
   ·subst e'
    rw [if_neg e,decide_eq_true q1]
   ·rw [if_neg e'] at q'
    have q2:=of_decide_eq_true (Option.some.inj q')
    rw [if_neg ‹0›,decide_eq_true ‹0›]
 | _,_,_,_,.str i h,.str j h',.str k h'',q,q'=>by
  rw [og] at q q' ⊢
  by_cases e:i=j
  ·subst e
   rw [if_pos rfl] at q
   by_cases e':i=k
   ·subst e'
    rw [if_pos rfl] at q' ⊢
    exact mU h h' h'' q q'
   ·rw [if_neg e'] at q' ⊢
    exact q'
  ·rw [if_neg e] at q
   have q1:=of_decide_eq_true (Option.some.inj q)
   by_cases e':j=k
   ·subst e'
    rw [if_neg e,decide_eq_true q1]
   ·rw [if_neg e'] at q'
    have q2:=of_decide_eq_true (Option.some.inj q')
    rw [if_neg (show ¬ i=k from fun z=>by rw [z] at q1; exact rB _ (lQ q1 q2)),decide_eq_true (lQ q1 q2)]
theorem xx {σ:List Bool} {a b:List D} (h:Sh σ a) (h':Sh σ b) (q:eB a b=some true):eB b a=some false:=by
 rcases mN h h' with ⟨_,q2,_⟩ | e | ⟨_,q2,_⟩
 ·exact q2
 ·subst e; rw [mV h] at q; cases q
 ·rw [q2] at q; cases q
def kLt (a b:List D):Bool:=eB a b==some true
theorem Ef {a b:List D}:kLt a b=true↔eB a b=some true:=by unfold kLt; simp
section
variable {α:Type}
def A2 (key:α->List D) (x:α):List α->List α
 | []=>[x]
 | y::ys=>if kLt (key x) (key y) then x::y::ys else y::A2 key x ys
def jV (key:α->List D):List α->List α
 | []=>[]
 | x::xs=>A2 key x (jV key xs)
theorem pH (key:α->List D) (x:α):∀ ys:List α,(A2 key x ys).Perm (x::ys)
 | []=>.refl _
 | y::ys=>by
  unfold A2
  split
  ·exact .refl _
  ·exact(List.Perm.cons y (pH key x ys)).trans (.swap x y ys)
theorem gh (key:α->List D):∀ xs:List α,(jV key xs).Perm xs
 | []=>.refl _
 | x::xs=>(pH key x _).trans (.cons x (gh key xs))
def xk (key:α->List D) (xs:List α):Prop:=xs.Pairwise fun x y=>eB (key x) (key y)=some true
theorem vX {key:α->List D} {σ:List Bool} {x:α} (hx:Sh σ (key x)):∀ {ys:List α},(∀ y∈ys,Sh σ (key y)/\key x≠key y)->xk key ys->xk key (A2 key x ys)
 | [],_,_=>Om _ _
 | y::ys,h,p=>by
  have p':=List.pairwise_cons.mp p
  obtain⟨hy,ne⟩:=h y MJ
  unfold A2
  split
  ·rename_i q
   have q:=Ef.mp q
   refine List.pairwise_cons.mpr ⟨fun z hz=>?_,p⟩
   rcases List.mem_cons.mp hz with rfl | hz
   ·exact q
   ·exact mU hx hy (h z (MK _ hz)).1 q (p'.1 z hz)
  ·rename_i q
   have q:eB (key y) (key x)=some true:=by
    rcases mN hx hy with ⟨z,_⟩ | z | ⟨z,_⟩
    ·exact absurd (Ef.mpr z) q
    ·exact absurd z ne
    ·exact z
   refine List.pairwise_cons.mpr ⟨fun z hz=>?_,vX hx (fun z hz=>h z (MK _ hz)) p'.2⟩
   rcases List.mem_cons.mp ((pH key x ys).mem_iff.mp hz) with rfl | hz
   ·exact q
   ·exact p'.1 z hz
theorem o7 {key:α->List D} {σ:List Bool}:∀ {xs:List α},(∀ x∈xs,Sh σ (key x))->xs.Pairwise (fun x y=>key x≠key y)->xk key (jV key xs)
 | [],_,_=>List.Pairwise.nil
 | x::xs,h,p=>by
  have p':=List.pairwise_cons.mp p
  refine vX (h x MJ) (fun y hy=>?_) (o7 (fun y hy=>h y (MK _ hy)) p'.2)
  have hy:=(gh key xs).mem_iff.mp hy
  exact⟨h y (MK _ hy),p'.1 y hy⟩
theorem zD {key:α->List D} {σ:List Bool}:∀ {xs ys:List α},(∀ x∈xs,Sh σ (key x))->xk key xs->xk key ys->xs.Perm ys->xs=ys
 | [],ys,_,_,_,e=>(List.perm_nil.mp e.symm).symm
 | x::xs,[],_,_,_,e=>List.perm_nil.mp e
 | x::xs,y::ys,h,p,q,e=>by
  have p':=List.pairwise_cons.mp p
  have q':=List.pairwise_cons.mp q
  have exy:x=y:=by
   rcases List.mem_cons.mp (e.mem_iff.mp MJ) with z | z
   ·exact z
   ·have w1:=q'.1 x z
    rcases List.mem_cons.mp (e.symm.mem_iff.mp MJ) with z' | z'
    ·exact z'.symm
    ·have w2:=p'.1 y z'
     have:=xx (h x MJ) (h y (MK _ z')) w2
     rw [w1] at this; cases this
  subst exy
  rw [zD (fun z hz=>h z (MK _ hz)) p'.2 q'.2 (List.Perm.cons_inv e)]
theorem wU {key:α->List D} {σ:List Bool} {xs ys:List α} (h:∀ x∈xs,Sh σ (key x)) (p:xs.Pairwise fun x y=>key x≠key y) (q:xk key ys) (e:ys.Perm xs):jV key xs=ys :=
 zD (fun x hx=>h x ((gh key xs).mem_iff.mp hx)) (o7 h p) q ((gh key xs).trans e.symm)
def rank (ks:List (List D)) (i:Nat):Nat:=(ks.filter fun k=>kLt k (ks.getD i [])).length
theorem vc {ks:List (List D)} {σ:List Bool} (h:∀ k∈ks,Sh σ k) {i j:Nat} (hi:i < ks.length) (hj:j < ks.length):decide (rank ks i < rank ks j)=kLt (ks.getD i []) (ks.getD j []):=by
 have gi:ks.getD i []=ks[i]:=by simp [hi]
 have gj:ks.getD j []=ks[j]:=by simp [hj]
 have mono:∀ a b:List D,Sh σ a->Sh σ b->eB a b=some true->∀ l:List (List D),(∀ k∈l,Sh σ k)->(l.filter fun k=>kLt k a).length<=(l.filter fun k=>kLt k b).length/\(a∈l->(l.filter fun k=>kLt k a).length < (l.filter fun k=>kLt k b).length):=by
  intro a b ha hb hab l
  induction l with
  | nil=>exact fun _=>⟨MP _,fun z=>nomatch z⟩
  | cons k l ih =>
   intro hl
   obtain⟨i1,i2⟩:=ih fun z hz=>hl z (MK _ hz)
   have hk:=hl k MJ
   by_cases q:kLt k a=true
   ·have q':kLt k b=true:=Ef.mpr (mU hk ha hb (Ef.mp q) hab)
    rw [Oo (p:=fun k=>kLt k a) q,Oo (p:=fun k=>kLt k b) q',MV,MV]
    refine⟨by omega,fun z=>?_⟩
    rcases List.mem_cons.mp z with rfl | z
    ·rw [Ef,mV ha] at q; cases q
    ·have:=i2 z; omega
   ·rw [Oq (p:=fun k=>kLt k a) q]
    by_cases q':kLt k b=true
    ·rw [Oo (p:=fun k=>kLt k b) q',MV]
     exact⟨by omega,fun _=>by omega⟩
    ·rw [Oq (p:=fun k=>kLt k b) q']
     refine⟨i1,fun z=>?_⟩
     rcases List.mem_cons.mp z with rfl | z
     ·exact absurd (Ef.mpr hab) q'
     ·exact i2 z
 unfold rank
 rw [gi,gj]
 have hi':=h _ (Ot hi)
 have hj':=h _ (Ot hj)
 rcases mN hi' hj' with ⟨z,_⟩ | z | ⟨z,z',_⟩
 ·rw [Ef.mpr z]
  exact decide_eq_true ((mono _ _ hi' hj' z ks h).2 (Ot hi))
 ·rw [z]
  have:kLt ks[j] ks[j]=false:=by unfold kLt; rw [mV hj']; rfl
  rw [this]
  exact decide_eq_false (ME _)
 ·have e:kLt ks[i] ks[j]=false:=by unfold kLt; rw [z']; rfl
  rw [e]
  exact decide_eq_false (Nat.not_lt.mpr (mono _ _ hj' hi' z ks h).1)
end
section
variable {cmp:Nat->Nat->(Bool->Qy->Prop)->Qy->Prop} {r:Nat->Nat} {N:Nat}
def ni (cmp:Nat->Nat->(Bool->Qy->Prop)->Qy->Prop) (r:Nat->Nat) (N:Nat) (s:Qy):Prop:=∀ (i j:Nat) (C:Bool->Qy->Prop),i < N->j < N->C (decide (r i < r j)) s->cmp i j C s
def PM (N:Nat) (p:Array Nat):Prop:=p.Perm (List.toArray (List.range N))
theorem PM.size {p:Array Nat} (h:PM N p):p.size=N:=by
 have:=h.size_eq; simpa using this
theorem PM.lt {p:Array Nat} (h:PM N p) {i:Nat} (hi:i < N):p.getD i 0 < N:=by
 have hs:=h.size
 have e:p.getD i 0=p[i]'‹0›:=by simp [Array.getD,hs,hi]
 rw [e]
 have m:p[i]'‹0›∈p:=Array.getElem_mem _
 have:=(h.mem_iff (a:=p[i]'‹0›)).mp m
 simpa using this
theorem PM.rev {p:Array Nat} (h:PM N p) (i j:Nat):PM N (kas_rev p i j):=(mirror_perm p i j _).trans h
abbrev Rk (r:Nat->Nat) (p:Array Nat) (i:Nat):Nat:=r (p.getD i 0)
theorem vm {p:Array Nat} {i j:Nat} (hj:j<=p.size) (k:Nat):Rk r (kas_rev p i j) k=if i<=k/\k < j then Rk r p (i+j - 1 - k) else Rk r p k:=by
 have e:=getElem?_mirror_all (xs:=p) (i:=i) (j:=j) hj k
 have g:∀ (q:Array Nat) (k:Nat),q.getD k 0=(q[k]?).getD 0:=fun q k=>by simp
 show r ((kas_rev p i j).getD k 0)=_
 rw [g]
 show r (((mirror p i j ((j - i) / 2))[k]?).getD 0)=_
 rw [e]
 split
 ·show _=r (p.getD _ 0); rw [g]
 ·show _=r (p.getD _ 0); rw [g]
theorem B2 {p:Array Nat} {src d:Nat} (hs:src < p.size) (hd:d<=src) (k:Nat):Rk r (bubble p src d) k=if k=src - d then Rk r p src else if src - d < k/\k<=src then Rk r p (k - 1) else Rk r p k:=by
 have e:=getElem?_bubble (xs:=p) hs d hd k
 have g:∀ (q:Array Nat) (k:Nat),q.getD k 0=(q[k]?).getD 0:=fun q k=>by simp
 show r ((bubble p src d).getD k 0)=_
 rw [g,e]
 split
 ·show _=r (p.getD _ 0); rw [g]
 ·split
  ·show _=r (p.getD _ 0); rw [g]
  ·show _=r (p.getD _ 0); rw [g]
def Up (r:Nat->Nat) (p:Array Nat) (k:Nat):Prop:=∀ i j,i<=j->j < k->Rk r p i<=Rk r p j
def Dn (r:Nat->Nat) (p:Array Nat) (k:Nat):Prop:=∀ i j,i<=j->j < k->Rk r p j<=Rk r p i
variable {s:Qy}
theorem yc (hc:ni cmp r N s) {p:Array Nat} (hp:PM N p) {G:Nat->Qy->Prop}:∀ (f n:Nat),1<=n->n+f<=N->Up r p n->(∀ m,n<=m->m<=n+f->Up r p m->(m=n+f\/Rk r p m < Rk r p (m - 1))->G m s)->(kas_asc p f n).kasWp cmp G s
 | 0,n,_,_,u,h=>h n (MP _) (MP _) u (.inl rfl)
 | f+1,n,h1,h2,u,h=>by
  refine hc _ _ _ (hp.lt ‹0›) (hp.lt ‹0›) ?_
  by_cases q:Rk r p n < Rk r p (n - 1)
  ·rw [decide_eq_true q]; dsimp only; rw [if_pos rfl]
   exact h n (MP _) ‹0› u (.inr q)
  ·rw [decide_eq_false q]; dsimp only; rw [if_neg MU]
   refine yc hc hp f (n+1) ‹0› ‹0› (fun i j hij hj=>?_) fun m a b=>?_
   ·by_cases hjn:j < n
    ·exact u i j hij hjn
    ·have ej:j=n:=by omega
     subst ej
     by_cases ei:i=j
     ·subst ei; exact MP _
     ·have:=u i (j - 1) ‹0› ‹0›
      omega
   ·intro um hm
    exact h m ‹0› ‹0› um (by rcases hm with z | z; exact .inl ‹0›; exact .inr z)
theorem Cr {p:Array Nat} {n q:Nat} (hn:n<=p.size) (hq:q+1<=n) (he:∀ i,n - (q+1)<=i->i < n->Rk r p i=Rk r p (n - 1)) (k:Nat):Rk r (kas_rev p (n - (q+1)) n) k=Rk r p k:=by
 rw [vm hn]
 split
 ·rename_i h
  rw [he _ ‹0› ‹0›,he k h.1 h.2]
 ·rfl
theorem qw (hc:ni cmp r N s) {G:Array Nat×Nat×Nat->Qy->Prop}:∀ (f:Nat) (p:Array Nat) (n q:Nat),PM N p->1<=n->n+f<=N->Dn r p n->q+1<=n->(∀ i,n - (q+1)<=i->i < n->Rk r p i=Rk r p (n - 1)) ->
  (∀ p' m q',PM N p'->n<=m->m<=n+f->Dn r p' m->q'+1<=m->(∀ i,m - (q'+1)<=i->i < m->Rk r p' i=Rk r p' (m - 1))->G (p',m,q') s)->(kas_desc f p n q).kasWp cmp G s
 | 0,p,n,q,hp,_,_,d,hq,he,h=>h p n q hp (MP _) (MP _) d hq he
 | f+1,p,n,q,hp,h1,h2,d,hq,he,h=>by
  have hs:=hp.size
  have step:∀ p',(∀ k,Rk r p' k=Rk r p k)->Rk r p n<=Rk r p (n - 1)->Dn r p' (n+1):=fun p' hk hl i j hij hj=>by
   rw [hk,hk]
   by_cases hjn:j < n
   ·exact d i j hij hjn
   ·have ej:j=n:=by omega
    subst ej
    by_cases ei:i=j
    ·subst ei; exact MP _
    ·have:=d i (j - 1) ‹0› ‹0›
     omega
  refine hc _ _ _ (hp.lt ‹0›) (hp.lt ‹0›) ?_
  by_cases q1:Rk r p n < Rk r p (n - 1)
  ·rw [decide_eq_true q1]; dsimp only; rw [if_pos rfl]
   by_cases hq0:q > 0
   ·rw [if_pos hq0]
    refine qw hc f _ (n+1) 0 (hp.rev _ _) ‹0› ‹0› (step _ (Cr ‹0› hq he) ‹0›) ‹0› (fun i a b=>by rw [show i=n+1 - 1 by omega]) fun p' m q' a b c=>h p' m q' a ‹0› ‹0›
   ·rw [if_neg hq0]
    refine qw hc f _ (n+1) 0 hp ‹0› ‹0› (step _ (fun _=>rfl) ‹0›) ‹0› (fun i a b=>by rw [show i=n+1 - 1 by omega]) fun p' m q' a b c=>h p' m q' a ‹0› ‹0›
  ·rw [decide_eq_false q1]; dsimp only; rw [if_neg MU]
   refine hc _ _ _ (hp.lt ‹0›) (hp.lt ‹0›) ?_
   by_cases q2:Rk r p (n - 1) < Rk r p n
   ·rw [decide_eq_true q2]; dsimp only; rw [if_pos rfl]
    exact h p n q hp (MP _) ‹0› d hq he
   ·rw [decide_eq_false q2]; dsimp only; rw [if_neg MU]
    refine qw hc f _ (n+1) (q+1) hp ‹0› ‹0› (step _ (fun _=>rfl) ‹0›) ‹0› (fun i a b=>?_) fun p' m q' a b c=>h p' m q' a ‹0› ‹0›
    rw [show n+1 - 1=n by omega]
    by_cases ei:i=n
    ·subst ei; rfl
    ·have:=he i ‹0› ‹0›
     omega
theorem vP (hc:ni cmp r N s) {p:Array Nat} (hp:PM N p) {n:Nat} (h1:1<=n) (hn:n<=N) (d:Dn r p n) {G:Nat×Array Nat->Qy->Prop} (h:∀ m p',PM N p'->1<=m->m<=N->Up r p' m->G (m,p') s):(kas_tail3 n N p).kasWp cmp G s:=by
 unfold kas_tail3
 rw [KasT.kasWp_bind]
 have hs:=hp.size
 refine yc hc (hp.rev 0 n) _ _ h1 ‹0› (fun i j hij hj=>?_) fun m a b u _=>h m _ (hp.rev 0 n) ‹0› ‹0› u
 rw [vm ‹0›,vm ‹0›,if_pos ‹0›,if_pos ‹0›]
 exact d _ _ ‹0› ‹0›
theorem pQ (hc:ni cmp r N s) {p:Array Nat} (hp:PM N p) {n:Nat} (hn:n+1<=N) (d:Dn r p (n+1)) {G:Nat×Array Nat->Qy->Prop} (h:∀ m p',PM N p'->1<=m->m<=N->Up r p' m->G (m,p') s):(kas_descPart n N p).kasWp cmp G s:=by
 unfold kas_descPart
 rw [KasT.kasWp_bind]
 refine qw hc _ _ _ _ hp ‹0› ‹0› d ‹0› (fun i a b=>by rw [show i=n+1 - 1 by omega]) fun p' m q' hp' a b d' hq he=>?_
 have hs:=hp'.size
 dsimp only
 by_cases hq0:q' > 0
 ·rw [if_pos hq0]
  refine vP hc (hp'.rev _ _) ‹0› ‹0› (fun i j hij hj=>?_) h
  rw [Cr ‹0› hq he,Cr ‹0› hq he]
  exact d' i j hij hj
 ·rw [if_neg hq0]
  exact vP hc hp' ‹0› ‹0› d' h
theorem BL (hc:ni cmp r N s) (h1:1<=N) {p:Array Nat} (hp:PM N p) {G:Nat×Array Nat->Qy->Prop} (h:∀ m p',PM N p'->1<=m->m<=N->Up r p' m->G (m,p') s):(kas_count N p).kasWp cmp G s:=by
 unfold kas_count
 rw [KasT.kasWp_bind]
 have hs:=hp.size
 refine yc hc hp _ _ (MP _) ‹0› (fun i j hij hj=>by rw [show i=j by omega]; exact MP _) fun n a b u hor=>?_
 by_cases hn:n=N
 ·rw [if_pos (by simpa using hn)]
  exact h n p hp a ‹0› u
 ·rw [if_neg (by simpa using hn)]
  have hlt:Rk r p n < Rk r p (n - 1):=by
   rcases hor with z | z
   ·omega
   ·exact z
  by_cases hg:n > 1
  ·rw [if_pos hg]
   refine hc _ _ _ (hp.lt ‹0›) (hp.lt ‹0›) ?_
   by_cases q:Rk r p 0 < Rk r p (n - 1)
   ·rw [decide_eq_true q]; dsimp only; rw [if_pos rfl]
    exact h n p hp a ‹0› u
   ·rw [decide_eq_false q]; dsimp only; rw [if_neg MU]
    have hall:∀ k,k < n->Rk r p k=Rk r p (n - 1):=fun k hk=>by
     have a1:=u 0 k ‹0› hk
     have a2:=u k (n - 1) ‹0› ‹0›
     omega
    have hr:∀ k,Rk r (kas_rev p 0 n) k=Rk r p k:=fun k=>by
     rw [vm ‹0›]
     split
     ·rename_i z
      rw [hall _ ‹0›,hall k z.2]
     ·rfl
    refine pQ hc (hp.rev _ _) ‹0› (fun i j hij hj=>?_) h
    rw [hr,hr]
    by_cases hjn:j < n
    ·rw [hall i ‹0›,hall j hjn]; exact MP _
    ·have ej:j=n:=by omega
     subst ej
     by_cases ei:i=j
     ·subst ei; exact MP _
     ·rw [hall i ‹0›]; omega
  ·rw [if_neg hg]
   have en:n=1:=by omega
   subst en
   refine pQ hc hp ‹0› (fun i j hij hj=>?_) h
   by_cases ei:i=j
   ·subst ei; exact MP _
   ·have e0:i=0:=by omega
    have e1:j=1:=by omega
    subst e0 e1
    exact MH hlt
theorem qT (hc:ni cmp r N s) {p:Array Nat} (hp:PM N p) {k:Nat} (hk:k < N) (u:Up r p k) {G:Nat->Qy->Prop} (h:∀ l,l<=k->(∀ i,i < l->Rk r p i<=Rk r p k)->(∀ i,l<=i->i < k->Rk r p k < Rk r p i)->G l s) :
  ∀ (f l t:Nat),t - l<=f->l<=t->t<=k->(∀ i,i < l->Rk r p i<=Rk r p k)->(∀ i,t<=i->i < k->Rk r p k < Rk r p i)->(kas_place p k f l t).kasWp cmp G s
 | 0,l,t,a,b,c,d,e=>h l ‹0› d fun i x y=>e i ‹0› y
 | f+1,l,t,a,b,c,d,e=>by
  unfold kas_place
  by_cases hl:l>=t
  ·rw [if_pos hl]
   exact h l ‹0› d fun i x y=>e i ‹0› y
  ·rw [if_neg hl]
   refine hc _ _ _ (hp.lt hk) (hp.lt ‹0›) ?_
   by_cases q:Rk r p k < Rk r p ((l+t) / 2)
   ·rw [decide_eq_true q]; dsimp only; rw [if_pos rfl]
    refine qT hc hp hk u h f l ((l+t) / 2) ‹0› ‹0› ‹0› d fun i x y=>?_
    have:=u ((l+t) / 2) i x y
    omega
   ·rw [decide_eq_false q]; dsimp only; rw [if_neg MU]
    refine qT hc hp hk u h f ((l+t) / 2+1) t ‹0› ‹0› ‹0› (fun i x=>?_) e
    have:=u i ((l+t) / 2) ‹0› ‹0›
    omega
theorem Dj (hc:ni cmp r N s) {G:Array Nat->Qy->Prop} (h:∀ p,PM N p->Up r p N->G p s):∀ (f:Nat) (p:Array Nat) (k:Nat),PM N p->k+f=N->Up r p k->(kas_bin f p k).kasWp cmp G s
 | 0,p,k,hp,e,u=>h p hp (by rw [<- e]; exact u)
 | f+1,p,k,hp,e,u=>by
  unfold kas_bin
  rw [KasT.kasWp_bind]
  have hs:=hp.size
  refine qT hc hp ‹0› u (fun l hl d e'=>?_) k 0 k ‹0› (M0 _) (MP _) (fun i x=>by omega) fun i x y=>by omega
  refine Dj hc h f _ (k+1) ((bubble_perm p k _).trans hp) ‹0› fun i j hij hj=>?_
  rw [B2 ‹0› ‹0›,B2 ‹0› ‹0›,show k - (k - l)=l by omega]
  have U:=u
  by_cases i1:i=l
  ·rw [if_pos i1]
   by_cases j1:j=l
   ·rw [if_pos j1]; exact MP _
   ·rw [if_neg j1,if_pos ‹0›]
    exact MH (e' (j - 1) ‹0› ‹0›)
  ·rw [if_neg i1]
   by_cases i2:l < i/\i<=k
   ·rw [if_pos i2,if_neg ‹0›,if_pos ‹0›]
    exact U _ _ ‹0› ‹0›
   ·rw [if_neg i2]
    by_cases j1:j=l
    ·rw [if_pos j1]; exact d i ‹0›
    ·rw [if_neg j1]
     by_cases j2:l < j/\j<=k
     ·rw [if_pos j2]
      exact U _ _ ‹0› ‹0›
     ·rw [if_neg j2]
      exact U _ _ hij ‹0›
theorem EV (hc:ni cmp r N s) (h2:1<=N) {G:Array Nat->Qy->Prop} (h:∀ p,PM N p->Up r p N->G p s):(kas_sort N).kasWp cmp G s:=by
 unfold kas_sort
 rw [KasT.kasWp_bind]
 refine BL hc h2 (Array.Perm.refl _) fun m p' hp a b u=>?_
 dsimp only
 by_cases hm:m < N
 ·rw [if_pos hm,show max m 1=m by omega]
  exact Dj hc h _ p' m hp ‹0› u
 ·rw [if_neg hm]
  exact h p' hp (by rw [show N=m by omega]; exact u)
end
section
variable {prog:Qq} {w:Qp} {A:Qx} {E:Qo->Qy->Prop} {s:Qy}
theorem sJ {a:Qr} {vs:List Qo} {n:Nat} {P:PySem.Fin->Qy->Prop} {κ:SortKind} {r:Nat->Nat} (ho:s.heap.get? a=some (seqObj "list" vs.toArray n)) (h64:vs.length < 64)
  (hk:2<=vs.length->∀ h':Qt,(∀ b o,b≠a->s.heap.get? b=some o->h'.get? b=some o)->∀ (Q:SortKind->Qy->Prop),Q κ { s with heap:=h' }->QA (model prog w) A (keyKind' vs.toArray) Q E { s with heap:=h' })
  (hr:2<=vs.length->∀ h':Qt,(∀ b o,b≠a->s.heap.get? b=some o->h'.get? b=some o)->ni (kas_ask prog w A κ vs) r vs.length { s with heap:=h' })
  (h:∀ p:Array Nat,PM vs.length p->Up r p vs.length->P (.done (.ret .none)) { s with heap:=sortedHeap s.heap a vs (List.toArray (p.toList.map fun i=>vs.getD i Value.none)) }) :
  QA (model prog w) A (Builtin.«list.sort» ⟨[.ref a],[]⟩) P E s:=by
 rw [list_sort_plain]
 have ha:a < s.heap.objs.size:=PV ho
 refine QI (listItems_at ho rfl ?_)
 refine QI (RB ho rfl ?_ (by rw [MT,QR]; omega) (M0 _))
 obtain⟨e1,ho1⟩:∃ e1,(s.heap.update a (Obj.mapSeq fun _=>(#[]:Array Qo))).get? a=some (seqObj "list" #[] e1):=⟨_,get?_update_seq ho (fun _=>#[])⟩
 refine QI (seqEpoch_at ho1 rfl ?_)
 refine QI (Rx ?_ (by show vs.length<=_; rw [QR]; omega))
 refine QI (wpAny_newList ?_ (M0 _))
 refine Q9 ?_
 have ho6:(((s.heap.update a (Obj.mapSeq fun _=>(#[]:Array Qo))).push (seqObj "tuple" vs.toArray 0)).push (seqObj "list" #[] 0)).get? a=some (seqObj "list" #[] e1):=by
  rw [P8 _ _ _ (by rw [size_push',Heap.size_update]; exact MF (Nw ha)),P8 _ _ _ (by rw [Heap.size_update]; exact MF ha)]
  exact ho1
 have kept:∀ b o,b≠a->s.heap.get? b=some o->(((s.heap.update a (Obj.mapSeq fun _=>(#[]:Array Qo))).push (seqObj "tuple" vs.toArray 0)).push (seqObj "list" #[] 0)).get? b=some o:=fun b o hb e =>
  PZ _ (PZ _ (by rw [Heap.get?_update_ne _ _ _ _ hb]; exact e))
 show QA (model prog w) A _ P E { s with heap:=((s.heap.update a (Obj.mapSeq fun _=>(#[]:Array Qo))).push (seqObj "tuple" vs.toArray 0)).push (seqObj "list" #[] 0) }
 dsimp only
 have hsz:vs.toArray.size=vs.length:=by simp
 by_cases h2:vs.toArray.size < 2
 ·rw [if_pos h2,if_pos h2]
  refine QI (QH ?_)
  rw [StateT.run_pure]
  refine QI (QH ?_)
  dsimp only
  refine QI (seqEpoch_at ho6 rfl ?_)
  have hout:(arrOf (SortSt.mk' general' (vs.toArray.zip vs.toArray) #[] 7 none)).map (·.2)=List.toArray ((List.toArray (List.range vs.length)).toList.map fun i=>vs.getD i Value.none):=by
   refine kat_snds rfl ?_
   show vs.toArray.zip vs.toArray=_
   have e:=kas_range (vs.toArray.zip vs.toArray)
   rw [show (vs.toArray.zip vs.toArray).size=vs.length by simp] at e
   exact e.symm
  rw [hout]
  refine QI (RB ho6 rfl ?_ (M0 _) (by rw [MT,MY,QR]; simp; omega))
  simp only [bne_self_eq_false,Nv,if_false]
  refine QH (h _ (Array.Perm.refl _) fun i j hij hj=>?_)
  have:i=j:=by omega
  subst this; exact MP _
 ·rw [if_neg h2,if_neg h2]
  have h2':2<=vs.length:=by omega
  refine QI (hk h2' _ kept _ ?_)
  refine QI (QE (kat_run (Q:=fun st' s'=>∃ p:Array Nat,arrOf st'=p.map (kas_item (vs.toArray.zip vs.toArray))/\failedOf st'=none/\PM vs.length p/\Up r p vs.length/\s'={ s with heap:=((s.heap.update a (Obj.mapSeq fun _=>(#[]:Array Qo))).push (seqObj "tuple" vs.toArray 0)).push (seqObj "list" #[] 0) })
   (G:=fun p s'=>PM vs.length p/\Up r p vs.length/\s'={ s with heap:=((s.heap.update a (Obj.mapSeq fun _=>(#[]:Array Qo))).push (seqObj "tuple" vs.toArray 0)).push (seqObj "list" #[] 0) })
   rfl h2' h64 (fun p' st' s' a1 a2 a3 a4=>⟨p',a2,a3,a4.1,a4.2.1,a4.2.2⟩) (EV (hr h2' _ kept) ‹0› fun p hp hu=>⟨hp,hu,rfl⟩)) ?_ fun _ _ e=>e)
  rintro⟨⟨⟩,st'⟩ s' ⟨p,har,hf,hp,hu,rfl⟩
  dsimp only
  refine QI (seqEpoch_at ho6 rfl ?_)
  have hout:=kat_snds rfl har
  rw [hout]
  refine QI (RB ho6 rfl ?_ (M0 _) (by rw [MT,MY,Array.length_toList,hp.size,QR]; omega))
  rw [hf]
  simp only [bne_self_eq_false,Nv,if_false]
  exact QH (h p hp hu)
theorem qE {src:Qo} {vs:List Qo} {Q:Qo->Qy->Prop} {κ:SortKind} {r:Nat->Nat} (h64:vs.length < 64)
  (hcol:∀ (Q':List Qo->Qy->Prop),(∀ h' tk,(∀ b o,s.heap.get? b=some o->h'.get? b=some o)->Q' vs { s with heap:=h',toks:=tk })->QA (model prog w) A.in1 (collect src) Q' E s)
  (hk:2<=vs.length->∀ (h':Qt) (tk:Nat),(∀ b o,s.heap.get? b=some o->h'.get? b=some o)->∀ (Q:SortKind->Qy->Prop),Q κ { s with heap:=h',toks:=tk }->QA (model prog w) A.in1.in1 (keyKind' vs.toArray) Q E { s with heap:=h',toks:=tk })
  (hr:2<=vs.length->∀ (h':Qt) (tk:Nat),(∀ b o,s.heap.get? b=some o->h'.get? b=some o)->ni (kas_ask prog w A.in1.in1 κ vs) r vs.length { s with heap:=h',toks:=tk })
  (h:∀ (p:Array Nat) (h1 h':Qt) (l:Qr) (e tk:Nat),PM vs.length p->Up r p vs.length->(∀ b o,s.heap.get? b=some o->h1.get? b=some o)->(∀ b o,h1.get? b=some o->h'.get? b=some o)->h1.objs.size<=l->h'.get? l=some (seqObj "list" (List.toArray (p.toList.map fun i=>vs.getD i Value.none)) e)->Q (.ref l) { s with heap:=h',toks:=tk }) :
  QA (model prog w) A (call (.builtin "sorted") [src]) Q E s:=by
 refine Calls.call_function_entry kind_sorted plain_sorted entry_sorted (args_sorted1 _) ?_
 unfold Builtin.«sorted»
 refine QI (m:=checkCount "sorted" 1 1 _) (QH ?_)
 refine QI (hcol _ fun h1 tk k1=>?_)
 refine QI (wpAny_newList ?_ (by rw [QR]; omega))
 have hoL:(h1.push (seqObj "list" vs.toArray 0)).get? h1.objs.size=some (seqObj "list" vs.toArray 0):=P0 _ rfl
 have k2:∀ b o,s.heap.get? b=some o->(h1.push (seqObj "list" vs.toArray 0)).get? b=some o:=fun b o e=>PZ _ (k1 b o e)
 have ne:∀ b o,s.heap.get? b=some o->b≠h1.objs.size:=fun b o e=>MF (PV (k1 b o e))
 refine QI (Q9 (Rb slot_list_sort ⟨_,hoL,rfl⟩ entry_list_sort (sJ (s:={ s with heap:=h1.push (seqObj "list" vs.toArray 0),toks:=tk }) (r:=r) (κ:=κ) hoL h64
  (fun h2 h' k=>hk h2 h' tk fun b o e=>k b o (ne b o e) (k2 b o e)) (fun h2 h' k=>hr h2 h' tk fun b o e=>k b o (ne b o e) (k2 b o e)) fun p hp hu=>⟨_,rfl,?_⟩) (args_list_sort _)))
 refine QH ⟨_,rfl,?_⟩
 obtain⟨e,he⟩:=sortedHeap_at (vs:=vs) (out:=List.toArray (p.toList.map fun i=>vs.getD i Value.none)) hoL
 exact h p h1 _ h1.objs.size e tk hp hu k1 (fun b o q=>by rw [sortedHeap_old (MF (PV q)) (by rw [size_push']; exact Nw (PV q))]; exact PZ _ q) (MP _) he
end
def dU:D->List D
 | .tup ks=>ks
 | _=>[]
def oneOf (d:D):List D:=[d]
def Gq (xs:List D):Prop:=xs.length < 64/\∃ σ:List Bool,σ≠[]/\(∀ x∈xs,∃ k,x=.tup k/\Sh σ k)/\xs.Pairwise fun x y=>dU x≠dU y
def IB (xs:List D):Prop:=xs.length < 64/\∃ b:Bool,(∀ x∈xs,Sh [b] [x])/\xs.Pairwise fun x y=>oneOf x≠oneOf y
open Classical in
noncomputable def pM (xs:List D):Option D:=if Gq xs then some (.lst (jV dU xs)) else if IB xs then some (.lst (jV oneOf xs)) else none
noncomputable def e7:List D->Option D
 | [.lst xs]=>pM xs
 | [.tup xs]=>pM xs
 | _=>none
theorem lA {prog:Qq} {w:Qp} {A:Qx} {s:Qy} {Q:Bool->Qy->Prop} {fin:Bool} (hf:fin=false):∀ {σ:List Bool} {ns ms:List D} {xs ys:List Qo} {i:Nat},Sh σ ns->Sh σ ms->ia xs ns->ia ys ms->Q (kLt ns ms) s->KatLex prog w A true fin Q (xs.zip ys) i s
 | _,_,_,_,_,i,.nil,.nil,.nil,.nil,h=>by
  subst hf
  exact kat_nil (by simpa [kLt,eB] using h)
 | _,_,_,_,_,i,.int a h1,.int c h2,.int _ t f1,.int _ u f2,h=>by
  rw [N8]
  obtain⟨e,he,hiff⟩:=EZ A s a t c u
  refine kat_cons (he prog w _ _ ?_)
  cases e with
  | true =>
   have ac:=hiff.mp rfl
   refine kat_yes (lA hf h1 h2 f1 f2 ?_)
   unfold kLt at h ⊢
   rw [oh,if_pos ac] at h
   exact h
  | false =>
   have ac:¬ a=c:=fun q=>absurd (hiff.mpr q) MU
   have h':Q (decide (a < c)) s:=by
    unfold kLt at h
    rw [oh,if_neg ac] at h
    cases hd:decide (a < c) <;> rw [hd] at h <;> exact h
   refine kat_no ?_
   cases hi:(i==0) with
   | true=>exact oneLt_int h'
   | false=>exact kat_one _ _ (PySem.P.lt_int (show PN Q (.bool _) s from h'))
 | _,_,_,_,_,i,.str a h1,.str c h2,.str _ t f1,.str _ u f2,h=>by
  rw [N8]
  obtain⟨e,he,hiff⟩:=Fk A s a t c u
  refine kat_cons (he prog w _ _ ?_)
  cases e with
  | true =>
   have ac:=hiff.mp rfl
   refine kat_yes (lA hf h1 h2 f1 f2 ?_)
   unfold kLt at h ⊢
   rw [og,if_pos ac] at h
   exact h
  | false =>
   have ac:¬ a=c:=fun q=>absurd (hiff.mpr q) MU
   have h':Q (decide (a.cps.toList < c.cps.toList)) s:=by
    unfold kLt at h
    rw [og,if_neg ac] at h
    cases hd:decide (a.cps.toList < c.cps.toList) <;> rw [hd] at h <;> exact h
   refine kat_no ?_
   cases hi:(i==0) with
   | true=>exact oneLt_str h'
   | false=>exact kat_one _ _ (PySem.P.lt_str (show PN Q (.bool _) s from h'))
theorem rk {h:Qt} {PT:Qo->Prop}:∀ {its:List Qo},(∀ v∈its,∃ a o xs n f,v=.ref a/\h.get? a=some o/\o.cls=.type "tuple"/\o.data=.seq xs n/\xs[0]?=some f/\PT f)->∃ fs,KatTups h its fs/\fs.length=its.length/\∀ f∈fs,PT f
 | [],_=>⟨[],.nil,rfl,fun _ h=>nomatch h⟩
 | v::its,hh=>by
  obtain⟨a,o,xs,n,f,rfl,h1,h2,h3,h4,h5⟩:=hh v MJ
  obtain⟨fs,k1,k2,k3⟩:=rk (its:=its) fun u hu=>hh u (MK _ hu)
  refine⟨f::fs,.cons h1 h2 h3 h4 k1,by rw [MV,MV,k2],fun g hg=>?_⟩
  rcases List.mem_cons.mp hg with rfl | z
  ·exact h5
  ·exact k3 g z
theorem ia.first {σ:List Bool} {b:Bool} {xs:List Qo} {ns:List D} (f:ia xs ns) (h:Sh (b::σ) ns):∃ v,xs[0]?=some v/\typeOf v=pure (.type (if b then "int" else "str")):=by
 cases f with
 | nil=>cases h
 | int i t f=>cases h; exact⟨_,rfl,rfl⟩
 | str i t f=>cases h; exact⟨_,rfl,rfl⟩
theorem wW {key:D->List D} {σ:List Bool} {ds:List D} (h:∀ x∈ds,Sh σ (key x)) (pw:ds.Pairwise fun x y=>key x≠key y) {p:Array Nat} (hp:PM ds.length p) (hu:Up (rank (ds.map key)) p ds.length):p.toList.map (fun i=>ds.getD i .non)=jV key ds:=by
 have hr:p.toList.Perm (List.range ds.length):=by
  have:=Array.perm_iff_toList_perm.mp hp
  simpa using this
 have hmap:(List.range ds.length).map (fun i=>ds.getD i .non)=ds:=by
  apply List.ext_getElem
  ·simp
  ·intro i h1 h2
   simp at h1
   simp [h1]
 have hperm:(p.toList.map fun i=>ds.getD i .non).Perm ds:=by
  have:=hr.map (fun i=>ds.getD i .non)
  rwa [hmap] at this
 have hn:p.toList.Nodup:=hr.nodup_iff.mpr List.nodup_range
 refine(wU h pw ?_ hperm).symm
 have hl:p.toList.length=ds.length:=by rw [hr.length_eq,NT]
 have kd:∀ i,i < ds.length->(ds.map key).getD i []=key (ds.getD i .non):=fun i hi=>by simp [hi]
 have hsh:∀ k∈ds.map key,Sh σ k:=fun k hk=>by
  obtain⟨x,hx,rfl⟩:=List.mem_map.mp hk
  exact h x hx
 unfold xk
 rw [Ou,List.pairwise_iff_getElem]
 intro i j hi hj hij
 have hi':p.toList[i] < ds.length:=by simpa using hr.mem_iff.mp (Ot hi)
 have hj':p.toList[j] < ds.length:=by simpa using hr.mem_iff.mp (Ot hj)
 have ne:p.toList[i]≠p.toList[j]:=List.pairwise_iff_getElem.mp hn i j hi hj hij
 have up:=hu i j ‹0› ‹0›
 have gi:p.getD i 0=p.toList[i]:=by
  have:i < p.size:=by rw [<- Array.length_toList]; exact hi
  simp [Array.getD,this]
 have gj:p.getD j 0=p.toList[j]:=by
  have:j < p.size:=by rw [<- Array.length_toList]; exact hj
  simp [Array.getD,this]
 unfold Rk at up
 rw [gi,gj] at up
 have rl:=vc hsh (i:=p.toList[j]) (j:=p.toList[i]) (by rw [MY]; exact hj') (by rw [MY]; exact hi')
 rw [kd _ hj',kd _ hi',decide_eq_false ‹0›] at rl
 have ei:ds.getD p.toList[i] .non=ds[p.toList[i]]:=by rw [Ov,NE hi']; rfl
 have ej:ds.getD p.toList[j] .non=ds[p.toList[j]]:=by rw [Ov,NE hj']; rfl
 have s1:=h _ (show ds.getD p.toList[i] .non∈ds by rw [ei]; exact Ot hi')
 have s2:=h _ (show ds.getD p.toList[j] .non∈ds by rw [ej]; exact Ot hj')
 rcases mN s1 s2 with ⟨z,_⟩ | z | ⟨z,_⟩
 ·exact z
 ·exfalso
  have pw':=List.pairwise_iff_getElem.mp pw
  rw [ei,ej] at z
  rcases Nat.lt_or_gt_of_ne ne with q | q
  ·exact pw' _ _ hi' hj' q z
  ·exact pw' _ _ hj' hi' q z.symm
 ·rw [Ef.mpr z] at rl; cases rl
theorem tP {vs:List V} {us:List Qo} (r:Vals vs us):∀ l:List Nat,(∀ i∈l,i < vs.length)->Vals (l.map fun i=>vs.getD i .non) (l.map fun i=>us.getD i Value.none)
 | [],_=>.nil
 | i::l,h=>by
  have hi:=h i MJ
  obtain⟨u,e,q⟩:=r.get (i:=i) (x:=vs[i]) (by simp [hi])
  refine .cons ?_ (tP r l fun j hj=>h j (MK _ hj))
  have e1:vs.getD i .non=vs[i]:=by simp [hi]
  have e2:us.getD i Value.none=u:=by simp [Ov,e]
  show L2.RelV (vs.getD i .non) (us.getD i Value.none)
  rw [e1,e2]; exact q
theorem tq {K:Pj} {H:Hp} {ds:List D} {vs:List V} (g:aY K H ds vs):∀ l:List Nat,(∀ i∈l,i < ds.length)->aY K H (l.map fun i=>ds.getD i .non) (l.map fun i=>vs.getD i .non)
 | [],_=>cR.mpr rfl
 | i::l,h=>by
  have hi:=h i MJ
  obtain⟨v,e,q⟩:=g.get (i:=i) (d:=ds[i]) (by simp [hi])
  refine bo.mpr ⟨_,_,rfl,?_,tq g l fun j hj=>h j (MK _ hj)⟩
  have e1:ds.getD i .non=ds[i]:=by simp [hi]
  have e2:vs.getD i .non=v:=by simp [Ov,e]
  show cQ K H (ds.getD i .non) (vs.getD i .non)
  rw [e1,e2]; exact q
section
variable {X:Cx} {pins:List (Qr×Obj)} {s:Qy} {σ:L2.St} {H:Hp} {O:List Qr}
theorem uA {u:Qo} {ds:List D} {vs:List V} {its:List Qo} {d:D} {Q:VK} (I:Inv X pins σ H s) (hO:eF H O) (dn:aY X.K (hid H O) ds vs) (rv:Vals vs its) (hs:pM ds=some d)
  (hcol:∀ (Q':List Qo->Qy->Prop),(∀ h' tk,(∀ b o,s.heap.get? b=some o->h'.get? b=some o)->Q' its { s with heap:=h',toks:=tk })->QA (model X.prog X.w) X.A.in1 (collect u) Q' X.xe s)
  (q:∀ v H',bm H H'->cQ X.K (hid H' O) d v->Q v H'):QA (model X.prog X.w) X.A (call (.builtin "sorted") [u]) (EP X pins σ Q) X.xe s:=by
 have l1:=dn.length
 have l2:=rv.length
 have fin:∀ (key:D->List D) (σ':List Bool),(∀ x∈ds,Sh σ' (key x))->ds.Pairwise (fun x y=>key x≠key y)->ds.length < 64->d=.lst (jV key ds)->∀ (p:Array Nat) (h1 h':Qt) (l:Qr) (e tk:Nat),PM its.length p->Up (rank (ds.map key)) p its.length->(∀ b o,s.heap.get? b=some o->h1.get? b=some o)->(∀ b o,h1.get? b=some o->h'.get? b=some o)->h1.objs.size<=l ->
   h'.get? l=some (seqObj "list" (List.toArray (p.toList.map fun i=>its.getD i Value.none)) e)->EP X pins σ Q (.ref l) { s with heap:=h',toks:=tk }:=by
  intro key σ' hsh pw h64 ed p h1 h' l e tk hp hu k1 k2 hl he
  have el:its.length=ds.length:=by omega
  rw [el] at hp hu
  have ps:=wW hsh pw hp hu
  have hr:p.toList.Perm (List.range ds.length):=by
   have:=Array.perm_iff_toList_perm.mp hp
   simpa using this
  have hlt:∀ i∈p.toList,i < ds.length:=fun i hi=>by simpa using hr.mem_iff.mp hi
  have I1:Inv X pins σ H { s with heap:=h1,toks:=tk }:=I.kept k1
  have hn:H l=none:=I1.hok.fresh hl
  have rv':=tP rv p.toList fun i hi=>by have:=hlt i hi; omega
  have dn':=tq dn p.toList hlt
  have hlen:p.toList.length=ds.length:=by rw [hr.length_eq,NT]
  refine⟨.ref l,_,Inv.laid (s:={ s with heap:=h1,toks:=tk }) (t':=tk) I1 k2 hl (show dm X.prog X.w _ h' _ (.lst (p.toList.map fun i=>vs.getD i .non)) from ⟨by rw [MY,hlen,QR]; omega,_,e,rv',he⟩),rfl,?_⟩
  refine q _ _ (cD hn _) ?_
  rw [ed,<- ps]
  exact fG hO hn dn'
 unfold pM at hs
 split at hs
 ·rename_i h
  cases hs
  obtain⟨h64,σ',hσ,hsh,pw⟩:=h
  obtain⟨b,σ1,rfl⟩:∃ b σ1,σ'=b::σ1:=by
   cases σ' with
   | nil=>exact absurd rfl hσ
   | cons b σ1=>exact⟨b,σ1,rfl⟩
  have hsh':∀ x∈ds,Sh (b::σ1) (dU x):=fun x hx=>by
   obtain⟨k,rfl,hk⟩:=hsh x hx
   exact hk
  have at':∀ i (hi:i < ds.length),∃ a o xs n,its[i]?=some (.ref a)/\s.heap.get? a=some o/\o.cls=.type "tuple"/\o.data=.seq xs n/\ia xs.toList (dU ds[i]):=fun i hi=>by
   obtain⟨v,e1,dv⟩:=dn.get (i:=i) (d:=ds[i]) (by simp [hi])
   obtain⟨w,e2,rw'⟩:=rv.get e1
   obtain⟨k,ek,hk⟩:=hsh _ (Ot hi)
   rw [ek] at dv ⊢
   obtain⟨a,ws,rfl,ha,dk⟩:=cV.mp dv
   cases rw'
   obtain⟨it2,r2,⟨o,ho,hc,n,hd⟩,_⟩:=I.tuple (cC (aI H O) ha)
   exact⟨a,o,_,n,e2,ho,hc,hd,by simpa [dU] using li (uG hk) dk r2⟩
  refine qE (κ:=tuples' true) (r:=rank (ds.map dU)) ‹0› hcol (fun h2 h' tk kp Q' hQ=>?_) (fun h2 h' tk kp i j C hi hj hC=>?_) (fin dU _ hsh' pw h64 rfl)
  ·obtain⟨fs,t1,t2,t3⟩:=rk (h:=h') (PT:=fun f=>typeOf f=pure (.type (if b then "int" else "str"))) (its:=its) fun v hv=>by
    obtain⟨i,hi,rfl⟩:=NM hv
    obtain⟨a,o,xs,n,e1,ho,hc,hd,ff⟩:=at' i ‹0›
    obtain⟨f,ef,tf⟩:=ff.first (hsh' _ (Ot _))
    refine⟨a,o,xs,n,f,?_,kp _ _ ho,hc,hd,by simpa using ef,tf⟩
    have:=NE hi
    rw [e1] at this
    exact(Option.some.inj this).symm
   refine kat_kind (T:=.type (if b then "int" else "str")) t1 ‹0› (fun f hf=>Looks.of_pure (t3 f hf)) (by cases b <;> rfl) ?_
   have:(Value.type (if b then "int" else "str") != Value.type "tuple")=true:=by cases b <;> rfl
   rw [this]; exact hQ
  ·obtain⟨a,o,xs,n,e1,ho,hc,hd,ff⟩:=at' i ‹0›
   obtain⟨a2,o2,xs2,n2,e2,ho2,hc2,hd2,ff2⟩:=at' j ‹0›
   unfold kas_ask
   have g1:its.getD i Value.none=.ref a:=by simp [Ov,e1]
   have g2:its.getD j Value.none=.ref a2:=by simp [Ov,e2]
   rw [g1,g2]
   have hi':i < ds.length:=by omega
   have hj':j < ds.length:=by omega
   have sh1:=hsh' _ (Ot hi')
   have sh2:=hsh' _ (Ot hj')
   have rl:=vc (ks:=ds.map dU) (σ:=b::σ1) (fun k hk=>by obtain⟨x,hx,rfl⟩:=List.mem_map.mp hk; exact hsh' x hx) (i:=i) (j:=j) (by rw [MY]; exact hi') (by rw [MY]; exact hj')
   have k1:(ds.map dU).getD i []=dU ds[i]:=by simp [hi']
   have k2:(ds.map dU).getD j []=dU ds[j]:=by simp [hj']
   rw [k1,k2] at rl
   rw [rl] at hC
   refine kat_lt (kp _ _ ho) hd (kp _ _ ho2) hd2 (lA ?_ sh1 sh2 ff ff2 hC)
   have z1:xs.size=(dU ds[i]).length:=by have:=ff.length; simpa using this
   have z2:xs2.size=(dU ds[j]).length:=by have:=ff2.length; simpa using this
   have z3:(dU ds[i]).length=(dU ds[j]).length:=by rw [Sh.length sh1,Sh.length sh2]
   exact decide_eq_false ‹0›
 ·split at hs
  ·rename_i _ h
   cases hs
   obtain⟨h64,b,hsh,pw⟩:=h
   have at':∀ i (hi:i < ds.length),(∃ (n:Int) (t:Tok),b=true/\its[i]?=some (.int n t)/\ds[i]=.int n)\/∃ (x:Str) (t:Tok),b=false/\its[i]?=some (.str x t)/\ds[i]=.str x:=fun i hi=>by
    obtain⟨v,e1,dv⟩:=dn.get (i:=i) (d:=ds[i]) (by simp [hi])
    obtain⟨w,e2,rw'⟩:=rv.get e1
    have hk:=hsh _ (Ot hi)
    generalize ds[i]=di at dv hk
    cases hk with
    | int n _ =>
     rw [e8] at dv; subst dv
     obtain⟨t,rfl⟩:=rw'
     exact .inl ⟨n,t,rfl,e2,rfl⟩
    | str x _ =>
     rw [eW] at dv; subst dv
     obtain⟨t,rfl⟩:=rw'
     exact .inr ⟨x,t,rfl,e2,rfl⟩
   refine qE (κ:=oneType') (r:=rank (ds.map oneOf)) ‹0› hcol (fun h2 h' tk kp Q' hQ=>?_) (fun h2 h' tk kp i j C hi hj hC=>?_) (fin oneOf [b] hsh pw h64 rfl)
   ·refine kas_kind (T:=.type (if b then "int" else "str")) h2 (fun v hv=>?_) (by cases b <;> rfl) (by cases b <;> rfl) hQ
    obtain⟨i,hi,rfl⟩:=NM hv
    have hg:=NE hi
    rcases at' i ‹0› with ⟨n,t,rfl,e,_⟩ | ⟨x,t,rfl,e,_⟩
    ·rw [hg] at e; rw [Option.some.inj e]; exact Looks.of_pure rfl
    ·rw [hg] at e; rw [Option.some.inj e]; exact Looks.of_pure rfl
   ·have hi':i < ds.length:=by omega
    have hj':j < ds.length:=by omega
    unfold kas_ask
    have rl:=vc (ks:=ds.map oneOf) (σ:=[b]) (fun k hk=>by obtain⟨x,hx,rfl⟩:=List.mem_map.mp hk; exact hsh x hx) (i:=i) (j:=j) (by rw [MY]; exact hi') (by rw [MY]; exact hj')
    have k1:(ds.map oneOf).getD i []=[ds[i]]:=by simp [hi',oneOf]
    have k2:(ds.map oneOf).getD j []=[ds[j]]:=by simp [hj',oneOf]
    rw [k1,k2] at rl
    rw [rl] at hC
    rcases at' i hi' with ⟨n,t,hb,e1,q1⟩ | ⟨x,t,hb,e1,q1⟩
    ·rcases at' j hj' with ⟨n2,t2,hb2,e2,q2⟩ | ⟨x2,t2,hb2,e2,q2⟩
     ·have g1:its.getD i Value.none=.int n t:=by simp [Ov,e1]
      have g2:its.getD j Value.none=.int n2 t2:=by simp [Ov,e2]
      rw [g1,g2,keyLt'_oneType]
      refine oneLt_int ?_
      rw [q1,q2] at hC
      unfold kLt at hC
      rw [oh] at hC
      by_cases z:n=n2
      ·rw [if_pos z] at hC
       rw [decide_eq_false ‹0›]
       exact hC
      ·rw [if_neg z] at hC
       cases hd:decide (n < n2) <;> rw [hd] at hC <;> exact hC
     ·rw [hb] at hb2; cases hb2
    ·rcases at' j hj' with ⟨n2,t2,hb2,e2,q2⟩ | ⟨x2,t2,hb2,e2,q2⟩
     ·rw [hb] at hb2; cases hb2
     ·have g1:its.getD i Value.none=.str x t:=by simp [Ov,e1]
      have g2:its.getD j Value.none=.str x2 t2:=by simp [Ov,e2]
      rw [g1,g2,keyLt'_oneType]
      refine oneLt_str ?_
      rw [q1,q2] at hC
      unfold kLt at hC
      rw [og] at hC
      by_cases z:x=x2
      ·rw [if_pos z] at hC
       rw [decide_eq_false (by rw [z]; exact rB _)]
       exact hC
      ·rw [if_neg z] at hC
       cases hd:decide (x.cps.toList < x2.cps.toList) <;> rw [hd] at hC <;> exact hC
  ·cases hs
theorem kL:dW X (.builtin "sorted") (xI X.K e7):=by
 intro pins s σ H xs us Q I r ⟨O,ds,d,hO,hd,hg,q⟩
 unfold e7 at hg
 split at hg
 ·obtain⟨v,rfl,h1⟩:=hd.one
  obtain⟨p,ws,rfl,g1,g2⟩:=cX.mp h1
  obtain⟨u,rfl,ru⟩:=vals1 r
  cases ru
  obtain⟨its,rv,pl,hz⟩:=I.list ((aI H O).seq g1)
  have hlen:=rv.length
  obtain⟨o,ho,hc,n,hd'⟩:=pl.isList
  exact uA I hO g2 rv hg (fun Q' hQ=>wpAny_collect_seq p (.inl rfl) ho hc hd' (fun h' k=>by simpa using hQ h' s.toks k) (by simp only [MT] <;> omega)) q
 ·obtain⟨v,rfl,h1⟩:=hd.one
  obtain⟨p,ws,rfl,g1,g2⟩:=cV.mp h1
  obtain⟨u,rfl,ru⟩:=vals1 r
  cases ru
  obtain⟨its,rv,⟨o,ho,hc,n,hd'⟩,hz⟩:=I.tuple (cC (aI H O) g1)
  have hlen:=rv.length
  exact uA I hO g2 rv hg (fun Q' hQ=>wpAny_collect_seq p (.inr rfl) ho hc hd' (fun h' k=>by simpa using hQ h' s.toks k) (by simp only [MT] <;> omega)) q
 ·cases hg
end
end TG
namespace TG
open PySem PySem.Spec L2
variable [aR]
section
variable {X:Cx} {tg:QB}
end
end TG
namespace TG
open PySem PySem.Spec L2
variable [aR]

end TG
namespace TG
open PySem PySem.Spec L2
variable [aR]
end TG
namespace TG
open PySem PySem.Spec L2
variable [aR]
def keyOf:D->Option Key
 | .int i=>some (.inl i)
 | .str x=>some (.inr x)
 | _=>none
def keysOf:List D->Option (List Key)
 | []=>some []
 | d::r=>(keyOf d).bind fun k=>(keysOf r).map (k::·)
def jE:D->Option (List Key)
 | .tup ds=>keysOf ds
 | _=>none
theorem qO {d:D} {k:Key} (h:keyOf d=some k):d=bv k:=by
 cases d with
 | int i=>cases h; rfl
 | str x=>cases h; rfl
 | _=>cases h
theorem mQ:∀ {ds:List D} {ks:List Key},keysOf ds=some ks->ds=ks.map bv
 | [],_,h=>by cases h; rfl
 | d::r,ks,h=>by
  unfold keysOf at h
  cases e1:keyOf d with
  | none=>rw [e1] at h; cases h
  | some k =>
   rw [e1] at h
   cases e2:keysOf r with
   | none=>rw [e2] at h; cases h
   | some ks'=>rw [e2] at h; cases h; rw [qO e1,mQ e2]; rfl
theorem n0 {d:D} {k:List Key} (h:jE d=some k):d=.tup (k.map bv):=by
 cases d with
 | tup ds=>rw [mQ (show keysOf ds=some k from h)]
 | _=>cases h
theorem cM:∀ ks:List Key,keysOf (ks.map bv)=some ks
 | []=>rfl
 | k::r=>by
  show (keyOf (bv k)).bind _=_
  have e:keyOf (bv k)=some k:=by cases k <;> rfl
  rw [e]
  show (keysOf (r.map bv)).map (k::·)=_
  rw [cM r]; rfl
theorem rM {K:Pj} {H:Hp} {k:Key} {v:V} (h:cQ K H (bv k) v):v=kV k:=by
 cases k with
 | inl i=>exact e8.mp h
 | inr x=>exact eW.mp h
theorem jO {K:Pj} {H:Hp}:∀ {ks:List Key} {vs:List V},aY K H (ks.map bv) vs->vs=ks.map kV
 | [],vs,h=>by rw [Nk,cR] at h; exact h
 | k::r,vs,h=>by
  rw [MX,bo] at h
  obtain⟨v,r',e1,h1,h2⟩:=h
  rw [e1,rM h1,jO h2]; rfl
section
variable {P:Qq} {w:Qp} {H H':Hp} {h:Qt} {a:Qr}
theorem BX (x:dm P w H h a (.dK [])):dm P w H' h a (.dT []):=by
 obtain⟨z,hd,vs,rel,o,es,ep,h1,h2,h3,h4,h5,h6⟩:=x
 have e:vs=[]:=by have:=rel.length; simpa using this.symm
 subst e
 refine⟨M0 _,hd,[],.nil,o,es,ep,h1,h2,h3,?_,by simp⟩
 have:=h5.length
 simpa using this
theorem xH (x:dm P w H h a (.dT [])):dm P w H' h a (.dK []):=by
 obtain⟨z,hd,xs,rel,o,es,ep,h1,h2,h3,h4,h5⟩:=x
 have e:xs=[]:=by have:=rel.length; simpa using this.symm
 subst e
 have e2:es=#[]:=by simpa using h4
 subst e2
 exact⟨M0 _,hd,[],.nil,o,#[],ep,h1,h2,h3,fun e he=>by simp at he,.nil,by simp⟩
end
section
variable {X:Cx} {pins:List (Qr×Obj)} {σ:St} {H:Hp} {s:Qy} {a:Qr}
theorem Ey (I:Inv X pins σ H s) (h1:H a=some (.dK [])):Inv X pins σ (upd H a (.dT [])) s:=by
 have hx:=I.hok a _ h1
 have hq:∃ q,s.heap.get? a=some q:=by obtain⟨_,_,_,_,o,_,_,e,_⟩:=id hx; exact⟨o,e⟩
 exact mS (ob:=.dT []) (h':=s.heap) (t':=s.toks) I (by rw [h1]; exact trivial) ⟨rfl,fun _ _=>rfl⟩ hq (BX hx)
theorem LR (I:Inv X pins σ H s) (h1:H a=some (.dT [])):Inv X pins σ (upd H a (.dK [])) s:=by
 have hx:=I.hok a _ h1
 have hq:∃ q,s.heap.get? a=some q:=by obtain⟨_,_,_,_,o,_,_,e,_⟩:=id hx; exact⟨o,e⟩
 exact mS (ob:=.dK []) (h':=s.heap) (t':=s.toks) I (by rw [h1]; exact trivial) ⟨rfl,fun _ _=>rfl⟩ hq (xH hx)
end
def kX:List D->List D->Option (List (List Key×D))
 | [],[]=>some []
 | k::ks,d::ds=>(jE k).bind fun k=>(kX ks ds).map ((k,d)::·)
 | _,_=>none
abbrev encK (al:List (List Key×D)):List D:=al.map fun p=>.tup (p.1.map bv)
abbrev dH (al:List (List Key×D)):D:=.dct (encK al) (al.map (·.2))
theorem jf:∀ {ks ds:List D} {al:List (List Key×D)},kX ks ds=some al->ks=encK al/\ds=al.map (·.2)
 | [],[],_,h=>by cases h; exact⟨rfl,rfl⟩
 | k::ks,d::ds,al,h=>by
  unfold kX at h
  cases e1:jE k with
  | none=>rw [e1] at h; cases h
  | some k' =>
   rw [e1] at h
   cases e2:kX ks ds with
   | none=>rw [e2] at h; cases h
   | some al' =>
    rw [e2] at h; cases h
    obtain⟨h1,h2⟩:=jf e2
    rw [n0 e1,h1,h2]; exact⟨rfl,rfl⟩
 | [],_::_,_,h=>by cases h
 | _::_,[],_,h=>by cases h
theorem jQ:∀ al:List (List Key×D),kX (encK al) (al.map (·.2))=some al
 | []=>rfl
 | p::r=>by
  show (jE (.tup (p.1.map bv))).bind _=_
  have e:jE (.tup (p.1.map bv))=some p.1:=cM p.1
  rw [e]
  show (kX (encK r) (r.map (·.2))).map ((p.1,p.2)::·)=_
  rw [jQ r]; rfl
theorem lK:∀ {al:List (List Key×D)} {ks:List (List Key)},encK al=ks.map (fun k=>.tup (k.map bv))->al.map (·.1)=ks
 | [],[],_=>rfl
 | p::r,k::ks,h=>by
  have h:D.tup (p.1.map bv)::encK r=D.tup (k.map bv)::ks.map (fun k=>.tup (k.map bv)):=h
  injection h with h1 h2
  injection h1 with h1
  have e:some p.1=some k:=by rw [<- cM p.1,h1,cM k]
  rw [MX,Option.some.inj e,lK h2]
 | [],_::_,h=>by cases h
 | _::_,[],h=>by cases h
theorem KW {K:Pj} {H:Hp} {O:List Qr} {a:Qr} {al:List (List Key×D)} (h:dF K H O a (dH al)) :
  (∃ kvs:List (List Key×V),H a=some (.dT kvs)/\kvs.map (·.1)=al.map (·.1)/\aY K (hid H O) (al.map (·.2)) (kvs.map (·.2)))\/(H a=some (.dK [])/\al=[]):=by
 obtain⟨o,vs,h1,h2,h3⟩:=h
 rcases h3 with ⟨kvs,e,e1,e2⟩ | ⟨kvs,e,e1,e2⟩
 ·subst e
  cases kvs with
  | nil =>
   refine .inr ⟨h1,?_⟩
   simpa using e1
  | cons p r =>
   cases al with
   | nil=>cases e1
   | cons q r' =>
    have e1:D.tup (q.1.map bv)::encK r'=bv p.1::r.map (fun p=>bv p.1):=e1
    injection e1 with e1 _
    rcases p with ⟨k,v⟩
    cases k <;> cases e1
 ·subst e
  refine .inl ⟨kvs,h1,?_,by rw [<- e2]; exact h2⟩
  exact(lK (ks:=kvs.map (·.1)) (by rw [Ow]; exact e1)).symm
def Ia (ks ds:List D) (k:D):Option D:=(kX ks ds).bind fun al=>(jE k).bind fun k=>some (.bl (al.any fun p=>decide (p.1=k)))
def Mt (i:Nat) (f:FX):FX:=fun ρ=>(f ρ).bind fun k=>match ρ[i]? with
 | some (some (.own (.dct ks ds)))=>rO (Ia ks ds k)
 | _=>un
def gg (al:List (List Key×D)) (k:List Key) (v:D):List (List Key×D):=if (al.any fun p=>decide (p.1=k))=true then al.map (fun p=>if p.1=k then (p.1,v) else p) else al++[(k,v)]
def ud (ks ds:List D) (k v:D):Option (List (List Key×D)):=(kX ks ds).bind fun al=>(jE k).bind fun k=>if small al.length then some (gg al k v) else none
def rA (i:Nat) (fk fv:FX):cB:=fun k ρ=>match ρ[i]? with
 | some (some (.own (.dct ks ds)))=>sg ((fv ρ).bind fun v=>(fk ρ).bind fun q=>rO (ud ks ds q v)) k ρ fun al=>k.nx (ρ.set i (some (.own (dH al))))
 | _=>un
theorem yK {ks ds:List D} {k v:D} {al':List (List Key×D)} (h:ud ks ds k v=some al'):∃ al q,ks=encK al/\ds=al.map (·.2)/\k=.tup (q.map bv)/\small al.length=true/\al'=gg al q v:=by
 unfold ud at h
 cases e1:kX ks ds with
 | none=>rw [e1] at h; cases h
 | some al =>
  rw [e1] at h
  cases e2:jE k with
  | none=>rw [e2] at h; cases h
  | some q =>
   rw [e2] at h
   obtain⟨h3,h4⟩:=bQ (show (if small al.length then some (gg al q v) else none)=some al' from h)
   obtain⟨h1,h2⟩:=jf e1
   exact⟨al,q,h1,h2,n0 e2,h3,h4.symm⟩
theorem vK {kvs:List (List Key×V)} {al:List (List Key×D)} (e:kvs.map (·.1)=al.map (·.1)) (k:List Key) (w:V) (d:D):(putK kvs k w).map (·.1)=(gg al k d).map (·.1):=by
 have e2:(kvs.any fun p=>decide (p.1=k))=(al.any fun p=>decide (p.1=k)):=by
  have:=congrArg (fun l=>l.any fun q=>decide (q=k)) e
  simpa [Ox,Function.comp_def] using this
 unfold putK gg
 rw [e2]
 split
 ·have e3:∀ (l:List (List Key×V)),(l.map fun kv=>if kv.1=k then (kv.1,w) else kv).map (·.1)=l.map (·.1):=fun l=>by
   rw [Ow]; refine NP fun p _=>?_
   show (if p.1=k then (p.1,w) else p).1=p.1
   split <;> rfl
  have e4:∀ (l:List (List Key×D)),(l.map fun kv=>if kv.1=k then (kv.1,d) else kv).map (·.1)=l.map (·.1):=fun l=>by
   rw [Ow]; refine NP fun p _=>?_
   show (if p.1=k then (p.1,d) else p).1=p.1
   split <;> rfl
  rw [e3,e4,e]
 ·rw [NQ,NQ,e]; rfl
theorem xF {K:Pj} {H:Hp} {k:List Key} {w:V} {d:D} (hw:cQ K H d w):∀ {kvs:List (List Key×V)} {al:List (List Key×D)},kvs.map (·.1)=al.map (·.1)->aY K H (al.map (·.2)) (kvs.map (·.2)) ->
  aY K H ((al.map fun p=>if p.1=k then (p.1,d) else p).map (·.2)) ((kvs.map fun p=>if p.1=k then (p.1,w) else p).map (·.2))
 | [],[],_,h=>h
 | p::r,q::r',e,h=>by
  rw [MX,MX] at e
  injection e with e1 e2
  rw [MX,MX,bo] at h
  obtain⟨v,ws,h0,h1,h2⟩:=h
  injection h0 with h0 h0'
  subst h0 h0'
  have ih:=xF (k:=k) hw e2 h2
  rw [MX,MX,MX,MX,bo]
  refine⟨_,_,rfl,?_,ih⟩
  rw [e1]
  split
  ·exact hw
  ·exact h1
 | [],_::_,e,_=>by cases e
 | _::_,[],e,_=>by cases e
theorem zi {K:Pj} {H:Hp} {k:List Key} {w:V} {d:D} (hw:cQ K H d w) {kvs:List (List Key×V)} {al:List (List Key×D)} (e:kvs.map (·.1)=al.map (·.1)) (h:aY K H (al.map (·.2)) (kvs.map (·.2))) :
  aY K H ((gg al k d).map (·.2)) ((putK kvs k w).map (·.2)):=by
 have e2:(kvs.any fun p=>decide (p.1=k))=(al.any fun p=>decide (p.1=k)):=by
  have:=congrArg (fun l=>l.any fun q=>decide (q=k)) e
  simpa [Ox,Function.comp_def] using this
 unfold putK gg
 rw [e2]
 split
 ·exact xF hw e h
 ·rw [NQ,NQ]
  exact h.append (bo.mpr ⟨w,[],rfl,hw,cR.mpr rfl⟩)
theorem uQ {kvs:List (List Key×V)} {al:List (List Key×D)} (e:kvs.map (·.1)=al.map (·.1)):encK al=kvs.map fun p=>D.tup (p.1.map bv):=by
 have:=congrArg (List.map fun k:List Key=>D.tup (k.map bv)) e
 rw [Ow,Ow] at this
 exact this.symm
theorem rF {H:Hp} {a:Qr} {o1 o2:HO}:upd (upd H a o1) a o2=upd H a o2:=by
 funext b
 by_cases e:b=a
 ·subst e; rw [bb,bb]
 ·rw [aJ e,aJ e,aJ e]
def GV (td ty tv:TE):TS:=fun D σ H=>tv σ H fun v H1=>td σ H1 fun x H2=>ty σ H2 fun y H3=>∃ a k b kvs,x=.ref a/\y=.ref b/\H3 b=some (.tup (k.map kV))/\(H3 a=some (.dT kvs)\/(H3 a=some (.dK [])/\kvs=[]))/\kvs.length < Qu/\D.nx σ (upd H3 a (.dT (putK kvs k v)))
section
variable {X:Cx} {o idx value:QB} {pos pos':Pos} {td ty tv:TE}
theorem De (hu:X.A.units+1 < QX) (ho:PE X o td) (hi:PE X idx ty) (hv:PE X value tv) (hs:swapsWith value (some (.Subscript o idx pos')) pos.line X.env=pure false):PS X (.Assign [.Subscript o idx pos'] value pos) (GV td ty tv):=by
 intro pins s σ H D I h
 refine wpAny_Assign_Subscript (dX (hv pins s σ H _ I h) fun r s1 ⟨v,H1,I1,rv,q1⟩=>dX (ho pins s1 σ H1 _ I1 q1) fun u s2 ⟨x,H2,I2,rx,q2⟩=>dX (hi pins s2 σ H2 _ I2 q2) fun iv s3 ⟨y,H3,I3,ry,a,k,b,kvs,ex,ey,hb,ha,hl,q3⟩=>?_) hs
 subst ex ey
 obtain rfl:u=Value.ref a:=rx
 rcases ha with ha | ⟨ha,rfl⟩
 ·exact mG hu I3 (Hr.t ha hb hl) ry rv fun s4 I4=>⟨σ,_,I4,q3⟩
 ·have ne:b≠a:=fun z=>by rw [z,ha] at hb; cases hb
  refine mG hu (Ey I3 ha) (Hr.t bb (by rw [aJ ne]; exact hb) hl) ry rv fun s4 I4=>⟨σ,_,I4,?_⟩
  rw [rF]; exact q3
end
theorem Jy {X:Cx} {i:Nat} {x:Str} {idx value:QB} {fk fv:FX} {npos tpos pos:Pos} (hu:X.A.units+64 < QX) (hx:PE X (.Name x npos) (oQ i)) (hi:FE X idx fk) (hv:FE X value fv)
  (hs:swapsWith value (some (.Subscript (.Name x npos) idx tpos)) pos.line X.env=pure false:=by rfl) :
  FS X (.Assign [.Subscript (.Name x npos) idx tpos] value pos) (rA i fk fv):=fun Hb Ob pins s σ H E I ⟨O,ρ,k,rr,S,hF,hk⟩=>by
 unfold rA at hF
 split at hF
 ·rename_i ks ds hxs
  obtain⟨a,ha,haO,hat⟩:=S.env.own i _ hxs
  have hP:=ir.on hF hk S (Q:=fun al=>k.nx (ρ.set i (some (.own (dH al))))=rr) fun p e=>e
  refine De ‹0› hx hi hv hs pins s σ H E I ⟨O,ρ,S.env,(ir.bind hP).imp fun y hP v H1 s1 d1=>?_⟩
  have S1:=S.same s1
  refine⟨.ref a,ha,O,ρ,S1.env,((ir.bind hP).mono s1).imp fun j hP w H2 s2 d2=>?_⟩
  have S2:=S1.same s2
  obtain⟨al',hg,e⟩:=ir.rO hP
  obtain⟨al,q,f1,f2,f3,f4,f5⟩:=yK hg
  subst f1 f2 f3 f5
  have s12:=s1.trans s2
  obtain⟨b,ws,eb,g1,g2⟩:=cV.mp d2
  rw [jO g2] at g1
  have hat2:dF X.K H2 O a (dH al):=hat.mono (let ⟨_,z⟩:=hat.some; qu s12 z) (bV s12)
  have dv:cQ X.K (hid H2 O) y v:=d1.mono (bV s2)
  have fin:∀ kvs:List (List Key×V),kvs.map (·.1)=al.map (·.1)->aY X.K (hid H2 O) (al.map (·.2)) (kvs.map (·.2))->dF X.K (upd H2 a (.dT (putK kvs q v))) O a (dH (gg al q y)):=fun kvs k2 k3 =>
   ⟨_,_,bb,(zi dv k2 k3).mono (gS haO),.inr ⟨putK kvs q v,rfl,uQ (vK k2 q v y),rfl⟩⟩
  rcases KW hat2 with ⟨kvs,k1,k2,k3⟩ | ⟨k1,rfl⟩
  ·have hl:kvs.length=al.length:=by have:=congrArg List.length k2; simpa using this
   exact⟨a,q,b,kvs,rfl,eb,(aI H2 O) _ _ g1,.inl k1,by rw [hl]; exact NY (of_decide_eq_true f4) (by decide),hk.nx O _ σ _ (S2.setO hxs ha trivial (fin kvs k2 k3)) e⟩
  ·exact⟨a,q,b,[],rfl,eb,(aI H2 O) _ _ g1,.inr ⟨k1,rfl⟩,by decide,hk.nx O _ σ _ (S2.setO hxs ha trivial (fin [] rfl (cR.mpr rfl))) e⟩
 ·exact absurd hF.symm hk.ne
end TG
namespace TG
open PySem PySem.Spec L2
variable [aR]
end TG
namespace TG
open PySem PySem.Spec PySem.W PySem.Calls PyProof.Rows Builtin Builtin.ObjectAttr Builtin.Getset_descriptor
variable [aR]
end TG
namespace TG
open PySem PySem.Spec L2
variable [aR]
open PyProof.Rows (AllBare OwnCls)
end TG
namespace TG
open PySem PySem.Spec L2
variable [aR]
end TG
namespace TG
open PySem PySem.Spec L2
variable [aR]
def uy (val:Nat->Int):Nat->Int
 | 0=>0
 | 1=>val 0
 | n+2=>if val (n+1) > uy val (n+1) then val (n+1) else uy val (n+1)
def lD:List D->Option (List Int)
 | []=>some []
 | .int i::r=>(lD r).map (i::·)
 | _=>none
theorem uj:∀ {xs:List D} {ns:List Int},lD xs=some ns->xs=ns.map .int
 | [],_,h=>by cases h; rfl
 | d::r,ns,h=>by
  cases d with
  | int i =>
   cases e:lD r with
   | none=>rw [show lD (.int i::r)=(lD r).map (i::·) from rfl,e] at h; cases h
   | some ms=>rw [show lD (.int i::r)=(lD r).map (i::·) from rfl,e] at h; cases h; rw [uj e]; rfl
  | _=>cases h
theorem xr:∀ ns:List Int,lD (ns.map .int)=some ns
 | []=>rfl
 | n::ns=>by show (lD (ns.map .int)).map (n::·)=_; rw [xr ns]; rfl
def pZ (i:Int) (d:D):Option D:=match d with
 | .lst xs=>(lD xs).map fun ns=>.int (if ns.length=0 then i else uy (fun k=>ns.getD k 0) ns.length)
 | _=>none
section
variable {prog:Qq} {w:Qp} {A:Qx} {R:QS->Qy->Prop} {I:Qr} {fp wr:List Qr} {n:Nat} {P:Nat->Qo->Prop} {St:Nat->Qt->Prop}
theorem Bn (W:Walks prog w A.in1 I fp wr n P St) (val:Nat->Int) (hv:∀ i v,P i v->∃ t,v=.int (val i) t) (dv:Qo) (Z:Qr) (hZ:Z∉fp) :
  ∀ (k j:Nat) (s:Qy) (cs:Array Qo) (c:Nat),n - j=k->j<=n->St j s.heap->(cs=#[]/\j=0\/0 < j/\∃ t,cs=#[.int (uy val j) t,.int (uy val j) t]) ->
   s.heap.get? Z=some { cls:=.type "list",dict:=none,data:=.seq cs c,slots:=#[] } ->
   (∀ v h' tk,(n=0/\v=dv\/0 < n/\∃ t,v=.int (uy val n) t)->(∀ b o,b∉wr->b≠Z->s.heap.get? b=some o->h'.get? b=some o)->R (.ok (.ret v)) { s with heap:=h',toks:=tk }) ->
   QT (model prog w) A (.builtin "max.loop" ⟨[.ref I,.none,.ref Z],[(Str.ofString "default",dv)]⟩) R s:=by
 have zw:Z∉wr:=fun h=>hZ (W.sub _ h)
 have nm:(toString "max"++toString ".loop":String) = "max.loop":=by
  decide
 intro k
 induction k with
 | zero =>
  intro j s cs c hk hj hst hcs hl hR
  have en:j=n:=by omega
  subst en
  refine RC F.entry_max_loop ?_
  rw [Around.under_plainId F.plain_max_loop _]
  refine QI (m:=seqItems? (.ref Z)) (Rm hl rfl ?_)
  refine QI (m:=tryCatch (pyNext (.ref I)) _)
   (RD (W.done s _ _ hst fun h' tk hk'=>?_))
  have hl':=hk' Z _ zw hl
  rcases hcs with ⟨rfl,rfl⟩ | ⟨hp,t,rfl⟩
  ·refine QI (Ri ?_)
   exact QH (hR dv h' tk (.inl ⟨rfl,rfl⟩) fun b o hb _ e=>hk' b o hb e)
  ·refine QI (m:=updateSeq Z fun _=>#[]) (RE hl' rfl
    (QI (Rw (QH (hR _ _ tk (.inr ⟨hp,t,rfl⟩) fun b o hb hz e=>?_)))))
   exact(P5 _ _ hz.symm).trans (hk' b o hb e)
 | succ k ih =>
  intro j s cs c hk hj hst hcs hl hR
  have hlt:j < n:=by omega
  refine RC F.entry_max_loop ?_
  rw [Around.under_plainId F.plain_max_loop _]
  refine QI (m:=seqItems? (.ref Z)) (Rm hl rfl ?_)
  refine QI (m:=tryCatch (pyNext (.ref I)) _)
   (RD (W.item j s _ _ hlt hst fun v h' tk hP hst' hk'=>?_))
  have hl':=hk' Z _ zw hl
  obtain⟨tv,rfl⟩:=hv j v hP
  have next:∀ (h2:Qt) (cs2:Array Qo) (c2:Nat),(∀ b o,b≠Z->h'.get? b=some o->h2.get? b=some o)->h2.get? Z=some { cls:=.type "list",dict:=none,data:=.seq cs2 c2,slots:=#[] }->(∃ t,cs2=#[.int (uy val (j+1)) t,.int (uy val (j+1)) t]) ->
    QT (model prog w) A (.builtin "max.loop" ⟨[.ref I,.none,.ref Z],[(Str.ofString "default",dv)]⟩) R { s with heap:=h2,toks:=tk }:=fun h2 cs2 c2 k2 l2 hc2=>by
   refine ih (j+1) _ cs2 c2 ‹0› hlt (W.frame _ _ _ hst' fun b hb o e=>k2 b o (fun z=>hZ (z ▸ hb)) e) (.inr ⟨by omega,hc2⟩) l2 fun v' h'' tk'' hv' hk''=>?_
   exact hR v' h'' tk'' hv' fun b o hb hz e=>hk'' b o hb hz (k2 b o hz (hk' b o hb e))
  rcases hcs with ⟨rfl,rfl⟩ | ⟨hp,t,rfl⟩
  ·refine QI (QH ?_)
   refine QI (m:=updateSeq Z fun _=>#[.int (val 0) tv,.int (val 0) tv]) (RE hl' rfl ?_)
   rw [nm]
   exact QH ⟨RF F.plain_max_loop _,next _ _ _ (fun b o hz e=>(P5 _ _ hz.symm).trans e) (P6 _ hl' rfl) ⟨tv,rfl⟩⟩
  ·obtain⟨m,rfl⟩:∃ m,j=m+1:=⟨j - 1,by omega⟩
   refine QI (QH ?_)
   refine QI (m:=tryCatch _ _) (RD (Q9
    (QI (CmpOf.ints_gt (P:=fun i v=>∃ t,v=.int (if i=0 then val (m+1) else uy val (m+1)) t) (fun i=>if i=0 then val (m+1) else uy val (m+1)) (fun i v h=>h) 0 1 _ _ _ _ _ ⟨tv,rfl⟩ ⟨t,rfl⟩ ?_))))
   refine QI (Q9 (QF ?_))
   refine QI (Rw
    (QH ?_))
   split
   ·rename_i hz
    have hb:val (m+1) > uy val (m+1):=of_decide_eq_true (show decide (val (m+1) > uy val (m+1))=true from hz)
    refine QI (m:=updateSeq Z fun _=>#[.int (val (m+1)) tv,.int (val (m+1)) tv])
     (RE hl' rfl (QI (Rw ?_)))
    rw [nm]
    exact QH ⟨RF F.plain_max_loop _,next _ _ _ (fun b o hz e=>(P5 _ _ hz.symm).trans e) (P6 _ hl' rfl) ⟨tv,by rw [uy,if_pos hb]⟩⟩
   ·rename_i hz
    have hb:¬ val (m+1) > uy val (m+1):=fun z=>hz (show decide (val (m+1) > uy val (m+1))=true from decide_eq_true z)
    refine QI (Rw ?_)
    rw [nm]
    exact QH ⟨RF F.plain_max_loop _,next _ _ _ (fun b o _ e=>e) hl' ⟨t,by rw [uy,if_neg hb]⟩⟩
theorem Bl (a v:Qo):argsOk "max" ⟨[a],[(Str.ofString "default",v)]⟩:=by
 unfold argsOk
 kernel_rfl
theorem AQ:Qw "max"=some (.builtin "max"):=by first | rfl | decide +kernel
theorem Ax {E:Qo->Qy->Prop} {s:Qy} {l:Qr} {its:List Qo} {ns:List Int} {dv:Qo} {Q:Qo->Qy->Prop} (hh:A.handled=none) (hl:s.heap.IsList l its.toArray) (hi:∀ (i:Nat) (v:Qo),its[i]?=some v->∃ t,v=.int (ns.getD i 0) t) (hn:its.length=ns.length)
  (hQ:∀ v h' tk,(ns.length=0/\v=dv\/0 < ns.length/\∃ t,v=.int (uy (fun k=>ns.getD k 0) ns.length) t)->(∀ b o,s.heap.get? b=some o->h'.get? b=some o)->Q v { s with heap:=h',toks:=tk }) :
  QA (model prog w) A (call (.builtin "max") [.ref l] [(Str.ofString "default",dv)]) Q E s:=by
 have nm:(toString "max"++toString ".loop":String) = "max.loop":=by
  decide
 have hlt:l < s.heap.objs.size:=by obtain⟨_,e,_⟩:=hl; exact PV e
 refine wpAny_call (codeAny_call_builtin F.plain_max F.entry_max ?_)
 have go:QA (model prog w) A.in1 (Builtin.«max» ⟨[.ref l],[(Str.ofString "default",dv)]⟩) (fun fin s'=>match fin with
   | .done f=>(match (Except.ok f:QS) with | .ok (.ret v)=>Q v s' | .ok _=>False | .error e=>E e s')
   | .again c'=>c'.quiet=true/\QT (model prog w) A c' (fun r s'=>match r with | .ok (.ret v)=>Q v s' | .ok _=>False | .error e=>E e s') s') E s:=by
  show QA _ A.in1 (Builtin.Builtins.bindParams "max" ["key","default"] 0 ⟨[],[(Str.ofString "default",dv)]⟩ >>= _) _ _ s
  refine QI (Ro (show Builtin.Builtins.bindParams "max" ["key","default"] 0 ⟨[],[(Str.ofString "default",dv)]⟩=pure [none,some dv] from rfl) ?_)
  refine QI (QH ?_)
  refine QI (QJ hl ?_)
  refine QI (Rf ?_)
  rw [nm]
  have hne:l≠s.heap.objs.size:=MF hlt
  refine QH ⟨RF F.plain_max_loop _,Bn (Walks.list (A:=A.in1) hh s.heap.objs.size l hne its.toArray) (fun k=>ns.getD k 0) (fun i v h=>hi i v (by simpa using h)) dv _ (fun hm=>?_) _ 0 _ #[] _ rfl (M0 _) ⟨⟨_,PZ _ (P0 _ rfl),rfl,rfl⟩,(hl.push _).push _⟩ (.inl ⟨rfl,rfl⟩) (P0 _ rfl) fun v h' tk hv hk=>?_⟩
  ·simp only [P4,N1,Oy,or_false] at hm
   rcases hm with hm | hm
   ·exact Nat.succ_ne_self _ hm
   ·rw [<- hm] at hlt; exact ME _ (Nat.lt_of_succ_lt hlt)
  ·have e:its.toArray.size=ns.length:=by rw [MT,hn]
   rw [e] at hv
   refine hQ v h' tk hv fun b o q=>hk b o (fun z=>?_) (fun z=>?_) (PZ _ (PZ _ q))
   ·have h1:=PV q
    simp only [N1,Oy,or_false] at z
    rw [z] at h1; exact ME _ h1
   ·have h1:=PV q
    rw [z,P4] at h1
    exact ME _ (Nat.lt_of_succ_lt h1)
 simp only [checkBuiltinCall,F.kind_max]
 cases hsig:Manifest.signature? "max" with
 | none=>exact QH go
 | some sig =>
  have ha:Bind.checkArgs "max" sig ⟨[.ref l],[(Str.ofString "default",dv)]⟩=pure ():=by
   have:=Bl (.ref l) dv
   unfold argsOk at this
   rw [hsig] at this
   exact this
  simp only [ha]
  exact QH go
end
section
variable {X:Cx} {p pos kp:Pos} {e:QB}
theorem zo {K:Pj} {H:Hp}:∀ {ns:List Int} {ys:List V} {its:List Qo},aY K H (ns.map .int) ys->Vals ys its->∀ (k:Nat) (v:Qo),its[k]?=some v->∃ t,v=.int (ns.getD k 0) t
 | [],ys,its,h,r,k,v,e=>by
  rw [Nk,cR] at h
  subst h
  cases r
  simp at e
 | n::ns,ys,its,h,r,k,v,e=>by
  rw [MX,bo] at h
  obtain⟨y,ys',rfl,h1,h2⟩:=h
  cases r with
  | cons r1 r2 =>
   cases k with
   | zero =>
    rw [e8] at h1
    subst h1
    obtain⟨t,rfl⟩:=r1
    simp at e
    exact⟨t,e.symm⟩
   | succ k =>
    simp only [N4] at e
    exact zo h2 r2 k v e
theorem JA {f:FX} {i:Int} {j:Nat} {cp:Pos} (hc:X.calm=true) (hg:Gl X "max") (hm:X.mg "max"=none) (he:FE X e f) (hns:noStar e=true:=by rfl) :
  FE X (.Call (.Name "max" p) [e] [⟨some "default",.Constant (.int i) j cp,kp⟩] pos) (f1 (pZ i) f):=by
 intro pins s σ H Q I ⟨O,ρ,E,hF⟩
 refine Q1 (nK I hg hm AQ ?_)
 have st:backTo pos (QC [e] X.env)=(false,eval e X.env)::backTo pos (QC [] X.env):=by rw [dE hns]; rfl
 refine PyProof.Rows.callWith_kw ?_ ?_ (ic (by rw [ND,hns]; rfl))
 ·refine dX (ku he oN (dE hns) pos pins s σ H (fun vs H1=>∃ v d a,vs=[v]/\bm H H1/\pZ i a=some d/\cQ X.K (hid H1 O) a v/\∀ v H',bm H H'->cQ X.K (hid H' O) d v->Q v H') I ⟨O,ρ,E,(ir.bind hF).imp fun a hF v H1 s1 d1=>?_⟩) fun us s1 ⟨vs,H1,I1,rv,v,d,a,ev,s1',hd,dn,q⟩=>?_
  ·obtain⟨d,e,q⟩:=ir.rO hF
   exact⟨v,d,a,rfl,s1,e,d1,q⟩
  ·subst ev
   refine dX (DY (kws:=[]) C5 Gs pos pins s1 σ H1 (fun zs H2=>zs=[.int i]/\H2=H1) I1 ⟨rfl,rfl⟩) fun ws s2 ⟨zs,H2,I2,rz,ez,eh⟩=>?_
   subst ez eh
   obtain⟨u,eu,ru⟩:=vals1 rv
   obtain⟨wv,ew,rw'⟩:=vals1 rz
   subst eu ew
   unfold pZ at hd
   split at hd
   ·rename_i xs
    cases ei:lD xs with
    | none=>rw [ei] at hd; cases hd
    | some ns =>
     rw [ei] at hd
     cases hd
     have exs:=uj ei
     subst exs
     obtain⟨l,ys,el,g1,g2⟩:=cX.mp dn
     subst el
     cases ru
     obtain⟨its,ri,pl,hz⟩:=I2.list ((aI H2 O).seq g1)
     have hlen:its.length=ns.length:=by rw [<- ri.length,<- g2.length,MY]
     refine Ax (I2.ok.hd hc) pl.isList (ns:=ns) (fun k v hk=>?_) hlen fun v h' tk hv kk=>?_
     ·exact zo g2 ri k v hk
     ·have I3:=I2.kept (t':=tk) kk
      have q:∀ (v:V) (H':Hp),bm H H'->cQ X.K (hid H' O) (.int (if ns.length=0 then i else uy (fun k=>ns.getD k 0) ns.length)) v->Q v H':=q
      rcases hv with ⟨z,rfl⟩ | ⟨z,t,rfl⟩
      ·rw [if_pos z] at q
       exact⟨.int i,H2,I3,rw',q _ H2 s1' (e8.mpr rfl)⟩
      ·rw [if_neg ‹0›] at q
       exact⟨.int _,H2,I3,⟨t,rfl⟩,q _ H2 s1' (e8.mpr rfl)⟩
   ·cases hd
 ·exact st
end
end TG
namespace TG
open PySem PySem.Spec L2
variable [aR]
end TG
namespace TG
open PySem PySem.Spec L2
end TG
namespace TG
open PySem PySem.Spec PyProof.Rows PySem.W L2
variable [aR]
end TG
namespace TG
open PySem PySem.Spec PyProof.Rows PySem.W L2
variable [aR]
end TG
namespace TG
open PySem PySem.Spec PyProof.Rows PySem.W L2
variable [aR]
theorem kO:Qw "sorted"=some (.builtin "sorted"):=by first | rfl | decide +kernel
end TG
namespace TG
open PySem PySem.Spec PyProof.Rows PySem.W L2
end TG
namespace TG
open PySem PySem.Spec PySem.Calls L2
open PySem.SeqAt (EqAt list_indexAt)
variable [aR]
section
variable {X:Cx} {p pos:Pos} {e:QB}
end
end TG
namespace TG
open PySem PySem.Spec L2
variable [aR]
end TG
namespace TG
open PySem PySem.Spec PySem.Calls L2
open PySem.SeqAt (EqAt list_countAt)
variable [aR]
def DK:=HB (fun _ j=>decide (0<=j)) fun i j=>i / 2 ^ j.toNat
theorem Gv {K:Pj}:de K (rI (fun _ j=>0<=j) fun i j=>.int (i / 2 ^ j.toNat)) DK:=jK fun _ _ h=>of_decide_eq_true h
def yW:=Fh fun i j=>.int (Builtin.bitAnd i j)
theorem Hm {K:Pj}:de K (Bv fun i j=>.int (Builtin.bitAnd i j)) yW:=qD
def pT:List D->List D->Option (List (Key×D))
 | [],[]=>some []
 | k::ks,d::ds=>(keyOf k).bind fun k=>(pT ks ds).map ((k,d)::·)
 | _,_=>none
abbrev hX (al:List (Key×D)):List D:=al.map fun p=>bv p.1
abbrev xD (al:List (Key×D)):D:=.dct (hX al) (al.map (·.2))
theorem kJ (k:Key):keyOf (bv k)=some k:=by cases k <;> rfl
theorem qV {a b:Key} (h:bv a=bv b):a=b:=by
 have e:=congrArg keyOf h
 rw [kJ,kJ] at e
 exact Option.some.inj e
theorem wF:∀ {ks ds:List D} {al:List (Key×D)},pT ks ds=some al->ks=hX al/\ds=al.map (·.2)
 | [],[],_,h=>by cases h; exact⟨rfl,rfl⟩
 | k::ks,d::ds,al,h=>by
  unfold pT at h
  cases e1:keyOf k with
  | none=>rw [e1] at h; cases h
  | some k' =>
   rw [e1] at h
   cases e2:pT ks ds with
   | none=>rw [e2] at h; cases h
   | some al' =>
    rw [e2] at h; cases h
    obtain⟨h1,h2⟩:=wF e2
    rw [qO e1,h1,h2]; exact⟨rfl,rfl⟩
 | [],_::_,_,h=>by cases h
 | _::_,[],_,h=>by cases h
theorem sY:∀ al:List (Key×D),pT (hX al) (al.map (·.2))=some al
 | []=>rfl
 | p::r=>by
  show (keyOf (bv p.1)).bind _=_
  rw [kJ]
  show (pT (hX r) (r.map (·.2))).map ((p.1,p.2)::·)=_
  rw [sY r]; rfl
theorem tN:∀ {al:List (Key×D)} {ks:List Key},hX al=ks.map bv->al.map (·.1)=ks
 | [],[],_=>rfl
 | p::r,k::ks,h=>by
  have h:bv p.1::hX r=bv k::ks.map bv:=h
  injection h with h1 h2
  rw [MX,qV h1,tN h2]
 | [],_::_,h=>by cases h
 | _::_,[],h=>by cases h
theorem Kj {K:Pj} {H:Hp} {O:List Qr} {a:Qr} {al:List (Key×D)} (h:dF K H O a (xD al)) :
  (∃ kvs:List (Key×V),H a=some (.dK kvs)/\kvs.map (·.1)=al.map (·.1)/\aY K (hid H O) (al.map (·.2)) (kvs.map (·.2)))\/(H a=some (.dT [])/\al=[]):=by
 obtain⟨o,vs,h1,h2,h3⟩:=h
 rcases h3 with ⟨kvs,e,e1,e2⟩ | ⟨kvs,e,e1,e2⟩
 ·subst e
  refine .inl ⟨kvs,h1,?_,by rw [<- e2]; exact h2⟩
  exact(tN (ks:=kvs.map (·.1)) (by rw [Ow]; exact e1)).symm
 ·subst e
  cases kvs with
  | nil =>
   refine .inr ⟨h1,?_⟩
   simpa using e1
  | cons p r =>
   cases al with
   | nil=>cases e1
   | cons q r' =>
    have e1:bv q.1::hX r'=D.tup (p.1.map bv)::r.map (fun p=>D.tup (p.1.map bv)):=e1
    injection e1 with e1 _
    rcases q with ⟨k,v⟩
    cases k <;> cases e1
section
variable {κ:Type} [DecidableEq κ]
def p8 (al:List (κ×D)) (k:κ) (v:D):List (κ×D):=if (al.any fun p=>decide (p.1=k))=true then al.map (fun p=>if p.1=k then (p.1,v) else p) else al++[(k,v)]
theorem zX {kvs:List (κ×V)} {al:List (κ×D)} (e:kvs.map (·.1)=al.map (·.1)) (k:κ) (w:V) (d:D):(putK kvs k w).map (·.1)=(p8 al k d).map (·.1):=by
 have e2:(kvs.any fun p=>decide (p.1=k))=(al.any fun p=>decide (p.1=k)):=by
  have:=congrArg (fun l=>l.any fun q=>decide (q=k)) e
  simpa [Ox,Function.comp_def] using this
 unfold putK p8
 rw [e2]
 split
 ·have e3:∀ (l:List (κ×V)),(l.map fun kv=>if kv.1=k then (kv.1,w) else kv).map (·.1)=l.map (·.1):=fun l=>by
   rw [Ow]; refine NP fun p _=>?_
   show (if p.1=k then (p.1,w) else p).1=p.1
   split <;> rfl
  have e4:∀ (l:List (κ×D)),(l.map fun kv=>if kv.1=k then (kv.1,d) else kv).map (·.1)=l.map (·.1):=fun l=>by
   rw [Ow]; refine NP fun p _=>?_
   show (if p.1=k then (p.1,d) else p).1=p.1
   split <;> rfl
  rw [e3,e4,e]
 ·rw [NQ,NQ,e]; rfl
theorem t6 {K:Pj} {H:Hp} {k:κ} {w:V} {d:D} (hw:cQ K H d w):∀ {kvs:List (κ×V)} {al:List (κ×D)},kvs.map (·.1)=al.map (·.1)->aY K H (al.map (·.2)) (kvs.map (·.2)) ->
  aY K H ((al.map fun p=>if p.1=k then (p.1,d) else p).map (·.2)) ((kvs.map fun p=>if p.1=k then (p.1,w) else p).map (·.2))
 | [],[],_,h=>h
 | p::r,q::r',e,h=>by
  rw [MX,MX] at e
  injection e with e1 e2
  rw [MX,MX,bo] at h
  obtain⟨v,ws,h0,h1,h2⟩:=h
  injection h0 with h0 h0'
  subst h0 h0'
  have ih:=t6 (k:=k) hw e2 h2
  rw [MX,MX,MX,MX,bo]
  refine⟨_,_,rfl,?_,ih⟩
  rw [e1]
  split
  ·exact hw
  ·exact h1
 | [],_::_,e,_=>by cases e
 | _::_,[],e,_=>by cases e
theorem CL {K:Pj} {H:Hp} {k:κ} {w:V} {d:D} (hw:cQ K H d w) {kvs:List (κ×V)} {al:List (κ×D)} (e:kvs.map (·.1)=al.map (·.1)) (h:aY K H (al.map (·.2)) (kvs.map (·.2))) :
  aY K H ((p8 al k d).map (·.2)) ((putK kvs k w).map (·.2)):=by
 have e2:(kvs.any fun p=>decide (p.1=k))=(al.any fun p=>decide (p.1=k)):=by
  have:=congrArg (fun l=>l.any fun q=>decide (q=k)) e
  simpa [Ox,Function.comp_def] using this
 unfold putK p8
 rw [e2]
 split
 ·exact t6 hw e h
 ·rw [NQ,NQ]
  exact h.append (bo.mpr ⟨w,[],rfl,hw,cR.mpr rfl⟩)
end
def tE (ks ds:List D) (k v:D):Option (List (Key×D)):=(pT ks ds).bind fun al=>(keyOf k).bind fun k=>if small al.length then some (p8 al k v) else none
def nV (i:Nat) (fk fv:FX):cB:=fun k ρ=>match ρ[i]? with
 | some (some (.own (.dct ks ds)))=>sg ((fv ρ).bind fun v=>(fk ρ).bind fun q=>rO (tE ks ds q v)) k ρ fun al=>k.nx (ρ.set i (some (.own (xD al))))
 | _=>un
theorem yz {ks ds:List D} {k v:D} {al':List (Key×D)} (h:tE ks ds k v=some al'):∃ al q,ks=hX al/\ds=al.map (·.2)/\k=bv q/\small al.length=true/\al'=p8 al q v:=by
 unfold tE at h
 cases e1:pT ks ds with
 | none=>rw [e1] at h; cases h
 | some al =>
  rw [e1] at h
  cases e2:keyOf k with
  | none=>rw [e2] at h; cases h
  | some q =>
   rw [e2] at h
   obtain⟨h3,h4⟩:=bQ (show (if small al.length then some (p8 al q v) else none)=some al' from h)
   obtain⟨h1,h2⟩:=wF e1
   exact⟨al,q,h1,h2,qO e2,h3,h4.symm⟩
theorem D5 {kvs:List (Key×V)} {al:List (Key×D)} (e:kvs.map (·.1)=al.map (·.1)):hX al=kvs.map fun p=>bv p.1:=by
 have:=congrArg (List.map bv) e
 rw [Ow,Ow] at this
 exact this.symm
def Gb (td ty tv:TE):TS:=fun D σ H=>tv σ H fun v H1=>td σ H1 fun x H2=>ty σ H2 fun y H3=>∃ a k kvs,x=.ref a/\y=kV k/\(H3 a=some (.dK kvs)\/(H3 a=some (.dT [])/\kvs=[]))/\kvs.length < Qu/\D.nx σ (upd H3 a (.dK (putK kvs k v)))
section
variable {X:Cx} {o idx value:QB} {pos pos':Pos} {td ty tv:TE}
theorem B5 (hu:X.A.units+1 < QX) (ho:PE X o td) (hi:PE X idx ty) (hv:PE X value tv) (hs:swapsWith value (some (.Subscript o idx pos')) pos.line X.env=pure false):PS X (.Assign [.Subscript o idx pos'] value pos) (Gb td ty tv):=by
 intro pins s σ H D I h
 refine wpAny_Assign_Subscript (dX (hv pins s σ H _ I h) fun r s1 ⟨v,H1,I1,rv,q1⟩=>dX (ho pins s1 σ H1 _ I1 q1) fun u s2 ⟨x,H2,I2,rx,q2⟩=>dX (hi pins s2 σ H2 _ I2 q2) fun iv s3 ⟨y,H3,I3,ry,a,k,kvs,ex,ey,ha,hl,q3⟩=>?_) hs
 subst ex ey
 obtain rfl:u=Value.ref a:=rx
 rcases ha with ha | ⟨ha,rfl⟩
 ·exact mG hu I3 (Hr.k ha hl) ry rv fun s4 I4=>⟨σ,_,I4,q3⟩
 ·refine mG hu (LR I3 ha) (Hr.k bb hl) ry rv fun s4 I4=>⟨σ,_,I4,?_⟩
  rw [rF]; exact q3
end
theorem JU {X:Cx} {i:Nat} {x:Str} {idx value:QB} {fk fv:FX} {npos tpos pos:Pos} (hu:X.A.units+64 < QX) (hx:PE X (.Name x npos) (oQ i)) (hi:FE X idx fk) (hv:FE X value fv)
  (hs:swapsWith value (some (.Subscript (.Name x npos) idx tpos)) pos.line X.env=pure false:=by rfl) :
  FS X (.Assign [.Subscript (.Name x npos) idx tpos] value pos) (nV i fk fv):=fun Hb Ob pins s σ H E I ⟨O,ρ,k,rr,S,hF,hk⟩=>by
 unfold nV at hF
 split at hF
 ·rename_i ks ds hxs
  obtain⟨a,ha,haO,hat⟩:=S.env.own i _ hxs
  have hP:=ir.on hF hk S (Q:=fun al=>k.nx (ρ.set i (some (.own (xD al))))=rr) fun p e=>e
  refine B5 ‹0› hx hi hv hs pins s σ H E I ⟨O,ρ,S.env,(ir.bind hP).imp fun y hP v H1 s1 d1=>?_⟩
  have S1:=S.same s1
  refine⟨.ref a,ha,O,ρ,S1.env,((ir.bind hP).mono s1).imp fun j hP w H2 s2 d2=>?_⟩
  have S2:=S1.same s2
  obtain⟨al',hg,e⟩:=ir.rO hP
  obtain⟨al,q,f1,f2,f3,f4,f5⟩:=yz hg
  subst f1 f2 f3 f5
  have s12:=s1.trans s2
  have hat2:dF X.K H2 O a (xD al):=hat.mono (let ⟨_,z⟩:=hat.some; qu s12 z) (bV s12)
  have dv:cQ X.K (hid H2 O) y v:=d1.mono (bV s2)
  have fin:∀ kvs:List (Key×V),kvs.map (·.1)=al.map (·.1)->aY X.K (hid H2 O) (al.map (·.2)) (kvs.map (·.2))->dF X.K (upd H2 a (.dK (putK kvs q v))) O a (xD (p8 al q y)):=fun kvs k2 k3 =>
   ⟨_,_,bb,(CL dv k2 k3).mono (gS haO),.inl ⟨putK kvs q v,rfl,D5 (zX k2 q v y),rfl⟩⟩
  rcases Kj hat2 with ⟨kvs,k1,k2,k3⟩ | ⟨k1,rfl⟩
  ·have hl:kvs.length=al.length:=by have:=congrArg List.length k2; simpa using this
   exact⟨a,q,kvs,rfl,rM d2,.inl k1,by rw [hl]; exact NY (of_decide_eq_true f4) (by decide),hk.nx O _ σ _ (S2.setO hxs ha trivial (fin kvs k2 k3)) e⟩
  ·exact⟨a,q,[],rfl,rM d2,.inr ⟨k1,rfl⟩,by decide,hk.nx O _ σ _ (S2.setO hxs ha trivial (fin [] rfl (cR.mpr rfl))) e⟩
 ·exact absurd hF.symm hk.ne
section
variable {X:Cx}
theorem Jh {pins:List (Qr×Obj)} {σ:St} {H:Hp} {s:Qy} {O:List Qr} {ks ds:List D} {v:V} {qs:List Key} (I:Inv X pins σ H s) (h:cQ X.K (hid H O) (.dct ks ds) v) (hk:keysOf ks=some qs) :
  ∃ a vs,v=.ref a/\qs.length<=Qu/\(a==sysModules)=false/\s.heap.DictOf (cw X.prog X.w) a vs/\vs.map (·.1)=qs:=by
 obtain⟨a,vs,e,_,h2⟩:=JH.mp h
 have ek:=mQ hk
 rcases h2 with ⟨kvs,h3,h4,_⟩ | ⟨kvs,h3,h4,_⟩ | ⟨kvs,o,h3,h4,_⟩
 rotate_left 2
 ·rw [h4] at hk; cases hk
 ·obtain⟨z,hd,us,rel,dd⟩:=Fa I.hok ((aI H O) _ _ h3)
  have e1:kvs.map (·.1)=qs:=by
   have:(kvs.map (·.1)).map bv=qs.map bv:=by rw [Ow,<- ek,h4]; rfl
   have e2:=congrArg keysOf this
   rw [cM,cM] at e2
   exact Option.some.inj e2
  refine⟨a,us,e,?_,hd,dd,?_⟩
  ·have:=congrArg List.length e1
   rw [MY] at this
   omega
  ·rw [<- rel.keys,e1]
 ·cases kvs with
  | nil =>
   rw [h4] at hk
   cases hk
   obtain⟨z,hd,us,rel,dd⟩:=(show dm X.prog X.w H s.heap a (.dK []) from xH (I.hok a _ ((aI H O) _ _ h3)))
   refine⟨a,us,e,M0 _,hd,dd,?_⟩
   rw [<- rel.keys]; rfl
  | cons p r =>
   rw [h4] at hk
   cases hk
def tT:List D->Option D
 | [.dct ks _]=>(keysOf ks).bind fun qs=>some (.int qs.length)
 | _=>none
theorem Bo:dW X (.builtin "len") (xI X.K tT):=by
 intro pins s σ H xs us Q I r ⟨O,ds,d,hO,hd,hg,q⟩
 unfold tT at hg
 split at hg
 ·rename_i ks vs0
  cases hk:keysOf ks with
  | none=>rw [hk] at hg; cases hg
  | some qs =>
   rw [hk] at hg
   cases hg
   obtain⟨v,ev,h1⟩:=hd.one
   obtain⟨a,vs,e,z,hs,dd,e1⟩:=Jh I h1 hk
   subst ev e
   obtain⟨u,rfl,ru⟩:=vals1 r
   cases ru
   have hl:vs.length=qs.length:=by have:=congrArg List.length e1; simpa using this
   refine call_len_dict hs dd (by rw [QR] at z; omega) ?_
   rw [hl]
   exact⟨.int qs.length,H,I.tok _,⟨_,rfl⟩,q _ H (bm.refl H) (e8.mpr rfl)⟩
 ·cases hg
theorem Aa {k:Key} {v:Qo} (h:pV k v=true):RelV (kV k) v:=by
 rcases dj h with ⟨i,t,rfl,rfl⟩ | ⟨x,t,rfl,rfl⟩
 ·exact⟨_,rfl⟩
 ·exact⟨_,rfl⟩
theorem ur {P:Qq} {w:Qp}:∀ {vs:List (Key×Qo)} {its:List Qo},its.length=vs.length->(∀ (j:Nat) (v:Qo),its[j]?=some v->∃ (k:Key) (x:Qo),vs[j]?=some (k,x)/\(cw P w).is k v=true)->Vals (vs.map fun p=>kV p.1) its
 | [],[],_,_=>.nil
 | p::r,u::us,hl,h=>by
  obtain⟨k,x,e,hk⟩:=h 0 u rfl
  cases e
  exact .cons (Aa (by rw [yA] at hk; exact hk)) (ur (by simpa using hl) fun j v e=>h (j+1) v (by simpa using e))
 | [],_::_,hl,_=>by cases hl
 | _::_,[],hl,_=>by cases hl
theorem ub {K:Pj} {H:Hp}:∀ qs:List Key,aY K H (qs.map bv) (qs.map kV)
 | []=>cR.mpr rfl
 | k::r=>bo.mpr ⟨kV k,_,rfl,by cases k with
  | inl i=>exact e8.mpr rfl
  | inr x=>exact eW.mpr rfl,ub r⟩
def oU:List D->Option D
 | [.dct ks _]=>(keysOf ks).bind fun _=>some (.lst ks)
 | _=>none
theorem xN (hc:X.calm=true):dW X (.type "list") (xI X.K oU):=by
 intro pins s σ H xs us Q I r ⟨O,ds,d,hO,hd,hg,q⟩
 unfold oU at hg
 split at hg
 ·rename_i ks vs0
  cases hk:keysOf ks with
  | none=>rw [hk] at hg; cases hg
  | some qs =>
   rw [hk] at hg
   cases hg
   obtain⟨v,ev,h1⟩:=hd.one
   obtain⟨a,vs,e,z,hs,dd,e1⟩:=Jh I h1 hk
   subst ev e
   obtain⟨u,rfl,ru⟩:=vals1 r
   cases ru
   have hl:vs.length=qs.length:=by have:=congrArg List.length e1; simpa using this
   obtain⟨ep,da⟩:=dd.dictAt
   refine PP (PySem.W.kdl_dict hs) (I.ok.hd hc) da ‹0› fun h' tk acc' c' kp e2 it=>?_
   have rv:Vals (qs.map kV) acc'.toList:=by
    have:=ur (P:=X.prog) (w:=X.w) (vs:=vs) (its:=acc'.toList) (by rw [Array.length_toList]; exact it.1) fun j v e=>it.2 j v (by rw [<- Array.getElem?_toList]; exact e)
    rw [<- e1,Ow]; exact this
   refine⟨.ref s.heap.objs.size,_,I.laid (t':=tk) kp (MP _) (show dm X.prog X.w _ h' _ (.lst (qs.map kV)) from ⟨by rw [MY]; exact z,acc'.toList,c',rv,by simpa using e2⟩),rfl,?_⟩
   have hf:=I.hok.fresh (MP s.heap.objs.size)
   refine q _ _ (cD hf _) ?_
   rw [mQ hk]
   exact fG hO hf (ub qs)
 ·cases hg
end
end TG
namespace TG
open PySem PySem.Spec L2
variable [aR]
end TG
namespace TG
open PySem PySem.Spec PySem.Calls L2
variable [aR]
theorem AW:typeLookup (.type "list") "keys"=pure none:=by rw [typeLookup_type,builtinLookup_eq_fast]; kernel_rfl
theorem DM {prog:Qq} {w:Qp} {A:Qx} {E:Qo->Qy->Prop} {s:Qy} {a:Qr} {o:Obj} {xs:Array Qo} {k:Nat} {u:Tok} {Q:Qo->Qy->Prop}
  (hx:s.heap.get? a=some o) (hc:o.cls=.type "list") (hdat:o.data=.seq xs k) (hd:o.dict=none) (hA:A.handled=none)
  (h:∀ h' tk e,Heap.NewExcOf s.heap h' e "AttributeError"->E (.ref e) { s with heap:=h',toks:=tk }) :
  QA (model prog w) A (getAttrBy (.ref a) (.str "keys" u) false) Q E s:=by
 obtain⟨c,dct,dat,sl⟩:=o
 simp only at hc hdat hd
 subst hc hdat hd
 obtain⟨hp,g,d,tk,os⟩:=s
 have hT:∀ tk',(⟨hp,g,d,tk',os⟩:Qy).TypeIs (.ref a) "list":=fun _=>⟨_,hx,rfl⟩
 have f1:=sub_AttributeError
 have f3:=F.slot_list_getattribute.lookup
 have f4:=F.slot_list_getattribute.bind (.ref a)
 have f5:=am_list_getattr_none
 unfold getAttrBy
 repeat (any_goals (first | assumption | exact hT _ | ((with_reducible show QA _ _ (call (Value.builtin "list.__getattribute__") _ _) _ _ _); refine call_meets F.slot_list_getattribute (hT _) am_entry_list_getattribute (F.args_list_getattribute_2 _ _) (meets_getattribute_miss_list a xs k sl "keys" _ AW (by decide +kernel) (by decide +kernel)) ⟨hx,hA,fun h' tk' e hx'=>?_⟩) | wp_step))
 obtain⟨t',u',he⟩:=hx'.there
 show QA _ _ (getattributeRaised _ _ _ _ _ _ _) _ _ _
 unfold getattributeRaised
 repeat (any_goals (first | assumption | wp_step))
 exact h _ _ _ hx'.of
theorem DL {prog:Qq} {w:Qp} {A:Qx} {E:Qo->Qy->Prop} {s:Qy} {a:Qr} {o:Obj} {xs:Array Qo} {k:Nat} {Q:Option Qo->Qy->Prop}
  (hx:s.heap.get? a=some o) (hc:o.cls=.type "list") (hdat:o.data=.seq xs k) (hd:o.dict=none) (hA:A.handled=none)
  (h:∀ h' tk,(∀ b o,s.heap.get? b=some o->h'.get? b=some o)->Q none { s with heap:=h',toks:=tk }) :
  QA (model prog w) A (getAttr? (.ref a) "keys") Q E s:=by
 obtain⟨hp,g,d,tk,os⟩:=s
 have f1:=sub_AttributeError
 unfold getAttr? getAttrBy?
 refine QI (wpAny_mkText ?_)
 refine QI (Ry (DM (s:=⟨hp,g,d,tk+1,os⟩) hx hc hdat hd hA fun h' tk' e ne=>?_))
 obtain⟨ob,vs,e1,e2,_⟩:=ne.there
 refine QI (Rz (s:=⟨h',g,d,tk',os⟩) ⟨ob,e1,e2⟩ f1 ?_)
 exact QH (h h' tk' ne.keeps)

abbrev Keeps (h0 h:Qt):Prop:=∀ b o,h0.get? b=some o->h.get? b=some o
section
variable {prog:Qq} {w:Qp} {A:Qx} {E:Qo->Qy->Prop} {K:Type} [DecidableEq K] {knd:HeapKind prog w K} {d:Qr} {h0:Qt}
def DI (knd:HeapKind prog w K) (h0:Qt) (d:Qr) (h:Qt) (xs:List (K×Qr×Qo)):Prop :=
 (∃ o es ep,h.get? d=some o/\o.ExactDict/\o.data=.dict es ep/\es.toList=xs.map (entryOfKey knd)/\(xs.map (·.1)).Nodup)/\∀ x∈xs,∀ h,Keeps h0 h->knd.is h x.1 x.2.1
theorem DI.dict {h:Qt} {xs:List (K×Qr×Qo)} (x:DI knd h0 d h xs) (k:Keeps h0 h):h.DictOfH knd d xs:=by
 obtain⟨⟨o,es,ep,h1,h2,h3,h4,h5⟩,h6⟩:=x
 exact⟨o,es,ep,h1,h2,h3,h4,fun y hy=>h6 y hy h k,h5⟩
theorem DI.stay {h h':Qt} {xs:List (K×Qr×Qo)} (x:DI knd h0 d h xs) (k:∀ o,h.get? d=some o->h'.get? d=some o):DI knd h0 d h' xs:=by
 obtain⟨⟨o,es,ep,h1,r⟩,h6⟩:=x
 exact⟨⟨o,es,ep,k o h1,r⟩,h6⟩
theorem mem_storedH {xs:List (K×Qr×Qo)} {k:K} {a:Qr} {v:Qo} {x:K×Qr×Qo} (h:x∈storedH xs k a v):(∃ y∈xs,y.1=x.1/\y.2.1=x.2.1)\/(x.1=k/\x.2.1=a):=by
 unfold storedH at h
 split at h
 ·obtain⟨y,hy,rfl⟩:=List.mem_map.mp h
  refine .inl ⟨y,hy,?_⟩
  unfold putAt
  split <;> exact⟨rfl,rfl⟩
 ·rcases List.mem_append.mp h with z | z
  ·exact .inl ⟨x,z,rfl,rfl⟩
  ·rw [Oz] at z
   subst z; exact .inr ⟨rfl,rfl⟩
theorem DI.put {h h':Qt} {xs:List (K×Qr×Qo)} {k:K} {a:Qr} {v:Qo} (x:DI knd h0 d h xs) (hk:∀ h,Keeps h0 h->knd.is h k a) (dd:h'.DictOfH knd d (storedH xs k a v)):DI knd h0 d h' (storedH xs k a v):=by
 obtain⟨o,es,ep,h1,h2,h3,h4,_,h5⟩:=dd
 refine⟨⟨o,es,ep,h1,h2,h3,h4,h5⟩,fun y hy g kg=>?_⟩
 rcases mem_storedH hy with ⟨z,hz,e1,e2⟩ | ⟨e1,e2⟩
 ·rw [<- e1,<- e2]; exact x.2 z hz g kg
 ·rw [e1,e2]; exact hk g kg
theorem wa (xs:List (K×Qr×Qo)) (k:K) (a:Qr) (v:Qo):(storedH xs k a v).length<=xs.length+1:=by
 unfold storedH
 split
 ·rw [MY]; omega
 ·simp
theorem vI:entryFor table "dict.update.loop"=some Builtin.«dict.update.loop»:=entryFor_of_tree (by kernel_rfl)
theorem n8:plainId "dict.update.loop"=true:=by decide +kernel
theorem A0 {R:QS->Qy->Prop} {I:Qr} {fp wr:List Qr} {P:Nat->Qo->Prop} {St:Nat->Qt->Prop} {L:List (K×Qr×Qo)} (W:Walks prog w A.in1 I fp wr L.length P St) (hwr:∀ b∈wr,h0.get? b=none) (hdn:h0.get? d=none) (hdf:d∉fp)
  (hn:L.length<=Qu) (hu:knd.room A.in1) (hP:∀ i v,P i v->∃ x t,L[i]?=some x/\v=.ref t/\∀ h,Keeps h0 h->h.IsTuple t #[.ref x.2.1,x.2.2]) (hK:∀ x∈L,∀ h,Keeps h0 h->knd.is h x.1 x.2.1) (res:Qo) :
  ∀ (m i:Nat) (s:Qy) (xs:List (K×Qr×Qo)) (j:Int) (u:Tok),i+m=L.length->St i s.heap->Keeps h0 s.heap->DI knd h0 d s.heap xs->xs.length<=i ->
  (∀ h' tk,Keeps h0 h'->DI knd h0 d h' ((L.drop i).foldl (fun xs x=>storedH xs x.1 x.2.1 x.2.2) xs)->R (.ok (.ret res)) { s with heap:=h',toks:=tk }) ->
  QT (model prog w) A (.builtin "dict.update.loop" ⟨[.ref d,.ref I,.int j u,res],[]⟩) R s:=by
 have hdw:d∉wr:=fun h=>hdf (W.sub _ h)
 intro m
 induction m with
 | zero =>
  intro i s xs j u hi st kp di hl hR
  have hin:i=L.length:=by omega
  subst hin
  refine RC vI ?_
  rw [Around.under_plainId n8 _]
  show QA _ A.in1 (pyNext (.ref I) >>= _) _ _ s
  refine QI (W.done s _ _ st fun h' tk hk=>?_)
  refine QI (QH (QH ?_))
  have:=hR h' tk (fun b o q=>hk b o (fun z=>by have:=hwr b z; rw [q] at this; cases this) (kp b o q)) (by
   rw [N0,List.foldl_nil]
   exact di.stay fun o q=>hk d o hdw q)
  exact this
 | succ m ih =>
  intro i s xs j u hi st kp di hl hR
  refine RC vI ?_
  rw [Around.under_plainId n8 _]
  show QA _ A.in1 (pyNext (.ref I) >>= _) _ _ s
  refine QI (W.item i s _ _ ‹0› st fun v h' tk hv st' hk=>?_)
  obtain⟨x,t,hx,rfl,ht⟩:=hP i v hv
  have kp':Keeps h0 h':=fun b o q=>hk b o (fun z=>by have:=hwr b z; rw [q] at this; cases this) (kp b o q)
  obtain⟨o,ho,hc,n,hd⟩:=ht h' kp'
  have xm:x∈L:=M9 hx
  refine QI (Q9 (QI (RD ?_)))
  unfold Builtin.Dict.pairItems
  refine QI (Rc (T := "tuple") ⟨o,ho,hc⟩ ?_)
  rw [if_pos (by decide)]
  refine QI (Rm ho hd (QH ?_))
  show QA _ _ (holding [.ref x.2.1,x.2.2] (dictSet d (.ref x.2.1) x.2.2)) _ _ _
  have di':DI knd h0 d h' xs:=di.stay fun o q=>hk d o hdw q
  refine Q9 (wpAny_dictSet_heap (s:={ s with heap:=h',toks:=tk }) (hsz:=by omega) hu (hK x xm h' kp') (di'.dict kp') fun h2 dd sb=>?_)
  have kp2:Keeps h0 h2:=fun b o q=>(sb.2 b (fun z=>by rw [z,hdn] at q; cases q)).trans (kp' b o q)
  refine QH ⟨RF n8 _,?_⟩
  refine ih (i+1) _ (storedH xs x.1 x.2.1 x.2.2) (j+1) 0 ‹0› (W.frame _ _ _ st' fun b hb o q=>(sb.2 b (fun z=>hdf (by rw [<- z]; exact hb))).trans q) kp2 (di'.put (hK x xm) dd) (by have:=wa xs x.1 x.2.1 x.2.2; omega) fun h3 tk3 kp3 di3=>?_
  refine hR h3 tk3 kp3 ?_
  have e:L.drop i=x::L.drop (i+1):=by
   have hil:i < L.length:=by omega
   rw [NX hil]
   rw [NE hil] at hx
   rw [Option.some.inj hx]
  rw [e,Oh]
  exact di3
theorem rE {s:Qy} {Q:Qo->Qy->Prop} {l:Qr} {o:Obj} {items:Array Qo} {n:Nat} {L:List (K×Qr×Qo)} (ho:s.heap.get? l=some o) (hc:o.cls=.type "list") (hd:o.data=.seq items n) (hdd:o.dict=none) (hh:A.handled=none) (hu:knd.room A.in1.in1)
  (hl:items.size=L.length) (hn:L.length<=Qu) (hP:∀ (i:Nat) v,items[i]?=some v->∃ x t,L[i]?=some x/\v=.ref t/\s.heap.IsTuple t #[.ref x.2.1,x.2.2]) (hK:∀ x∈L,∀ h,Keeps s.heap h->knd.is h x.1 x.2.1)
  (hQ:∀ h' tk,Keeps s.heap h'->DI knd s.heap s.heap.objs.size h' (L.foldl (fun xs x=>storedH xs x.1 x.2.1 x.2.2) [])->Q (.ref s.heap.objs.size) { s with heap:=h',toks:=tk }) :
  QA (model prog w) A (call (.type "dict") [.ref l]) Q E s:=by
 refine callType_codes (Q₁:=fun obj s₁=>obj=.ref s.heap.objs.size/\s₁={ s with heap:=s.heap.push { cls:=.type "dict",data:=.dict #[] } }) F.kt_called_dict (F.kt_typeCall_dict_1 _) F.entry_dict_init (kt_code_dict_new _ ⟨rfl,rfl⟩) ?_
 rintro obj s₁ ⟨rfl,rfl⟩
 have hnew:(s.heap.push { cls:=.type "dict",data:=.dict #[] }).DictOfH knd s.heap.objs.size []:=Heap.DictOfH.new s.heap
 have hlt:=PV ho
 have hl1:(s.heap.push { cls:=.type "dict",data:=.dict #[] }).get? l=some o:=PZ _ ho
 refine⟨hnew.typeIs,F.args_dict_init_2 _ _,?_⟩
 unfold Builtin.«dict.__init__»
 refine QI ?_
 unfold Builtin.Dict.selfAndRest
 refine QI (RG hnew.typeIs ?_)
 show QA _ _ (pure (s.heap.objs.size,[Value.ref l])) _ _ _
 refine QH ?_
 show QA _ _ (Builtin.Dict.updateFrom "dict.__init__" s.heap.objs.size (.ref l) [] .none) _ _ _
 unfold Builtin.Dict.updateFrom
 refine QI (Rc (T := "list") ⟨o,hl1,hc⟩ ?_)
 rw [if_pos (by decide)]
 refine QI (DL hl1 hc hd hdd hh fun h1 tk1 k1=>?_)
 rw [if_pos (show (none:Option Qo).isNone=true from rfl)]
 refine QI (Ri ?_)
 have hd1:h1.get? s.heap.objs.size=some { cls:=.type "dict",data:=.dict #[] }:=k1 _ _ (P0 _ rfl)
 have hl2:h1.IsList l items:=⟨o,k1 _ _ hl1,hc,n,hd⟩
 have dlt:=PV hd1
 refine QI (QJ (s:={ s with heap:=h1,toks:=tk1 }) hl2 ?_)
 refine QH ⟨RF n8 _,?_⟩
 have W:=Walks.list (prog:=prog) (w:=w) (A:=A.in1.in1) hh h1.objs.size l (MF (Nq hlt dlt)) items
 rw [hl] at W
 refine A0 (A:=A.in1) (knd:=knd) (h0:=s.heap) (d:=s.heap.objs.size) W (fun b hb=>?_) (PX (MP _)) (fun z=>?_) hn hu (fun i v hv=>?_) hK .none L.length 0 _ [] 0 0 ‹0› ?_ (fun b o q=>?_) ⟨⟨_,#[],0,PZ _ hd1,⟨rfl,rfl,rfl⟩,rfl,rfl,Nr⟩,fun x hx=>by simp at hx⟩ (MP _) fun h' tk kp di=>?_
 ·rw [Oz] at hb
  subst hb
  exact PX (MH dlt)
 ·simp only [N1,N2,or_false] at z
  rcases z with z | z
  ·exact absurd z (MF dlt)
  ·exact absurd z.symm (MF hlt)
 ·obtain⟨x,t,e1,e2,e3⟩:=hP i v hv
  obtain⟨ob,q1,q2⟩:=e3
  exact⟨x,t,e1,e2,fun h kh=>⟨ob,kh _ _ q1,q2⟩⟩
 ·exact⟨⟨_,P0 _ rfl,rfl,rfl⟩,let ⟨ob,q1,q2⟩:=hl2; ⟨ob,PZ _ q1,q2⟩⟩
 ·exact PZ _ (k1 _ _ (PZ _ q))
 ·exact⟨rfl,hQ h' tk kp di⟩
end
def wA:D->Option (List Key×D)
 | .tup [k,v]=>(jE k).map fun q=>(q,v)
 | _=>none
def kr:List D->Option (List (List Key×D))
 | []=>some []
 | d::r=>(wA d).bind fun p=>(kr r).map (p::·)
def CG (ps:List (List Key×D)):List (List Key×D):=ps.foldl (fun al p=>gg al p.1 p.2) []
theorem Dk {d:D} {p:List Key×D} (h:wA d=some p):d=.tup [.tup (p.1.map bv),p.2]:=by
 unfold wA at h
 split at h
 ·rename_i k v
  cases e:jE k with
  | none=>rw [e] at h; cases h
  | some q=>rw [e] at h; cases h; rw [n0 e]
 ·cases h
theorem ux:∀ {xs:List D} {ps:List (List Key×D)},kr xs=some ps->xs=ps.map fun p=>.tup [.tup (p.1.map bv),p.2]
 | [],_,h=>by cases h; rfl
 | d::r,ps,h=>by
  unfold kr at h
  cases e1:wA d with
  | none=>rw [e1] at h; cases h
  | some p =>
   rw [e1] at h
   cases e2:kr r with
   | none=>rw [e2] at h; cases h
   | some ps'=>rw [e2] at h; cases h; rw [Dk e1,ux e2]; rfl
section
variable {X:Cx}
theorem tR {pins:List (Qr×Obj)} {σ:St} {H:Hp} {s:Qy} {O:List Qr} (I:L2.Inv X pins σ H s):∀ {ps:List (List Key×D)} {ws:List V} {its:List Qo},aY X.K (hid H O) (ps.map fun p=>.tup [.tup (p.1.map bv),p.2]) ws->Vals ws its ->
  ∃ (L:List (List Key×Qr×Qo)) (ks:List (List Key×V)),its.length=L.length/\(∀ (i:Nat) (v:Qo),its[i]?=some v->∃ (x:List Key×Qr×Qo) (t:Qr),L[i]?=some x/\v=.ref t/\s.heap.IsTuple t #[.ref x.2.1,x.2.2])/\KT H ks L/\ks.map (·.1)=ps.map (·.1)/\aY X.K (hid H O) (ps.map (·.2)) (ks.map (·.2))
 | [],ws,its,h,r=>by
  rw [Nk,cR] at h
  subst h
  cases r
  exact⟨[],[],rfl,(fun i v e=>by simp at e),.nil,rfl,cR.mpr rfl⟩
 | p::ps,ws,its,h,r=>by
  rw [MX,bo] at h
  obtain⟨w,ws',rfl,h1,h2⟩:=h
  cases r with
  | @cons _ u _ us ru rr =>
   obtain⟨L,ks,l1,l2,l3,l4,l5⟩:=tR I h2 rr
   obtain⟨t,vs,rfl,t1,t2⟩:=cV.mp h1
   obtain⟨v1,v2,rfl,d1,d2⟩:=t2.two
   obtain⟨a,ks1,rfl,a1,a2⟩:=cV.mp d1
   rw [jO a2] at a1
   obtain⟨its',r',⟨o,q1,q2⟩,_⟩:=I.tuple (cC (K:=X.K) (aI H O) t1)
   obtain⟨x1,x2,rfl,rx1,rx2⟩:=vals2 r'
   cases rx1
   obtain rfl:u=Value.ref t:=ru
   refine⟨(p.1,a,x2)::L,(p.1,v2)::ks,by rw [MV,MV,l1],fun i v e=>?_,.cons ⟨rfl,(aI H O) _ _ a1,rx2⟩ l3,by rw [MX,MX,l4],bo.mpr ⟨v2,_,rfl,d2,l5⟩⟩
   cases i with
   | zero =>
    have e:Value.ref t=v:=by simpa using e
    subst e
    exact⟨_,t,rfl,rfl,o,q1,q2⟩
   | succ i=>exact l2 i v (by simpa using e)
theorem wO {K:Pj} {H:Hp} {H0:Hp}:∀ {ps:List (List Key×D)} {ks:List (List Key×V)} {L:List (List Key×Qr×Qo)} {al:List (List Key×D)} {kvs:List (List Key×V)} {xs:List (List Key×Qr×Qo)},KT H ks L->ks.map (·.1)=ps.map (·.1)->aY K H0 (ps.map (·.2)) (ks.map (·.2)) ->
  KT H kvs xs->kvs.map (·.1)=al.map (·.1)->aY K H0 (al.map (·.2)) (kvs.map (·.2)) ->
  KT H (ks.foldl (fun m p=>putK m p.1 p.2) kvs) (L.foldl (fun xs x=>storedH xs x.1 x.2.1 x.2.2) xs)/\(ks.foldl (fun m p=>putK m p.1 p.2) kvs).map (·.1)=(ps.foldl (fun al p=>gg al p.1 p.2) al).map (·.1) /\
   aY K H0 ((ps.foldl (fun al p=>gg al p.1 p.2) al).map (·.2)) ((ks.foldl (fun m p=>putK m p.1 p.2) kvs).map (·.2))/\(ks.foldl (fun m p=>putK m p.1 p.2) kvs).length<=kvs.length+ks.length
 | [],[],_,al,kvs,xs,.nil,_,_,h1,h2,h3=>⟨h1,h2,h3,by simp⟩
 | p::ps,q::ks,_,al,kvs,xs,.cons (b:=x) hq hr,e,d,h1,h2,h3=>by
  rw [MX,MX] at e
  injection e with e1 e2
  rw [MX,MX,bo] at d
  obtain⟨v,vs,d0,d1,d2⟩:=d
  injection d0 with d0 d0'
  subst d0 d0'
  obtain⟨y1,y2,y3⟩:=hq
  have z1:=KT.put h1 q.1 y2 y3
  rw [y1] at z1
  have z2:=vK h2 q.1 q.2 p.2
  have z3:=zi (k:=q.1) d1 h2 h3
  have:=wO (kvs:=putK kvs q.1 q.2) (al:=gg al q.1 p.2) (xs:=storedH xs x.1 x.2.1 x.2.2) hr e2 d2 (by rw [y1]; exact z1) z2 z3
  rw [Oh,Oh,Oh,<- e1]
  refine⟨this.1,this.2.1,this.2.2.1,MG this.2.2.2 ?_⟩
  have:=jj kvs q.1 q.2
  rw [MV]; omega
 | [],_::_,_,_,_,_,_,e,_,_,_,_=>by cases e
 | _::_,[],_,_,_,_,_,e,_,_,_,_=>by cases e
end
def p6 (al:List (List Key×D)) (q:List Key):Option D:=(al.find? fun p=>decide (p.1=q)).map (·.2)
theorem C9 {K:Pj} {H:Hp} {v:V} {al:List (List Key×D)} (h:cQ K H (dH al) v) :
  ∃ a,v=.ref a/\((∃ kvs:List (List Key×V),H a=some (.dT kvs)/\kvs.map (·.1)=al.map (·.1)/\aY K H (al.map (·.2)) (kvs.map (·.2)))\/(H a=some (.dK [])/\al=[])):=by
 obtain⟨a,vs,e0,h2,h3⟩:=JH.mp h
 refine⟨a,e0,?_⟩
 rcases h3 with ⟨kvs,e,e1,e2⟩ | ⟨kvs,e,e1,e2⟩ | ⟨kvs,o,e,e1,e2⟩
 rotate_left 2
 ·cases al with
  | nil=>cases e1
  | cons _ _=>injection e1 with e1 _; cases e1
 ·cases kvs with
  | nil=>exact .inr ⟨e,by simpa using e1⟩
  | cons p r =>
   cases al with
   | nil=>cases e1
   | cons q r' =>
    have e1:D.tup (q.1.map bv)::encK r'=bv p.1::r.map (fun p=>bv p.1):=e1
    injection e1 with e1 _
    rcases p with ⟨k,v⟩
    cases k <;> cases e1
 ·refine .inl ⟨kvs,e,?_,by rw [<- e2]; exact h2⟩
  exact(lK (ks:=kvs.map (·.1)) (by rw [Ow]; exact e1)).symm
theorem wR {K:Pj} {H:Hp} (q:List Key):∀ {kvs:List (List Key×V)} {al:List (List Key×D)},kvs.map (·.1)=al.map (·.1)->aY K H (al.map (·.2)) (kvs.map (·.2))->(kI kvs q=none/\p6 al q=none)\/∃ v d,kI kvs q=some v/\p6 al q=some d/\cQ K H d v
 | [],[],_,_=>.inl ⟨rfl,rfl⟩
 | p::r,a::al,e,h=>by
  rw [MX,MX] at e
  injection e with e1 e2
  rw [MX,MX,bo] at h
  obtain⟨v,ws,h0,h1,h2⟩:=h
  injection h0 with h0 h0'
  subst h0 h0'
  by_cases z:p.1=q
  ·refine .inr ⟨p.2,a.2,kZ z,?_,h1⟩
   unfold p6
   rw [OA (by rw [<- e1]; simpa using z)]; rfl
  ·have ih:=wR q e2 h2
   have g:p6 (a::al) q=p6 al q:=by
    unfold p6
    rw [OB (by rw [<- e1]; simpa using z)]
   rw [jB z,g]
   exact ih
 | [],_::_,e,_=>by cases e
 | _::_,[],e,_=>by cases e
end TG
namespace TG
open PySem PySem.Spec L2
variable [aR]
end TG
namespace TG
open PySem PySem.Spec L2
variable [aR]
end TG
namespace TG
open PySem PySem.Spec L2
variable [aR]
end TG
namespace TG
open PySem PySem.Spec PySem.Calls L2
section
variable {prog:Qq} {w:Qp} {K:Type} [DecidableEq K] {knd:HeapKind prog w K} {A:Qx} {E:Qo->Qy->Prop} {s:Qy} {d a:Qr} {k:K} {xs:List (K×Qr×Qo)}
theorem xn {v:Qo} {Q:Qo->Qy->Prop} (hu:knd.room A) (hkey:knd.is s.heap k a) (hm:s.heap.DictOfH knd d xs) (hsz:xs.length<=Qu)
  (h1:∀ p,atKey xs k=some p->Q p.2 { s with toks:=s.toks+knd.draws k })
  (h2:atKey xs k=none->∀ h',h'.DictOfH knd d (storedH xs k a v)->PY d s.heap h'->Q v { s with heap:=h',toks:=s.toks+knd.draws k }) :
  QA (model prog w) A (dictSetDefault d (.ref a) v) Q E s:=by
 obtain⟨o,es,ep,ho,hc,hd,he,his,hn⟩:=hm
 unfold dictSetDefault
 try with_reducible refine Q9 ?_
 refine QI (knd.pyHash hu hkey (QI (wpAny_dictFind_heap (s:={ s with toks:=s.toks+knd.draws k }) hu hkey ho hd he his hn (fun hno=>?_) fun j p hj=>?_)))
 ·have hnone:=atKey_none_of_get hno
  refine QI (Ri (QI (wpAny_updateDictKeys (hz:=by have e:=size_of_entries he; omega) (s:={ s with toks:=s.toks+knd.draws k }) ho hd (QH (h2 hnone _ ⟨_,_,ep+1,P6 _ ho (Obj.isFreed_of_dict (Obj.data_mapDictKeys hd _)),hc.mapDictKeys _,Obj.data_mapDictKeys hd _,?_,?_,?_⟩ (Heap.SameBut.update ..))))))
  ·rw [storedH_new hnone]; simp [he,entryOfKey]
  ·rw [storedH_new hnone]
   intro x hx
   rcases List.mem_append.mp hx with hx | hx
   ·exact knd.keeps (his x hx) ho hd (Heap.SameBut.update ..)
   ·rw [Oz] at hx; subst hx; exact knd.keeps hkey ho hd (Heap.SameBut.update ..)
  ·rw [storedH_new hnone,NQ,Oc]
   refine⟨hn,by simp,fun x hx y hy=>?_⟩
   simp only [MX,Nk,Oz] at hy
   subst hy; exact fun e=>not_mem_keys_of_get hno (e ▸ hx)
 ·refine QI (RH (s:={ s with toks:=s.toks+knd.draws k }) ho hd ?_)
  rw [entry_at he j,hj]
  exact QI (Ri (QH (h1 p (atKey_of_get hn hj))))
theorem wt {v:Qo} {Q:Qo->Qy->Prop} (hu:knd.room A.in1) (hkey:knd.is s.heap k a) (hm:s.heap.DictOfH knd d xs) (hsm:(d==sysModules)=false) (hsz:xs.length<=Qu)
  (h1:∀ p,atKey xs k=some p->Q p.2 { s with toks:=s.toks+knd.draws k })
  (h2:atKey xs k=none->∀ h',h'.DictOfH knd d (storedH xs k a v)->PY d s.heap h'->Q v { s with heap:=h',toks:=s.toks+knd.draws k }) :
  QA (model prog w) A (call (.builtin "dict.setdefault") [.ref d,.ref a,v]) Q E s:=by
 refine Rb PySem.F.slot_dict_setdefault hm.typeIs PySem.F.entry_dict_setdefault ?_ (PySem.F.args_dict_setdefault_3 _ _ _)
 unfold Builtin.«dict.setdefault»
 refine QI ?_
 unfold Builtin.Dict.keyAndDefault
 refine QI (RG hm.typeIs ?_)
 show QA _ _ (pure (d,Value.ref a,some v)) _ _ s
 refine QH ?_
 show QA _ _ (if (d==sysModules)=true then _ else (dictSetDefault d (.ref a) v >>= _)) _ _ s
 rw [if_neg (by rw [hsm]; exact MU)]
 exact QI (xn hu hkey hm hsz (fun p hp=>QH ⟨_,rfl,h1 p hp⟩) fun hn h' hm' hs'=>QH ⟨_,rfl,h2 hn h' hm' hs'⟩)
end
theorem zY {o:Option V} {w:Qo} (h:rQ o (some w)):∃ v,o=some v/\RelV v w:=by
 cases o with
 | none=>exact h.elim
 | some v=>exact⟨v,rfl,h⟩
theorem Bi {o:Option V} (h:rQ o none):o=none:=by
 cases o with
 | none=>rfl
 | some v=>exact h.elim
section
variable {X:Cx} {pins:List (Qr×Obj)} {σ:St} {H:Hp} {s:Qy} {a b:Qr} {v:V} {r:Qo} {kvs:List (List Key×V)} {k:List Key} {A:Qx} {E:Qo->Qy->Prop}
theorem wx {Q:Qo->Qy->Prop} (hu:A.units+1 < QX) (I:Inv X pins σ H s) (e:H a=some (.dT kvs)) (eb:H b=some (.tup (k.map kV))) (hl:kvs.length < Qu) (rv:RelV v r)
  (h1:∀ v' w' s',kI kvs k=some v'->Inv X pins σ H s'->RelV v' w'->Q w' s') (h2:kI kvs k=none->∀ s',Inv X pins σ (upd H a (.dT (putK kvs k v))) s'->Q r s') :
  QA (model X.prog X.w) A (call (.builtin "dict.setdefault") [.ref a,.ref b,r]) Q E s:=by
 obtain⟨z,hd,xs,rel,dd⟩:=Fi I.hok e
 have hz:xs.length<=Qu:=by rw [<- Paired.length rel]; exact z
 have hl2:(putK kvs k v).length<=Qu:=by have:=jj kvs k v; omega
 have q:=rel.val k
 refine wt (Rh hu) (qH I.hok eb) dd hd hz (fun p hp=>?_) fun hn h' dd' hs=>?_
 ·rw [hp] at q
  obtain⟨v',ev,rv'⟩:=zY q
  exact h1 v' _ _ ev (I.tok _) rv'
 ·rw [hn] at q
  refine h2 (Bi q) _ ?_
  obtain⟨q,es,ep,hq,g2,g3,g4,_,g5⟩:=dd'
  refine mS I (by rw [e]; exact True.intro) hs ⟨q,hq⟩ ⟨hl2,hd,_,(rel.put k eb rv).keeps fun c ys ec=>?_,q,es,ep,hq,g2,g3,g4,g5⟩
  rw [aJ (Dg ec e (fun z=>nomatch z))]; exact ec
end
variable [aR]
def HU:V->List V->Hp->VK->Prop:=fun x vs H Q=>∃ a b k kvs v,x=.ref a/\vs=[.ref b,v]/\H b=some (.tup (k.map kV))/\(H a=some (.dT kvs)\/(H a=some (.dK [])/\kvs=[]))/\kvs.length < Qu/\(∀ v',kI kvs k=some v'->Q v' H)/\(kI kvs k=none->Q v (upd H a (.dT (putK kvs k v))))
theorem EL {X:Cx} (hu:X.A.units+64 < QX):Ib X "dict.setdefault" HU:=by
 intro pins s σ H x vs v us Q I rx rv h
 obtain⟨a,b,k,kvs,v',rfl,rfl,hb,ha,hl,h1,h2⟩:=h
 cases rx
 obtain⟨u1,u,rfl,r1,ru⟩:=rv.two
 obtain rfl:u1=Value.ref b:=r1
 rcases ha with ha | ⟨ha,rfl⟩
 ·exact wx ‹0› I ha hb hl ru (fun v1 w1 s1 e I1 r=>⟨v1,H,I1,r,h1 v1 e⟩) fun e s1 I1=>⟨v',_,I1,ru,h2 e⟩
 ·have ne:b≠a:=fun z=>by rw [z,ha] at hb; cases hb
  refine wx ‹0› (Ey I ha) bb (by rw [aJ ne]; exact hb) hl ru (fun v1 w1 s1 e=>by cases e) fun e s1 I1=>⟨v',_,?_,ru,h2 e⟩
  rw [rF] at I1; exact I1
end TG
namespace TG
open PySem PySem.Spec L2
variable [aR]
theorem eK.setN {K:Pj} {Hb:Hp} {Ob O O':List Qr} {H H':Hp} {ρ:au} {σ:St} (S:eK K Hb Ob O H ρ σ) {i:Nat} {d d':D} (hi:ρ[i]?=some (some (.nest d))) (sub:∀ b∈O,b∈O') (s:bm (hid H O) (hid H' O')) (hb:Base Hb Ob H' O') (all:eF H' O')
  (keep:∀ (j:Nat) xs b,ρ[j]?=some (some (.own xs))->σ[j]?=some (some (.ref b))->H b=H' b) (new:zB K Hb Ob O' H' (ρ.set i (some (.nest d'))) σ i d'):eK K Hb Ob O' H' (ρ.set i (some (.nest d'))) σ:=by
 have own:∀ (j:Nat) xs,(ρ.set i (some (.nest d')))[j]?=some (some (.own xs))->ρ[j]?=some (some (.own xs)):=fun j xs e=>by
  rcases bf e with ⟨_,q⟩ | ⟨_,q⟩
  ·cases q
  ·exact q
 refine⟨⟨fun j d1 e=>?_,fun j xs e=>?_,fun j l xs ys a e1 e2 e3 e4=>S.env.one j l xs ys a (own j xs e1) (own l ys e2) e3 e4,all⟩,hb,fun j xs a e1 e2=>S.mine j xs a (own j xs e1) e2,fun j dn e=>?_⟩
 ·rcases bf e with ⟨_,q⟩ | ⟨_,q⟩
  ·cases q
  ·obtain⟨v,q1,q2⟩:=S.env.val j d1 q
   exact⟨v,q1,q2.mono s⟩
 ·obtain⟨a,q1,q2,q3⟩:=S.env.own j xs (own j xs e)
  exact⟨a,q1,sub a q2,q3.mono (keep j xs a (own j xs e) q1) s⟩
 ·rcases bf e with ⟨hj,q⟩ | ⟨ne,q⟩
  ·cases q; rw [hj]; exact new
  ·obtain⟨_,_,_,_,_,_,one⟩:=S.nst i d hi
   exact absurd (one j dn q) ne
def IE:au->Bool
 | []=>true
 | some (.nest _)::_=>false
 | _::ρ=>IE ρ
theorem nW:∀ {ρ:au},IE ρ=true->∀ (j:Nat) d,ρ[j]?≠some (some (.nest d))
 | [],_,j,d,e=>by simp at e
 | none::ρ,h,j,d,e=>by
  cases j with
  | zero=>simp at e
  | succ j=>exact nW (ρ:=ρ) h j d (by simpa using e)
 | some (.val _)::ρ,h,j,d,e=>by
  cases j with
  | zero=>simp at e
  | succ j=>exact nW (ρ:=ρ) h j d (by simpa using e)
 | some (.own _)::ρ,h,j,d,e=>by
  cases j with
  | zero=>simp at e
  | succ j=>exact nW (ρ:=ρ) h j d (by simpa using e)
 | some (.nest _)::ρ,h,j,d,e=>by cases h
theorem eK.setNewN {K:Pj} {Hb:Hp} {Ob O:List Qr} {H H':Hp} {ρ:au} {σ:St} (E:eK K Hb Ob O H ρ σ) {i:Nat} {p:Qr} (hi:i < σ.length) (sm:bm H H') (hp:H p=none) (m:∃ o,H' p=some o/\qN o) (hn:IE ρ=true) (new:dF K H' (p::O) p (.dct [] [])) :
  eK K Hb Ob (p::O) H' (ρ.set i (some (.nest (.dct [] [])))) (σ.set i (some (.ref p))):=by
 have T:=E.setNew hi sm hp m new
 have key:∀ (j:Nat) (x:S),(ρ.set i (some (.nest (.dct [] []))))[j]?=some (some x)->(j=i/\x=.nest (.dct [] []))\/(j≠i/\(ρ.set i (some (.own (.dct [] []))))[j]?=some (some x)):=fun j x e=>by
  rcases bf e with ⟨hj,q⟩ | ⟨ne,q⟩
  ·cases q; exact .inl ⟨hj,rfl⟩
  ·exact .inr ⟨ne,by rw [MN (Ne.symm ne)]; exact q⟩
 refine⟨⟨fun j d e=>?_,fun j xs e=>?_,fun j l xs ys a e1 e2 e3 e4=>?_,T.env.all⟩,T.base,fun j xs a e1 e2=>?_,fun j dn e=>?_⟩
 ·rcases key j _ e with ⟨_,q⟩ | ⟨_,q⟩
  ·cases q
  ·exact T.env.val j d q
 ·rcases key j _ e with ⟨_,q⟩ | ⟨_,q⟩
  ·cases q
  ·exact T.env.own j xs q
 ·rcases key j _ e1 with ⟨_,q⟩ | ⟨_,q1⟩
  ·cases q
  ·rcases key l _ e2 with ⟨_,q⟩ | ⟨_,q2⟩
   ·cases q
   ·exact T.env.one j l xs ys a q1 q2 e3 e4
 ·rcases key j _ e1 with ⟨_,q⟩ | ⟨_,q⟩
  ·cases q
  ·exact T.mine j xs a q e2
 ·rcases key j _ e with ⟨hj,q⟩ | ⟨ne,q⟩
  ·cases q
   subst hj
   refine⟨p,[],MM hi,⟨[],trivial,?_⟩,by simp,fun b hb=>?_,fun l d' w=>?_⟩
   ·obtain⟨o,vs,h1,h2,h3⟩:=new
    rcases h3 with ⟨kvs,e1,e2,_⟩ | ⟨kvs,e1,e2,_⟩
    ·have:kvs=[]:=by cases kvs with | nil=>rfl | cons _ _=>cases e2
     subst this e1
     exact .inr (.inr ⟨rfl,rfl,h1⟩)
    ·have:kvs=[]:=by cases kvs with | nil=>rfl | cons _ _=>cases e2
     subst this e1
     exact .inr (.inl ⟨[],rfl,h1,rfl⟩)
   ·rw [List.mem_singleton.mp hb]
    refine⟨MJ,E.base.same.free hp,fun z=>E.env.all.not hp (E.base.sub p z),fun l d' w z=>?_⟩
    rcases key l _ w with ⟨_,q⟩ | ⟨nl,q⟩
    ·cases q
    ·exact nl (T.env.one l j d' (.dct [] []) p q (MM (by
      have:=(List.getElem?_eq_some_iff.mp e).1
      rw [List.length_set] at this; exact this)) z (MM hi))
   ·rcases key l _ w with ⟨hl,_⟩ | ⟨nl,q⟩
    ·exact hl
    ·rw [MN (Ne.symm nl)] at q
     exact absurd q (nW hn l d')
  ·rw [MN (Ne.symm ne)] at q
   exact absurd q (nW hn j dn)
def wu (i:Nat):cB:=fun k ρ=>if IE ρ then k.nx (ρ.set i (some (.nest (.dct [] [])))) else un
section
variable {X:Cx} {pos:Pos}
theorem JI {i:Nat} {x:Str} {dp pos':Pos} (hN:X.N.Nodup) (hi:X.N[i]?=some x) (hx:Loc X.env.scope x) (hs:swapsWith (.Dict [] [] dp) (some (.Name x pos')) pos.line X.env=pure false:=by rfl) (hf:X.fn x=true\/X.env.scope.names.lookup x=some .local:=by first | exact .inl rfl | exact .inr rfl | assumption) :
  FS X (.Assign [.Name x pos'] (.Dict [] [] dp) pos) (wu i):=fun Hb Ob pins s σ H E I ⟨O,ρ,k,r,S,hF,hk⟩=>by
 unfold wu at hF
 cases hn:IE ρ with
 | false=>rw [hn] at hF; exact absurd hF.symm hk.ne
 | true =>
  rw [hn] at hF
  exact xM hN hi hx B3 hs hf pins s σ H E I ⟨O,ρ,S.env,fun p H1 s1 hp m o=>hk.nx _ _ _ H1 (S.setNewN (by rw [I.len]; exact(List.getElem?_eq_some_iff.mp hi).1) s1 hp m hn o) hF⟩
end
theorem lF.den {K:Pj} {H:Hp} {O O':List Qr} (s:bm (hid H O) (hid H O')):∀ {bs:List Qr} {xs:List D},lF K H O bs xs->(∀ b∈bs,b∉O')->aY K (hid H O') xs (bs.map .ref)
 | [],[],_,_=>cR.mpr rfl
 | b::bs,x::xs,h,n=>bo.mpr ⟨_,_,rfl,h.1.den s (n b MJ),lF.den s h.2 fun b' hb=>n b' (MK _ hb)⟩
 | [],_::_,h,_=>h.elim
 | _::_,[],h,_=>h.elim
end TG
namespace TG
open PySem PySem.Spec L2
variable [aR]
def sy:List (List Key×D)->List Key->D->Option (List (List Key×D))
 | [],q,v=>some [(q,.lst [v])]
 | p::r,q,v=>if p.1=q then (match p.2 with
   | .lst ys=>if small (ys.length+1) then some ((p.1,.lst (ys++[v]))::r) else none
   | _=>none) else (sy r q v).map (p::·)
def wJ (ks xs:List D) (k v:D):Option (List (List Key×D)):=(kX ks xs).bind fun al=>(jE k).bind fun q=>if small al.length then sy al q v else none
theorem Bj {ks ds:List D} {k v:D} {al':List (List Key×D)} (h:wJ ks ds k v=some al'):∃ al q,ks=encK al/\ds=al.map (·.2)/\k=.tup (q.map bv)/\small al.length=true/\sy al q v=some al':=by
 unfold wJ at h
 cases e1:kX ks ds with
 | none=>rw [e1] at h; cases h
 | some al =>
  rw [e1] at h
  cases e2:jE k with
  | none=>rw [e2] at h; cases h
  | some q =>
   rw [e2] at h
   obtain⟨h3,h4⟩:=tX (show (if small al.length then sy al q v else none)=some al' from h)
   exact⟨al,q,(jf e1).1,(jf e1).2,n0 e2,h3,h4⟩
theorem lF.imp {K:Pj} {H H':Hp} {O O':List Qr}:∀ {bs:List Qr} {xs:List D},lF K H O bs xs->(∀ c∈bs,∀ x,dF K H O c x->dF K H' O' c x)->lF K H' O' bs xs
 | [],[],_,_=>trivial
 | b::bs,x::xs,h,f=>⟨f b MJ x h.1,lF.imp h.2 fun c hc=>f c (MK _ hc)⟩
 | [],_::_,h,_=>h.elim
 | _::_,[],h,_=>h.elim
theorem lF.snoc {K:Pj} {H:Hp} {O:List Qr} {b:Qr} {x:D} (hx:dF K H O b x):∀ {bs:List Qr} {xs:List D},lF K H O bs xs->lF K H O (bs++[b]) (xs++[x])
 | [],[],_=>⟨hx,trivial⟩
 | b'::bs,x'::xs,h=>⟨h.1,lF.snoc hx h.2⟩
 | [],_::_,h=>h.elim
 | _::_,[],h=>h.elim
theorem vk {K:Pj} {H:Hp} {O:List Qr} {q:List Key} {v:D}:∀ {al al':List (List Key×D)} {kvs:List (List Key×V)} {bs:List Qr},kvs.map (·.1)=al.map (·.1)->kvs.map (·.2)=bs.map .ref->lF K H O bs (al.map (·.2))->bs.Nodup->sy al q v=some al' ->
  (∃ b ys,kI kvs q=some (.ref b)/\b∈bs/\dF K H O b (.lst ys)/\small (ys.length+1)=true/\al'.map (·.1)=al.map (·.1)/\∀ H' O',(∀ c∈bs,c≠b->∀ x,dF K H O c x->dF K H' O' c x)->dF K H' O' b (.lst (ys++[v]))->lF K H' O' bs (al'.map (·.2))) \/
  (kI kvs q=none/\al'=al++[(q,.lst [v])])
 | [],al',kvs,bs,e1,e2,h,nd,g=>by
  cases kvs with
  | cons _ _=>cases e1
  | nil=>cases g; exact .inr ⟨rfl,rfl⟩
 | p::al,al',kvs,bs,e1,e2,h,nd,g=>by
  cases kvs with
  | nil=>cases e1
  | cons p' kvs =>
   cases bs with
   | nil=>cases e2
   | cons b bs =>
    rw [MX,MX] at e1 e2
    injection e1 with f1 f2
    injection e2 with f3 f4
    obtain⟨n1,n2⟩:=List.nodup_cons.mp nd
    have h:dF K H O b p.2/\lF K H O bs (al.map (·.2)):=h
    unfold sy at g
    by_cases eq:p.1=q
    ·rw [if_pos eq] at g
     left
     split at g
     ·rename_i ys hp
      obtain⟨g1,g2⟩:=bQ g
      subst g2
      rw [hp] at h
      refine⟨b,ys,by rw [kZ (f1.trans eq),f3],MJ,h.1,g1,rfl,fun H' O' oth new=>⟨new,h.2.imp fun c hc=>oth c (MK _ hc) fun z=>n1 (by rw [<- z]; exact hc)⟩⟩
     ·cases g
    ·rw [if_neg eq] at g
     cases g2:sy al q v with
     | none=>rw [g2] at g; cases g
     | some al2 =>
      rw [g2] at g
      cases g
      rcases vk f2 f4 h.2 n2 g2 with ⟨c,ys,w1,w2,w3,w4,w5,w6⟩ | ⟨w1,w2⟩
      ·refine .inl ⟨c,ys,by rw [jB (by rw [f1]; exact eq)]; exact w1,MK _ w2,w3,w4,by rw [MX,MX,w5],fun H' O' oth new=>⟨oth b MJ (fun z=>n1 (by rw [z]; exact w2)) _ h.1,w6 H' O' (fun c' hc=>oth c' (MK _ hc)) new⟩⟩
      ·exact .inr ⟨by rw [jB (by rw [f1]; exact eq)]; exact w1,by rw [w2]; rfl⟩
theorem sV {kvs:List (List Key×V)} {q:List Key} {v:V} (h:kI kvs q=none):putK kvs q v=kvs++[(q,v)]:=by
 unfold putK
 rw [rV,h]; rfl
def Aw (i:Nat) (fk fv:FX):cB:=fun k ρ=>match ρ[i]? with
 | some (some (.nest (.dct ks xs)))=>((A3 (fk ρ)).bind fun q=>(A3 (fv ρ)).bind fun v=>rO (wJ ks xs q v)).bind fun al=>k.nx (ρ.set i (some (.nest (dH al))))
 | _=>un
theorem Aq {i:Nat} {fk fv:FX} {k:Ks} {ρ:au} {r:R D} (h:Aw i fk fv k ρ=r) (hr:r≠un):∃ al q v al',ρ[i]?=some (some (.nest (dH al)))/\fk ρ=.ok (.tup (q.map bv))/\fv ρ=.ok v/\small al.length=true/\sy al q v=some al'/\k.nx (ρ.set i (some (.nest (dH al'))))=r:=by
 unfold Aw at h
 split at h
 ·rename_i ks xs hi
  cases e1:fk ρ with
  | error z=>rw [e1] at h; exact absurd h.symm hr
  | ok qd =>
   rw [e1] at h
   cases e2:fv ρ with
   | error z=>rw [e2] at h; exact absurd h.symm hr
   | ok v =>
    rw [e2] at h
    have h':(rO (wJ ks xs qd v)).bind (fun al=>k.nx (ρ.set i (some (.nest (dH al)))))=r:=h
    clear h
    cases e3:wJ ks xs qd v with
    | none=>rw [e3] at h'; exact absurd h'.symm hr
    | some al' =>
     rw [e3] at h'
     obtain⟨al,q,f1,f2,f3,f4,f5⟩:=Bj e3
     subst f1 f2 f3
     exact⟨al,q,v,al',hi,rfl,rfl,f4,f5,h'⟩
 ·exact absurd h.symm hr
theorem rj {K:Pj} {H:Hp} {O:List Qr} {a:Qr} {bs:List Qr} {al:List (List Key×D)} (h:wm K H O a bs (dH al)):∃ kvs:List (List Key×V),(H a=some (.dT kvs)\/(H a=some (.dK [])/\kvs=[]))/\kvs.map (·.1)=al.map (·.1)/\kvs.map (·.2)=bs.map .ref/\lF K H O bs (al.map (·.2)):=by
 obtain⟨xs,h1,h2⟩:=h
 rcases h2 with ⟨e,_⟩ | ⟨kvs,e,q,e2⟩ | ⟨e,e2,q⟩
 ·cases e
 ·injection e with f1 f2
  subst f2
  refine⟨kvs,.inl q,?_,e2,h1⟩
  exact(lK (ks:=kvs.map (·.1)) (by rw [Ow]; exact f1)).symm
 ·injection e with f1 f2
  subst f2 e2
  have:al=[]:=by
   cases al with
   | nil=>rfl
   | cons _ _=>cases f1
  subst this
  exact⟨[],.inr ⟨q,rfl⟩,rfl,rfl,h1⟩
section
variable {X:Cx}
theorem Kc {i:Nat} {x:Str} {ke ve:QB} {fk fv:FX} {npos ap1 cp1 lp ap2 cp2 pos:Pos} (hu:X.A.units+64 < QX) (hx:PE X (.Name x npos) (oQ i)) (hke:FE X ke fk) (hve:FE X ve fv) (hn1:noStar ke=true:=by rfl) (hn2:noStar ve=true:=by rfl)
  (hb1:QU (.Name x npos) "setdefault" X.env (eval (.Name x npos) X.env)=eval (.Name x npos) X.env:=by rfl)
  (hf1:((backTo cp1 (QC [ke,.List [] lp] X.env)).all (fun x=>!x.1) && (backToKw cp1 (QW [] X.env)).all (fun x=>x.1.isSome) && decide (([ke,.List [] lp]:List QB).length+([]:List Q2).length+(if ([]:List Q2).isEmpty then 0 else 1) < 30))=true:=by rfl)
  (hl1:(ap1.endLine==cp1.line)=true:=by rfl) (hp1:(backTo cp1 (QC [.List [] lp] X.env)).any (·.1)=false:=by rfl)
  (hb2:QU (.Call (.Attribute (.Name x npos) "setdefault" ap1) [ke,.List [] lp] [] cp1) "append" X.env (eval (.Call (.Attribute (.Name x npos) "setdefault" ap1) [ke,.List [] lp] [] cp1) X.env)=eval (.Call (.Attribute (.Name x npos) "setdefault" ap1) [ke,.List [] lp] [] cp1) X.env:=by rfl)
  (hf2:((backTo cp2 (QC [ve] X.env)).all (fun x=>!x.1) && (backToKw cp2 (QW [] X.env)).all (fun x=>x.1.isSome) && decide (([ve]:List QB).length+([]:List Q2).length+(if ([]:List Q2).isEmpty then 0 else 1) < 30))=true:=by rfl)
  (hl2:(ap2.endLine==cp2.line)=true:=by rfl) (hp2:(backTo cp2 (QC [] X.env)).any (·.1)=false:=by rfl)
  (hsw:swapsWith (.Call (.Attribute (.Call (.Attribute (.Name x npos) "setdefault" ap1) [ke,.List [] lp] [] cp1) "append" ap2) [ve] [] cp2) none pos.line X.env=pure false:=by rfl) :
  FS X (.Expr (.Call (.Attribute (.Call (.Attribute (.Name x npos) "setdefault" ap1) [ke,.List [] lp] [] cp1) "append" ap2) [ve] [] cp2) pos) (Aw i fk fv):=fun Hb Ob pins s σ H E I ⟨O,ρ,k,rr,S,hF,hk⟩=>by
 obtain⟨al,q,v,al',hi,hfk,hfv,hsm,hg,hnx⟩:=Aq hF hk.ne
 obtain⟨a,bs,ha,hat,nd,hbs,one⟩:=S.nst i _ hi
 obtain⟨kvs,hH,ek,ev,hO⟩:=rj hat
 obtain⟨na,nb⟩:=List.nodup_cons.mp nd
 obtain⟨aO,aHb,aOb,aS⟩:=hbs a MJ
 have hlen:kvs.length < Qu:=by
  have:kvs.length=al.length:=by have:=congrArg List.length ek; simpa using this
  rw [this]; exact NY (of_decide_eq_true hsm) (by decide)
 refine vj (zk F.plainAttrs_list F.slot_list_append F.type_list_append eM (zk F.plainAttrs_dict F.slot_dict_setdefault F.type_dict_setdefault (EL hu) hx (ku hke (ku (yI oN) oN) (dE hn1)) hb1 hf1 hl1 (dE hn1) hp1) (Du hve GQ hn2) hb2 hf2 hl2 (dE hn2) hp2) hsw pins s σ H E I ?_
 refine⟨.ref a,ha,.inr (.inr (.inl ⟨rfl,?_⟩)),O,ρ,S.env,?_⟩
 ·rcases hH with h | ⟨h,_⟩
  ·exact .inr ⟨_,h⟩
  ·exact .inl ⟨_,h⟩
 rw [hfk]
 intro y H1 s1 d1
 refine⟨M0 _,fun p hp=>?_⟩
 obtain⟨b,ws,eb,g1,g2⟩:=cV.mp d1
 rw [jO g2] at g1
 have hb1':H1 b=some (.tup (q.map kV)):=(aI H1 O) _ _ g1
 have bp:b≠p:=bg hb1' hp
 have ap:a≠p:=by
  rcases hH with h | ⟨h,_⟩
  ·exact bg (s1 _ _ h) hp
  ·exact bg (s1 _ _ h) hp
 have pHb:Hb p=none:=(S.base.same.trans s1).free hp
 have pO:p∉O:=(S.env.all.same s1).not hp
 have pOb:p∉Ob:=fun z=>pO (S.base.sub p z)
 have bsp:∀ c∈bs,c≠p:=fun c hc=>by
  obtain⟨o,ho⟩:=hO.some c hc
  exact bg (s1 _ _ ho) hp
 have E2:dQ X.K (p::O) (upd H1 p (.lst [])) ρ σ:=(S.env.same s1).hideNew trivial hp
 have sm2:bm (hid H O) (hid (upd H1 p (.lst [])) (p::O)):=(bV s1).trans (rg hp)
 have sH2:bm H (upd H1 p (.lst [])):=s1.trans (cD hp _)
 have pS:∀ (j:Nat) d',ρ[j]?=some (some (.own d'))->σ[j]?≠some (some (.ref p)):=fun j d' w z=>by
  obtain⟨c,e1,e2,_⟩:=S.env.own j d' w
  rw [z] at e1; cases e1
  exact pO e2
 have fin:∀ (H3:Hp) (l:Qr) (wl:List V) (ys:List D) (bs':List Qr) (kvs':List (List Key×V)),dQ X.K (p::O) H3 ρ σ->bm (hid (upd H1 p (.lst [])) (p::O)) (hid H3 (p::O))->(∀ c o,c≠a->(upd H1 p (.lst [])) c=some o->H3 c=some o)->l∈bs'->l≠a->H3 l=some (.lst wl)->aY X.K (hid H3 (p::O)) ys wl->ys.length+1<=100000 ->
   (H3 a=some (.dT kvs'))->kvs'.map (·.1)=al'.map (·.1)->kvs'.map (·.2)=bs'.map .ref->(a::bs').Nodup->(∀ c∈bs',c∈bs\/c=p) ->
   (∀ H' O',(∀ c∈bs',c≠l->∀ x,dF X.K H3 (p::O) c x->dF X.K H' O' c x)->dF X.K H' O' l (.lst (ys++[v]))->lF X.K H' O' bs' (al'.map (·.2))) ->
   K7 X.K "list" (.ref l) H3/\JN X (af fv aq) σ H3 fun vs H4=>u6 (.ref l) vs H4 fun _ H5=>E.nx σ H5:=by
  intro H3 l wl ys bs' kvs' E3 sm3 keep3 lb la hl3 dl ln ha3 k1 k2 nd' mem new
  refine⟨.inl ⟨rfl,wl,oo.of hl3⟩,p::O,ρ,E3,?_⟩
  have e1:(af fv aq) ρ=.ok [v]:=by
   show (fv ρ).bind _=_
   rw [hfv]; rfl
  rw [e1]
  intro vs H4 s4 dv
  obtain⟨y',rfl,dy⟩:=dv.one
  have lO:l∈p::O:=by
   rcases mem l lb with z | z
   ·exact MK _ (hbs l (MK _ z)).1
   ·rw [z]; exact MJ
  have lHb:Hb l=none:=by
   rcases mem l lb with z | z
   ·exact(hbs l (MK _ z)).2.1
   ·rw [z]; exact pHb
  have lS:∀ (j:Nat) d',ρ[j]?=some (some (.own d'))->σ[j]?≠some (some (.ref l)):=by
   rcases mem l lb with z | z
   ·exact(hbs l (MK _ z)).2.2.2
   ·rw [z]; exact pS
  have hl4:=s4 _ _ hl3
  have sm5:bm (hid H3 (p::O)) (hid (upd H4 l (.lst (wl++[y']))) (p::O)):=(bV s4).trans (gS lO)
  have wlen:=dl.length
  refine⟨l,wl,y',rfl,rfl,hl4,by rw [<- wlen]; exact MD (Nat.lt_of_succ_le ln) (by decide),hk.nx (p::O) _ σ _ (S.setN hi (fun c hc=>MK _ hc) ((sm2.trans sm3).trans sm5) ⟨fun c u h=>?_,fun c hc=>MK _ (S.base.sub c hc),fun c hc=>?_⟩ ((E3.all.same s4).upd lO trivial) (fun j xs c w1 w2=>?_) ?_) hnx⟩
  ·have ca:c≠a:=fun z=>by rw [z,aHb] at h; cases h
   have cl:c≠l:=fun z=>by rw [z,lHb] at h; cases h
   rw [aJ cl]
   exact s4 _ _ (keep3 c u ca (sH2 _ _ (S.base.same c u h)))
  ·rcases List.mem_cons.mp hc with z | z
   ·rw [z]; exact .inr pHb
   ·exact S.base.new c z
  ·obtain⟨c',q1,q2,q3⟩:=S.env.own j xs w1
   rw [w2] at q1; cases q1
   obtain⟨o,ho⟩:=q3.some
   have ca:c≠a:=fun z=>aS j xs w1 (by rw [<- z]; exact w2)
   have cl:c≠l:=fun z=>lS j xs w1 (by rw [<- z]; exact w2)
   rw [ho,aJ cl]
   exact(s4 _ _ (keep3 c o ca (sH2 _ _ ho))).symm
  ·refine⟨a,bs',ha,⟨al'.map (·.2),new _ _ (fun c hc ne x hx=>hx.mono ?_ sm5) ⟨_,_,bb,rfl,?_⟩,.inr (.inl ⟨kvs',?_,?_,k2⟩)⟩,nd',fun c hc=>?_,fun j d' w=>?_⟩
   ·obtain⟨o,ho⟩:=hx.some
    rw [aJ ne,ho,s4 _ _ ho]
   ·exact(dl.mono sm5).append (bo.mpr ⟨y',[],rfl,dy.mono (gS lO),cR.mpr rfl⟩)
   ·show D.dct (encK al') _=_
    rw [uQ k1]
   ·rw [aJ (Ne.symm la)]; exact s4 _ _ ha3
   ·have own:∀ (j:Nat) d',(ρ.set i (some (.nest (dH al'))))[j]?=some (some (.own d'))->ρ[j]?=some (some (.own d')):=fun j d' w=>by
     rcases bf w with ⟨_,z⟩ | ⟨_,z⟩
     ·cases z
     ·exact z
    rcases List.mem_cons.mp hc with z | z
    ·rw [z]; exact⟨MK _ aO,aHb,aOb,fun j d' w=>aS j d' (own j d' w)⟩
    ·rcases mem c z with z' | z'
     ·obtain⟨w1,w2,w3,w4⟩:=hbs c (MK _ z')
      exact⟨MK _ w1,w2,w3,fun j d' w=>w4 j d' (own j d' w)⟩
     ·rw [z']; exact⟨MJ,pHb,pOb,fun j d' w=>pS j d' (own j d' w)⟩
   ·rcases bf w with ⟨hj,_⟩ | ⟨_,z⟩
    ·exact hj
    ·exact one j d' z
 have hH2:upd H1 p (.lst []) a=some (.dT kvs)\/(upd H1 p (.lst []) a=some (.dK [])/\kvs=[]):=by
  rw [aJ ap]
  rcases hH with h | ⟨h,z⟩
  ·exact .inl (s1 _ _ h)
  ·exact .inr ⟨s1 _ _ h,z⟩
 have hO2:lF X.K (upd H1 p (.lst [])) (p::O) bs (al.map (·.2)):=hO.mono sm2 fun c hc ⟨o,ho⟩=>by rw [aJ (bsp c hc),ho,s1 _ _ ho]
 refine⟨a,b,q,kvs,.ref p,rfl,by rw [eb],by rw [aJ bp]; exact hb1',hH2,hlen,fun v' hv=>?_,fun hv=>?_⟩
 ·rcases vk ek ev hO2 nb hg with ⟨c,ys,w1,w2,w3,w4,w5,w6⟩ | ⟨w1,_⟩
  ·rw [w1] at hv; cases hv
   obtain⟨o,wl,h1,h2,h3⟩:=w3
   subst h2
   rcases hH2 with hH2 | ⟨_,z⟩
   ·exact fin _ c wl ys bs kvs E2 (fun _ _ z=>z) (fun _ _ _ z=>z) w2 (fun z=>na (by rw [<- z]; exact w2)) h1 h3 (of_decide_eq_true w4) hH2 (ek.trans w5.symm) ev nd (fun _ z=>.inl z) w6
   ·subst z; cases w1
  ·rw [w1] at hv; cases hv
 ·rcases vk ek ev hO2 nb hg with ⟨c,ys,w1,_⟩ | ⟨_,w2⟩
  ·rw [w1] at hv; cases hv
  ·subst w2
   have aO2:a∈p::O:=MK _ aO
   refine fin (upd (upd H1 p (.lst [])) a (.dT (putK kvs q (.ref p)))) p [] [] (bs++[p]) (putK kvs q (.ref p)) (E2.rewrite (show qN (.dT (putK kvs q (.ref p))) from trivial) aO2 aS) (gS aO2) (fun c o ne z=>by rw [aJ ne]; exact z) (by simp) (Ne.symm ap) (by rw [aJ (Ne.symm ap)]; exact bb) (cR.mpr rfl) (by decide) bb ?_ ?_ ?_ (fun c hc=>?_) fun H' O' oth new=>?_
   ·rw [sV hv,NQ,NQ,ek]; rfl
   ·rw [sV hv,NQ,NQ,ev]; rfl
   ·refine List.nodup_cons.mpr ⟨fun z=>?_,List.nodup_append.mpr ⟨nb,by simp,fun c hc c' hc' e=>?_⟩⟩
    ·rcases List.mem_append.mp z with z | z
     ·exact na z
     ·exact ap (List.mem_singleton.mp z)
    ·rw [List.mem_singleton.mp hc'] at e
     exact bsp c hc e
   ·rcases List.mem_append.mp hc with z | z
    ·exact .inl z
    ·exact .inr (List.mem_singleton.mp z)
   ·rw [NQ]
    refine lF.snoc new (hO2.imp fun c hc x hx=>oth c (ML _ hc) (bsp c hc) x (hx.mono ?_ (gS aO2)))
    exact(aJ fun z=>na (by rw [<- z]; exact hc)).symm
end
end TG
namespace TG
open PySem PySem.Spec L2
section
variable {prog:Qq} {w:Qp} {A:Qx} {E:Qo->Qy->Prop} {s:Qy} {it d v:Qr} {i ep:Nat} {o:Obj} {es:Array Rg} {ok ov:Qo}
theorem yd {Q:Qo->Qy->Prop} (ho:s.heap.get? d=some o) (hx:o.ExactDict) (hd:(d==sysModules)=false) (h:Q (.ref s.heap.objs.size) { s with heap:=s.heap.push { cls:=.type "dict_items",data:=.fields #[.ref d] } }) :
  QA (model prog w) A (call (.builtin "dict.items") [.ref d]) Q E s:=by
 refine Rb PySem.F.slot_dict_items ⟨o,ho,hx.1⟩ PySem.F.entry_dict_items ?_ (PySem.F.args_dict_items_1 _)
 unfold Builtin.«dict.items»; refine QI ?_; unfold Builtin.Dict.noArgs; refine QI (RG ⟨o,ho,hx.1⟩ ?_)
 show QA _ _ (pure d) _ _ s; refine QH ?_; show QA _ _ (Builtin.Dict.showsAll d >>= _) _ _ s; unfold Builtin.Dict.showsAll; rw [if_neg (by rw [hd]; exact MU)]
 exact QI (QH (QI (Rf (QH ⟨_,rfl,h⟩))))
theorem x4 {Q:Qo->Qy->Prop} (hv:s.heap.IsItemsView v d) (ho:s.heap.get? d=some o) (hdat:o.data=.dict es ep)
  (hQ:Q (.ref s.heap.objs.size) { s with heap:=s.heap.push { cls:=.type "dict_itemiterator",data:=.fields #[.none,.bool false,.ref d,.int 0 0,.int es.size 0,.int ep 0,.none,.none] } }):QA (model prog w) A (pyIter (.ref v)) Q E s:=by
 obtain⟨w1,hov,hcv,hdv⟩:=id hv
 refine wpAny_pyIter_slot hv.typeIs F.slot_dict_items_iter (Rb F.slot_dict_items_iter hv.typeIs F.entry_dict_items_iter ?_ (F.args_dict_items_iter_1 _))
 unfold Builtin.«dict_items.__iter__»; refine QI (QH (QI ?_)); unfold Builtin.Dict_items.dictOf
 refine QI (Q8 hov hdv (x:=.ref d) rfl (QH (QI ?_))); unfold Builtin.Dict_items.newIterator
 refine QI (RH ho hdat (QI (RJ ho hdat ?_)))
 simp only [show Builtin.Dict_items.ownsTuple "dict_itemiterator"=true by decide,if_true]
 refine Rf (QH ⟨_,rfl,"dict_itemiterator",_,⟨_,P0 _ rfl,rfl⟩,F.slot_dict_itemiterator_next.lookup,?_⟩) (by simp only [sizeOk,Builtin.Dict_items.ownedTupleFields,MT,Nb,MV,Np,QR]; omega)
 simpa [rawInt,Builtin.Dict_items.ownedTupleFields] using hQ
theorem x5 {Q:Option Qo->Qy->Prop} (hit:RK s.heap it d i es.size ep ok ov) (hod:s.heap.get? d=some o) (hdd:o.data=.dict es ep) (hlt:i < es.size)
  (hQ:∀ h',RL h' it d (i+1) es.size ep es[i].key es[i].val s.heap.objs.size->h'.get? s.heap.objs.size=some { cls:=.type "tuple",data:=.seq #[es[i].key,es[i].val] }->h'.objs.size=s.heap.objs.size+1 ->
   (∀ b o,b≠it->s.heap.get? b=some o->h'.get? b=some o)->Q (some (.ref s.heap.objs.size)) { s with heap:=h' }):QA (model prog w) A (pyNext (.ref it)) Q E s:=by
 obtain⟨hp,g,dr,tk,os⟩:=s
 have hT:Shared.TypeIs ⟨hp,g,dr,tk,os⟩ (.ref it) "dict_itemiterator":=⟨_,hit,rfl⟩
 unfold pyNext
 refine QI (Ry (Ra (name:=Str.ofString "__next__") hT F.slot_dict_itemiterator_next (Rb F.slot_dict_itemiterator_next hT F.entry_dict_itemiterator_next ?_ (F.args_dict_itemiterator_next_1 _))))
 refine QI (QH (QI (QI ?_))); first | refine QI (RM hT (QH ?_)) | refine QI (RN hT (QH ?_))
 refine QI (RO hit rfl ?_); have hown:Builtin.Dict_items.ownsTuple "dict_itemiterator"=true:=by decide
 simp only [hown,if_true]; show QA _ _ (if (Value.ref d==Value.none)=true then _ else _) _ _ _; rw [if_neg (show ¬ ((Value.ref d==Value.none)=true) from MU)]
 refine QI (QH (QI (RH hod hdd ?_))); rw [if_neg (by simp)]
 refine QI (QH (QI (RJ hod hdd ?_))); rw [if_neg (by simp)]
 refine QH ?_; simp only [show ¬ ((i:Int) < 0) from by omega,if_false,Nc,Array.getElem?_eq_getElem hlt]
 refine QI ?_; first | refine QI (RM hT (QH ?_)) | refine QI (RN hT (QH ?_))
 refine QI (RP hT ?_); show QA _ _ (setField (.ref it) 3 (rawInt ((i:Int)+1)) >>= _) _ _ ⟨hp,g,dr,tk,os⟩
 refine QI (Rt hit (by simp) fun h₁ he₁ hs₁=>?_); replace hs₁:PY it hp h₁:=hs₁
 replace he₁:RK h₁ it d (i+1) es.size ep ok ov:=by
  have e:((i+1:Nat):Int)=(i:Int)+1:=by omega
  unfold RK; rw [e]; simpa [rawInt] using he₁
 have hT₁:Shared.TypeIs ⟨h₁,g,dr,tk,os⟩ (.ref it) "dict_itemiterator":=⟨_,he₁,rfl⟩
 refine QI (Q9 (QI (RP hT₁ (QI (RP hT₁ ?_)))))
 show QA _ _ (Builtin.Dict_items.pairFromOwner (.ref it) 6 es[i].key es[i].val) _ _ ⟨h₁,g,dr,tk,os⟩; unfold Builtin.Dict_items.pairFromOwner; refine QI (Rx ?_)
 have he₂:RK (h₁.push { cls:=.type "tuple",data:=.seq #[es[i].key,es[i].val] }) it d (i+1) es.size ep ok ov:=PZ _ he₁
 generalize hh₂:h₁.push { cls:=.type "tuple",data:=.seq #[es[i].key,es[i].val] }=h₂ at he₂
 have hz₁:h₁.objs.size=hp.objs.size:=hs₁.1
 have hil:it < hp.objs.size:=PV hit
 have ht₂:h₂.get? hp.objs.size=some { cls:=.type "tuple",data:=.seq #[es[i].key,es[i].val] }:=by rw [<- hh₂,<- hz₁]; exact P0 _ rfl
 have hz₂:h₂.objs.size=hp.objs.size+1:=by rw [<- hh₂,P4,hz₁]
 have hk₂:∀ b o,b≠it->hp.get? b=some o->h₂.get? b=some o:=fun b o hb e=>by rw [<- hh₂]; exact PZ _ (hs₁.extBut b o hb e)
 show QA _ _ (Builtin.Dict_items.ownedTupleIsFree (.ref it) >>= _) _ _ ⟨h₂,g,dr,tk,os⟩; rw [hz₁]; clear hh₂ he₁ hs₁ hT₁ hz₁ h₁
 refine QI ?_; unfold Builtin.Dict_items.ownedTupleIsFree; refine QI (Q8 he₂ rfl (x:=.none) rfl (QH ?_)); simp only [if_true]
 refine QI (Q8 he₂ rfl (x:=ok) rfl (QI (Q8 he₂ rfl (x:=ov) rfl ?_)))
 refine QI (Rt he₂ (by simp) fun h₃ he₃ hs₃=>?_); replace hs₃:PY it h₂ h₃:=hs₃
 replace he₃:RK h₃ it d (i+1) es.size ep es[i].key ov:=he₃
 refine QI (Rt he₃ (by simp) fun h₄ he₄ hs₄=>?_); replace hs₄:PY it h₃ h₄:=hs₄
 replace he₄:RK h₄ it d (i+1) es.size ep es[i].key es[i].val:=he₄
 refine QI (Rt he₄ (by simp) fun h₅ he₅ hs₅=>?_); replace hs₅:PY it h₄ h₅:=hs₅
 replace he₅:RL h₅ it d (i+1) es.size ep es[i].key es[i].val hp.objs.size:=he₅
 refine QI (Rt he₅ (by simp) fun h₆ he₆ hs₆=>?_); replace hs₆:PY it h₅ h₆:=hs₆
 replace he₆:RL h₆ it d (i+1) es.size ep es[i].key es[i].val hp.objs.size:=he₆
 refine QI (Rw (QH (QH ⟨_,rfl,QH (hQ h₆ he₆ ?_ ?_ ?_)⟩)))
 ·have n:=MO hil; exact hs₆.extBut _ _ n (hs₅.extBut _ _ n (hs₄.extBut _ _ n (hs₃.extBut _ _ n ht₂)))
 ·show h₆.objs.size=hp.objs.size+1; rw [hs₆.1,hs₅.1,hs₄.1,hs₃.1,hz₂]
 ·exact fun b o hb e=>hs₆.extBut b o hb (hs₅.extBut b o hb (hs₄.extBut b o hb (hs₃.extBut b o hb (hk₂ b o hb e))))
theorem Ag {Q:Option Qo->Qy->Prop} (hh:A.handled=none) (hit:RK s.heap it d i es.size ep ok ov) (hod:s.heap.get? d=some o) (hdd:o.data=.dict es ep) (hge:es.size<=i)
  (hQ:∀ h',P7 it s.heap h'->Q none { s with heap:=h' }):QA (model prog w) A (pyNext (.ref it)) Q E s:=by
 have hT:s.TypeIs (.ref it) "dict_itemiterator":=⟨_,hit,rfl⟩
 unfold pyNext
 refine QI (Ry (Ra (name:=Str.ofString "__next__") hT F.slot_dict_itemiterator_next (Rb F.slot_dict_itemiterator_next hT F.entry_dict_itemiterator_next ?_ (F.args_dict_itemiterator_next_1 _))))
 refine QI (QH (QI (QI ?_))); first | refine QI (RM hT (QH ?_)) | refine QI (RN hT (QH ?_))
 refine QI (RO hit rfl ?_); have hown:Builtin.Dict_items.ownsTuple "dict_itemiterator"=true:=by decide
 simp only [hown,if_true]; show QA _ _ (if (Value.ref d==Value.none)=true then _ else _) _ _ s; rw [if_neg (show ¬ ((Value.ref d==Value.none)=true) from MU)]
 refine QI (QH (QI (RH hod hdd ?_))); rw [if_neg (by simp)]
 refine QI (QH (QI (RJ hod hdd ?_))); rw [if_neg (by simp)]
 refine QH ?_; simp only [show ¬ ((i:Int) < 0) from by omega,if_false,Nc,Array.getElem?_eq_none hge]
 refine QI ?_; first | refine QI (RM hT (QH ?_)) | refine QI (RN hT (QH ?_))
 show QA _ _ (setField (.ref it) 2 .none >>= _) _ _ s; refine QI (Rn hit rfl (by simp) ?_)
 show QA _ _ (newExc (.type "StopIteration") [] >>= _) _ _ _; refine QI ?_; simp only [newExc,newTuple]; refine QI (Rf ?_ (by size_fits))
 refine QI (m:=firstArgMember _ _) (Ro (a:=Value.none) (by first | rfl | (simp only [firstArgMember]; rfl)) ?_); refine Rf ?_ (by size_fits)
 simp only [raiseNew]; refine QI (Rp ?_); rw [show A.in1.handled=none from hh]; refine QI (QH (wpAny_throw ?_))
 refine QI (Rz (T := "StopIteration") (b:=true) ⟨_,P0 _ rfl,rfl⟩ RA ?_); exact QH (hQ _ (((Heap.SameBut.update ..).extBut.push _).push _))
end
variable [aR]
abbrev nC (al:List (List Key×D)):D:=.dct (.non::encK al) (al.map (·.2))
theorem yo {X:Cx} {pins:List (Qr×Obj)} {σ:St} {H:Hp} {s:Qy} {a:Qr} {o:Obj} {kvs:List (List Key×V)} (I:Inv X pins σ H s) (e:H a=some (.frz o (.dT kvs))):s.heap.get? a=some o/\o.ExactDict/\(a==sysModules)=false/\∃ es ep xs,o.data=.dict es ep/\KT H kvs xs/\es.toList=xs.map (entryOfKey (tupleKind (cw X.prog X.w))):=by
 obtain⟨ho,z,hd,xs,rel,o',es,ep,h1,h2,h3,h4,h5⟩:=(show dm X.prog X.w H s.heap a (.frz o (.dT kvs)) from I.hok a _ e)
 rw [ho] at h1; cases h1
 exact⟨ho,h2,hd,es,ep,xs,h3,rel,h4⟩
def J8 (a:Qr) (o:Obj) (kvs:List (List Key×V)):It :=
  ⟨fun i H=>H a=some (.frz o (.dT kvs))/\i < kvs.length,
   fun i H v H'=>∃ p b q w,v=.ref p/\H p=none/\H'=upd H p (.tup [.ref b,w])/\kvs[i]?=some (q,w)/\H b=some (.tup (q.map kV)),
   fun i H=>H a=some (.frz o (.dT kvs))/\i=kvs.length⟩
theorem qJ {α β:Type} {R:α->β->Prop}:∀ {xs:List α} {ys:List β},Qs R xs ys->∀ {i:Nat} {x:α},xs[i]?=some x->∃ y,ys[i]?=some y/\R x y:=fun h=>by
 induction h with
 | nil=>intro i x e; simp at e
 | cons hq _ ih =>
  intro i x e
  cases i with
  | zero=>rw [N3] at e; cases e; exact⟨_,rfl,hq⟩
  | succ i=>rw [N4] at e ⊢; exact ih e
theorem yk {P:Qq} {w:Qp} {K:Pj} {es':List QB} {k:Nat} {pos:Pos} {a it:Qr} {o:Obj} {es:Array Rg} {ep:Nat} {kvs:List (List Key×V)} (hda:o.data=.dict es ep):Turn P w K (.Tuple es' k pos) (J8 a o kvs) [it] it (fun i h=>∃ ok ov,RK h it a i es.size ep ok ov) where
 mem:=by simp
 obj:=fun i h ⟨ok,ov,hz⟩ c hc=>by rw [List.mem_singleton.mp hc]; exact⟨_,hz,fun v q=>by cases q⟩
 keep:=fun i h h' ⟨ok,ov,hz⟩ kp=>⟨ok,ov,kp it (by simp) _ hz⟩
 item:=by
  intro X hP hw hK hc i pins s σ H E I hf ⟨ok,ov,hit⟩ ⟨ha,hi⟩
  subst hP hw hK
  obtain⟨ho,hx,_,es2,ep2,xs,h3,rel,h4⟩:=yo I ha
  rw [hda] at h3; cases h3
  have hl:es.size=xs.length:=by rw [<- Array.length_toList,h4,MY]
  have hkl:kvs.length=xs.length:=Paired.length rel
  have hlt:i < es.size:=by omega
  obtain⟨x,ex,f1,f2,f3⟩:=qJ rel (i:=i) (x:=kvs[i]) (by simp [hi])
  have ee:es[i]=entryOfKey (tupleKind (cw X.prog X.w)) x:=by
   have:es.toList[i]?=some (entryOfKey (tupleKind (cw X.prog X.w)) x):=by rw [h4,M8,ex]; rfl
   rw [Array.getElem?_toList,Array.getElem?_eq_getElem hlt] at this
   exact Option.some.inj this
  refine x5 hit ho hda hlt fun h' out tp sz kp=>⟨_,rfl,wpAny_letOwnedTupleGo_items out fun h2 hit2 sb=>?_⟩
  have hpz:s.heap.objs.size≠it:=MO (PV hit)
  have tp2:=sb.extBut _ _ hpz tp
  rw [ee] at tp2
  have I':Inv X pins σ (upd H s.heap.objs.size (.tup [.ref x.2.1,kvs[i].2])) { s with heap:=h2 }:=Inv.turnedL (ch:=[it]) (t':=s.toks) I hf (fun c u hc e=>by
   have hc:c≠it:=by simpa using hc
   exact sb.extBut _ _ hc (kp c u hc e)) (MP _) ⟨by show 2<=Qu; decide,[.ref x.2.1,x.2.2],.cons rfl (.cons f3 .nil),_,tp2,rfl,_,rfl⟩
  refine⟨.ref s.heap.objs.size,_,I',rfl,⟨_,x.2.1,kvs[i].1,kvs[i].2,rfl,I.fresh,rfl,by simp [hi],f2⟩,⟨_,_,hit2⟩,fun c hc=>?_⟩
  rw [List.mem_singleton.mp hc,aJ (Ne.symm hpz)]; exact(hf it (by simp)).1
 done:=by
  intro X hP hw hK hc i pins s σ H E I hf ⟨ok,ov,hit⟩ ⟨ha,hi⟩
  subst hP hw hK
  obtain⟨ho,hx,_,es2,ep2,xs,h3,rel,h4⟩:=yo I ha
  rw [hda] at h3; cases h3
  have hl:es.size=xs.length:=by rw [<- Array.length_toList,h4,MY]
  have hkl:kvs.length=xs.length:=Paired.length rel
  exact Ag (I.ok.hd hc) hit ho hda ‹0› fun h' eb=>⟨rfl,Inv.turned0 (ch:=[it]) I hf fun c u hc e=>eb c u (by simpa using hc) e⟩
 self:=fun _ _ _ _ _ ⟨_,_,hz⟩ h=>PySem.W.kcp_self hz h
theorem uV {K:Pj} {H:Hp}:∀ q:List Key,aY K H (q.map bv) (q.map kV)
 | []=>cR.mpr rfl
 | k::q=>bo.mpr ⟨kV k,_,rfl,by cases k with | inl i=>exact e8.mpr rfl | inr x=>exact eW.mpr rfl,uV q⟩
abbrev mZ (p:List Key×D):D:=.tup [.tup (p.1.map bv),p.2]
theorem yS {K:Pj} {Hd:Hp} {a:Qr} {o:Obj} {kvs:List (List Key×V)} {al:List (List Key×D)} (h:Hd a=some (.frz o (.dT kvs))) (e1:kvs.map (·.1)=al.map (·.1)) (e2:aY K Hd (al.map (·.2)) (kvs.map (·.2))):Walk K Hd (J8 a o kvs) (al.map mZ):=fun Hn O' i hO sm=>by
 have s':bm Hd Hn:=sm.trans (aI Hn O')
 have hl:kvs.length=al.length:=by have:=congrArg List.length e1; simpa using this
 refine⟨fun d e=>?_,fun hl'=>⟨s' _ _ h,by rw [hl',MY,hl]⟩⟩
 rw [M8] at e
 cases ep:al[i]? with
 | none=>rw [ep] at e; cases e
 | some p =>
  rw [ep] at e; cases e
  have hi:i < al.length:=(List.getElem?_eq_some_iff.mp ep).1
  refine⟨⟨s' _ _ h,by omega⟩,fun x H2 ⟨c,b,q,w,ex,hc,eH,ek,hb⟩=>?_⟩
  subst ex eH
  have k1:q=p.1:=by
   have:=congrArg (fun l=>l[i]?) e1
   simp only [M8,ek,ep] at this
   exact Option.some.inj this
  obtain⟨w',ew,dw⟩:=e2.get (i:=i) (d:=p.2) (by rw [M8,ep]; rfl)
  rw [M8,ek] at ew
  cases ew
  subst k1
  have bO:b∉O':=fun z=>by
   obtain⟨u,q1,q2⟩:=hO.2 b z
   rw [hb] at q1; cases q1; exact q2
  exact⟨cD hc _,fH hO hc (bo.mpr ⟨.ref b,_,rfl,cV.mpr ⟨b,_,rfl,by rw [kU bO]; exact hb,uV p.1⟩,bo.mpr ⟨w,_,rfl,dw.mono sm,cR.mpr rfl⟩⟩)⟩
def xR:D->Option (List D)
 | .dct (.non::ks) ds=>(kX ks ds).map fun al=>al.map mZ
 | _=>none
def kS (f:FX):au->R (List D):=fun ρ=>(f ρ).bind fun d=>rO (xR d)
theorem we {K:Pj} {H:Hp} {v:V} {al:List (List Key×D)} (h:cQ K H (nC al) v):∃ a o kvs,v=.ref a/\H a=some (.frz o (.dT kvs))/\kvs.map (·.1)=al.map (·.1)/\aY K H (al.map (·.2)) (kvs.map (·.2)):=by
 obtain⟨a,vs,e0,h2,h3⟩:=JH.mp h
 rcases h3 with ⟨kvs,e,e1,e2⟩ | ⟨kvs,e,e1,e2⟩ | ⟨kvs,o,e,e1,e2⟩
 ·cases kvs with
  | nil=>cases e1
  | cons p r =>
   injection e1 with e1 _
   rcases p with ⟨k,v⟩
   cases k <;> cases e1
 ·cases kvs with
  | nil=>cases e1
  | cons p r=>injection e1 with e1 _; cases e1
 ·injection e1 with _ e1
  subst e2
  exact⟨a,o,kvs,e0,e,(lK (ks:=kvs.map (·.1)) (by rw [Ow]; exact e1)).symm,h2⟩
section
variable {X:Cx}
theorem HQ {o:QB} {es:List QB} {k:Nat} {tpos:Pos} {f:FX} {apos cpos:Pos} (ho:FE X o f) (hbase:QU o "items" X.env (eval o X.env)=eval o X.env:=by rfl) (hline:(apos.endLine==cpos.line)=true:=by rfl):FI X (.Tuple es k tpos) (.Call (.Attribute o "items" apos) [] [] cpos) (kS f):=by
 intro pins s σ H RR I ⟨O,ρ,E,hG⟩
 refine wpAny_Call_method0_late hbase hline (dX (ho pins s σ H (fun v H1=>∃ a o kvs,v=.ref a/\H1 a=some (.frz o (.dT kvs))/\RR (J8 a o kvs) H1) I ⟨O,ρ,E,(ir.bind hG).imp fun d hG v H1 s1 d1=>?_⟩) fun v s1 ⟨x,H1,I1,r1,a,o,kvs,ex,ha,hR⟩=>?_)
 ·obtain⟨ds,hg,q⟩:=ir.rO hG
  unfold xR at hg
  split at hg
  ·rename_i ks dl
   cases e1:kX ks dl with
   | none=>rw [e1] at hg; cases hg
   | some al =>
    rw [e1] at hg; cases hg
    obtain⟨f1,f2⟩:=jf e1
    subst f1 f2
    obtain⟨a,o,kvs,q1,q2,q3,q4⟩:=we d1
    exact⟨a,o,kvs,q1,(aI H1 O) _ _ q2,q _ H1 s1 (yS q2 q3 q4)⟩
  ·cases hg
 ·subst ex
  cases r1
  obtain⟨hob,hx,hsm,es2,ep,xs,hda,_⟩:=yo I1 ha
  refine⟨"dict","dict.items",F.plainAttrs_dict,F.slot_dict_items,F.type_dict_items,⟨o,hob,hx.1⟩,fun c e=>by cases e; exact⟨o,hob,hx.2.1⟩,Calls.callWith_builtin rfl (PySem.evalArgs_none ?_)⟩
  refine yd hob hx hsm (x4 ⟨_,P0 _ rfl,rfl,rfl⟩ (PZ _ hob) hda ?_)
  have le:s1.heap.objs.size<=(s1.heap.push { cls:=.type "dict_items",data:=.fields #[.ref a] }).objs.size:=by rw [P4]; exact M2 _
  refine⟨_,_,_,_,H1,rfl,I1.kept (t':=s1.toks) fun b u e=>PZ _ (PZ _ e),yk hda,⟨_,_,P0 _ rfl⟩,fun b hb=>?_,hR⟩
  rw [List.mem_singleton.mp hb]
  exact I1.fpOk le (I1.hok.fresh le)
end
theorem eK.frzG {K:Pj} {Hb:Hp} {Ob O:List Qr} {H H':Hp} {ρ:au} {σ:St} (E:eK K Hb Ob O H ρ σ) {i:Nat} {d d':D} (hd:ρ[i]?=some (some (.nest d))) {a:Qr} {bs:List Qr} (h1:σ[i]?=some (some (.ref a))) (h4:∀ b∈a::bs,b∈O/\Hb b=none/\b∉Ob/\∀ (j:Nat) d',ρ[j]?=some (some (.own d'))->σ[j]?≠some (some (.ref b))) (h5:∀ (j:Nat) d',ρ[j]?=some (some (.nest d'))->j=i)
  (hH:∀ b,b≠a->H' b=H b) (tab:aR.tab H') (dn:bm (hid H O) (hid H' (O.filter fun b=>decide (b∉a::bs)))->(∀ b∈a::bs,b∉O.filter fun b=>decide (b∉a::bs))->cQ K (hid H' (O.filter fun b=>decide (b∉a::bs))) d' (.ref a)):eK K Hb Ob (O.filter fun b=>decide (b∉a::bs)) H' (TG.setV i d' ρ) σ:=by
 have sub:∀ b∈O.filter (fun b=>decide (b∉a::bs)),b∈O:=fun b hb=>(List.mem_filter.mp hb).1
 have na:∀ b∈a::bs,b∉O.filter fun b=>decide (b∉a::bs):=fun b hb z=>(of_decide_eq_true (List.mem_filter.mp z).2) hb
 have aO:=(h4 a MJ).1
 have s:bm (hid H O) (hid H' (O.filter fun b=>decide (b∉a::bs))):=fun b u e=>by
  unfold hid at e ⊢
  by_cases hb:b∈O
  ·rw [if_pos hb] at e; cases e
  ·rw [if_neg hb] at e
   rw [if_neg fun z=>hb (sub b z),hH b fun z=>hb (by rw [z]; exact aO)]; exact e
 have bk:∀ (l:Nat) x,(TG.setV i d' ρ)[l]?=some (some x)->(∀ d,x≠.val d)->ρ[l]?=some (some x):=fun l x e nv=>by
  rcases bf e with ⟨_,q⟩ | ⟨_,q⟩
  ·cases q; exact absurd rfl (nv _)
  ·exact q
 refine⟨⟨fun j d1 e=>?_,fun j xs e=>?_,fun j l xs ys b e1 e2 e3 e4=>E.env.one j l xs ys b (bk j _ e1 (fun _ z=>nomatch z)) (bk l _ e2 (fun _ z=>nomatch z)) e3 e4,⟨tab,fun b hb=>?_⟩⟩,⟨fun b u e=>?_,fun b hb=>?_,fun b hb=>E.base.new b (sub b hb)⟩,fun j xs b e1 e2=>E.mine j xs b (bk j _ e1 (fun _ z=>nomatch z)) e2,fun j dn e=>?_⟩
 ·rcases bf e with ⟨hj,q⟩ | ⟨ne,q⟩
  ·cases q; rw [hj]; exact⟨.ref a,h1,dn s na⟩
  ·obtain⟨w,q1,q2⟩:=E.env.val j d1 q
   exact⟨w,q1,q2.mono s⟩
 ·obtain⟨b,q1,q2,q3⟩:=E.env.own j xs (bk j _ e (fun _ z=>nomatch z))
  have nb:b∉a::bs:=fun z=>(h4 b z).2.2.2 j xs (bk j _ e (fun _ z=>nomatch z)) q1
  exact⟨b,q1,List.mem_filter.mpr ⟨q2,decide_eq_true nb⟩,q3.mono (hH b fun z=>nb (by rw [z]; exact MJ)).symm s⟩
 ·rw [hH b fun z=>na b (by rw [z]; exact MJ) hb]; exact E.env.all.2 b (sub b hb)
 ·rw [hH b fun z=>by rw [z,(h4 a MJ).2.1] at e; cases e]; exact E.base.same b u e
 ·exact List.mem_filter.mpr ⟨E.base.sub b hb,decide_eq_true fun z=>(h4 b z).2.2.1 hb⟩
 ·have q:=bk j _ e (fun _ z=>nomatch z)
  have hj:=h5 j dn q
  subst hj
  rcases bf e with ⟨_,q⟩ | ⟨ne,_⟩
  ·cases q
  ·exact absurd rfl ne
theorem Ir {X:Cx} {pins:List (Qr×Obj)} {σ:St} {H:Hp} {s:Qy} {a:Qr} {kvs:List (List Key×V)} (I:Inv X pins σ H s) (h1:H a=some (.dT kvs)):∃ o,Inv X pins σ (upd H a (.frz o (.dT kvs))) s:=by
 obtain⟨z,hd,xs,rel,o,es,ep,g1,g2⟩:=(show dm X.prog X.w H s.heap a (.dT kvs) from I.hok a _ h1)
 refine⟨o,mS (ob:=.frz o (.dT kvs)) (h':=s.heap) (t':=s.toks) I (by rw [h1]; exact trivial) ⟨rfl,fun _ _=>rfl⟩ ⟨o,g1⟩ ⟨g1,z,hd,xs,KT.keeps rel fun b ys eb=>?_,o,es,ep,g1,g2⟩⟩
 rw [aJ (Dg eb h1 (fun z=>nomatch z))]; exact eb
def Iu (i:Nat) (ρ:au):au:=match ρ[i]? with
 | some (some (.nest (.dct ks ds)))=>match kX ks ds with
  | some al=>setV i (nC al) ρ
  | none=>ρ
 | _=>ρ
def sW (i:Nat) (F:cB):cB:=fun k ρ=>F k (Iu i ρ)
theorem IW {X:Cx} {st:List QD} {F:cB} (i:Nat) (h:yu X st F):yu X st (sW i F):=fun Hb Ob pins s σ H E I ⟨O,ρ,k,r,S,hF,hk⟩=>by
 unfold sW Iu at hF
 split at hF
 ·rename_i ks ds hd
  split at hF
  ·rename_i al hal
   obtain⟨f1,f2⟩:=jf hal
   subst f1 f2
   obtain⟨a,bs,h1,h2,h3,h4,h5⟩:=S.nst i _ hd
   obtain⟨kvs,hH,ek,ev,hO⟩:=rj h2
   obtain⟨na,_⟩:=List.nodup_cons.mp h3
   have fin:∀ (H0:Hp) (I0:Inv X pins σ H0 s),H0 a=some (.dT kvs)->(∀ b,b≠a->H0 b=H b)->QA (model X.prog X.w) X.A (execs st X.env) (SP X pins E) X.xe s:=fun H0 I0 ha0 hH0=>by
    obtain⟨o,I1⟩:=Ir I0 ha0
    have hH':∀ b,b≠a->upd H0 a (.frz o (.dT kvs)) b=H b:=fun b nb=>by rw [aJ nb]; exact hH0 b nb
    have tab:aR.tab (upd H0 a (.frz o (.dT kvs))):=by
     have:upd H0 a (.frz o (.dT kvs))=upd H a (.frz o (.dT kvs)):=by
      funext b
      by_cases z:b=a
      ·rw [z,bb,bb]
      ·rw [aJ z,aJ z,hH0 b z]
     rw [this]
     obtain⟨u,q1,q2⟩:=S.env.all.2 a (h4 a MJ).1
     exact aR.own S.env.all.1 q1 q2
    refine h Hb Ob pins s σ _ E I1 ⟨_,_,k,r,S.frzG hd h1 h4 h5 hH' tab fun sm nn=>?_,hF,hk⟩
    have hO':lF X.K (upd H0 a (.frz o (.dT kvs))) O bs (al.map (·.2)):=hO.mono (fun b u e=>by
     unfold hid at e ⊢
     by_cases hb:b∈O
     ·rw [if_pos hb] at e; cases e
     ·rw [if_neg hb] at e
      rw [if_neg hb,hH' b fun z=>hb (by rw [z]; exact(h4 a MJ).1)]; exact e) fun b hb _=>hH' b fun z=>na (by rw [<- z]; exact hb)
    have sub:∀ b∈O.filter (fun b=>decide (b∉a::bs)),b∈O:=fun b hb=>(List.mem_filter.mp hb).1
    have g:=hO'.den (iT sub) fun b hb=>nn b (MK _ hb)
    refine JH.mpr ⟨a,_,rfl,g,.inr (.inr ⟨kvs,o,by rw [kU (nn a MJ)]; exact bb,by rw [uQ ek],ev.symm⟩)⟩
   rcases hH with hH | ⟨hH,z⟩
   ·exact fin H I hH fun _ _=>rfl
   ·subst z
    exact fin _ (Ey I hH) bb fun b nb=>aJ nb
  ·exact h Hb Ob pins s σ H E I ⟨O,ρ,k,r,S,hF,hk⟩
 ·exact h Hb Ob pins s σ H E I ⟨O,ρ,k,r,S,hF,hk⟩
end TG
namespace TG
open PySem PySem.Spec L2
section
variable {prog:Qq} {w:Qp} {A:Qx} {E:Qo->Qy->Prop} {s:Qy} {it d:Qr} {i ep:Nat} {o:Obj} {es:Array Rg}
theorem AJ {Q:Qo->Qy->Prop} (hd:(d==sysModules)=false) (ho:s.heap.get? d=some o) (hx:o.ExactDict) (hdat:o.data=.dict es ep)
  (hQ:Q (.ref s.heap.objs.size) { s with heap:=s.heap.push { cls:=.type "dict_keyiterator",data:=.fields #[.ref d,.int 0 0,.int es.size 0,.int ep 0] } }):QA (model prog w) A (pyIter (.ref d)) Q E s:=by
 have hT:s.TypeIs (.ref d) "dict":=⟨o,ho,hx.1⟩
 refine wpAny_pyIter_slot hT F.slot_dict_iter (Rb F.slot_dict_iter hT F.entry_dict_iter ?_ (F.args_dict_iter_1 _))
 unfold Builtin.«dict.__iter__»; refine QI ?_; unfold Builtin.Dict.dictSlotNone; refine QI (RG hT ?_)
 show QA _ _ (pure (Value.ref d)) _ _ s; refine QH ?_; show QA _ _ (Builtin.Dict.showsAll d >>= _) _ _ s; unfold Builtin.Dict.showsAll; rw [if_neg (by rw [hd]; exact MU)]
 refine QI (QH (QI (RH ho hdat (QI (RJ ho hdat ?_)))))
 refine QI (Rf (QH ⟨_,rfl,"dict_keyiterator",_,⟨_,P0 _ rfl,rfl⟩,F.slot_dict_keyiterator_next.lookup,?_⟩)); simpa [rawInt] using hQ
theorem Bk {Q:Option Qo->Qy->Prop} (hit:s.heap.IsKeyIter it d i es.size ep) (hod:s.heap.get? d=some o) (hdd:o.data=.dict es ep) (hlt:i < es.size)
  (hQ:∀ h',h'.IsKeyIter it d (i+1) es.size ep->PY it s.heap h'->Q (some es[i].key) { s with heap:=h' }):QA (model prog w) A (pyNext (.ref it)) Q E s:=by
 obtain⟨oi,ho,hc,hd⟩:=id hit
 unfold pyNext
 refine QI (Ry (Ra (name:=Str.ofString "__next__") hit.typeIs F.slot_dict_keyiterator_next (Rb F.slot_dict_keyiterator_next hit.typeIs F.entry_dict_keyiterator_next ?_ (F.args_dict_keyiterator_next_1 _))))
 refine QI (QH (QI (QI ?_))); first | refine QI (RQ hit.typeIs (QH ?_)) | refine QI (RT hit.typeIs (QH ?_))
 refine QI (RO ho hd ?_); have hown:Builtin.Dict_items.ownsTuple "dict_keyiterator"=false:=by decide
 simp only [hown,Nv,if_false]; show QA _ _ (if (Value.ref d==Value.none)=true then _ else _) _ _ s; rw [if_neg (show ¬ ((Value.ref d==Value.none)=true) from MU)]
 refine QI (QH (QI (RH hod hdd ?_))); rw [if_neg (by simp)]
 refine QI (QH (QI (RJ hod hdd ?_))); rw [if_neg (by simp)]
 refine QH ?_; simp only [show ¬ ((i:Int) < 0) from by omega,if_false,Nc,Array.getElem?_eq_getElem hlt]
 refine QI ?_; first | refine QI (RQ hit.typeIs (QH ?_)) | refine QI (RT hit.typeIs (QH ?_))
 refine QI (wpAny_isOneOf_keyiter hit.typeIs ?_); show QA _ _ (setField (.ref it) 1 (rawInt ((i:Int)+1)) >>= _) _ _ s; refine QI (Rn ho hd (by simp) ?_)
 have hit':(s.heap.update it (Obj.mapFields (·.setIfInBounds 1 (rawInt ((i:Int)+1))))).IsKeyIter it d (i+1) es.size ep:=⟨_,P6 _ ho (Obj.isFreed_of_fields (Obj.data_mapFields hd _)),(Obj.cls_mapFields ..).trans hc,by rw [Obj.data_mapFields hd]; simp [rawInt]⟩
 refine QI (Q9 (QI (wpAny_isOneOf_keyiter (s:={ s with heap:=s.heap.update it (Obj.mapFields (·.setIfInBounds 1 (rawInt ((i:Int)+1)))) }) hit'.typeIs ?_))); show QA _ _ (pure es[i].key) _ _ _
 exact QH (QH ⟨_,rfl,QH (hQ _ hit' (Heap.SameBut.update ..))⟩)
theorem Cg {Q:Option Qo->Qy->Prop} (hh:A.handled=none) (hit:s.heap.IsKeyIter it d i es.size ep) (hod:s.heap.get? d=some o) (hdd:o.data=.dict es ep) (hge:es.size<=i) (hQ:∀ h',P7 it s.heap h'->Q none { s with heap:=h' }):QA (model prog w) A (pyNext (.ref it)) Q E s:=by
 obtain⟨oi,ho,hc,hd⟩:=id hit
 unfold pyNext
 refine QI (Ry (Ra (name:=Str.ofString "__next__") hit.typeIs F.slot_dict_keyiterator_next (Rb F.slot_dict_keyiterator_next hit.typeIs F.entry_dict_keyiterator_next ?_ (F.args_dict_keyiterator_next_1 _))))
 refine QI (QH (QI (QI ?_))); first | refine QI (RQ hit.typeIs (QH ?_)) | refine QI (RT hit.typeIs (QH ?_))
 refine QI (RO ho hd ?_); have hown:Builtin.Dict_items.ownsTuple "dict_keyiterator"=false:=by decide
 simp only [hown,Nv,if_false]; show QA _ _ (if (Value.ref d==Value.none)=true then _ else _) _ _ s; rw [if_neg (show ¬ ((Value.ref d==Value.none)=true) from MU)]
 refine QI (QH (QI (RH hod hdd ?_))); rw [if_neg (by simp)]
 refine QI (QH (QI (RJ hod hdd ?_))); rw [if_neg (by simp)]
 refine QH ?_; simp only [show ¬ ((i:Int) < 0) from by omega,if_false,Nc,Array.getElem?_eq_none hge]
 refine QI ?_; first | refine QI (RQ hit.typeIs (QH ?_)) | refine QI (RT hit.typeIs (QH ?_))
 show QA _ _ (setField (.ref it) 0 .none >>= _) _ _ s; refine QI (Rn ho hd (by simp) ?_)
 show QA _ _ (newExc (.type "StopIteration") [] >>= _) _ _ _; refine QI ?_; simp only [newExc,newTuple]; refine QI (Rf ?_ (by size_fits))
 refine QI (m:=firstArgMember _ _) (Ro (a:=Value.none) (by first | rfl | (simp only [firstArgMember]; rfl)) ?_); refine Rf ?_ (by size_fits)
 simp only [raiseNew]; refine QI (Rp ?_); rw [show A.in1.handled=none from hh]; refine QI (QH (wpAny_throw ?_))
 refine QI (Rz (T := "StopIteration") (b:=true) ⟨_,P0 _ rfl,rfl⟩ RA ?_); exact QH (hQ _ (((Heap.SameBut.update ..).extBut.push _).push _))
def GI (d:Qr) (o:Obj) (es:Array Rg) (ep:Nat) (h:Qt):Prop:=h.get? d=some o/\o.ExactDict/\o.data=.dict es ep
theorem yD (hh:A.handled=none) (I:Qr) (hne:d≠I):Walks prog w A I [I,d] [I] es.size (fun i v=>∃ e,es[i]?=some e/\v=e.key) (fun i h=>h.IsKeyIter I d i es.size ep/\GI d o es ep h) where
 sub:=fun b hb=>by simp at hb; simp [hb]
 frame:=fun _ _ _ st hk=>⟨st.1.at fun o e=>hk I (by simp) o e,hk d (by simp) _ st.2.1,st.2.2⟩
 item:=fun i s Q E hi st hQ=>Bk st.1 st.2.1 st.2.2.2 hi fun h' hit' hs'=>hQ _ h' s.toks ⟨es[i],by simp [hi],rfl⟩ ⟨hit',(hs'.2 d hne).trans st.2.1,st.2.2⟩ fun b o hb e=>hs'.extBut b o (fun h=>hb (by simp [h])) e
 done:=fun s Q E st hQ=>Cg hh st.1 st.2.1 st.2.2.2 (MP _) fun h' he'=>hQ h' s.toks fun b o hb e=>he' b o (fun h=>hb (by simp [h])) e
 self:=fun _ _ _ _ st hQ=>wpAny_pyIter_keyiter st.1 hQ
theorem Cq (lo:(d==sysModules)=false):PySem.W.KdlSrc prog w "dict" d d es.size (fun i v=>∃ e,es[i]?=some e/\v=e.key) (GI d o es ep) where
 type:=fun _ hm=>⟨o,hm.1,hm.2.1.1⟩
 there:=fun _ hm=>⟨PV hm.1,PV hm.1⟩
 keep:=fun _ _ hm hk=>⟨hk d (.inl rfl) o hm.1,hm.2⟩
 notList:=by decide
 notTuple:=by decide
 hint:=fun _ _ _ _ hm hq=>PySem.W.kdl_hint_dict ⟨o,hm.1,hm.2.1.1⟩ hq
 iter:=fun _ _ hh hm=>⟨_,_,(fun _ _ hq=>AJ lo hm.1 hm.2.1 hm.2.2 hq),yD (ep:=ep) (o:=o) hh _ (MF (PV hm.1)),⟨⟨_,P0 _ rfl,rfl,rfl⟩,PZ _ hm.1,hm.2⟩⟩
end
variable [aR]
def Dp:List D->List D->Option (List (List Key×D))
 | .non::ks,ds=>kX ks ds
 | ks,ds=>kX ks ds
theorem yY {K:Pj} {H:Hp} {v:V} {ks ds:List D} {al:List (List Key×D)} (h:cQ K H (.dct ks ds) v) (e:Dp ks ds=some al) :
  ∃ a,v=.ref a/\((∃ kvs:List (List Key×V),Rd H a (.dT kvs)/\kvs.map (·.1)=al.map (·.1)/\aY K H (al.map (·.2)) (kvs.map (·.2)))\/(H a=some (.dK [])/\al=[])):=by
 unfold Dp at e
 split at e
 ·obtain⟨f1,f2⟩:=jf e
  subst f1 f2
  obtain⟨a,o,kvs,q1,q2,q3,q4⟩:=we h
  exact⟨a,q1,.inl ⟨kvs,.inr ⟨o,q2⟩,q3,q4⟩⟩
 ·obtain⟨f1,f2⟩:=jf e
  subst f1 f2
  obtain⟨a,q1,q2⟩:=C9 h
  rcases q2 with ⟨kvs,q2,q3⟩ | q2
  ·exact⟨a,q1,.inl ⟨kvs,.inl q2,q3⟩⟩
  ·exact⟨a,q1,.inr q2⟩
section
variable {X:Cx}
def lJ:List D->Option D
 | [.dct ks ds]=>(Dp ks ds).bind fun al=>some (.lst (encK al))
 | _=>none
theorem CY {pins:List (Qr×Obj)} {σ:St} {H:Hp} {s:Qy} (I:Inv X pins σ H s) {a:Qr} {kvs:List (List Key×V)} (e:Rd H a (.dT kvs)):kvs.length<=Qu/\(a==sysModules)=false/\∃ o es ep,GI a o es ep s.heap/\es.size=kvs.length/\∀ (i:Nat) u,es[i]?=some u->∃ b q,u.key=.ref b/\kvs[i]?.map (·.1)=some q/\H b=some (.tup (q.map kV)):=by
 obtain⟨z,hd,xs,rel,o,es,ep,h1,h2,h3,h4,_⟩:=zq I.hok e
 have hl:es.size=kvs.length:=by rw [<- Array.length_toList,h4,MY]; exact(Paired.length rel).symm
 refine⟨z,hd,o,es,ep,⟨h1,h2,h3⟩,hl,fun i u eu=>?_⟩
 have hi:i < kvs.length:=by
  have:=(Array.getElem?_eq_some_iff.mp eu).1
  omega
 obtain⟨x,ex,f1,f2,f3⟩:=qJ rel (i:=i) (x:=kvs[i]) (by simp [hi])
 have:es.toList[i]?=some (entryOfKey (tupleKind (cw X.prog X.w)) x):=by rw [h4,M8,ex]; rfl
 rw [Array.getElem?_toList,eu] at this
 cases this
 exact⟨x.2.1,kvs[i].1,rfl,by simp [hi],f2⟩
theorem rZ (hc:X.calm=true):dW X (.type "list") (xI X.K lJ):=by
 intro pins s σ H xs us Q I r ⟨O,ds,d,hO,hd,hg,q⟩
 unfold lJ at hg
 split at hg
 ·rename_i ks vs0
  cases hk:Dp ks vs0 with
  | none=>rw [hk] at hg; cases hg
  | some al =>
   rw [hk] at hg
   cases hg
   obtain⟨v,ev,h1⟩:=hd.one
   subst ev
   obtain⟨a,ea,hh⟩:=yY h1 hk
   subst ea
   obtain⟨u,rfl,ru⟩:=vals1 r
   cases ru
   have fin:∀ (H0:Hp) (kvs:List (List Key×V)),Inv X pins σ H0 s->Rd H0 a (.dT kvs)->kvs.map (·.1)=al.map (·.1)->(∀ b ys,H0 b=some (.tup ys)->H b=some (.tup ys))->QA (model X.prog X.w) X.A (call (.type "list") [.ref a]) (EP X pins σ Q) X.xe s:=fun H0 kvs I0 hr hk2 ht=>by
    obtain⟨z,hs,o,es,ep,raw,hsz,hkey⟩:=CY I0 hr
    have hl:al.length=kvs.length:=by have:=congrArg List.length hk2; simpa using this.symm
    refine PP (Cq hs) (I.ok.hd hc) raw (by rw [hsz]; exact z) fun h' tk acc' c' kp e2 it=>?_
    have key:∃ ws:List V,Vals ws acc'.toList/\aY X.K (hid H O) (encK al) ws:=by
     have hlen:acc'.toList.length=al.length:=by rw [Array.length_toList,it.1,hsz,hl]
     have each:∀ (j:Nat) (u:Qo),acc'.toList[j]?=some u->∃ b q,u=.ref b/\al[j]?.map (·.1)=some q/\H b=some (.tup (q.map kV)):=fun j u e=>by
      obtain⟨en,e3,e4⟩:=it.2 j u (by rw [<- Array.getElem?_toList]; exact e)
      obtain⟨b,q,w1,w2,w3⟩:=hkey j en e3
      refine⟨b,q,by rw [e4,w1],?_,ht _ _ w3⟩
      have:=congrArg (fun l=>l[j]?) hk2
      simp only [M8] at this
      rw [<- this]; exact w2
     clear it e2
     generalize acc'.toList=us at hlen each
     clear hk hl hk2 h1 hh q
     induction us generalizing al with
     | nil =>
      cases al with
      | nil=>exact⟨[],.nil,cR.mpr rfl⟩
      | cons _ _=>cases hlen
     | cons u us ih =>
      cases al with
      | nil=>cases hlen
      | cons p al =>
       obtain⟨ws,w1,w2⟩:=ih (al:=al) (by simpa using hlen) fun j u e=>by
        have:=each (j+1) u (by rw [N4]; exact e)
        rw [N4] at this; exact this
       obtain⟨b,q,e1,e2,e3⟩:=each 0 u rfl
       cases e2
       have bO:b∉O:=fun z=>by
        obtain⟨u',q1,q2⟩:=hO.2 b z
        rw [e3] at q1; cases q1; exact q2
       exact⟨.ref b::ws,.cons (by rw [e1]; rfl) w1,bo.mpr ⟨.ref b,ws,rfl,cV.mpr ⟨b,_,rfl,by rw [kU bO]; exact e3,uV p.1⟩,w2⟩⟩
    obtain⟨ws,rv,dn⟩:=key
    have wl:ws.length<=Qu:=by rw [<- dn.length,MY,hl]; exact z
    refine⟨.ref s.heap.objs.size,_,I.laid (t':=tk) kp (MP _) (show dm X.prog X.w _ h' _ (.lst ws) from ⟨wl,acc'.toList,c',rv,by simpa using e2⟩),rfl,?_⟩
    have hf:=I.hok.fresh (MP s.heap.objs.size)
    exact q _ _ (cD hf _) (fG hO hf dn)
   rcases hh with ⟨kvs,hr,e1,_⟩ | ⟨hr,e1⟩
   ·refine fin H kvs I ?_ e1 fun _ _ z=>z
    rcases hr with hr | ⟨o,hr⟩
    ·exact .inl ((aI H O) _ _ hr)
    ·exact .inr ⟨o,(aI H O) _ _ hr⟩
   ·have ha:=(aI H O) _ _ hr
    refine fin _ [] (Ey I ha) (.inl bb) (by rw [e1]; rfl) fun b ys eb=>?_
    by_cases z:b=a
    ·rw [z,bb] at eb; cases eb
    ·rw [aJ z] at eb; exact eb
 ·cases hg
end
end TG
namespace TG
open PySem PySem.Spec PySem.Calls L2
variable [aR]
def yq (dd k:D):Option D:=match dd with
 | .dct ks ds=>(Dp ks ds).bind fun al=>(jE k).bind fun q=>p6 al q
 | _=>none
theorem GH {H:Hp} {O:List Qr} {a:Qr} {u:HO} (h:Rd (hid H O) a u):Rd H a u:=by
 rcases h with h | ⟨o,h⟩
 ·exact .inl ((aI H O) _ _ h)
 ·exact .inr ⟨o,(aI H O) _ _ h⟩
section
variable {X:Cx}
theorem Lb {o e:QB} {fo fk:FX} {pos:Pos} (hu:X.A.units+64 < QX) (ho:FE X o fo) (hi:FE X e fk) (hs:Dz e):FE X (.Subscript o e pos) (f2 yq fo fk) :=
 PE.weak (DZ ‹0› ho hi hs) fun σ H Q ⟨O,ρ,E,hF⟩=>⟨O,ρ,E,(ir.bind hF).imp fun dd hF v H1 s1 d1=>⟨O,ρ,E.same s1,((ir.bind hF).mono s1).imp fun k hF y H2 s2 d2=>by
  obtain⟨d,hg,q⟩:=ir.rO hF
  cases dd with
  | dct ks ds =>
   have hg:(Dp ks ds).bind (fun al=>(jE k).bind fun q=>p6 al q)=some d:=hg
   cases hk:Dp ks ds with
   | none=>rw [hk] at hg; cases hg
   | some al =>
    rw [hk] at hg
    cases ht:jE k with
    | none=>rw [ht] at hg; cases hg
    | some qk =>
     rw [ht] at hg
     have hg:p6 al qk=some d:=hg
     obtain⟨a,ea,hh⟩:=yY (d1.mono (bV s2)) hk
     rw [n0 ht] at d2
     obtain⟨b,ws,eb,g1,g2⟩:=cV.mp d2
     rw [jO g2] at g1
     rcases hh with ⟨kvs,hr,e1,e2⟩ | ⟨_,rfl⟩
     ·rcases wR qk e1 e2 with ⟨_,z2⟩ | ⟨w,d',z1,z2,z3⟩
      ·rw [z2] at hg; cases hg
      ·rw [z2] at hg; cases hg
       exact⟨a,w,ea,by rw [<- z1]; exact .inr ⟨kvs,qk,b,GH hr,eb,(aI H2 O) _ _ g1,rfl⟩,q w H2 (s1.trans s2) z3⟩
     ·cases hg
  | _=>cases hg⟩⟩
end
def CO (i:Nat) (f:FX):cB:=fun k ρ=>match ρ[i]? with
 | some (some (.own (.lst xs)))=>sg (f ρ) k ρ fun d=>match d with
  | .lst ys=>if small (xs.length+ys.length) then k.nx (ρ.set i (some (.own (.lst (xs++ys))))) else un
  | _=>un
 | _=>un
theorem K8 {X:Cx} {i:Nat} {x:Str} {e:QB} {f:FX} {npos apos cpos pos:Pos} (hx:PE X (.Name x npos) (oQ i)) (he:FN X e f) (hns:noStar e=true:=by rfl)
  (hbase:QU (.Name x npos) "extend" X.env (eval (.Name x npos) X.env)=eval (.Name x npos) X.env:=by rfl)
  (hfew:((backTo cpos (QC [e] X.env)).all (fun x=>!x.1) && (backToKw cpos (QW [] X.env)).all (fun x=>x.1.isSome) && decide (([e]:List QB).length+([]:List Q2).length+(if ([]:List Q2).isEmpty then 0 else 1) < 30))=true:=by rfl)
  (hline:(apos.endLine==cpos.line)=true:=by rfl) (hplain:(backTo cpos (QC [] X.env)).any (·.1)=false:=by rfl)
  (hsw:swapsWith (.Call (.Attribute (.Name x npos) "extend" apos) [e] [] cpos) none pos.line X.env=pure false:=by rfl) :
  FS X (.Expr (.Call (.Attribute (.Name x npos) "extend" apos) [e] [] cpos) pos) (CO i f):=fun Hb Ob pins s σ H E I ⟨O,ρ,k,rr,S,hF,hk⟩=>by
 unfold CO at hF
 split at hF
 ·rename_i xs hxs
  obtain⟨a,ha,haO,hat⟩:=S.env.own i _ hxs
  obtain⟨o,vs0,ho,eo,dn⟩:=hat
  subst eo
  refine vj (zk F.plainAttrs_list F.slot_list_extend F.type_list_extend AZ hx (ku he oN (dE hns)) hbase hfew hline (dE hns) hplain) hsw pins s σ H E I ⟨.ref a,ha,.inl ⟨rfl,vs0,oo.of ho⟩,O,ρ,S.env,ir.on hF hk S fun d hr p H1 s1 hp m own=>?_⟩
  have S1:=S.same s1
  cases d with
  | lst ys =>
   have hr:(if small (xs.length+ys.length) then k.nx (ρ.set i (some (.own (.lst (xs++ys))))) else un)=rr:=hr
   cases hsm:small (xs.length+ys.length) with
   | false=>rw [hsm] at hr; exact absurd hr.symm hk.ne
   | true =>
    rw [hsm] at hr
    obtain⟨o,zs,h1,h2,h3⟩:=own
    subst h2
    have dz:aY X.K (hid H1 O) ys zs:=h3.mono (iT fun b hb=>MK _ hb)
    have hz:=d7 hsm
    exact⟨a,p,vs0,zs,rfl,rfl,s1 _ _ ho,h1,by rw [<- dn.length,<- dz.length]; exact hz,hk.nx O _ σ _ (S1.setO hxs ha trivial (p5 haO ((dn.mono (bV s1)).append dz))) hr⟩
  | _=>exact absurd (show un=rr from hr).symm hk.ne
 ·exact absurd hF.symm hk.ne
def rW:List D->Option D
 | [.lst xs]=>(kr xs).bind fun ps=>if small ps.length then some (nC (CG ps)) else none
 | _=>none
section
variable {X:Cx}
theorem yp (hc:X.calm=true) (hu:X.A.units+64 < QX):dW X (.type "dict") (xI X.K rW):=by
 intro pins s σ H xs us Q I r ⟨O,ds,d,hO,hd,hg,q⟩
 unfold rW at hg
 split at hg
 ·rename_i ys
  cases hp:kr ys with
  | none=>rw [hp] at hg; cases hg
  | some ps =>
   rw [hp] at hg
   obtain⟨sm,rfl⟩:=bQ (show (if small ps.length then some (nC (CG ps)) else none)=some d from hg)
   obtain⟨v,rfl,h1⟩:=hd.one
   obtain⟨p,ws,rfl,g1,g2⟩:=cX.mp h1
   obtain⟨u,rfl,ru⟩:=vals1 r
   cases ru
   obtain⟨its,rv,⟨o,n,ho,hcl,hd',hdd⟩,hz⟩:=I.list ((aI H O).seq g1)
   rw [ux hp] at g2
   obtain⟨L,ks,l1,l2,l3,l4,l5⟩:=tR I g2 rv
   have kl:ks.length=ps.length:=by have:=congrArg List.length l4; simpa using this
   have ll:ks.length=L.length:=Paired.length l3
   have key:∀ {ks:List (List Key×V)} {L:List (List Key×Qr×Qo)},KT H ks L->∀ x∈L,∀ h,Keeps s.heap h->(tupleKind (cw X.prog X.w)).is h x.1 x.2.1:=fun {ks L} kt=>by
    induction kt with
    | nil=>intro x hx; cases hx
    | cons hq _ ih =>
     intro x hx h kh
     rcases List.mem_cons.mp hx with z | z
     ·subst z
      obtain⟨e1,e2,_⟩:=hq
      rw [e1] at e2
      obtain⟨o,xs,n,k1,k2⟩:=qH I.hok e2
      exact⟨o,xs,n,kh _ _ k1,k2⟩
     ·exact ih x z h kh
   obtain⟨f1,f2,f3,f4⟩:=wO (K:=X.K) (H:=H) (H0:=hid H O) (al:=[]) (kvs:=[]) (xs:=[]) l3 l4 l5 .nil rfl (cR.mpr rfl)
   have hsz:ps.length<=100000:=of_decide_eq_true sm
   have sl:Qu=16777216:=QR
   refine rE (knd:=tupleKind (cw X.prog X.w)) (L:=L) ho hcl hdd hd' (I.ok.hd hc) (Rh (by rw [in1_units]; omega)) (by simpa using l1) ‹0› (fun i v e=>l2 i v (by simpa using e)) (key l3) fun h' tk kp di=>?_
   have hf:=I.hok.fresh (MP s.heap.objs.size)
   obtain⟨⟨od,es,ep,k1,k2,k3,k4,k5⟩,_⟩:=di
   have kt':KT (upd H s.heap.objs.size (.frz od (.dT (ks.foldl (fun m p=>putK m p.1 p.2) [])))) (ks.foldl (fun m p=>putK m p.1 p.2) []) (L.foldl (fun xs x=>storedH xs x.1 x.2.1 x.2.2) []):=KT.keeps f1 fun b ys eb=>by rw [aJ (fun z=>by rw [z,hf] at eb; cases eb)]; exact eb
   refine⟨.ref s.heap.objs.size,_,I.laid (t':=tk) kp (MP _) (show dm X.prog X.w _ h' _ (.frz od (.dT (ks.foldl (fun m p=>putK m p.1 p.2) []))) from ⟨k1,by simp only [Np] at f4; omega,beq_eq_false_iff_ne.mpr (Ne.symm (MF I.big)),_,kt',od,es,ep,k1,k2,k3,k4,k5⟩),rfl,?_⟩
   refine q _ _ (cD hf _) ?_
   have pO:=hO.not hf
   refine JH.mpr ⟨s.heap.objs.size,_,rfl,f3.mono (uT hf),.inr (.inr ⟨_,od,by rw [kU pO]; exact bb,congrArg _ (uQ f2),rfl⟩)⟩
 ·cases hg
end
end TG
namespace TX
open PySem PySem.Spec L2 TG
variable [aR]
structure XE (X:Cx) (e:QB) (F:FX):Prop where h:FE X e F
structure XT (X:Cx) (e:QB) (F:au->R Bool):Prop where h:FT X e F
structure XW (X:Cx) (e:QB) (F:au->R Bool):Prop where h:FW X e F
structure XA (X:Cx) (e:List QB) (F:au->R (List D)):Prop where h:FA X e F
structure XS (X:Cx) (e:QD) (F:cB):Prop where h:FS X e F
structure za (X:Cx) (e:List QD) (F:cB):Prop where h:yu X e F
structure XI (X:Cx) (t e:QB) (F:au->R (List D)):Prop where h:FI X t e F
structure XG (X:Cx) (e:QB) (F:GF):Prop where h:FG X e F
structure J1 (X:Cx) (e:List QB) (F:Bt):Prop where h:Iy X e F
structure XO (X:Cx) (e:Option QB) (F:au->R (Option Int)):Prop where h:FO X e F
structure XN (X:Cx) (e:QB) (F:FX):Prop where h:FN X e F
structure LX (X:Cx) (e:List QB) (F:au->R Bool):Prop where h:JL X e F
structure XV (X:Cx) (e:QB) (i:Nat):Prop where h:PE X e (oQ i)
structure XB (X:Cx) (scope:Qz) (N:List Str) (tg elt:QB) (ifs:List QB) (g:GF) (C:au->R Bool) (Fe:FX) (cl:List (Str×Qr)) (C':Qr) (fp:List Qr) (s:Qy) (H:Hp) (E:Qo->Qy->Prop):Prop where
 a:XG (dq X scope N cl C' fp s H E) tg g
 b:LX (dq X scope N cl C' fp s H E) ifs C
 c:XE (dq X scope N cl C' fp s H E) elt Fe
structure FV (X:Cx) (scope:Qz) (N:List Str) (tg elt:QB) (ifs:List QB) (g:GF) (C:au->R Bool) (Fe:FX):Prop where
 q:∀ cl C' fp s H E,XB X scope N tg elt ifs g C Fe cl C' fp s H E
theorem FV.h {X:Cx} {scope:Qz} {N:List Str} {tg elt:QB} {ifs:List QB} {g:GF} {C:au->R Bool} {Fe:FX} (x:FV X scope N tg elt ifs g C Fe):JF X scope N tg elt ifs g C Fe:=fun cl C' fp s H E=>⟨(x.q cl C' fp s H E).a.h,(x.q cl C' fp s H E).b.h,(x.q cl C' fp s H E).c.h⟩
theorem xv {X:Cx} (i:Nat) {x:Str} {pos:Pos} (hN:X.N[i]?=some x:=by rfl) (hv:HY X.env.scope x:=by first | exact Or.inl rfl | exact Or.inr (Or.inl rfl) | exact Or.inr (Or.inr rfl)) (hd:(x==("__debug__":Str))=false:=by decide)
  (hcd:(x==("__classdict__":Str))=false:=by decide):XV X (.Name x pos) i:=⟨pv i hN hv hd hcd⟩
theorem DJ {X:Cx} {e:QB} {f:au->R Bool} (h:XW X e f):XT X e f:=⟨FW.ft h.h⟩
section
variable [aR] {X:Cx}
theorem ae {i:Nat} {x:Str} {pos:Pos} (h:XV X (.Name x pos) i):XE X (.Name x pos) (ah i):=⟨TG.LA h.h⟩
end
section
variable [aR] {X:Cx}
theorem ai {i j pos}:XE X (.Constant (.int i) j pos) (fC (.int i)):=⟨TG.Ka ⟩
end
section
variable [aR] {X:Cx}
theorem eA {b j pos}:XE X (.Constant (.bool b) j pos) (fC (.bl b)):=⟨TG.L7 ⟩
end
section
variable [aR] {X:Cx}
theorem dC {x j pos}:XE X (.Constant (.str x) j pos) (fC (.str x)):=⟨TG.KO ⟩
end
section
variable [aR] {X:Cx}
theorem aj :XA X [] aq:=⟨TG.GQ ⟩
end
section
variable [aR] {X:Cx}
theorem aa {e:QB} {es:List QB} {f:FX} {g:au->R (List D)} (he:XE X e f) (hs:XA X es g) (hns:noStar e=true:=by rfl):XA X (e::es) (af f g):=⟨TG.Du he.h hs.h hns⟩
end
section
variable [aR] {X:Cx}
theorem bu {es:List QB} {g:au->R (List D)} {k pos} (h:XA X es g):XE X (.Tuple es k pos) (bH g):=⟨TG.Lh h.h⟩
end
section
variable [aR] {X:Cx}
theorem mD {es:List QB} {g:au->R (List D)} {pos} (h:XA X es g):XE X (.List es pos) (ki g):=⟨TG.Kf h.h⟩
end
section
variable [aR] {X:Cx}
theorem ao {a b:QB} {op:Operator} {r:R2} {g:D->D->Option D} {fa fb:FX} {pos:Pos} (ho:jr X (QN op) r) (s:de X.K r g) (ha:XE X a fa) (hb:XE X b fb):XE X (.BinOp a op b pos) (f2 g fa fb):=⟨TG.J4 ho s ha.h hb.h⟩
end
section
variable [aR] {X:Cx}
theorem qj {a b:QB} {op:QP} {r:R2} {g:D->D->Option D} {fa fb:FX} {pos:Pos} (ho:jr X (QO op) r) (s:de X.K r g) (ha:XE X a fa) (hb:XE X b fb) (hm:QQ op b=false):XE X (.Compare a [op] [b] pos) (f2 g fa fb):=⟨TG.LI ho s ha.h hb.h hm⟩
end
section
variable [aR] {X:Cx}
theorem cu {a b:QB} {op:QP} {r:R2} {g:D->D->Option D} {fa fb:FX} {pos:Pos} (ho:jr X (QO op) r) (s:de X.K r g) (ha:XE X a fa) (hb:XE X b fb) (hm:QQ op b=false):XT X (.Compare a [op] [b] pos) (fB (f2 g fa fb)):=⟨TG.K6 ho s ha.h hb.h hm⟩
end
section
variable [aR] {X:Cx} {a b c:QB} {rest:List QB} {pos:Pos} {f g:au->R Bool}
theorem fV (h:XT X a f):XT X (.UnaryOp .Not a pos) (gf f):=⟨TG.K2 h.h⟩
end
section
variable [aR] {X:Cx} {a b c:QB} {rest:List QB} {pos:Pos} {f g:au->R Bool}
theorem iu (h:XT X a f):XW X (.BoolOp .Or [a] pos) f:=⟨TG.Kt h.h⟩
end
section
variable [aR] {X:Cx} {a b c:QB} {rest:List QB} {pos:Pos} {f g:au->R Bool}
theorem j4 (ha:XT X a f) (hb:XW X (.BoolOp .Or (b::rest) pos) g):XW X (.BoolOp .Or (a::b::rest) pos) (si f g):=⟨TG.L6 ha.h hb.h⟩
end
section
variable [aR] {X:Cx} {a b c:QB} {rest:List QB} {pos:Pos} {f g:au->R Bool} {fa fb:FX}
theorem qo {op} (h:XE X a fa):XE X (.BoolOp op [a] pos) fa:=⟨TG.Lq h.h⟩
end
section
variable [aR] {X:Cx} {a b c:QB} {rest:List QB} {pos:Pos} {f g:au->R Bool} {fa fb:FX}
theorem nZ (ha:XE X a fa) (hb:XE X (.BoolOp .And (b::rest) pos) fb):XE X (.BoolOp .And (a::b::rest) pos) (pY fa fb):=⟨TG.KZ ha.h hb.h⟩
end
section
variable [aR] {X:Cx} {a b c:QB} {rest:List QB} {pos:Pos} {f g:au->R Bool} {fa fb:FX}
theorem DS (ha:XE X a fa):XE X (.UnaryOp .Not a pos) (zr fa):=⟨TG.K3 ha.h⟩
end
section
variable [aR] {X:Cx} {a b c:QB} {rest:List QB} {pos:Pos} {f g:au->R Bool} {fa fb:FX}
theorem GR (hc:XT X c f) (ha:XE X a fa) (hb:XE X b fb):XE X (.IfExp c a b pos) (JO f fa fb):=⟨TG.Mh hc.h ha.h hb.h⟩
end
section
variable [aR] {X:Cx}
theorem bd {a b:QB} {fa fb:FX} {pos:Pos} (ha:XE X a fa) (hb:XE X b fb) (hs:vA b):XE X (.Subscript a b pos) (f2 aQ fa fb):=⟨TG.Mg ha.h hb.h hs⟩
end
section
variable [aR] {X:Cx}
theorem cK :XO X none aU:=⟨TG.JZ ⟩
end
section
variable [aR] {X:Cx}
theorem cJ {e:QB} {f:FX} (h:XE X e f):XO X (some e) (bU f):=⟨TG.JS h.h⟩
end
section
variable [aR] {X:Cx}
theorem cj {e:QB} {f:FX} {l h:au->R (Option Int)} {lo hi:Option QB} {p2 pos:Pos} (he:XE X e f) (hl:XO X lo l) (hh:XO X hi h):XE X (.Subscript e (.Slice lo hi none p2) pos) (bn f l h):=⟨TG.HH he.h hl.h hh.h⟩
end
section
variable [aR] {X:Cx} {x:Str} {p pos:Pos} {e:QB} {es:List QB} {id T:String} {g:List D->Option D} {f:au->R (List D)}
theorem bT (hc:dW X (.builtin id) (xI X.K g)) (hg:Gl X x) (hm:X.mg x=none) (hv:Qw x=some (.builtin id)) (ha:XA X (e::es) f) (hn:x ≠ "__name__":=by decide) (hdb:(x==("__debug__":Str))=false:=by decide) (hns:(e::es).all noStar=true:=by rfl):XE X (.Call (.Name x p) (e::es) [] pos) (fL g f):=⟨TG.Ji hc hg hm hv ha.h hn hdb hns⟩
end
section
variable [aR] {X:Cx} {x:Str} {p pos:Pos} {e:QB} {es:List QB} {id T:String} {g:List D->Option D} {f:au->R (List D)}
theorem bL (hc:dW X (.type T) (xI X.K g)) (hg:Gl X x) (hm:X.mg x=none) (hv:Qw x=some (.type T)) (ha:XA X (e::es) f) (hn:x ≠ "__name__":=by decide) (hdb:(x==("__debug__":Str))=false:=by decide) (hns:(e::es).all noStar=true:=by rfl):XE X (.Call (.Name x p) (e::es) [] pos) (fL g f):=⟨TG.HA hc hg hm hv ha.h hn hdb hns⟩
end
section
variable [aR] {X:Cx} {x:Str} {p pos:Pos} {e:QB} {es:List QB} {id T:String} {g:List D->Option D} {f:au->R (List D)}
theorem eY {f:FX} {xT:Str} {p2:Pos} (ok:wD X.K T) (hg:Gl X "isinstance") (hm:X.mg "isinstance"=none) (hgT:Gl X xT) (hmT:X.mg xT=none) (hvT:Qw xT=some (.type T)) (he:XE X e f) (hn2:xT ≠ "__name__":=by decide) (hd2:(xT==("__debug__":Str))=false:=by decide) (hns:noStar e=true:=by rfl):XE X (.Call (.Name "isinstance" p) [e,.Name xT p2] [] pos) (nE T f):=⟨TG.Kl ok hg hm hgT hmT hvT he.h hn2 hd2 hns⟩
end
section
variable [aR] {X:Cx} {a:QB} {f:FX} {pos:Pos}
theorem cE (h:XE X a f) (he:∀ whole,isTrue a X.env whole=(do let v <- whole; standAt a.pos; holding [v] (truthy v)):=by intro _; rfl):XT X a (bX f):=⟨TG.Jm h.h he⟩
end
section
variable [aR] {X:Cx} {tg:QB}
theorem eV {e:QB} {f:FX} (h:XE X e f):XI X tg e (cA f):=⟨TG.LK h.h⟩
end
section
variable [aR] {X:Cx} {tg:QB}
theorem km {a:QB} {f:au->R (List D)} {p pos:Pos} (hg:Gl X "range") (hm:X.mg "range"=none) (ha:XA X [a] f) (hs:QC [a] X.env=[(false,eval a X.env)]:=by rfl):XI X tg (.Call (.Name "range" p) [a] [] pos) (gX f):=⟨TG.Hz hg hm ha.h hs⟩
end
section
variable [aR] {X:Cx} {tg:QB}
theorem xS {a b:QB} {f:au->R (List D)} {p pos:Pos} (hg:Gl X "range") (hm:X.mg "range"=none) (ha:XA X [a,b] f) (hs:QC [a,b] X.env=[(false,eval a X.env),(false,eval b X.env)]:=by rfl) (hs2:QC [b] X.env=[(false,eval b X.env)]:=by rfl):XI X tg (.Call (.Name "range" p) [a,b] [] pos) (qt f):=⟨TG.HE hg hm ha.h hs hs2⟩
end
section
variable [aR] {X:Cx} {pos:Pos}
theorem bM {i:Nat} {x:Str} (hN:X.N.Nodup) (hi:X.N[i]?=some x) (hx:Loc X.env.scope x) (hf:X.fn x=true\/X.env.scope.names.lookup x=some .local:=by first | exact .inl rfl | exact .inr rfl | assumption):XG X (.Name x pos) (gN i):=⟨TG.JR hN hi hx hf⟩
end
section
variable [aR] {X:Cx} {pos:Pos}
theorem nT :J1 X [] By:=⟨TG.JE ⟩
end
section
variable [aR] {X:Cx} {pos:Pos}
theorem fE {e:QB} {es:List QB} {g:GF} {h:Bt} (h1:XG X e g) (h2:J1 X es h) (hs:(assignEach (e::es) X.env).map (·.2)=assign e X.env::(assignEach es X.env).map (·.2):=by rfl):J1 X (e::es) (yh g h):=⟨TG.HR h1.h h2.h hs⟩
end
section
variable [aR] {X:Cx} {pos:Pos}
theorem qq {es:List QB} {k:Nat} {g:Bt} {n:Nat} (hc:X.calm=true) (h:J1 X es g) (hn:(assignEach es X.env).length=n:=by rfl) (hst:(assignEach es X.env).findIdx? (·.1)=none:=by rfl):XG X (.Tuple es k pos) (gT n g):=⟨TG.Lx hc h.h hn hst⟩
end
section
variable [aR]
theorem jI {X:Cx}:LX X [] eS:=⟨TG.Jt ⟩
end
section
variable [aR]
theorem xh {X:Cx} {c:QB} {F:au->R Bool} (h:XT X c F):LX X [c] F:=⟨TG.JX h.h⟩
end
section
variable [aR] {X:Cx} {elt tg iter:QB} {ifs:List QB} {scope:Qz} {pos:Pos} {N:List Str} {ix:List (Option Nat)} {G:au->R (List D)} {g:GF} {C:au->R Bool} {Fe:FX}
theorem ny (hc:X.calm=true) (ok:nR X scope N ix) (tk:wy ix g) (hi:XI X tg iter G) (hb:FV X scope N tg elt ifs g C Fe) (hs:∀ x,QL iter X.env x=pure x:=by intro _; rfl):XE X (.ListComp elt [⟨tg,iter,ifs,0⟩] scope pos) (nG ix G g C Fe):=⟨TG.Mi hc ok tk hi.h hb.h hs⟩
end
section
variable [aR] {X:Cx} {st:QD} {rest body:List QD} {pos:Pos}
theorem aX :za X [] cz:=⟨TG.Jv ⟩
end
section
variable [aR] {X:Cx} {st:QD} {rest body:List QD} {pos:Pos}
theorem ak {F1 F2:cB} (h1:XS X st F1) (h2:za X rest F2):za X (st::rest) (aG F1 F2):=⟨TG.IR h1.h h2.h⟩
end
section
variable [aR] {X:Cx} {st:QD} {rest body:List QD} {pos:Pos}
theorem az {F1:cB} (h1:XS X st F1):za X [st] F1:=⟨TG.JP h1.h⟩
end
section
variable [aR] {X:Cx} {st:QD} {rest body:List QD} {pos:Pos}
theorem aK {e:QB} {f:FX} (h:XE X e f):XS X (.Return (some e) pos) (bC f):=⟨TG.Kn h.h⟩
end
section
variable [aR] {X:Cx} {st:QD} {rest body:List QD} {pos:Pos}
theorem cF {c:QB} {a b:List QD} {tc:au->R Bool} {A B:cB} (hc:XT X c tc) (ha:za X a A) (hb:za X b B):XS X (.If c a b pos) (jb tc A B):=⟨TG.Mb hc.h ha.h hb.h⟩
end
section
variable [aR] {X:Cx} {st:QD} {rest body:List QD} {pos:Pos}
theorem aT {i:Nat} {x:Str} {e:QB} {f:FX} {pos':Pos} (hN:X.N.Nodup) (hi:X.N[i]?=some x) (hx:Loc X.env.scope x) (he:XE X e f) (hs:swapsWith e (some (.Name x pos')) pos.line X.env=pure false:=by rfl) (hf:X.fn x=true\/X.env.scope.names.lookup x=some .local:=by first | exact .inl rfl | exact .inr rfl | assumption):XS X (.Assign [.Name x pos'] e pos) (bW i f):=⟨TG.KH hN hi hx he.h hs hf⟩
end
section
variable [aR] {X:Cx} {st:QD} {rest body:List QD} {pos:Pos}
theorem rJ :XS X st vF:=⟨TG.JV ⟩
end
section
variable [aR] {X:Cx} {st:QD} {rest body:List QD} {pos:Pos}
theorem dA {st:List QD} {F:cB} (is:List Nat) (h:za X st F):za X st (fK is F):=⟨TG.Ip is h.h⟩
end
section
variable [aR] {X:Cx} {st:QD} {rest body:List QD} {pos:Pos}
theorem eZ {tg iter:QB} {G:au->R (List D)} {g:GF} {B:cB} (hp:QK (model X.prog X.w) X.A X.env X.xe) (hc:X.calm=true) (hi:XI X tg iter G) (hg:XG X tg g) (hb:za X body B) (hs:∀ x,QL iter X.env x=pure x:=by intro _; rfl):XS X (.For tg iter body [] pos) (kK G g B):=⟨TG.K4 hp hc hi.h hg.h hb.h hs⟩
end
section
variable [aR] {X:Cx} {pos:Pos}
theorem kE {es:List QB} {g:au->R (List D)} (h:XA X es g):XN X (.List es pos) (ki g):=⟨TG.Lc h.h⟩
end
section
variable [aR] {X:Cx} {pos:Pos}
theorem oW :XN X (.Dict [] [] pos) uB:=⟨TG.B3 ⟩
end
section
variable [aR] {X:Cx} {pos:Pos}
theorem gY {i:Nat} {x:Str} {e:QB} {f:FX} {pos':Pos} (hN:X.N.Nodup) (hi:X.N[i]?=some x) (hx:Loc X.env.scope x) (he:XN X e f) (hs:swapsWith e (some (.Name x pos')) pos.line X.env=pure false:=by rfl) (hf:X.fn x=true\/X.env.scope.names.lookup x=some .local:=by first | exact .inl rfl | exact .inr rfl | assumption):XS X (.Assign [.Name x pos'] e pos) (n5 i f):=⟨TG.L5 hN hi hx he.h hs hf⟩
end
section
variable [aR]
theorem GN {X:Cx} {elt tg iter:QB} {ifs:List QB} {scope:Qz} {pos:Pos} {N:List Str} {ix:List (Option Nat)} {G:au->R (List D)} {g:GF} {C:au->R Bool} {Fe:FX} (hc:X.calm=true) (ok:nR X scope N ix) (tk:wy ix g) (hi:XI X tg iter G) (hb:FV X scope N tg elt ifs g C Fe) (hs:∀ x,QL iter X.env x=pure x:=by intro _; rfl):XN X (.ListComp elt [⟨tg,iter,ifs,0⟩] scope pos) (nG ix G g C Fe):=⟨TG.L9 hc ok tk hi.h hb.h hs⟩
end
section
variable [aR]
theorem nA {X : Cx} {i : Nat} {x m : Str} {id : String} {r : V -> List V -> Hp -> VK -> Prop} {u : List D -> List D -> Option (List D)} {e : QB} {es : List QB} {f : au -> R (List D)} {npos apos cpos pos : Pos} (slot : Slot "list" m id) (hty : typeOf (.builtin id) = pure (.type "method_descriptor")) (hm : Ib X id r) (ok : CF X.K r u) (hx : XV X (.Name x npos) i) (he : XA X (e :: es) f) (hbase : QU (.Name x npos) m X.env (eval (.Name x npos) X.env) = eval (.Name x npos) X.env := by rfl) (hfew : ((backTo cpos (QC (e :: es) X.env)).all (fun x => !x.1) && (backToKw cpos (QW [] X.env)).all (fun x => x.1.isSome)
      && decide ((e::es:List QB).length+([]:List Q2).length+(if ([]:List Q2).isEmpty then 0 else 1) < 30))=true:=by rfl) (hline:(apos.endLine==cpos.line)=true:=by rfl) (hs:QC (e::es) X.env=(false,eval e X.env)::QC es X.env:=by rfl) (hplain:(backTo cpos (QC es X.env)).any (·.1)=false:=by rfl) (hsw:swapsWith (.Call (.Attribute (.Name x npos) m apos) (e::es) [] cpos) none pos.line X.env=pure false:=by rfl):XS X (.Expr (.Call (.Attribute (.Name x npos) m apos) (e::es) [] cpos) pos) (AH i u f):=⟨TG.Md slot hty hm ok hx.h he.h hbase hfew hline hs hplain hsw⟩
end
section
variable [aR]
theorem eU {X:Cx} {st:List QD} {F:cB} (i:Nat) (h:za X st F):za X st (iq i F):=⟨TG.JB i h.h⟩
end
section
variable [aR]
theorem w8 {X:Cx} {e:QB} {f:au->R Bool} (is:List Nat) (h:XT X e f):XT X e (lm is f):=⟨TG.Jw is h.h⟩
end
section
variable [aR]
theorem ay {X:Cx} {k k':Nat} {ps:List Str} {g:List D->R D} {h:au->R (List D)} {x:Str} {p pos:Pos} {e:QB} {es:List QB} (C:Callee X.prog X.w X.K X.mg X.base k x ps g) (hn:Ar ps.length g) (hr:fZ k' X.A) (hk:k<=k') (ha:XA X (e::es) h) (hg:Gl X x:=by rfl) (hdb:(x==("__debug__":Str))=false:=by decide) (hns:(e::es).all noStar=true:=by rfl):XE X (.Call (.Name x p) (e::es) [] pos) (fR g h):=⟨TG.HC C hn hr hk ha.h hg hdb hns⟩
end
section
variable [aR] {X:Cx} {a b c:QB} {fa fb fc:FX} {pos:Pos}
theorem Az {op op':QP} {r r':R2} {g g':D->D->Option D} (ho:jr X (QO op) r) (s:de X.K r g) (ho':jr X (QO op') r') (s':de X.K r' g') (ha:XE X a fa) (hb:XE X b fb) (hc:XE X c fc) (hm:lastMarks [op,op'] [b,c]=false:=by with_unfolding_all rfl):XT X (.Compare a [op,op'] [b,c] pos) (fB (rq g g' fa fb fc)):=⟨TG.IM ho s ho' s' ha.h hb.h hc.h hm⟩
end
section
variable [aR] {X:Cx} {a b c:QB} {fa fb fc:FX} {pos:Pos}
theorem Ew (ha:XE X a fa):XE X (.UnaryOp .USub a pos) (EQ fa):=⟨TG.Ld ha.h⟩
end
section
variable [aR] {X:Cx} {a b c:QB} {fa fb fc:FX} {pos:Pos}
theorem Dc {x:Str} {i:Int} (hg:Gl X x) (hm:∃ t,X.mg x=some (.int i t)) (hd:(x==("__debug__":Str))=false:=by decide):XE X (.Name x pos) (fC (.int i)):=⟨TG.J2 hg hm hd⟩
end
section
variable [aR] {X:Cx}
theorem Ep {a b:QB} {es:List QB} {k:Nat} {tpos:Pos} {f:au->R (List D)} {p pos:Pos} (hg:Gl X "zip") (hm:X.mg "zip"=none) (ha:XA X [a,b] f) (hs:QC [a,b] X.env=(false,eval a X.env)::QC [b] X.env:=by rfl) (hpl:(backTo pos (QC [b] X.env)).any (·.1)=false:=by rfl):XI X (.Tuple es k tpos) (.Call (.Name "zip" p) [a,b] [] pos) (Em f):=⟨TG.J6 hg hm ha.h hs hpl⟩
end
section
variable [aR] {X:Cx} {a o e:QB} {es:List QB} {fa fo:FX} {fas:au->R (List D)} {f m x:Str} {cs:List Str} {pos apos p:Pos} {k k':Nat} {ps:List Str}
theorem fO (ok:lg X.K f cs) (h:XE X a fa) (hb:QU a f X.env (eval a X.env)=eval a X.env:=by rfl):XE X (.Attribute a f pos) (f1 (jq f cs) fa):=⟨TG.LO ok h.h hb⟩
end
section
variable [aR] {X:Cx} {a o e:QB} {es:List QB} {fa fo:FX} {fas:au->R (List D)} {f m x:Str} {cs:List Str} {pos apos p:Pos} {k k':Nat} {ps:List Str}
theorem eT {tbl : List (Str × (List D -> R D))} {pl : Sem Bool} (tb : eG X.prog X.w X.K X.mg X.base k m ps tbl) (hr : fZ k' X.A) (hk : k <= k') (ho : XE X o fo) (ha : XA X (e :: es) fas) (hns : (e :: es).all noStar = true := by rfl) (ht : eval (.Call (.Attribute o m apos) (e :: es) [] pos) X.env = (do
      let ov <- eval o X.env
      standAt apos.atName
      let (f,first) <- holding [ov] (getMethod ov m pl)
      QV pos f first (backTo pos (QC (e::es) X.env)) (backToKw pos (QW [] X.env))):=by rfl):XE X (.Call (.Attribute o m apos) (e::es) [] pos) (cn m tbl fo fas):=⟨TG.Jz tb hr hk ho.h ha.h hns ht⟩
end
section
variable [aR] {X:Cx} {a o e:QB} {es:List QB} {fa fo:FX} {fas:au->R (List D)} {f m x:Str} {cs:List Str} {pos apos p:Pos} {k k':Nat} {ps:List Str}
theorem Be {tbl : List (Str × (List D -> R D))} {pl : Sem Bool} (tb : eG X.prog X.w X.K X.mg X.base k m ps tbl) (hr : fZ k' X.A) (hk : k <= k') (ho : XE X o fo) (ht : eval (.Call (.Attribute o m apos) [] [] pos) X.env = (do
      let ov <- eval o X.env
      standAt apos.atName
      let (f,first) <- holding [ov] (getMethod ov m pl)
      QV pos f first (backTo pos (QC [] X.env)) (backToKw pos (QW [] X.env))):=by rfl):XE X (.Call (.Attribute o m apos) [] [] pos) (cn m tbl fo aq):=⟨TG.Jn tb hr hk ho.h ht⟩
end
section
variable [aR] {X:Cx} {a o e:QB} {es:List QB} {fa fo:FX} {fas:au->R (List D)} {f m x:Str} {cs:List Str} {pos apos p:Pos} {k k':Nat} {ps:List Str}
theorem Dw {c:Str} {fs:List Str} (IA:rd X.prog X.w X.K X.mg X.base k c ps fs) (hr:fZ k' X.A) (hk:k+1<=k') (hg:Gl X c) (ha:XA X (e::es) fas) (hdb:(c==("__debug__":Str))=false:=by decide) (hns:(e::es).all noStar=true:=by rfl):XE X (.Call (.Name c p) (e::es) [] pos) (fNew c fs fas):=⟨TG.KC IA hr hk hg ha.h hdb hns⟩
end
section
variable [aR]
theorem vE {X:Cx} {i:Nat} {x:Str} {idx value:QB} {fk fv:FX} {npos tpos pos:Pos} (hu:X.A.units+64 < QX) (hx:XV X (.Name x npos) i) (hi:XE X idx fk) (hv:XE X value fv) (hs:swapsWith value (some (.Subscript (.Name x npos) idx tpos)) pos.line X.env=pure false:=by rfl):XS X (.Assign [.Subscript (.Name x npos) idx tpos] value pos) (rA i fk fv):=⟨TG.Jy hu hx.h hi.h hv.h hs⟩
end
section
variable [aR] {X:Cx} {p pos kp:Pos} {e:QB}
theorem BR {f:FX} {i:Int} {j:Nat} {cp:Pos} (hc:X.calm=true) (hg:Gl X "max") (hm:X.mg "max"=none) (he:XE X e f) (hns:noStar e=true:=by rfl):XE X (.Call (.Name "max" p) [e] [⟨some "default",.Constant (.int i) j cp,kp⟩] pos) (f1 (pZ i) f):=⟨TG.JA hc hg hm he.h hns⟩
end
section
variable [aR]
theorem xE {X:Cx} {i:Nat} {x:Str} {idx value:QB} {fk fv:FX} {npos tpos pos:Pos} (hu:X.A.units+64 < QX) (hx:XV X (.Name x npos) i) (hi:XE X idx fk) (hv:XE X value fv) (hs:swapsWith value (some (.Subscript (.Name x npos) idx tpos)) pos.line X.env=pure false:=by rfl):XS X (.Assign [.Subscript (.Name x npos) idx tpos] value pos) (nV i fk fv):=⟨TG.JU hu hx.h hi.h hv.h hs⟩
end
section
variable [aR] {X:Cx} {pos:Pos}
theorem Dd {i:Nat} {x:Str} {dp pos':Pos} (hN:X.N.Nodup) (hi:X.N[i]?=some x) (hx:Loc X.env.scope x) (hs:swapsWith (.Dict [] [] dp) (some (.Name x pos')) pos.line X.env=pure false:=by rfl) (hf:X.fn x=true\/X.env.scope.names.lookup x=some .local:=by first | exact .inl rfl | exact .inr rfl | assumption):XS X (.Assign [.Name x pos'] (.Dict [] [] dp) pos) (wu i):=⟨TG.JI hN hi hx hs hf⟩
end
section
variable [aR] {X:Cx}
theorem D8 {i:Nat} {x:Str} {ke ve:QB} {fk fv:FX} {npos ap1 cp1 lp ap2 cp2 pos:Pos} (hu:X.A.units+64 < QX) (hx:XV X (.Name x npos) i) (hke:XE X ke fk) (hve:XE X ve fv) (hn1:noStar ke=true:=by rfl) (hn2:noStar ve=true:=by rfl) (hb1:QU (.Name x npos) "setdefault" X.env (eval (.Name x npos) X.env)=eval (.Name x npos) X.env:=by rfl) (hf1:((backTo cp1 (QC [ke,.List [] lp] X.env)).all (fun x=>!x.1) && (backToKw cp1 (QW [] X.env)).all (fun x=>x.1.isSome) && decide (([ke,.List [] lp]:List QB).length+([]:List Q2).length+(if ([]:List Q2).isEmpty then 0 else 1) < 30))=true:=by rfl) (hl1:(ap1.endLine==cp1.line)=true:=by rfl) (hp1:(backTo cp1 (QC [.List [] lp] X.env)).any (·.1)=false:=by rfl) (hb2:QU (.Call (.Attribute (.Name x npos) "setdefault" ap1) [ke,.List [] lp] [] cp1) "append" X.env (eval (.Call (.Attribute (.Name x npos) "setdefault" ap1) [ke,.List [] lp] [] cp1) X.env)=eval (.Call (.Attribute (.Name x npos) "setdefault" ap1) [ke,.List [] lp] [] cp1) X.env:=by rfl) (hf2:((backTo cp2 (QC [ve] X.env)).all (fun x=>!x.1) && (backToKw cp2 (QW [] X.env)).all (fun x=>x.1.isSome) && decide (([ve]:List QB).length+([]:List Q2).length+(if ([]:List Q2).isEmpty then 0 else 1) < 30))=true:=by rfl) (hl2:(ap2.endLine==cp2.line)=true:=by rfl) (hp2:(backTo cp2 (QC [] X.env)).any (·.1)=false:=by rfl) (hsw:swapsWith (.Call (.Attribute (.Call (.Attribute (.Name x npos) "setdefault" ap1) [ke,.List [] lp] [] cp1) "append" ap2) [ve] [] cp2) none pos.line X.env=pure false:=by rfl):XS X (.Expr (.Call (.Attribute (.Call (.Attribute (.Name x npos) "setdefault" ap1) [ke,.List [] lp] [] cp1) "append" ap2) [ve] [] cp2) pos) (Aw i fk fv):=⟨TG.Kc hu hx.h hke.h hve.h hn1 hn2 hb1 hf1 hl1 hp1 hb2 hf2 hl2 hp2 hsw⟩
end
section
variable [aR] {X:Cx}
theorem tQ {o:QB} {es:List QB} {k:Nat} {tpos:Pos} {f:FX} {apos cpos:Pos} (ho:XE X o f) (hbase:QU o "items" X.env (eval o X.env)=eval o X.env:=by rfl) (hline:(apos.endLine==cpos.line)=true:=by rfl):XI X (.Tuple es k tpos) (.Call (.Attribute o "items" apos) [] [] cpos) (kS f):=⟨TG.HQ ho.h hbase hline⟩
end
section
variable [aR]
theorem zW {X:Cx} {st:List QD} {F:cB} (i:Nat) (h:za X st F):za X st (sW i F):=⟨TG.IW i h.h⟩
end
section
variable [aR] {X:Cx}
theorem Ea {o e:QB} {fo fk:FX} {pos:Pos} (hu:X.A.units+64 < QX) (ho:XE X o fo) (hi:XE X e fk) (hs:Dz e):XE X (.Subscript o e pos) (f2 yq fo fk):=⟨TG.Lb hu ho.h hi.h hs⟩
end
section
variable [aR]
theorem DP {X:Cx} {i:Nat} {x:Str} {e:QB} {f:FX} {npos apos cpos pos:Pos} (hx:XV X (.Name x npos) i) (he:XN X e f) (hns:noStar e=true:=by rfl) (hbase:QU (.Name x npos) "extend" X.env (eval (.Name x npos) X.env)=eval (.Name x npos) X.env:=by rfl) (hfew:((backTo cpos (QC [e] X.env)).all (fun x=>!x.1) && (backToKw cpos (QW [] X.env)).all (fun x=>x.1.isSome) && decide (([e]:List QB).length+([]:List Q2).length+(if ([]:List Q2).isEmpty then 0 else 1) < 30))=true:=by rfl) (hline:(apos.endLine==cpos.line)=true:=by rfl) (hplain:(backTo cpos (QC [] X.env)).any (·.1)=false:=by rfl) (hsw:swapsWith (.Call (.Attribute (.Name x npos) "extend" apos) [e] [] cpos) none pos.line X.env=pure false:=by rfl):XS X (.Expr (.Call (.Attribute (.Name x npos) "extend" apos) [e] [] cpos) pos) (CO i f):=⟨TG.K8 hx.h he.h hns hbase hfew hline hplain hsw⟩
end
abbrev Lk (K:Pj) (f:Qr) (nm qual:Str) (st:QD) (oc:Qo) (od:Option Qr) (kV dc pm:Qo) (an:Option Qr) (cd ct:Qo) (sl:Array (Option Qo)):Prop:=K.lookup f=some ⟨oc,od,.func (PC nm qual (mJ st) (fP st) (aB st) .none kV dc pm an cd ct),sl⟩
structure cT (P:Qq) (w:Qp) (K:Pj) (mg:Str->Option Qo) (base:Qt) (k:Nat) (N:List Str) (qual:Str) (st:QD) (f:Qr) (B:cB):Prop where
 h:∀ (cdv:Qo) (A:Qx) (outer:List Env) (s:Qy) (H:Hp) (E:XK),fZ k (A.deeper (Qb qual (aB st) s.heap.objs.size f cdv))->QK (model P w) (A.deeper (Qb qual (aB st) s.heap.objs.size f cdv)) (Qb qual (aB st) s.heap.objs.size f cdv) (lu (oV P w) P w K mg base N qual (aB st) f cdv A outer s H E).xe ->
  za (lu (oV P w) P w K mg base N qual (aB st) f cdv A outer s H E) (fP st) B
theorem cT.ok {P:Qq} {w:Qp} {K:Pj} {mg:Str->Option Qo} {base:Qt} {k:Nat} {N:List Str} {qual:Str} {st:QD} {f:Qr} {B:cB} (h:cT P w K mg base k N qual st f B):BodyOk P w K mg base k N qual st f B:=⟨fun cdv A outer s H E hr hp=>(h.h cdv A outer s H E hr hp).h⟩
end TX
namespace TG
open L2
instance (priority:=low) noTabs:aR:=⟨fun _=>True,fun _ _=>trivial,fun _ _ _=>trivial⟩
end TG
namespace TG
open PySem PySem.Spec L2
theorem nr {α:Sort _} {a b:α} (h:a=b):a=b:=h
theorem dD {α β:Type} (a:α) (f:α->R β):Except.bind (Except.ok a:R α) f=f a:=nr rfl
theorem tM {α β:Type} (x:Option Ex) (f:α->R β):Except.bind (Except.error x:R α) f=.error x:=nr rfl
theorem pW {α:Type} (a:α) (k:Ks) (ρ:au) (f:α->R D):sg (.ok a) k ρ f=f a:=nr rfl
theorem tB {α:Type} (x:Ex) (k:Ks) (ρ:au) (f:α->R D):sg (.error (some x)) k ρ f=k.ex x ρ:=nr rfl
theorem ip {α:Type} (a:α):A3 (.ok a:R α)=.ok a:=nr rfl
theorem e9 {α:Type} (a:α):rO (some a)=.ok a:=nr rfl
theorem ge_0 (d:D) (ρ:au):qQ (some (.val d)::ρ) 0=.ok d:=nr rfl
theorem AC (x:Option S) (ρ:au) (i:Nat):qQ (x::ρ) (i+1)=qQ ρ i:=by
 unfold qQ; rw [N4]
theorem o9 (i:Nat) (ρ:au):ah i ρ=qQ ρ i:=nr rfl
theorem Bg (d:D) (ρ:au):fC d ρ=.ok d:=nr rfl
theorem pC (ρ:au):aq ρ=.ok []:=nr rfl
theorem mr (f:FX) (g:au->R (List D)) (ρ:au):af f g ρ=(f ρ).bind fun x=>(g ρ).bind fun xs=>.ok (x::xs):=nr rfl
theorem pB (g:au->R (List D)) (ρ:au):bH g ρ=(g ρ).bind fun xs=>rO (t9 xs):=nr rfl
theorem o0 (g:au->R (List D)) (ρ:au):ki g ρ=(g ρ).bind fun xs=>rO (ng xs):=nr rfl
theorem zT (g:D->Option D) (f:FX) (ρ:au):f1 g f ρ=(f ρ).bind fun a=>rO (g a):=nr rfl
theorem AR (g:D->D->Option D) (f h:FX) (ρ:au):f2 g f h ρ=(f ρ).bind fun a=>(h ρ).bind fun b=>rO (g a b):=nr rfl
theorem Av (f:FX) (ρ:au):fB f ρ=(f ρ).bind fun d=>rO (Kb d):=nr rfl
theorem AX (g:List D->Option D) (f:au->R (List D)) (ρ:au):fL g f ρ=(f ρ).bind fun ds=>rO (g ds):=nr rfl
theorem Ao (g:List D->R D) (f:au->R (List D)) (ρ:au):fR g f ρ=(f ρ).bind g:=nr rfl
theorem oH (f:au->R Bool) (ρ:au):gf f ρ=(f ρ).bind fun b=>.ok (!b):=nr rfl
theorem oG (f g:au->R Bool) (ρ:au):LJ f g ρ=(f ρ).bind fun b=>if b then g ρ else .ok false:=nr rfl
theorem sZ (f g:au->R Bool) (ρ:au):si f g ρ=(f ρ).bind fun b=>if b then .ok true else g ρ:=nr rfl
theorem jL (f:FX) (ρ:au):bX f ρ=(f ρ).bind fun d=>rO (truth d):=nr rfl
theorem my (f g:FX) (ρ:au):pY f g ρ=(f ρ).bind fun d=>yG d (g ρ):=nr rfl
theorem oS (f g:FX) (ρ:au):Ls f g ρ=(f ρ).bind fun d=>Ja d (g ρ):=nr rfl
theorem mO (f:FX) (ρ:au):zr f ρ=(f ρ).bind fun a=>rO (Hl a):=nr rfl
theorem tI (t:au->R Bool) (f g:FX) (ρ:au):JO t f g ρ=(t ρ).bind fun c=>if c then f ρ else g ρ:=nr rfl
theorem pF (T:String) (f:FX) (ρ:au):nE T f ρ=(f ρ).bind fun a=>rO (gC T a):=nr rfl
theorem oM (f:FX) (ρ:au):LW f ρ=(f ρ).bind fun a=>.ok (.bl (isNon a)):=nr rfl
theorem lZ (f:FX) (ρ:au):Ic f ρ=(f ρ).bind fun a=>.ok (.bl (!isNon a)):=nr rfl
theorem oF (f:FX) (ρ:au):EQ f ρ=(f ρ).bind fun a=>rO (G0 a):=nr rfl
theorem jR (f:FX) (ρ:au):Gi f ρ=(f ρ).bind fun a=>rO (Cj a):=nr rfl
theorem oR (f:FX) (ρ:au):L1 f ρ=(f ρ).bind fun a=>rO (Hj a):=nr rfl
theorem jX (g g':D->D->Option D) (fa fb fc:FX) (ρ:au):rq g g' fa fb fc ρ=(fa ρ).bind fun x=>(fb ρ).bind fun y=>(rO (g x y)).bind fun z=>yG z ((fc ρ).bind fun w=>rO (g' y w)):=nr rfl
theorem jF (f:FX) (ρ:au):cA f ρ=(f ρ).bind fun d=>rO (rh d):=nr rfl
theorem iJ (f:au->R (List D)) (ρ:au):gX f ρ=(f ρ).bind fun ds=>rO (mB ds):=nr rfl
theorem iM (f:au->R (List D)) (ρ:au):qt f ρ=(f ρ).bind fun ds=>rO (qf ds):=nr rfl
theorem o6 (f:au->R (List D)) (ρ:au):Em f ρ=(f ρ).bind fun ds=>rO (Al ds):=nr rfl
theorem lY (f:au->R (List D)) (ρ:au):xO f ρ=(f ρ).bind fun ds=>rO (Fu ds):=nr rfl
theorem pf (z:Str):MB (.str z)=some z:=nr rfl
theorem iI (ρ:au):aU ρ=.ok none:=nr rfl
theorem mK (f:FX) (ρ:au):bU f ρ=(f ρ).bind fun d=>rO (yf d):=nr rfl
theorem jC (f:FX) (l h:au->R (Option Int)) (ρ:au):bn f l h ρ=(f ρ).bind fun a=>(l ρ).bind fun lo=>(h ρ).bind fun hi=>rO (rX a lo hi):=nr rfl
theorem mh (ρ:au):eS ρ=.ok true:=nr rfl
theorem mP (k:Ks) (ρ:au):cz k ρ=k.nx ρ:=nr rfl
theorem gZ (A B:cB) (k:Ks) (ρ:au):aG A B k ρ=A { k with nx:=B k } ρ:=nr rfl
theorem mj (f:FX) (k:Ks) (ρ:au):bC f k ρ=sg (f ρ) k ρ .ok:=nr rfl
theorem jT (k:Ks) (ρ:au):Jg k ρ=.ok .non:=nr rfl
theorem nI (c:au->R Bool) (A B:cB) (k:Ks) (ρ:au):jb c A B k ρ=sg (c ρ) k ρ fun b=>if b then A k ρ else B k ρ:=nr rfl
theorem mq (i:Nat) (f:FX) (k:Ks) (ρ:au):bW i f k ρ=sg (f ρ) k ρ fun d=>k.nx (setV i d ρ):=nr rfl
theorem ju (is:List Nat) (F:cB) (k:Ks) (ρ:au):fK is F k ρ=F k (kill is ρ):=nr rfl
theorem iG (G:au->R (List D)) (g:GF) (B:cB) (k:Ks) (ρ:au):kK G g B k ρ=sg (G ρ) k ρ fun ds=>kW g B k ds ρ:=nr rfl
theorem Bd (d:D) (x:Option S) (ρ:au):setV 0 d (x::ρ)=some (.val d)::ρ:=nr rfl
theorem AI (i:Nat) (d:D) (x:Option S) (ρ:au):setV (i+1) d (x::ρ)=x::setV i d ρ:=nr rfl
theorem pA (ρ:au):kill [] ρ=ρ:=nr rfl
theorem mC (i:Nat) (is:List Nat) (ρ:au):kill (i::is) ρ=kill is (ρ.set i none):=nr rfl
theorem kc (B:cB) (n:Nat) (a:D):aF B 1 n [a]=B K0 (env0 n [a]):=nr rfl
theorem fh (B:cB) (n:Nat) (a b:D):aF B 2 n [a,b]=B K0 (env0 n [a,b]):=nr rfl
theorem qG (B:cB) (n:Nat) (a b c:D):aF B 3 n [a,b,c]=B K0 (env0 n [a,b,c]):=nr rfl
theorem CI (B:cB) (n:Nat) (a b c d:D):aF B 4 n [a,b,c,d]=B K0 (env0 n [a,b,c,d]):=nr rfl
theorem C3 (B:cB) (n:Nat) (a b c d e:D):aF B 5 n [a,b,c,d,e]=B K0 (env0 n [a,b,c,d,e]):=nr rfl
theorem oB (ρ:au):inB [] ρ=[]:=nr rfl
theorem mE (ix:List (Option Nat)) (ρ:au):inB (none::ix) ρ=none::inB ix ρ:=nr rfl
def pick (ρ:au) (i:Nat):Option S:=match ρ[i]? with
 | some (some (.val d))=>some (.val d)
 | _=>none
theorem mL (i:Nat) (ix:List (Option Nat)) (ρ:au):inB (some i::ix) ρ=pick ρ i::inB ix ρ:=nr rfl
theorem Bf (d:D) (ρ:au):pick (some (.val d)::ρ) 0=some (.val d):=rfl
theorem AF (x:Option S) (ρ:au) (i:Nat):pick (x::ρ) (i+1)=pick ρ i:=by
 unfold pick; rw [N4]
theorem mi (i:Nat) (f:FX) (k:Ks) (ρ:au):n5 i f k ρ=sg (f ρ) k ρ fun d=>k.nx (ρ.set i (some (.own d))):=nr rfl
theorem mM (i:Nat) (F:cB) (k:Ks) (ρ:au):iq i F k ρ=F k (frz i ρ):=nr rfl
theorem Ab (d:D) (ρ:au):frz 0 (some (.own d)::ρ)=some (.val d)::ρ:=nr rfl
theorem tS (d:D) (ρ:au):frz 0 (some (.val d)::ρ)=some (.val d)::ρ:=nr rfl
theorem AO (i:Nat) (x:Option S) (ρ:au):frz (i+1) (x::ρ)=x::frz i ρ:=by
 unfold frz
 rw [N4]
 split <;> rename_i h
 ·rw [h]; rfl
 ·rfl
theorem lB (i:Nat) (u:List D->List D->Option (List D)) (f:au->R (List D)) (k:Ks) (ρ:au) {xs:List D} (h:ρ[i]?=some (some (.own (.lst xs)))):AH i u f k ρ=sg (f ρ) k ρ fun ds=>(rO (u xs ds)).bind fun ys=>k.nx (ρ.set i (some (.own (.lst ys)))):=by
 unfold AH; rw [h]
theorem lI {xs:List D} {y:D} (h:xs.length < 100000):gx xs [y]=some (xs++[y]):=by
 show (if small (xs.length+1) then some (xs++[y]) else none)=_
 rw [dZ ‹0›]; rfl
theorem ph (i j:Int):ce (.int i) (.int j)=some (.int (i+j)):=nr rfl
theorem oX (i j:Int):TG.x6 (.int i) (.int j)=some (.int (i - j)):=nr rfl
theorem tK (i j:Int):Mv (.int i) (.int j)=some (.bl (decide (i < j))):=nr rfl
theorem pI (i j:Int):su (.int i) (.int j)=some (.bl (decide (i < j))):=nr rfl
theorem o3 (x y:Str):su (.str x) (.str y)=some (.bl (decide (x.cps.toList < y.cps.toList))):=nr rfl
theorem oA (c d:Bool):Kq (.bl c) (.bl d)=some (.bl (c==d)):=nr rfl
theorem iL (c d:Bool):iz (.bl c) (.bl d)=some (.bl (!(c==d))):=nr rfl
theorem tu (i j:Int):Ml (.int i) (.int j)=some (.bl (decide (i<=j))):=nr rfl
theorem uk (i j:Int):Mo (.int i) (.int j)=some (.bl (decide (j < i))):=nr rfl
theorem sX (i j:Int):Mj (.int i) (.int j)=some (.bl (decide (j<=i))):=nr rfl
theorem o5 (i:Int):G0 (.int i)=some (.int (-i)):=nr rfl
theorem bK {i j:Int} (h:0 < j):cP (.int i) (.int j)=some (.int (i%j)):=by
 show (if decide (0 < j) then some (D.int (i%j)) else none)=_
 rw [decide_eq_true h]; rfl
theorem cc {i j:Int} (h:0 < j) (h':j < 10 ^ 200):dY (.int i) (.int j)=some (.int (i / j)):=by
 show (if decide (0 < j/\j < 10 ^ 200) then some (D.int (i / j)) else none)=_
 rw [decide_eq_true ⟨h,h'⟩]; rfl
theorem nN {i j:Int} (h:-(2 ^ 64) < i) (h':i < 2 ^ 64):jD (.int i) (.int j)=some (.int (i*j)):=by
 show (if decide ((-(2 ^ 64) < i/\i < 2 ^ 64)\/(-(2 ^ 64) < j/\j < 2 ^ 64)) then some (D.int (i*j)) else none)=_
 rw [decide_eq_true (.inl ⟨h,h'⟩)]; rfl
theorem je {i j:Int} (h:-(2 ^ 64) < j) (h':j < 2 ^ 64):jD (.int i) (.int j)=some (.int (i*j)):=by
 show (if decide ((-(2 ^ 64) < i/\i < 2 ^ 64)\/(-(2 ^ 64) < j/\j < 2 ^ 64)) then some (D.int (i*j)) else none)=_
 rw [decide_eq_true (.inr ⟨h,h'⟩)]; rfl
theorem yC (i:Int) (n:Nat) (h:n<=1000000) (h':i.natAbs < 2 ^ 64):qc (.int i) (.int n)=some (.int (i ^ n)):=by
 show (if decide (0<=(n:Int)/\(n:Int)<=1000000/\i.natAbs < 2 ^ 64) then some (D.int (i ^ (n:Int).toNat)) else none)=_
 rw [decide_eq_true ⟨by omega,by omega,h'⟩]; rfl
theorem BW:qc (.int 10) (.int 59)=some (.int (10 ^ 59)):=yC 10 59 (by decide) (by decide)
def E8:Int:=10 ^ 59
def Mp:Int:=10 ^ 60
theorem HL:1000000 < E8/\E8*10=Mp:=by decide +kernel
theorem Ga:qc (.int 10) (.int 59)=some (.int E8):=BW
theorem jW (i j:Int):kN (.int i) (.int j)=some (.bl (i==j)):=by unfold kN pyEq; rfl
theorem jM (i j:Str):kN (.str i) (.str j)=some (.bl (i==j)):=by unfold kN pyEq; rfl
theorem jJ (i j:Bool):kN (.bl i) (.bl j)=some (.bl (i==j)):=by unfold kN pyEq; rfl
theorem jx (i j:Int):Bu (.int i) (.int j)=some (.bl (!(i==j))):=by unfold Bu pyEq; rfl
theorem jP (i j:Str):Bu (.str i) (.str j)=some (.bl (!(i==j))):=by unfold Bu pyEq; rfl
theorem jU (i j:Bool):Bu (.bl i) (.bl j)=some (.bl (!(i==j))):=by unfold Bu pyEq; rfl
theorem Fy {α:Type} (xs:List α) (n:Nat):ox xs (n:Int)=xs[n]?:=by
 unfold ox FK
 rw [if_pos ‹0›]
 by_cases h:n < xs.length
 ·rw [if_pos ‹0›]; rfl
 ·rw [if_neg ‹0›,OC ‹0›]; rfl
theorem Ak {α:Type} (a:α) (xs:List α):ox (a::xs) 0=some a:=Fy (a::xs) 0
theorem zZ {α:Type} (a:α) (xs:List α) (n:Nat):ox (a::xs) ((n+1:Nat):Int)=ox xs (n:Int):=by
 rw [Fy,Fy,N4]
theorem G6 (xs:List D) (i:Int):aQ (.tup xs) (.int i)=ox xs i:=nr rfl
theorem KA (xs:List D) (i:Int):aQ (.lst xs) (.int i)=ox xs i:=nr rfl
theorem uw (a:D) (xs:List D):aQ (.tup (a::xs)) (.int 0)=some a:=Ak a xs
theorem tx (a b:D) (xs:List D):aQ (.tup (a::b::xs)) (.int 1)=some b:=(zZ a _ 0).trans (Ak b xs)
theorem tD (a b c:D) (xs:List D):aQ (.tup (a::b::c::xs)) (.int 2)=some c:=(zZ a _ 1).trans ((zZ b _ 0).trans (Ak c xs))
theorem tH (a:D) (xs:List D):aQ (.lst (a::xs)) (.int 0)=some a:=Ak a xs
theorem uq (a b:D) (xs:List D):aQ (.lst (a::b::xs)) (.int 1)=some b:=(zZ a _ 0).trans (Ak b xs)
theorem uh (a b c:D) (xs:List D):aQ (.lst (a::b::c::xs)) (.int 2)=some c:=(zZ a _ 1).trans ((zZ b _ 0).trans (Ak c xs))
theorem jA (xs:List D):jH [.lst xs]=some (.int xs.length):=nr rfl
theorem jN (xs:List D):jH [.tup xs]=some (.int xs.length):=nr rfl
theorem gJ (xs:List D):cH [.lst xs]=some (.tup xs):=nr rfl
theorem gK (xs:List D):cH [.tup xs]=some (.tup xs):=nr rfl
theorem o8 (b:Bool):Kb (.bl b)=some b:=nr rfl
theorem iK (i:Int):yf (.int i)=some (some i):=nr rfl
theorem gz (b:Bool):truth (.bl b)=some b:=nr rfl
theorem gu (xs:List D):truth (.tup xs)=some (!xs.isEmpty):=nr rfl
theorem gB (xs:List D):truth (.lst xs)=some (!xs.isEmpty):=nr rfl
theorem ky (i j:Int):qW [.int i,.int j]=some (.int (if j > i then j else i)):=nr rfl
theorem lx (i j:Int):vS [.int i,.int j]=some (.int (if j < i then j else i)):=nr rfl
theorem C2 (b:Bool):zv [.bl b]=some (.int (if b then 1 else 0)):=nr rfl
theorem gq (xs:List D):rh (.lst xs)=some xs:=nr rfl
theorem gA (xs:List D):rh (.tup xs)=some xs:=nr rfl
theorem jY (k:R D):yG (.bl true) k=k:=nr rfl
theorem jZ (k:R D):yG (.bl false) k=.ok (.bl false):=nr rfl
theorem ml (k:R D):Ja (.bl true) k=.ok (.bl true):=nr rfl
theorem mz (k:R D):Ja (.bl false) k=k:=nr rfl
theorem jG (a b:Bool):yG (.bl a) (.ok (.bl b))=.ok (.bl (a && b)):=by cases a <;> rfl
theorem mH (a b:Bool):Ja (.bl a) (.ok (.bl b))=.ok (.bl (a || b)):=by cases a <;> rfl
theorem oJ (b:Bool):Hl (.bl b)=some (.bl (!b)):=nr rfl
theorem pE (xs:List D):Hj (.lst xs)=some (.lst xs.reverse):=nr rfl
theorem iN (n:Nat) (h:n < 2 ^ 62):mB [.int n]=some (fw 0 n):=by
 show (if okR (n:Int) then some (fw 0 ((n:Int).toNat)) else none)=_
 have:okR (n:Int)=true:=decide_eq_true ⟨by omega,by omega⟩
 rw [this]; rfl
theorem Gc {xs:List D} (h:xs.length<=100000):ng xs=some (.lst xs):=by unfold ng; rw [dZ h]; rfl
theorem zK {α:Type} (f:α->D) (h:∀ a,pl (f a)=true):∀ xs:List α,p9 (xs.map f)=true
 | []=>rfl
 | x::xs=>by
  show (pl (f x) && p9 (xs.map f))=true
  rw [h,zK f h xs]; rfl
theorem Ed (f:Str->D) (hf:f=D.str) (w:Str) (ws:List Str):inD (.str w) (ws.map f)=ws.any fun y=>y==w:=by
 subst hf
 unfold inD
 rw [Ox]
 congr 1
theorem DG (w:Str) (ws:List Str):HI (.str w) (.tup (ws.map .str))=some (.bl (ws.contains w)):=by
 show (if (pl (.str w) && p9 (ws.map .str)) && gb 8 (.str w) then some (D.bl (inD (.str w) (ws.map .str))) else none)=_
 rw [Ed _ rfl,zK _ fun _=>rfl]
 show some (D.bl _)=_
 congr 2
 induction ws with
 | nil=>rfl
 | cons x xs ih=>rw [Nn,N9,ih,Bool.beq_comm]
theorem DV (w:Str) (ws:List Str):HI (.str w) (.lst (ws.map .str))=some (.bl (ws.contains w)):=DG w ws
theorem iX (xs ys:List D) (h:xs.length+ys.length<=100000):ce (.tup xs) (.tup ys)=some (.tup (xs++ys)):=by
 show (if small (xs.length+ys.length) then some (D.tup (xs++ys)) else none)=_
 rw [dZ h]; rfl
theorem mI (xs:List D) (lo hi:Option Int):rX (.lst xs) lo hi=some (.lst (cutD xs lo hi)):=nr rfl
theorem lW (xs:List D) (lo hi:Option Int):rX (.tup xs) lo hi=some (.tup (cutD xs lo hi)):=nr rfl
theorem iy {ix:List (Option Nat)} {G:au->R (List D)} {g:GF} {C:au->R Bool} {Fe:FX} {ρ:au} {ds r:List D} (h1:G ρ=.ok ds) (h2:ds.length<=100000) (h3:zx (inB ix ρ) g C Fe ds=.ok r):nG ix G g C Fe ρ=.ok (.lst r):=by
 unfold nG
 rw [h1,dD,dZ h2,h3]; rfl
theorem rY {α:Type} {ρ:au} {g:GF} {C:au->R Bool} {Fe:FX} (mk:α->D) (p:α->Bool) (v:α->D):∀ xs:List α,(∀ a∈xs,∃ ρ1,g (mk a) ρ=some ρ1/\C ρ1=.ok (p a)/\Fe ρ1=.ok (v a)) ->
  zx ρ g C Fe (xs.map mk)=.ok ((xs.filter p).map v)
 | [],_=>rfl
 | a::xs,h=>by
  obtain⟨ρ1,h1,h2,h3⟩:=h a MJ
  rw [MX,lH,h1,e9,dD,h2,ip,dD,h3,ip,dD,rY mk p v xs fun b hb=>h b (MK _ hb)]
  cases e:p a with
  | true=>rw [if_pos rfl,Oo e]; rfl
  | false=>rw [if_neg MU,Oq (by simp [e])]
theorem nO {α:Type} {ρ:au} {g:GF} {C:au->R Bool} {Fe:FX} (mk:α->D) (v:α->D) (xs:List α) (h:∀ a∈xs,∃ ρ1,g (mk a) ρ=some ρ1/\C ρ1=.ok true/\Fe ρ1=.ok (v a)):zx ρ g C Fe (xs.map mk)=.ok (xs.map v):=by
 rw [rY mk (fun _=>true) v xs h,List.filter_eq_self.mpr fun _ _=>rfl]
theorem zb {g:GF} {B:cB} {k:Ks} (Iv:Nat->au->Prop):∀ (ds:List D) (i:Nat) (ρ:au),(∀ j d ρ (k':Ks),i<=j->ds[j - i]?=some d->Iv j ρ->∃ ρ1 ρ2,g d ρ=some ρ1/\Iv (j+1) ρ2/\B k' ρ1=k'.nx ρ2)->Iv i ρ->∃ ρ',Iv (i+ds.length) ρ'/\kW g B k ds ρ=k.nx ρ'
 | [],i,ρ,_,h=>⟨ρ,h,rfl⟩
 | d::ds,i,ρ,st,h=>by
  obtain⟨ρ1,ρ2,e1,h2,e2⟩:=st i d ρ ⟨kW g B k ds,k.nx,kW g B k ds,k.ex⟩ (MP _) (by rw [Od]; rfl) h
  obtain⟨ρ',h3,e3⟩:=zb (g:=g) (B:=B) (k:=k) Iv ds (i+1) ρ2 (fun j d' ρ k' hj hd=>st j d' ρ k' ‹0› (by rw [show j - i=(j - (i+1))+1 by omega,N4]; exact hd)) h2
  refine⟨ρ',?_,?_⟩
  ·rw [MV]
   have:i+(ds.length+1)=i+1+ds.length:=by omega
   rw [this]; exact h3
  ·show ((rO (g d ρ)).bind fun ρ1=>B ⟨kW g B k ds,k.nx,kW g B k ds,k.ex⟩ ρ1)=_
   rw [e1,e9,dD,e2]
   exact e3
theorem dS {g:GF} {B:cB} {k:Ks} {ds:List D} {ρ:au} {Q:R D->Prop} (Iv:Nat->au->Prop) (st:∀ i d ρ (k':Ks),ds[i]?=some d->Iv i ρ->∃ ρ1 ρ2,g d ρ=some ρ1/\Iv (i+1) ρ2/\B k' ρ1=k'.nx ρ2) (h:Iv 0 ρ) (q:∀ ρ',Iv ds.length ρ'->Q (k.nx ρ')):Q (kW g B k ds ρ):=by
 obtain⟨ρ',h1,e⟩:=zb (k:=k) Iv ds 0 ρ (fun j d ρ k' _ hd=>st j d ρ k' hd) h
 rw [e]; rw [OD] at h1; exact q ρ' h1
theorem cO {α:Type} {xs:List α} {i:Nat} {a:α} (h:xs[i]?=some a):i < xs.length:=by
 rcases Nat.lt_or_ge i xs.length with z | z
 ·exact z
 ·rw [OC z] at h; cases h
theorem uW {α β:Type} (f:α->β) (xs:List α) (i:Int):ox (xs.map f) i=(ox xs i).map f:=by
 unfold ox
 rw [MY]
 cases FK xs.length i with
 | none=>rfl
 | some j=>simp
theorem nQ {α:Type} {xs:List α} {k:Nat} (h:k < xs.length):ox xs (k:Int)=some xs[k]:=by
 unfold ox FK
 rw [if_pos ‹0›,if_pos ‹0›]
 simp [h]
theorem qp {α:Type} {xs:List α} {i:Int} (h0:0<=i) (h:i < xs.length):ox xs i=some (xs[i.toNat]'‹0›):=by
 have e:i=((i.toNat:Nat):Int):=by omega
 conv=>lhs; rw [e]
 exact nQ ‹0›
def Fo:cB:=aG (jb (fB (f2 su (ah 1) (fL jH (af (ah 0) (aq))))) (bC (f2 aQ (ah 0) (ah 1))) (cz)) (bC (fC (.int 0)))
theorem Ej (ns:List Int) (k:Nat):aF Fo 2 2 [.lst (ns.map .int),.int k]=.ok (.int (ns.getD k 0)):=by
 show (if decide ((k:Int) < ((ns.map D.int).length:Int)) then sg (rO (ox (ns.map D.int) (k:Int))) _ _ .ok else .ok (.int 0))=_
 rw [MY]
 by_cases h:k < ns.length
 ·rw [if_pos (by simpa using h),uW,nQ h,Option.map_some,Ov,NE h]; rfl
 ·rw [if_neg (by simpa using h),Ov,OC ‹0›]; rfl
theorem CM (ns:List Int) (i:Int) (h:0<=i):∃ c:Int,aF Fo 2 2 [.lst (ns.map .int),.int i]=.ok (.int c):=by
 have e:i=((i.toNat:Nat):Int):=by omega
 exact⟨ns.getD i.toNat 0,by rw [e]; exact Ej ns i.toNat⟩
theorem qm (x y:Str):(x++y).length=x.length+y.length:=by
 show (x.cps++y.cps).size=_
 rw [Array.size_append]; rfl
theorem iV (x y:Str) (h:x.length<=1000) (h':y.length<=1000):ce (.str x) (.str y)=some (.str (x++y)):=by
 show (if small (x.length+y.length) then some (D.str (x++y)) else none)=_
 rw [dZ ‹0›]; rfl
theorem n6 (x:Str) (h:x.length<=1000) (i:Int) (h0:0<=i) (h1:i < x.length):∃ y:Str,y.length=1/\aQ (.str x) (.int i)=some (.str y):=by
 have hl:x.cps.toList.length=x.length:=by simp [Str.length]
 have hi:i < x.cps.toList.length:=by omega
 refine⟨⟨#[x.cps.toList[i.toNat]'‹0›]⟩,rfl,?_⟩
 show (if small x.length then (ox x.cps.toList i).bind fun c=>some (D.str ⟨#[c]⟩) else none)=_
 rw [dZ ‹0›,if_pos rfl,qp h0 hi]; rfl
theorem jv (lo:Int) (n:Nat):fw lo n=(List.range n).map fun (k:Nat)=>D.int (lo+(k:Int)):=nr rfl
theorem cG (lo:Int) (n:Nat):(fw lo n).length=n:=by unfold fw; rw [MY,NT]
theorem str_int (i:Int) (h:i.natAbs < 10 ^ 70):∃ x:Str,yi [.int i]=some (.str x):=by
 refine⟨toString i,?_⟩
 show (if decide (i.natAbs.log2 < 1920) then some (D.str (toString i)) else none)=_
 have e:i.natAbs.log2 < 1920:=by
  by_cases z:i.natAbs=0
  ·rw [z]; decide
  ·rw [Nat.log2_lt z]
   exact Nq h (by decide +kernel)
 rw [decide_eq_true e]; rfl
theorem jo {α:Type} (xs:List α) (m:Nat):cutD xs none (some (m:Int))=xs.take m:=by
 unfold cutD
 rw [HT.Jk,HT.JG,NB,NV]
 rcases Nat.le_total m xs.length with h | h
 ·rw [OG h]
 ·rw [Nat.min_eq_right h,OH h,OH (MP _)]
theorem iY {α:Type} (xs:List α) (m:Nat):cutD xs (some (m:Int)) none=xs.drop m:=by
 unfold cutD
 rw [HT.Jk,HT.JG]
 rcases Nat.le_total m xs.length with h | h
 ·rw [OG h]
  exact OH (by rw [Nf]; exact MP _)
 ·rw [Nat.min_eq_right h,Od,Ny,List.drop_eq_nil_of_le h]
theorem uS (ρ:au):uB ρ=.ok (.dct [] []):=nr rfl
theorem nS (q:List Key):jE (.tup (q.map bv))=some q:=cM q
theorem zE {i:Nat} {fk fv:FX} {k:Ks} {ρ:au} {al:List (List Key×D)} {q:List Key} {v:D} (h:ρ[i]?=some (some (.own (dH al)))) (ek:fk ρ=.ok (.tup (q.map bv))) (ev:fv ρ=.ok v) (hl:al.length<=100000):rA i fk fv k ρ=k.nx (ρ.set i (some (.own (dH (gg al q v))))):=by
 have e:ud (encK al) (al.map (·.2)) (.tup (q.map bv)) v=some (gg al q v):=by
  unfold ud
  rw [jQ]
  show (jE (.tup (q.map bv))).bind _=_
  rw [nS]
  show (if small al.length then _ else _)=_
  rw [dZ hl]; rfl
 unfold rA
 rw [h]
 show sg ((fv ρ).bind fun v=>(fk ρ).bind fun q=>rO (ud (encK al) (al.map (·.2)) q v)) k ρ _=_
 rw [ev,dD,ek,dD,e]; rfl
theorem yR:∀ {σ τ:List Bool} {a b:List D},Sh σ a->Sh τ b->Sh (σ++τ) (a++b)
 | _,_,_,_,.nil,h=>h
 | _,_,_,_,.int i h,h'=>.int i (yR h h')
 | _,_,_,_,.str i h,h'=>.str i (yR h h')
end TG
namespace TG
open PySem PySem.Spec L2
local macro_rules
 | `(tactic| simp! only [$xs,*])=>`(tactic| simp only [dD,tM,pW,tB,ip,e9,ge_0,AC,o9,Bg,pC,mr,pB,o0,zT,AR,Av,AX,Ao,oH,oG,sZ,jL,my,oS,mO,tI,pF,oM,lZ,oF,jR,oR,jX,jF,iJ,iM,o6,lY,iI,mK,jC,mh,mP,gZ,mj,jT,nI,mq,ju,iG,mi,mM,Ab,tS,AO,Bd,AI,pA,mC,oB,mE,mL,Bf,AF,OI,OJ,MX,Nk,Nx,NN,K0,env0,List.replicate,Oe,M1,OD,Nat.reduceAdd,Nat.reduceSub,MV,Np,ph,oX,tK,pI,o3,oA,iL,pf,tu,uk,sX,o5,jW,jM,jJ,jx,jP,jU,uw,tx,tD,tH,uq,uh,jA,jN,gJ,gK,o8,iK,gz,gu,gB,ky,lx,gq,gA,jY,jZ,ml,mz,jG,mH,oJ,pE,mI,lW,gN,if_true,if_false,OL,OM,Nv,$xs,*])
theorem EY (a b c:D):t9 [a,b,c]=some (.tup [a,b,c]):=nr rfl
theorem Do (a b:D):t9 [a,b]=some (.tup [a,b]):=nr rfl
theorem Ht (a:D):t9 [a]=some (.tup [a]):=nr rfl
theorem Ma:t9 []=some (.tup []):=nr rfl
theorem G4:ng []=some (.lst []):=nr rfl
def Dh:cB:=bC (fL cH (af (nG [none] (cA (f2 ce (f2 aQ (ah 0) (fC (.int 0))) (f2 aQ (ah 0) (fC (.int 1))))) (gN 0) (eS) (f2 aQ (ah 0) (fC (.int 1)))) (aq)))
theorem kinds_ok (kf rf:List D) (ps:List (Str×D)) (hl:kf.length+rf.length<=100) (e:kf++rf=ps.map (fun p=>.tup [.str p.1,p.2])):aF Dh 1 1 [.tup [.tup kf,.tup rf]]=.ok (.tup (ps.map (·.2))):=by
 have hl':ps.length<=100:=by have:=congrArg List.length e; rw [Nb,MY] at this; omega
 have f0:nG [none] (cA (f2 ce (f2 aQ (ah 0) (fC (.int 0))) (f2 aQ (ah 0) (fC (.int 1))))) (gN 0) (eS) (f2 aQ (ah 0) (fC (.int 1))) [some (.val (.tup [.tup kf,.tup rf]))]=.ok (.lst (ps.map (·.2))):=by
  refine iy (ds:=ps.map (fun p=>.tup [.str p.1,p.2])) ?_ (by rw [MY]; omega) ?_
  ·simp! only []
   rw [iX _ _ ‹0›,e]
   simp! only []
  ·refine nO _ _ ps fun p _=>⟨_,rfl,rfl,?_⟩
   simp! only []
 rw [kc]; unfold Dh
 simp! only [f0]
end TG
namespace TG
open PySem PySem.Spec L2
def HW (m:Nat) (rows:List (List D)):Prop:=rows.Pairwise fun r s=>eB (r.take m) (s.take m)=some true
inductive F2 {α β:Type} (R:α->β->Prop):List α->List β->Prop where
 | nil:F2 R [] []
 | cons {a:α} {b:β} {as:List α} {bs:List β} (h:R a b) (t:F2 R as bs):F2 R (a::as) (b::bs)
theorem B4 {ρ:au} {g:GF} {C:au->R Bool} {Fe:FX}:∀ (ds:List D) (P:Nat->D->Prop),(∀ i d,ds[i]?=some d->∃ ρ1 v,g d ρ=some ρ1/\C ρ1=.ok true/\Fe ρ1=.ok v/\P i v)->∃ vs:List D,vs.length=ds.length/\(∀ i v,vs[i]?=some v->P i v)/\zx ρ g C Fe ds=.ok vs
 | [],_,_=>⟨[],rfl,(fun _ _ h=>nomatch h),rfl⟩
 | d::ds,P,h=>by
  obtain⟨ρ1,w,h1,h2,h3,h4⟩:=h 0 d rfl
  obtain⟨ws,e1,e2,e3⟩:=B4 (ρ:=ρ) (g:=g) (C:=C) (Fe:=Fe) ds (fun i v=>P (i+1) v) fun i d' hd=>h (i+1) d' (by rw [N4]; exact hd)
  refine⟨w::ws,by rw [MV,MV,e1],fun i v hv=>?_,?_⟩
  ·cases i with
   | zero=>cases hv; exact h4
   | succ i=>rw [N4] at hv; exact e2 i v hv
  ·rw [lH,h1,e9,dD,h2,ip,dD,h3,ip,dD,e3]; rfl
theorem uF:∀ {σ:List Bool} {a b:List D},Sh σ a->Sh σ b->(hU a b=true↔a=b)
 | _,_,_,.nil,.nil=>by unfold hU; simp
 | _,_,_,.int i h,.int j h'=>by
  unfold hU pyEq
  rw [Ng,uF h h']
  simp
 | _,_,_,.str i h,.str j h'=>by
  unfold hU pyEq
  rw [Ng,uF h h']
  simp
theorem zu:∀ {σ:List Bool} {a:List D},Sh σ a->p9 a=true
 | _,_,.nil=>rfl
 | _,_,.int i h=>by
  show (pl (.int i) && p9 _)=true
  rw [zu h]; rfl
 | _,_,.str i h=>by
  show (pl (.str i) && p9 _)=true
  rw [zu h]; rfl
theorem yT:∀ {σ:List Bool} {a:List D} (n:Nat),Sh σ a->a.all (gb (n+1))=true
 | _,_,_,.nil=>rfl
 | _,_,n,.int i h=>by rw [ND,yT n h]; rfl
 | _,_,n,.str i h=>by rw [ND,yT n h]; rfl
end TG
namespace TD
open PySem PySem.Spec L2 TG TX
def bz:cB:=aG (jb (fB (f2 su (ah 1) (fL jH (af (ah 0) (aq))))) (bC (f2 aQ (ah 0) (ah 1))) (cz)) (bC (fC (.int 0)))
def dM:cB:=bC (fL cH (af (nG [none] (cA (f2 ce (f2 aQ (ah 0) (fC (.int 0))) (f2 aQ (ah 0) (fC (.int 1))))) (gN 0) (eS) (f2 aQ (ah 0) (fC (.int 1)))) (aq)))
def jt:cB:=bC (JO (bX (nE "str" (ah 0))) (f2 ce (fC (.str ".")) (ah 0)) (fL yi (af (ah 0) (aq))))
def aW:cB:=bC (f2 cP (f2 ce (f2 ce (f2 jD (ah 0) (ah 0)) (f2 jD (fC (.int 48271)) (ah 0))) (fC (.int 11))) (fC (.int 2147483647)))
def cN:cB:=aG (bW 2 (f2 cP (f2 ce (f2 ce (f2 cP (fR (aF bz 2 2) (af (ah 0) (af (ah 1) (aq)))) (fC (.int 2147483647))) (f2 jD (f2 jD (fC (.int 69621)) (ah 1)) (ah 1))) (fC (.int 5))) (fC (.int 2147483647)))) (bC (fR (aF aW 1 1) (af (fR (aF aW 1 1) (af (ah 2) (aq))) (aq))))
def bD:cB:=aG (bW 2 (fC (.str "abcdefghijklmnopqrstuvwxyz"))) (aG (bW 1 (f2 cP (f2 ce (f2 jD (ah 1) (f2 aQ (ki (af (fC (.int 1)) (af (fC (.int 5)) (af (fC (.int 7)) (af (fC (.int 11)) (af (fC (.int 13)) (af (fC (.int 23)) (aq)))))))) (f2 cP (ah 0) (fC (.int 6))))) (f2 dY (ah 0) (fC (.int 6)))) (fC (.int 24)))) (aG (bW 0 (f2 dY (ah 0) (fC (.int 144)))) (aG (jb (fB (f2 kN (f2 cP (ah 0) (fC (.int 3))) (fC (.int 0)))) (bC (f2 vL (f2 aQ (ah 2) (f2 cP (f2 ce (f2 dY (ah 0) (fC (.int 3))) (f2 dY (ah 1) (fC (.int 8)))) (fC (.int 26)))) (f2 ce (fC (.int 1)) (f2 cP (ah 1) (fC (.int 8)))))) (cz)) (aG (bW 3 (f2 ce (fC (.int 1)) (f2 cP (f2 dY (ah 0) (fC (.int 3))) (fC (.int 8))))) (aG (bW 4 (fC (.str ""))) (aG (kK (gX (af (ah 3) (aq))) (gN 5) (aG (bW 6 (f2 dY (ah 0) (f2 ce (fC (.int 24)) (f2 jD (f2 jD (fC (.int 11)) (ah 5)) (ah 5))))) (aG (jb (fB (f2 kN (ah 5) (f2 cP (f2 dY (ah 0) (fC (.int 24))) (ah 3)))) (bW 6 (f2 ce (ah 6) (ah 1))) (cz)) (aG (bW 4 (f2 ce (ah 4) (f2 aQ (ah 2) (f2 cP (ah 6) (fC (.int 26)))))) (fK [5,6] cz))))) (bC (ah 4))))))))
noncomputable def dh:cB:=aG (jb (fB (f2 su (f2 cP (ah 0) (fC (.int 3))) (fC (.int 2)))) (aG (bW 1 (f2 aQ (ki (af (fC (.int 0)) (af (EQ (fC (.int 3))) (af (f2 x6 (fC (.int 0)) (f2 cP (f2 qc (ah 0) (fC (.int 7))) (f2 qc (fC (.int 10)) (fC (.int 59))))) (af (f2 cP (f2 qc (ah 0) (fC (.int 7))) (f2 qc (fC (.int 10)) (fC (.int 59)))) (aq)))))) (f2 cP (f2 dY (ah 0) (fC (.int 3))) (fC (.int 4))))) (bC (bH (af (fC (.str "number")) (af (ah 1) (af (f2 ce (ah 1) (f2 aQ (ki (af (fC (.int 0)) (af (fC (.int 1)) (af (fC (.int 6)) (af (f2 qc (fC (.int 10)) (fC (.int 59))) (aq)))))) (f2 cP (f2 dY (ah 0) (fC (.int 12))) (fC (.int 4))))) (aq))))))) (cz)) (aG (bW 2 (fC (.str "abcdefghijklmnopqrstuvwxyz"))) (aG (bW 3 (f2 aQ (ah 2) (f2 cP (f2 dY (ah 0) (fC (.int 3))) (fC (.int 26))))) (aG (bW 4 (f2 aQ (ah 2) (f2 cP (f2 dY (ah 0) (fC (.int 78))) (fC (.int 26))))) (aG (bW 5 (ki (af (fC (.str "")) (af (ah 3) (af (ah 4) (af (f2 ce (ah 3) (ah 4)) (af (f2 ce (ah 4) (ah 3)) (af (f2 vL (ah 3) (fC (.int 8))) (af (f2 ce (ah 3) (ah 3)) (af (f2 vL (ah 4) (fC (.int 3))) (aq))))))))))) (aG (n5 6 uB) (fK [1,2,4] (aG (kK (gX (af (fC (.int 8)) (aq))) (gN 7) (aG (jb (fB (f2 kN (f2 yW (f2 DK (f2 dY (ah 0) (fC (.int 2028))) (ah 7)) (fC (.int 1))) (fC (.int 1)))) (nV 6 (f2 aQ (ah 5) (ah 7)) (fC (.bl true))) (cz)) (fK [7] cz))) (aG (jb (lm [6] (fB (f2 kN (fL tT (af (ah 6) (aq))) (fC (.int 0))))) (nV 6 (ah 3) (fC (.bl true))) (cz)) (iq 6 (bC (bH (af (fC (.str "word")) (af (fL cH (af (fL e7 (af (fL oU (af (ah 6) (aq))) (aq))) (aq))) (aq))))))))))))))
end TD
namespace TD
open PySem PySem.Spec L2 TG
local macro_rules
 | `(tactic| simp! only [$xs,*])=>`(tactic| simp only [dD,tM,pW,tB,ip,e9,ge_0,AC,o9,Bg,pC,mr,pB,o0,zT,AR,Av,AX,Ao,oH,oG,sZ,jL,my,oS,mO,tI,pF,oM,lZ,oF,jR,oR,jX,jF,iJ,iM,o6,lY,iI,mK,jC,mh,mP,gZ,mj,jT,nI,mq,ju,iG,mi,mM,Ab,tS,AO,Bd,AI,pA,mC,oB,mE,mL,Bf,AF,OI,OJ,MX,Nk,Nx,NN,K0,env0,List.replicate,Oe,M1,OD,Nat.reduceAdd,Nat.reduceSub,MV,Np,ph,oX,tK,pI,o3,oA,iL,pf,tu,uk,sX,o5,jW,jM,jJ,jx,jP,jU,uw,tx,tD,tH,uq,uh,jA,jN,gJ,gK,o8,iK,gz,gu,gB,ky,lx,gq,gA,jY,jZ,ml,mz,jG,mH,oJ,pE,mI,lW,gN,if_true,if_false,OL,OM,Nv,$xs,*])
theorem JD (ns:List Int) (i:Int) (h:0<=i):∃ c:Int,aF bz 2 2 [.lst (ns.map .int),.int i]=.ok (.int c):=CM ns i h
theorem tJ (xs ys:List D):Al [.tup xs,.tup ys]=some (ot xs ys):=nr rfl
end TD
namespace TD
open PySem PySem.Spec L2 TG
local macro_rules
 | `(tactic| simp! only [$xs,*])=>`(tactic| simp only [dD,tM,pW,tB,ip,e9,ge_0,AC,o9,Bg,pC,mr,pB,o0,zT,AR,Av,AX,Ao,oH,oG,sZ,jL,my,oS,mO,tI,pF,oM,lZ,oF,jR,oR,jX,jF,iJ,iM,o6,lY,iI,mK,jC,mh,mP,gZ,mj,jT,nI,mq,ju,iG,mi,mM,Ab,tS,AO,Bd,AI,pA,mC,oB,mE,mL,Bf,AF,OI,OJ,MX,Nk,Nx,NN,K0,env0,List.replicate,Oe,M1,OD,Nat.reduceAdd,Nat.reduceSub,MV,Np,ph,oX,tK,pI,o3,oA,iL,pf,tu,uk,sX,o5,jW,jM,jJ,jx,jP,jU,uw,tx,tD,tH,uq,uh,jA,jN,gJ,gK,o8,iK,gz,gu,gB,ky,lx,gq,gA,jY,jZ,ml,mz,jG,mH,oJ,pE,mI,lW,gN,if_true,if_false,OL,OM,Nv,$xs,*])
abbrev fld (p:Str×D):D:=.tup [.str p.1,p.2]
end TD
namespace T4
open PySem PySem.Spec L2 TG TD
local macro_rules
 | `(tactic| simp! only [$xs,*])=>`(tactic| simp only [dD,tM,pW,tB,ip,e9,ge_0,AC,o9,Bg,pC,mr,pB,o0,zT,AR,Av,AX,Ao,oH,oG,sZ,jL,my,oS,mO,tI,pF,oM,lZ,oF,jR,oR,jX,jF,iJ,iM,o6,lY,iI,mK,jC,mh,mP,gZ,mj,jT,nI,mq,ju,iG,mi,mM,Ab,tS,AO,Bd,AI,pA,mC,oB,mE,mL,Bf,AF,OI,OJ,MX,Nk,Nx,NN,K0,env0,List.replicate,Oe,M1,OD,Nat.reduceAdd,Nat.reduceSub,MV,Np,ph,oX,tK,pI,o3,oA,iL,pf,tu,uk,sX,o5,jW,jM,jJ,jx,jP,jU,uw,tx,tD,tH,uq,uh,jA,jN,gJ,gK,o8,iK,gz,gu,gB,ky,lx,gq,gA,jY,jZ,ml,mz,jG,mH,oJ,pE,mI,lW,gN,if_true,if_false,OL,OM,Nv,$xs,*])
theorem Ez {x:Str} {n:Int} (h:1<=n) (h':n<=1000) (hx:x.length<=1000):vL (.str x) (.int n)=some (.str (j9 x n)):=by
 show (if decide (1<=n/\n<=1000/\x.length<=1000) then some (D.str (j9 x n)) else none)=_
 rw [decide_eq_true ⟨h,h',hx⟩]; rfl
theorem gR (x:Int) (h0:0<=x) (h1:x < 2147483700):∃ y:Int,0<=y/\y < 2147483647/\aF aW 1 1 [.int x]=.ok (.int y):=by
 have m1:=nN (i:=x) (j:=x) ‹0› ‹0›
 have m2:=nN (i:=48271) (j:=x) (by decide) (by decide)
 have g:=fun i=>bK (i:=i) (show (0:Int) < 2147483647 by decide)
 refine⟨(x*x+48271*x+11)%2147483647,OO _ (by decide),OQ _ (by decide),?_⟩
 rw [kc]; unfold aW
 simp! only [m1,m2,g]
theorem vp (ns:List Int) (k:Nat) (hk:k<=100):∃ y:Int,0<=y/\y < 2147483647/\aF cN 2 3 [.lst (ns.map .int),.int k]=.ok (.int y):=by
 obtain⟨c,ec⟩:=TD.JD ns k ‹0›
 have m1:=nN (i:=69621) (j:=(k:Int)) (by decide) (by decide)
 have m2:=je (i:=69621*(k:Int)) (j:=(k:Int)) ‹0› ‹0›
 have g:=fun i=>bK (i:=i) (show (0:Int) < 2147483647 by decide)
 obtain⟨y1,a1,b1,e1⟩:=gR ((c%2147483647+69621*(k:Int)*(k:Int)+5)%2147483647) (OO _ (by decide)) (by have:=OQ (c%2147483647+69621*(k:Int)*(k:Int)+5) (show (0:Int) < 2147483647 by decide); omega)
 obtain⟨y2,a2,b2,e2⟩:=gR y1 a1 ‹0›
 refine⟨y2,a2,b2,?_⟩
 rw [fh]; unfold cN
 simp! only [ec,g,m1,m2,e1,e2]
theorem Eo (b k:Int) (hb:0<=b) (hk:0<=k):∃ w:Str,aF bD 2 7 [.int b,.int k]=.ok (.str w):=by
 have LL:(("abcdefghijklmnopqrstuvwxyz":Str)).length=26:=by decide +kernel
 generalize hL:("abcdefghijklmnopqrstuvwxyz":Str)=L at LL
 have g3:=fun i=>bK (i:=i) (show (0:Int) < 3 by decide)
 have g6:=fun i=>bK (i:=i) (show (0:Int) < 6 by decide)
 have g8:=fun i=>bK (i:=i) (show (0:Int) < 8 by decide)
 have g24:=fun i=>bK (i:=i) (show (0:Int) < 24 by decide)
 have g26:=fun i=>bK (i:=i) (show (0:Int) < 26 by decide)
 have d3:=fun i=>cc (i:=i) (show (0:Int) < 3 by decide) (show (3:Int) < 10 ^ 200 by decide)
 have d6:=fun i=>cc (i:=i) (show (0:Int) < 6 by decide) (show (6:Int) < 10 ^ 200 by decide)
 have d8:=fun i=>cc (i:=i) (show (0:Int) < 8 by decide) (show (8:Int) < 10 ^ 200 by decide)
 have d24:=fun i=>cc (i:=i) (show (0:Int) < 24 by decide) (show (24:Int) < 10 ^ 200 by decide)
 have d144:=fun i=>cc (i:=i) (show (0:Int) < 144 by decide) (show (144:Int) < 10 ^ 200 by decide)
 obtain⟨st,hst,est⟩:∃ st:Int,(0<=st/\st<=25)/\aQ (.lst [.int 1,.int 5,.int 7,.int 11,.int 13,.int 23]) (.int (b%6))=some (.int st):=by
  rcases(show b%6=0\/b%6=1\/b%6=2\/b%6=3\/b%6=4\/b%6=5 by omega) with z | z | z | z | z | z <;> rw [z]
  ·exact⟨1,by decide,rfl⟩
  ·exact⟨5,by decide,rfl⟩
  ·exact⟨7,by decide,rfl⟩
  ·exact⟨11,by decide,rfl⟩
  ·exact⟨13,by decide,rfl⟩
  ·exact⟨23,by decide,rfl⟩
 have l6:∀ a b c d e f:D,ng [a,b,c,d,e,f]=some (.lst [a,b,c,d,e,f]):=fun _ _ _ _ _ _=>rfl
 have ms:=je (i:=k) (j:=st) ‹0› ‹0›
 generalize hk':(k*st+b / 6)%24=k'
 have k1:0<=k'/\k' < 24:=by omega
 generalize hb':b / 144=b'
 have b0:0<=b':=by omega
 rw [fh]; unfold bD
 by_cases h:b'%3=0
 ·have h':(b'%3==0)=true:=by simp [h]
  obtain⟨y,hy,e1⟩:=n6 L ‹0› ((b' / 3+k' / 8)%26) ‹0› ‹0›
  have mu:=Ez (x:=y) (n:=1+k'%8) ‹0› ‹0› ‹0›
  refine⟨j9 y (1+k'%8),?_⟩
  simp! only [hL,g6,l6,est,ms,d6,g24,hk',d144,hb',g3,h',d3,d8,g26,e1,g8,mu]
 ·have h':(b'%3==0)=false:=by simp [h]
  obtain⟨n,hn,hn1,hn2⟩:∃ n:Nat,1+b' / 3%8=(n:Int)/\1<=n/\n<=8:=⟨(1+b' / 3%8).toNat,by omega,by omega,by omega⟩
  have rn:=iN n ‹0›
  obtain⟨T,hT⟩:∃ T:cB,T=(aG (kK (gX (af (ah 3) (aq))) (gN 5) (aG (bW 6 (f2 dY (ah 0) (f2 ce (fC (.int 24)) (f2 jD (f2 jD (fC (.int 11)) (ah 5)) (ah 5))))) (aG (jb (fB (f2 kN (ah 5) (f2 cP (f2 dY (ah 0) (fC (.int 24))) (ah 3)))) (bW 6 (f2 ce (ah 6) (ah 1))) (cz)) (aG (bW 4 (f2 ce (ah 4) (f2 aQ (ah 2) (f2 cP (ah 6) (fC (.int 26)))))) (fK [5,6] cz))))) (bC (ah 4))):=⟨_,rfl⟩
  have key:∃ w:Str,T K0 [some (.val (.int b')),some (.val (.int k')),some (.val (.str L)),some (.val (.int n)),some (.val (.str "")),none,none]=.ok (.str w):=by
   rw [hT,gZ,iG]
   simp! only [rn]
   refine dS (Q:=fun z=>∃ w:Str,z=.ok (.str w)) (fun i ρ=>∃ w:Str,w.length<=i/\ρ=[some (.val (.int b')),some (.val (.int k')),some (.val (.str L)),some (.val (.int n)),some (.val (.str w)),none,none]) ?_ ?_ ?_
   ·rintro i d ρ kk hd ⟨w,hw,rfl⟩
    have hi:=cO hd
    rw [cG] at hi
    have hdi:d=.int (i:Int):=by
     rw [jv,M8,NW hi] at hd
     cases hd; simp
    subst hdi
    have m1:=nN (i:=11) (j:=(i:Int)) (by decide) (by decide)
    have m2:=je (i:=11*(i:Int)) (j:=(i:Int)) ‹0› ‹0›
    have ii:0<=11*(i:Int)*(i:Int):=Int.mul_nonneg ‹0› ‹0›
    have ii2:11*(i:Int)*(i:Int)<=11*8*8:=Int.mul_le_mul ‹0› ‹0› ‹0› (by decide)
    have dd:=fun z=>cc (i:=z) (show (0:Int) < 24+11*(i:Int)*(i:Int) by omega) (show 24+11*(i:Int)*(i:Int) < 10 ^ 200 by
     have:(10:Int) ^ 200 > 10000:=by decide +kernel
     omega)
    have gn:=fun z=>bK (i:=z) (show (0:Int) < (n:Int) by omega)
    generalize hs:b' / (24+11*(i:Int)*(i:Int))=s
    by_cases hq:((i:Int)==b' / 24%(n:Int))=true
    ·obtain⟨y,hy,e1⟩:=n6 L ‹0› ((s+k')%26) ‹0› ‹0›
     have ad:=iV w y ‹0› ‹0›
     refine⟨_,_,rfl,⟨w++y,by rw [qm]; omega,rfl⟩,?_⟩
     simp! only [m1,m2,dd,hs,d24,gn,hq,g26,e1,ad]
    ·have hq':((i:Int)==b' / 24%(n:Int))=false:=by simpa using hq
     obtain⟨y,hy,e1⟩:=n6 L ‹0› (s%26) ‹0› ‹0›
     have ad:=iV w y ‹0› ‹0›
     refine⟨_,_,rfl,⟨w++y,by rw [qm]; omega,rfl⟩,?_⟩
     simp! only [m1,m2,dd,hs,d24,gn,hq',g26,e1,ad]
   ·exact⟨"",by decide +kernel,rfl⟩
   ·rintro ρ' ⟨w,hw,rfl⟩
    exact⟨w,by simp! only []⟩
  obtain⟨w,ew⟩:=key
  refine⟨w,?_⟩
  rw [<- hT]
  simp only [K0] at ew
  simp! only [hL,g6,l6,est,ms,d6,g24,hk',d144,hb',g3,h',d3,g8,hn,ew]
theorem zj {i:Nat} {fk fv:FX} {k:Ks} {ρ:au} {al:List (Key×D)} {q:Key} {d v:D} (h:ρ[i]?=some (some (.own (xD al)))) (ek:fk ρ=.ok d) (hd:d=bv q) (ev:fv ρ=.ok v) (hl:al.length<=1000) :
  nV i fk fv k ρ=k.nx (ρ.set i (some (.own (xD (p8 al q v))))):=by
 subst hd
 have e:tE (hX al) (al.map (·.2)) (bv q) v=some (p8 al q v):=by
  unfold tE
  rw [sY]
  show (keyOf (bv q)).bind _=_
  rw [kJ]
  show (if small al.length then _ else _)=_
  rw [dZ ‹0›]; rfl
 unfold nV
 rw [h]
 show sg ((fv ρ).bind fun v=>(fk ρ).bind fun q=>rO (tE (hX al) (al.map (·.2)) q v)) k ρ _=_
 rw [ev,dD,ek,dD,e]; rfl
abbrev Ba (ws:List Str):List (Key×D):=ws.map fun w=>((.inr w:Key),D.bl true)
abbrev wd (ws:List Str):D:=xD (Ba ws)
def sN (ws:List Str) (w:Str):List Str:=if w∈ws then ws else ws++[w]
theorem C7 (ws:List Str) (w:Str):p8 (Ba ws) (.inr w) (.bl true)=Ba (sN ws w):=by
 have e:((Ba ws).any fun p=>decide (p.1=(.inr w:Key)))=decide (w∈ws):=by
  induction ws with
  | nil=>simp
  | cons a ws ih =>
   show (decide ((.inr a:Key)=.inr w) || (Ba ws).any fun p=>decide (p.1=(.inr w:Key)))=_
   rw [ih]
   by_cases z:a=w
   ·subst z; simp
   ·have z':¬ (.inr a:Key)=.inr w:=fun q=>z (Sum.inr.inj q)
    have z2:¬ w=a:=fun q=>z q.symm
    simp [z',z2]
 unfold p8 sN
 rw [e]
 by_cases h:w∈ws
 ·rw [if_pos (by simpa using h),if_pos h]
  show (ws.map _).map _=_
  rw [Ow]
  refine NP fun a _=>?_
  show (if (.inr a:Key)=.inr w then ((.inr a:Key),D.bl true) else ((.inr a:Key),D.bl true))=_
  split <;> rfl
 ·rw [if_neg (by simpa using h),if_neg h]
  show _=(ws++[w]).map _
  rw [NQ]; rfl
theorem yV {ws:List Str} (w:Str) (h:ws.Nodup):(sN ws w).Nodup:=by
 unfold sN
 split
 ·exact h
 ·rename_i z
  exact List.nodup_append.mpr ⟨h,List.nodup_cons.mpr ⟨by simp,Nr⟩,fun a ha b hb e=>by
   rw [Oz] at hb
   subst hb e
   exact z ha⟩
theorem xc (ws:List Str) (w:Str):(sN ws w).length<=ws.length+1:=by
 unfold sN
 split
 ·omega
 ·simp
theorem Fm (ws:List Str):hX (Ba ws)=ws.map D.str:=by
 show (ws.map _).map _=_
 rw [Ow]; rfl
theorem CK (ws:List Str):keysOf (hX (Ba ws))=some (ws.map .inr):=by
 rw [show hX (Ba ws)=(ws.map (.inr:Str->Key)).map bv from by rw [Fm,Ow]; rfl]
 exact cM _
theorem EI (ws:List Str):tT [wd ws]=some (.int ws.length):=by
 show (keysOf (hX (Ba ws))).bind _=_
 rw [CK]
 show some (D.int ((ws.map _).length:Int))=_
 rw [MY]
theorem Cd (ws:List Str):oU [wd ws]=some (.lst (ws.map .str)):=by
 show (keysOf (hX (Ba ws))).bind _=_
 rw [CK]
 show some (D.lst (hX (Ba ws)))=_
 rw [Fm]
theorem qB (is:List Nat) (f:au->R Bool) (ρ:au):lm is f ρ=A3 (f (frzs is ρ)):=nr rfl
theorem Gg (i:Nat) (ρ:au):frzs [i] ρ=frz i ρ:=nr rfl
theorem FC (i:Int) (k:Nat):DK (.int i) (.int k)=some (.int (i / 2 ^ k)):=by
 show (if decide (0<=(k:Int)) then some (D.int (i / 2 ^ (k:Int).toNat)) else none)=_
 rw [decide_eq_true ‹0›]; rfl
theorem yZ (i j:Int):yW (.int i) (.int j)=some (.int (Builtin.bitAnd i j)):=nr rfl
theorem Lj (a b c d:D):ng [a,b,c,d]=some (.lst [a,b,c,d]):=nr rfl
theorem MA (a b c d:D) (i:Int) (h0:0<=i) (h1:i < 4):∃ x∈[a,b,c,d],aQ (.lst [a,b,c,d]) (.int i)=some x:=by
 rcases(show i=0\/i=1\/i=2\/i=3 by omega) with z | z | z | z <;> subst z
 ·exact⟨a,by simp,rfl⟩
 ·exact⟨b,by simp,rfl⟩
 ·exact⟨c,by simp,rfl⟩
 ·exact⟨d,by simp,rfl⟩
theorem Hq:(("number":Str)==("rows":Str))=false:=by decide +kernel
theorem DQ:(("word":Str)==("rows":Str))=false:=by decide +kernel
theorem Gu (B:cB) (n:Nat) (a b c d e f:D):aF B 6 n [a,b,c,d,e,f]=B K0 (env0 n [a,b,c,d,e,f]):=nr rfl
abbrev fm (ps qs:List (Str×D)):D:=.tup [.tup (ps.map fld),.tup (qs.map fld)]
theorem y9 {α:Type} {ρ:au} {g:GF} {C:au->R Bool} {Fe:FX} (mk:α->D) (p:α->Bool) (v:α->D):∀ xs:List α,(∀ a∈xs,∃ ρ1,g (mk a) ρ=some ρ1/\C ρ1=.ok (p a)/\(p a=true->Fe ρ1=.ok (v a))) ->
  zx ρ g C Fe (xs.map mk)=.ok ((xs.filter p).map v)
 | [],_=>rfl
 | a::xs,h=>by
  obtain⟨ρ1,h1,h2,h3⟩:=h a MJ
  rw [MX,lH,h1,e9,dD,h2,ip,dD,y9 mk p v xs fun b hb=>h b (MK _ hb)]
  cases e:p a with
  | true=>rw [if_pos rfl,h3 e,ip,dD,Oo e]; rfl
  | false=>rw [if_neg MU,Oq (by simp [e])]
def mx (a b:Int):Int:=if b > a then b else a
theorem vO (vs:List Int) (hp:∀ v∈vs,0 < v):∀ j,j+1<=vs.length->uy (fun k=>vs.getD k 0) (j+1)=(vs.take (j+1)).foldl mx 0
 | 0,h=>by
  cases vs with
  | nil=>simp at h
  | cons v vs =>
   have:=hp v MJ
   show v=mx 0 v
   unfold mx
   rw [if_pos this]
 | j+1,h=>by
  have ih:=vO vs hp j ‹0›
  have e:vs.take (j+2)=vs.take (j+1)++[vs.getD (j+1) 0]:=by
   rw [NR,NE ‹0›,Ov,NE ‹0›]; rfl
  rw [e,OS,<- ih]
  show (if _ then _ else _)=mx _ _
  rfl
theorem Di (vs:List Int) (hp:∀ v∈vs,0 < v):(if vs.length=0 then 0 else uy (fun k=>vs.getD k 0) vs.length)=vs.foldl mx 0:=by
 cases vs with
 | nil=>rfl
 | cons v vs =>
  rw [if_neg (by simp)]
  have:=vO (v::vs) hp vs.length (by simp)
  rw [show (v::vs).length=vs.length+1 from rfl,this,OH (by simp)]
theorem BU (ps qs:List (Str×D)) (h1:ps.length<=8) (h2:qs.length<=8):aF dM 1 1 [fm ps qs]=.ok (.tup ((ps++qs).map (·.2))) :=
 kinds_ok _ _ (ps++qs) (by simp; omega) (by rw [NQ])
end T4
namespace T4
open PySem PySem.Spec L2 TG TD
local macro_rules
 | `(tactic| simp! only [$xs,*])=>`(tactic| simp only [dD,tM,pW,tB,ip,e9,ge_0,AC,o9,Bg,pC,mr,pB,o0,zT,AR,Av,AX,Ao,oH,oG,sZ,jL,my,oS,mO,tI,pF,oM,lZ,oF,jR,oR,jX,jF,iJ,iM,o6,lY,iI,mK,jC,mh,mP,gZ,mj,jT,nI,mq,ju,iG,mi,mM,Ab,tS,AO,Bd,AI,pA,mC,oB,mE,mL,Bf,AF,OI,OJ,MX,Nk,Nx,NN,K0,env0,List.replicate,Oe,M1,OD,Nat.reduceAdd,Nat.reduceSub,MV,Np,ph,oX,tK,pI,o3,oA,iL,pf,tu,uk,sX,o5,jW,jM,jJ,jx,jP,jU,uw,tx,tD,tH,uq,uh,jA,jN,gJ,gK,o8,iK,gz,gu,gB,ky,lx,gq,gA,jY,jZ,ml,mz,jG,mH,oJ,pE,mI,lW,gN,if_true,if_false,OL,OM,Nv,$xs,*])
def LT:List Nat:=("abcdefghijklmnopqrstuvwxyz":Str).cps.toList
theorem C1:∀ a < 26,∀ b < 26,LT[a]?=LT[b]?->a=b:=by decide +kernel
def stp (b:Int):Int:=([1,5,7,11,13,23]:List Int).getD (b%6).toNat 0
def kk (b k:Int):Int:=(k*stp b+b / 6)%24
def jz (b:Int):Int:=b / 144 / 24%(1+b / 144 / 3%8)
def zA (b k:Int) (w:Str):Prop :=
 (b / 144%3=0->w.length=(1+kk b k%8).toNat/\w.cps.toList[0]?=LT[((b / 144 / 3+kk b k / 8)%26).toNat]?) /\
 (b / 144%3≠0->w.cps.toList[(jz b).toNat]?=LT[((b / 144 / (24+11*jz b*jz b)+kk b k)%26).toNat]?)
theorem HX (b k:Int):0<=kk b k/\kk b k < 24:=⟨OO _ (by decide),OQ _ (by decide)⟩
theorem G2 {b k1 k2:Int} (a1:0<=k1) (a2:k1 < 24) (b1:0<=k2) (b2:k2 < 24) (h:kk b k1=kk b k2):k1=k2:=by
 unfold kk stp at h
 rcases(show b%6=0\/b%6=1\/b%6=2\/b%6=3\/b%6=4\/b%6=5 by omega) with z | z | z | z | z | z <;> rw [z] at h <;> simp at h <;> omega
theorem Ee {b k1 k2:Int} {w:Str} (a1:0<=k1) (a2:k1 < 24) (b1:0<=k2) (b2:k2 < 24) (h1:zA b k1 w) (h2:zA b k2 w):k1=k2:=by
 refine G2 (b:=b) a1 a2 b1 b2 ?_
 have q1:=HX b k1
 have q2:=HX b k2
 by_cases z:b / 144%3=0
 ·obtain⟨l1,e1⟩:=h1.1 z
  obtain⟨l2,e2⟩:=h2.1 z
  have:=C1 _ ‹0› _ ‹0› (e1.symm.trans e2)
  omega
 ·have:=C1 _ ‹0› _ ‹0› ((h1.2 z).symm.trans (h2.2 z))
  omega
theorem xZ (x:Str) (h:x.length<=1000) (i:Int) (h0:0<=i) (h1:i < x.length):∃ y:Str,y.length=1/\y.cps.toList[0]?=x.cps.toList[i.toNat]?/\aQ (.str x) (.int i)=some (.str y):=by
 have hl:x.cps.toList.length=x.length:=by simp [Str.length]
 have hi:i < x.cps.toList.length:=by omega
 have hn:i.toNat < x.cps.toList.length:=by omega
 refine⟨⟨#[x.cps.toList[i.toNat]'hn]⟩,rfl,?_,?_⟩
 ·rw [NE hn]; rfl
 ·show (if small x.length then (ox x.cps.toList i).bind fun c=>some (D.str ⟨#[c]⟩) else none)=_
  rw [dZ ‹0›,if_pos rfl,qp h0 hi]; rfl
theorem ut (c:Array Nat) (hc:0 < c.size):∀ (n:Nat) (a:Array Nat),((List.replicate n c).foldl (·++·) a).toList[0]?=if a.size=0 then (if n=0 then none else c.toList[0]?) else a.toList[0]?
 | 0,a=>by
  rw [Oe,List.foldl_nil]
  split
  ·rename_i h; simp [h]
  ·rfl
 | n+1,a=>by
  rw [Og,Oh,ut c hc n (a++c)]
  have:¬ (a++c).size=0:=by rw [Array.size_append]; omega
  rw [if_neg this,Array.toList_append]
  by_cases h:a.size=0
  ·rw [if_pos h,if_neg ‹0›,M5 (by simp [h])]
   simp [h]
  ·rw [if_neg h,M7 (by simp; omega)]
theorem Cp {y:Str} {n:Int} (h:1<=n) (hy:y.length=1):(j9 y n).cps.toList[0]?=y.cps.toList[0]?:=by
 unfold j9
 split
 ·rfl
 ·have hc:0 < y.cps.size:=by have:y.cps.size=1:=hy; omega
  rw [ut y.cps hc n.toNat #[]]
  split
  ·rw [if_neg ‹0›]
  ·rename_i z; exact absurd rfl z
theorem y4 (x y:Str):(x++y).cps.toList=x.cps.toList++y.cps.toList:=by
 show (x.cps++y.cps).toList=_
 rw [Array.toList_append]
theorem uR (x:Str):x.cps.toList.length=x.length:=by simp [Str.length]
theorem zQ (b k:Int) (hb:0<=b) (hk:0<=k):∃ w:Str,aF bD 2 7 [.int b,.int k]=.ok (.str w)/\zA b k w:=by
 have LL:(("abcdefghijklmnopqrstuvwxyz":Str)).length=26:=by decide +kernel
 have hLT:LT=("abcdefghijklmnopqrstuvwxyz":Str).cps.toList:=rfl
 generalize hL:("abcdefghijklmnopqrstuvwxyz":Str)=L at LL hLT
 have g3:=fun i=>bK (i:=i) (show (0:Int) < 3 by decide)
 have g6:=fun i=>bK (i:=i) (show (0:Int) < 6 by decide)
 have g8:=fun i=>bK (i:=i) (show (0:Int) < 8 by decide)
 have g24:=fun i=>bK (i:=i) (show (0:Int) < 24 by decide)
 have g26:=fun i=>bK (i:=i) (show (0:Int) < 26 by decide)
 have d3:=fun i=>cc (i:=i) (show (0:Int) < 3 by decide) (show (3:Int) < 10 ^ 200 by decide)
 have d6:=fun i=>cc (i:=i) (show (0:Int) < 6 by decide) (show (6:Int) < 10 ^ 200 by decide)
 have d8:=fun i=>cc (i:=i) (show (0:Int) < 8 by decide) (show (8:Int) < 10 ^ 200 by decide)
 have d24:=fun i=>cc (i:=i) (show (0:Int) < 24 by decide) (show (24:Int) < 10 ^ 200 by decide)
 have d144:=fun i=>cc (i:=i) (show (0:Int) < 144 by decide) (show (144:Int) < 10 ^ 200 by decide)
 obtain⟨st,hst,hstp,est⟩:∃ st:Int,(0<=st/\st<=25)/\stp b=st/\aQ (.lst [.int 1,.int 5,.int 7,.int 11,.int 13,.int 23]) (.int (b%6))=some (.int st):=by
  rcases(show b%6=0\/b%6=1\/b%6=2\/b%6=3\/b%6=4\/b%6=5 by omega) with z | z | z | z | z | z <;> rw [z]
  ·exact⟨1,by decide,by unfold stp; rw [z]; rfl,rfl⟩
  ·exact⟨5,by decide,by unfold stp; rw [z]; rfl,rfl⟩
  ·exact⟨7,by decide,by unfold stp; rw [z]; rfl,rfl⟩
  ·exact⟨11,by decide,by unfold stp; rw [z]; rfl,rfl⟩
  ·exact⟨13,by decide,by unfold stp; rw [z]; rfl,rfl⟩
  ·exact⟨23,by decide,by unfold stp; rw [z]; rfl,rfl⟩
 have l6:∀ a b c d e f:D,ng [a,b,c,d,e,f]=some (.lst [a,b,c,d,e,f]):=fun _ _ _ _ _ _=>rfl
 have ms:=je (i:=k) (j:=st) ‹0› ‹0›
 have hkk:kk b k=(k*st+b / 6)%24:=by unfold kk; rw [hstp]
 generalize hk':(k*st+b / 6)%24=k' at hkk
 have k1:0<=k'/\k' < 24:=by omega
 have hP:∀ w,zA b k w=((b / 144%3=0->w.length=(1+kk b k%8).toNat/\w.cps.toList[0]?=LT[((b / 144 / 3+kk b k / 8)%26).toNat]?)/\(b / 144%3≠0->w.cps.toList[(jz b).toNat]?=LT[((b / 144 / (24+11*jz b*jz b)+kk b k)%26).toNat]?)):=fun _=>rfl
 have hj:jz b=b / 144 / 24%(1+b / 144 / 3%8):=rfl
 generalize hb':b / 144=b' at hP hj
 generalize jz b=j0 at hP hj
 rw [hkk] at hP
 simp only [hP]
 have b0:0<=b':=by omega
 rw [fh]; unfold bD
 by_cases h:b'%3=0
 ·have h':(b'%3==0)=true:=by simp [h]
  obtain⟨y,hy,hy0,e1⟩:=xZ L ‹0› ((b' / 3+k' / 8)%26) ‹0› ‹0›
  have mu:=Ez (x:=y) (n:=1+k'%8) ‹0› ‹0› ‹0›
  refine⟨j9 y (1+k'%8),?_,fun _=>⟨by rw [wZ ‹0›,hy,Nat.mul_one],by rw [Cp ‹0› hy,hy0,hLT]⟩,fun z=>absurd h z⟩
  simp! only [hL,g6,l6,est,ms,d6,g24,hk',d144,hb',g3,h',d3,d8,g26,e1,g8,mu]
 ·have h':(b'%3==0)=false:=by simp [h]
  obtain⟨n,hn,hn1,hn2⟩:∃ n:Nat,1+b' / 3%8=(n:Int)/\1<=n/\n<=8:=⟨(1+b' / 3%8).toNat,by omega,by omega,by omega⟩
  rw [hn] at hj
  have hj1:0<=j0/\j0 < (n:Int):=by rw [hj]; exact⟨OO _ ‹0›,OQ _ ‹0›⟩
  have rn:=iN n ‹0›
  obtain⟨T,hT⟩:∃ T:cB,T=(aG (kK (gX (af (ah 3) (aq))) (gN 5) (aG (bW 6 (f2 dY (ah 0) (f2 ce (fC (.int 24)) (f2 jD (f2 jD (fC (.int 11)) (ah 5)) (ah 5))))) (aG (jb (fB (f2 kN (ah 5) (f2 cP (f2 dY (ah 0) (fC (.int 24))) (ah 3)))) (bW 6 (f2 ce (ah 6) (ah 1))) (cz)) (aG (bW 4 (f2 ce (ah 4) (f2 aQ (ah 2) (f2 cP (ah 6) (fC (.int 26)))))) (fK [5,6] cz))))) (bC (ah 4))):=⟨_,rfl⟩
  have key:∃ w:Str,(w.cps.toList[j0.toNat]?=LT[((b' / (24+11*j0*j0)+k')%26).toNat]?)/\T K0 [some (.val (.int b')),some (.val (.int k')),some (.val (.str L)),some (.val (.int n)),some (.val (.str "")),none,none]=.ok (.str w):=by
   rw [hT,gZ,iG]
   simp! only [rn]
   refine dS (Q:=fun z=>∃ w:Str,(w.cps.toList[j0.toNat]?=LT[((b' / (24+11*j0*j0)+k')%26).toNat]?)/\z=.ok (.str w)) (fun i ρ=>∃ w:Str,w.length=i/\(j0 < (i:Int)->w.cps.toList[j0.toNat]?=LT[((b' / (24+11*j0*j0)+k')%26).toNat]?)/\ρ=[some (.val (.int b')),some (.val (.int k')),some (.val (.str L)),some (.val (.int n)),some (.val (.str w)),none,none]) ?_ ?_ ?_
   ·rintro i d ρ kx hd ⟨w,hw,hw2,rfl⟩
    have hi:=cO hd
    rw [cG] at hi
    have hdi:d=.int (i:Int):=by
     rw [jv,M8,NW hi] at hd
     cases hd; simp
    subst hdi
    have m1:=nN (i:=11) (j:=(i:Int)) (by decide) (by decide)
    have m2:=je (i:=11*(i:Int)) (j:=(i:Int)) ‹0› ‹0›
    have ii:0<=11*(i:Int)*(i:Int):=Int.mul_nonneg ‹0› ‹0›
    have ii2:11*(i:Int)*(i:Int)<=11*8*8:=Int.mul_le_mul ‹0› ‹0› ‹0› (by decide)
    have dd:=fun z=>cc (i:=z) (show (0:Int) < 24+11*(i:Int)*(i:Int) by omega) (show 24+11*(i:Int)*(i:Int) < 10 ^ 200 by
     have:(10:Int) ^ 200 > 10000:=by decide +kernel
     omega)
    have gn:=fun z=>bK (i:=z) (show (0:Int) < (n:Int) by omega)
    generalize hs:b' / (24+11*(i:Int)*(i:Int))=s
    by_cases hq:((i:Int)==b' / 24%(n:Int))=true
    ·obtain⟨y,hy,hy0,e1⟩:=xZ L ‹0› ((s+k')%26) ‹0› ‹0›
     have ad:=iV w y ‹0› ‹0›
     refine⟨_,_,rfl,⟨w++y,by rw [qm]; omega,fun _=>?_,rfl⟩,?_⟩
     ·have eq:(i:Int)=b' / 24%(n:Int):=by simpa using hq
      rw [<- hj] at eq
      subst eq
      rw [y4,M5 (by rw [uR]; omega),uR,hw,Nc,Od,hy0,hLT,<- hs]
     simp! only [m1,m2,dd,hs,d24,gn,hq,g26,e1,ad]
    ·have hq':((i:Int)==b' / 24%(n:Int))=false:=by simpa using hq
     obtain⟨y,hy,hy0,e1⟩:=xZ L ‹0› (s%26) ‹0› ‹0›
     have ad:=iV w y ‹0› ‹0›
     refine⟨_,_,rfl,⟨w++y,by rw [qm]; omega,fun z=>?_,rfl⟩,?_⟩
     ·have ne:j0≠(i:Int):=fun q=>hq (by rw [<- q,<- hj]; simp)
      rw [y4,M7 (by rw [uR]; omega)]
      exact hw2 ‹0›
     simp! only [m1,m2,dd,hs,d24,gn,hq',g26,e1,ad]
   ·exact⟨"",by decide +kernel,fun z=>by omega,rfl⟩
   ·rintro ρ' ⟨w,hw,hw2,rfl⟩
    rw [cG] at hw2
    exact⟨w,hw2 ‹0›,by simp! only []⟩
  obtain⟨w,hw,ew⟩:=key
  refine⟨w,?_,fun z=>absurd z h,fun _=>hw⟩
  rw [<- hT]
  simp only [K0] at ew
  simp! only [hL,g6,l6,est,ms,d6,g24,hk',d144,hb',g3,h',d3,g8,hn,ew]
end T4
namespace T4
open PySem PySem.Spec L2 TG TD
theorem n9 {α:Type} {motive:List α->Prop} (nil:motive []) (snoc:∀ (t:List α) (r:α),motive t->motive (t++[r])) (t:List α):motive t:=by
 have h:∀ l:List α,motive l.reverse:=fun l=>by
  induction l with
  | nil=>exact nil
  | cons a l ih=>rw [List.reverse_cons]; exact snoc _ _ ih
 have:=h t.reverse
 rw [List.reverse_reverse] at this
 exact this
theorem qx:∀ {σ:List Bool} {a:List D} (m:Nat),Sh σ a->Sh (σ.take m) (a.take m)
 | _,_,0,_=>by rw [Ny,Ny]; exact .nil
 | _,_,m+1,.nil=>by rw [Nz,Nz]; exact .nil
 | _,_,m+1,.int i h=>by rw [NA,NA]; exact .int i (qx m h)
 | _,_,m+1,.str i h=>by rw [NA,NA]; exact .str i (qx m h)
theorem qz:∀ {σ:List Bool} {a:List D},Sh σ a->∃ q:List Key,a=q.map bv
 | _,_,.nil=>⟨[],rfl⟩
 | _,_,.int i h=>by
  obtain⟨q,e⟩:=qz h
  exact⟨.inl i::q,by rw [MX,e]; rfl⟩
 | _,_,.str x h=>by
  obtain⟨q,e⟩:=qz h
  exact⟨.inr x::q,by rw [MX,e]; rfl⟩
theorem qV:∀ {p q:List Key},p.map bv=q.map bv->p=q:=fun {p q} h=>by
 have:=congrArg keysOf h
 rw [cM,cM] at this
 exact Option.some.inj this
theorem rL:∀ {σ:List Bool} {a b:List D} (m:Nat),Sh σ a->Sh σ b->eB a b=some true->eB (a.take m) (b.take m)=some true\/a.take m=b.take m
 | _,_,_,0,_,_,_=>.inr (by rw [Ny,Ny])
 | _,_,_,m+1,.nil,.nil,_=>.inr rfl
 | _,_,_,m+1,.int i h,.int j h',e=>by
  rw [oh] at e
  rw [NA,NA,oh]
  by_cases z:i=j
  ·rw [if_pos z] at e ⊢
   rcases rL m h h' e with q | q
   ·exact .inl q
   ·exact .inr (by rw [z,q])
  ·rw [if_neg z] at e ⊢
   exact .inl e
 | _,_,_,m+1,.str i h,.str j h',e=>by
  rw [og] at e
  rw [NA,NA,og]
  by_cases z:i=j
  ·rw [if_pos z] at e ⊢
   rcases rL m h h' e with q | q
   ·exact .inl q
   ·exact .inr (by rw [z,q])
  ·rw [if_neg z] at e ⊢
   exact .inl e
section
open Classical
variable (m:Nat)
noncomputable def G9 (acc:List (List D)) (r:List D):List (List D):=if r.take m∈acc then acc else acc++[r.take m]
noncomputable def fs (t:List (List D)):List (List D):=t.foldl (G9 m) []
noncomputable def gp (t:List (List D)) (f:List D):List (List D):=(t.filter fun r=>decide (r.take m=f)).map (List.drop m)
theorem kB (t:List (List D)) (r:List D):fs m (t++[r])=G9 m (fs m t) r:=by
 unfold fs
 rw [OS]; rfl
theorem lP {t:List (List D)} {f:List D}:f∈fs m t↔∃ r∈t,r.take m=f:=by
 induction t using n9 with
 | nil=>unfold fs; simp
 | snoc t r ih =>
  rw [kB]
  unfold G9
  split
  ·rename_i h
   rw [ih]
   constructor
   ·rintro⟨x,h1,h2⟩; exact⟨x,ML _ h1,h2⟩
   ·rintro⟨x,h1,h2⟩
    rcases List.mem_append.mp h1 with z | z
    ·exact⟨x,z,h2⟩
    ·rw [List.mem_singleton.mp z] at h2
     rw [h2] at h
     exact ih.mp h
  ·rw [List.mem_append,ih,Oz]
   constructor
   ·rintro(⟨x,h1,h2⟩ | h2)
    ·exact⟨x,ML _ h1,h2⟩
    ·exact⟨r,by simp,h2.symm⟩
   ·rintro⟨x,h1,h2⟩
    rcases List.mem_append.mp h1 with z | z
    ·exact .inl ⟨x,z,h2⟩
    ·rw [List.mem_singleton.mp z] at h2
     exact .inr h2.symm
theorem xB (t:List (List D)):(fs m t).Nodup:=by
 induction t using n9 with
 | nil=>exact Nr
 | snoc t r ih =>
  rw [kB]
  unfold G9
  split
  ·exact ih
  ·rename_i h
   exact List.nodup_append.mpr ⟨ih,by simp,fun a ha b hb e=>by
    rw [List.mem_singleton.mp hb] at e
    rw [e] at ha; exact h ha⟩
theorem nL (t:List (List D)):(fs m t).length<=t.length:=by
 induction t using n9 with
 | nil=>exact MP _
 | snoc t r ih =>
  rw [kB]
  unfold G9
  split
  ·rw [Nb]; omega
  ·rw [Nb,Nb]; simpa using ih
theorem Cw {σ:List Bool} {n:Nat} (hn:n=σ.length) {t:List (List D)} (hs:∀ r∈t,Sh σ (r.take n)) (hm:m<=n) (p:HW n t):(fs m t).Pairwise (fun a b=>eB a b=some true)/\∀ r,t.getLast?=some r->(fs m t).getLast?=some (r.take m):=by
 induction t using n9 with
 | nil=>exact⟨List.Pairwise.nil,fun r h=>by simp at h⟩
 | snoc t r ih =>
  obtain⟨p1,p2,p3⟩:=List.pairwise_append.mp p
  obtain⟨i1,i2⟩:=ih (fun x hx=>hs x (ML _ hx)) p1
  have sm:∀ x∈t++[r],Sh (σ.take m) (x.take m):=fun x hx=>by
   have:=qx m (hs x hx)
   rw [OT,OG hm] at this
   exact this
  have le:∀ x∈t,eB (x.take m) (r.take m)=some true\/x.take m=r.take m:=fun x hx=>by
   have:=rL m (hs x (ML _ hx)) (hs r (by simp)) (p3 x hx r (by simp))
   rw [OT,OT,OG hm] at this
   exact this
  rw [kB]
  unfold G9
  split
  ·rename_i h
   refine⟨i1,fun x hx=>?_⟩
   rw [OU] at hx
   have hx:r=x:=by simpa using hx
   subst hx
   obtain⟨y,hy,ey⟩:=(lP m).mp h
   have ne:t≠[]:=fun z=>by rw [z] at hy; cases hy
   have e0:=i2 _ (OV ne)
   have f0:fs m t≠[]:=fun z=>by rw [z] at h; cases h
   rw [OV f0] at e0 ⊢
   have e0:=Option.some.inj e0
   rcases le _ (OW ne) with q | q
   ·-- then it comes ahead of the last
    exfalso
    have hd:fs m t=(fs m t).dropLast++[(fs m t).getLast f0]:=(OX f0).symm
    rw [hd] at h i1
    rcases List.mem_append.mp h with z | z
    ·have:=(List.pairwise_append.mp i1).2.2 _ z _ (List.mem_singleton.mpr rfl)
     rw [e0] at this
     have a:=xx (sm r (by simp)) (sm _ (ML _ (OW ne))) this
     rw [q] at a; cases a
    ·have:=List.mem_singleton.mp z
     rw [e0] at this
     rw [this] at q
     rw [mV (sm _ (ML _ (OW ne)))] at q
     cases q
   ·rw [e0,q]
  ·rename_i h
   refine⟨List.pairwise_append.mpr ⟨i1,Om _ _,fun a ha b hb=>?_⟩,fun x hx=>?_⟩
   ·rw [List.mem_singleton.mp hb]
    obtain⟨y,hy,ey⟩:=(lP m).mp ha
    rcases le y hy with q | q
    ·rw [ey] at q; exact q
    ·rw [ey] at q
     rw [q] at ha; exact absurd ha h
   ·rw [OU] at hx ⊢
    have hx:r=x:=by simpa using hx
    subst hx
    simp
theorem ql (t:List (List D)) (r f:List D):gp m (t++[r]) f=gp m t f++(if r.take m=f then [r.drop m] else []):=by
 unfold gp
 rw [List.filter_append,NQ]
 congr 1
 by_cases h:r.take m=f
 ·rw [if_pos h,Oo (by simpa using h)]; rfl
 ·rw [if_neg h,Oq (by simpa using h)]; rfl
noncomputable def flat (t:List (List D)):List (List D):=(fs m t).flatMap fun f=>(gp m t f).map (f++·)
theorem EW {σ:List Bool} {n:Nat} (hn:n=σ.length) {t:List (List D)} (hs:∀ r∈t,Sh σ (r.take n)) (hm:m<=n) (p:HW n t):flat m t=t:=by
 induction t using n9 with
 | nil=>rfl
 | snoc t r ih =>
  have p1:=(List.pairwise_append.mp p).1
  have i0:=ih (fun x hx=>hs x (ML _ hx)) p1
  have hr:=Cw m hn hs hm p
  unfold flat at i0 ⊢
  rw [kB] at hr ⊢
  unfold G9 at hr ⊢
  have same:∀ L:List (List D),r.take m∉L->(L.flatMap fun f=>(gp m (t++[r]) f).map (f++·))=L.flatMap fun f=>(gp m t f).map (f++·):=fun L hL=>by
   induction L with
   | nil=>rfl
   | cons f L ih =>
    rw [OY,OY,ih fun z=>hL (MK _ z),ql,if_neg fun z=>hL (by rw [z]; exact MJ),M1]
  split
  ·rename_i h
   rw [if_pos h] at hr
   have f0:fs m t≠[]:=fun z=>by rw [z] at h; cases h
   have last:=hr.2 r (by rw [OU]; simp)
   rw [OV f0] at last
   have last:=Option.some.inj last
   have hd:fs m t=(fs m t).dropLast++[r.take m]:=by
    rw [<- last]; exact(OX f0).symm
   have nd:=xB m t
   rw [hd] at nd
   have nin:r.take m∉(fs m t).dropLast:=fun z=>(List.nodup_append.mp nd).2.2 _ z _ (List.mem_singleton.mpr rfl) rfl
   rw [hd,OZ] at i0 ⊢
   rw [same _ nin]
   conv=>rhs; rw [<- i0]
   rw [NZ]
   congr 1
   rw [O0,O0,ql,if_pos rfl,NQ,O1,O2]
  ·rename_i h
   rw [OZ,same _ h,i0,O0,ql,if_pos rfl]
   congr 1
   have e:gp m t (r.take m)=[]:=by
    unfold gp
    rw [List.filter_eq_nil_iff.mpr]
    ·rfl
    ·intro x hx z
     exact h ((lP m).mpr ⟨x,hx,by simpa using z⟩)
   rw [e,NN,O1,O2]
end
open Classical in
theorem ue (al:List (List Key×D)) (q:List Key) (v:D):(gg al q v).map (·.1)=if q∈al.map (·.1) then al.map (·.1) else al.map (·.1)++[q]:=by
 have e:(al.any fun p=>decide (p.1=q))=true↔q∈al.map (·.1):=by
  rw [List.any_eq_true,List.mem_map]
  simp only [decide_eq_true_eq]
 unfold gg
 by_cases h:q∈al.map (·.1)
 ·rw [if_pos (e.mpr h),if_pos h,Ow]
  refine NP fun p _=>?_
  show (if p.1=q then (p.1,v) else p).1=p.1
  split <;> rfl
 ·rw [if_neg fun z=>h (e.mp z),if_neg h,NQ]; rfl
theorem CP {al:List (List Key×D)} {q:List Key} {v:D} {p:List Key×D} (h:p∈gg al q v):p∈al\/p=(q,v):=by
 unfold gg at h
 split at h
 ·obtain⟨a,ha,e⟩:=List.mem_map.mp h
  by_cases z:a.1=q
  ·rw [if_pos z] at e
   exact .inr (by rw [<- e,z])
  ·rw [if_neg z] at e
   exact .inl (by rw [<- e]; exact ha)
 ·rcases List.mem_append.mp h with z | z
  ·exact .inl z
  ·exact .inr (List.mem_singleton.mp z)
theorem EE {al:List (List Key×D)} (q:List Key) (v:D) (h:(al.map (·.1)).Nodup):((gg al q v).map (·.1)).Nodup:=by
 rw [ue]
 split
 ·exact h
 ·rename_i z
  exact List.nodup_append.mpr ⟨h,by simp,fun a ha b hb e=>by
   rw [List.mem_singleton.mp hb] at e
   rw [e] at ha; exact z ha⟩
theorem BJ (al:List (List Key×D)) (q:List Key) (v:D):(gg al q v).length<=al.length+1:=by
 have:=congrArg List.length (ue al q v)
 rw [MY] at this
 rw [this]
 split <;> simp
theorem wG:∀ {al:List (List Key×D)} {p:List Key×D},(al.map (·.1)).Nodup->p∈al->p6 al p.1=some p.2
 | a::al,p,h,hp=>by
  obtain⟨h1,h2⟩:=List.nodup_cons.mp (by simpa using h:(a.1::al.map (·.1)).Nodup)
  unfold p6
  by_cases e:a.1=p.1
  ·rw [OA (by simpa using e)]
   rcases List.mem_cons.mp hp with z | z
   ·rw [z]; rfl
   ·exact absurd (show a.1∈al.map (·.1) from by rw [e]; exact List.mem_map.mpr ⟨p,z,rfl⟩) h1
  ·rw [OB (by simpa using e)]
   rcases List.mem_cons.mp hp with z | z
   ·exact absurd (by rw [z]) e
   ·exact wG h2 z
theorem zc (al:List (List Key×D)):Dp (encK al) (al.map (·.2))=some al:=by
 cases al with
 | nil=>rfl
 | cons p al=>exact jQ (p::al)
theorem vU (al:List (List Key×D)):lJ [dH al]=some (.lst (encK al)):=by
 show (Dp (encK al) (al.map (·.2))).bind _=_
 rw [zc]; rfl
theorem FR (al:List (List Key×D)) (q:List Key):yq (dH al) (.tup (q.map bv))=p6 al q:=by
 show (Dp (encK al) (al.map (·.2))).bind _=_
 rw [zc]
 show (jE (.tup (q.map bv))).bind _=_
 rw [nS]; rfl
theorem wz (al:List (List Key×D)):xR (nC al)=some (al.map mZ):=by
 show (kX (encK al) (al.map (·.2))).map _=_
 rw [jQ]; rfl
theorem zI {al:List (List Key×D)} {σ:List Bool} (nd:(al.map (·.1)).Nodup) (hs:∀ p∈al,Sh σ (p.1.map bv)) (h0:σ≠[]) (hl:al.length < 64):e7 [.lst (encK al)]=some (.lst (jV dU (encK al)))/\xk dU (jV dU (encK al)):=by
 have hx:∀ x∈encK al,∃ k,x=.tup k/\Sh σ k:=fun x hx=>by
  obtain⟨p,hp,rfl⟩:=List.mem_map.mp hx
  exact⟨_,rfl,hs p hp⟩
 have pw:(encK al).Pairwise fun x y=>dU x≠dU y:=by
  rw [Ou]
  have:=List.pairwise_map.mp nd
  exact this.imp fun {a b} ne e=>ne (qV e)
 have a:Gq (encK al):=⟨by rw [MY]; exact hl,σ,h0,hx,pw⟩
 refine⟨?_,o7 (σ:=σ) (fun x h=>by obtain⟨k,e,s⟩:=hx x h; rw [e]; exact s) pw⟩
 show pM (encK al)=_
 unfold pM
 rw [if_pos a]
theorem zg:∀ vs:List D,(∀ v∈vs,∃ r,v=.tup r)->∃ t:List (List D),vs=t.map .tup
 | [],_=>⟨[],rfl⟩
 | v::vs,h=>by
  obtain⟨r,e⟩:=h v MJ
  obtain⟨t,et⟩:=zg vs fun v hv=>h v (MK _ hv)
  exact⟨r::t,by rw [e,et]; rfl⟩
def AL:Nat->D->Prop
 | 0,d=>(∃ i,d=.int i)\/∃ x,d=.str x
 | n+1,d=>((∃ i,d=.int i)\/∃ x,d=.str x)\/∃ ds,d=.tup ds/\ds.length<=1000/\∀ x∈ds,AL n x
theorem AL.of0 {d:D} (h:AL 0 d):∀ n,AL n d
 | 0=>h
 | _+1=>.inl h
theorem AL.up:∀ {n:Nat} {d:D},AL n d->AL (n+1) d
 | 0,_,h=>.inl h
 | n+1,_,h=>by
  rcases h with h | ⟨ds,e,l,f⟩
  ·exact .inl h
  ·exact .inr ⟨ds,e,l,fun x hx=>AL.up (f x hx)⟩
theorem AL.le {n m:Nat} (h:n<=m) {d:D} (hd:AL n d):AL m d:=by
  induction m with
  | zero => have : n = 0 := by omega
            subst this; exact hd
  | succ m ih =>
    by_cases e:n=m+1
    · subst e; exact hd
    · exact AL.up (ih ‹0›)
theorem AL.tup {n:Nat} {ds:List D} (l:ds.length<=1000) (h:∀ x∈ds,AL n x):AL (n+1) (.tup ds):=.inr ⟨ds,rfl,l,h⟩
theorem vM:∀ {σ:List Bool} {a:List D},Sh σ a->∀ x∈a,AL 0 x
 | _,_,.int i h,x,hx=>by
  rcases List.mem_cons.mp hx with z | z
  ·exact .inl ⟨i,z⟩
  ·exact vM h x z
 | _,_,.str i h,x,hx=>by
  rcases List.mem_cons.mp hx with z | z
  ·exact .inr ⟨i,z⟩
  ·exact vM h x z
end T4
namespace Tk40
open PySem PySem.Spec L2 TG TX TD
def top (i:Nat):QD:=PySem.Challenge.pw_twoglass_k40_nested.main.body.getD i (.Pass ⟨0,0,0,0⟩)
abbrev e6:QD:=inClass (top 17) 0
theorem oZ:bc ["self","many","name"] ["self","many","name"] (aB e6):=‹2›
abbrev fQ:QD:=top 32
theorem sA:bc ["_law_found","_law_due","_law_one","_law_other"] ["_law_found","_law_due"] (aB fQ):=‹2›
def cx (aw:List D->R D):cB:=aG (jb (bX (nE "str" (ah 1))) (bC (pY (nE "str" (ah 0)) (f2 kN (ah 0) (ah 1)))) (cz)) (aG (jb (si (bX (nE "bool" (ah 1))) (bX (nE "bool" (ah 0)))) (bC (pY (nE "bool" (ah 1)) (pY (nE "bool" (ah 0)) (f2 kN (ah 0) (ah 1))))) (cz)) (aG (jb (bX (nE "int" (ah 1))) (bC (pY (nE "int" (ah 0)) (f2 kN (ah 0) (ah 1)))) (cz)) (aG (jb (si (gf (bX (nE "tuple" (ah 0)))) (fB (f2 Bu (fL jH (af (ah 0) (aq))) (fL jH (af (ah 1) (aq)))))) (bC (fC (.bl false))) (cz)) (aG (kK (Em (af (ah 0) (af (ah 1) (aq)))) (gT 2 (uE [2,3])) (aG (jb (gf (bX (fR aw (af (ah 2) (af (ah 3) (aq)))))) (bC (fC (.bl false))) (cz)) (fK [2,3] cz))) (bC (fC (.bl true)))))))
def aw:Nat->List D->R D
 | 0=>fun _=>un
 | n+1=>aF (cx (aw n)) 2 4
theorem jm (n:Nat):aw (n+1)=aF (cx (aw n)) 2 4:=by rw [aw]
theorem bZ:∀ n:Nat,Ar 2 (aw n)
 | 0=>fun _ h=>absurd (by rw [aw]) h
 | n+1=>by rw [jm]; exact aP
abbrev gU:QD:=top 34
theorem rK:bc ["_law_table_here","_law_many","_law_firsts","_law_row_here","_law_found","_law_first"] ["_law_table_here","_law_many"] (aB gU):=‹2›
noncomputable def bA:cB:=aG (n5 2 uB) (aG (kK (cA (ah 0)) (gN 3) (rA 2 (bn (ah 3) (aU) (bU (ah 1))) (fC (.bl true)))) (aG (n5 4 (ki (aq))) (iq 2 (aG (kK (cA (fL e7 (af (fL lJ (af (ah 2) (aq))) (aq)))) (gN 5) (aG (AH 4 gx (af (f2 ce (ah 5) (bH (af (fL cH (af (nG [none,some 1,some 5] (cA (ah 0)) (gN 0) (fB (f2 kN (bn (ah 0) (aU) (bU (ah 1))) (ah 2))) (bn (ah 0) (bU (ah 1)) (aU))) (aq))) (aq)))) (aq))) (fK [5] cz))) (iq 4 (bC (fL cH (af (ah 4) (aq)))))))))
abbrev kC:QD:=inClass (top 14) 2
theorem pL:bc ["self","form","table"] ["self","form","table"] (aB kC):=‹2›
def bG:cB:=bC (ah 2)
abbrev lX:QD:=top 12
theorem yE:bc ["many","rows","groups","row"] ["many","rows"] (aB lX):=‹2›
def iO:cB:=aG (wu 2) (aG (kK (cA (ah 1)) (gN 3) (aG (Aw 2 (bn (ah 3) (aU) (bU (ah 0))) (bn (ah 3) (bU (ah 0)) (aU))) (fK [3] cz))) (sW 2 (bC (fL rW (af (nG [none,none] (kS (ah 2)) (gT 2 (uE [0,1])) (eS) (bH (af (ah 0) (af (fL cH (af (ah 1) (aq))) (aq))))) (aq))))))
abbrev kz:QD:=inClass (top 17) 3
theorem pX:bc ["self","form","table"] ["self","form","table"] (aB kz):=‹2›
def bi:cB:=bC (fL cH (af (nG [none,none] (kS (fR (aF iO 2 4) (af (f1 (jq "many" ["Nest"]) (ah 0)) (af (ah 2) (aq))))) (gT 2 (uE [0,1])) (eS) (f2 ce (ah 0) (bH (af (ah 1) (aq))))) (aq)))
abbrev eL:QD:=inClass (top 14) 1
theorem jk:bc ["self","form"] ["self","form"] (aB eL):=‹2›
def aN:cB:=bC (ah 1)
abbrev kD:QD:=top 7
theorem wX:bc ["form"] ["form"] (aB kD):=‹2›
abbrev i3:QD:=top 10
theorem xf:bc ["form"] ["form"] (aB i3):=‹2›
def iQ (bj:List D->R D):cB:=bC (f1 (pZ 0) (nG [none] (cA (fR (aF dM 1 1) (af (ah 0) (aq)))) (gN 0) (fB (f2 kN (f2 aQ (ah 0) (fC (.int 0))) (fC (.str "rows")))) (f2 ce (fC (.int 1)) (fR bj (af (f2 aQ (ah 0) (fC (.int 1))) (aq))))))
def bj:Nat->List D->R D
 | 0=>fun _=>un
 | n+1=>aF (iQ (bj n)) 1 1
theorem eX (n:Nat):bj (n+1)=aF (iQ (bj n)) 1 1:=by rw [bj]
theorem m7:∀ n:Nat,Ar 1 (bj n)
 | 0=>fun _ h=>absurd (by rw [bj]) h
 | n+1=>by rw [eX]; exact aP
abbrev j6:QD:=top 6
theorem vJ:bc ["value"] ["value"] (aB j6):=‹2›
def i6:cB:=bC (pY (nE "int" (ah 0)) (zr (nE "bool" (ah 0))))
abbrev eP:QD:=inClass (top 17) 2
theorem jh:bc ["self","form","key","inner"] ["self","form"] (aB eP):=‹2›
def aH:cB:=aG (jb (si (gf (bX (fR (aF i6 1 1) (af (f1 (jq "many" ["Nest"]) (ah 0)) (aq))))) (gf (fB (rq Ml su (fC (.int 1)) (f1 (jq "many" ["Nest"]) (ah 0)) (fL jH (af (f2 aQ (ah 1) (fC (.int 0))) (aq))))))) (vF) (cz)) (aG (bW 2 (bn (f2 aQ (ah 1) (fC (.int 0))) (aU) (bU (f1 (jq "many" ["Nest"]) (ah 0))))) (aG (jb (fB (f2 HI (f1 (jq "name" ["Nest"]) (ah 0)) (nG [none] (cA (ah 2)) (gN 0) (eS) (f2 aQ (ah 0) (fC (.int 0)))))) (vF) (cz)) (aG (bW 3 (bH (af (bn (f2 aQ (ah 1) (fC (.int 0))) (bU (f1 (jq "many" ["Nest"]) (ah 0))) (aU)) (af (f2 aQ (ah 1) (fC (.int 1))) (aq))))) (aG (jb (fB (f2 Mj (fR (bj 20) (af (ah 3) (aq))) (fC (.int 3)))) (vF) (cz)) (bC (bH (af (ah 2) (af (bH (af (bH (af (f1 (jq "name" ["Nest"]) (ah 0)) (af (bH (af (fC (.str "rows")) (af (ah 3) (af (fC (.bl true)) (aq))))) (aq)))) (aq))) (aq)))))))))
abbrev j8:QD:=inClass (top 14) 3
theorem vV:bc ["self","form","table","view"] ["self","form","table","view"] (aB j8):=‹2›
def fg:cB:=bC (ah 3)
abbrev kT:QD:=top 18
theorem v7:bc ["many","table","rows","row"] ["many","table"] (aB kT):=‹2›
def iR:cB:=aG (n5 2 (ki (aq))) (aG (kK (cA (ah 1)) (gN 3) (aG (CO 2 (nG [none,some 3,some 0] (cA (f2 aQ (ah 3) (ah 0))) (gN 0) (eS) (f2 ce (bn (ah 1) (aU) (bU (ah 2))) (ah 0)))) (fK [3] cz))) (iq 2 (bC (fL cH (af (ah 2) (aq))))))
abbrev kH:QD:=inClass (top 17) 4
theorem vT:bc ["self","form","table","view"] ["self","form","table","view"] (aB kH):=‹2›
def dP:cB:=bC (fR (aF iR 2 4) (af (f1 (jq "many" ["Nest"]) (ah 0)) (af (ah 3) (aq))))
abbrev jn:QD:=top 21
theorem vz:bc ["_law_x"] ["_law_x"] (aB jn):=‹2›
abbrev gQ:QD:=top 29
theorem qF:bc ["_law_many","_law_rows_here","_law_found","_law_row_here"] ["_law_many","_law_rows_here"] (aB gQ):=‹2›
noncomputable def bI:cB:=aG (n5 2 uB) (aG (kK (cA (ah 1)) (gN 3) (aG (rA 2 (bn (ah 3) (aU) (bU (ah 0))) (ah 3)) (fK [3] cz))) (iq 2 (bC (fL cH (af (nG [none,some 2] (cA (fL e7 (af (fL lJ (af (ah 2) (aq))) (aq)))) (gN 0) (eS) (f2 yq (ah 1) (ah 0))) (aq))))))
abbrev fW:QD:=top 27
theorem sI:bc ["_law_kind_here","_law_x"] ["_law_kind_here","_law_x"] (aB fW):=‹2›
abbrev iU:QD:=top 28
theorem vW:bc ["_law_form_here","_law_many","_law_head","_law_tail","_law_row_here","_law_name_here","_law_kind_here"] ["_law_form_here","_law_many","_law_head","_law_tail"] (aB iU):=‹2›
abbrev hV:QD:=top 30
theorem uC:bc ["_law_form_here","_law_x","_law_many","_law_rows_here","_law_k"] ["_law_form_here","_law_x","_law_many"] (aB hV):=‹2›
noncomputable def fN (aA aE aC:List D->R D):cB:=aG (jb (fB (f2 kN (f2 aQ (ah 0) (fC (.int 0))) (fC (.str "number")))) (bC (f2 ce (f2 aQ (ah 0) (fC (.int 1))) (f2 cP (f2 qc (ah 1) (fC (.int 7))) (f2 ce (f2 x6 (f2 aQ (ah 0) (fC (.int 2))) (f2 aQ (ah 0) (fC (.int 1)))) (fC (.int 1)))))) (cz)) (aG (jb (fB (f2 kN (f2 aQ (ah 0) (fC (.int 0))) (fC (.str "word")))) (bC (f2 aQ (f2 aQ (ah 0) (fC (.int 1))) (f2 cP (ah 1) (fL jH (af (f2 aQ (ah 0) (fC (.int 1))) (aq)))))) (cz)) (bC (fR aC (af (f2 aQ (ah 0) (fC (.int 1))) (af (f2 dY (ah 1) (fC (.int 3))) (af (fL qW (af (f2 cP (ah 1) (fC (.int 3))) (af (fL zv (af (f2 aQ (ah 0) (fC (.int 2))) (aq))) (aq)))) (aq)))))))
noncomputable def kj (aA aE aC:List D->R D):cB:=aG (n5 4 (ki (aq))) (aG (kK (cA (f2 ce (f2 aQ (ah 0) (fC (.int 0))) (f2 aQ (ah 0) (fC (.int 1))))) (gT 2 (uE [5,6])) (aG (jb (lm [4] (fB (f2 su (fL jH (af (ah 4) (aq))) (ah 1)))) (aG (bW 2 (fR (aF aW 1 1) (af (ah 2) (aq)))) (AH 4 gx (af (fR aA (af (ah 6) (af (ah 2) (aq)))) (aq)))) (aG (bW 3 (fR (aF aW 1 1) (af (ah 3) (aq)))) (AH 4 gx (af (fR aA (af (ah 6) (af (ah 3) (aq)))) (aq))))) (fK [5,6] cz))) (iq 4 (bC (fL cH (af (ah 4) (aq))))))
noncomputable def h7 (aA aE aC:List D->R D):cB:=aG (n5 3 (ki (aq))) (aG (kK (gX (af (ah 2) (aq))) (gN 4) (aG (bW 1 (fR (aF aW 1 1) (af (ah 1) (aq)))) (aG (AH 3 gx (af (fR aE (af (ah 0) (af (fC (.int 0)) (af (fC (.int 0)) (af (ah 1) (aq)))))) (aq))) (fK [4] cz)))) (iq 3 (bC (fR (aF bI 2 4) (af (fL jH (af (f2 aQ (ah 0) (fC (.int 0))) (aq))) (af (ah 3) (aq)))))))
mutual
noncomputable def aA:Nat->List D->R D
 | 0=>fun _=>un
 | n+1=>aF (fN (aA n) (aE n) (aC n)) 2 2
noncomputable def aE:Nat->List D->R D
 | 0=>fun _=>un
 | n+1=>aF (kj (aA n) (aE n) (aC n)) 4 7
noncomputable def aC:Nat->List D->R D
 | 0=>fun _=>un
 | n+1=>aF (h7 (aA n) (aE n) (aC n)) 3 5
end
theorem eE (n:Nat):aA (n+1)=aF (fN (aA n) (aE n) (aC n)) 2 2:=by rw [aA]
theorem ig:∀ n:Nat,Ar 2 (aA n)
 | 0=>fun _ h=>absurd (by rw [aA]) h
 | n+1=>by rw [eE]; exact aP
theorem il (n:Nat):aE (n+1)=aF (kj (aA n) (aE n) (aC n)) 4 7:=by rw [aE]
theorem gW:∀ n:Nat,Ar 4 (aE n)
 | 0=>fun _ h=>absurd (by rw [aE]) h
 | n+1=>by rw [il]; exact aP
theorem eN (n:Nat):aC (n+1)=aF (h7 (aA n) (aE n) (aC n)) 3 5:=by rw [aC]
theorem fJ:∀ n:Nat,Ar 3 (aC n)
 | 0=>fun _ h=>absurd (by rw [aC]) h
 | n+1=>by rw [eN]; exact aP
abbrev iC:QD:=top 35
theorem sj:bc ["_law_step","_law_form_here","_law_many","_law_extra","_law_x","_law_other","_law_due","_law_table_here","_law_view"] ["_law_step","_law_form_here","_law_many","_law_extra","_law_x"] (aB iC):=‹2›
noncomputable def dN:cB:=aG (bW 5 (bH (af (f2 ce (f2 aQ (ah 1) (fC (.int 0))) (bH (af (bH (af (ah 3) (af (bH (af (fC (.str "number")) (af (fC (.int 0)) (af (fC (.int 9)) (aq))))) (aq)))) (aq)))) (af (bn (f2 aQ (ah 1) (fC (.int 1))) (aU) (bU (fC (.int 1)))) (aq))))) (aG (jb (fB (f2 kN (fL jH (af (f2 aQ (ah 1) (fC (.int 0))) (aq))) (fC (.int 8)))) (bW 5 (bH (af (bn (f2 aQ (ah 1) (fC (.int 0))) (aU) (bU (f2 ce (ah 2) (fC (.int 1))))) (af (bn (f2 aQ (ah 1) (fC (.int 1))) (bU (fC (.int 1))) (aU)) (aq))))) (cz)) (aG (bW 6 (bH (af (bn (f2 aQ (ah 5) (fC (.int 0))) (aU) (bU (ah 2))) (af (bH (af (bH (af (f1 (jq "name" ["Nest"]) (ah 0)) (af (bH (af (fC (.str "rows")) (af (bH (af (bn (f2 aQ (ah 5) (fC (.int 0))) (bU (ah 2)) (aU)) (af (f2 aQ (ah 5) (fC (.int 1))) (aq)))) (af (fC (.bl true)) (aq))))) (aq)))) (aq))) (aq))))) (aG (bW 7 (fR (aC 20) (af (ah 5) (af (ah 4) (af (fC (.int 5)) (aq)))))) (aG (bW 8 (fR (aF bA 2 6) (af (ah 7) (af (ah 2) (aq))))) (aG (jb (si (gf (bX (fR (aw 20) (af (cn "view_form" [("Step",(aF aN 2 2)),("Nest",(aF aH 2 4))] (ah 0) (af (ah 5) (aq))) (af (ah 6) (aq)))))) (gf (bX (fR (aw 20) (af (cn "got" [("Step",(aF bG 3 3)),("Nest",(aF bi 3 3))] (ah 0) (af (ah 5) (af (ah 7) (aq)))) (af (ah 8) (aq))))))) (bC (fC (.bl false))) (cz)) (bC (fR (aw 20) (af (cn "put" [("Step",(aF fg 4 4)),("Nest",(aF dP 4 4))] (ah 0) (af (ah 5) (af (bH (aq)) (af (ah 8) (aq))))) (af (ah 7) (aq))))))))))
abbrev jd:QD:=top 23
theorem vt:bc ["_law_base","_law_k","_law_letters","_law_size","_law_name_here","_law_j","_law_step"] ["_law_base","_law_k"] (aB jd):=‹2›
abbrev fT:QD:=top 20
theorem qa:bc ["_law_script","_law_k"] ["_law_script","_law_k"] (aB fT):=‹2›
abbrev gP:QD:=inClass (top 14) 5
theorem lN:bc ["self","form"] ["self","form"] (aB gP):=‹2›
def bB:cB:=bC (fC (.bl true))
abbrev iA:QD:=inClass (top 14) 4
theorem m9:bc ["self","form"] ["self","form"] (aB iA):=‹2›
def bP:cB:=bC (fC (.bl true))
abbrev iD:QD:=inClass (top 14) 0
theorem sQ:bc ["self"] ["self"] (aB iD):=‹2›
def dR:cB:=bC (bH (aq))
abbrev md:QD:=top 15
theorem x9:bc ["value"] ["value"] (aB md):=‹2›
abbrev iE:QD:=inClass (top 17) 1
theorem sU:bc ["self"] ["self"] (aB iE):=‹2›
def cZ:cB:=bC (bH (af (fC (.str "nest")) (af (fR (aF jt 1 1) (af (f1 (jq "many" ["Nest"]) (ah 0)) (aq))) (af (f1 (jq "name" ["Nest"]) (ah 0)) (aq)))))
abbrev jl:QD:=top 22
theorem uJ:bc ["_law_script","_law_k","_law_x"] ["_law_script","_law_k"] (aB jl):=‹2›
abbrev iH:QD:=top 31
theorem sC:bc ["_law_form_here","_law_many","_law_script","_law_start","_law_most","_law_rows_here","_law_k","_law_x"] ["_law_form_here","_law_many","_law_script","_law_start","_law_most"] (aB iH):=‹2›
noncomputable def ga:cB:=aG (n5 5 (ki (aq))) (aG (kK (qt (af (ah 3) (af (fL vS (af (fL qW (af (fL jH (af (ah 2) (aq))) (af (f2 ce (ah 3) (fC (.int 5))) (aq)))) (af (f2 ce (ah 3) (ah 4)) (aq)))) (aq)))) (gN 6) (aG (bW 7 (fR (aF cN 2 3) (af (ah 2) (af (ah 6) (aq))))) (aG (AH 5 gx (af (fR (aE 20) (af (ah 0) (af (ah 1) (af (f2 aQ (ki (af (f2 cP (f2 dY (ah 7) (fC (.int 2))) (fC (.int 4))) (af (f2 dY (ah 7) (fC (.int 2))) (aq)))) (f2 cP (ah 7) (fC (.int 2)))) (af (fR (aF aW 1 1) (af (ah 7) (aq))) (aq)))))) (aq))) (fK [6,7] cz)))) (iq 5 (bC (fR (aF bI 2 4) (af (fL jH (af (f2 aQ (ah 0) (fC (.int 0))) (aq))) (af (ah 5) (aq)))))))
abbrev iB:QD:=top 24
theorem sR:bc ["_law_x","_law_low","_law_letters","_law_one","_law_other","_law_some","_law_kept","_law_k"] ["_law_x"] (aB iB):=‹2›
abbrev ib:QD:=top 25
theorem uH:bc ["_law_x","_law_base","_law_deep","_law_inner"] ["_law_x","_law_base","_law_deep"] (aB ib):=‹2›
abbrev ie:QD:=top 26
theorem uX:bc ["_law_x","_law_base","_law_start","_law_many","_law_more","_law_deep","_law_key","_law_rest","_law_k"] ["_law_x","_law_base","_law_start","_law_many","_law_more","_law_deep"] (aB ie):=‹2›
noncomputable def hJ (aV aL:List D->R D):cB:=aG (jb (si (fB (f2 kN (ah 2) (fC (.int 0)))) (fB (f2 su (f2 cP (ah 0) (fC (.int 3))) (fC (.int 2))))) (bC (fR (aF dh 1 8) (af (f2 dY (ah 0) (fC (.int 3))) (aq)))) (cz)) (aG (bW 3 (fR aL (af (f2 dY (ah 0) (fC (.int 3))) (af (ah 1) (af (f2 cP (f2 dY (ah 0) (fC (.int 36))) (fC (.int 12))) (af (f2 ce (fC (.int 1)) (f2 cP (f2 dY (ah 0) (fC (.int 3))) (fC (.int 2)))) (af (f2 cP (f2 dY (ah 0) (fC (.int 6))) (fC (.int 3))) (af (f2 x6 (ah 2) (fC (.int 1))) (aq))))))))) (bC (bH (af (fC (.str "rows")) (af (ah 3) (af (f2 kN (f2 cP (f2 dY (ah 0) (fC (.int 18))) (fC (.int 2))) (fC (.int 1))) (aq)))))))
noncomputable def jg (aV aL:List D->R D):cB:=aG (n5 6 (ki (aq))) (aG (n5 7 (ki (aq))) (aG (kK (gX (af (f2 ce (ah 3) (ah 4)) (aq))) (gN 8) (aG (bW 0 (fR (aF aW 1 1) (af (ah 0) (aq)))) (aG (jb (fB (f2 su (ah 8) (ah 3))) (AH 6 gx (af (bH (af (fR (aF bD 2 7) (af (ah 1) (af (f2 ce (ah 2) (ah 8)) (aq)))) (af (fR (aF dh 1 8) (af (ah 0) (aq))) (aq)))) (aq))) (AH 7 gx (af (bH (af (fR (aF bD 2 7) (af (ah 1) (af (f2 ce (ah 2) (ah 8)) (aq)))) (af (fR aV (af (ah 0) (af (ah 1) (af (ah 5) (aq))))) (aq)))) (aq)))) (fK [8] cz)))) (iq 7 (iq 6 (bC (bH (af (fL cH (af (ah 6) (aq))) (af (fL cH (af (ah 7) (aq))) (aq)))))))))
mutual
noncomputable def aV:Nat->List D->R D
 | 0=>fun _=>un
 | n+1=>aF (hJ (aV n) (aL n)) 3 4
noncomputable def aL:Nat->List D->R D
 | 0=>fun _=>un
 | n+1=>aF (jg (aV n) (aL n)) 6 9
end
theorem eO (n:Nat):aV (n+1)=aF (hJ (aV n) (aL n)) 3 4:=by rw [aV]
theorem lU:∀ n:Nat,Ar 3 (aV n)
 | 0=>fun _ h=>absurd (by rw [aV]) h
 | n+1=>by rw [eO]; exact aP
theorem gO (n:Nat):aL (n+1)=aF (jg (aV n) (aL n)) 6 9:=by rw [aL]
theorem iS:∀ n:Nat,Ar 6 (aL n)
 | 0=>fun _ h=>absurd (by rw [aL]) h
 | n+1=>by rw [gO]; exact aP
abbrev eD:QD:=top 33
theorem nz:bc ["_law_script","_law_fewest","_law_x","_law_base","_law_many","_law_more","_law_deep"] ["_law_script","_law_fewest"] (aB eD):=‹2›
noncomputable def dB:cB:=aG (bW 2 (fR (aF cN 2 3) (af (ah 0) (af (fC (.int 0)) (aq))))) (aG (bW 3 (f2 cP (f2 jD (fR (aF bz 2 2) (af (ah 0) (af (fC (.int 1)) (aq)))) (fC (.int 48271))) (fC (.int 2147483647)))) (aG (bW 4 (f2 ce (ah 1) (f2 cP (ah 2) (f2 x6 (fC (.int 5)) (ah 1))))) (aG (bW 5 (f2 cP (f2 dY (ah 2) (fC (.int 8))) (fC (.int 4)))) (aG (bW 6 (f2 aQ (ki (af (fC (.int 0)) (af (fC (.int 0)) (af (fC (.int 1)) (af (fC (.int 2)) (aq)))))) (f2 cP (f2 dY (ah 2) (fC (.int 32))) (fC (.int 4))))) (aG (jb (fB (f2 kN (f2 cP (f2 dY (ah 2) (fC (.int 128))) (fC (.int 8))) (fC (.int 3)))) (aG (bW 4 (f2 x6 (fC (.int 8)) (f2 cP (f2 dY (ah 2) (fC (.int 1024))) (fC (.int 3))))) (aG (bW 5 (f2 cP (f2 dY (ah 2) (fC (.int 4096))) (fC (.int 9)))) (bW 6 (fC (.int 0))))) (cz)) (bC (fR (aL 20) (af (fR (aF aW 1 1) (af (ah 2) (aq))) (af (ah 3) (af (fC (.int 0)) (af (ah 4) (af (ah 5) (af (ah 6) (aq))))))))))))))
abbrev qY:QD:=top 36
theorem Hc:bc ["_law_script","_law_form_here","_law_x","_law_many","_law_table_here","_law_name_here","_law_further","_law_step","_law_due","_law_extra"] ["_law_script"] (aB qY):=‹2›
noncomputable def rG:cB:=aG (bW 1 (fR (aF dB 2 7) (af (ah 0) (af (fC (.int 2)) (aq))))) (aG (bW 2 (fR (aF aW 1 1) (af (fR (aF cN 2 3) (af (ah 0) (af (fC (.int 2)) (aq)))) (aq)))) (aG (bW 3 (f2 ce (fC (.int 1)) (f2 cP (ah 2) (f2 x6 (fL jH (af (f2 aQ (ah 1) (fC (.int 0))) (aq))) (fC (.int 1)))))) (aG (bW 4 (fR (aF ga 5 8) (af (ah 1) (af (ah 3) (af (ah 0) (af (fC (.int 2)) (af (fC (.int 60)) (aq)))))))) (aG (bW 5 (fR (aF bD 2 7) (af (f2 cP (f2 jD (fR (aF bz 2 2) (af (ah 0) (af (fC (.int 1)) (aq)))) (fC (.int 48271))) (fC (.int 2147483647))) (af (f2 ce (fC (.int 17)) (f2 cP (f2 dY (ah 2) (fC (.int 8))) (fC (.int 6)))) (aq))))) (aG (jb (fB (f2 kN (f2 cP (f2 dY (ah 2) (fC (.int 64))) (fC (.int 3))) (fC (.int 1)))) (aG (bW 6 (f2 ce (bn (f2 aQ (ah 1) (fC (.int 0))) (bU (ah 3)) (aU)) (f2 aQ (ah 1) (fC (.int 1))))) (bW 5 (f2 aQ (f2 aQ (ah 6) (f2 cP (f2 dY (ah 2) (fC (.int 256))) (fL jH (af (ah 6) (aq))))) (fC (.int 0))))) (cz)) (aG (bW 7 (fNew "Nest" ["many","name"] (af (ah 3) (af (ah 5) (aq))))) (aG (bW 8 (bH (af (bn (f2 aQ (ah 1) (fC (.int 0))) (aU) (bU (ah 3))) (af (bH (af (bH (af (ah 5) (af (bH (af (fC (.str "rows")) (af (bH (af (bn (f2 aQ (ah 1) (fC (.int 0))) (bU (ah 3)) (aU)) (af (f2 aQ (ah 1) (fC (.int 1))) (aq)))) (af (fC (.bl true)) (aq))))) (aq)))) (aq))) (aq))))) (aG (jb (si (gf (bX (fR (aw 20) (af (cn "view_form" [("Step",(aF aN 2 2)),("Nest",(aF aH 2 4))] (ah 7) (af (ah 1) (aq))) (af (ah 8) (aq)))))) (gf (bX (fR (aw 20) (af (cn "words" [("Step",(aF dR 1 1)),("Nest",(aF cZ 1 1))] (ah 7) aq) (af (bH (af (fC (.str "nest")) (af (fL yi (af (ah 3) (aq))) (af (ah 5) (aq))))) (aq))))))) (bC (fC (.bl false))) (cz)) (aG (jb (si (fB (f2 iz (cn "exact" [("Step",(aF bP 2 2)),("Nest",(aF bP 2 2))] (ah 7) (af (ah 1) (aq))) (fC (.bl true)))) (fB (f2 iz (cn "steady" [("Step",(aF bB 2 2)),("Nest",(aF bB 2 2))] (ah 7) (af (ah 1) (aq))) (fC (.bl true))))) (bC (fC (.bl false))) (cz)) (aG (jb (si (gf (bX (fR (aw 20) (af (cn "got" [("Step",(aF bG 3 3)),("Nest",(aF bi 3 3))] (ah 7) (af (ah 1) (af (ah 4) (aq)))) (af (fR (aF bA 2 6) (af (ah 4) (af (ah 3) (aq)))) (aq)))))) (fB (f2 Bu (cn "got" [("Step",(aF bG 3 3)),("Nest",(aF bi 3 3))] (ah 7) (af (ah 1) (af (bH (aq)) (aq)))) (bH (aq))))) (bC (fC (.bl false))) (cz)) (aG (bW 9 (fR (aF bD 2 7) (af (f2 cP (f2 jD (fR (aF bz 2 2) (af (ah 0) (af (fC (.int 1)) (aq)))) (fC (.int 48271))) (fC (.int 2147483647))) (af (fC (.int 23)) (aq))))) (aG (jb (si (gf (bX (fR (aF dN 5 9) (af (ah 7) (af (ah 1) (af (ah 3) (af (ah 9) (af (ah 2) (aq))))))))) (gf (bX (fR (aw 20) (af (cn "view_form" [("Step",(aF aN 2 2)),("Nest",(aF aH 2 4))] (ah 7) (af (ah 1) (aq))) (af (ah 8) (aq))))))) (bC (fC (.bl false))) (cz)) (bC (fR (aw 20) (af (cn "got" [("Step",(aF bG 3 3)),("Nest",(aF bi 3 3))] (ah 7) (af (ah 1) (af (ah 4) (aq)))) (af (fR (aF bA 2 6) (af (ah 4) (af (ah 3) (aq)))) (aq)))))))))))))))))
theorem KY:(["_law_row_here","_law_many","_law_first"]:List Str).Nodup:=by decide +kernel
theorem Id:(["key","within"]:List Str).Nodup:=by decide +kernel
theorem HP:(["key","within"]:List Str).Nodup:=by decide +kernel
theorem Kh:(["field"]:List Str).Nodup:=by decide +kernel
theorem Lf:(["kind"]:List Str).Nodup:=by decide +kernel
theorem L4:(["field"]:List Str).Nodup:=by decide +kernel
theorem Lr:(["within","row","many"]:List Str).Nodup:=by decide +kernel
theorem Kg:(["_law_key","_law_found"]:List Str).Nodup:=by decide +kernel
section
variable {P:Qq} {w:Qp} {K:Pj} {mg:Str->Option Qo} {base:Qt}
theorem sr {n:Nat} {f:Qr} (aZ:mg "isinstance"=none) (ji:mg "str"=none) (ik:mg "bool"=none) (fD:mg "int"=none) (aM:mg "tuple"=none) (cv:mg "len"=none) (tU:mg "zip"=none) {aw:List D->R D} (bN:Callee P w K mg base (0+n) "_law_alike" ["_law_found","_law_due"] aw) (L__law_alike:Ar 2 aw):cT P w K mg base (0+n) ["_law_found","_law_due","_law_one","_law_other"] "_law_alike" fQ f (cx aw) :=
 ⟨fun cdv A outer s H E hr hp=>(ak (cF (cE (eY rC rfl aZ rfl ji Qd (ae (xv 1)))) (az (aK (nZ (eY rC rfl aZ rfl ji Qd (ae (xv 0))) (qo (qj (eQ hr.units) ax (ae (xv 0)) (ae (xv 1)) (cW _)))))) (aX)) (ak (cF (DJ (j4 (cE (eY jS rfl aZ rfl ik Qe (ae (xv 1)))) (iu (cE (eY jS rfl aZ rfl ik Qe (ae (xv 0))))))) (az (aK (nZ (eY jS rfl aZ rfl ik Qe (ae (xv 1))) (nZ (eY jS rfl aZ rfl ik Qe (ae (xv 0))) (qo (qj (eQ hr.units) ax (ae (xv 0)) (ae (xv 1)) (cW _))))))) (aX)) (ak (cF (cE (eY rS rfl aZ rfl fD Qf (ae (xv 1)))) (az (aK (nZ (eY rS rfl aZ rfl fD Qf (ae (xv 0))) (qo (qj (eQ hr.units) ax (ae (xv 0)) (ae (xv 1)) (cW _)))))) (aX)) (ak (cF (DJ (j4 (fV (cE (eY xU rfl aZ rfl aM Qg (ae (xv 0))))) (iu (cu (BP hr.units) ax (bT du rfl cv PySem.boot_len (aa (ae (xv 0)) (aj))) (bT du rfl cv PySem.boot_len (aa (ae (xv 1)) (aj))) (cW _))))) (az (aK (eA))) (aX)) (ak (eZ hp rfl (Ep rfl tU (aa (ae (xv 0)) (aa (ae (xv 1)) (aj)))) (qq (g:=uE [2,3]) rfl (fE (bM (i:=2) sA.nd rfl ‹1›) (fE (bM (i:=3) sA.nd rfl ‹1›) (nT)))) (ak (cF (fV (cE (ay bN L__law_alike hr ‹0› (aa (ae (xv 2)) (aa (ae (xv 3)) (aj)))))) (az (aK (eA))) (aX)) (dA [2,3] aX))) (az (aK (eA))))))))⟩
theorem lT {f__law_alike:Qr} {fd__law_alike:QY} (F__law_alike:vC K "_law_alike" "_law_alike" fQ f__law_alike fd__law_alike) (kG:Binds K fd__law_alike ["_law_found","_law_due"] []) (m__law_alike:mg "_law_alike"=some (.ref f__law_alike)) (aZ:mg "isinstance"=none) (ji:mg "str"=none) (ik:mg "bool"=none) (fD:mg "int"=none) (aM:mg "tuple"=none) (cv:mg "len"=none) (tU:mg "zip"=none):∀ n:Nat,Callee P w K mg base (0+n) "_law_alike" ["_law_found","_law_due"] (aw n)
 | 0=>by
  rw [aw]
  exact eI 0 F__law_alike kG m__law_alike
 | n+1=>by
  have ih:=lT F__law_alike kG m__law_alike aZ ji ik fD aM cv tU n
  rw [jm]
  exact bE F__law_alike kG m__law_alike sA (cT.ok (sr aZ ji ik fD aM cv tU ih (bZ n)))
theorem rR {f:Qr} (fS:mg "sorted"=none) (kQ:mg "list"=none) (aM:mg "tuple"=none):cT P w K mg base 0 ["_law_table_here","_law_many","_law_firsts","_law_row_here","_law_found","_law_first"] "_law_nested" gU f bA :=
 ⟨fun cdv A outer s H E hr hp=>(ak (gY (i:=2) rK.nd rfl ‹1› (oW)) (ak (eZ hp rfl (eV (ae (xv 0))) (bM (i:=3) rK.nd rfl ‹1›) (az (vE (hr.units) (xv 2) (cj (ae (xv 3)) (cK) (cJ (ae (xv 1)))) (eA)))) (ak (gY (i:=4) rK.nd rfl ‹1› (kE (aj))) (eU 2 (ak (eZ hp rfl (eV (bT kL rfl fS kO (aa (bL (rZ rfl) rfl kQ Qh (aa (ae (xv 2)) (aj))) (aj)))) (bM (i:=5) rK.nd rfl ‹1›) (ak (nA Qm Qn eM gI (xv 4) (aa (ao bh ax (ae (xv 5)) (bu (aa (bL cL rfl aM Qg (aa (ny (N:=["_law_row_here","_law_many","_law_first"]) (ix:=[none,some 1,some 5]) rfl (.of rfl) (iP rfl) (eV (ae (xv 0))) ⟨fun _ _ _ _ _ _=>⟨bM (i:=0) KY rfl (Or.inl rfl),xh (cu (eQ hr.units) ax (cj (ae (xv 0)) (cK) (cJ (ae (xv 1)))) (ae (xv 2)) (cW _)),cj (ae (xv 0)) (cJ (ae (xv 1))) (cK)⟩⟩) (aj))) (aj)))) (aj))) (dA [5] aX))) (eU 4 (az (aK (bL cL rfl aM Qg (aa (ae (xv 4)) (aj)))))))))))⟩
theorem xA {f:Qr} :cT P w K mg base 0 ["self","form","table"] "Step.got" kC f bG :=
 ⟨fun cdv A outer s H E hr hp=>(az (aK (ae (xv 2))))⟩
theorem xX {f:Qr} (yn:mg "dict"=none) (aM:mg "tuple"=none):cT P w K mg base 0 ["many","rows","groups","row"] "grouped" lX f iO :=
 ⟨fun cdv A outer s H E hr hp=>(ak (Dd (i:=2) yE.nd rfl ‹1›) (ak (eZ hp rfl (eV (ae (xv 1))) (bM (i:=3) yE.nd rfl ‹1›) (ak (D8 hr.units (xv 2) (cj (ae (xv 3)) (cK) (cJ (ae (xv 0)))) (cj (ae (xv 3)) (cJ (ae (xv 0))) (cK))) (dA [3] aX))) (zW 2 (az (aK (bL (yp rfl hr.units) rfl yn PyProof.Rows.boot_dict (aa (ny (N:=["key","within"]) (ix:=[none,none]) rfl (.of rfl) (sd rfl) (tQ (ae (xv 2))) ⟨fun _ _ _ _ _ _=>⟨qq (g:=uE [0,1]) rfl (fE (bM (i:=0) Id rfl (Or.inl rfl)) (fE (bM (i:=1) Id rfl (Or.inl rfl)) (nT))),jI,bu (aa (ae (xv 0)) (aa (bL cL rfl aM Qg (aa (ae (xv 1)) (aj))) (aj)))⟩⟩) (aj))))))))⟩
theorem wc {f:Qr} (pp:Callee P w K mg base 1 "grouped" ["many","rows"] (aF iO 2 4)) (bF:lg K "many" ["Nest"]) (aM:mg "tuple"=none):cT P w K mg base 1 ["self","form","table"] "Nest.got" kz f bi :=
 ⟨fun cdv A outer s H E hr hp=>(az (aK (bL cL rfl aM Qg (aa (ny (N:=["key","within"]) (ix:=[none,none]) rfl (.of rfl) (sd rfl) (tQ (ay pp aP hr ‹0› (aa (fO bF (ae (xv 0))) (aa (ae (xv 2)) (aj))))) ⟨fun _ _ _ _ _ _=>⟨qq (g:=uE [0,1]) rfl (fE (bM (i:=0) HP rfl (Or.inl rfl)) (fE (bM (i:=1) HP rfl (Or.inl rfl)) (nT))),jI,ao bh ax (ae (xv 0)) (bu (aa (ae (xv 1)) (aj)))⟩⟩) (aj)))))⟩
theorem nX {f:Qr} :cT P w K mg base 0 ["self","form"] "Step.view_form" eL f aN :=
 ⟨fun cdv A outer s H E hr hp=>(az (aK (ae (xv 1))))⟩
theorem wN {f:Qr} (aM:mg "tuple"=none):cT P w K mg base 0 ["form"] "kinds_of" kD f dM :=
 ⟨fun cdv A outer s H E hr hp=>(az (aK (bL cL rfl aM Qg (aa (ny (N:=["field"]) (ix:=[none]) rfl (.of rfl) (iP rfl) (eV (ao bh ax (bd (ae (xv 0)) (ai) (fun _ _=>rfl)) (bd (ae (xv 0)) (ai) (fun _ _=>rfl)))) ⟨fun _ _ _ _ _ _=>⟨bM (i:=0) Kh rfl (Or.inl rfl),jI,bd (ae (xv 0)) (ai) (fun _ _=>rfl)⟩⟩) (aj)))))⟩
theorem wH {n:Nat} {f:Qr} (gG:Callee P w K mg base 1 "kinds_of" ["form"] (aF dM 1 1)) (fY:mg "max"=none) {bj:List D->R D} (iW:Callee P w K mg base (1+n) "depth_of" ["form"] bj) (L_depth_of:Ar 1 bj):cT P w K mg base (1+n) ["form"] "depth_of" i3 f (iQ bj) :=
 ⟨fun cdv A outer s H E hr hp=>(az (aK (BR rfl rfl fY (ny (N:=["kind"]) (ix:=[none]) rfl (.of rfl) (iP rfl) (eV (ay gG aP hr ‹0› (aa (ae (xv 0)) (aj)))) ⟨fun _ _ _ _ _ _=>⟨bM (i:=0) Lf rfl (Or.inl rfl),xh (cu (eQ hr.units) ax (bd (ae (xv 0)) (ai) (fun _ _=>rfl)) (dC) (cW _)),ao bh ax (ai) (ay iW L_depth_of hr ‹0› (aa (bd (ae (xv 0)) (ai) (fun _ _=>rfl)) (aj)))⟩⟩))))⟩
theorem ou {f_depth_of:Qr} {fd_depth_of:QY} (F_depth_of:vC K "depth_of" "depth_of" i3 f_depth_of fd_depth_of) (nM:Binds K fd_depth_of ["form"] []) (m_depth_of:mg "depth_of"=some (.ref f_depth_of)) (gG:Callee P w K mg base 1 "kinds_of" ["form"] (aF dM 1 1)) (fY:mg "max"=none):∀ n:Nat,Callee P w K mg base (1+n) "depth_of" ["form"] (bj n)
 | 0=>by
  rw [bj]
  exact eI 1 F_depth_of nM m_depth_of
 | n+1=>by
  have ih:=ou F_depth_of nM m_depth_of gG fY n
  rw [eX]
  exact bE F_depth_of nM m_depth_of xf (cT.ok (wH gG fY ih (m7 n)))
theorem xj {f:Qr} (aZ:mg "isinstance"=none) (fD:mg "int"=none) (ik:mg "bool"=none):cT P w K mg base 0 ["value"] "is_whole" j6 f i6 :=
 ⟨fun cdv A outer s H E hr hp=>(az (aK (nZ (eY rS rfl aZ rfl fD Qf (ae (xv 0))) (qo (DS (eY jS rfl aZ rfl ik Qe (ae (xv 0))))))))⟩
theorem oq {f:Qr} (nw:Callee P w K mg base 1 "is_whole" ["value"] (aF i6 1 1)) (iW:Callee P w K mg base 21 "depth_of" ["form"] (bj 20)) (bF:lg K "many" ["Nest"]) (cI:lg K "name" ["Nest"]) (cv:mg "len"=none) (c_MOST_WITHIN:∃ t,mg "MOST_WITHIN"=some (.int 3 t)):cT P w K mg base 21 ["self","form","key","inner"] "Nest.view_form" eP f aH :=
 ⟨fun cdv A outer s H E hr hp=>(ak (cF (DJ (j4 (fV (cE (ay nw aP hr ‹0› (aa (fO bF (ae (xv 0))) (aj))))) (iu (fV (Az Jp t7 (o4 hr.units) ax (ai) (fO bF (ae (xv 0))) (bT du rfl cv PySem.boot_len (aa (bd (ae (xv 1)) (ai) (fun _ _=>rfl)) (aj)))))))) (az (rJ)) (aX)) (ak (aT (i:=2) jh.nd rfl ‹1› (cj (bd (ae (xv 1)) (ai) (fun _ _=>rfl)) (cK) (cJ (fO bF (ae (xv 0)))))) (ak (cF (cu (GL hr.units) ax (fO cI (ae (xv 0))) (ny (N:=["field"]) (ix:=[none]) rfl (.of rfl) (iP rfl) (eV (ae (xv 2))) ⟨fun _ _ _ _ _ _=>⟨bM (i:=0) L4 rfl (Or.inl rfl),jI,bd (ae (xv 0)) (ai) (fun _ _=>rfl)⟩⟩) rfl) (az (rJ)) (aX)) (ak (aT (i:=3) jh.nd rfl ‹1› (bu (aa (cj (bd (ae (xv 1)) (ai) (fun _ _=>rfl)) (cJ (fO bF (ae (xv 0)))) (cK)) (aa (bd (ae (xv 1)) (ai) (fun _ _=>rfl)) (aj))))) (ak (cF (cu IZ t7 (ay iW (m7 20) hr ‹0› (aa (ae (xv 3)) (aj))) (Dc rfl c_MOST_WITHIN) (cW _)) (az (rJ)) (aX)) (az (aK (bu (aa (ae (xv 2)) (aa (bu (aa (bu (aa (fO cI (ae (xv 0))) (aa (bu (aa (dC) (aa (ae (xv 3)) (aa (eA) (aj))))) (aj)))) (aj))) (aj)))))))))))⟩
theorem wB {f:Qr} :cT P w K mg base 0 ["self","form","table","view"] "Step.put" j8 f fg :=
 ⟨fun cdv A outer s H E hr hp=>(az (aK (ae (xv 3))))⟩
theorem ww {f:Qr} (aM:mg "tuple"=none):cT P w K mg base 0 ["many","table","rows","row"] "unnested" kT f iR :=
 ⟨fun cdv A outer s H E hr hp=>(ak (gY (i:=2) v7.nd rfl ‹1› (kE (aj))) (ak (eZ hp rfl (eV (ae (xv 1))) (bM (i:=3) v7.nd rfl ‹1›) (ak (DP (xv 2) (GN (N:=["within","row","many"]) (ix:=[none,some 3,some 0]) rfl (.of rfl) (iP rfl) (eV (bd (ae (xv 3)) (ae (xv 0)) (fun _ _=>rfl))) ⟨fun _ _ _ _ _ _=>⟨bM (i:=0) Lr rfl (Or.inl rfl),jI,ao bh ax (cj (ae (xv 1)) (cK) (cJ (ae (xv 2)))) (ae (xv 0))⟩⟩)) (dA [3] aX))) (eU 2 (az (aK (bL cL rfl aM Qg (aa (ae (xv 2)) (aj))))))))⟩
theorem wI {f:Qr} (nH:Callee P w K mg base 1 "unnested" ["many","table"] (aF iR 2 4)) (bF:lg K "many" ["Nest"]):cT P w K mg base 1 ["self","form","table","view"] "Nest.put" kH f dP :=
 ⟨fun cdv A outer s H E hr hp=>(az (aK (ay nH aP hr ‹0› (aa (fO bF (ae (xv 0))) (aa (ae (xv 3)) (aj))))))⟩
theorem uZ {f:Qr} :cT P w K mg base 0 ["_law_x"] "_law_next" jn f aW :=
 ⟨fun cdv A outer s H E hr hp=>(az (aK (ao bx bw (ao bh ax (ao bh ax (ao i7 ja (ae (xv 0)) (ae (xv 0))) (ao i7 ja (ai) (ae (xv 0)))) (ai)) (ai))))⟩
theorem qX {f:Qr} (aM:mg "tuple"=none) (fS:mg "sorted"=none) (kQ:mg "list"=none):cT P w K mg base 0 ["_law_many","_law_rows_here","_law_found","_law_row_here"] "_law_sorted" gQ f bI :=
 ⟨fun cdv A outer s H E hr hp=>(ak (gY (i:=2) qF.nd rfl ‹1› (oW)) (ak (eZ hp rfl (eV (ae (xv 1))) (bM (i:=3) qF.nd rfl ‹1›) (ak (vE (hr.units) (xv 2) (cj (ae (xv 3)) (cK) (cJ (ae (xv 0)))) (ae (xv 3))) (dA [3] aX))) (eU 2 (az (aK (bL cL rfl aM Qg (aa (ny (N:=["_law_key","_law_found"]) (ix:=[none,some 2]) rfl (.of rfl) (iP rfl) (eV (bT kL rfl fS kO (aa (bL (rZ rfl) rfl kQ Qh (aa (ae (xv 2)) (aj))) (aj)))) ⟨fun _ _ _ _ _ _=>⟨bM (i:=0) Kg rfl (Or.inl rfl),jI,Ea hr.units (ae (xv 1)) (ae (xv 0)) (fun _ _=>rfl)⟩⟩) (aj))))))))⟩
theorem sK {n:Nat} {f:Qr} (aD:Callee P w K mg base 1 "_law_next" ["_law_x"] (aF aW 1 1)) (bJ:Callee P w K mg base 1 "_law_sorted" ["_law_many","_law_rows_here"] (aF bI 2 4)) (cv:mg "len"=none) (fY:mg "max"=none) (fD:mg "int"=none) (aM:mg "tuple"=none) (bS:mg "range"=none) {aA:List D->R D} (fX:Callee P w K mg base (1+n) "_law_value" ["_law_kind_here","_law_x"] aA) (L__law_value:Ar 2 aA) {aE:List D->R D} (fu:Callee P w K mg base (1+n) "_law_row" ["_law_form_here","_law_many","_law_head","_law_tail"] aE) (L__law_row:Ar 4 aE) {aC:List D->R D} (eJ:Callee P w K mg base (1+n) "_law_rows" ["_law_form_here","_law_x","_law_many"] aC) (L__law_rows:Ar 3 aC):cT P w K mg base (1+n) ["_law_kind_here","_law_x"] "_law_value" fW f (fN aA aE aC) :=
 ⟨fun cdv A outer s H E hr hp=>(ak (cF (cu (eQ hr.units) ax (bd (ae (xv 0)) (ai) (fun _ _=>rfl)) (dC) (cW _)) (az (aK (ao bh ax (bd (ae (xv 0)) (ai) (fun _ _=>rfl)) (ao bx bw (ao oC oy (ae (xv 1)) (ai)) (ao bh ax (ao oP pq (bd (ae (xv 0)) (ai) (fun _ _=>rfl)) (bd (ae (xv 0)) (ai) (fun _ _=>rfl))) (ai)))))) (aX)) (ak (cF (cu (eQ hr.units) ax (bd (ae (xv 0)) (ai) (fun _ _=>rfl)) (dC) (cW _)) (az (aK (bd (bd (ae (xv 0)) (ai) (fun _ _=>rfl)) (ao bx bw (ae (xv 1)) (bT du rfl cv PySem.boot_len (aa (bd (ae (xv 0)) (ai) (fun _ _=>rfl)) (aj)))) (fun _ _=>rfl)))) (aX)) (az (aK (ay eJ L__law_rows hr ‹0› (aa (bd (ae (xv 0)) (ai) (fun _ _=>rfl)) (aa (ao bq cq (ae (xv 1)) (ai)) (aa (bT (rP rfl) rfl fY Qi (aa (ao bx bw (ae (xv 1)) (ai)) (aa (bL yM rfl fD Qf (aa (bd (ae (xv 0)) (ai) (fun _ _=>rfl)) (aj))) (aj)))) (aj)))))))))⟩
theorem wV {n:Nat} {f:Qr} (aD:Callee P w K mg base 1 "_law_next" ["_law_x"] (aF aW 1 1)) (bJ:Callee P w K mg base 1 "_law_sorted" ["_law_many","_law_rows_here"] (aF bI 2 4)) (cv:mg "len"=none) (fY:mg "max"=none) (fD:mg "int"=none) (aM:mg "tuple"=none) (bS:mg "range"=none) {aA:List D->R D} (fX:Callee P w K mg base (1+n) "_law_value" ["_law_kind_here","_law_x"] aA) (L__law_value:Ar 2 aA) {aE:List D->R D} (fu:Callee P w K mg base (1+n) "_law_row" ["_law_form_here","_law_many","_law_head","_law_tail"] aE) (L__law_row:Ar 4 aE) {aC:List D->R D} (eJ:Callee P w K mg base (1+n) "_law_rows" ["_law_form_here","_law_x","_law_many"] aC) (L__law_rows:Ar 3 aC):cT P w K mg base (1+n) ["_law_form_here","_law_many","_law_head","_law_tail","_law_row_here","_law_name_here","_law_kind_here"] "_law_row" iU f (kj aA aE aC) :=
 ⟨fun cdv A outer s H E hr hp=>(ak (gY (i:=4) vW.nd rfl ‹1› (kE (aj))) (ak (eZ hp rfl (eV (ao bh ax (bd (ae (xv 0)) (ai) (fun _ _=>rfl)) (bd (ae (xv 0)) (ai) (fun _ _=>rfl)))) (qq (g:=uE [5,6]) rfl (fE (bM (i:=5) vW.nd rfl ‹1›) (fE (bM (i:=6) vW.nd rfl ‹1›) (nT)))) (ak (cF (w8 [4] (cu (o4 hr.units) ax (bT du rfl cv PySem.boot_len (aa (ae (xv 4)) (aj))) (ae (xv 1)) (cW _))) (ak (aT (i:=2) vW.nd rfl ‹1› (ay aD aP hr ‹0› (aa (ae (xv 2)) (aj)))) (az (nA Qm Qn eM gI (xv 4) (aa (ay fX L__law_value hr ‹0› (aa (ae (xv 6)) (aa (ae (xv 2)) (aj)))) (aj))))) (ak (aT (i:=3) vW.nd rfl ‹1› (ay aD aP hr ‹0› (aa (ae (xv 3)) (aj)))) (az (nA Qm Qn eM gI (xv 4) (aa (ay fX L__law_value hr ‹0› (aa (ae (xv 6)) (aa (ae (xv 3)) (aj)))) (aj)))))) (dA [5,6] aX))) (eU 4 (az (aK (bL cL rfl aM Qg (aa (ae (xv 4)) (aj))))))))⟩
theorem vv {n:Nat} {f:Qr} (aD:Callee P w K mg base 1 "_law_next" ["_law_x"] (aF aW 1 1)) (bJ:Callee P w K mg base 1 "_law_sorted" ["_law_many","_law_rows_here"] (aF bI 2 4)) (cv:mg "len"=none) (fY:mg "max"=none) (fD:mg "int"=none) (aM:mg "tuple"=none) (bS:mg "range"=none) {aA:List D->R D} (fX:Callee P w K mg base (1+n) "_law_value" ["_law_kind_here","_law_x"] aA) (L__law_value:Ar 2 aA) {aE:List D->R D} (fu:Callee P w K mg base (1+n) "_law_row" ["_law_form_here","_law_many","_law_head","_law_tail"] aE) (L__law_row:Ar 4 aE) {aC:List D->R D} (eJ:Callee P w K mg base (1+n) "_law_rows" ["_law_form_here","_law_x","_law_many"] aC) (L__law_rows:Ar 3 aC):cT P w K mg base (1+n) ["_law_form_here","_law_x","_law_many","_law_rows_here","_law_k"] "_law_rows" hV f (h7 aA aE aC) :=
 ⟨fun cdv A outer s H E hr hp=>(ak (gY (i:=3) uC.nd rfl ‹1› (kE (aj))) (ak (eZ hp rfl (km rfl bS (aa (ae (xv 2)) (aj))) (bM (i:=4) uC.nd rfl ‹1›) (ak (aT (i:=1) uC.nd rfl ‹1› (ay aD aP hr ‹0› (aa (ae (xv 1)) (aj)))) (ak (nA Qm Qn eM gI (xv 3) (aa (ay fu L__law_row hr ‹0› (aa (ae (xv 0)) (aa (ai) (aa (ai) (aa (ae (xv 1)) (aj)))))) (aj))) (dA [4] aX)))) (eU 3 (az (aK (ay bJ aP hr ‹0› (aa (bT du rfl cv PySem.boot_len (aa (bd (ae (xv 0)) (ai) (fun _ _=>rfl)) (aj))) (aa (ae (xv 3)) (aj)))))))))⟩
theorem lM {f__law_value:Qr} {fd__law_value:QY} (F__law_value:vC K "_law_value" "_law_value" fW f__law_value fd__law_value) (kF:Binds K fd__law_value ["_law_kind_here","_law_x"] []) (m__law_value:mg "_law_value"=some (.ref f__law_value)) {f__law_row:Qr} {fd__law_row:QY} (F__law_row:vC K "_law_row" "_law_row" iU f__law_row fd__law_row) (nB:Binds K fd__law_row ["_law_form_here","_law_many","_law_head","_law_tail"] []) (m__law_row:mg "_law_row"=some (.ref f__law_row)) {f__law_rows:Qr} {fd__law_rows:QY} (F__law_rows:vC K "_law_rows" "_law_rows" hV f__law_rows fd__law_rows) (lV:Binds K fd__law_rows ["_law_form_here","_law_x","_law_many"] []) (m__law_rows:mg "_law_rows"=some (.ref f__law_rows)) (aD:Callee P w K mg base 1 "_law_next" ["_law_x"] (aF aW 1 1)) (bJ:Callee P w K mg base 1 "_law_sorted" ["_law_many","_law_rows_here"] (aF bI 2 4)) (cv:mg "len"=none) (fY:mg "max"=none) (fD:mg "int"=none) (aM:mg "tuple"=none) (bS:mg "range"=none):∀ n:Nat,Callee P w K mg base (1+n) "_law_value" ["_law_kind_here","_law_x"] (aA n)/\Callee P w K mg base (1+n) "_law_row" ["_law_form_here","_law_many","_law_head","_law_tail"] (aE n)/\Callee P w K mg base (1+n) "_law_rows" ["_law_form_here","_law_x","_law_many"] (aC n)
 | 0=>by
  rw [aA]; rw [aE]; rw [aC]
  exact⟨eI 1 F__law_value kF m__law_value,eI 1 F__law_row nB m__law_row,eI 1 F__law_rows lV m__law_rows⟩
 | n+1=>by
  have ih:=lM F__law_value kF m__law_value F__law_row nB m__law_row F__law_rows lV m__law_rows aD bJ cv fY fD aM bS n
  rw [eE]; rw [il]; rw [eN]
  exact⟨bE F__law_value kF m__law_value sI (cT.ok (sK aD bJ cv fY fD aM bS ih.1 (ig n) ih.2.1 (gW n) ih.2.2 (fJ n))),bE F__law_row nB m__law_row vW (cT.ok (wV aD bJ cv fY fD aM bS ih.1 (ig n) ih.2.1 (gW n) ih.2.2 (fJ n))),bE F__law_rows lV m__law_rows uC (cT.ok (vv aD bJ cv fY fD aM bS ih.1 (ig n) ih.2.1 (gW n) ih.2.2 (fJ n)))⟩
theorem sF {f:Qr} (eJ:Callee P w K mg base 21 "_law_rows" ["_law_form_here","_law_x","_law_many"] (aC 20)) (dI:Callee P w K mg base 1 "_law_nested" ["_law_table_here","_law_many"] (aF bA 2 6)) (bN:Callee P w K mg base 20 "_law_alike" ["_law_found","_law_due"] (aw 20)) (cY:eG P w K mg base 22 "view_form" ["self","form"] [("Step",(aF aN 2 2)),("Nest",(aF aH 2 4))]) (dL:eG P w K mg base 22 "got" ["self","form","table"] [("Step",(aF bG 3 3)),("Nest",(aF bi 3 3))]) (pD:eG P w K mg base 22 "put" ["self","form","table","view"] [("Step",(aF fg 4 4)),("Nest",(aF dP 4 4))]) (cI:lg K "name" ["Nest"]) (cv:mg "len"=none):cT P w K mg base 22 ["_law_step","_law_form_here","_law_many","_law_extra","_law_x","_law_other","_law_due","_law_table_here","_law_view"] "_law_again" iC f dN :=
 ⟨fun cdv A outer s H E hr hp=>(ak (aT (i:=5) sj.nd rfl ‹1› (bu (aa (ao bh ax (bd (ae (xv 1)) (ai) (fun _ _=>rfl)) (bu (aa (bu (aa (ae (xv 3)) (aa (bu (aa (dC) (aa (ai) (aa (ai) (aj))))) (aj)))) (aj)))) (aa (cj (bd (ae (xv 1)) (ai) (fun _ _=>rfl)) (cK) (cJ (ai))) (aj))))) (ak (cF (cu (eQ hr.units) ax (bT du rfl cv PySem.boot_len (aa (bd (ae (xv 1)) (ai) (fun _ _=>rfl)) (aj))) (ai) (cW _)) (az (aT (i:=5) sj.nd rfl ‹1› (bu (aa (cj (bd (ae (xv 1)) (ai) (fun _ _=>rfl)) (cK) (cJ (ao bh ax (ae (xv 2)) (ai)))) (aa (cj (bd (ae (xv 1)) (ai) (fun _ _=>rfl)) (cJ (ai)) (cK)) (aj)))))) (aX)) (ak (aT (i:=6) sj.nd rfl ‹1› (bu (aa (cj (bd (ae (xv 5)) (ai) (fun _ _=>rfl)) (cK) (cJ (ae (xv 2)))) (aa (bu (aa (bu (aa (fO cI (ae (xv 0))) (aa (bu (aa (dC) (aa (bu (aa (cj (bd (ae (xv 5)) (ai) (fun _ _=>rfl)) (cJ (ae (xv 2))) (cK)) (aa (bd (ae (xv 5)) (ai) (fun _ _=>rfl)) (aj)))) (aa (eA) (aj))))) (aj)))) (aj))) (aj))))) (ak (aT (i:=7) sj.nd rfl ‹1› (ay eJ (fJ 20) hr ‹0› (aa (ae (xv 5)) (aa (ae (xv 4)) (aa (ai) (aj)))))) (ak (aT (i:=8) sj.nd rfl ‹1› (ay dI aP hr ‹0› (aa (ae (xv 7)) (aa (ae (xv 2)) (aj))))) (ak (cF (DJ (j4 (fV (cE (ay bN (bZ 20) hr ‹0› (aa (eT cY hr ‹0› (ae (xv 0)) (aa (ae (xv 5)) (aj))) (aa (ae (xv 6)) (aj)))))) (iu (fV (cE (ay bN (bZ 20) hr ‹0› (aa (eT dL hr ‹0› (ae (xv 0)) (aa (ae (xv 5)) (aa (ae (xv 7)) (aj)))) (aa (ae (xv 8)) (aj))))))))) (az (aK (eA))) (aX)) (az (aK (ay bN (bZ 20) hr ‹0› (aa (eT pD hr ‹0› (ae (xv 0)) (aa (ae (xv 5)) (aa (bu (aj)) (aa (ae (xv 8)) (aj))))) (aa (ae (xv 7)) (aj))))))))))))⟩
theorem uN {f:Qr} (bS:mg "range"=none):cT P w K mg base 0 ["_law_base","_law_k","_law_letters","_law_size","_law_name_here","_law_j","_law_step"] "_law_name" jd f bD :=
 ⟨fun cdv A outer s H E hr hp=>(ak (aT (i:=2) vt.nd rfl ‹1› (dC)) (ak (aT (i:=1) vt.nd rfl ‹1› (ao bx bw (ao bh ax (ao i7 ja (ae (xv 1)) (bd (mD (aa (ai) (aa (ai) (aa (ai) (aa (ai) (aa (ai) (aa (ai) (aj)))))))) (ao bx bw (ae (xv 0)) (ai)) (fun _ _=>rfl))) (ao bq cq (ae (xv 0)) (ai))) (ai))) (ak (aT (i:=0) vt.nd rfl ‹1› (ao bq cq (ae (xv 0)) (ai))) (ak (cF (cu (eQ hr.units) ax (ao bx bw (ae (xv 0)) (ai)) (ai) (cW _)) (az (aK (ao uM ax (bd (ae (xv 2)) (ao bx bw (ao bh ax (ao bq cq (ae (xv 0)) (ai)) (ao bq cq (ae (xv 1)) (ai))) (ai)) (fun _ _=>rfl)) (ao bh ax (ai) (ao bx bw (ae (xv 1)) (ai)))))) (aX)) (ak (aT (i:=3) vt.nd rfl ‹1› (ao bh ax (ai) (ao bx bw (ao bq cq (ae (xv 0)) (ai)) (ai)))) (ak (aT (i:=4) vt.nd rfl ‹1› (dC)) (ak (eZ hp rfl (km rfl bS (aa (ae (xv 3)) (aj))) (bM (i:=5) vt.nd rfl ‹1›) (ak (aT (i:=6) vt.nd rfl ‹1› (ao bq cq (ae (xv 0)) (ao bh ax (ai) (ao i7 ja (ao i7 ja (ai) (ae (xv 5))) (ae (xv 5)))))) (ak (cF (cu (eQ hr.units) ax (ae (xv 5)) (ao bx bw (ao bq cq (ae (xv 0)) (ai)) (ae (xv 3))) (cW _)) (az (aT (i:=6) vt.nd rfl ‹1› (ao bh ax (ae (xv 6)) (ae (xv 1))))) (aX)) (ak (aT (i:=4) vt.nd rfl ‹1› (ao bh ax (ae (xv 4)) (bd (ae (xv 2)) (ao bx bw (ae (xv 6)) (ai)) (fun _ _=>rfl)))) (dA [5,6] aX))))) (az (aK (ae (xv 4)))))))))))⟩
theorem qb {f:Qr} (cv:mg "len"=none):cT P w K mg base 0 ["_law_script","_law_k"] "_law_cell_at" fT f bz :=
 ⟨fun cdv A outer s H E hr hp=>(ak (cF (cu (o4 hr.units) ax (ae (xv 1)) (bT du rfl cv PySem.boot_len (aa (ae (xv 0)) (aj))) (cW _)) (az (aK (bd (ae (xv 0)) (ae (xv 1)) (fun _ _=>rfl)))) (aX)) (az (aK (ai))))⟩
theorem qL {f:Qr} :cT P w K mg base 0 ["self","form"] "Step.steady" gP f bB :=
 ⟨fun cdv A outer s H E hr hp=>(az (aK (eA)))⟩
theorem sP {f:Qr} :cT P w K mg base 0 ["self","form"] "Step.exact" iA f bP :=
 ⟨fun cdv A outer s H E hr hp=>(az (aK (eA)))⟩
theorem sO {f:Qr} :cT P w K mg base 0 ["self"] "Step.words" iD f dR :=
 ⟨fun cdv A outer s H E hr hp=>(az (aK (bu (aj))))⟩
theorem xP {f:Qr} (aZ:mg "isinstance"=none) (ji:mg "str"=none):cT P w K mg base 0 ["value"] "written" md f jt :=
 ⟨fun cdv A outer s H E hr hp=>(az (aK (GR (cE (eY rC rfl aZ rfl ji Qd (ae (xv 0)))) (ao bh ax (dC) (ae (xv 0))) (bL uv rfl ji Qd (aa (ae (xv 0)) (aj))))))⟩
theorem sS {f:Qr} (pj:Callee P w K mg base 1 "written" ["value"] (aF jt 1 1)) (cI:lg K "name" ["Nest"]) (bF:lg K "many" ["Nest"]):cT P w K mg base 1 ["self"] "Nest.words" iE f cZ :=
 ⟨fun cdv A outer s H E hr hp=>(az (aK (bu (aa (dC) (aa (ay pj aP hr ‹0› (aa (fO bF (ae (xv 0))) (aj))) (aa (fO cI (ae (xv 0))) (aj)))))))⟩
theorem uP {f:Qr} (bY:Callee P w K mg base 1 "_law_cell_at" ["_law_script","_law_k"] (aF bz 2 2)) (aD:Callee P w K mg base 1 "_law_next" ["_law_x"] (aF aW 1 1)):cT P w K mg base 1 ["_law_script","_law_k","_law_x"] "_law_seed" jl f cN :=
 ⟨fun cdv A outer s H E hr hp=>(ak (aT (i:=2) uJ.nd rfl ‹1› (ao bx bw (ao bh ax (ao bh ax (ao bx bw (ay bY aP hr ‹0› (aa (ae (xv 0)) (aa (ae (xv 1)) (aj)))) (ai)) (ao i7 ja (ao i7 ja (ai) (ae (xv 1))) (ae (xv 1)))) (ai)) (ai))) (az (aK (ay aD aP hr ‹0› (aa (ay aD aP hr ‹0› (aa (ae (xv 2)) (aj))) (aj))))))⟩
theorem sq {f:Qr} (dG:Callee P w K mg base 2 "_law_seed" ["_law_script","_law_k"] (aF cN 2 3)) (fu:Callee P w K mg base 21 "_law_row" ["_law_form_here","_law_many","_law_head","_law_tail"] (aE 20)) (aD:Callee P w K mg base 1 "_law_next" ["_law_x"] (aF aW 1 1)) (bJ:Callee P w K mg base 1 "_law_sorted" ["_law_many","_law_rows_here"] (aF bI 2 4)) (bS:mg "range"=none) (CV:mg "min"=none) (fY:mg "max"=none) (cv:mg "len"=none):cT P w K mg base 21 ["_law_form_here","_law_many","_law_script","_law_start","_law_most","_law_rows_here","_law_k","_law_x"] "_law_table" iH f ga :=
 ⟨fun cdv A outer s H E hr hp=>(ak (gY (i:=5) sC.nd rfl ‹1› (kE (aj))) (ak (eZ hp rfl (xS rfl bS (aa (ae (xv 3)) (aa (bT (xQ rfl) rfl CV PyProof.Rows.boot_min (aa (bT (rP rfl) rfl fY Qi (aa (bT du rfl cv PySem.boot_len (aa (ae (xv 2)) (aj))) (aa (ao bh ax (ae (xv 3)) (ai)) (aj)))) (aa (ao bh ax (ae (xv 3)) (ae (xv 4))) (aj)))) (aj)))) (bM (i:=6) sC.nd rfl ‹1›) (ak (aT (i:=7) sC.nd rfl ‹1› (ay dG aP hr ‹0› (aa (ae (xv 2)) (aa (ae (xv 6)) (aj))))) (ak (nA Qm Qn eM gI (xv 5) (aa (ay fu (gW 20) hr ‹0› (aa (ae (xv 0)) (aa (ae (xv 1)) (aa (bd (mD (aa (ao bx bw (ao bq cq (ae (xv 7)) (ai)) (ai)) (aa (ao bq cq (ae (xv 7)) (ai)) (aj)))) (ao bx bw (ae (xv 7)) (ai)) (fun _ _=>rfl)) (aa (ay aD aP hr ‹0› (aa (ae (xv 7)) (aj))) (aj)))))) (aj))) (dA [6,7] aX)))) (eU 5 (az (aK (ay bJ aP hr ‹0› (aa (bT du rfl cv PySem.boot_len (aa (bd (ae (xv 0)) (ai) (fun _ _=>rfl)) (aj))) (aa (ae (xv 5)) (aj)))))))))⟩
theorem sB {f:Qr} (bS:mg "range"=none) (cv:mg "len"=none) (aM:mg "tuple"=none) (fS:mg "sorted"=none) (kQ:mg "list"=none):cT P w K mg base 0 ["_law_x","_law_low","_law_letters","_law_one","_law_other","_law_some","_law_kept","_law_k"] "_law_plain" iB f dh :=
 ⟨fun cdv A outer s H E hr hp=>(ak (cF (cu (o4 hr.units) ax (ao bx bw (ae (xv 0)) (ai)) (ai) (cW _)) (ak (aT (i:=1) sR.nd rfl ‹1› (bd (mD (aa (ai) (aa (Ew (ai)) (aa (ao oP pq (ai) (ao bx bw (ao oC oy (ae (xv 0)) (ai)) (ao oC oy (ai) (ai)))) (aa (ao bx bw (ao oC oy (ae (xv 0)) (ai)) (ao oC oy (ai) (ai))) (aj)))))) (ao bx bw (ao bq cq (ae (xv 0)) (ai)) (ai)) (fun _ _=>rfl))) (az (aK (bu (aa (dC) (aa (ae (xv 1)) (aa (ao bh ax (ae (xv 1)) (bd (mD (aa (ai) (aa (ai) (aa (ai) (aa (ao oC oy (ai) (ai)) (aj)))))) (ao bx bw (ao bq cq (ae (xv 0)) (ai)) (ai)) (fun _ _=>rfl))) (aj)))))))) (aX)) (ak (aT (i:=2) sR.nd rfl ‹1› (dC)) (ak (aT (i:=3) sR.nd rfl ‹1› (bd (ae (xv 2)) (ao bx bw (ao bq cq (ae (xv 0)) (ai)) (ai)) (fun _ _=>rfl))) (ak (aT (i:=4) sR.nd rfl ‹1› (bd (ae (xv 2)) (ao bx bw (ao bq cq (ae (xv 0)) (ai)) (ai)) (fun _ _=>rfl))) (ak (aT (i:=5) sR.nd rfl ‹1› (mD (aa (dC) (aa (ae (xv 3)) (aa (ae (xv 4)) (aa (ao bh ax (ae (xv 3)) (ae (xv 4))) (aa (ao bh ax (ae (xv 4)) (ae (xv 3))) (aa (ao uM ax (ae (xv 3)) (ai)) (aa (ao bh ax (ae (xv 3)) (ae (xv 3))) (aa (ao uM ax (ae (xv 4)) (ai)) (aj))))))))))) (ak (gY (i:=6) sR.nd rfl ‹1› (oW)) (dA [1,2,4] (ak (eZ hp rfl (km rfl bS (aa (ai) (aj))) (bM (i:=7) sR.nd rfl ‹1›) (ak (cF (cu (eQ hr.units) ax (ao Hg Hm (ao Ho Gv (ao bq cq (ae (xv 0)) (ai)) (ae (xv 7))) (ai)) (ai) (cW _)) (az (xE (hr.units) (xv 6) (bd (ae (xv 5)) (ae (xv 7)) (fun _ _=>rfl)) (eA))) (aX)) (dA [7] aX))) (ak (cF (w8 [6] (cu (eQ hr.units) ax (bT Bo rfl cv PySem.boot_len (aa (ae (xv 6)) (aj))) (ai) (cW _))) (az (xE (hr.units) (xv 6) (ae (xv 3)) (eA))) (aX)) (eU 6 (az (aK (bu (aa (dC) (aa (bL cL rfl aM Qg (aa (bT kL rfl fS kO (aa (bL (xN rfl) rfl kQ Qh (aa (ae (xv 6)) (aj))) (aj))) (aj))) (aj))))))))))))))))⟩
theorem uY {n:Nat} {f:Qr} (cU:Callee P w K mg base 1 "_law_plain" ["_law_x"] (aF dh 1 8)) (aD:Callee P w K mg base 1 "_law_next" ["_law_x"] (aF aW 1 1)) (cm:Callee P w K mg base 1 "_law_name" ["_law_base","_law_k"] (aF bD 2 7)) (bS:mg "range"=none) (aM:mg "tuple"=none) {aV:List D->R D} (lC:Callee P w K mg base (1+n) "_law_kind" ["_law_x","_law_base","_law_deep"] aV) (L__law_kind:Ar 3 aV) {aL:List D->R D} (fF:Callee P w K mg base (1+n) "_law_form" ["_law_x","_law_base","_law_start","_law_many","_law_more","_law_deep"] aL) (L__law_form:Ar 6 aL):cT P w K mg base (1+n) ["_law_x","_law_base","_law_deep","_law_inner"] "_law_kind" ib f (hJ aV aL) :=
 ⟨fun cdv A outer s H E hr hp=>(ak (cF (DJ (j4 (cu (eQ hr.units) ax (ae (xv 2)) (ai) (cW _)) (iu (cu (o4 hr.units) ax (ao bx bw (ae (xv 0)) (ai)) (ai) (cW _))))) (az (aK (ay cU aP hr ‹0› (aa (ao bq cq (ae (xv 0)) (ai)) (aj))))) (aX)) (ak (aT (i:=3) uH.nd rfl ‹1› (ay fF L__law_form hr ‹0› (aa (ao bq cq (ae (xv 0)) (ai)) (aa (ae (xv 1)) (aa (ao bx bw (ao bq cq (ae (xv 0)) (ai)) (ai)) (aa (ao bh ax (ai) (ao bx bw (ao bq cq (ae (xv 0)) (ai)) (ai))) (aa (ao bx bw (ao bq cq (ae (xv 0)) (ai)) (ai)) (aa (ao oP pq (ae (xv 2)) (ai)) (aj))))))))) (az (aK (bu (aa (dC) (aa (ae (xv 3)) (aa (qj (eQ hr.units) ax (ao bx bw (ao bq cq (ae (xv 0)) (ai)) (ai)) (ai) (cW _)) (aj)))))))))⟩
theorem vh {n:Nat} {f:Qr} (cU:Callee P w K mg base 1 "_law_plain" ["_law_x"] (aF dh 1 8)) (aD:Callee P w K mg base 1 "_law_next" ["_law_x"] (aF aW 1 1)) (cm:Callee P w K mg base 1 "_law_name" ["_law_base","_law_k"] (aF bD 2 7)) (bS:mg "range"=none) (aM:mg "tuple"=none) {aV:List D->R D} (lC:Callee P w K mg base (1+n) "_law_kind" ["_law_x","_law_base","_law_deep"] aV) (L__law_kind:Ar 3 aV) {aL:List D->R D} (fF:Callee P w K mg base (1+n) "_law_form" ["_law_x","_law_base","_law_start","_law_many","_law_more","_law_deep"] aL) (L__law_form:Ar 6 aL):cT P w K mg base (1+n) ["_law_x","_law_base","_law_start","_law_many","_law_more","_law_deep","_law_key","_law_rest","_law_k"] "_law_form" ie f (jg aV aL) :=
 ⟨fun cdv A outer s H E hr hp=>(ak (gY (i:=6) uX.nd rfl ‹1› (kE (aj))) (ak (gY (i:=7) uX.nd rfl ‹1› (kE (aj))) (ak (eZ hp rfl (km rfl bS (aa (ao bh ax (ae (xv 3)) (ae (xv 4))) (aj))) (bM (i:=8) uX.nd rfl ‹1›) (ak (aT (i:=0) uX.nd rfl ‹1› (ay aD aP hr ‹0› (aa (ae (xv 0)) (aj)))) (ak (cF (cu (o4 hr.units) ax (ae (xv 8)) (ae (xv 3)) (cW _)) (az (nA Qm Qn eM gI (xv 6) (aa (bu (aa (ay cm aP hr ‹0› (aa (ae (xv 1)) (aa (ao bh ax (ae (xv 2)) (ae (xv 8))) (aj)))) (aa (ay cU aP hr ‹0› (aa (ae (xv 0)) (aj))) (aj)))) (aj)))) (az (nA Qm Qn eM gI (xv 7) (aa (bu (aa (ay cm aP hr ‹0› (aa (ae (xv 1)) (aa (ao bh ax (ae (xv 2)) (ae (xv 8))) (aj)))) (aa (ay lC L__law_kind hr ‹0› (aa (ae (xv 0)) (aa (ae (xv 1)) (aa (ae (xv 5)) (aj))))) (aj)))) (aj))))) (dA [8] aX)))) (eU 7 (eU 6 (az (aK (bu (aa (bL cL rfl aM Qg (aa (ae (xv 6)) (aj))) (aa (bL cL rfl aM Qg (aa (ae (xv 7)) (aj))) (aj)))))))))))⟩
theorem nc {f__law_kind:Qr} {fd__law_kind:QY} (F__law_kind:vC K "_law_kind" "_law_kind" ib f__law_kind fd__law_kind) (lj:Binds K fd__law_kind ["_law_x","_law_base","_law_deep"] []) (m__law_kind:mg "_law_kind"=some (.ref f__law_kind)) {f__law_form:Qr} {fd__law_form:QY} (F__law_form:vC K "_law_form" "_law_form" ie f__law_form fd__law_form) (lG:Binds K fd__law_form ["_law_x","_law_base","_law_start","_law_many","_law_more","_law_deep"] []) (m__law_form:mg "_law_form"=some (.ref f__law_form)) (cU:Callee P w K mg base 1 "_law_plain" ["_law_x"] (aF dh 1 8)) (aD:Callee P w K mg base 1 "_law_next" ["_law_x"] (aF aW 1 1)) (cm:Callee P w K mg base 1 "_law_name" ["_law_base","_law_k"] (aF bD 2 7)) (bS:mg "range"=none) (aM:mg "tuple"=none):∀ n:Nat,Callee P w K mg base (1+n) "_law_kind" ["_law_x","_law_base","_law_deep"] (aV n)/\Callee P w K mg base (1+n) "_law_form" ["_law_x","_law_base","_law_start","_law_many","_law_more","_law_deep"] (aL n)
 | 0=>by
  rw [aV]; rw [aL]
  exact⟨eI 1 F__law_kind lj m__law_kind,eI 1 F__law_form lG m__law_form⟩
 | n+1=>by
  have ih:=nc F__law_kind lj m__law_kind F__law_form lG m__law_form cU aD cm bS aM n
  rw [eO]; rw [gO]
  exact⟨bE F__law_kind lj m__law_kind uH (cT.ok (uY cU aD cm bS aM ih.1 (lU n) ih.2 (iS n))),bE F__law_form lG m__law_form uX (cT.ok (vh cU aD cm bS aM ih.1 (lU n) ih.2 (iS n)))⟩
theorem nD {f:Qr} (dG:Callee P w K mg base 2 "_law_seed" ["_law_script","_law_k"] (aF cN 2 3)) (bY:Callee P w K mg base 1 "_law_cell_at" ["_law_script","_law_k"] (aF bz 2 2)) (fF:Callee P w K mg base 21 "_law_form" ["_law_x","_law_base","_law_start","_law_many","_law_more","_law_deep"] (aL 20)) (aD:Callee P w K mg base 1 "_law_next" ["_law_x"] (aF aW 1 1)):cT P w K mg base 21 ["_law_script","_law_fewest","_law_x","_law_base","_law_many","_law_more","_law_deep"] "_law_drawn_form" eD f dB :=
 ⟨fun cdv A outer s H E hr hp=>(ak (aT (i:=2) nz.nd rfl ‹1› (ay dG aP hr ‹0› (aa (ae (xv 0)) (aa (ai) (aj))))) (ak (aT (i:=3) nz.nd rfl ‹1› (ao bx bw (ao i7 ja (ay bY aP hr ‹0› (aa (ae (xv 0)) (aa (ai) (aj)))) (ai)) (ai))) (ak (aT (i:=4) nz.nd rfl ‹1› (ao bh ax (ae (xv 1)) (ao bx bw (ae (xv 2)) (ao oP pq (ai) (ae (xv 1)))))) (ak (aT (i:=5) nz.nd rfl ‹1› (ao bx bw (ao bq cq (ae (xv 2)) (ai)) (ai))) (ak (aT (i:=6) nz.nd rfl ‹1› (bd (mD (aa (ai) (aa (ai) (aa (ai) (aa (ai) (aj)))))) (ao bx bw (ao bq cq (ae (xv 2)) (ai)) (ai)) (fun _ _=>rfl))) (ak (cF (cu (eQ hr.units) ax (ao bx bw (ao bq cq (ae (xv 2)) (ai)) (ai)) (ai) (cW _)) (ak (aT (i:=4) nz.nd rfl ‹1› (ao oP pq (ai) (ao bx bw (ao bq cq (ae (xv 2)) (ai)) (ai)))) (ak (aT (i:=5) nz.nd rfl ‹1› (ao bx bw (ao bq cq (ae (xv 2)) (ai)) (ai))) (az (aT (i:=6) nz.nd rfl ‹1› (ai))))) (aX)) (az (aK (ay fF (iS 20) hr ‹0› (aa (ay aD aP hr ‹0› (aa (ae (xv 2)) (aj))) (aa (ae (xv 3)) (aa (ai) (aa (ae (xv 4)) (aa (ae (xv 5)) (aa (ae (xv 6)) (aj))))))))))))))))⟩
theorem Hh {f:Qr} {fd:QY} (F:vC K "law" "law" qY f fd) (fM:Callee P w K mg base 22 "_law_drawn_form" ["_law_script","_law_fewest"] (aF dB 2 7)) (aD:Callee P w K mg base 1 "_law_next" ["_law_x"] (aF aW 1 1)) (dG:Callee P w K mg base 2 "_law_seed" ["_law_script","_law_k"] (aF cN 2 3)) (kA:Callee P w K mg base 22 "_law_table" ["_law_form_here","_law_many","_law_script","_law_start","_law_most"] (aF ga 5 8)) (cm:Callee P w K mg base 1 "_law_name" ["_law_base","_law_k"] (aF bD 2 7)) (bY:Callee P w K mg base 1 "_law_cell_at" ["_law_script","_law_k"] (aF bz 2 2)) (bN:Callee P w K mg base 20 "_law_alike" ["_law_found","_law_due"] (aw 20)) (dI:Callee P w K mg base 1 "_law_nested" ["_law_table_here","_law_many"] (aF bA 2 6)) (kn:Callee P w K mg base 23 "_law_again" ["_law_step","_law_form_here","_law_many","_law_extra","_law_x"] (aF dN 5 9)) (cY:eG P w K mg base 23 "view_form" ["self","form"] [("Step",(aF aN 2 2)),("Nest",(aF aH 2 4))]) (nF:eG P w K mg base 23 "words" ["self"] [("Step",(aF dR 1 1)),("Nest",(aF cZ 1 1))]) (nu:eG P w K mg base 23 "exact" ["self","form"] [("Step",(aF bP 2 2)),("Nest",(aF bP 2 2))]) (mX:eG P w K mg base 23 "steady" ["self","form"] [("Step",(aF bB 2 2)),("Nest",(aF bB 2 2))]) (dL:eG P w K mg base 23 "got" ["self","form","table"] [("Step",(aF bG 3 3)),("Nest",(aF bi 3 3))]) (yx:rd P w K mg base 1 "Nest" ["self","many","name"] ["many","name"]) (cv:mg "len"=none) (ji:mg "str"=none):jp P w K mg base (oV P w) 24 f fd ["_law_script"] (Bx K 1 (aF rG 1 10)) :=
 uK (k:=23) F Hc (cT.ok ⟨fun cdv A outer s H E hr hp=>(ak (aT (i:=1) Hc.nd rfl ‹1› (ay fM aP hr ‹0› (aa (ae (xv 0)) (aa (ai) (aj))))) (ak (aT (i:=2) Hc.nd rfl ‹1› (ay aD aP hr ‹0› (aa (ay dG aP hr ‹0› (aa (ae (xv 0)) (aa (ai) (aj)))) (aj)))) (ak (aT (i:=3) Hc.nd rfl ‹1› (ao bh ax (ai) (ao bx bw (ae (xv 2)) (ao oP pq (bT du rfl cv PySem.boot_len (aa (bd (ae (xv 1)) (ai) (fun _ _=>rfl)) (aj))) (ai))))) (ak (aT (i:=4) Hc.nd rfl ‹1› (ay kA aP hr ‹0› (aa (ae (xv 1)) (aa (ae (xv 3)) (aa (ae (xv 0)) (aa (ai) (aa (ai) (aj)))))))) (ak (aT (i:=5) Hc.nd rfl ‹1› (ay cm aP hr ‹0› (aa (ao bx bw (ao i7 ja (ay bY aP hr ‹0› (aa (ae (xv 0)) (aa (ai) (aj)))) (ai)) (ai)) (aa (ao bh ax (ai) (ao bx bw (ao bq cq (ae (xv 2)) (ai)) (ai))) (aj))))) (ak (cF (cu (eQ hr.units) ax (ao bx bw (ao bq cq (ae (xv 2)) (ai)) (ai)) (ai) (cW _)) (ak (aT (i:=6) Hc.nd rfl ‹1› (ao bh ax (cj (bd (ae (xv 1)) (ai) (fun _ _=>rfl)) (cJ (ae (xv 3))) (cK)) (bd (ae (xv 1)) (ai) (fun _ _=>rfl)))) (az (aT (i:=5) Hc.nd rfl ‹1› (bd (bd (ae (xv 6)) (ao bx bw (ao bq cq (ae (xv 2)) (ai)) (bT du rfl cv PySem.boot_len (aa (ae (xv 6)) (aj)))) (fun _ _=>rfl)) (ai) (fun _ _=>rfl))))) (aX)) (ak (aT (i:=7) Hc.nd rfl ‹1› (Dw yx hr ‹0› rfl (aa (ae (xv 3)) (aa (ae (xv 5)) (aj))))) (ak (aT (i:=8) Hc.nd rfl ‹1› (bu (aa (cj (bd (ae (xv 1)) (ai) (fun _ _=>rfl)) (cK) (cJ (ae (xv 3)))) (aa (bu (aa (bu (aa (ae (xv 5)) (aa (bu (aa (dC) (aa (bu (aa (cj (bd (ae (xv 1)) (ai) (fun _ _=>rfl)) (cJ (ae (xv 3))) (cK)) (aa (bd (ae (xv 1)) (ai) (fun _ _=>rfl)) (aj)))) (aa (eA) (aj))))) (aj)))) (aj))) (aj))))) (ak (cF (DJ (j4 (fV (cE (ay bN (bZ 20) hr ‹0› (aa (eT cY hr ‹0› (ae (xv 7)) (aa (ae (xv 1)) (aj))) (aa (ae (xv 8)) (aj)))))) (iu (fV (cE (ay bN (bZ 20) hr ‹0› (aa (Be nF hr ‹0› (ae (xv 7))) (aa (bu (aa (dC) (aa (bL uv rfl ji Qd (aa (ae (xv 3)) (aj))) (aa (ae (xv 5)) (aj))))) (aj))))))))) (az (aK (eA))) (aX)) (ak (cF (DJ (j4 (cu ua ax (eT nu hr ‹0› (ae (xv 7)) (aa (ae (xv 1)) (aj))) (eA) rfl) (iu (cu ua ax (eT mX hr ‹0› (ae (xv 7)) (aa (ae (xv 1)) (aj))) (eA) rfl)))) (az (aK (eA))) (aX)) (ak (cF (DJ (j4 (fV (cE (ay bN (bZ 20) hr ‹0› (aa (eT dL hr ‹0› (ae (xv 7)) (aa (ae (xv 1)) (aa (ae (xv 4)) (aj)))) (aa (ay dI aP hr ‹0› (aa (ae (xv 4)) (aa (ae (xv 3)) (aj)))) (aj)))))) (iu (cu (BP hr.units) ax (eT dL hr ‹0› (ae (xv 7)) (aa (ae (xv 1)) (aa (bu (aj)) (aj)))) (bu (aj)) (cW _))))) (az (aK (eA))) (aX)) (ak (aT (i:=9) Hc.nd rfl ‹1› (ay cm aP hr ‹0› (aa (ao bx bw (ao i7 ja (ay bY aP hr ‹0› (aa (ae (xv 0)) (aa (ai) (aj)))) (ai)) (ai)) (aa (ai) (aj))))) (ak (cF (DJ (j4 (fV (cE (ay kn aP hr ‹0› (aa (ae (xv 7)) (aa (ae (xv 1)) (aa (ae (xv 3)) (aa (ae (xv 9)) (aa (ae (xv 2)) (aj))))))))) (iu (fV (cE (ay bN (bZ 20) hr ‹0› (aa (eT cY hr ‹0› (ae (xv 7)) (aa (ae (xv 1)) (aj))) (aa (ae (xv 8)) (aj))))))))) (az (aK (eA))) (aX)) (az (aK (ay bN (bZ 20) hr ‹0› (aa (eT dL hr ‹0› (ae (xv 7)) (aa (ae (xv 1)) (aa (ae (xv 4)) (aj)))) (aa (ay dI aP hr ‹0› (aa (ae (xv 4)) (aa (ae (xv 3)) (aj)))) (aj)))))))))))))))))))⟩)
theorem Bm {C f:Qr} {fd:QY} (h1:clsAt K "Nest" C) (hM:Mk K C f) (cl:ye K C) (na:∀ g∈(["many","name"]:List Str),j3 K C g) (F:vC K "__init__" "Nest.__init__" e6 f fd) (b:Binds K fd ["self","many","name"] []) (hmg:mg "Nest"=some (.ref C)):rd P w K mg base 1 "Nest" ["self","many","name"] ["many","name"] :=
 A5 (k:=0) h1 hM cl na F b hmg oZ rfl (by decide +kernel) (by decide) fun cdv A outer s H E=>(yv rfl (pv 0) (pv 1) rfl (Br rfl (pv 0) (pv 2) rfl))
end
theorem wq {us:List Qo} (h:us.length=1):∃ u0,us=[u0]:=match us,h with | [u0],_=>⟨u0,rfl⟩
theorem om {us:List Qo} (h:us.length=2):∃ u0 u1,us=[u0,u1]:=match us,h with | [u0,u1],_=>⟨u0,u1,rfl⟩
theorem BV {us:List Qo} (h:us.length=3):∃ u0 u1 u2,us=[u0,u1,u2]:=match us,h with | [u0,u1,u2],_=>⟨u0,u1,u2,rfl⟩
theorem GU {us:List Qo} (h:us.length=4):∃ u0 u1 u2 u3,us=[u0,u1,u2,u3]:=match us,h with | [u0,u1,u2,u3],_=>⟨u0,u1,u2,u3,rfl⟩
theorem Ij {us:List Qo} (h:us.length=5):∃ u0 u1 u2 u3 u4,us=[u0,u1,u2,u3,u4]:=match us,h with | [u0,u1,u2,u3,u4],_=>⟨u0,u1,u2,u3,u4,rfl⟩
theorem Kr {us:List Qo} (h:us.length=6):∃ u0 u1 u2 u3 u4 u5,us=[u0,u1,u2,u3,u4,u5]:=match us,h with | [u0,u1,u2,u3,u4,u5],_=>⟨u0,u1,u2,u3,u4,u5,rfl⟩
theorem all_mk {l:PF} {w:Qp} {K:Pj} {h:Qt} {mg:Str->Option Qo} {fa:Qr} (X:K.In h) (G:h.Ns Qv mg) (hfa:mg "law"=some (.ref fa)) {f0 f1 f2 f3 f4 f5 f6 f7 f8 f9 f10 f11 f12 f13 f14 f15 f16 f17 f18 f19 f20 f21 f22 f23 f24 f25 f26 f27 f28 f29 f30 f31 f32 f33 Cl0 Cl1:Qr} {od0 an0 od1 an1 od2 an2 od3 an3 od4 an4 od5 an5 od6 an6 od7 an7 od8 an8 od9 an9 od10 an10 od11 an11 od12 an12 od13 an13 od14 an14 od15 an15 od16 an16 od17 an17 od18 an18 od19 an19 od20 an20 od21 an21 od22 an22 od23 an23 od24 an24 od25 an25 od26 an26 od27 an27 od28 an28 od29 an29 od30 an30 od31 an31 od32 an32 od33 an33:Option Qr} {sl0 sl1 sl2 sl3 sl4 sl5 sl6 sl7 sl8 sl9 sl10 sl11 sl12 sl13 sl14 sl15 sl16 sl17 sl18 sl19 sl20 sl21 sl22 sl23 sl24 sl25 sl26 sl27 sl28 sl29 sl30 sl31 sl32 sl33:Array (Option Qo)} {oc0 kV0 dc0 pm0 cd0 ct0 oc1 kV1 dc1 pm1 cd1 ct1 oc2 kV2 dc2 pm2 cd2 ct2 oc3 kV3 dc3 pm3 cd3 ct3 oc4 kV4 dc4 pm4 cd4 ct4 oc5 kV5 dc5 pm5 cd5 ct5 oc6 kV6 dc6 pm6 cd6 ct6 oc7 kV7 dc7 pm7 cd7 ct7 oc8 kV8 dc8 pm8 cd8 ct8 oc9 kV9 dc9 pm9 cd9 ct9 oc10 kV10 dc10 pm10 cd10 ct10 oc11 kV11 dc11 pm11 cd11 ct11 oc12 kV12 dc12 pm12 cd12 ct12 oc13 kV13 dc13 pm13 cd13 ct13 oc14 kV14 dc14 pm14 cd14 ct14 oc15 kV15 dc15 pm15 cd15 ct15 oc16 kV16 dc16 pm16 cd16 ct16 oc17 kV17 dc17 pm17 cd17 ct17 oc18 kV18 dc18 pm18 cd18 ct18 oc19 kV19 dc19 pm19 cd19 ct19 oc20 kV20 dc20 pm20 cd20 ct20 oc21 kV21 dc21 pm21 cd21 ct21 oc22 kV22 dc22 pm22 cd22 ct22 oc23 kV23 dc23 pm23 cd23 ct23 oc24 kV24 dc24 pm24 cd24 ct24 oc25 kV25 dc25 pm25 cd25 ct25 oc26 kV26 dc26 pm26 cd26 ct26 oc27 kV27 dc27 pm27 cd27 ct27 oc28 kV28 dc28 pm28 cd28 ct28 oc29 kV29 dc29 pm29 cd29 ct29 oc30 kV30 dc30 pm30 cd30 ct30 oc31 kV31 dc31 pm31 cd31 ct31 oc32 kV32 dc32 pm32 cd32 ct32 oc33 kV33 dc33 pm33 cd33 ct33:Qo} {tk0:Tok}
  (ac0:PH K Qv "Nest"=some (some (.ref Cl0)))
  (ac1:PH K Qv "Step"=some (some (.ref Cl1)))
  (a0:PH K Qv "_law_alike"=some (some (.ref f0)))
  (l0:Lk K f0 "_law_alike" "_law_alike" fQ oc0 od0 kV0 dc0 pm0 an0 cd0 ct0 sl0)
  (c0:PD K cd0 "_law_alike"=true)
  (k0:Py K (.ref f0)=true)
  (a1:PH K Qv "_law_nested"=some (some (.ref f1)))
  (l1:Lk K f1 "_law_nested" "_law_nested" gU oc1 od1 kV1 dc1 pm1 an1 cd1 ct1 sl1)
  (c1:PD K cd1 "_law_nested"=true)
  (k1:Py K (.ref f1)=true)
  (a2:Pn K (.ref Cl1) "got"=some (some (.ref f2)))
  (i2:Pr K (.ref f2)=true)
  (l2:Lk K f2 "got" "Step.got" kC oc2 od2 kV2 dc2 pm2 an2 cd2 ct2 sl2)
  (c2:PD K cd2 "Step.got"=true)
  (k2:Py K (.ref f2)=true)
  (a3:PH K Qv "grouped"=some (some (.ref f3)))
  (l3:Lk K f3 "grouped" "grouped" lX oc3 od3 kV3 dc3 pm3 an3 cd3 ct3 sl3)
  (c3:PD K cd3 "grouped"=true)
  (k3:Py K (.ref f3)=true)
  (a4:Pn K (.ref Cl0) "got"=some (some (.ref f4)))
  (i4:Pr K (.ref f4)=true)
  (l4:Lk K f4 "got" "Nest.got" kz oc4 od4 kV4 dc4 pm4 an4 cd4 ct4 sl4)
  (c4:PD K cd4 "Nest.got"=true)
  (k4:Py K (.ref f4)=true)
  (a5:Pn K (.ref Cl1) "view_form"=some (some (.ref f5)))
  (i5:Pr K (.ref f5)=true)
  (l5:Lk K f5 "view_form" "Step.view_form" eL oc5 od5 kV5 dc5 pm5 an5 cd5 ct5 sl5)
  (c5:PD K cd5 "Step.view_form"=true)
  (k5:Py K (.ref f5)=true)
  (a6:PH K Qv "kinds_of"=some (some (.ref f6)))
  (l6:Lk K f6 "kinds_of" "kinds_of" kD oc6 od6 kV6 dc6 pm6 an6 cd6 ct6 sl6)
  (c6:PD K cd6 "kinds_of"=true)
  (k6:Py K (.ref f6)=true)
  (a7:PH K Qv "depth_of"=some (some (.ref f7)))
  (l7:Lk K f7 "depth_of" "depth_of" i3 oc7 od7 kV7 dc7 pm7 an7 cd7 ct7 sl7)
  (c7:PD K cd7 "depth_of"=true)
  (k7:Py K (.ref f7)=true)
  (a8:PH K Qv "is_whole"=some (some (.ref f8)))
  (l8:Lk K f8 "is_whole" "is_whole" j6 oc8 od8 kV8 dc8 pm8 an8 cd8 ct8 sl8)
  (c8:PD K cd8 "is_whole"=true)
  (k8:Py K (.ref f8)=true)
  (a9:Pn K (.ref Cl0) "view_form"=some (some (.ref f9)))
  (i9:Pr K (.ref f9)=true)
  (l9:Lk K f9 "view_form" "Nest.view_form" eP oc9 od9 kV9 dc9 pm9 an9 cd9 ct9 sl9)
  (c9:PD K cd9 "Nest.view_form"=true)
  (k9:Py K (.ref f9)=true)
  (a10:Pn K (.ref Cl1) "put"=some (some (.ref f10)))
  (i10:Pr K (.ref f10)=true)
  (l10:Lk K f10 "put" "Step.put" j8 oc10 od10 kV10 dc10 pm10 an10 cd10 ct10 sl10)
  (c10:PD K cd10 "Step.put"=true)
  (k10:Py K (.ref f10)=true)
  (a11:PH K Qv "unnested"=some (some (.ref f11)))
  (l11:Lk K f11 "unnested" "unnested" kT oc11 od11 kV11 dc11 pm11 an11 cd11 ct11 sl11)
  (c11:PD K cd11 "unnested"=true)
  (k11:Py K (.ref f11)=true)
  (a12:Pn K (.ref Cl0) "put"=some (some (.ref f12)))
  (i12:Pr K (.ref f12)=true)
  (l12:Lk K f12 "put" "Nest.put" kH oc12 od12 kV12 dc12 pm12 an12 cd12 ct12 sl12)
  (c12:PD K cd12 "Nest.put"=true)
  (k12:Py K (.ref f12)=true)
  (a13:PH K Qv "_law_next"=some (some (.ref f13)))
  (l13:Lk K f13 "_law_next" "_law_next" jn oc13 od13 kV13 dc13 pm13 an13 cd13 ct13 sl13)
  (c13:PD K cd13 "_law_next"=true)
  (k13:Py K (.ref f13)=true)
  (a14:PH K Qv "_law_sorted"=some (some (.ref f14)))
  (l14:Lk K f14 "_law_sorted" "_law_sorted" gQ oc14 od14 kV14 dc14 pm14 an14 cd14 ct14 sl14)
  (c14:PD K cd14 "_law_sorted"=true)
  (k14:Py K (.ref f14)=true)
  (a15:PH K Qv "_law_value"=some (some (.ref f15)))
  (l15:Lk K f15 "_law_value" "_law_value" fW oc15 od15 kV15 dc15 pm15 an15 cd15 ct15 sl15)
  (c15:PD K cd15 "_law_value"=true)
  (k15:Py K (.ref f15)=true)
  (a16:PH K Qv "_law_row"=some (some (.ref f16)))
  (l16:Lk K f16 "_law_row" "_law_row" iU oc16 od16 kV16 dc16 pm16 an16 cd16 ct16 sl16)
  (c16:PD K cd16 "_law_row"=true)
  (k16:Py K (.ref f16)=true)
  (a17:PH K Qv "_law_rows"=some (some (.ref f17)))
  (l17:Lk K f17 "_law_rows" "_law_rows" hV oc17 od17 kV17 dc17 pm17 an17 cd17 ct17 sl17)
  (c17:PD K cd17 "_law_rows"=true)
  (k17:Py K (.ref f17)=true)
  (a18:PH K Qv "_law_again"=some (some (.ref f18)))
  (l18:Lk K f18 "_law_again" "_law_again" iC oc18 od18 kV18 dc18 pm18 an18 cd18 ct18 sl18)
  (c18:PD K cd18 "_law_again"=true)
  (k18:Py K (.ref f18)=true)
  (a19:PH K Qv "_law_name"=some (some (.ref f19)))
  (l19:Lk K f19 "_law_name" "_law_name" jd oc19 od19 kV19 dc19 pm19 an19 cd19 ct19 sl19)
  (c19:PD K cd19 "_law_name"=true)
  (k19:Py K (.ref f19)=true)
  (a20:PH K Qv "_law_cell_at"=some (some (.ref f20)))
  (l20:Lk K f20 "_law_cell_at" "_law_cell_at" fT oc20 od20 kV20 dc20 pm20 an20 cd20 ct20 sl20)
  (c20:PD K cd20 "_law_cell_at"=true)
  (k20:Py K (.ref f20)=true)
  (a21:Pn K (.ref Cl0) "steady"=some (some (.ref f21)))
  (a21_1:Pn K (.ref Cl1) "steady"=some (some (.ref f21)))
  (i21:Pr K (.ref f21)=true)
  (l21:Lk K f21 "steady" "Step.steady" gP oc21 od21 kV21 dc21 pm21 an21 cd21 ct21 sl21)
  (c21:PD K cd21 "Step.steady"=true)
  (k21:Py K (.ref f21)=true)
  (a22:Pn K (.ref Cl0) "exact"=some (some (.ref f22)))
  (a22_1:Pn K (.ref Cl1) "exact"=some (some (.ref f22)))
  (i22:Pr K (.ref f22)=true)
  (l22:Lk K f22 "exact" "Step.exact" iA oc22 od22 kV22 dc22 pm22 an22 cd22 ct22 sl22)
  (c22:PD K cd22 "Step.exact"=true)
  (k22:Py K (.ref f22)=true)
  (a23:Pn K (.ref Cl1) "words"=some (some (.ref f23)))
  (i23:Pr K (.ref f23)=true)
  (l23:Lk K f23 "words" "Step.words" iD oc23 od23 kV23 dc23 pm23 an23 cd23 ct23 sl23)
  (c23:PD K cd23 "Step.words"=true)
  (k23:Py K (.ref f23)=true)
  (a24:PH K Qv "written"=some (some (.ref f24)))
  (l24:Lk K f24 "written" "written" md oc24 od24 kV24 dc24 pm24 an24 cd24 ct24 sl24)
  (c24:PD K cd24 "written"=true)
  (k24:Py K (.ref f24)=true)
  (a25:Pn K (.ref Cl0) "words"=some (some (.ref f25)))
  (i25:Pr K (.ref f25)=true)
  (l25:Lk K f25 "words" "Nest.words" iE oc25 od25 kV25 dc25 pm25 an25 cd25 ct25 sl25)
  (c25:PD K cd25 "Nest.words"=true)
  (k25:Py K (.ref f25)=true)
  (a26:PH K Qv "_law_seed"=some (some (.ref f26)))
  (l26:Lk K f26 "_law_seed" "_law_seed" jl oc26 od26 kV26 dc26 pm26 an26 cd26 ct26 sl26)
  (c26:PD K cd26 "_law_seed"=true)
  (k26:Py K (.ref f26)=true)
  (a27:PH K Qv "_law_table"=some (some (.ref f27)))
  (l27:Lk K f27 "_law_table" "_law_table" iH oc27 od27 kV27 dc27 pm27 an27 cd27 ct27 sl27)
  (c27:PD K cd27 "_law_table"=true)
  (k27:Py K (.ref f27)=true)
  (a28:PH K Qv "_law_plain"=some (some (.ref f28)))
  (l28:Lk K f28 "_law_plain" "_law_plain" iB oc28 od28 kV28 dc28 pm28 an28 cd28 ct28 sl28)
  (c28:PD K cd28 "_law_plain"=true)
  (k28:Py K (.ref f28)=true)
  (a29:PH K Qv "_law_kind"=some (some (.ref f29)))
  (l29:Lk K f29 "_law_kind" "_law_kind" ib oc29 od29 kV29 dc29 pm29 an29 cd29 ct29 sl29)
  (c29:PD K cd29 "_law_kind"=true)
  (k29:Py K (.ref f29)=true)
  (a30:PH K Qv "_law_form"=some (some (.ref f30)))
  (l30:Lk K f30 "_law_form" "_law_form" ie oc30 od30 kV30 dc30 pm30 an30 cd30 ct30 sl30)
  (c30:PD K cd30 "_law_form"=true)
  (k30:Py K (.ref f30)=true)
  (a31:PH K Qv "_law_drawn_form"=some (some (.ref f31)))
  (l31:Lk K f31 "_law_drawn_form" "_law_drawn_form" eD oc31 od31 kV31 dc31 pm31 an31 cd31 ct31 sl31)
  (c31:PD K cd31 "_law_drawn_form"=true)
  (k31:Py K (.ref f31)=true)
  (a32:PH K Qv "law"=some (some (.ref f32)))
  (l32:Lk K f32 "law" "law" qY oc32 od32 kV32 dc32 pm32 an32 cd32 ct32 sl32)
  (c32:PD K cd32 "law"=true)
  (k32:Py K (.ref f32)=true)
  (a33:Pn K (.ref Cl0) "__init__"=some (some (.ref f33)))
  (i33:Pr K (.ref f33)=true)
  (l33:Lk K f33 "__init__" "Nest.__init__" e6 oc33 od33 kV33 dc33 pm33 an33 cd33 ct33 sl33)
  (c33:PD K cd33 "Nest.__init__"=true)
  (k33:Py K (.ref f33)=true)
  (p0:Pl K Cl0 Str.empty=true)
  (q0:Pm K Cl0=true)
  (r0:Pt K Cl0=true)
  (s0:Pn K (.ref Cl0) "__setattr__"=some (some (.builtin "object.__setattr__")))
  (n0_0:Pn K (.ref Cl0) "many"=some none)
  (n0_1:Pn K (.ref Cl0) "name"=some none)
  (m0:Pw K Cl0=true)
  (kp0:Py K (.ref Cl0)=true)
  (p1:Pl K Cl1 Str.empty=true)
  (q1:Pm K Cl1=true)
  (r1:Pt K Cl1=true)
  (s1:Pn K (.ref Cl1) "__setattr__"=some (some (.builtin "object.__setattr__")))
  (z0:PH K Qv "isinstance"=some none)
  (z1:PH K Qv "str"=some none)
  (z2:PH K Qv "bool"=some none)
  (z3:PH K Qv "int"=some none)
  (z4:PH K Qv "tuple"=some none)
  (z5:PH K Qv "len"=some none)
  (z6:PH K Qv "zip"=some none)
  (z7:PH K Qv "sorted"=some none)
  (z8:PH K Qv "list"=some none)
  (z9:PH K Qv "dict"=some none)
  (z10:PH K Qv "max"=some none)
  (z11:PH K Qv "range"=some none)
  (z12:PH K Qv "min"=some none)
  (e0:PH K Qv "MOST_WITHIN"=some (some (.int 3 tk0))) :
  ∃ fd:QY,(∀ (s:Qy) (v:Qo),QZ s fd ⟨[v],[]⟩ [("_law_script",v)])/\∀ base:Qt,K.In base->base.Ns Qv mg->jp l.prog w K mg base (oV l.prog w) 24 fa fd ["_law_script"] (Bx K 1 (aF rG 1 10)):=by
 have e:=hfa.symm.trans (PQ X G a32)
 cases e
 have aZ:=PR X G z0
 have ji:=PR X G z1
 have ik:=PR X G z2
 have fD:=PR X G z3
 have aM:=PR X G z4
 have cv:=PR X G z5
 have tU:=PR X G z6
 have fS:=PR X G z7
 have kQ:=PR X G z8
 have yn:=PR X G z9
 have fY:=PR X G z10
 have bS:=PR X G z11
 have CV:=PR X G z12
 have c_MOST_WITHIN:∃ t,mg "MOST_WITHIN"=some (.int 3 t):=⟨_,PQ X G e0⟩
 have F0:=bR (st:=fQ) l0 c0 k0
 have b0:=F0.binds (ps:=["_law_found","_law_due"]) fun _ _ _ _ _ _ us hl=>by obtain⟨u0,u1,rfl⟩:=om hl; rfl
 have F1:=bR (st:=gU) l1 c1 k1
 have b1:=F1.binds (ps:=["_law_table_here","_law_many"]) fun _ _ _ _ _ _ us hl=>by obtain⟨u0,u1,rfl⟩:=om hl; rfl
 have F2:=bR (st:=kC) l2 c2 k2
 have b2:=F2.binds (ps:=["self","form","table"]) fun _ _ _ _ _ _ us hl=>by obtain⟨u0,u1,u2,rfl⟩:=BV hl; rfl
 have F3:=bR (st:=lX) l3 c3 k3
 have b3:=F3.binds (ps:=["many","rows"]) fun _ _ _ _ _ _ us hl=>by obtain⟨u0,u1,rfl⟩:=om hl; rfl
 have F4:=bR (st:=kz) l4 c4 k4
 have b4:=F4.binds (ps:=["self","form","table"]) fun _ _ _ _ _ _ us hl=>by obtain⟨u0,u1,u2,rfl⟩:=BV hl; rfl
 have F5:=bR (st:=eL) l5 c5 k5
 have b5:=F5.binds (ps:=["self","form"]) fun _ _ _ _ _ _ us hl=>by obtain⟨u0,u1,rfl⟩:=om hl; rfl
 have F6:=bR (st:=kD) l6 c6 k6
 have b6:=F6.binds (ps:=["form"]) fun _ _ _ _ _ _ us hl=>by obtain⟨u0,rfl⟩:=wq hl; rfl
 have F7:=bR (st:=i3) l7 c7 k7
 have b7:=F7.binds (ps:=["form"]) fun _ _ _ _ _ _ us hl=>by obtain⟨u0,rfl⟩:=wq hl; rfl
 have F8:=bR (st:=j6) l8 c8 k8
 have b8:=F8.binds (ps:=["value"]) fun _ _ _ _ _ _ us hl=>by obtain⟨u0,rfl⟩:=wq hl; rfl
 have F9:=bR (st:=eP) l9 c9 k9
 have b9:=F9.binds (ps:=["self","form"]) fun _ _ _ _ _ _ us hl=>by obtain⟨u0,u1,rfl⟩:=om hl; rfl
 have F10:=bR (st:=j8) l10 c10 k10
 have b10:=F10.binds (ps:=["self","form","table","view"]) fun _ _ _ _ _ _ us hl=>by obtain⟨u0,u1,u2,u3,rfl⟩:=GU hl; rfl
 have F11:=bR (st:=kT) l11 c11 k11
 have b11:=F11.binds (ps:=["many","table"]) fun _ _ _ _ _ _ us hl=>by obtain⟨u0,u1,rfl⟩:=om hl; rfl
 have F12:=bR (st:=kH) l12 c12 k12
 have b12:=F12.binds (ps:=["self","form","table","view"]) fun _ _ _ _ _ _ us hl=>by obtain⟨u0,u1,u2,u3,rfl⟩:=GU hl; rfl
 have F13:=bR (st:=jn) l13 c13 k13
 have b13:=F13.binds (ps:=["_law_x"]) fun _ _ _ _ _ _ us hl=>by obtain⟨u0,rfl⟩:=wq hl; rfl
 have F14:=bR (st:=gQ) l14 c14 k14
 have b14:=F14.binds (ps:=["_law_many","_law_rows_here"]) fun _ _ _ _ _ _ us hl=>by obtain⟨u0,u1,rfl⟩:=om hl; rfl
 have F15:=bR (st:=fW) l15 c15 k15
 have b15:=F15.binds (ps:=["_law_kind_here","_law_x"]) fun _ _ _ _ _ _ us hl=>by obtain⟨u0,u1,rfl⟩:=om hl; rfl
 have F16:=bR (st:=iU) l16 c16 k16
 have b16:=F16.binds (ps:=["_law_form_here","_law_many","_law_head","_law_tail"]) fun _ _ _ _ _ _ us hl=>by obtain⟨u0,u1,u2,u3,rfl⟩:=GU hl; rfl
 have F17:=bR (st:=hV) l17 c17 k17
 have b17:=F17.binds (ps:=["_law_form_here","_law_x","_law_many"]) fun _ _ _ _ _ _ us hl=>by obtain⟨u0,u1,u2,rfl⟩:=BV hl; rfl
 have F18:=bR (st:=iC) l18 c18 k18
 have b18:=F18.binds (ps:=["_law_step","_law_form_here","_law_many","_law_extra","_law_x"]) fun _ _ _ _ _ _ us hl=>by obtain⟨u0,u1,u2,u3,u4,rfl⟩:=Ij hl; rfl
 have F19:=bR (st:=jd) l19 c19 k19
 have b19:=F19.binds (ps:=["_law_base","_law_k"]) fun _ _ _ _ _ _ us hl=>by obtain⟨u0,u1,rfl⟩:=om hl; rfl
 have F20:=bR (st:=fT) l20 c20 k20
 have b20:=F20.binds (ps:=["_law_script","_law_k"]) fun _ _ _ _ _ _ us hl=>by obtain⟨u0,u1,rfl⟩:=om hl; rfl
 have F21:=bR (st:=gP) l21 c21 k21
 have b21:=F21.binds (ps:=["self","form"]) fun _ _ _ _ _ _ us hl=>by obtain⟨u0,u1,rfl⟩:=om hl; rfl
 have F22:=bR (st:=iA) l22 c22 k22
 have b22:=F22.binds (ps:=["self","form"]) fun _ _ _ _ _ _ us hl=>by obtain⟨u0,u1,rfl⟩:=om hl; rfl
 have F23:=bR (st:=iD) l23 c23 k23
 have b23:=F23.binds (ps:=["self"]) fun _ _ _ _ _ _ us hl=>by obtain⟨u0,rfl⟩:=wq hl; rfl
 have F24:=bR (st:=md) l24 c24 k24
 have b24:=F24.binds (ps:=["value"]) fun _ _ _ _ _ _ us hl=>by obtain⟨u0,rfl⟩:=wq hl; rfl
 have F25:=bR (st:=iE) l25 c25 k25
 have b25:=F25.binds (ps:=["self"]) fun _ _ _ _ _ _ us hl=>by obtain⟨u0,rfl⟩:=wq hl; rfl
 have F26:=bR (st:=jl) l26 c26 k26
 have b26:=F26.binds (ps:=["_law_script","_law_k"]) fun _ _ _ _ _ _ us hl=>by obtain⟨u0,u1,rfl⟩:=om hl; rfl
 have F27:=bR (st:=iH) l27 c27 k27
 have b27:=F27.binds (ps:=["_law_form_here","_law_many","_law_script","_law_start","_law_most"]) fun _ _ _ _ _ _ us hl=>by obtain⟨u0,u1,u2,u3,u4,rfl⟩:=Ij hl; rfl
 have F28:=bR (st:=iB) l28 c28 k28
 have b28:=F28.binds (ps:=["_law_x"]) fun _ _ _ _ _ _ us hl=>by obtain⟨u0,rfl⟩:=wq hl; rfl
 have F29:=bR (st:=ib) l29 c29 k29
 have b29:=F29.binds (ps:=["_law_x","_law_base","_law_deep"]) fun _ _ _ _ _ _ us hl=>by obtain⟨u0,u1,u2,rfl⟩:=BV hl; rfl
 have F30:=bR (st:=ie) l30 c30 k30
 have b30:=F30.binds (ps:=["_law_x","_law_base","_law_start","_law_many","_law_more","_law_deep"]) fun _ _ _ _ _ _ us hl=>by obtain⟨u0,u1,u2,u3,u4,u5,rfl⟩:=Kr hl; rfl
 have F31:=bR (st:=eD) l31 c31 k31
 have b31:=F31.binds (ps:=["_law_script","_law_fewest"]) fun _ _ _ _ _ _ us hl=>by obtain⟨u0,u1,rfl⟩:=om hl; rfl
 have F32:=bR (st:=qY) l32 c32 k32
 have F33:=bR (st:=e6) l33 c33 k33
 have b33:=F33.binds (ps:=["self","many","name"]) fun _ _ _ _ _ _ us hl=>by obtain⟨u0,u1,u2,rfl⟩:=BV hl; rfl
 have cl0:ye K Cl0:=⟨p0,q0,r0,s0⟩
 have cl1:ye K Cl1:=⟨p1,q1,r1,s1⟩
 have bF:lg K "many" ["Nest"]:=by
  intro c hc C hC
  simp only [N1,Oy,or_false] at hc
  rcases hc with rfl
  ·cases oI hC ac0; exact⟨cl0,n0_0⟩
 have cI:lg K "name" ["Nest"]:=by
  intro c hc C hC
  simp only [N1,Oy,or_false] at hc
  rcases hc with rfl
  ·cases oI hC ac0; exact⟨cl0,n0_1⟩
 refine⟨PC "law" "law" (mJ qY) (fP qY) (aB qY) .none kV32 dc32 pm32 an32 cd32 ct32,fun s v=>.of_eq rfl,fun base _ _=>?_⟩
 have yx:=Bm (P:=l.prog) (w:=w) (base:=base) ac0 ⟨m0,a33,i33,kp0⟩ cl0 (by intro g hg; simp only [N1,Oy,or_false] at hg; rcases hg with rfl | rfl <;> first | exact n0_0 | exact n0_1) F33 b33 (PQ X G ac0)
 have fam:=lT (P:=l.prog) (w:=w) (base:=base) F0 b0 (PQ X G a0) aZ ji ik fD aM cv tU 20
 have bN:=fam
 have dI:=bE F1 b1 (PQ X G a1) rK (cT.ok (rR (P:=l.prog) (w:=w) (base:=base) (f:=f1) fS kQ aM))
 have okb_Step_got:=xA (P:=l.prog) (w:=w) (base:=base) (K:=K) (mg:=mg) (f:=f2)
 have pp:=bE F3 b3 (PQ X G a3) yE (cT.ok (xX (P:=l.prog) (w:=w) (base:=base) (f:=f3) yn aM))
 have okb_Nest_got:=wc (P:=l.prog) (w:=w) (base:=base) (K:=K) (mg:=mg) (f:=f4) pp bF aM
 have okb_Step_view_form:=nX (P:=l.prog) (w:=w) (base:=base) (K:=K) (mg:=mg) (f:=f5)
 have gG:=bE F6 b6 (PQ X G a6) wX (cT.ok (wN (P:=l.prog) (w:=w) (base:=base) (f:=f6) aM))
 have fam:=ou (P:=l.prog) (w:=w) (base:=base) F7 b7 (PQ X G a7) gG fY 20
 have iW:=fam
 have nw:=bE F8 b8 (PQ X G a8) vJ (cT.ok (xj (P:=l.prog) (w:=w) (base:=base) (f:=f8) aZ fD ik))
 have okb_Nest_view_form:=oq (P:=l.prog) (w:=w) (base:=base) (K:=K) (mg:=mg) (f:=f9) nw iW bF cI cv c_MOST_WITHIN
 have okb_Step_put:=wB (P:=l.prog) (w:=w) (base:=base) (K:=K) (mg:=mg) (f:=f10)
 have nH:=bE F11 b11 (PQ X G a11) v7 (cT.ok (ww (P:=l.prog) (w:=w) (base:=base) (f:=f11) aM))
 have okb_Nest_put:=wI (P:=l.prog) (w:=w) (base:=base) (K:=K) (mg:=mg) (f:=f12) nH bF
 have aD:=bE F13 b13 (PQ X G a13) vz (cT.ok (uZ (P:=l.prog) (w:=w) (base:=base) (f:=f13) ))
 have bJ:=bE F14 b14 (PQ X G a14) qF (cT.ok (qX (P:=l.prog) (w:=w) (base:=base) (f:=f14) aM fS kQ))
 have fam:=lM (P:=l.prog) (w:=w) (base:=base) F15 b15 (PQ X G a15) F16 b16 (PQ X G a16) F17 b17 (PQ X G a17) aD bJ cv fY fD aM bS 20
 have fX:=fam.1
 have fu:=fam.2.1
 have eJ:=fam.2.2
 have fI:eG l.prog w K mg base 22 "view_form" ["self","form"] [("Step",(aF aN 2 2)),("Nest",(aF aH 2 4))]:=cS (MethAt.mono (cy (c := "Step") (m := "view_form") ac1 cl1 ⟨a5,i5,k5⟩ F5 b5 jk (cT.ok okb_Step_view_form)) (by decide)) aP (cS (MethAt.mono (cy (c := "Nest") (m := "view_form") ac0 cl0 ⟨a9,i9,k9⟩ F9 b9 jh (cT.ok okb_Nest_view_form)) (by decide)) aP (jc))
 have iw:eG l.prog w K mg base 22 "got" ["self","form","table"] [("Step",(aF bG 3 3)),("Nest",(aF bi 3 3))]:=cS (MethAt.mono (cy (c := "Step") (m := "got") ac1 cl1 ⟨a2,i2,k2⟩ F2 b2 pL (cT.ok okb_Step_got)) (by decide)) aP (cS (MethAt.mono (cy (c := "Nest") (m := "got") ac0 cl0 ⟨a4,i4,k4⟩ F4 b4 pX (cT.ok okb_Nest_got)) (by decide)) aP (jc))
 have iF:eG l.prog w K mg base 22 "put" ["self","form","table","view"] [("Step",(aF fg 4 4)),("Nest",(aF dP 4 4))]:=cS (MethAt.mono (cy (c := "Step") (m := "put") ac1 cl1 ⟨a10,i10,k10⟩ F10 b10 vV (cT.ok okb_Step_put)) (by decide)) aP (cS (MethAt.mono (cy (c := "Nest") (m := "put") ac0 cl0 ⟨a12,i12,k12⟩ F12 b12 vT (cT.ok okb_Nest_put)) (by decide)) aP (jc))
 have kn:=bE F18 b18 (PQ X G a18) sj (cT.ok (sF (P:=l.prog) (w:=w) (base:=base) (f:=f18) eJ dI bN fI iw iF cI cv))
 have cm:=bE F19 b19 (PQ X G a19) vt (cT.ok (uN (P:=l.prog) (w:=w) (base:=base) (f:=f19) bS))
 have bY:=bE F20 b20 (PQ X G a20) qa (cT.ok (qb (P:=l.prog) (w:=w) (base:=base) (f:=f20) cv))
 have okb_Step_steady:=qL (P:=l.prog) (w:=w) (base:=base) (K:=K) (mg:=mg) (f:=f21)
 have okb_Step_exact:=sP (P:=l.prog) (w:=w) (base:=base) (K:=K) (mg:=mg) (f:=f22)
 have okb_Step_words:=sO (P:=l.prog) (w:=w) (base:=base) (K:=K) (mg:=mg) (f:=f23)
 have pj:=bE F24 b24 (PQ X G a24) x9 (cT.ok (xP (P:=l.prog) (w:=w) (base:=base) (f:=f24) aZ ji))
 have okb_Nest_words:=sS (P:=l.prog) (w:=w) (base:=base) (K:=K) (mg:=mg) (f:=f25) pj cI bF
 have dG:=bE F26 b26 (PQ X G a26) uJ (cT.ok (uP (P:=l.prog) (w:=w) (base:=base) (f:=f26) bY aD))
 have kA:=bE F27 b27 (PQ X G a27) sC (cT.ok (sq (P:=l.prog) (w:=w) (base:=base) (f:=f27) dG fu aD bJ bS CV fY cv))
 have cU:=bE F28 b28 (PQ X G a28) sR (cT.ok (sB (P:=l.prog) (w:=w) (base:=base) (f:=f28) bS cv aM fS kQ))
 have fam:=nc (P:=l.prog) (w:=w) (base:=base) F29 b29 (PQ X G a29) F30 b30 (PQ X G a30) cU aD cm bS aM 20
 have lC:=fam.1
 have fF:=fam.2
 have fM:=bE F31 b31 (PQ X G a31) nz (cT.ok (nD (P:=l.prog) (w:=w) (base:=base) (f:=f31) dG bY fF aD))
 have iZ:eG l.prog w K mg base 23 "view_form" ["self","form"] [("Step",(aF aN 2 2)),("Nest",(aF aH 2 4))]:=cS (MethAt.mono (cy (c := "Step") (m := "view_form") ac1 cl1 ⟨a5,i5,k5⟩ F5 b5 jk (cT.ok okb_Step_view_form)) (by decide)) aP (cS (MethAt.mono (cy (c := "Nest") (m := "view_form") ac0 cl0 ⟨a9,i9,k9⟩ F9 b9 jh (cT.ok okb_Nest_view_form)) (by decide)) aP (jc))
 have j7:eG l.prog w K mg base 23 "words" ["self"] [("Step",(aF dR 1 1)),("Nest",(aF cZ 1 1))]:=cS (MethAt.mono (cy (c := "Step") (m := "words") ac1 cl1 ⟨a23,i23,k23⟩ F23 b23 sQ (cT.ok okb_Step_words)) (by decide)) aP (cS (MethAt.mono (cy (c := "Nest") (m := "words") ac0 cl0 ⟨a25,i25,k25⟩ F25 b25 sU (cT.ok okb_Nest_words)) (by decide)) aP (jc))
 have kP:eG l.prog w K mg base 23 "exact" ["self","form"] [("Step",(aF bP 2 2)),("Nest",(aF bP 2 2))]:=cS (MethAt.mono (cy (c := "Step") (m := "exact") ac1 cl1 ⟨a22_1,i22,k22⟩ F22 b22 m9 (cT.ok okb_Step_exact)) (by decide)) aP (cS (MethAt.mono (cy (c := "Nest") (m := "exact") ac0 cl0 ⟨a22,i22,k22⟩ F22 b22 m9 (cT.ok okb_Step_exact)) (by decide)) aP (jc))
 have js:eG l.prog w K mg base 23 "steady" ["self","form"] [("Step",(aF bB 2 2)),("Nest",(aF bB 2 2))]:=cS (MethAt.mono (cy (c := "Step") (m := "steady") ac1 cl1 ⟨a21_1,i21,k21⟩ F21 b21 lN (cT.ok okb_Step_steady)) (by decide)) aP (cS (MethAt.mono (cy (c := "Nest") (m := "steady") ac0 cl0 ⟨a21,i21,k21⟩ F21 b21 lN (cT.ok okb_Step_steady)) (by decide)) aP (jc))
 have lL:eG l.prog w K mg base 23 "got" ["self","form","table"] [("Step",(aF bG 3 3)),("Nest",(aF bi 3 3))]:=cS (MethAt.mono (cy (c := "Step") (m := "got") ac1 cl1 ⟨a2,i2,k2⟩ F2 b2 pL (cT.ok okb_Step_got)) (by decide)) aP (cS (MethAt.mono (cy (c := "Nest") (m := "got") ac0 cl0 ⟨a4,i4,k4⟩ F4 b4 pX (cT.ok okb_Nest_got)) (by decide)) aP (jc))
 exact Hh (P:=l.prog) (w:=w) (base:=base) F32 fM aD dG kA cm bY bN dI kn iZ j7 kP js lL yx cv ji
theorem walk {l:PF} {q:Qq} {loose:List Str} {XP:(Str->Option Qo)->Qt->Prop} {YP:Qp->Qt->Prop} {d:DefRec} {K:Params->Pj} (hn:l.most=some 63) (hdf:d.params.defaults=[])
  (hY:∀ (w:Qp) (h:Qt),YP w h->(K w.params).In h)
  (F:∀ (w:Qp) (mg:Str->Option Qo) (fa:Qr) (h:Qt),(K w.params).In h->h.Ns Qv mg->mg d.name=some (.ref fa) ->
   ∃ fd:QY,(∀ (s:Qy) (u:Qo),QZ s fd ⟨[u],[]⟩ [("_law_script",u)])/\∀ base:Qt,(K w.params).In base->base.Ns Qv mg->jp l.prog w (K w.params) mg base (oV l.prog w) 24 fa fd ["_law_script"] (Bx (K w.params) 1 (aF rG 1 10)))
  (math:∀ ns:List Int,ns.length<=63->aF rG 1 10 [.lst (ns.map .int)]=.ok (.bl true)):PySem.W.WalkO q loose XP YP l.row.toRowW d [] (fun f vs=>PySem.call f vs) :=
 L2.J3 (n:=63) (k:=24) (x := "_law_script") (CX:=fun w=>oV l.prog w) (sp:=fun w=>Bx (K w.params) 1 (aF rG 1 10)) hn (by decide) hdf ⟨rfl,by decide,by decide⟩ hY F
  (fun w H a ns hl _ hS=>⟨[],[.lst (ns.map .int)],rfl,⟨trivial,fun a h=>nomatch h⟩,by rw [D3]; exact bo.mpr ⟨.ref a,[],rfl,cX.mpr ⟨a,_,rfl,hS,tV ns⟩,cR.mpr rfl⟩,by rw [math ns hl]; exact fun v H' _ d=>lh.mp d⟩) fun _ _ _ _ _ z=>by obtain⟨_,_,_,_,_,_,_,_,_,_,_,_,_,z⟩:=z; exact z
end Tk40
namespace Tk40
open PySem PySem.Spec L2 TG TD T4
local macro_rules
 | `(tactic| simp! only [$xs,*])=>`(tactic| simp only [dD,tM,pW,tB,ip,e9,ge_0,AC,o9,Bg,pC,mr,pB,o0,zT,AR,Av,AX,Ao,oH,oG,sZ,jL,my,oS,mO,tI,pF,oM,lZ,oF,jR,oR,jX,jF,iJ,iM,o6,lY,iI,mK,jC,mh,mP,gZ,mj,jT,nI,mq,ju,iG,mi,mM,Ab,tS,AO,Bd,AI,pA,mC,oB,mE,mL,Bf,AF,OI,OJ,MX,Nk,Nx,NN,K0,env0,List.replicate,Oe,M1,OD,Nat.reduceAdd,Nat.reduceSub,MV,Np,ph,oX,tK,pI,o3,oA,iL,pf,tu,uk,sX,o5,jW,jM,jJ,jx,jP,jU,uw,tx,tD,tH,uq,uh,jA,jN,gJ,gK,o8,iK,gz,gu,gB,ky,lx,gq,gA,jY,jZ,ml,mz,jG,mH,oJ,pE,mI,lW,gN,if_true,if_false,OL,OM,Nv,$xs,*])
inductive Kd where
 | num (lo hi:Int) | wrd (ws:List Str)
def Kd.d:Kd->D
 | .num lo hi=>.tup [.str "number",.int lo,.int hi]
 | .wrd ws=>.tup [.str "word",.tup (ws.map .str)]
def Kd.gd:Kd->Prop
 | .num lo hi=>lo<=hi
 | .wrd ws=>ws≠[]/\ws.length<=100
def Kd.b:Kd->Bool
 | .num _ _=>true
 | .wrd _=>false
abbrev KL:=List (Str×Kd)
def kf (p:Str×Kd):D:=.tup [.str p.1,p.2.d]
abbrev fr (k:KL) (r:List (Str×D)):D:=.tup [.tup (k.map kf),.tup (r.map fld)]
def toD (p:Str×Kd):Str×D:=(p.1,p.2.d)
theorem vd (k:KL):k.map kf=(k.map toD).map fld:=by rw [Ow]; rfl
theorem Gf:(("number":Str)==("number":Str))=true:=by decide +kernel
theorem Ds:(("word":Str)==("word":Str))=true:=by decide +kernel
theorem Hu:(("word":Str)==("number":Str))=false:=by decide +kernel
theorem Gd:(("rows":Str)==("number":Str))=false:=by decide +kernel
theorem DX:(("rows":Str)==("word":Str))=false:=by decide +kernel
def KG:Nat->D->Prop
 | 0,d=>∃ c:Kd,c.gd/\d=c.d
 | n+1,d=>(∃ c:Kd,c.gd/\d=c.d)\/∃ (ks:KL) (qs:List (Str×D)) (b:Bool),d=.tup [.str "rows",fr ks qs,.bl b]/\1<=ks.length/\ks.length<=8/\(∀ p∈ks,p.2.gd)/\qs.length<=8/\∀ q∈qs,KG n q.2
theorem DF (ws:List Str) (w:Str):sN ws w≠[]:=by
 unfold sN
 split
 ·rename_i h
  intro z
  rw [z] at h
  simp at h
 ·simp
theorem Jj (ws:List Str) (h:ws.Nodup) (hl:ws.length < 64):∃ us:List Str,e7 [.lst (ws.map .str)]=some (.lst (us.map .str))/\us.Perm ws:=by
 have pz:∀ zs:List D,zs.Perm (ws.map D.str)->∃ us:List Str,zs=us.map .str/\us.Perm ws:=fun zs p=>by
  have e:zs=(zs.map fun z=>match z with | .str w=>w | _ => "").map .str:=by
   rw [Ow]
   conv=>lhs; rw [<- List.map_id zs]
   refine NP fun z hz=>?_
   obtain⟨w,_,rfl⟩:=List.mem_map.mp (p.mem_iff.mp hz)
   rfl
  refine⟨_,e,?_⟩
  have q:=p.map fun z:D=>match z with | .str w=>w | _=>("":Str)
  rw [Ow] at q
  have e2:ws.map ((fun z:D=>match z with | .str w=>w | _=>("":Str)) ∘ D.str)=ws:=by
   conv=>rhs; rw [<- List.map_id ws]
   exact NP fun _ _=>rfl
  rw [e2] at q
  exact q
 have fin:∀ key:D->List D,∃ us:List Str,some (D.lst (jV key (ws.map .str)))=some (.lst (us.map .str))/\us.Perm ws:=fun key=>by
  obtain⟨us,e,q⟩:=pz _ (gh key (ws.map .str))
  exact⟨us,by rw [e],q⟩
 show ∃ us,pM (ws.map .str)=_/\_
 unfold pM
 by_cases a:Gq (ws.map .str)
 ·rw [if_pos a]; exact fin _
 ·have b:IB (ws.map .str):=by
   refine⟨by rw [MY]; exact hl,false,fun x hx=>?_,?_⟩
   ·obtain⟨w,_,rfl⟩:=List.mem_map.mp hx
    exact .str w .nil
   ·rw [Ou]
    refine h.imp fun hne e=>hne ?_
    have e:[D.str _]=[D.str _]:=e
    injection e with e _
    injection e
  rw [if_neg a,if_pos b]; exact fin _
theorem qM (x:Int) (h0:0<=x) (h1:x < 2147483700):∃ c:Kd,aF dh 1 8 [.int x]=.ok c.d/\c.gd:=by
 have g3:=fun i=>bK (i:=i) (show (0:Int) < 3 by decide)
 have g4:=fun i=>bK (i:=i) (show (0:Int) < 4 by decide)
 have g26:=fun i=>bK (i:=i) (show (0:Int) < 26 by decide)
 have d3:=fun i=>cc (i:=i) (show (0:Int) < 3 by decide) (show (3:Int) < 10 ^ 200 by decide)
 have d12:=fun i=>cc (i:=i) (show (0:Int) < 12 by decide) (show (12:Int) < 10 ^ 200 by decide)
 have d78:=fun i=>cc (i:=i) (show (0:Int) < 78 by decide) (show (78:Int) < 10 ^ 200 by decide)
 have d2028:=fun i=>cc (i:=i) (show (0:Int) < 2028 by decide) (show (2028:Int) < 10 ^ 200 by decide)
 have p7:qc (.int x) (.int 7)=some (.int (x ^ 7)):=yC x 7 (by decide) ‹0›
 have pb:=HL
 have gp:=fun i=>bK (i:=i) (show (0:Int) < E8 by omega)
 rw [kc]; unfold dh
 by_cases h:x%3 < 2
 ·have h':decide (x%3 < 2)=true:=decide_eq_true h
  obtain⟨v,hv,e1⟩:=MA (.int 0) (.int (-3)) (.int (0 - x ^ 7%E8)) (.int (x ^ 7%E8)) (x / 3%4) ‹0› ‹0›
  obtain⟨lo,rfl⟩:∃ lo:Int,v=.int lo:=by
   simp only [N1,Oy,or_false] at hv
   rcases hv with rfl | rfl | rfl | rfl <;> exact⟨_,rfl⟩
  obtain⟨w,w0,e2⟩:∃ w:Int,0<=w/\aQ (.lst [.int 0,.int 1,.int 6,.int E8]) (.int (x / 12%4))=some (.int w):=by
   rcases(show x / 12%4=0\/x / 12%4=1\/x / 12%4=2\/x / 12%4=3 by omega) with z | z | z | z <;> rw [z]
   ·exact⟨0,by decide,rfl⟩
   ·exact⟨1,by decide,rfl⟩
   ·exact⟨6,by decide,rfl⟩
   ·exact⟨E8,by omega,rfl⟩
  refine⟨.num lo (lo+w),?_,by show lo<=lo+w; omega⟩
  unfold Kd.d
  simp! only [g3,h',p7,Ga,gp,Lj,d3,g4,e1,d12,e2,EY]
 ·have h':decide (x%3 < 2)=false:=decide_eq_false h
  have LL:(("abcdefghijklmnopqrstuvwxyz":Str)).length=26:=by decide +kernel
  have L0:(("":Str)).length<=1000:=by decide +kernel
  generalize hL:("abcdefghijklmnopqrstuvwxyz":Str)=L at LL
  obtain⟨one,ho,e1⟩:=n6 L ‹0› (x / 3%26) ‹0› ‹0›
  obtain⟨oth,hq,e2⟩:=n6 L ‹0› (x / 78%26) ‹0› ‹0›
  have a1:=iV one oth ‹0› ‹0›
  have a2:=iV oth one ‹0› ‹0›
  have a3:=iV one one ‹0› ‹0›
  have m1:=Ez (x:=one) (n:=8) (by decide) (by decide) ‹0›
  have m2:=Ez (x:=oth) (n:=3) (by decide) (by decide) ‹0›
  have r8:mB [.int 8]=some (fw 0 8):=iN 8 (by decide)
  generalize hW:[D.str "",.str one,.str oth,.str (one++oth),.str (oth++one),.str (j9 one 8),.str (one++one),.str (j9 oth 3)]=W
  have W8:W.length=8:=by rw [<- hW]; rfl
  have Ws:∀ d∈W,∃ w:Str,d=.str w:=by
   rw [<- hW]
   intro d hd
   simp only [N1,Oy,or_false] at hd
   rcases hd with rfl | rfl | rfl | rfl | rfl | rfl | rfl | rfl <;> exact⟨_,rfl⟩
  obtain⟨T,hT⟩:∃ T:cB,T=(aG (kK (gX (af (fC (.int 8)) (aq))) (gN 7) (aG (jb (fB (f2 kN (f2 yW (f2 DK (f2 dY (ah 0) (fC (.int 2028))) (ah 7)) (fC (.int 1))) (fC (.int 1)))) (nV 6 (f2 aQ (ah 5) (ah 7)) (fC (.bl true))) (cz)) (fK [7] cz))) (aG (jb (lm [6] (fB (f2 kN (fL tT (af (ah 6) (aq))) (fC (.int 0))))) (nV 6 (ah 3) (fC (.bl true))) (cz)) (iq 6 (bC (bH (af (fC (.str "word")) (af (fL cH (af (fL e7 (af (fL oU (af (ah 6) (aq))) (aq))) (aq))) (aq)))))))):=⟨_,rfl⟩
  have fin:∀ ws:List Str,ws.Nodup->ws.length<=10->ws≠[]->∃ c:Kd,iq 6 (bC (bH (af (fC (.str "word")) (af (fL cH (af (fL e7 (af (fL oU (af (ah 6) (aq))) (aq))) (aq))) (aq))))) K0 [some (.val (.int x)),none,none,some (.val (.str one)),none,some (.val (.lst W)),some (.own (wd ws)),none]=.ok c.d/\c.gd:=fun ws nd hl wn=>by
   obtain⟨us,ez,pz⟩:=Jj ws nd ‹0›
   refine⟨.wrd us,?_,⟨fun z=>wn (by rw [z] at pz; exact pz.symm.eq_nil),by rw [pz.length_eq]; omega⟩⟩
   unfold Kd.d
   simp! only [Cd,ez,Do]
  have key:∃ c:Kd,T K0 [some (.val (.int x)),none,none,some (.val (.str one)),none,some (.val (.lst W)),some (.own (.dct [] [])),none]=.ok c.d/\c.gd:=by
   rw [hT,gZ,iG]
   simp! only [r8]
   refine dS (Q:=fun z=>∃ c:Kd,z=.ok c.d/\c.gd) (fun i ρ=>∃ ws:List Str,ws.Nodup/\ws.length<=i/\ρ=[some (.val (.int x)),none,none,some (.val (.str one)),none,some (.val (.lst W)),some (.own (wd ws)),none]) ?_ ⟨[],Nr,MP _,rfl⟩ ?_
   ·rintro i d ρ kk hd ⟨ws,nd,hl,rfl⟩
    have hi:=cO hd
    rw [cG] at hi
    have hdi:d=.int (i:Int):=by
     rw [jv,M8,NW hi] at hd
     cases hd; simp
    subst hdi
    obtain⟨w,ew⟩:=Ws (W[i]'‹0›) (Ot _)
    have ix:aQ (.lst W) (.int (i:Int))=some (.str w):=by
     rw [KA,nQ ‹0›,ew]
    have sh:=FC (x / 2028) i
    cases hb:(Builtin.bitAnd (x / 2028 / 2 ^ i) 1==1) with
    | false =>
     refine⟨_,_,rfl,⟨ws,nd,by omega,rfl⟩,?_⟩
     simp! only [d2028,sh,yZ,hb]
    | true =>
     refine⟨_,_,rfl,⟨sN ws w,yV w nd,by have:=xc ws w; omega,rfl⟩,?_⟩
     have pk:=fun k:Ks=>zj (i:=6) (fk:=f2 aQ (ah 5) (ah 7)) (fv:=fC (.bl true)) (k:=k) (ρ:=[some (.val (.int x)),none,none,some (.val (.str one)),none,some (.val (.lst W)),some (.own (wd ws)),some (.val (.int (i:Int)))]) (al:=Ba ws) (q:=.inr w) (d:=.str w) (v:=.bl true) rfl (by simp! only [ix]) rfl rfl (by simp; omega)
     simp! only [d2028,sh,yZ,hb,pk,C7]
   ·rintro ρ' ⟨ws,nd,hl,rfl⟩
    rw [cG] at hl
    have pt:lm [6] (fB (f2 kN (fL tT (af (ah 6) (aq))) (fC (.int 0)))) [some (.val (.int x)),none,none,some (.val (.str one)),none,some (.val (.lst W)),some (.own (wd ws)),none]=.ok (((ws.length:Int))==0):=by
     simp! only [qB,Gg,EI]
    dsimp only
    rw [gZ,nI,pt,pW]
    cases hb:((ws.length:Int)==0) with
    | false=>exact fin ws nd ‹0› fun z=>by rw [z] at hb; cases hb
    | true =>
     have pk:=fun k:Ks=>zj (i:=6) (fk:=ah 3) (fv:=fC (.bl true)) (k:=k) (ρ:=[some (.val (.int x)),none,none,some (.val (.str one)),none,some (.val (.lst W)),some (.own (wd ws)),none]) (al:=Ba ws) (q:=.inr one) (d:=.str one) (v:=.bl true) rfl rfl rfl rfl (by simp; omega)
     rw [if_pos rfl,pk,C7]
     exact fin (sN ws one) (yV one nd) (by have:=xc ws one; omega) (DF ws one)
  obtain⟨d,ed,fd⟩:=key
  have mW:ng W=some (.lst W):=Gc ‹0›
  refine⟨d,?_,fd⟩
  rw [<- hT]
  simp only [K0] at ed
  simp! only [hL,g3,h',d3,g26,e1,d78,e2,a1,a2,a3,m1,m2,hW,mW,uS,ed]
theorem yU {b st:Int} {L:List Str} {nm:Str} (h:∀ (j:Nat) (w:Str),L[j]?=some w->zA b (st+(j:Int)) w) (hn:zA b (st+(L.length:Int)) nm):∀ (j:Nat) (w:Str),(L++[nm])[j]?=some w->zA b (st+(j:Int)) w:=fun j w e=>by
 rw [List.getElem?_append] at e
 split at e
 ·exact h j w e
 ·rename_i hj
  have:j - L.length=0:=by
   have:=cO e
   simp at this; omega
  rw [this] at e
  cases e
  rw [show j=L.length by omega]; exact hn
theorem zz (dp g:Nat) (hk:∀ x b:Int,0<=x->x < 2147483700->0<=b->∃ d,aV g [.int x,.int b,.int dp]=.ok d/\KG dp d) (x b st:Int) (m r:Nat) (h0:0<=x) (h1:x < 2147483700) (hb:0<=b) (hs:0<=st) (hm:m<=8) (hr:r<=8) :
  ∃ (ks:KL) (qs:List (Str×D)),aL (g+1) [.int x,.int b,.int st,.int m,.int r,.int dp]=.ok (fr ks qs)/\ks.length=m/\qs.length=r/\(∀ p∈ks,p.2.gd)/\(∀ q∈qs,KG dp q.2)/\∀ (j:Nat) (w:Str),(ks.map (·.1)++qs.map (·.1))[j]?=some w->zA b (st+(j:Int)) w:=by
 rw [gO,Gu]; unfold jg
 have rn:mB [.int ((m:Int)+(r:Int))]=some (fw 0 (m+r)):=by
  rw [show ((m:Int)+(r:Int))=((m+r:Nat):Int) by omega]
  exact iN (m+r) ‹0›
 obtain⟨T,hT⟩:∃ T:cB,T=iq 7 (iq 6 (bC (bH (af (fL cH (af (ah 6) (aq))) (af (fL cH (af (ah 7) (aq))) (aq)))))):=⟨_,rfl⟩
 rw [<- hT]
 simp! only [G4,rn]
 refine dS (Q:=fun z=>∃ (ks:KL) (qs:List (Str×D)),z=.ok (fr ks qs)/\ks.length=m/\qs.length=r/\(∀ p∈ks,p.2.gd)/\(∀ q∈qs,KG dp q.2)/\∀ (j:Nat) (w:Str),(ks.map (·.1)++qs.map (·.1))[j]?=some w->zA b (st+(j:Int)) w)
  (fun i ρ=>∃ (y:Int) (ks:KL) (qs:List (Str×D)),0<=y/\y < 2147483700/\ks.length=min i m/\qs.length=i - m/\(∀ p∈ks,p.2.gd)/\(∀ q∈qs,KG dp q.2)/\(∀ (j:Nat) (w:Str),(ks.map (·.1)++qs.map (·.1))[j]?=some w->zA b (st+(j:Int)) w) /\
   ρ=[some (.val (.int y)),some (.val (.int b)),some (.val (.int st)),some (.val (.int m)),some (.val (.int r)),some (.val (.int dp)),some (.own (.lst (ks.map kf))),some (.own (.lst (qs.map fld))),none]) ?_ ⟨x,[],[],h0,h1,by simp,by simp,(fun _ h=>nomatch h),(fun _ h=>nomatch h),(fun j w h=>by simp at h),rfl⟩ ?_
 ·rintro i d ρ kk hd ⟨y,ps,qs,y0,y1,lp,lq,fp,fq,fn,rfl⟩
  have hi:=cO hd
  rw [cG] at hi
  have hdi:d=.int (i:Int):=by
   rw [jv,M8,NW hi] at hd
   cases hd; simp
  subst hdi
  obtain⟨y',y0',y1',ey⟩:=gR y y0 y1
  obtain⟨nm,en,nP⟩:=zQ b (st+(i:Int)) hb ‹0›
  by_cases h:i < m
  ·have h':decide ((i:Int) < (m:Int))=true:=decide_eq_true ‹0›
   obtain⟨c,ek,ck⟩:=qM y' y0' ‹0›
   refine⟨_,_,rfl,⟨y',ps++[(nm,c)],qs,y0',by omega,by rw [Nb,Ni]; omega,by omega,fun p hp=>?_,fq,?_,rfl⟩,?_⟩
   ·rcases List.mem_append.mp hp with z | z
    ·exact fp p z
    ·rw [Oz] at z; subst z; exact ck
   ·have q0:qs=[]:=List.length_eq_zero_iff.mp ‹0›
    subst q0
    rw [Nk,M1] at fn ⊢
    rw [NQ]
    exact yU fn (by rw [MY,lp,OG ‹0›]; exact nP)
   ·have ap:gx (ps.map kf) [.tup [.str nm,c.d]]=some ((ps++[(nm,c)]).map kf):=by
     rw [lI (by rw [MY]; omega),NQ]; rfl
    have sm:=fun K:Ks=>lB 6 gx (af (bH (af (fR (aF bD 2 7) (af (ah 1) (af (f2 ce (ah 2) (ah 8)) (aq)))) (af (fR (aF dh 1 8) (af (ah 0) (aq))) (aq)))) (aq)) K [some (.val (.int y')),some (.val (.int b)),some (.val (.int st)),some (.val (.int m)),some (.val (.int r)),some (.val (.int dp)),some (.own (.lst (ps.map kf))),some (.own (.lst (qs.map fld))),some (.val (.int i))] (xs:=ps.map kf) rfl
    generalize (ps++[(nm,c)]).map kf=Y at ap ⊢
    simp! only [ey,h',sm,en,ek,Do,ap]
  ·have h':decide ((i:Int) < (m:Int))=false:=decide_eq_false ‹0›
   obtain⟨k,ek,fk⟩:=hk y' b y0' ‹0› hb
   refine⟨_,_,rfl,⟨y',ps,qs++[(nm,k)],y0',by omega,by omega,by rw [Nb,Ni]; omega,fp,fun p hp=>?_,?_,rfl⟩,?_⟩
   ·rcases List.mem_append.mp hp with z | z
    ·exact fq p z
    ·rw [Oz] at z; subst z; exact fk
   ·rw [NQ,<- NZ]
    exact yU fn (by rw [Nb,MY,MY,lp,lq,show min i m+(i - m)=i by omega]; exact nP)
   ·have ap:gx (qs.map fld) [.tup [.str nm,k]]=some ((qs++[(nm,k)]).map fld):=by
     rw [lI (by rw [MY]; omega),NQ]; rfl
    have sm:=fun K:Ks=>lB 7 gx (af (bH (af (fR (aF bD 2 7) (af (ah 1) (af (f2 ce (ah 2) (ah 8)) (aq)))) (af (fR (aV g) (af (ah 0) (af (ah 1) (af (ah 5) (aq))))) (aq)))) (aq)) K [some (.val (.int y')),some (.val (.int b)),some (.val (.int st)),some (.val (.int m)),some (.val (.int r)),some (.val (.int dp)),some (.own (.lst (ps.map kf))),some (.own (.lst (qs.map fld))),some (.val (.int i))] (xs:=qs.map fld) rfl
    generalize (qs++[(nm,k)]).map fld=Y at ap ⊢
    simp! only [ey,h',sm,en,ek,Do,ap]
 ·rintro ρ' ⟨y,ps,qs,y0,y1,lp,lq,fp,fq,fn,rfl⟩
  rw [cG] at lp lq
  refine⟨ps,qs,?_,by omega,by omega,fp,fq,fn⟩
  rw [hT]
  simp! only [Do]
theorem DW:∀ (dp g:Nat),2*dp+1<=g->∀ x b:Int,0<=x->x < 2147483700->0<=b->∃ d,aV g [.int x,.int b,.int dp]=.ok d/\KG dp d:=by
 intro dp
 induction dp with
 | zero =>
  intro g hg x b h0 h1 hb
  obtain⟨g,rfl⟩:∃ g',g=g'+1:=⟨g - 1,by omega⟩
  have d3:=fun i=>cc (i:=i) (show (0:Int) < 3 by decide) (show (3:Int) < 10 ^ 200 by decide)
  obtain⟨c,e,f⟩:=qM (x / 3) ‹0› ‹0›
  refine⟨c.d,?_,c,f,rfl⟩
  rw [eO,qG]; unfold hJ
  have z:(((0:Nat):Int)==0)=true:=rfl
  simp! only [z,d3,e]
 | succ dp ih =>
  intro g hg x b h0 h1 hb
  obtain⟨g,rfl⟩:∃ g',g=g'+1+1:=⟨g - 2,by omega⟩
  have g2:=fun i=>bK (i:=i) (show (0:Int) < 2 by decide)
  have g3:=fun i=>bK (i:=i) (show (0:Int) < 3 by decide)
  have g12:=fun i=>bK (i:=i) (show (0:Int) < 12 by decide)
  have d3:=fun i=>cc (i:=i) (show (0:Int) < 3 by decide) (show (3:Int) < 10 ^ 200 by decide)
  have d6:=fun i=>cc (i:=i) (show (0:Int) < 6 by decide) (show (6:Int) < 10 ^ 200 by decide)
  have d18:=fun i=>cc (i:=i) (show (0:Int) < 18 by decide) (show (18:Int) < 10 ^ 200 by decide)
  have d36:=fun i=>cc (i:=i) (show (0:Int) < 36 by decide) (show (36:Int) < 10 ^ 200 by decide)
  have z:(((dp+1:Nat):Int)==0)=false:=by simp; omega
  rw [eO,qG]; unfold hJ
  by_cases h:x%3 < 2
  ·have h':decide (x%3 < 2)=true:=decide_eq_true h
   obtain⟨c,e,f⟩:=qM (x / 3) ‹0› ‹0›
   refine⟨c.d,?_,.inl ⟨c,f,rfl⟩⟩
   simp! only [z,g3,h',d3,e]
  ·have h':decide (x%3 < 2)=false:=decide_eq_false h
   obtain⟨m,hm,hm8,m1⟩:∃ m:Nat,1+x / 3%2=(m:Int)/\m<=8/\1<=m:=⟨(1+x / 3%2).toNat,by omega,by omega,by omega⟩
   obtain⟨r,hr,hr8⟩:∃ m:Nat,x / 6%3=(m:Int)/\m<=8:=⟨(x / 6%3).toNat,by omega,by omega⟩
   have hd:((dp+1:Nat):Int) - 1=(dp:Int):=by omega
   obtain⟨ps,qs,e,l1,l2,F1,F2,_⟩:=zz dp g (ih g ‹0›) (x / 3) b (x / 36%12) m r ‹0› ‹0› hb ‹0› hm8 hr8
   refine⟨.tup [.str "rows",fr ps qs,.bl (x / 18%2==1)],?_,.inr ⟨ps,qs,_,rfl,by omega,by omega,F1,by omega,F2⟩⟩
   simp! only [z,g3,h',d3,d36,g12,g2,d6,hm,hr,hd,e,d18,EY]
theorem zf (dp:Nat) (hd:dp<=3) (x b st:Int) (m r:Nat) (h0:0<=x) (h1:x < 2147483700) (hb:0<=b) (hs:0<=st) (hm:m<=8) (hr:r<=8) :
  ∃ (ks:KL) (qs:List (Str×D)),aL 20 [.int x,.int b,.int st,.int m,.int r,.int dp]=.ok (fr ks qs)/\ks.length=m/\qs.length=r/\(∀ p∈ks,p.2.gd)/\(∀ q∈qs,KG dp q.2)/\∀ (j:Nat) (w:Str),(ks.map (·.1)++qs.map (·.1))[j]?=some w->zA b (st+(j:Int)) w :=
 zz dp 19 (DW dp 19 ‹0›) x b st m r h0 h1 hb hs hm hr
theorem oK {σ:List Bool} {kl:Nat} (h0:σ≠[]) (hl:kl=σ.length) (rows:List (List D)) (hs:∀ r∈rows,Sh σ (r.take kl)) (hn:rows.length < 64):∃ t:List (List D),aF bI 2 4 [.int kl,.lst (rows.map .tup)]=.ok (.tup (t.map .tup))/\HW kl t/\(∀ r∈t,r∈rows)/\t.length<=rows.length:=by
 obtain⟨T,hT⟩:∃ T:cB,T=(iq 2 (bC (fL cH (af (nG [none,some 2] (cA (fL e7 (af (fL lJ (af (ah 2) (aq))) (aq)))) (gN 0) (eS) (f2 yq (ah 1) (ah 0))) (aq))))):=⟨_,rfl⟩
 rw [fh]; unfold bI
 rw [<- hT]
 simp! only [uS]
 refine dS (Q:=fun z=>∃ t:List (List D),z=.ok (.tup (t.map .tup))/\HW kl t/\(∀ r∈t,r∈rows)/\t.length<=rows.length) (fun i ρ=>∃ al:List (List Key×D),(al.map (·.1)).Nodup/\al.length<=i/\(∀ p∈al,∃ r∈rows,p.2=.tup r/\r.take kl=p.1.map bv)/\ρ=[some (.val (.int kl)),some (.val (.lst (rows.map .tup))),some (.own (dH al)),none]) ?_ ⟨[],Nr,MP _,(fun _ h=>nomatch h),rfl⟩ ?_
 ·rintro i d ρ kk hd ⟨al,nd,ll,hp,rfl⟩
  have hi:=cO hd
  rw [MY] at hi
  rw [M8,NE hi] at hd
  cases hd
  have rm:rows[i]∈rows:=Ot hi
  obtain⟨q,eq⟩:=qz (hs _ rm)
  have ct:cutD rows[i] none (some (kl:Int))=q.map bv:=by rw [jo,eq]
  refine⟨_,_,rfl,⟨gg al q (.tup rows[i]),EE _ _ nd,by have:=BJ al q (.tup rows[i]); omega,fun p h=>?_,rfl⟩,?_⟩
  ·rcases CP h with z | z
   ·exact hp p z
   ·subst z; exact⟨_,rm,rfl,eq⟩
  ·have pd:=fun K:Ks=>zE (i:=2) (fk:=bn (ah 3) (aU) (bU (ah 0))) (fv:=ah 3) (k:=K) (ρ:=[some (.val (.int kl)),some (.val (.lst (rows.map .tup))),some (.own (dH al)),some (.val (.tup rows[i]))]) (al:=al) (q:=q) (v:=.tup rows[i]) rfl (by simp! only [ct]) rfl ‹0›
   generalize dH (gg al q (.tup rows[i]))=Y at pd ⊢
   generalize dH al=Z at pd ⊢
   simp! only [pd]
 ·rintro ρ' ⟨al,nd,ll,hp,rfl⟩
  rw [MY] at ll
  have hsk:∀ p∈al,Sh σ (p.1.map bv):=fun p h=>by
   obtain⟨r,hr,_,e⟩:=hp p h
   rw [<- e]; exact hs r hr
  obtain⟨es,ri⟩:=zI nd hsk h0 ‹0›
  have pm:=gh dU (encK al)
  have lt:=vU al
  generalize jV dU (encK al)=W at es ri pm
  have wl:W.length=al.length:=by rw [pm.length_eq,MY]
  have mem:∀ x∈W,∃ p∈al,x=.tup (p.1.map bv):=fun x hx=>by
   obtain⟨p,h1,h2⟩:=List.mem_map.mp (pm.mem_iff.mp hx)
   exact⟨p,h1,h2.symm⟩
  obtain⟨vs,v1,v2,v3⟩:=B4 (ρ:=[none,some (.val (dH al))]) (g:=gN 0) (C:=eS) (Fe:=f2 yq (ah 1) (ah 0)) W (fun i v=>∃ r∈rows,v=.tup r/\W[i]?=some (.tup (r.take kl))) fun i d hd=>by
   obtain⟨p,h1,h2⟩:=mem d (M9 hd)
   obtain⟨r,hr,e1,e2⟩:=hp p h1
   have dx:=FR al p.1
   rw [wG nd h1,e1] at dx
   refine⟨[some (.val d),some (.val (dH al))],.tup r,rfl,rfl,?_,r,hr,rfl,by rw [hd,h2,e2]⟩
   subst h2
   generalize dH al=Z at dx
   simp! only [dx]
  obtain⟨t,rfl⟩:=zg vs fun v hv=>by
   obtain⟨i,hi,ei⟩:=NM hv
   obtain⟨r,_,e,_⟩:=v2 i v (by rw [NE hi,ei])
   exact⟨r,e⟩
  rw [MY] at v1
  have at_:∀ (i:Nat) (h:i < t.length),t[i]∈rows/\W[i]?=some (.tup (t[i].take kl)):=fun i h=>by
   obtain⟨r,hr,e,w⟩:=v2 i (.tup t[i]) (by rw [M8,NE h]; rfl)
   injection e with e
   rw [e]; exact⟨hr,w⟩
  refine⟨t,?_,?_,fun r hr=>?_,by omega⟩
  ·have lc:nG [none,some 2] (cA (fL e7 (af (fL lJ (af (ah 2) (aq))) (aq)))) (gN 0) (eS) (f2 yq (ah 1) (ah 0)) [some (.val (.int kl)),some (.val (.lst (rows.map .tup))),some (.val (dH al)),none]=.ok (.lst (t.map .tup)):=by
    refine iy (ds:=W) ?_ ‹0› v3
    generalize dH al=Z at lt
    simp! only [lt,es]
   rw [hT]
   generalize dH al=Z at lc
   simp! only [lc]
  ·refine List.pairwise_iff_getElem.mpr fun i j hi hj hij=>?_
   have a:=(at_ i hi).2
   have b:=(at_ j hj).2
   rw [NE ‹0›] at a b
   have:=List.pairwise_iff_getElem.mp ri i j ‹0› ‹0› hij
   rw [Option.some.inj a,Option.some.inj b] at this
   exact this
  ·obtain⟨i,hi,ei⟩:=NM hr
   rw [<- ei]; exact(at_ i hi).1
theorem qI (c:Kd) (hg:c.gd) (g:Nat) (x:Int) (h0:0<=x) (h1:x < 2147483700):∃ v,aA (g+1) [c.d,.int x]=.ok v/\Sh [c.b] [v]:=by
 rw [eE,fh]; unfold fN
 cases c with
 | num lo hi =>
  have hg:lo<=hi:=hg
  have p7:qc (.int x) (.int 7)=some (.int (x ^ 7)):=yC x 7 (by decide) ‹0›
  have gm:=fun i=>bK (i:=i) (show (0:Int) < hi - lo+1 by omega)
  refine⟨.int (lo+x ^ 7%(hi - lo+1)),?_,.int _ .nil⟩
  simp! only [Kd.d,Gf,p7,gm]
 | wrd ws =>
  obtain⟨wn,_⟩:=(show ws≠[]/\ws.length<=100 from hg)
  have ul:0 < ws.length:=List.length_pos_iff.mpr wn
  have q1:=OO x (show (ws.length:Int)≠0 by omega)
  have q2:=OQ x (show (0:Int) < (ws.length:Int) by omega)
  have gm:=fun i=>bK (i:=i) (show (0:Int) < (ws.length:Int) by omega)
  have ix:aQ (.tup (ws.map .str)) (.int (x%(ws.length:Int)))=some (.str (ws[(x%(ws.length:Int)).toNat]'‹0›)):=by
   rw [G6,uW,qp q1 q2]; rfl
  refine⟨_,?_,.str (ws[(x%(ws.length:Int)).toNat]'‹0›) .nil⟩
  simp! only [Kd.d,Hu,Ds,MY,gm,ix]
theorem yL (n g:Nat) (hv:∀ (d:D) (x:Int),KG n d->0<=x->x < 2147483700->∃ v,aA (g+1) [d,.int x]=.ok v/\AL (2*n) v) (ks:KL) (qs:List (Str×D)) (k8:ks.length<=8) (q8:qs.length<=8) (hk:∀ p∈ks,p.2.gd) (hq:∀ q∈qs,KG n q.2) (mn hd tl:Int) (h0:0<=hd) (h1:hd < 2147483700) (t0:0<=tl) (t1:tl < 2147483700) :
  ∃ vs:List D,aE (g+2) [fr ks qs,.int mn,.int hd,.int tl]=.ok (.tup vs)/\vs.length=ks.length+qs.length/\Sh (ks.map (·.2.b)) (vs.take ks.length)/\∀ v∈vs,AL (2*n) v:=by
 rw [il,CI]; unfold kj
 have ad:=iX (ks.map kf) (qs.map fld) (by rw [MY,MY]; omega)
 have em:ks.map kf++qs.map fld=(ks.map toD++qs).map fld:=by rw [NQ,vd]
 rw [em] at ad
 have fl:(ks.map toD++qs).length=ks.length+qs.length:=by rw [Nb,MY]
 obtain⟨T,hT⟩:∃ T:cB,T=(iq 4 (bC (fL cH (af (ah 4) (aq))))):=⟨_,rfl⟩
 rw [<- hT]
 simp! only [G4,ad]
 refine dS (Q:=fun z=>∃ vs:List D,z=.ok (.tup vs)/\vs.length=ks.length+qs.length/\Sh (ks.map (·.2.b)) (vs.take ks.length)/\∀ v∈vs,AL (2*n) v)
  (fun i ρ=>∃ (y z:Int) (ka va:List D),0<=y/\y < 2147483700/\0<=z/\z < 2147483700/\Sh ((ks.take i).map (·.2.b)) ka/\va.length=i - ks.length/\(∀ v∈va,AL (2*n) v)/\ρ=[some (.val (fr ks qs)),some (.val (.int mn)),some (.val (.int y)),some (.val (.int z)),some (.own (.lst (ka++va))),none,none]) ?_ ⟨hd,tl,[],[],h0,h1,t0,t1,.nil,by simp,(fun _ h=>nomatch h),rfl⟩ ?_
 ·rintro i d ρ kk hd ⟨y,z,ka,va,y0,y1,z0,z1,hka,lva,hva,rfl⟩
  have hi:=cO hd
  rw [MY,fl] at hi
  rw [M8,NE ‹0›] at hd
  cases hd
  have kal:ka.length=min i ks.length:=by rw [hka.length,MY,M4]
  obtain⟨y',y0',y1',ey⟩:=gR y y0 y1
  obtain⟨z',z0',z1',ez⟩:=gR z z0 z1
  have step:∀ x:Int,0<=x->x < 2147483700->∃ v,aA (g+1) [((ks.map toD++qs)[i]'‹0›).2,.int x]=.ok v/\∃ ka' va',ka++va++[v]=ka'++va'/\Sh ((ks.take (i+1)).map (·.2.b)) ka'/\va'.length=i+1 - ks.length/\∀ v∈va',AL (2*n) v:=fun x x0 x1=>by
   by_cases h:i < ks.length
   ·have e:(ks.map toD++qs)[i]'‹0›=toD ks[i]:=by rw [List.getElem_append_left (by rw [MY]; exact h),O3]
    obtain⟨v,ev,sv⟩:=qI ks[i].2 (hk _ (Ot h)) g x x0 x1
    have v0:va=[]:=List.length_eq_zero_iff.mp ‹0›
    subst v0
    refine⟨v,by rw [e]; exact ev,ka++[v],[],by simp,?_,by simp; omega,fun _ h=>nomatch h⟩
    rw [O5 h,NQ]
    exact yR hka sv
   ·have e:(ks.map toD++qs)[i]'‹0›=qs[i - ks.length]'‹0›:=by rw [O6 (by rw [MY]; omega)]; simp
    obtain⟨v,ev,sv⟩:=hv _ x (hq _ (Ot (show i - ks.length < qs.length by omega))) x0 x1
    refine⟨v,by rw [e]; exact ev,ka,va++[v],by rw [NZ],?_,by rw [Nb,Ni]; omega,fun w hw=>?_⟩
    ·rw [OH ‹0›] at hka ⊢; exact hka
    ·rcases List.mem_append.mp hw with z | z
     ·exact hva w z
     ·rw [List.mem_singleton.mp z]; exact sv
  have gt:gT 2 (uE [5,6]) (fld ((ks.map toD++qs)[i]'‹0›)) [some (.val (fr ks qs)),some (.val (.int mn)),some (.val (.int y)),some (.val (.int z)),some (.own (.lst (ka++va))),none,none]=some [some (.val (fr ks qs)),some (.val (.int mn)),some (.val (.int y)),some (.val (.int z)),some (.own (.lst (ka++va))),some (.val (.str ((ks.map toD++qs)[i]'‹0›).1)),some (.val ((ks.map toD++qs)[i]'‹0›).2)]:=rfl
  have alen:(ka++va).length < 1000:=by rw [Nb]; omega
  generalize (ks.map toD++qs)[i]'‹0›=p at step gt
  cases hb:decide (((ka++va).length:Int) < mn) with
  | true =>
   obtain⟨v,ev,ka',va',e1,e2,e3,e4⟩:=step y' y0' ‹0›
   refine⟨_,_,gt,⟨y',z,ka',va',y0',by omega,z0,z1,e2,e3,e4,rfl⟩,?_⟩
   have ap:gx (ka++va) [v]=some (ka'++va'):=by rw [lI ‹0›,e1]
   have sm:=fun K:Ks=>lB 4 gx (af (fR (aA (g+1)) (af (ah 6) (af (ah 2) (aq)))) (aq)) K [some (.val (fr ks qs)),some (.val (.int mn)),some (.val (.int y')),some (.val (.int z)),some (.own (.lst (ka++va))),some (.val (.str p.1)),some (.val p.2)] (xs:=ka++va) rfl
   generalize ka++va=A at hb ap sm alen
   generalize ka'++va'=B at ap
   simp! only [qB,Gg,hb,ey,sm,ev,ap]
  | false =>
   obtain⟨v,ev,ka',va',e1,e2,e3,e4⟩:=step z' z0' ‹0›
   refine⟨_,_,gt,⟨y,z',ka',va',y0,y1,z0',by omega,e2,e3,e4,rfl⟩,?_⟩
   have ap:gx (ka++va) [v]=some (ka'++va'):=by rw [lI ‹0›,e1]
   have sm:=fun K:Ks=>lB 4 gx (af (fR (aA (g+1)) (af (ah 6) (af (ah 3) (aq)))) (aq)) K [some (.val (fr ks qs)),some (.val (.int mn)),some (.val (.int y)),some (.val (.int z')),some (.own (.lst (ka++va))),some (.val (.str p.1)),some (.val p.2)] (xs:=ka++va) rfl
   generalize ka++va=A at hb ap sm alen
   generalize ka'++va'=B at ap
   simp! only [qB,Gg,hb,ez,sm,ev,ap]
 ·rintro ρ' ⟨y,z,ka,va,y0,y1,z0,z1,hka,lva,hva,rfl⟩
  rw [MY,fl] at hka lva
  rw [OH ‹0›] at hka
  have kal:ka.length=ks.length:=by rw [hka.length,MY]
  refine⟨ka++va,?_,by rw [Nb]; omega,by rw [<- kal,List.take_left]; exact hka,fun v hv=>?_⟩
  ·rw [hT]
   generalize ka++va=A
   simp! only []
  ·rcases List.mem_append.mp hv with w | w
   ·exact(vM hka v w).of0 _
   ·exact hva v w
theorem ED (n g:Nat) (hv:∀ (d:D) (x:Int),KG n d->0<=x->x < 2147483700->∃ v,aA (g+1) [d,.int x]=.ok v/\AL (2*n) v) (ks:KL) (qs:List (Str×D)) (k1:1<=ks.length) (k8:ks.length<=8) (q8:qs.length<=8) (hk:∀ p∈ks,p.2.gd) (hq:∀ q∈qs,KG n q.2) (x:Int) (m:Nat) (h0:0<=x) (h1:x < 2147483700) (hm:m<=3) :
  ∃ v:D,aC (g+3) [fr ks qs,.int x,.int m]=.ok v/\AL (2*n+2) v:=by
 have rn:=iN m ‹0›
 obtain⟨T,hT⟩:∃ T:cB,T=(iq 3 (bC (fR (aF bI 2 4) (af (fL jH (af (f2 aQ (ah 0) (fC (.int 0))) (aq))) (af (ah 3) (aq)))))):=⟨_,rfl⟩
 rw [eN,qG]; unfold h7
 rw [<- hT]
 simp! only [G4,rn]
 refine dS (Q:=fun z=>∃ v:D,z=.ok v/\AL (2*n+2) v)
  (fun i ρ=>∃ (y:Int) (rs:List (List D)),0<=y/\y < 2147483700/\rs.length=i/\(∀ r∈rs,r.length<=16/\Sh (ks.map (·.2.b)) (r.take ks.length)/\∀ v∈r,AL (2*n) v)/\ρ=[some (.val (fr ks qs)),some (.val (.int y)),some (.val (.int m)),some (.own (.lst (rs.map .tup))),none]) ?_ ⟨x,[],h0,h1,rfl,(fun _ h=>nomatch h),rfl⟩ ?_
 ·rintro i d ρ kk hd ⟨y,rs,y0,y1,rl,hr,rfl⟩
  have hi:=cO hd
  rw [cG] at hi
  obtain⟨y',y0',y1',ey⟩:=gR y y0 y1
  obtain⟨vs,ev,v1,v2,v3⟩:=yL n g hv ks qs k8 q8 hk hq 0 0 y' (by decide) (by decide) y0' ‹0›
  refine⟨_,_,rfl,⟨y',rs++[vs],y0',by omega,by rw [Nb,Ni,rl],fun r h=>?_,rfl⟩,?_⟩
  ·rcases List.mem_append.mp h with z | z
   ·exact hr r z
   ·rw [List.mem_singleton.mp z]; exact⟨by omega,v2,v3⟩
  ·have ap:gx (rs.map .tup) [.tup vs]=some ((rs++[vs]).map .tup):=by
    rw [lI (by rw [MY]; omega),NQ]; rfl
   have sm:=fun K:Ks=>lB 3 gx (af (fR (aE (g+2)) (af (ah 0) (af (fC (.int 0)) (af (fC (.int 0)) (af (ah 1) (aq)))))) (aq)) K [some (.val (fr ks qs)),some (.val (.int y')),some (.val (.int m)),some (.own (.lst (rs.map .tup))),some (.val d)] (xs:=rs.map .tup) rfl
   generalize (rs++[vs]).map D.tup=Y at ap ⊢
   generalize rs.map D.tup=Z at ap sm ⊢
   simp! only [ey,sm,ev,ap]
 ·rintro ρ' ⟨y,rs,y0,y1,rl,hr,rfl⟩
  rw [cG] at rl
  obtain⟨t,et,_,tm,tl⟩:=oK (σ:=ks.map (·.2.b)) (kl:=ks.length) (fun z=>by have:=congrArg List.length z; rw [MY,Np] at this; omega) (by rw [MY]) rs (fun r h=>(hr r h).2.1) ‹0›
  refine⟨.tup (t.map .tup),?_,AL.tup (by rw [MY]; omega) fun v hv=>?_⟩
  ·rw [hT]
   simp! only [MY,et]
  ·obtain⟨r,h1,rfl⟩:=List.mem_map.mp hv
   obtain⟨w1,_,w3⟩:=hr r (tm r h1)
   exact AL.tup ‹0› w3
theorem vH:∀ (n g:Nat),3*n+1<=g->∀ (d:D) (x:Int),KG n d->0<=x->x < 2147483700->∃ v,aA g [d,.int x]=.ok v/\AL (2*n) v:=by
 intro n
 induction n with
 | zero =>
  intro g hg d x hd h0 h1
  obtain⟨g,rfl⟩:∃ g',g=g'+1:=⟨g - 1,by omega⟩
  obtain⟨c,cg,rfl⟩:=hd
  obtain⟨v,ev,sv⟩:=qI c cg g x h0 h1
  exact⟨v,ev,vM sv v MJ⟩
 | succ n ih =>
  intro g hg d x hd h0 h1
  obtain⟨g,rfl⟩:∃ g',g=g'+3+1:=⟨g - 4,by omega⟩
  rcases hd with ⟨c,cg,rfl⟩ | ⟨ks,qs,b,rfl,k1,k8,hk,q8,hq⟩
  ·obtain⟨v,ev,sv⟩:=qI c cg (g+3) x h0 h1
   exact⟨v,ev,(vM sv v MJ).of0 _⟩
  ·have d3:=fun i=>cc (i:=i) (show (0:Int) < 3 by decide) (show (3:Int) < 10 ^ 200 by decide)
   have g3:=fun i=>bK (i:=i) (show (0:Int) < 3 by decide)
   obtain⟨m,hm,em⟩:∃ m:Nat,m<=3/\qW [.int (x%3),.int (if b then 1 else 0)]=some (.int (m:Int)):=by
    refine⟨(if (if b then (1:Int) else 0) > x%3 then (if b then (1:Int) else 0) else x%3).toNat,?_,?_⟩
    ·cases b <;> simp <;> split <;> omega
    ·rw [ky]
     congr 2
     cases b <;> simp <;> split <;> omega
   obtain⟨v,ev,av⟩:=ED n g (ih (g+1) ‹0›) ks qs k1 k8 q8 hk hq (x / 3) m ‹0› ‹0› hm
   refine⟨v,?_,av⟩
   rw [eE,fh]; unfold fN
   simp! only [Gd,DX,d3,g3,C2,em,ev]
structure Tab (σ:List Bool) (t:List (List D)):Prop where
 sh:∀ r∈t,Sh σ (r.take σ.length)
 ri:HW σ.length t
 ln:t.length < 64
 rl:∀ r∈t,r.length<=16/\σ.length<=r.length
 al:∀ r∈t,∀ v∈r,AL 4 v
theorem C4 (ks:KL) (qs:List (Str×D)) (n:Nat) (hn:n<=2) (k1:1<=ks.length) (k8:ks.length<=8) (q8:qs.length<=8) (hk:∀ p∈ks,p.2.gd) (hq:∀ q∈qs,KG n q.2) (m:Int) (ns:List Int) (hl:ns.length<=63) :
  ∃ t:List (List D),Tab (ks.map (·.2.b)) t/\aF ga 5 8 [fr ks qs,.int m,.lst (ns.map .int),.int 2,.int 60]=.ok (.tup (t.map .tup)):=by
 have g2:=fun i=>bK (i:=i) (show (0:Int) < 2 by decide)
 have g4:=fun i=>bK (i:=i) (show (0:Int) < 4 by decide)
 have d2:=fun i=>cc (i:=i) (show (0:Int) < 2 by decide) (show (2:Int) < 10 ^ 200 by decide)
 have l2:∀ a b:D,ng [a,b]=some (.lst [a,b]):=fun _ _=>nr rfl
 obtain⟨N,hN,rn⟩:∃ N:Nat,N<=60/\∀ e1 e2:Int,qW [.int (ns.length:Int),.int 7]=some (.int e1)->vS [.int e1,.int 62]=some (.int e2)->qf [.int 2,.int e2]=some (fw 2 N):=by
  refine⟨((if (62:Int) < (if (7:Int) > (ns.length:Int) then 7 else (ns.length:Int)) then 62 else (if (7:Int) > (ns.length:Int) then 7 else (ns.length:Int))) - 2).toNat,?_,fun e1 e2 h1 h2=>?_⟩
  ·split <;> split <;> omega
  ·rw [ky] at h1
   cases h1
   rw [lx] at h2
   cases h2
   generalize he:(if (62:Int) < (if (7:Int) > (ns.length:Int) then 7 else (ns.length:Int)) then 62 else (if (7:Int) > (ns.length:Int) then 7 else (ns.length:Int)))=e
   have e2:2<=e/\e<=62:=by rw [<- he]; split <;> split <;> omega
   show (if okR 2 && okR e then some (fw 2 ((e - 2).toNat)) else none)=_
   have o1:okR 2=true:=decide_eq_true ⟨by decide,by decide⟩
   have o2:okR e=true:=decide_eq_true ⟨by omega,by omega⟩
   rw [o1,o2]; rfl
 have mx:=ky (ns.length:Int) 7
 have rn:=rn _ _ mx (lx _ _)
 obtain⟨T,hT⟩:∃ T:cB,T=(iq 5 (bC (fR (aF bI 2 4) (af (fL jH (af (f2 aQ (ah 0) (fC (.int 0))) (aq))) (af (ah 5) (aq)))))):=⟨_,rfl⟩
 rw [C3]; unfold ga
 rw [<- hT]
 have p7:(2:Int)+5=7:=rfl
 have p62:(2:Int)+60=62:=rfl
 simp! only [G4,MY,p7,p62,rn]
 refine dS (Q:=fun z=>∃ t:List (List D),Tab (ks.map (·.2.b)) t/\z=.ok (.tup (t.map .tup)))
  (fun i ρ=>∃ rs:List (List D),rs.length=i/\(∀ r∈rs,r.length=ks.length+qs.length/\Sh (ks.map (·.2.b)) (r.take ks.length)/\∀ v∈r,AL 4 v)/\ρ=[some (.val (fr ks qs)),some (.val (.int m)),some (.val (.lst (ns.map .int))),some (.val (.int 2)),some (.val (.int 60)),some (.own (.lst (rs.map .tup))),none,none]) ?_ ⟨[],rfl,(fun _ h=>nomatch h),rfl⟩ ?_
 ·rintro i d ρ kk hd ⟨rs,rl,hr,rfl⟩
  have hi:=cO hd
  rw [cG] at hi
  have hdi:d=.int ((2+i:Nat):Int):=by
   rw [jv,M8,NW hi] at hd
   cases hd; simp
  subst hdi
  obtain⟨x,x0,x1,ex⟩:=vp ns (2+i) ‹0›
  obtain⟨y,y0,y1,ey⟩:=gR x x0 ‹0›
  obtain⟨h,h0,h1,eh⟩:∃ h:Int,0<=h/\h < 2147483700/\aQ (.lst [.int (x / 2%4),.int (x / 2)]) (.int (x%2))=some (.int h):=by
   rcases(show x%2=0\/x%2=1 by omega) with z | z <;> rw [z]
   ·exact⟨x / 2%4,by omega,by omega,rfl⟩
   ·exact⟨x / 2,by omega,by omega,rfl⟩
  obtain⟨vs,ev,v1,v2,v3⟩:=yL n 18 (vH n 19 ‹0›) ks qs k8 q8 hk hq m h y h0 h1 y0 ‹0›
  have ev:aE 20 [fr ks qs,.int m,.int h,.int y]=.ok (.tup vs):=ev
  refine⟨_,_,rfl,⟨rs++[vs],by rw [Nb,Ni,rl],fun r h=>?_,rfl⟩,?_⟩
  ·rcases List.mem_append.mp h with z | z
   ·exact hr r z
   ·rw [List.mem_singleton.mp z]; exact⟨v1,v2,fun v hv=>AL.le ‹0› (v3 v hv)⟩
  ·have ap:gx (rs.map .tup) [.tup vs]=some ((rs++[vs]).map .tup):=by
    rw [lI (by rw [MY]; omega),NQ]; rfl
   have sm:=fun K:Ks=>lB 5 gx (af (fR (aE 20) (af (ah 0) (af (ah 1) (af (f2 aQ (ki (af (f2 cP (f2 dY (ah 7) (fC (.int 2))) (fC (.int 4))) (af (f2 dY (ah 7) (fC (.int 2))) (aq)))) (f2 cP (ah 7) (fC (.int 2)))) (af (fR (aF aW 1 1) (af (ah 7) (aq))) (aq)))))) (aq)) K [some (.val (fr ks qs)),some (.val (.int m)),some (.val (.lst (ns.map .int))),some (.val (.int 2)),some (.val (.int 60)),some (.own (.lst (rs.map .tup))),some (.val (.int ((2+i:Nat):Int))),some (.val (.int x))] (xs:=rs.map .tup) rfl
   generalize (rs++[vs]).map D.tup=Y at ap ⊢
   generalize rs.map D.tup=Z at ap sm ⊢
   simp! only [ex,sm,d2,g4,l2,g2,eh,ey,ev,ap]
 ·rintro ρ' ⟨rs,rl,hr,rfl⟩
  rw [cG] at rl
  have sl:(ks.map (·.2.b)).length=ks.length:=by rw [MY]
  obtain⟨t,et,ri,tm,tl⟩:=oK (σ:=ks.map (·.2.b)) (kl:=ks.length) (fun z=>by have:=congrArg List.length z; rw [MY,Np] at this; omega) sl.symm rs (fun r h=>(hr r h).2.1) ‹0›
  refine⟨t,⟨fun r h=>by rw [sl]; exact(hr r (tm r h)).2.1,by rw [sl]; exact ri,by omega,fun r h=>by have:=(hr r (tm r h)).1; rw [sl]; omega,fun r h=>(hr r (tm r h)).2.2⟩,?_⟩
  rw [hT]
  simp! only [MY,et]
theorem B7 (n g:Nat) (hn:n<=2) (hv:∀ (d:D) (x:Int),KG n d->0<=x->x < 2147483700->∃ v,aA (g+1) [d,.int x]=.ok v/\AL (2*n) v) (ks:KL) (qs:List (Str×D)) (k1:1<=ks.length) (k8:ks.length<=8) (q8:qs.length<=8) (hk:∀ p∈ks,p.2.gd) (hq:∀ q∈qs,KG n q.2) (x:Int) (m:Nat) (h0:0<=x) (h1:x < 2147483700) (hm:m<=5) :
  ∃ t:List (List D),aC (g+3) [fr ks qs,.int x,.int m]=.ok (.tup (t.map .tup))/\Tab (ks.map (·.2.b)) t:=by
 have rn:=iN m ‹0›
 obtain⟨T,hT⟩:∃ T:cB,T=(iq 3 (bC (fR (aF bI 2 4) (af (fL jH (af (f2 aQ (ah 0) (fC (.int 0))) (aq))) (af (ah 3) (aq)))))):=⟨_,rfl⟩
 rw [eN,qG]; unfold h7
 rw [<- hT]
 simp! only [G4,rn]
 refine dS (Q:=fun z=>∃ t:List (List D),z=.ok (.tup (t.map .tup))/\Tab (ks.map (·.2.b)) t)
  (fun i ρ=>∃ (y:Int) (rs:List (List D)),0<=y/\y < 2147483700/\rs.length=i/\(∀ r∈rs,(r.length<=16/\ks.length<=r.length)/\Sh (ks.map (·.2.b)) (r.take ks.length)/\∀ v∈r,AL (2*n) v)/\ρ=[some (.val (fr ks qs)),some (.val (.int y)),some (.val (.int m)),some (.own (.lst (rs.map .tup))),none]) ?_ ⟨x,[],h0,h1,rfl,(fun _ h=>nomatch h),rfl⟩ ?_
 ·rintro i d ρ kk hd ⟨y,rs,y0,y1,rl,hr,rfl⟩
  have hi:=cO hd
  rw [cG] at hi
  obtain⟨y',y0',y1',ey⟩:=gR y y0 y1
  obtain⟨vs,ev,v1,v2,v3⟩:=yL n g hv ks qs k8 q8 hk hq 0 0 y' (by decide) (by decide) y0' ‹0›
  refine⟨_,_,rfl,⟨y',rs++[vs],y0',by omega,by rw [Nb,Ni,rl],fun r h=>?_,rfl⟩,?_⟩
  ·rcases List.mem_append.mp h with z | z
   ·exact hr r z
   ·rw [List.mem_singleton.mp z]; exact⟨by omega,v2,v3⟩
  ·have ap:gx (rs.map .tup) [.tup vs]=some ((rs++[vs]).map .tup):=by
    rw [lI (by rw [MY]; omega),NQ]; rfl
   have sm:=fun K:Ks=>lB 3 gx (af (fR (aE (g+2)) (af (ah 0) (af (fC (.int 0)) (af (fC (.int 0)) (af (ah 1) (aq)))))) (aq)) K [some (.val (fr ks qs)),some (.val (.int y')),some (.val (.int m)),some (.own (.lst (rs.map .tup))),some (.val d)] (xs:=rs.map .tup) rfl
   generalize (rs++[vs]).map D.tup=Y at ap ⊢
   generalize rs.map D.tup=Z at ap sm ⊢
   simp! only [ey,sm,ev,ap]
 ·rintro ρ' ⟨y,rs,y0,y1,rl,hr,rfl⟩
  rw [cG] at rl
  have sl:(ks.map (·.2.b)).length=ks.length:=by rw [MY]
  obtain⟨t,et,ri,tm,tl⟩:=oK (σ:=ks.map (·.2.b)) (kl:=ks.length) (fun z=>by have:=congrArg List.length z; rw [MY,Np] at this; omega) sl.symm rs (fun r h=>(hr r h).2.1) ‹0›
  refine⟨t,?_,⟨fun r h=>by rw [sl]; exact(hr r (tm r h)).2.1,by rw [sl]; exact ri,by omega,fun r h=>by have:=(hr r (tm r h)).1; rw [sl]; exact this,fun r h v hv=>AL.le ‹0› ((hr r (tm r h)).2.2 v hv)⟩⟩
  rw [hT]
  simp! only [MY,et]
theorem CC (ns:List Int) (c1:Int) (e1:aF bz 2 2 [.lst (ns.map .int),.int 1]=.ok (.int c1)):∃ (ks:KL) (qs:List (Str×D)) (n:Nat),n<=2/\2<=ks.length/\ks.length<=8/\qs.length<=8/\(∀ p∈ks,p.2.gd)/\(∀ q∈qs,KG n q.2)/\(∀ (j:Nat) (w:Str),(ks.map (·.1)++qs.map (·.1))[j]?=some w->zA (c1*48271%2147483647) (0+(j:Int)) w)/\aF dB 2 7 [.lst (ns.map .int),.int 2]=.ok (fr ks qs):=by
 obtain⟨x,x0,x1,ex⟩:=vp ns 0 ‹0›
 have ex:aF cN 2 3 [.lst (ns.map .int),.int 0]=.ok (.int x):=ex
 obtain⟨y,y0,y1,ey⟩:=gR x x0 ‹0›
 have mm:=fun i=>je (i:=i) (j:=48271) (by decide) (by decide)
 have gM:=fun i=>bK (i:=i) (show (0:Int) < 2147483647 by decide)
 have g3:=fun i=>bK (i:=i) (show (0:Int) < 3 by decide)
 have g4:=fun i=>bK (i:=i) (show (0:Int) < 4 by decide)
 have g8:=fun i=>bK (i:=i) (show (0:Int) < 8 by decide)
 have g9:=fun i=>bK (i:=i) (show (0:Int) < 9 by decide)
 have d8:=fun i=>cc (i:=i) (show (0:Int) < 8 by decide) (show (8:Int) < 10 ^ 200 by decide)
 have d32:=fun i=>cc (i:=i) (show (0:Int) < 32 by decide) (show (32:Int) < 10 ^ 200 by decide)
 have d128:=fun i=>cc (i:=i) (show (0:Int) < 128 by decide) (show (128:Int) < 10 ^ 200 by decide)
 have d1024:=fun i=>cc (i:=i) (show (0:Int) < 1024 by decide) (show (1024:Int) < 10 ^ 200 by decide)
 have d4096:=fun i=>cc (i:=i) (show (0:Int) < 4096 by decide) (show (4096:Int) < 10 ^ 200 by decide)
 have s52:(5:Int) - 2=3:=rfl
 obtain⟨b,hb,b0⟩:∃ b:Int,c1*48271%2147483647=b/\0<=b:=⟨_,rfl,OO _ (by decide)⟩
 rw [hb]
 obtain⟨dp,dp2,ed⟩:∃ dp:Nat,dp<=2/\aQ (.lst [.int 0,.int 0,.int 1,.int 2]) (.int (x / 32%4))=some (.int (dp:Int)):=by
  rcases(show x / 32%4=0\/x / 32%4=1\/x / 32%4=2\/x / 32%4=3 by omega) with z | z | z | z <;> rw [z]
  ·exact⟨0,by decide,rfl⟩
  ·exact⟨0,by decide,rfl⟩
  ·exact⟨1,by decide,rfl⟩
  ·exact⟨2,by decide,rfl⟩
 rw [fh]; unfold dB
 cases h3:(x / 128%8==3) with
 | true =>
  obtain⟨ks,qs,ef,l1,l2,f1,f2,fn⟩:=zf 0 (by decide) y b 0 (8 - x / 1024%3).toNat (x / 4096%9).toNat y0 ‹0› b0 (by decide) ‹0› ‹0›
  rw [O7 ‹0›,O7 ‹0›] at ef
  refine⟨ks,qs,0,by decide,by omega,by omega,by omega,f1,f2,fn,?_⟩
  have ef:aL 20 [.int y,.int b,.int 0,.int (8 - x / 1024%3),.int (x / 4096%9),.int 0]=.ok (fr ks qs):=ef
  simp! only [ex,e1,mm,gM,hb,s52,g3,d8,g4,Lj,d32,ed,d128,g8,h3,d1024,d4096,g9,ey,ef]
 | false =>
  obtain⟨ks,qs,ef,l1,l2,f1,f2,fn⟩:=zf dp ‹0› y b 0 (2+x%3).toNat (x / 8%4).toNat y0 ‹0› b0 (by decide) ‹0› ‹0›
  rw [O7 ‹0›,O7 ‹0›] at ef
  refine⟨ks,qs,dp,dp2,by omega,by omega,by omega,f1,f2,fn,?_⟩
  simp! only [ex,e1,mm,gM,hb,s52,g3,d8,g4,Lj,d32,ed,d128,g8,h3,ey,ef]
theorem zip_get:∀ (xs:List D) (i:Nat) (d:D),(ot xs xs)[i]?=some d->∃ x∈xs,d=.tup [x,x]
 | x::xs,0,d,h=>by cases h; exact⟨x,MJ,rfl⟩
 | x::xs,i+1,d,h=>by
  obtain⟨y,h1,h2⟩:=zip_get xs i d h
  exact⟨y,MK _ h1,h2⟩
theorem nJ:∀ (n g:Nat) (d:D),n < g->AL n d->aw g [d,d]=.ok (.bl true):=by
 intro n
 induction n with
 | zero =>
  intro g d hg hd
  obtain⟨g,rfl⟩:∃ g',g=g'+1:=⟨g - 1,by omega⟩
  show aF (cx (aw g)) 2 4 [d,d]=_
  rw [fh]; unfold cx
  rcases hd with ⟨i,rfl⟩ | ⟨x,rfl⟩
  ·have t2:gC "str" (.int i)=some (.bl false):=rfl
   have t3:gC "int" (.int i)=some (.bl true):=rfl
   have t4:gC "bool" (.int i)=some (.bl false):=rfl
   simp! only [t2,t3,t4,beq_self_eq_true,NI]
  ·have t2:gC "str" (.str x)=some (.bl true):=rfl
   simp! only [t2,beq_self_eq_true,NI]
 | succ n ih =>
  intro g d hg hd
  obtain⟨g,rfl⟩:∃ g',g=g'+1:=⟨g - 1,by omega⟩
  show aF (cx (aw g)) 2 4 [d,d]=_
  rw [fh]; unfold cx
  rcases hd with (⟨i,rfl⟩ | ⟨x,rfl⟩) | ⟨ds,rfl,dl,hds⟩
  ·have t2:gC "str" (.int i)=some (.bl false):=rfl
   have t3:gC "int" (.int i)=some (.bl true):=rfl
   have t4:gC "bool" (.int i)=some (.bl false):=rfl
   simp! only [t2,t3,t4,beq_self_eq_true,NI]
  ·have t2:gC "str" (.str x)=some (.bl true):=rfl
   simp! only [t2,beq_self_eq_true,NI]
  ·have t1:gC "tuple" (.tup ds)=some (.bl true):=rfl
   have t2:gC "str" (.tup ds)=some (.bl false):=rfl
   have t3:gC "int" (.tup ds)=some (.bl false):=rfl
   have t4:gC "bool" (.tup ds)=some (.bl false):=rfl
   simp! only [t1,t2,t3,t4,beq_self_eq_true,tJ]
   refine dS (Q:=fun z=>z=.ok (.bl true)) (fun i ρ=>ρ=[some (.val (.tup ds)),some (.val (.tup ds)),none,none]) ?_ rfl ?_
   ·rintro i d ρ kk hd rfl
    obtain⟨x,hx,rfl⟩:=zip_get ds i d hd
    have ea:=ih g x ‹0› (hds x hx)
    refine⟨[some (.val (.tup ds)),some (.val (.tup ds)),some (.val x),some (.val x)],_,rfl,rfl,?_⟩
    simp! only [ea]
   ·rintro ρ' rfl
    rfl
noncomputable def kq (f:List D):List Key:=(keysOf f).getD []
theorem IU (q:List Key):kq (q.map bv)=q:=by unfold kq; rw [cM]; rfl
theorem sf {σ:List Bool} {f:List D} (h:Sh σ f):(kq f).map bv=f:=by
 obtain⟨q,e⟩:=qz h
 rw [e,IU]
theorem yB {σ:List Bool} {f f':List D} (h:Sh σ f) (h':Sh σ f') (e:kq f=kq f'):f=f':=by
 rw [<- sf h,e,sf h']
section
open Classical
theorem He {σ:List Bool} (L:List (List D)) (k:List D) (v:D) (hL:∀ f∈L,Sh σ f) (hk:Sh σ k) :
  gg (L.map fun f=>(kq f,v)) (kq k) v=(if k∈L then L else L++[k]).map fun f=>(kq f,v):=by
 have e:((L.map fun f=>(kq f,v)).any fun p=>decide (p.1=kq k))=true↔k∈L:=by
  rw [List.any_eq_true]
  constructor
  ·rintro⟨p,hp,hq⟩
   obtain⟨f,hf,rfl⟩:=List.mem_map.mp hp
   rw [<- yB (hL f hf) hk (of_decide_eq_true hq)]; exact hf
  ·intro h
   exact⟨_,List.mem_map.mpr ⟨k,h,rfl⟩,decide_eq_true rfl⟩
 unfold gg
 by_cases h:k∈L
 ·rw [if_pos (e.mpr h),if_pos h,Ow]
  refine NP fun f _=>?_
  show (if kq f=kq k then (kq f,v) else (kq f,v))=(kq f,v)
  split <;> rfl
 ·rw [if_neg fun z=>h (e.mp z),if_neg h,NQ]; rfl
theorem Cv {σ:List Bool} (k:List D) (v:D) (hk:Sh σ k) (ψ:List D->List D):∀ L:List (List D),(∀ f∈L,Sh σ f)->L.Nodup->(∀ f∈L,(ψ f).length < 1000)->(k∉L->ψ k=[]) ->
  sy (L.map fun f=>(kq f,.lst (ψ f))) (kq k) v=some ((if k∈L then L else L++[k]).map fun f=>(kq f,.lst (ψ f++if k=f then [v] else [])))
 | [],_,_,_,h0=>by
  rw [if_neg (by simp)]
  show some [(kq k,D.lst [v])]=some [(kq k,.lst (ψ k++if k=k then [v] else []))]
  rw [h0 (by simp),if_pos rfl]; rfl
 | f::L,hL,nd,hl,h0=>by
  obtain⟨n1,n2⟩:=List.nodup_cons.mp nd
  show (if kq f=kq k then _ else _)=_
  by_cases h:f=k
  ·subst h
   rw [if_pos rfl,if_pos MJ]
   show (if small ((ψ f).length+1) then some ((kq f,D.lst (ψ f++[v]))::L.map fun f=>(kq f,.lst (ψ f))) else none)=_
   have hl0:=hl f MJ
   rw [if_pos (show small ((ψ f).length+1)=true from decide_eq_true ‹0›),MX,if_pos rfl]
   congr 2
   refine NP fun x hx=>?_
   rw [if_neg (fun z=>n1 (by rw [z]; exact hx)),M1]
  ·rw [if_neg (fun z=>h (yB (hL f MJ) hk z))]
   have ih:=Cv k v hk ψ L (fun x hx=>hL x (MK _ hx)) n2 (fun x hx=>hl x (MK _ hx)) (fun z=>h0 fun y=>by
    rcases List.mem_cons.mp y with y | y
    ·exact h y.symm
    ·exact z y)
   rw [show sy (List.map (fun f=>(kq f,D.lst (ψ f))) L) (kq k) v=_ from ih]
   have em:k∈f::L↔k∈L:=by
    rw [N1]; exact⟨fun z=>z.resolve_left fun y=>h y.symm,.inr⟩
   by_cases hm:k∈L
   ·rw [if_pos hm,if_pos (em.mpr hm),MX,if_neg (fun z=>h z.symm),M1]; rfl
   ·rw [if_neg hm,if_neg (fun z=>hm (em.mp z)),Nx,MX,if_neg (fun z=>h z.symm),M1]; rfl
theorem zp:∀ (ps al:List (List Key×D)),((al++ps).map (·.1)).Nodup->ps.foldl (fun al p=>gg al p.1 p.2) al=al++ps
 | [],al,_=>by rw [M1]; rfl
 | p::ps,al,h=>by
  rw [Oh]
  have e:gg al p.1 p.2=al++[p]:=by
   unfold gg
   rw [if_neg]
   intro z
   obtain⟨a,ha,e⟩:=List.any_eq_true.mp z
   rw [NQ,MX] at h
   exact(List.nodup_append.mp h).2.2 a.1 (List.mem_map.mpr ⟨a,ha,rfl⟩) p.1 MJ (of_decide_eq_true e)
  rw [e,zp ps (al++[p]) (by rw [NZ]; exact h),NZ]; rfl
theorem v9:∀ ps:List (List Key×D),kr (ps.map mZ)=some ps
 | []=>rfl
 | p::ps=>by
  show (wA (mZ p)).bind (fun q=>(kr (ps.map mZ)).map (q::·))=_
  rw [v9 ps]
  show ((jE (.tup (p.1.map bv))).map _).bind _=_
  rw [nS]; rfl
end
theorem GD {σ:List Bool} {a b:List D} (h:Sh σ a) (h':Sh σ b):kN (.tup a) (.tup b)=some (.bl (hU a b)):=by
 have e:kN (.tup a) (.tup b)=if (pl (.tup a) && pl (.tup b)) && (gb 8 (.tup a) || gb 8 (.tup b)) then some (.bl (pyEq (.tup a) (.tup b))) else none:=rfl
 have d:gb 8 (.tup a)=true:=by show a.all (gb 7)=true; exact yT 6 h
 rw [e,d9,d9,zu h,zu h',d]
 show some (D.bl (pyEq (.tup a) (.tup b)))=_
 rw [pyEq]
section
open Classical
theorem El {σ:List Bool} {a b:List D} (h:Sh σ a) (h':Sh σ b):kN (.tup a) (.tup b)=some (.bl (decide (a=b))):=by
 rw [GD h h']
 congr 2
 by_cases e:a=b
 ·rw [decide_eq_true e]; exact(uF h h').mpr e
 ·rw [decide_eq_false e]
  cases z:hU a b with
  | false=>rfl
  | true=>exact absurd ((uF h h').mp z) e
noncomputable def gv (m:Nat) (t:List (List D)) (f:List D):List D:=f++[.tup ((gp m t f).map .tup)]
noncomputable def vw (m:Nat) (t:List (List D)):D:=.tup ((fs m t).map fun f=>.tup (gv m t f))
theorem yr (m:Nat) (t:List (List D)) (f:List D):(gp m t f).length<=t.length:=by
 unfold gp; rw [MY]; exact List.length_filter_le _ _
section
variable {σ:List Bool} {t:List (List D)} {m:Nat}
theorem Tab.fsh (T:Tab σ t) (hm:m<=σ.length):∀ r∈t,Sh (σ.take m) (r.take m):=fun r h=>by
 have:=qx m (T.sh r h)
 rw [OT,OG hm] at this
 exact this
theorem wL (s:List (List D)) (h:∀ r∈s,Sh (σ.take m) (r.take m)):∀ f∈fs m s,Sh (σ.take m) f:=fun f hf=>by
 obtain⟨r,hr,rfl⟩:=(lP m).mp hf
 exact h r hr
theorem zy (T:Tab σ t) (f:List D) (h:f∈fs m t):f.length<=16:=by
 obtain⟨r,hr,rfl⟩:=(lP m).mp h
 have:=(T.rl r hr).1
 rw [M4]; omega
theorem LU (T:Tab σ t) (hm:m<=σ.length) (f:List D) (h:f∈fs m t):f.length=m:=by
 obtain⟨r,hr,rfl⟩:=(lP m).mp h
 have:=(T.rl r hr).2
 rw [M4]; omega
theorem rT {i:Nat} (h:i < t.length):t.take (i+1)=t.take i++[t[i]]:=O5 h
theorem zL (L:List (List D)) (nd:L.Nodup) (h:∀ f∈L,Sh (σ.take m) f) (v:List D->D):((L.map fun f=>(kq f,v f)).map (·.1)).Nodup:=by
 rw [Ow]
 refine List.pairwise_map.mpr (List.Pairwise.imp_of_mem (fun {a b} ha hb ne e=>ne ?_) nd)
 exact yB (h a ha) (h b hb) e
theorem Et (L:List (List D)) (h:∀ f∈L,Sh (σ.take m) f) (v:List D->D):encK (L.map fun f=>(kq f,v f))=L.map .tup:=by
 show (L.map fun f=>(kq f,v f)).map _=_
 rw [Ow]
 refine NP fun f hf=>?_
 show D.tup ((kq f).map bv)=.tup f
 rw [sf (h f hf)]
theorem ug (T:Tab σ t) (m1:1<=m) (hm:m<=σ.length):aF bA 2 6 [.tup (t.map .tup),.int m]=.ok (vw m t):=by
 have fsh:=T.fsh hm
 have tl:=T.ln
 obtain⟨TT,hT⟩:∃ TT:cB,TT=(iq 2 (aG (kK (cA (fL e7 (af (fL lJ (af (ah 2) (aq))) (aq)))) (gN 5) (aG (AH 4 gx (af (f2 ce (ah 5) (bH (af (fL cH (af (nG [none,some 1,some 5] (cA (ah 0)) (gN 0) (fB (f2 kN (bn (ah 0) (aU) (bU (ah 1))) (ah 2))) (bn (ah 0) (bU (ah 1)) (aU))) (aq))) (aq)))) (aq))) (fK [5] cz))) (iq 4 (bC (fL cH (af (ah 4) (aq))))))):=⟨_,rfl⟩
 rw [fh]; unfold bA
 rw [<- hT]
 simp! only [uS]
 refine dS (Q:=fun z=>z=.ok (vw m t)) (fun i ρ=>∃ x,ρ=[some (.val (.tup (t.map .tup))),some (.val (.int m)),some (.own (dH ((fs m (t.take i)).map fun f=>(kq f,.bl true)))),x,none,none]) ?_ ⟨none,rfl⟩ ?_
 ·rintro i d ρ kk hd ⟨x,rfl⟩
  have hi:=cO hd
  rw [MY] at hi
  rw [M8,NE hi] at hd
  cases hd
  have rm:t[i]∈t:=Ot hi
  have ct:cutD t[i] none (some (m:Int))=(kq (t[i].take m)).map bv:=by rw [jo,sf (fsh _ rm)]
  refine⟨_,_,rfl,⟨some (.val (.tup t[i])),rfl⟩,?_⟩
  have pi:=He (σ:=σ.take m) (fs m (t.take i)) (t[i].take m) (.bl true) (wL _ fun r hr=>fsh r (O8 hr)) (fsh _ rm)
  have fe:fs m (t.take (i+1))=if t[i].take m∈fs m (t.take i) then fs m (t.take i) else fs m (t.take i)++[t[i].take m]:=by
   rw [rT hi,kB]; rfl
  have fl:=nL m (t.take i)
  rw [M4] at fl
  have pd:=fun K:Ks=>zE (i:=2) (fk:=bn (ah 3) (aU) (bU (ah 1))) (fv:=fC (.bl true)) (k:=K) (ρ:=[some (.val (.tup (t.map .tup))),some (.val (.int m)),some (.own (dH ((fs m (t.take i)).map fun f=>(kq f,.bl true)))),some (.val (.tup t[i])),none,none]) (al:=(fs m (t.take i)).map fun f=>(kq f,.bl true)) (q:=kq (t[i].take m)) (v:=.bl true) rfl (by simp! only [ct]) rfl (by rw [MY]; omega)
  rw [pi,<- fe] at pd
  generalize dH ((fs m (t.take (i+1))).map fun f=>(kq f,.bl true))=Y at pd ⊢
  generalize dH ((fs m (t.take i)).map fun f=>(kq f,.bl true))=Z at pd ⊢
  simp! only [pd]
 ·rintro ρ' ⟨x,rfl⟩
  rw [MY,NU]
  have fl:=nL m t
  have fsL:=wL t fsh
  have en:=Et (m:=m) (σ:=σ) (fs m t) fsL (fun _=>.bl true)
  have knd:=zL (m:=m) (σ:=σ) (fs m t) (xB m t) fsL (fun _=>.bl true)
  have s0:σ.take m≠[]:=fun z=>by
   have:=congrArg List.length z
   rw [M4,Np] at this; omega
  obtain⟨es,_⟩:=zI (σ:=σ.take m) knd (fun p hp=>by
   obtain⟨f,hf,rfl⟩:=List.mem_map.mp hp
   show Sh _ ((kq f).map bv)
   rw [sf (fsL f hf)]; exact fsL f hf) s0 (by rw [MY]; omega)
  have lt:=vU ((fs m t).map fun f=>(kq f,.bl true))
  rw [en] at es lt
  have so:jV dU ((fs m t).map .tup)=(fs m t).map .tup:=by
   refine wU (σ:=σ.take m) (fun x hx=>?_) ?_ ?_ (List.Perm.refl _)
   ·obtain⟨f,hf,rfl⟩:=List.mem_map.mp hx
    exact fsL f hf
   ·exact List.pairwise_map.mpr ((xB m t).imp fun {a b} ne e=>ne e)
   ·exact List.pairwise_map.mpr (Cw m rfl T.sh hm T.ri).1
  rw [so] at es
  rw [hT]
  generalize dH ((fs m t).map fun f=>(kq f,.bl true))=Z at lt ⊢
  simp! only [G4,lt,es]
  refine dS (Q:=fun z=>z=.ok (vw m t)) (fun i ρ=>ρ=[some (.val (.tup (t.map .tup))),some (.val (.int m)),some (.val Z),x,some (.own (.lst (((fs m t).take i).map fun f=>.tup (gv m t f)))),none]) ?_ rfl ?_
  ·rintro i d ρ kk hd rfl
   have hi:=cO hd
   rw [MY] at hi
   rw [M8,NE hi] at hd
   cases hd
   obtain⟨f,ef⟩:∃ f,f=(fs m t)[i]:=⟨_,rfl⟩
   have fm:f∈fs m t:=by rw [ef]; exact Ot hi
   have ap:gx (((fs m t).take i).map fun f=>.tup (gv m t f)) [.tup (gv m t f)]=some (((fs m t).take (i+1)).map fun f=>.tup (gv m t f)):=by
    rw [lI (by rw [MY,M4]; omega),O5 hi,<- ef,NQ]; rfl
   rw [<- ef]
   have lc:nG [none,some 1,some 5] (cA (ah 0)) (gN 0) (fB (f2 kN (bn (ah 0) (aU) (bU (ah 1))) (ah 2))) (bn (ah 0) (bU (ah 1)) (aU)) [some (.val (.tup (t.map .tup))),some (.val (.int m)),some (.val Z),x,some (.own (.lst (((fs m t).take i).map fun f=>.tup (gv m t f)))),some (.val (.tup f))]=.ok (.lst ((gp m t f).map .tup)):=by
    refine iy (ds:=t.map .tup) (by generalize (((fs m t).take i).map fun f=>D.tup (gv m t f))=A; simp! only []) (by rw [MY]; omega) ?_
    have:=y9 (ρ:=inB [none,some 1,some 5] [some (.val (.tup (t.map .tup))),some (.val (.int m)),some (.val Z),x,some (.own (.lst (((fs m t).take i).map fun f=>.tup (gv m t f)))),some (.val (.tup f))]) (g:=gN 0) (C:=fB (f2 kN (bn (ah 0) (aU) (bU (ah 1))) (ah 2))) (Fe:=bn (ah 0) (bU (ah 1)) (aU)) D.tup (fun r=>decide (r.take m=f)) (fun r=>.tup (r.drop m)) t fun r hr=>by
     have eq:=El (fsh r hr) (fsL f fm)
     refine⟨[some (.val (.tup r)),some (.val (.int m)),some (.val (.tup f))],rfl,?_,fun _=>?_⟩
     ·simp! only [jo,eq]
     ·simp! only [iY]
    rw [this]
    unfold gp
    rw [Ow]; rfl
   have ad:ce (.tup f) (.tup [.tup ((gp m t f).map .tup)])=some (.tup (gv m t f)):=by
    have:=zy T f fm
    exact iX f _ (by rw [Ni]; omega)
   have sm:=fun K:Ks=>lB 4 gx (af (f2 ce (ah 5) (bH (af (fL cH (af (nG [none,some 1,some 5] (cA (ah 0)) (gN 0) (fB (f2 kN (bn (ah 0) (aU) (bU (ah 1))) (ah 2))) (bn (ah 0) (bU (ah 1)) (aU))) (aq))) (aq)))) (aq)) K [some (.val (.tup (t.map .tup))),some (.val (.int m)),some (.val Z),x,some (.own (.lst (((fs m t).take i).map fun f=>.tup (gv m t f)))),some (.val (.tup f))] (xs:=((fs m t).take i).map fun f=>.tup (gv m t f)) rfl
   refine⟨_,_,rfl,rfl,?_⟩
   generalize (((fs m t).take (i+1)).map fun f=>D.tup (gv m t f))=Y at ap ⊢
   generalize (((fs m t).take i).map fun f=>D.tup (gv m t f))=A at ap sm lc ⊢
   simp! only [sm,lc,Ht,ad,ap]
  ·rintro ρ' rfl
   rw [MY,NU]
   unfold vw
   generalize ((fs m t).map fun f=>D.tup (gv m t f))=A
   simp! only []
theorem wC (T:Tab σ t) (hm:m<=σ.length):aF iR 2 4 [.int m,vw m t]=.ok (.tup (t.map .tup)):=by
 have fl:=nL m t
 have tl:=T.ln
 have fi:=EW m rfl T.sh hm T.ri
 unfold flat at fi
 rw [fh]; unfold iR
 unfold vw
 simp! only [G4]
 refine dS (Q:=fun z=>z=.ok (.tup (t.map .tup))) (fun i ρ=>ρ=[some (.val (.int m)),some (.val (vw m t)),some (.own (.lst ((((fs m t).take i).flatMap fun f=>(gp m t f).map (f++·)).map .tup))),none]) ?_ rfl ?_
 ·rintro i d ρ kk hd rfl
  have hi:=cO hd
  rw [MY] at hi
  rw [M8,NE hi] at hd
  cases hd
  obtain⟨f,ef⟩:∃ f,f=(fs m t)[i]:=⟨_,rfl⟩
  have fm:f∈fs m t:=by rw [ef]; exact Ot hi
  rw [<- ef]
  have fml:=LU T hm f fm
  have f16:=zy T f fm
  have ix:aQ (.tup (gv m t f)) (.int m)=some (.tup ((gp m t f).map .tup)):=by
   unfold gv
   rw [G6,qp (MR _) (by rw [Nb,Ni]; omega)]
   congr 1
   rw [O6 (by show f.length<=m; omega)]
   exact List.getElem_singleton _
  have ct:cutD (gv m t f) none (some (m:Int))=f:=by
   rw [jo,<- fml]; unfold gv; rw [List.take_left]
  have gl:=yr m t f
  have gw:∀ w∈gp m t f,w.length<=16:=fun w hw=>by
   unfold gp at hw
   obtain⟨r,hr,rfl⟩:=List.mem_map.mp hw
   have:=(T.rl r (List.mem_filter.mp hr).1).1
   rw [Nf]; omega
  generalize hA:((((fs m t).take i).flatMap fun f=>(gp m t f).map (f++·)).map D.tup)=A
  have al:A.length<=t.length:=by
   rw [<- hA,MY]
   conv=>rhs; rw [<- fi,<- O2 i (fs m t),OZ,Nb]
   omega
  have lc:nG [none,some 3,some 0] (cA (f2 aQ (ah 3) (ah 0))) (gN 0) (eS) (f2 ce (bn (ah 1) (aU) (bU (ah 2))) (ah 0)) [some (.val (.int m)),some (.val (vw m t)),some (.own (.lst A)),some (.val (.tup (gv m t f)))]=.ok (.lst (((gp m t f).map (f++·)).map .tup)):=by
   refine iy (ds:=(gp m t f).map .tup) (by simp! only [ix]) (by rw [MY]; omega) ?_
   have:=nO (ρ:=inB [none,some 3,some 0] [some (.val (.int m)),some (.val (vw m t)),some (.own (.lst A)),some (.val (.tup (gv m t f)))]) (g:=gN 0) (C:=eS) (Fe:=f2 ce (bn (ah 1) (aU) (bU (ah 2))) (ah 0)) D.tup (fun w=>.tup (f++w)) (gp m t f) fun w hw=>by
    have ad:=iX f w (by have:=gw w hw; omega)
    refine⟨[some (.val (.tup w)),some (.val (.tup (gv m t f))),some (.val (.int m))],rfl,rfl,?_⟩
    simp! only [ct,ad]
   rw [this,Ow]; rfl
  refine⟨_,_,rfl,rfl,?_⟩
  have e1:(((fs m t).take (i+1)).flatMap fun f=>(gp m t f).map (f++·)).map D.tup=A++((gp m t f).map (f++·)).map .tup:=by
   rw [O5 hi,<- ef,OZ,NQ,hA,O0]
  rw [e1]
  have ex:∀ K:Ks,CO 2 (nG [none,some 3,some 0] (cA (f2 aQ (ah 3) (ah 0))) (gN 0) (eS) (f2 ce (bn (ah 1) (aU) (bU (ah 2))) (ah 0))) K [some (.val (.int m)),some (.val (vw m t)),some (.own (.lst A)),some (.val (.tup (gv m t f)))]=K.nx [some (.val (.int m)),some (.val (vw m t)),some (.own (.lst (A++((gp m t f).map (f++·)).map .tup))),some (.val (.tup (gv m t f)))]:=fun K=>by
   show sg _ K _ _=_
   rw [lc,pW]
   show (if small _ then _ else _)=_
   rw [if_pos (dZ (by rw [MY,MY]; omega))]; rfl
  generalize A++((gp m t f).map (f++·)).map .tup=Y at ex ⊢
  simp! only [ex]
 ·rintro ρ' rfl
  rw [MY,NU,fi]
  simp! only []
theorem yO (T:Tab σ t) (hm:m<=σ.length):aF iO 2 4 [.int m,.tup (t.map .tup)]=.ok (nC ((fs m t).map fun f=>(kq f,.tup ((gp m t f).map .tup)))):=by
 have fsh:=T.fsh hm
 have fl:=nL m t
 have tl:=T.ln
 have fsL:=wL t fsh
 obtain⟨TT,hT⟩:∃ TT:cB,TT=(sW 2 (bC (fL rW (af (nG [none,none] (kS (ah 2)) (gT 2 (uE [0,1])) (eS) (bH (af (ah 0) (af (fL cH (af (ah 1) (aq))) (aq))))) (aq))))):=⟨_,rfl⟩
 rw [fh]; unfold iO
 rw [<- hT]
 have nn:∀ K:Ks,wu 2 K [some (.val (.int m)),some (.val (.tup (t.map .tup))),none,none]=K.nx [some (.val (.int m)),some (.val (.tup (t.map .tup))),some (.nest (dH [])),none]:=fun K=>rfl
 simp! only [nn]
 refine dS (Q:=fun z=>z=.ok (nC ((fs m t).map fun f=>(kq f,.tup ((gp m t f).map .tup))))) (fun i ρ=>ρ=[some (.val (.int m)),some (.val (.tup (t.map .tup))),some (.nest (dH ((fs m (t.take i)).map fun f=>(kq f,.lst ((gp m (t.take i) f).map .tup))))),none]) ?_ rfl ?_
 ·rintro i d ρ kk hd rfl
  have hi:=cO hd
  rw [MY] at hi
  rw [M8,NE hi] at hd
  cases hd
  have rm:t[i]∈t:=Ot hi
  have fi:=nL m (t.take i)
  rw [M4] at fi
  have gi:=Cv (σ:=σ.take m) (t[i].take m) (.tup (t[i].drop m)) (fsh _ rm) (fun f=>(gp m (t.take i) f).map .tup) (fs m (t.take i)) (wL _ fun r hr=>fsh r (O8 hr)) (xB m _) (fun f _=>by
   have:=yr m (t.take i) f
   rw [M4] at this
   rw [MY]; omega) (fun z=>by
    unfold gp
    rw [List.filter_eq_nil_iff.mpr]
    ·rfl
    ·intro x hx y
     exact z ((lP m).mpr ⟨x,hx,by simpa using y⟩))
  have ge:∀ f,((gp m (t.take i) f).map D.tup++if t[i].take m=f then [.tup (t[i].drop m)] else [])=(gp m (t.take (i+1)) f).map .tup:=fun f=>by
   rw [rT hi,ql,NQ]
   by_cases h:t[i].take m=f
   ·rw [if_pos h,if_pos h]; rfl
   ·rw [if_neg h,if_neg h]; rfl
  have fe:fs m (t.take (i+1))=if t[i].take m∈fs m (t.take i) then fs m (t.take i) else fs m (t.take i)++[t[i].take m]:=by
   rw [rT hi,kB]; rfl
  rw [<- fe] at gi
  simp only [ge] at gi
  refine⟨_,_,rfl,rfl,?_⟩
  have gr:∀ K:Ks,Aw 2 (bn (ah 3) (aU) (bU (ah 0))) (bn (ah 3) (bU (ah 0)) (aU)) K [some (.val (.int m)),some (.val (.tup (t.map .tup))),some (.nest (dH ((fs m (t.take i)).map fun f=>(kq f,.lst ((gp m (t.take i) f).map .tup))))),some (.val (.tup t[i]))]=K.nx [some (.val (.int m)),some (.val (.tup (t.map .tup))),some (.nest (dH ((fs m (t.take (i+1))).map fun f=>(kq f,.lst ((gp m (t.take (i+1)) f).map .tup))))),some (.val (.tup t[i]))]:=fun K=>by
   generalize hal:((fs m (t.take i)).map fun f=>(kq f,D.lst ((gp m (t.take i) f).map .tup)))=al at gi
   have all:al.length<=t.length:=by rw [<- hal,MY]; omega
   have g2:wJ (encK al) (al.map (·.2)) (.tup (t[i].take m)) (.tup (t[i].drop m))=some ((fs m (t.take (i+1))).map fun f=>(kq f,.lst ((gp m (t.take (i+1)) f).map .tup))):=by
    unfold wJ
    rw [jQ]
    show (jE (.tup (t[i].take m))).bind _=_
    have:t[i].take m=(kq (t[i].take m)).map bv:=(sf (fsh _ rm)).symm
    rw [this,nS]
    show (if small al.length then _ else _)=_
    rw [if_pos (dZ ‹0›)]
    exact gi
   have k1:bn (ah 3) (aU) (bU (ah 0)) [some (.val (.int m)),some (.val (.tup (t.map .tup))),some (.nest (dH al)),some (.val (.tup t[i]))]=.ok (.tup (t[i].take m)):=by
    generalize dH al=Z
    simp! only [jo]
   have k2:bn (ah 3) (bU (ah 0)) (aU) [some (.val (.int m)),some (.val (.tup (t.map .tup))),some (.nest (dH al)),some (.val (.tup t[i]))]=.ok (.tup (t[i].drop m)):=by
    generalize dH al=Z
    simp! only [iY]
   show (((A3 _).bind fun q=>(A3 _).bind fun v=>rO (wJ (encK al) (al.map (·.2)) q v)).bind _)=_
   rw [k1,k2,ip,dD,ip,dD,g2,e9,dD]; rfl
  generalize dH ((fs m (t.take (i+1))).map fun f=>(kq f,.lst ((gp m (t.take (i+1)) f).map .tup)))=Y at gr ⊢
  generalize dH ((fs m (t.take i)).map fun f=>(kq f,.lst ((gp m (t.take i) f).map .tup)))=Z at gr ⊢
  simp! only [gr]
 ·rintro ρ' rfl
  rw [MY,NU,hT]
  generalize hal:((fs m t).map fun f=>(kq f,D.lst ((gp m t f).map .tup)))=al
  have all:al.length<=t.length:=by rw [<- hal,MY]; omega
  have fz:∀ (F:cB) (K:Ks),sW 2 F K [some (.val (.int m)),some (.val (.tup (t.map .tup))),some (.nest (dH al)),none]=F K [some (.val (.int m)),some (.val (.tup (t.map .tup))),some (.val (nC al)),none]:=fun F K=>by
   show F K (match kX (encK al) (al.map (·.2)) with | some al=>setV 2 (nC al) _ | none=>_)=_
   rw [jQ]; rfl
  have knd:=zL (m:=m) (σ:=σ) (fs m t) (xB m t) fsL (fun f=>.tup ((gp m t f).map .tup))
  have pr:=v9 ((fs m t).map fun f=>(kq f,D.tup ((gp m t f).map .tup)))
  have df:rW [.lst (((fs m t).map fun f=>(kq f,D.tup ((gp m t f).map .tup))).map mZ)]=some (nC ((fs m t).map fun f=>(kq f,.tup ((gp m t f).map .tup)))):=by
   show (kr _).bind _=_
   rw [pr]
   show (if small _ then _ else _)=_
   rw [if_pos (dZ (by rw [MY]; omega))]
   have:=zp ((fs m t).map fun f=>(kq f,D.tup ((gp m t f).map .tup))) [] knd
   unfold CG
   rw [this]; rfl
  have it:=wz al
  have lc:nG [none,none] (kS (ah 2)) (gT 2 (uE [0,1])) (eS) (bH (af (ah 0) (af (fL cH (af (ah 1) (aq))) (aq)))) [some (.val (.int m)),some (.val (.tup (t.map .tup))),some (.val (nC al)),none]=.ok (.lst (((fs m t).map fun f=>(kq f,D.tup ((gp m t f).map .tup))).map mZ)):=by
   refine iy (ds:=al.map mZ) ?_ (by rw [MY]; omega) ?_
   ·show ((ah 2 _).bind _)=_
    generalize nC al=Z at it
    simp! only [it]
   ·rw [<- hal,Ow,Ow]
    refine nO _ _ (fs m t) fun f hf=>?_
    refine⟨[some (.val (.tup ((kq f).map bv))),some (.val (.lst ((gp m t f).map .tup)))],rfl,rfl,?_⟩
    simp! only [Do]
    rfl
  generalize nC al=Z at lc fz
  generalize dH al=Z0 at fz ⊢
  generalize nC ((fs m t).map fun f=>(kq f,D.tup ((gp m t f).map .tup)))=Y at df ⊢
  simp! only [fz,lc,df]
theorem yQ (T:Tab σ t) (hm:m<=σ.length) (o f:D) (ho:jq "many" ["Nest"] o=some (.int m)):aF bi 3 3 [o,f,.tup (t.map .tup)]=.ok (vw m t):=by
 have gi:=yO T hm
 have fl:=nL m t
 have tl:=T.ln
 have fsL:=wL t (T.fsh hm)
 rw [qG]; unfold bi
 have it:=wz ((fs m t).map fun f=>(kq f,D.tup ((gp m t f).map .tup)))
 have lc:nG [none,none] (kS (fR (aF iO 2 4) (af (f1 (jq "many" ["Nest"]) (ah 0)) (af (ah 2) (aq))))) (gT 2 (uE [0,1])) (eS) (f2 ce (ah 0) (bH (af (ah 1) (aq)))) [some (.val o),some (.val f),some (.val (.tup (t.map .tup)))]=.ok (.lst ((fs m t).map fun f=>.tup (gv m t f))):=by
  refine iy (ds:=((fs m t).map fun f=>(kq f,D.tup ((gp m t f).map .tup))).map mZ) ?_ (by rw [MY,MY]; omega) ?_
  ·show (Except.bind _ _)=_
   generalize nC ((fs m t).map fun f=>(kq f,D.tup ((gp m t f).map .tup)))=Z at gi it
   simp! only [ho,gi,it]
  ·rw [Ow]
   refine nO _ _ (fs m t) fun f hf=>?_
   have ad:ce (.tup ((kq f).map bv)) (.tup [.tup ((gp m t f).map .tup)])=some (.tup (gv m t f)):=by
    have:=zy T f hf
    rw [sf (fsL f hf)]
    exact iX f _ (by rw [Ni]; omega)
   refine⟨[some (.val (.tup ((kq f).map bv))),some (.val (.tup ((gp m t f).map .tup)))],rfl,rfl,?_⟩
   simp! only [Ht,ad]
 unfold vw
 simp! only [lc]
theorem ER (T:Tab σ t) (hm:m<=σ.length) (o f b:D) (ho:jq "many" ["Nest"] o=some (.int m)):aF dP 4 4 [o,f,b,vw m t]=.ok (.tup (t.map .tup)):=by
 have ui:=wC T hm
 rw [CI]; unfold dP
 simp! only [ho,ui]
theorem Tab.ALt (T:Tab σ t):AL 6 (.tup (t.map .tup)):=by
 have:=T.ln
 refine AL.tup (by rw [MY]; omega) fun v hv=>?_
 obtain⟨r,hr,rfl⟩:=List.mem_map.mp hv
 have:=(T.rl r hr).1
 exact AL.tup ‹0› (T.al r hr)
theorem Tab.ALv (T:Tab σ t) (m:Nat):AL 8 (vw m t):=by
 have:=T.ln
 have fl:=nL m t
 refine AL.tup (by rw [MY]; omega) fun v hv=>?_
 obtain⟨f,hf,rfl⟩:=List.mem_map.mp hv
 have f16:=zy T f hf
 refine AL.tup (by unfold gv; rw [Nb,Ni]; omega) fun w hw=>?_
 unfold gv at hw
 rcases List.mem_append.mp hw with z | z
 ·obtain⟨r,hr,rfl⟩:=(lP m).mp hf
  exact AL.le (by decide) (T.al r hr w (O8 z))
 ·rw [List.mem_singleton.mp z]
  have gl:=yr m t f
  refine AL.tup (by rw [MY]; omega) fun u hu=>?_
  obtain⟨g,hg,rfl⟩:=List.mem_map.mp hu
  unfold gp at hg
  obtain⟨r,hr,rfl⟩:=List.mem_map.mp hg
  have hr:=(List.mem_filter.mp hr).1
  have:=(T.rl r hr).1
  exact AL.tup (by rw [Nf]; omega) fun x hx=>T.al r hr x (O9 hx)
end
end
def AB:Nat->D->Prop
 | 0,d=>(∃ i,d=.int i)\/(∃ x,d=.str x)\/∃ b,d=.bl b
 | n+1,d=>((∃ i,d=.int i)\/(∃ x,d=.str x)\/∃ b,d=.bl b)\/∃ ds,d=.tup ds/\ds.length<=1000/\∀ x∈ds,AB n x
theorem AB.of0 {d:D} (h:AB 0 d):∀ n,AB n d
 | 0=>h
 | _+1=>.inl h
theorem AB.up:∀ {n:Nat} {d:D},AB n d->AB (n+1) d
 | 0,_,h=>.inl h
 | n+1,_,h=>by
  rcases h with h | ⟨ds,e,l,f⟩
  ·exact .inl h
  ·exact .inr ⟨ds,e,l,fun x hx=>AB.up (f x hx)⟩
theorem AB.le {n m:Nat} (h:n<=m) {d:D} (hd:AB n d):AB m d:=by
  induction m with
  | zero => have : n = 0 := by omega
            subst this; exact hd
  | succ m ih =>
    by_cases e:n=m+1
    · subst e; exact hd
    · exact AB.up (ih ‹0›)
theorem AB.tup {n:Nat} {ds:List D} (l:ds.length<=1000) (h:∀ x∈ds,AB n x):AB (n+1) (.tup ds):=.inr ⟨ds,rfl,l,h⟩
theorem AB.str {n:Nat} (x:Str):AB n (.str x):=AB.of0 (.inr (.inl ⟨x,rfl⟩)) n
theorem AB.int {n:Nat} (i:Int):AB n (.int i):=AB.of0 (.inl ⟨i,rfl⟩) n
theorem AB.bl {n:Nat} (b:Bool):AB n (.bl b):=AB.of0 (.inr (.inr ⟨b,rfl⟩)) n
theorem qU (g:Nat) (d:D) (h:AB 0 d):aw (g+1) [d,d]=.ok (.bl true):=by
 show aF (cx (aw g)) 2 4 [d,d]=_
 rw [fh]; unfold cx
 rcases h with ⟨i,rfl⟩ | ⟨x,rfl⟩ | ⟨b,rfl⟩
 ·have t2:gC "str" (.int i)=some (.bl false):=rfl
  have t3:gC "int" (.int i)=some (.bl true):=rfl
  have t4:gC "bool" (.int i)=some (.bl false):=rfl
  simp! only [t2,t3,t4,beq_self_eq_true,NI]
 ·have t2:gC "str" (.str x)=some (.bl true):=rfl
  simp! only [t2,beq_self_eq_true,NI]
 ·have t2:gC "str" (.bl b)=some (.bl false):=rfl
  have t4:gC "bool" (.bl b)=some (.bl true):=rfl
  simp! only [t2,t4,beq_self_eq_true,NI]
theorem uU:∀ (n g:Nat) (d:D),n < g->AB n d->aw g [d,d]=.ok (.bl true):=by
 intro n
 induction n with
 | zero =>
  intro g d hg hd
  obtain⟨g,rfl⟩:∃ g',g=g'+1:=⟨g - 1,by omega⟩
  exact qU g d hd
 | succ n ih =>
  intro g d hg hd
  obtain⟨g,rfl⟩:∃ g',g=g'+1:=⟨g - 1,by omega⟩
  rcases hd with h | ⟨ds,rfl,dl,hds⟩
  ·exact qU g d h
  ·show aF (cx (aw g)) 2 4 [.tup ds,.tup ds]=_
   rw [fh]; unfold cx
   have t1:gC "tuple" (.tup ds)=some (.bl true):=rfl
   have t2:gC "str" (.tup ds)=some (.bl false):=rfl
   have t3:gC "int" (.tup ds)=some (.bl false):=rfl
   have t4:gC "bool" (.tup ds)=some (.bl false):=rfl
   simp! only [t1,t2,t3,t4,beq_self_eq_true,tJ]
   refine dS (Q:=fun z=>z=.ok (.bl true)) (fun i ρ=>ρ=[some (.val (.tup ds)),some (.val (.tup ds)),none,none]) ?_ rfl ?_
   ·rintro i d ρ kk hd rfl
    obtain⟨x,hx,rfl⟩:=zip_get ds i d hd
    have ea:=ih g x ‹0› (hds x hx)
    refine⟨[some (.val (.tup ds)),some (.val (.tup ds)),some (.val x),some (.val x)],_,rfl,rfl,?_⟩
    simp! only [ea]
   ·rintro ρ' rfl
    rfl
theorem zJ (c:Kd) (h:c.gd):AB 2 c.d:=by
 cases c with
 | num lo hi =>
  exact AB.tup (by simp) fun x hx=>by
   rcases List.mem_cons.mp hx with rfl | hx
   ·exact AB.str _
   ·rcases List.mem_cons.mp hx with rfl | hx
    ·exact AB.int _
    ·rw [List.mem_singleton.mp hx]; exact AB.int _
 | wrd ws =>
  have hl:ws.length<=100:=h.2
  exact AB.tup (by simp) fun x hx=>by
   rcases List.mem_cons.mp hx with rfl | hx
   ·exact AB.str _
   ·rw [List.mem_singleton.mp hx]
    exact AB.tup (by rw [MY]; omega) fun y hy=>by
     obtain⟨w,_,rfl⟩:=List.mem_map.mp hy
     exact AB.str _
theorem uI {n:Nat} {a b:D} (ha:AB n a) (hb:AB n b):AB (n+1) (.tup [a,b]):=AB.tup (by simp) fun x hx=>by
 rcases List.mem_cons.mp hx with rfl | hx
 ·exact ha
 ·rw [List.mem_singleton.mp hx]; exact hb
theorem qg {n:Nat} {L:List D} (hl:L.length<=1000) (h:∀ d∈L,∃ (w:Str) (k:D),d=.tup [.str w,k]/\AB n k):AB (n+2) (.tup L):=AB.tup hl fun x hx=>by
 obtain⟨w,k,rfl,hk⟩:=h x hx
 exact uI (AB.str _) hk
theorem y6 {n:Nat} {f:D} (b:Bool) (hf:AB n f):AB (n+1) (.tup [.str "rows",f,.bl b]):=AB.tup (by simp) fun x hx=>by
 rcases List.mem_cons.mp hx with rfl | hx
 ·exact AB.str _
 ·rcases List.mem_cons.mp hx with rfl | hx
  ·exact hf
  ·rw [List.mem_singleton.mp hx]; exact AB.bl _
theorem Fd {n:Nat} (ks:KL) (qs:List (Str×D)) (k8:ks.length<=8) (q8:qs.length<=8) (hk:∀ p∈ks,p.2.gd) (hq:∀ q∈qs,AB (2+n) q.2):AB (5+n) (fr ks qs):=by
 have e:5+n=(2+n+2)+1:=by omega
 rw [e]
 refine uI (qg (by rw [MY]; omega) fun d hd=>?_) (qg (by rw [MY]; omega) fun d hd=>?_)
 ·obtain⟨p,hp,rfl⟩:=List.mem_map.mp hd
  exact⟨p.1,p.2.d,rfl,AB.le ‹0› (zJ p.2 (hk p hp))⟩
 ·obtain⟨p,hp,rfl⟩:=List.mem_map.mp hd
  exact⟨p.1,p.2,rfl,hq p hp⟩
theorem Fj:∀ (n:Nat) (d:D),KG n d->AB (2+4*n) d
 | 0,d,h=>by
  obtain⟨c,hc,rfl⟩:=h
  exact zJ c hc
 | n+1,d,h=>by
  rcases h with ⟨c,hc,rfl⟩ | ⟨ks,qs,b,rfl,_,k8,hk,q8,hq⟩
  ·exact AB.le ‹0› (zJ c hc)
  ·have:=y6 b (Fd (n:=4*n) ks qs k8 q8 hk fun q hq'=>Fj n _ (hq q hq'))
   exact AB.le ‹0› this
theorem yt {ρ:au} {g:GF} {C:au->R Bool} {Fe:FX} (P:D->Prop):∀ ds:List D,(∀ d∈ds,∃ ρ1 b,g d ρ=some ρ1/\C ρ1=.ok b/\(b=true->∃ v,Fe ρ1=.ok v/\P v))->∃ vs:List D,(∀ v∈vs,P v)/\zx ρ g C Fe ds=.ok vs
 | [],_=>⟨[],(fun _ h=>nomatch h),rfl⟩
 | d::ds,h=>by
  obtain⟨ρ1,b,e1,e2,e3⟩:=h d MJ
  obtain⟨vs,v1,v2⟩:=yt P ds fun x hx=>h x (MK _ hx)
  rw [lH,e1,e9,dD,e2,ip,dD,v2]
  cases b with
  | false=>exact⟨vs,v1,rfl⟩
  | true =>
   obtain⟨v,ev,pv⟩:=e3 rfl
   refine⟨v::vs,fun x hx=>?_,by rw [if_pos rfl,ev,ip,dD,dD]⟩
   rcases List.mem_cons.mp hx with rfl | hx
   ·exact pv
   ·exact v1 x hx
theorem zH {n:Int}:∀ (vs:List Int) (a:Int),0<=a->a<=n->(∀ v∈vs,0 < v/\v<=n)->0<=vs.foldl mx a/\vs.foldl mx a<=n
 | [],a,h0,h1,_=>⟨h0,h1⟩
 | v::vs,a,h0,h1,h=>by
  rw [Oh]
  have:=h v MJ
  exact zH vs _ (by unfold mx; split <;> omega) (by unfold mx; split <;> omega) fun w hw=>h w (MK _ hw)
theorem ints_of (n:Int):∀ vs:List D,(∀ v∈vs,∃ z:Int,v=.int z/\0 < z/\z<=n)->∃ zs:List Int,vs=zs.map .int/\∀ z∈zs,0 < z/\z<=n
 | [],_=>⟨[],rfl,fun _ h=>nomatch h⟩
 | v::vs,h=>by
  obtain⟨z,e,hz⟩:=h v MJ
  obtain⟨zs,ez,hs⟩:=ints_of n vs fun x hx=>h x (MK _ hx)
  exact⟨z::zs,by rw [e,ez]; rfl,fun x hx=>by
   rcases List.mem_cons.mp hx with rfl | hx
   ·exact hz
   ·exact hs x hx⟩
theorem Fv (c:Kd):∃ x:Str,aQ c.d (.int 0)=some (.str x)/\(x==("rows":Str))=false:=by
 cases c with
 | num lo hi=>exact⟨"number",rfl,Hq⟩
 | wrd ws=>exact⟨"word",rfl,DQ⟩
theorem B8:∀ (n g:Nat),n+1<=g->∀ (ks:KL) (qs:List (Str×D)),ks.length<=8->qs.length<=8->(∀ q∈qs,KG n q.2)->∃ d:Int,0<=d/\d<=n/\bj g [fr ks qs]=.ok (.int d):=by
 intro n
 induction n with
 | zero =>
  intro g hg ks qs k8 q8 hq
  obtain⟨g,rfl⟩:∃ g',g=g'+1:=⟨g - 1,by omega⟩
  have ko:=BU (ks.map toD) qs (by rw [MY]; exact k8) q8
  have ko:aF dM 1 1 [fr ks qs]=.ok (.tup ((ks.map toD++qs).map (·.2))):=by
   unfold fr; rw [vd]; exact ko
  obtain⟨vs,v1,v2⟩:=yt (ρ:=[none]) (g:=gN 0) (C:=fB (f2 kN (f2 aQ (ah 0) (fC (.int 0))) (fC (.str "rows")))) (Fe:=f2 ce (fC (.int 1)) (fR (bj g) (af (f2 aQ (ah 0) (fC (.int 1))) (aq)))) (fun _=>False) ((ks.map toD++qs).map (·.2)) fun d hd=>by
   obtain⟨p,hp,rfl⟩:=List.mem_map.mp hd
   obtain⟨c,ec⟩:∃ c:Kd,p.2=c.d:=by
    rcases List.mem_append.mp hp with z | z
    ·obtain⟨k,_,rfl⟩:=List.mem_map.mp z
     exact⟨k.2,rfl⟩
    ·obtain⟨c,_,e⟩:=hq p z
     exact⟨c,e⟩
   obtain⟨x,i1,i2⟩:=Fv c
   rw [ec]
   exact⟨[some (.val c.d)],false,rfl,by simp! only [i1,i2],fun z=>by cases z⟩
  have vs0:vs=[]:=List.eq_nil_iff_forall_not_mem.mpr fun v hv=>v1 v hv
  subst vs0
  refine⟨0,by decide,by decide,?_⟩
  rw [eX,kc]; unfold iQ
  have f0:nG [none] (cA (fR (aF dM 1 1) (af (ah 0) (aq)))) (gN 0) (fB (f2 kN (f2 aQ (ah 0) (fC (.int 0))) (fC (.str "rows")))) (f2 ce (fC (.int 1)) (fR (bj g) (af (f2 aQ (ah 0) (fC (.int 1))) (aq)))) [some (.val (fr ks qs))]=.ok (.lst []) :=
   iy (ds:=(ks.map toD++qs).map fun p:Str×D=>p.2) (by simp! only [ko]) (by rw [MY,Nb,MY]; omega) v2
  have gm:pZ 0 (.lst [])=some (.int 0):=rfl
  simp! only [f0,gm]
 | succ n ih =>
  intro g hg ks qs k8 q8 hq
  obtain⟨g,rfl⟩:∃ g',g=g'+1:=⟨g - 1,by omega⟩
  have ko:=BU (ks.map toD) qs (by rw [MY]; exact k8) q8
  have ko:aF dM 1 1 [fr ks qs]=.ok (.tup ((ks.map toD++qs).map (·.2))):=by
   unfold fr; rw [vd]; exact ko
  obtain⟨vs,v1,v2⟩:=yt (ρ:=[none]) (g:=gN 0) (C:=fB (f2 kN (f2 aQ (ah 0) (fC (.int 0))) (fC (.str "rows")))) (Fe:=f2 ce (fC (.int 1)) (fR (bj g) (af (f2 aQ (ah 0) (fC (.int 1))) (aq)))) (fun v=>∃ z:Int,v=.int z/\0 < z/\z<=((n+1:Nat):Int)) ((ks.map toD++qs).map (·.2)) fun d hd=>by
   obtain⟨p,hp,rfl⟩:=List.mem_map.mp hd
   have pc:(∃ c:Kd,p.2=c.d)\/∃ (ks:KL) (qs:List (Str×D)) (b:Bool),p.2=.tup [.str "rows",fr ks qs,.bl b]/\ks.length<=8/\qs.length<=8/\∀ q∈qs,KG n q.2:=by
    rcases List.mem_append.mp hp with z | z
    ·obtain⟨k,_,rfl⟩:=List.mem_map.mp z
     exact .inl ⟨k.2,rfl⟩
    ·rcases hq p z with ⟨c,_,e⟩ | ⟨ks,qs,b,e,_,k8,_,q8,hq⟩
     ·exact .inl ⟨c,e⟩
     ·exact .inr ⟨ks,qs,b,e,k8,q8,hq⟩
   rcases pc with ⟨c,ec⟩ | ⟨ks',qs',b,ec,k8',q8',hq'⟩
   ·obtain⟨x,i1,i2⟩:=Fv c
    rw [ec]
    exact⟨[some (.val c.d)],false,rfl,by simp! only [i1,i2],fun z=>by cases z⟩
   ·obtain⟨d,d0,d1,ed⟩:=ih g ‹0› ks' qs' k8' q8' hq'
    rw [ec]
    exact⟨[some (.val (.tup [.str "rows",fr ks' qs',.bl b]))],true,rfl,by simp! only [BEq.rfl],fun _=>⟨.int (1+d),by simp! only [ed],1+d,rfl,by omega,by omega⟩⟩
  obtain⟨zs,rfl,hz⟩:=ints_of _ vs v1
  obtain⟨f0,f1⟩:=zH zs 0 (by decide) ‹0› hz
  refine⟨zs.foldl mx 0,f0,f1,?_⟩
  rw [eX,kc]; unfold iQ
  have f0:nG [none] (cA (fR (aF dM 1 1) (af (ah 0) (aq)))) (gN 0) (fB (f2 kN (f2 aQ (ah 0) (fC (.int 0))) (fC (.str "rows")))) (f2 ce (fC (.int 1)) (fR (bj g) (af (f2 aQ (ah 0) (fC (.int 1))) (aq)))) [some (.val (fr ks qs))]=.ok (.lst (zs.map .int)) :=
   iy (ds:=(ks.map toD++qs).map fun p:Str×D=>p.2) (by simp! only [ko]) (by rw [MY,Nb,MY]; omega) v2
  have gm:pZ 0 (.lst (zs.map .int))=some (.int (zs.foldl mx 0)):=by
   unfold pZ
   simp only [xr]
   show some (D.int _)=_
   rw [Di _ fun v hv=>(hz v hv).1]
  simp! only [f0,gm]
abbrev nst (m:Nat) (nm:Str):D:=.obj "Nest" ["many","name"] [.int m,.str nm]
theorem AG (m:Nat) (nm:Str):jq "many" ["Nest"] (nst m nm)=some (.int m):=by rfl
theorem Ha (m:Nat) (nm:Str):jq "name" ["Nest"] (nst m nm)=some (.str nm):=by rfl
abbrev vf (ks:KL) (qs:List (Str×D)) (m:Nat) (nm:Str):D:=.tup [.tup ((ks.take m).map kf),.tup [.tup [.str nm,.tup [.str "rows",.tup [.tup ((ks.drop m).map kf),.tup (qs.map fld)],.bl true]]]]
theorem Fs (ks:KL) (qs:List (Str×D)) (m:Nat) (nm:Str) (n:Nat) (hn:n<=2) (k8:ks.length<=8) (q8:qs.length<=8) (hk:∀ p∈ks,p.2.gd) (hq:∀ q∈qs,KG n q.2):AB 17 (vf ks qs m nm):=by
 have i1:=Fd (n:=4*n) (ks.drop m) qs (by rw [Nf]; omega) q8 (fun p h=>hk p (O9 h)) fun q h=>Fj n _ (hq q h)
 have i2:=y6 true i1
 refine AB.le (n:=(5+4*n+1+2)+1) ‹0› (uI (qg (by rw [MY,M4]; omega) fun d hd=>?_) (qg (by simp) fun d hd=>?_))
 ·obtain⟨p,hp,rfl⟩:=List.mem_map.mp hd
  exact⟨p.1,p.2.d,rfl,AB.le ‹0› (zJ p.2 (hk p (O8 hp)))⟩
 ·rw [List.mem_singleton.mp hd]
  exact⟨nm,_,rfl,i2⟩
theorem zN (ks:KL) (qs:List (Str×D)) (m:Nat) (nm:Str) (n:Nat) (hn:n<=2) (m1:1<=m) (m2:m < ks.length) (k8:ks.length<=8) (q8:qs.length<=8) (hq:∀ q∈qs,KG n q.2) (hnm:nm∉(ks.take m).map (·.1)):aF aH 2 4 [nst m nm,fr ks qs]=.ok (vf ks qs m nm):=by
 obtain⟨d,d0,d1,ed⟩:=B8 n 20 ‹0› (ks.drop m) qs (by rw [Nf]; omega) q8 hq
 have ed:bj 20 [.tup [.tup ((ks.drop m).map kf),.tup (qs.map fld)]]=.ok (.int d):=ed
 have wh:aF i6 1 1 [.int m]=.ok (.bl true):=by
  have t3:gC "int" (.int m)=some (.bl true):=rfl
  have t4:gC "bool" (.int m)=some (.bl false):=rfl
  rw [kc]; unfold i6
  simp! only [t3,t4,NI]
 have c1:decide ((1:Int)<=(m:Int))=true:=decide_eq_true ‹0›
 have c2:decide ((m:Int) < (ks.length:Int))=true:=decide_eq_true ‹0›
 have ct:cutD (ks.map kf) none (some (m:Int))=(ks.take m).map kf:=by rw [jo,Pa]
 have cf:cutD (ks.map kf) (some (m:Int)) none=(ks.drop m).map kf:=by rw [iY,Pb]
 have dg:decide (d>=3)=false:=decide_eq_false ‹0›
 have lc:∀ a3,nG [none] (cA (ah 2)) (gN 0) (eS) (f2 aQ (ah 0) (fC (.int 0))) [some (.val (nst m nm)),some (.val (fr ks qs)),some (.val (.tup ((ks.take m).map kf))),a3]=.ok (.lst (((ks.take m).map (·.1)).map .str)):=fun a3=>by
  refine iy (ds:=(ks.take m).map kf) (by simp! only []) (by rw [MY,M4]; omega) ?_
  rw [Ow]
  refine nO kf _ (ks.take m) fun p hp=>⟨[some (.val (kf p))],rfl,rfl,?_⟩
  have:aQ (kf p) (.int 0)=some (.str p.1):=rfl
  simp! only [this]
  rfl
 have inn:HI (.str nm) (.lst (((ks.take m).map (·.1)).map .str))=some (.bl false):=by
  rw [DV]
  congr 2
  cases h:((ks.take m).map (·.1)).contains nm with
  | false=>rfl
  | true=>exact absurd (List.contains_iff_mem.mp h) hnm
 have fm:=AG m nm
 have fn:=Ha m nm
 rw [fh]; unfold aH
 generalize (((ks.take m).map (·.1)).map D.str)=A at lc inn
 generalize nst m nm=O at lc fm fn
 simp! only [fm,fn,wh,MY,c1,c2,ct,cf,lc,inn,Do,Ht,EY,ed,dg,NI]
theorem pU {m:Nat} {nm:Str} (w:Str) (g1 g2:List D->R D) (fo:FX) (fas:au->R (List D)) (ρ:au) (h:fo ρ=.ok (nst m nm)) (hm:(["many","name"]:List Str).contains w=false):cn w [("Step",g1),("Nest",g2)] fo fas ρ=(fas ρ).bind fun as=>g2 (nst m nm::as):=by
 unfold cn
 rw [h,dD]
 have h1:(("Nest":Str)==("Step":Str))=false:=by decide +kernel
 have:List.lookup ("Nest":Str) [(("Step":Str),g1),(("Nest":Str),g2)]=some g2:=by
  rw [Nt,h1,Nt,BEq.rfl]
 simp only [this,hm]
 rfl
theorem Kp:(["many","name"]:List Str).contains "put"=false:=by decide +kernel
theorem IC:(["many","name"]:List Str).contains "got"=false:=by decide +kernel
theorem IQ:(["many","name"]:List Str).contains "view_form"=false:=by decide +kernel
theorem LZ:(["many","name"]:List Str).contains "words"=false:=by decide +kernel
theorem Lp:(["many","name"]:List Str).contains "exact"=false:=by decide +kernel
theorem Kz:(["many","name"]:List Str).contains "steady"=false:=by decide +kernel
theorem EJ (c:Str) (a b:Str) (fas:au->R (List D)) (ρ:au):fNew c [a,b] fas ρ=(fas ρ).bind fun as=>if as.length=2 then .ok (.obj c [a,b] as) else un:=nr rfl
theorem GP:Bu (.tup []) (.tup [])=some (.bl false):=nr rfl
theorem rN (ks ks0:KL) (qs qs0:List (Str×D)) (m:Nat) (nm ex:Str) (n:Nat) (hn:n<=2) (m1:1<=m) (m2:m < ks.length) (k8:ks.length<=8) (q8:qs.length<=8) (hk:∀ p∈ks,p.2.gd) (hq:∀ q∈qs,KG n q.2) (hnm:nm∉(ks.take m).map (·.1)) (x:Int) (x0:0<=x) (x1:x < 2147483700) :
  (aG (bW 6 (bH (af (bn (f2 aQ (ah 5) (fC (.int 0))) (aU) (bU (ah 2))) (af (bH (af (bH (af (f1 (jq "name" ["Nest"]) (ah 0)) (af (bH (af (fC (.str "rows")) (af (bH (af (bn (f2 aQ (ah 5) (fC (.int 0))) (bU (ah 2)) (aU)) (af (f2 aQ (ah 5) (fC (.int 1))) (aq)))) (af (fC (.bl true)) (aq))))) (aq)))) (aq))) (aq))))) (aG (bW 7 (fR (aC 20) (af (ah 5) (af (ah 4) (af (fC (.int 5)) (aq)))))) (aG (bW 8 (fR (aF bA 2 6) (af (ah 7) (af (ah 2) (aq))))) (aG (jb (si (gf (bX (fR (aw 20) (af (cn "view_form" [("Step",(aF aN 2 2)),("Nest",(aF aH 2 4))] (ah 0) (af (ah 5) (aq))) (af (ah 6) (aq)))))) (gf (bX (fR (aw 20) (af (cn "got" [("Step",(aF bG 3 3)),("Nest",(aF bi 3 3))] (ah 0) (af (ah 5) (af (ah 7) (aq)))) (af (ah 8) (aq))))))) (bC (fC (.bl false))) (cz)) (bC (fR (aw 20) (af (cn "put" [("Step",(aF fg 4 4)),("Nest",(aF dP 4 4))] (ah 0) (af (ah 5) (af (bH (aq)) (af (ah 8) (aq))))) (af (ah 7) (aq))))))))) K0 [some (.val (nst m nm)),some (.val (fr ks0 qs0)),some (.val (.int m)),some (.val (.str ex)),some (.val (.int x)),some (.val (fr ks qs)),none,none,none]=.ok (.bl true):=by
 obtain⟨t,et,T⟩:=B7 n 17 hn (vH n 18 ‹0›) ks qs ‹0› k8 q8 hk hq x 5 x0 x1 (by decide)
 have et:aC 20 [fr ks qs,.int x,.int 5]=.ok (.tup (t.map .tup)):=et
 have sl:(ks.map (·.2.b)).length=ks.length:=by rw [MY]
 generalize ks.map (·.2.b)=σ at T sl
 have hm:m<=σ.length:=by omega
 have n1:=ug T m1 hm
 have vo:=zN ks qs m nm n hn m1 m2 k8 q8 hq hnm
 have g1:=yQ T hm (nst m nm) (fr ks qs) (AG m nm)
 have p1:=ER T hm (nst m nm) (fr ks qs) (.tup []) (AG m nm)
 have a1:=uU 17 20 _ (by decide) (Fs ks qs m nm n hn k8 q8 hk hq)
 have a2:=nJ 8 20 _ (by decide) (T.ALv m)
 have a3:=nJ 6 20 _ (by decide) T.ALt
 have ct:cutD (ks.map kf) none (some (m:Int))=(ks.take m).map kf:=by rw [jo,Pa]
 have cf:cutD (ks.map kf) (some (m:Int)) none=(ks.drop m).map kf:=by rw [iY,Pb]
 have fn:=Ha m nm
 have mv:=fun (fas:au->R (List D)) (ρ:au) (h:ah 0 ρ=.ok (nst m nm))=>pU (m:=m) (nm:=nm) "view_form" (aF aN 2 2) (aF aH 2 4) (ah 0) fas ρ h IQ
 have mp:=fun (fas:au->R (List D)) (ρ:au) (h:ah 0 ρ=.ok (nst m nm))=>pU (m:=m) (nm:=nm) "put" (aF fg 4 4) (aF dP 4 4) (ah 0) fas ρ h Kp
 have mg:=fun (fas:au->R (List D)) (ρ:au) (h:ah 0 ρ=.ok (nst m nm))=>pU (m:=m) (nm:=nm) "got" (aF bG 3 3) (aF bi 3 3) (ah 0) fas ρ h IC
 have fn':jq "name" ["Nest"] (.obj "Nest" ["many","name"] [.int m,.str nm])=some (.str nm):=fn
 generalize vw m t=V1 at n1 g1 p1 a2
 simp! only [ct,cf,fn',Ht,Do,EY,et,n1,mv,vo,a1,mg,g1,a2,mp,Ma,p1,a3]
theorem Bw (ks:KL) (qs:List (Str×D)) (m:Nat) (nm ex:Str) (n:Nat) (hn:n<=2) (m1:1<=m) (m2:m < ks.length) (k8:ks.length<=8) (q8:qs.length<=8) (hk:∀ p∈ks,p.2.gd) (hq:∀ q∈qs,KG n q.2) (hnm:nm∉(ks.take m).map (·.1)) (x:Int) (x0:0<=x) (x1:x < 2147483700) :
  aF dN 5 9 [nst m nm,fr ks qs,.int m,.str ex,.int x]=.ok (.bl true):=by
 obtain⟨RR,hR⟩:∃ F:cB,F=(aG (bW 6 (bH (af (bn (f2 aQ (ah 5) (fC (.int 0))) (aU) (bU (ah 2))) (af (bH (af (bH (af (f1 (jq "name" ["Nest"]) (ah 0)) (af (bH (af (fC (.str "rows")) (af (bH (af (bn (f2 aQ (ah 5) (fC (.int 0))) (bU (ah 2)) (aU)) (af (f2 aQ (ah 5) (fC (.int 1))) (aq)))) (af (fC (.bl true)) (aq))))) (aq)))) (aq))) (aq))))) (aG (bW 7 (fR (aC 20) (af (ah 5) (af (ah 4) (af (fC (.int 5)) (aq)))))) (aG (bW 8 (fR (aF bA 2 6) (af (ah 7) (af (ah 2) (aq))))) (aG (jb (si (gf (bX (fR (aw 20) (af (cn "view_form" [("Step",(aF aN 2 2)),("Nest",(aF aH 2 4))] (ah 0) (af (ah 5) (aq))) (af (ah 6) (aq)))))) (gf (bX (fR (aw 20) (af (cn "got" [("Step",(aF bG 3 3)),("Nest",(aF bi 3 3))] (ah 0) (af (ah 5) (af (ah 7) (aq)))) (af (ah 8) (aq))))))) (bC (fC (.bl false))) (cz)) (bC (fR (aw 20) (af (cn "put" [("Step",(aF fg 4 4)),("Nest",(aF dP 4 4))] (ah 0) (af (ah 5) (af (bH (aq)) (af (ah 8) (aq))))) (af (ah 7) (aq))))))))):=⟨_,rfl⟩
 have ad:ce (.tup (ks.map kf)) (.tup [.tup [.str ex,.tup [.str "number",.int 0,.int 9]]])=some (.tup ((ks++[(ex,Kd.num 0 9)]).map kf)):=by
  rw [iX _ _ (by rw [MY,Ni]; omega),NQ]; rfl
 have c1:cutD (qs.map fld) none (some 1)=(qs.take 1).map fld:=by
  rw [show (1:Int)=((1:Nat):Int) from rfl,jo,Pa]
 have c2:cutD (qs.map fld) (some 1) none=(qs.drop 1).map fld:=by
  rw [show (1:Int)=((1:Nat):Int) from rfl,iY,Pb]
 have c3:cutD (ks.map kf) none (some ((m:Int)+1))=(ks.take (m+1)).map kf:=by
  rw [show (m:Int)+1=((m+1:Nat):Int) by omega,jo,Pa]
 rw [C3]; unfold dN
 rw [<- hR]
 cases h8:((ks.length:Int)==8) with
 | true =>
  have h8':ks.length=8:=by have:=eq_of_beq h8; omega
  have ar:=rN (ks.take (m+1)) ks (qs.drop 1) qs m nm ex n hn m1 (by rw [M4]; omega) (by rw [M4]; omega) (by rw [Nf]; omega) (fun p h=>hk p (O8 h)) (fun q h=>hq q (O9 h)) (by rw [OT,OG ‹0›]; exact hnm) x x0 x1
  rw [<- hR] at ar
  simp! only [Ht,Do,EY,ad,c1,MY,h8,c2,c3]
  exact ar
 | false =>
  have h8':ks.length≠8:=fun z=>by
   rw [z] at h8; cases h8
  have ar:=rN (ks++[(ex,Kd.num 0 9)]) ks (qs.take 1) qs m nm ex n hn m1 (by rw [Nb]; omega) (by rw [Nb,Ni]; omega) (by rw [M4]; omega) (fun p h=>by
   rcases List.mem_append.mp h with z | z
   ·exact hk p z
   ·rw [List.mem_singleton.mp z]; show (0:Int)<=9; decide) (fun q h=>hq q (O8 h)) (by rw [List.take_append_of_le_length ‹0›]; exact hnm) x x0 x1
  rw [<- hR] at ar
  simp! only [Ht,Do,EY,ad,c1,MY,h8]
  exact ar
theorem v8 (ks:KL) (qs:List (Str×D)) (m:Nat) (nm:Str) (n:Nat) (hn:n<=2) (m1:1<=m) (m2:m < ks.length) (k8:ks.length<=8) (q8:qs.length<=8) (hk:∀ p∈ks,p.2.gd) (hq:∀ q∈qs,KG n q.2) (hnm:nm∉(ks.take m).map (·.1)) (x:Int) (x0:0<=x) (x1:x < 2147483700) {t:List (List D)} (T:Tab (ks.map (·.2.b)) t) (ns:List Int) (c1:Int) (e1:aF bz 2 2 [.lst (ns.map .int),.int 1]=.ok (.int c1)) (a6:Option S) :
  (aG (bW 7 (fNew "Nest" ["many","name"] (af (ah 3) (af (ah 5) (aq))))) (aG (bW 8 (bH (af (bn (f2 aQ (ah 1) (fC (.int 0))) (aU) (bU (ah 3))) (af (bH (af (bH (af (ah 5) (af (bH (af (fC (.str "rows")) (af (bH (af (bn (f2 aQ (ah 1) (fC (.int 0))) (bU (ah 3)) (aU)) (af (f2 aQ (ah 1) (fC (.int 1))) (aq)))) (af (fC (.bl true)) (aq))))) (aq)))) (aq))) (aq))))) (aG (jb (si (gf (bX (fR (aw 20) (af (cn "view_form" [("Step",(aF aN 2 2)),("Nest",(aF aH 2 4))] (ah 7) (af (ah 1) (aq))) (af (ah 8) (aq)))))) (gf (bX (fR (aw 20) (af (cn "words" [("Step",(aF dR 1 1)),("Nest",(aF cZ 1 1))] (ah 7) aq) (af (bH (af (fC (.str "nest")) (af (fL yi (af (ah 3) (aq))) (af (ah 5) (aq))))) (aq))))))) (bC (fC (.bl false))) (cz)) (aG (jb (si (fB (f2 iz (cn "exact" [("Step",(aF bP 2 2)),("Nest",(aF bP 2 2))] (ah 7) (af (ah 1) (aq))) (fC (.bl true)))) (fB (f2 iz (cn "steady" [("Step",(aF bB 2 2)),("Nest",(aF bB 2 2))] (ah 7) (af (ah 1) (aq))) (fC (.bl true))))) (bC (fC (.bl false))) (cz)) (aG (jb (si (gf (bX (fR (aw 20) (af (cn "got" [("Step",(aF bG 3 3)),("Nest",(aF bi 3 3))] (ah 7) (af (ah 1) (af (ah 4) (aq)))) (af (fR (aF bA 2 6) (af (ah 4) (af (ah 3) (aq)))) (aq)))))) (fB (f2 Bu (cn "got" [("Step",(aF bG 3 3)),("Nest",(aF bi 3 3))] (ah 7) (af (ah 1) (af (bH (aq)) (aq)))) (bH (aq))))) (bC (fC (.bl false))) (cz)) (aG (bW 9 (fR (aF bD 2 7) (af (f2 cP (f2 jD (fR (aF bz 2 2) (af (ah 0) (af (fC (.int 1)) (aq)))) (fC (.int 48271))) (fC (.int 2147483647))) (af (fC (.int 23)) (aq))))) (aG (jb (si (gf (bX (fR (aF dN 5 9) (af (ah 7) (af (ah 1) (af (ah 3) (af (ah 9) (af (ah 2) (aq))))))))) (gf (bX (fR (aw 20) (af (cn "view_form" [("Step",(aF aN 2 2)),("Nest",(aF aH 2 4))] (ah 7) (af (ah 1) (aq))) (af (ah 8) (aq))))))) (bC (fC (.bl false))) (cz)) (bC (fR (aw 20) (af (cn "got" [("Step",(aF bG 3 3)),("Nest",(aF bi 3 3))] (ah 7) (af (ah 1) (af (ah 4) (aq)))) (af (fR (aF bA 2 6) (af (ah 4) (af (ah 3) (aq)))) (aq)))))))))))) K0 [some (.val (.lst (ns.map .int))),some (.val (fr ks qs)),some (.val (.int x)),some (.val (.int m)),some (.val (.tup (t.map .tup))),some (.val (.str nm)),a6,none,none,none]=.ok (.bl true):=by
 have sl:(ks.map (·.2.b)).length=ks.length:=by rw [MY]
 generalize ks.map (·.2.b)=σ at T sl
 have hm:m<=σ.length:=by omega
 have T0:Tab σ []:=⟨(fun _ h=>nomatch h),List.Pairwise.nil,by decide,(fun _ h=>nomatch h),(fun _ h=>nomatch h)⟩
 have mm:=fun i=>je (i:=i) (j:=48271) (by decide) (by decide)
 have gM:=fun i=>bK (i:=i) (show (0:Int) < 2147483647 by decide)
 obtain⟨ex,ee⟩:=Eo (c1*48271%2147483647) 23 (OO _ (by decide)) (by decide)
 have n1:=ug T m1 hm
 have vo:=zN ks qs m nm n hn m1 m2 k8 q8 hq hnm
 have g1:=yQ T hm (nst m nm) (fr ks qs) (AG m nm)
 have g0:=yQ T0 hm (nst m nm) (fr ks qs) (AG m nm)
 have g0:aF bi 3 3 [nst m nm,fr ks qs,.tup []]=.ok (.tup []):=g0
 have ag:=Bw ks qs m nm ex n hn m1 m2 k8 q8 hk hq hnm x x0 x1
 have a1:=uU 17 20 _ (by decide) (Fs ks qs m nm n hn k8 q8 hk hq)
 have a2:=nJ 8 20 _ (by decide) (T.ALv m)
 obtain⟨w,ew⟩:=str_int (m:Int) ‹0›
 have wo:aF cZ 1 1 [nst m nm]=.ok (.tup [.str "nest",.str w,.str nm]):=by
  have t3:gC "str" (.int m)=some (.bl false):=rfl
  have wr:aF jt 1 1 [.int m]=.ok (.str w):=by
   rw [kc]; unfold jt
   simp! only [t3,ew]
  have fm:=AG m nm
  have fn:=Ha m nm
  rw [kc]; unfold cZ
  generalize nst m nm=O at fm fn
  simp! only [fm,fn,wr,EY]
 have a4:aw 20 [.tup [.str "nest",.str w,.str nm],.tup [.str "nest",.str w,.str nm]]=.ok (.bl true):=uU 1 20 _ (by decide) (AB.tup (by simp) fun x hx=>by
  rcases List.mem_cons.mp hx with rfl | hx
  ·exact AB.str _
  ·rcases List.mem_cons.mp hx with rfl | hx
   ·exact AB.str _
   ·rw [List.mem_singleton.mp hx]; exact AB.str _)
 have se:aF bP 2 2 [nst m nm,fr ks qs]=.ok (.bl true):=by rfl
 have ss:aF bB 2 2 [nst m nm,fr ks qs]=.ok (.bl true):=by rfl
 have it:iz (.bl true) (.bl true)=some (.bl false):=rfl
 have ct:cutD (ks.map kf) none (some (m:Int))=(ks.take m).map kf:=by rw [jo,Pa]
 have cf:cutD (ks.map kf) (some (m:Int)) none=(ks.drop m).map kf:=by rw [iY,Pb]
 have mv:=fun (fas:au->R (List D)) (ρ:au) (h:ah 7 ρ=.ok (nst m nm))=>pU (m:=m) (nm:=nm) "view_form" (aF aN 2 2) (aF aH 2 4) (ah 7) fas ρ h IQ
 have mw:=fun (fas:au->R (List D)) (ρ:au) (h:ah 7 ρ=.ok (nst m nm))=>pU (m:=m) (nm:=nm) "words" (aF dR 1 1) (aF cZ 1 1) (ah 7) fas ρ h LZ
 have mg:=fun (fas:au->R (List D)) (ρ:au) (h:ah 7 ρ=.ok (nst m nm))=>pU (m:=m) (nm:=nm) "got" (aF bG 3 3) (aF bi 3 3) (ah 7) fas ρ h IC
 have me:=fun (fas:au->R (List D)) (ρ:au) (h:ah 7 ρ=.ok (nst m nm))=>pU (m:=m) (nm:=nm) "exact" (aF bP 2 2) (aF bP 2 2) (ah 7) fas ρ h Lp
 have ms:=fun (fas:au->R (List D)) (ρ:au) (h:ah 7 ρ=.ok (nst m nm))=>pU (m:=m) (nm:=nm) "steady" (aF bB 2 2) (aF bB 2 2) (ah 7) fas ρ h Kz
 generalize vw m t=V1 at n1 g1 a2
 simp! only [EJ,ct,cf,Ht,Do,EY,mv,vo,a1,mw,wo,ew,a4,me,ms,se,ss,it,mg,g1,n1,a2,Ma,g0,GP,e1,mm,gM,ee,ag]
theorem math (ns:List Int) (hl:ns.length<=63):aF rG 1 10 [.lst (ns.map .int)]=.ok (.bl true):=by
 obtain⟨c1,e1⟩:=TD.JD ns 1 (by decide)
 obtain⟨ks,qs,n,hn,k2,k8,q8,hk,hq,fn,ed⟩:=CC ns c1 e1
 obtain⟨x,x0,x1,ex⟩:=vp ns 2 (by decide)
 have ex:aF cN 2 3 [.lst (ns.map .int),.int 2]=.ok (.int x):=ex
 obtain⟨y,y0,y1,ey⟩:=gR x x0 ‹0›
 have gk:=fun i=>bK (i:=i) (show (0:Int) < (ks.length:Int) - 1 by omega)
 have m0:=OO y (show (ks.length:Int) - 1≠0 by omega)
 have m1:=OQ y (show (0:Int) < (ks.length:Int) - 1 by omega)
 obtain⟨m,hm,em⟩:∃ m:Nat,(1<=m/\m < ks.length)/\(1:Int)+y%((ks.length:Int) - 1)=m:=⟨(1+y%((ks.length:Int) - 1)).toNat,by omega,by omega⟩
 obtain⟨t,T,et⟩:=C4 ks qs n hn ‹0› k8 q8 hk hq m ns hl
 have g3:=fun i=>bK (i:=i) (show (0:Int) < 3 by decide)
 have g6:=fun i=>bK (i:=i) (show (0:Int) < 6 by decide)
 have gM:=fun i=>bK (i:=i) (show (0:Int) < 2147483647 by decide)
 have mm:=fun i=>je (i:=i) (j:=48271) (by decide) (by decide)
 have d8:=fun i=>cc (i:=i) (show (0:Int) < 8 by decide) (show (8:Int) < 10 ^ 200 by decide)
 have d64:=fun i=>cc (i:=i) (show (0:Int) < 64 by decide) (show (64:Int) < 10 ^ 200 by decide)
 have d256:=fun i=>cc (i:=i) (show (0:Int) < 256 by decide) (show (256:Int) < 10 ^ 200 by decide)
 obtain⟨nm0,en,nP⟩:=zQ (c1*48271%2147483647) (17+y / 8%6) (OO _ (by decide)) ‹0›
 have free:∀ (nm:Str) (k:Int),zA (c1*48271%2147483647) k nm->(m:Int)<=k->k < 24->nm∉(ks.take m).map (·.1):=fun nm k h k0 k1 z=>by
  obtain⟨i,hi,ei⟩:=NM z
  rw [MY,M4] at hi
  have a:=fn i nm (by
   rw [M7 (by rw [MY]; omega),NE (by rw [MY]; omega),<- ei,O3,O3,List.getElem_take])
  have:=Ee ‹0› ‹0› ‹0› ‹0› a h
  omega
 obtain⟨RR,hR⟩:∃ F:cB,F=(aG (bW 7 (fNew "Nest" ["many","name"] (af (ah 3) (af (ah 5) (aq))))) (aG (bW 8 (bH (af (bn (f2 aQ (ah 1) (fC (.int 0))) (aU) (bU (ah 3))) (af (bH (af (bH (af (ah 5) (af (bH (af (fC (.str "rows")) (af (bH (af (bn (f2 aQ (ah 1) (fC (.int 0))) (bU (ah 3)) (aU)) (af (f2 aQ (ah 1) (fC (.int 1))) (aq)))) (af (fC (.bl true)) (aq))))) (aq)))) (aq))) (aq))))) (aG (jb (si (gf (bX (fR (aw 20) (af (cn "view_form" [("Step",(aF aN 2 2)),("Nest",(aF aH 2 4))] (ah 7) (af (ah 1) (aq))) (af (ah 8) (aq)))))) (gf (bX (fR (aw 20) (af (cn "words" [("Step",(aF dR 1 1)),("Nest",(aF cZ 1 1))] (ah 7) aq) (af (bH (af (fC (.str "nest")) (af (fL yi (af (ah 3) (aq))) (af (ah 5) (aq))))) (aq))))))) (bC (fC (.bl false))) (cz)) (aG (jb (si (fB (f2 iz (cn "exact" [("Step",(aF bP 2 2)),("Nest",(aF bP 2 2))] (ah 7) (af (ah 1) (aq))) (fC (.bl true)))) (fB (f2 iz (cn "steady" [("Step",(aF bB 2 2)),("Nest",(aF bB 2 2))] (ah 7) (af (ah 1) (aq))) (fC (.bl true))))) (bC (fC (.bl false))) (cz)) (aG (jb (si (gf (bX (fR (aw 20) (af (cn "got" [("Step",(aF bG 3 3)),("Nest",(aF bi 3 3))] (ah 7) (af (ah 1) (af (ah 4) (aq)))) (af (fR (aF bA 2 6) (af (ah 4) (af (ah 3) (aq)))) (aq)))))) (fB (f2 Bu (cn "got" [("Step",(aF bG 3 3)),("Nest",(aF bi 3 3))] (ah 7) (af (ah 1) (af (bH (aq)) (aq)))) (bH (aq))))) (bC (fC (.bl false))) (cz)) (aG (bW 9 (fR (aF bD 2 7) (af (f2 cP (f2 jD (fR (aF bz 2 2) (af (ah 0) (af (fC (.int 1)) (aq)))) (fC (.int 48271))) (fC (.int 2147483647))) (af (fC (.int 23)) (aq))))) (aG (jb (si (gf (bX (fR (aF dN 5 9) (af (ah 7) (af (ah 1) (af (ah 3) (af (ah 9) (af (ah 2) (aq))))))))) (gf (bX (fR (aw 20) (af (cn "view_form" [("Step",(aF aN 2 2)),("Nest",(aF aH 2 4))] (ah 7) (af (ah 1) (aq))) (af (ah 8) (aq))))))) (bC (fC (.bl false))) (cz)) (bC (fR (aw 20) (af (cn "got" [("Step",(aF bG 3 3)),("Nest",(aF bi 3 3))] (ah 7) (af (ah 1) (af (ah 4) (aq)))) (af (fR (aF bA 2 6) (af (ah 4) (af (ah 3) (aq)))) (aq)))))))))))):=⟨_,rfl⟩
 rw [kc]; unfold rG
 rw [<- hR]
 cases hb:(y / 64%3==1) with
 | false =>
  have lr:=v8 ks qs m nm0 n hn hm.1 hm.2 k8 q8 hk hq (free nm0 _ nP ‹0› ‹0›) y y0 ‹0› T ns c1 e1 none
  rw [<- hR] at lr
  simp! only [ed,ex,ey,MY,gk,em,et,e1,mm,gM,d8,g6,en,d64,g3,hb]
  exact lr
 | true =>
  have cf:cutD (ks.map kf) (some (m:Int)) none=(ks.drop m).map kf:=by rw [iY,Pb]
  have ad:=iX ((ks.drop m).map kf) (qs.map fld) (by rw [MY,MY,Nf]; omega)
  have fe:(ks.drop m).map kf++qs.map fld=((ks.drop m).map toD++qs).map fld:=by rw [NQ,vd]
  rw [fe] at ad
  obtain⟨F,hF⟩:∃ F,F=(ks.drop m).map toD++qs:=⟨_,rfl⟩
  rw [<- hF] at ad
  have Fl:F.length=ks.length - m+qs.length:=by rw [hF,Nb,MY,Nf]
  have q0:=OO (y / 256) (show (F.length:Int)≠0 by omega)
  have q1:=OQ (y / 256) (show (0:Int) < (F.length:Int) by omega)
  obtain⟨j,ej⟩:∃ j:Nat,y / 256%(F.length:Int)=j:=⟨(y / 256%(F.length:Int)).toNat,by omega⟩
  have hj:j < F.length:=by omega
  have gF:=fun i=>bK (i:=i) (show (0:Int) < (F.length:Int) by omega)
  have ix:aQ (.tup (F.map fld)) (.int j)=some (fld F[j]):=by
   rw [G6,uW,nQ hj]; rfl
  have nj:zA (c1*48271%2147483647) (0+((m+j:Nat):Int)) F[j].1:=fn (m+j) _ (by
   have e:ks.map (·.1)++qs.map (·.1)=(ks.map toD++qs).map (·.1):=by rw [NQ,Ow]; rfl
   have e2:F=(ks.map toD++qs).drop m:=by
    rw [List.drop_append_of_le_length (by rw [MY]; omega),<- Pb,hF]
   rw [e,M8]
   have:(ks.map toD++qs)[m+j]?=some F[j]:=by
    rw [<- NS,<- e2,NE hj]
   rw [this]; rfl)
  have i0:aQ (fld F[j]) (.int 0)=some (.str F[j].1):=rfl
  have lr:=v8 ks qs m F[j].1 n hn hm.1 hm.2 k8 q8 hk hq (free F[j].1 _ nj ‹0› ‹0›) y y0 ‹0› T ns c1 e1 (some (.val (.tup (F.map fld))))
  rw [<- hR] at lr
  generalize F[j]=fj at ix i0 lr
  generalize fld fj=fd at ix i0
  simp! only [ed,ex,ey,MY,gk,em,et,e1,mm,gM,d8,g6,en,d64,g3,hb,cf,ad,d256,gF,ej,ix,i0]
  exact lr
end Tk40
open PySem PySem.W PyProof.Rows
theorem PySem.W.Fast.tw14081306218957343263 : True := trivial
theorem PySem.W.Fast.tw17946372875452054377 : True := trivial
theorem PySem.W.Fast.tw14095443598416514431 : True := trivial
theorem PySem.W.Fast.tw13963636270884556890 : True := trivial
theorem PySem.W.Fast.tw11266339520396784336 : True := trivial
theorem PySem.W.Fast.tw16048610857470761961 : True := trivial
theorem PySem.W.Fast.tw12185738519477306158 : True := trivial
theorem PySem.W.Fast.tw10207130331165175892 : True := trivial
theorem PySem.W.Fast.tw485269750607008482 : True := trivial
theorem PySem.W.Fast.tw15059825484599504729 : True := trivial
theorem PySem.W.Fast.tw5112599504522550850 : True := trivial
theorem PySem.W.Fast.tw10302553907766292915 : True := trivial
theorem PySem.W.Fast.tw12860608094255524511 : True := trivial
theorem PySem.W.Fast.tw8357298774441714239 : True := trivial
theorem PySem.W.Fast.tw8903129098833545706 : True := trivial
theorem PySem.W.Fast.tw706785391119341785 : True := trivial
theorem PySem.W.Fast.tw2250382189994571969 : True := trivial
theorem PySem.W.Fast.tw7652751040284685205 : True := trivial
theorem PySem.W.Fast.tw16391263940725819481 : True := trivial
theorem PySem.W.Fast.tw5852694569787877658 : True := trivial
theorem PySem.W.Fast.tw15864247043550816880 : True := trivial
theorem PySem.W.Fast.tw14290480202601388587 : True := trivial
theorem PySem.W.Fast.tw6863308230043590445 : True := trivial
theorem PySem.W.Fast.tw13095885640633766343 : True := trivial
theorem PySem.W.Fast.tw14563418373683892478 : True := trivial
theorem PySem.W.Fast.tw10685545164676250021 : True := trivial
theorem PySem.W.Fast.tw16455649822111972244 : True := trivial
theorem PySem.W.Fast.tw12546621771542434467 : True := trivial
theorem PySem.W.Fast.tw2805651261882606302 : True := trivial
theorem PySem.W.Fast.tw9036117431805436561 : True := trivial
theorem PySem.W.Fast.tw9810525670866480975 : True := trivial
theorem PySem.W.Fast.tw13900399309333656569 : True := trivial
theorem PySem.W.Fast.tw2332195779079105228 : True := trivial
theorem PySem.W.Fast.tw15877163457332334137 : True := trivial
theorem PySem.W.Fast.tw16842197402493273921 : True := trivial
theorem PySem.W.Fast.tw9428432100124836229 : True := trivial
theorem PySem.W.Fast.tw1663443300651289218 : True := trivial
theorem PySem.W.Fast.tw628045179720659342 : True := trivial
theorem PySem.W.Fast.tw3831454756633670406 : True := trivial
theorem PySem.W.Fast.tw16017882012010492989 : True := trivial
theorem PySem.W.Fast.tw5870038499644256537 : True := trivial
theorem PySem.W.Fast.tw717847639553361574 : True := trivial
theorem PySem.W.Fast.tw14406143102719556802 : True := trivial
theorem PySem.W.Fast.tw18161831293312770455 : True := trivial
theorem PySem.W.Fast.tw9697598660134948526 : True := trivial
theorem PySem.W.Fast.tw16253114362129724998 : True := trivial
theorem PySem.W.Fast.tw3584163004248456986 : True := trivial
theorem PySem.W.Fast.tw5408837538025335465 : True := trivial
theorem PySem.W.Fast.tw10268608183651949709 : True := trivial
theorem PySem.W.Fast.tw9354090924471590941 : True := trivial
theorem PySem.W.Fast.tw9369988517983878588 : True := trivial
theorem PySem.W.Fast.tw10007839693471869450 : True := trivial
theorem PySem.W.Fast.tw1982484039033032056 : True := trivial
theorem PySem.W.Fast.tw9249155168452326721 : True := trivial
theorem PySem.W.Fast.tw4305914383758512154 : True := trivial
theorem PySem.W.Fast.tw6949847295885601448 : True := trivial
theorem PySem.W.Fast.tw10181260984960542331 : True := trivial
theorem PySem.W.Fast.tw10047171903799162197 : True := trivial
theorem PySem.W.Fast.tw2157829597824173686 : True := trivial
theorem PySem.W.Fast.tw4143459266108898554 : True := trivial
theorem PySem.W.Fast.tw471253619620234902 : True := trivial
theorem PySem.W.Fast.tw1558673291945285814 : True := trivial
theorem PySem.W.Fast.tw6996999114987572068 : True := trivial
theorem PySem.W.Fast.tw8635753282782800049 : True := trivial
theorem PySem.W.Fast.tw10491636479307425205 : True := trivial
theorem PySem.W.Fast.tw295440067523685306 : True := trivial
theorem PySem.W.Fast.tw910803566644164655 : True := trivial
theorem PySem.W.Fast.tw12155121702697514800 : True := trivial
theorem PySem.W.Fast.tw12742616603836577678 : True := trivial
theorem PySem.W.Fast.tw14177589628820594798 : True := trivial
theorem PySem.W.Fast.tw5520478064722331786 : True := trivial
theorem PySem.W.Fast.tw9657235875596488064 : True := trivial
theorem PySem.W.Fast.tw16789389929010470069 : True := trivial
theorem PySem.W.Fast.tw9013075111995463678 : True := trivial
theorem PySem.W.Fast.tw4476581112664400115 : True := trivial
theorem PySem.W.Fast.tw13404138841667663539 : True := trivial
theorem PySem.W.Fast.tw7255983229141945917 : True := trivial
set_option maxRecDepth 100000 in
set_option maxHeartbeats 0 in
theorem PySem.Challenge.cw_twoglass_k40_nested_holds : PySem.Challenge.rw_twoglass_k40_nested.Holds := by
  w_on; o_law; k_head; (case hw => w_witness2)
  k_fill
  refine Tk40.walk (l := PySem.Challenge.rw_twoglass_k40_nested) rfl rfl (fun w h Y => PySem.W.kIn_of Y) ?F Tk40.math
  case F =>
    intro w mg fa h KX G hmg
    refine' Tk40.all_mk KX G hmg ?ac0 ?ac1 ?a0 ?l0 ?c0 ?k0 ?a1 ?l1 ?c1 ?k1 ?a2 ?i2 ?l2 ?c2 ?k2 ?a3 ?l3 ?c3 ?k3 ?a4 ?i4 ?l4 ?c4 ?k4 ?a5 ?i5 ?l5 ?c5 ?k5 ?a6 ?l6 ?c6 ?k6 ?a7 ?l7 ?c7 ?k7 ?a8 ?l8 ?c8 ?k8 ?a9 ?i9 ?l9 ?c9 ?k9 ?a10 ?i10 ?l10 ?c10 ?k10 ?a11 ?l11 ?c11 ?k11 ?a12 ?i12 ?l12 ?c12 ?k12 ?a13 ?l13 ?c13 ?k13 ?a14 ?l14 ?c14 ?k14 ?a15 ?l15 ?c15 ?k15 ?a16 ?l16 ?c16 ?k16 ?a17 ?l17 ?c17 ?k17 ?a18 ?l18 ?c18 ?k18 ?a19 ?l19 ?c19 ?k19 ?a20 ?l20 ?c20 ?k20 ?a21 ?a21_1 ?i21 ?l21 ?c21 ?k21 ?a22 ?a22_1 ?i22 ?l22 ?c22 ?k22 ?a23 ?i23 ?l23 ?c23 ?k23 ?a24 ?l24 ?c24 ?k24 ?a25 ?i25 ?l25 ?c25 ?k25 ?a26 ?l26 ?c26 ?k26 ?a27 ?l27 ?c27 ?k27 ?a28 ?l28 ?c28 ?k28 ?a29 ?l29 ?c29 ?k29 ?a30 ?l30 ?c30 ?k30 ?a31 ?l31 ?c31 ?k31 ?a32 ?l32 ?c32 ?k32 ?a33 ?i33 ?l33 ?c33 ?k33 ?p0 ?q0 ?r0 ?s0 ?n0_0 ?n0_1 ?m0 ?kp0 ?p1 ?q1 ?r1 ?s1 ?z0 ?z1 ?z2 ?z3 ?z4 ?z5 ?z6 ?z7 ?z8 ?z9 ?z10 ?z11 ?z12 ?e0
    (case ac0 => k_is)
    (case ac1 => k_is)
    (case a0 => k_is)
    (case l0 => delta TX.Lk; k_is)
    (case c0 => k_is)
    (case k0 => k_is)
    (case a1 => k_is)
    (case l1 => delta TX.Lk; k_is)
    (case c1 => k_is)
    (case k1 => k_is)
    (case a2 => k_is)
    (case i2 => k_is)
    (case l2 => delta TX.Lk; k_is)
    (case c2 => k_is)
    (case k2 => k_is)
    (case a3 => k_is)
    (case l3 => delta TX.Lk; k_is)
    (case c3 => k_is)
    (case k3 => k_is)
    (case a4 => k_is)
    (case i4 => k_is)
    (case l4 => delta TX.Lk; k_is)
    (case c4 => k_is)
    (case k4 => k_is)
    (case a5 => k_is)
    (case i5 => k_is)
    (case l5 => delta TX.Lk; k_is)
    (case c5 => k_is)
    (case k5 => k_is)
    (case a6 => k_is)
    (case l6 => delta TX.Lk; k_is)
    (case c6 => k_is)
    (case k6 => k_is)
    (case a7 => k_is)
    (case l7 => delta TX.Lk; k_is)
    (case c7 => k_is)
    (case k7 => k_is)
    (case a8 => k_is)
    (case l8 => delta TX.Lk; k_is)
    (case c8 => k_is)
    (case k8 => k_is)
    (case a9 => k_is)
    (case i9 => k_is)
    (case l9 => delta TX.Lk; k_is)
    (case c9 => k_is)
    (case k9 => k_is)
    (case a10 => k_is)
    (case i10 => k_is)
    (case l10 => delta TX.Lk; k_is)
    (case c10 => k_is)
    (case k10 => k_is)
    (case a11 => k_is)
    (case l11 => delta TX.Lk; k_is)
    (case c11 => k_is)
    (case k11 => k_is)
    (case a12 => k_is)
    (case i12 => k_is)
    (case l12 => delta TX.Lk; k_is)
    (case c12 => k_is)
    (case k12 => k_is)
    (case a13 => k_is)
    (case l13 => delta TX.Lk; k_is)
    (case c13 => k_is)
    (case k13 => k_is)
    (case a14 => k_is)
    (case l14 => delta TX.Lk; k_is)
    (case c14 => k_is)
    (case k14 => k_is)
    (case a15 => k_is)
    (case l15 => delta TX.Lk; k_is)
    (case c15 => k_is)
    (case k15 => k_is)
    (case a16 => k_is)
    (case l16 => delta TX.Lk; k_is)
    (case c16 => k_is)
    (case k16 => k_is)
    (case a17 => k_is)
    (case l17 => delta TX.Lk; k_is)
    (case c17 => k_is)
    (case k17 => k_is)
    (case a18 => k_is)
    (case l18 => delta TX.Lk; k_is)
    (case c18 => k_is)
    (case k18 => k_is)
    (case a19 => k_is)
    (case l19 => delta TX.Lk; k_is)
    (case c19 => k_is)
    (case k19 => k_is)
    (case a20 => k_is)
    (case l20 => delta TX.Lk; k_is)
    (case c20 => k_is)
    (case k20 => k_is)
    (case a21 => k_is)
    (case a21_1 => k_is)
    (case i21 => k_is)
    (case l21 => delta TX.Lk; k_is)
    (case c21 => k_is)
    (case k21 => k_is)
    (case a22 => k_is)
    (case a22_1 => k_is)
    (case i22 => k_is)
    (case l22 => delta TX.Lk; k_is)
    (case c22 => k_is)
    (case k22 => k_is)
    (case a23 => k_is)
    (case i23 => k_is)
    (case l23 => delta TX.Lk; k_is)
    (case c23 => k_is)
    (case k23 => k_is)
    (case a24 => k_is)
    (case l24 => delta TX.Lk; k_is)
    (case c24 => k_is)
    (case k24 => k_is)
    (case a25 => k_is)
    (case i25 => k_is)
    (case l25 => delta TX.Lk; k_is)
    (case c25 => k_is)
    (case k25 => k_is)
    (case a26 => k_is)
    (case l26 => delta TX.Lk; k_is)
    (case c26 => k_is)
    (case k26 => k_is)
    (case a27 => k_is)
    (case l27 => delta TX.Lk; k_is)
    (case c27 => k_is)
    (case k27 => k_is)
    (case a28 => k_is)
    (case l28 => delta TX.Lk; k_is)
    (case c28 => k_is)
    (case k28 => k_is)
    (case a29 => k_is)
    (case l29 => delta TX.Lk; k_is)
    (case c29 => k_is)
    (case k29 => k_is)
    (case a30 => k_is)
    (case l30 => delta TX.Lk; k_is)
    (case c30 => k_is)
    (case k30 => k_is)
    (case a31 => k_is)
    (case l31 => delta TX.Lk; k_is)
    (case c31 => k_is)
    (case k31 => k_is)
    (case a32 => k_is)
    (case l32 => delta TX.Lk; k_is)
    (case c32 => k_is)
    (case k32 => k_is)
    (case a33 => k_is)
    (case i33 => k_is)
    (case l33 => delta TX.Lk; k_is)
    (case c33 => k_is)
    (case k33 => k_is)
    (case p0 => k_is)
    (case q0 => k_is)
    (case r0 => k_is)
    (case s0 => k_is)
    (case n0_0 => k_is)
    (case n0_1 => k_is)
    (case m0 => k_is)
    (case kp0 => k_is)
    (case p1 => k_is)
    (case q1 => k_is)
    (case r1 => k_is)
    (case s1 => k_is)
    (case z0 => k_is)
    (case z1 => k_is)
    (case z2 => k_is)
    (case z3 => k_is)
    (case z4 => k_is)
    (case z5 => k_is)
    (case z6 => k_is)
    (case z7 => k_is)
    (case z8 => k_is)
    (case z9 => k_is)
    (case z10 => k_is)
    (case z11 => k_is)
    (case z12 => k_is)
    (case e0 => k_is)

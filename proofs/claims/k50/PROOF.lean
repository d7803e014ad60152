import PyProof.Rows.All
import Wide.All
import OpenK.AllK
import Wide.FinOn
import Lean
import PyProof.EqAt
import PyProof.EqKinds
import PyProof.TupleCall
import PyProof.NeKinds
import PyProof.ZipIter
import PyProof.Draws
import PyProof.FactsAll.zip
import KE.KSortTup
import KE.KDictSum
import PyProof.TupleOfSeq
import PyProof.StrWalks
import PyProof.Rows.SetFrom
import KE.KRevIter
import PyProof.Rows.Range3
import KE.KTryMore
import KE.KIsNot
import PyProof.ExcArgsOwn
import PyProof.ExcAttrAll.ValueError
import PyProof.ExcBaseAll.ValueError
import PyProof.NsDelKeeps
import PyProof.Rows.CallKwBuiltin
import PyProof.WalkInts
import PyProof.Rows.Catch
import KE.KLam
import KE.KNestM
import PyProof.FactsAll.list_3
import KE.KDictList
import PyProof.Rows.CountFlat
import KE.KDictOf
import PyProof.AttrMissHeap
import PyProof.DictFindH
import PySem.Challenge.RW_twoglass_k50_joined
set_option Elab.async false
set_option linter.all false
set_option maxRecDepth 100000
open List renaming filterMap_cons→Nt,mem_cons_self→Nu,mem_cons_of_mem→Nv,mem_append_left→Nw,getElem?_set_self→Nx,getElem?_set_ne→Ny,mem_append_right→NC,size_toArray→NE,append_nil→NM,of_mem_zip→NN,length_take→NP,getElem?_append_right→NQ,getElem?_replicate→NR,getElem?_append_left→NS,getElem?_map→NT,mem_of_getElem?→NU,length_append→NV,length_map→NW,length_drop→NY,length_singleton→N1,map_nil→N2,map_cons→N3,find?_cons→N4,any_cons→N5,length_cons→N6,length_nil→N7,nodup_nil→Oa,lookup_cons→Oc,forIn_cons→Od,cons_append→Og,take_zero→Oh,take_succ_cons→Oi,drop_zero→Oj,drop_succ_cons→Ol,all_cons→Om,range_succ_eq_map→Oo,getElem?_eq_getElem→Oq,getElem_of_mem→Ox,nil_append→Oy,map_congr_left→Oz,map_append→OA,length_range→OB,getElem?_range→OD,drop_eq_getElem_cons→OG,append_assoc→OI,drop_length→OJ,zipIdx_cons→OL,mem_cons→OM,not_mem_nil→OO,getElem?_cons_zero→OQ,getElem?_cons_succ→OS,contains_cons→OX,zip_cons_cons→OY,any_map→OZ,zip_nil_right→O0,replicate_succ→O1,foldl_cons→O2,not_lt_nil→O3,nil_lt_cons→O5,cons_lt_cons_iff→O6,filter_cons_of_pos→O7,filter_cons_of_neg→O8,getElem_mem→O9,pairwise_map→Pa,getD_eq_getElem?_getD→Pb,map_map→Ph,toList_toArray→Pj,getElem?_eq_none→Pl,take_of_length_le→Pm,mem_singleton→Pn,find?_cons_of_pos→Pt,find?_cons_of_neg→Pu,set_cons_zero→Px,set_cons_succ→Py,replicate_zero→Pz,mem_nil_iff→PH,take_succ_eq_append_getElem→PJ,length_filter_le→PK,length_zipIdx→PL,take_take→PP,take_append_of_le_length→PQ,flatMap_cons→PR,filter_append→PV,mem_of_mem_take→PX,mem_of_mem_drop→PY,map_take→PZ
open Int renaming fdiv_eq_ediv_of_nonneg→ND,toNat_natCast→NX,emod_nonneg→PD,emod_lt_of_pos→PF,toNat_of_nonneg→PN
open Nat renaming lt_of_lt_of_le→Nm,lt_irrefl→Nn,ne_of_lt→Np,le_trans→Nq,le_of_lt→Nr,ne_of_gt→Nz,le_refl→NB,le_of_eq→NI,zero_le→NK,lt_trans→N9,lt_succ_of_lt→Of,min_self→Ot,sub_zero→OC,lt_of_le_of_lt→OH,le_add_right→OT,add_lt_add_left→OU,lt_add_of_pos_right→OV,zero_add→OW,lt_or_ge→Pk,le_total→Pp,min_eq_left→Pq,min_eq_right→Pr,sub_self→Pw
open Bool renaming false_ne_true→NF,and_eq_true→NZ,false_eq_true→Oe,and_true→Ou,and_false→Ov,or_eq_true→Ow,not_true→PB,not_false→PC
open Option renaming getD_none→N0,isSome_map→N8
open PySem renaming Value→Q1,World→Q2,Program→Q3,Addr→Q4,Paired→Q5,Heap→Q6,sizeLine→Q7,mainGlobals→Q9,builtinsNs→Ra,bootBuiltins→Rb,Around→Rc,Shared→Rf,Scope→Rg,wpAny→Rh,Expr→Ri,starEach→Rj,Stmt→Rl,wpAny_mono→Rm,wpAny_Name→Rn,wpAny_truthy_bool→Ro,wpAny_execs_nil→Rp,wpAny_pure→Rq,wpAny_bind→Rr,wpAny_pyIter_list→Rt,PassesOwn→Ru,foldedSetIterable→Rv,wpAny_passesOwn→Rx,binaryOp→Ry,compareOp→Rz,behindInMarks→RA,sizeLine_eq→RB,codeAny→RC,callWith→RE,keywordEach→RF,recursionLimit→RG,cLine→RH,FuncData→RJ,BindsTo→RK,NameKind→RL,Arguments→RM,wpAny_Call_Name_kw→RN,concat_meets→RO,noFill_tuple_add→RP,seq_tuple_add→RT,IsPart→RU,wpAny_field→RV,wpAny_holding→RW,wpAny_callSpecial?_slot→RX,wpAny_call_entry→RY,wpAny_typeOf→RZ,wpAny_newObj_type→R3,evalPart_none→R4,attributeBase→R6,Keyword→R7,tupleKind_room_in1→R8,wpAny_standAt→R9,wpAny_comprehension_free→Sa,wpAny_rule→Sb,wpAny_getItem_str_slice→Sd,post_val_or_str→Se,wpAny_seqItems→Sf,wpAny_setField→Sg,IsZip→Si,IsPair→Sj,wpAny_setField_rec→Sl,wpAny_onRaise→Sn,wpAny_updateSeq_pair→Sq,wpAny_letGo→Sr,wpAny_newTuple→Ss,wpAny_attempt→Su,wpAny_isInstance→Sv,wpAny_newList→SD,wpAny_collect_seq→SE,wpAny_dictEntries→SG,wpAny_dictEpoch→SH,wpAny_typeNameOfWhole_keyiter→SJ,wpAny_typeNameOf_keyiter→SK
open PySem.W renaming instObj→P0,methodObj→P4,Frag→P5,lookIn→P6,plainGet→P7,findIn→P8,isFn→P9,plainGet_of→Qa,makesIn→Qb,Looks→Qc,emptyDict→Qd,makes_of→Qe,hasDictIn→Qf,plainOver→Qg,keepIn→Qh,cellsFrom_some→Qi,fnOf→Qj,codeIn→Qk,nsIn→Ql,kitOne→Qm,kia_one→Qn,callWith_K→Qo,callWith_K0→Qp,BoolBack→Qq,tabObj→Qr,kla_fn→Qs,OpenLaw→Qt,kdl_call→Qu,codeHdIn→Qv,mg_of→Qw,mg_none_of→Qx,kas_ask→Sx,kla_obj→SF
open PySem.Heap renaming lt_size→Qy,get?_none_of_le→Qz,SameBut→QA,get?_push_of_some→QB,get?_push_size→QC,size_push→QE,get?_update_self→QF,get?_push_ne→QG,size_update→QH,get?_update_ne→QI
open PyProof.Rows renaming callWith_type1→QJ,slot_tuple_getitem→QK,envOfC→QL,IsTup→QM,Call_→QN,boot_str→QO,boot_bool→QP,boot_int→QQ,boot_tuple→QS,boot_max→QT,boot_min→QU,boot_list→QV,IsTup→Q8,Subscript_→R5,SortKind→Sw,listUpdate_at→Sy,get?_update_seq→Sz,seqEpoch_at→SA
open PySem.F renaming slot_tuple_add→QW,entry_tuple_add→QX,args_tuple_add_2→QY,slot_list_append→QZ,type_list_append→Q0
set_option maxHeartbeats 1000000
local macro_rules | `(‹1›)=>`(by first | exact Or.inl rfl | exact Or.inr rfl)
local macro_rules | `(‹2›)=>`(⟨rfl, rfl, rfl, by decide +kernel, rfl, by decide +kernel, by decide +kernel⟩)
local macro_rules | `(‹0›)=>`(by omega)
namespace L2
open PySem PySem.Spec PyProof.Rows
abbrev Key:=Sum Int Str
def qB:Key->Q1->Bool
 |.inl k,v=>Value.isInt k v
 |.inr x,v=>Value.isStrOf x v
def Mh(w:Q2):Key->Int
 |.inl k=>hashInt k
 |.inr x=>hashStr w x
theorem dr:∀{k:Key}{v:Q1},qB k v=true->(∃i t,k=Sum.inl i/\v=Value.int i t)\/(∃x t,k=Sum.inr x/\v=Value.str x t)
 |.inl i,v,h=>by
  obtain⟨t,e⟩:=Value.isInt_shape (k:=i) (v:=v) h;exact .inl ⟨i,t,rfl,e⟩
 |.inr x,v,h=>by
  obtain⟨t,e⟩:=Value.isStrOf_shape (x:=x) (v:=v) h;exact .inr ⟨x,t,rfl,e⟩
theorem AI(i:Int)(t:Tok):qB (.inl i) (.int i t)=true:=by simp[qB,Value.isInt]
theorem AO(x:Str)(t:Tok):qB (.inr x) (.str x t)=true:=by simp[qB,Value.isStrOf]
theorem Ha(a b:Int):decide ((Sum.inl a:Key)=Sum.inl b)=(a==b):=by
 by_cases e:a=b
 ·subst e;simp
 ·have h:¬(Sum.inl a:Key)=Sum.inl b:=λq=>e (Sum.inl.inj q);rw[decide_eq_false h];exact(beq_eq_false_iff_ne.mpr e).symm
theorem Hh(a b:Str):decide ((Sum.inr a:Key)=Sum.inr b)=decide (a=b):=by
 by_cases e:a=b
 ·subst e;simp
 ·have h:¬(Sum.inr a:Key)=Sum.inr b:=λq=>e (Sum.inr.inj q);rw[decide_eq_false h,decide_eq_false e]
theorem HR(a:Int)(b:Str):decide ((Sum.inl a:Key)=Sum.inr b)=false:=decide_eq_false (λq=>nomatch q)
theorem HU(a:Str)(b:Int):decide ((Sum.inr a:Key)=Sum.inl b)=false:=decide_eq_false (λq=>nomatch q)
def cW(prog:Q3)(w:Q2):PySem.KeyKind prog w Key where
 is:=qB
 hash:=Mh w
 inj:=λv a b ha hb=>by
  rcases dr ha with⟨i,t,rfl,rfl⟩|⟨x,t,rfl,rfl⟩
  ·rcases dr hb with⟨j,u,rfl,e⟩|⟨y,u,rfl,e⟩
   ·injection e with e1 _;rw[e1]
   ·exact nomatch e
  ·rcases dr hb with⟨j,u,rfl,e⟩|⟨y,u,rfl,e⟩
   ·exact nomatch e
   ·injection e with e1 _;rw[e1]
 byValue:=λk v h=>by
  rcases dr h with⟨i,t,rfl,rfl⟩|⟨x,t,rfl,rfl⟩<;>rfl
 pyHash:=λhv h=>by
  rcases dr hv with⟨i,t,rfl,rfl⟩|⟨x,t,rfl,rfl⟩
  ·exact wpAny_pyHash_int h
  ·exact wpAny_pyHash_str h
 eqBool:=λhu hv h=>by
  rcases dr hu with⟨i,t,rfl,rfl⟩|⟨x,t,rfl,rfl⟩
  ·rcases dr hv with⟨j,u,rfl,rfl⟩|⟨y,u,rfl,rfl⟩
   ·rw[Ha]at h;exact wpAny_eqBool_int h
   ·rw[HR]at h;exact SeqAt.EqAt.int_str i t y u _ _ _ _ h
  ·rcases dr hv with⟨j,u,rfl,rfl⟩|⟨y,u,rfl,rfl⟩
   ·rw[HU]at h;exact SeqAt.EqAt.str_int x t j u _ _ _ _ h
   ·rw[Hh]at h;exact wpAny_eqBool_str h
 «strs»:=λk x t v h=>by
  rcases dr h with⟨i,u,rfl,e⟩|⟨y,u,rfl,e⟩
  ·exact nomatch e
  ·injection e with e1 _;subst e1;cases v<;>rfl
theorem zi(prog:Q3)(w:Q2)(k:Key)(v:Q1):(cW prog w).is k v=qB k v:=rfl
theorem xZ(prog:Q3)(w:Q2)(i:Int)(t:Tok):(cW prog w).is (.inl i) (.int i t)=true:=AI i t
theorem xM(prog:Q3)(w:Q2)(x:Str)(t:Tok):(cW prog w).is (.inr x) (.str x t)=true:=AO x t
inductive V where
 |non|bl (b:Bool)|int (i:Int)|str (x:Str)|byt (b:Array UInt8)|flt (b:UInt64)|ref (a:Q4)|ty (n:String)
 deriving DecidableEq
def RelV:V->Q1->Prop
 |.non,u=>u=Value.none
 |.bl b,u=>u=Value.bool b
 |.int i,u=>∃t,u=Value.int i t
 |.str x,u=>∃t,u=Value.str x t
 |.byt b,u=>∃t,u=Value.bytes b t
 |.flt b,u=>∃t,u=Value.float b t
 |.ref a,u=>u=Value.ref a
 |.ty n,u=>u=Value.type n
abbrev Vals:List V->List Q1->Prop:=Q5 RelV
theorem Vals.length{xs:List V}{us:List Q1}(r:Vals xs us):xs.length=us.length:=Paired.length r
theorem Vals.get:∀{xs:List V}{us:List Q1}{i:Nat}{x:V},Vals xs us->xs[i]?=some x->∃u,us[i]?=some u/\RelV x u
 |_,_,_,_,.nil,e=>by simp at e
 |_,_,0,_,.cons r _,e=>by simp at e;subst e;exact⟨_,rfl,r⟩
 |_,_,i+1,x,.cons _ t,e=>by
  obtain⟨u,h1,h2⟩:=Vals.get (i:=i) (x:=x) t (by simpa using e);exact⟨u,by simpa using h1,h2⟩
theorem Vals.append:∀{xs ys:List V}{us ws:List Q1},Vals xs us->Vals ys ws->Vals (xs++ys) (us++ws)
 |_,_,_,_,.nil,s=>s
 |_,_,_,_,.cons r t,s=>.cons r (Vals.append t s)
theorem Vals.take:∀{xs:List V}{us:List Q1}(n:Nat),Vals xs us->Vals (xs.take n) (us.take n)
 |_,_,0,_=>.nil
 |_,_,_+1,.nil=>.nil
 |_,_,n+1,.cons r t=>.cons r (Vals.take n t)
theorem Vals.drop:∀{xs:List V}{us:List Q1}(n:Nat),Vals xs us->Vals (xs.drop n) (us.drop n)
 |_,_,0,r=>r
 |_,_,_+1,.nil=>.nil
 |_,_,n+1,.cons _ t=>Vals.drop n t
def wR:Option V->Option Q1->Prop
 |some v,some u=>RelV v u
 |none,none=>True
 |_,_=>False
def KV{κ:Type}:List (κ×V)->List (κ×Q1)->Prop:=Q5 λ(p:κ×V)(q:κ×Q1)=>p.1=q.1/\RelV p.2 q.2
def kV:Key->V
 |.inl i=>.int i
 |.inr x=>.str x
inductive HO where
  |lst (xs:List V)
  |tup (xs:List V)
  |dK (kvs:List (Key×V))|dT (kvs:List (List Key×V))
  |set (S:Int->Bool) (n:Nat)
  |ins (C dx:Q4) (fs:List (Str×V))
  |own (x:Q4)
  |xd (fs:List (Str×V))
  |met (f x:Q4)
  |rng (lo hi:Int)
  |frz (o:Obj) (u:HO)
  |tbl (ps:Array Q1)
  |ext (φ:(Q4->Prop)->Q6->Prop)
abbrev Hp:=Q4->Option HO
def upd(H:Hp)(a:Q4)(o:HO):Hp:=λb=>if b=a then some o else H b
theorem aZ{H:Hp}{a:Q4}{o:HO}:upd H a o a=some o:=by unfold upd;rw[if_pos rfl]
theorem aR{H:Hp}{a b:Q4}{o:HO}(h:b≠a):upd H a o b=H b:=by unfold upd;rw[if_neg h]
theorem Eo{H:Hp}{a:Q4}{o u:HO}:upd (upd H a o) a u=upd H a u:=by
 funext b;unfold upd;split<;>rfl
theorem Ip{H:Hp}{a b:Q4}{o u:HO}(h:H a=some o)(h':H b=some u)(d:o≠u):a≠b:=by
 intro e;subst e;rw[h]at h';exact d (Option.some.inj h')
theorem bd{H:Hp}{a b:Q4}{o:HO}(h:H a=some o)(h':H b=none):a≠b:=by
 intro e;subst e;rw[h]at h';cases h'
section
variable(P:Q3)(w:Q2)
def cS(H:Hp)(h:Q6)(a:Q4):HO->Prop
 |.lst xs=>xs.length<=Q7/\∃(its:List Q1)(n:Nat),Vals xs its/\h.get? a=some {cls:=.type "list",data:=.seq its.toArray n}
 |.tup xs=>xs.length<=Q7/\∃its:List Q1,Vals xs its/\Q8 h a its.toArray
 |.dK kvs=>kvs.length<=Q7/\(a==sysModules)=false/\∃vs,KV kvs vs/\h.DictOf (cW P w) a vs
 |.dT kvs=>kvs.length<=Q7/\(a==sysModules)=false/\∃xs:List (List Key×Q4×Q1),
   Q5 (λ(p:List Key×V)(q:List Key×Q4×Q1)=>p.1=q.1/\H q.2.1=some (.tup (p.1.map kV))/\RelV p.2 q.2.2) kvs xs/\
   ∃o es ep,h.get? a=some o/\o.ExactDict/\o.data=.dict es ep/\es.toList=xs.map (entryOfKey (tupleKind (cW P w)))/\(xs.map (·.1)).Nodup
 |.set S n=>h.SetOf (intKind P w) a S n
 |.ins C dx fs=>H dx=some (.own a)/\fs.length<=1000/\dx≠a/\h.get? a=some (P0 C dx)/\
   ∃mA,h.Ns1 dx mA/\(∀f,wR (fs.lookup f) (mA f))/\PySem.Within mA (fs.map (·.1))
 |.own _=>∃o,h.get? a=some o
 |.xd fs=>∃mA,h.Ns1 a mA/\∀f,wR (fs.lookup f) (mA f)
 |.rng lo hi=>∃t u v,h.get? a=some {cls:=.type "range",data:=.fields #[.int lo t,.int hi u,.int 1 v]}
 |.frz o u=>h.get? a=some o/\cS H h a u
 |.tbl ps=>h.get? a=some {cls:=.none,data:=.fields ps}
 |.met f x=>h.get? a=some (P4 (.ref f) (.ref x))
 |.ext φ=>φ (λb=>H b=some (.own a)) h/\(∃o,h.get? a=some o)/\∀(S1 S2:Q4->Prop)(h1 h2:Q6),φ S1 h1->(∀b,S1 b->S2 b)->(∀b o,(b=a\/S1 b)->h1.get? b=some o->h2.get? b=some o)->φ S2 h2
def o0(H:Hp)(h:Q6):Prop:=∀a o,H a=some o->cS P w H h a o
end
section
variable{P:Q3}{w:Q2}{H H':Hp}{h h':Q6}{a:Q4}{o:HO}
theorem cS.lt(x:cS P w H h a o):a<h.objs.size:=by
 cases o with
 |lst xs=>obtain⟨_,_,_,_,e⟩:=x;exact Qy e
 |tup xs=>obtain⟨_,_,_,p⟩:=x;exact p.lt
 |dK kvs=>obtain⟨_,_,_,_,o,_,_,e,_⟩:=x;exact Qy e
 |dT kvs=>obtain⟨_,_,_,_,o,_,_,e,_⟩:=x;exact Qy e
 |set S n=>obtain⟨o,_,_,_,e,_⟩:=x;exact Qy e
 |ins C dx fs=>obtain⟨_,_,_,e,_⟩:=x;exact Qy e
 |own y=>obtain⟨_,e⟩:=x;exact Qy e
 |xd fs=>obtain⟨_,⟨_,_,_,e,_⟩,_⟩:=x;exact Qy e
 |rng lo hi=>obtain⟨_,_,_,e⟩:=x;exact Qy e
 |frz ob u=>obtain⟨e,_⟩:=x;exact Qy e
 |tbl ps=>exact Qy (show h.get? a=some _ from x)
 |met f y=>exact Qy (show h.get? a=some _ from x)
 |ext φ=>obtain⟨_,⟨_,e⟩,_⟩:=x;exact Qy e
theorem Paired.mapP{α β:Type}{F G:α->β->Prop}:∀{l₁:List α}{l₂:List β},Q5 F l₁ l₂->(∀a b,F a b->G a b)->Q5 G l₁ l₂
 |_,_,.nil,_=>.nil
 |_,_,.cons r t,f=>.cons (f _ _ r) (Paired.mapP t f)
theorem cS.stay(x:cS P w H h a o)(k:∀b u,(b=a\/H b=some (.own a))->h.get? b=some u->h'.get? b=some u)
  (ho:∀b,H b=some (.own a)->H' b=some (.own a)) (ht:∀b xs,H b=some (.tup xs)->H' b=some (.tup xs)):cS P w H' h' a o:=by
 induction o with
 |lst xs=>obtain⟨z,its,n,r,e⟩:=x;exact⟨z,its,n,r,k _ _ (.inl rfl) e⟩
 |tup xs=>obtain⟨z,its,r,ob,e,c⟩:=x;exact⟨z,its,r,ob,k _ _ (.inl rfl) e,c⟩
 |dK kvs=>obtain⟨z,y,vs,r,ob,es,ep,e,c⟩:=x;exact⟨z,y,vs,r,ob,es,ep,k _ _ (.inl rfl) e,c⟩
 |dT kvs=>
  obtain⟨z,y,xs,r,ob,es,ep,e,c⟩:=x;exact⟨z,y,xs,Paired.mapP r λp q z=>⟨z.1,ht _ _ z.2.1,z.2.2⟩,ob,es,ep,k _ _ (.inl rfl) e,c⟩
 |set S n=>obtain⟨ob,es,ep,t,e,c⟩:=x;exact⟨ob,es,ep,t,k _ _ (.inl rfl) e,c⟩
 |ins C dx fs=>
  obtain⟨d,z,ne,e,mA,⟨od,es,ep,e2,c⟩,r⟩:=x;exact⟨ho _ d,z,ne,k _ _ (.inl rfl) e,mA,⟨od,es,ep,k _ _ (.inr d) e2,c⟩,r⟩
 |own y=>obtain⟨ob,e⟩:=x;exact⟨ob,k _ _ (.inl rfl) e⟩
 |xd fs=>obtain⟨mA,⟨od,es,ep,e,c⟩,r⟩:=x;exact⟨mA,⟨od,es,ep,k _ _ (.inl rfl) e,c⟩,r⟩
 |rng lo hi=>obtain⟨t,u,v,e⟩:=x;exact⟨t,u,v,k _ _ (.inl rfl) e⟩
 |frz ob u ih=>obtain⟨e,q⟩:=x;exact⟨k _ _ (.inl rfl) e,ih q⟩
 |tbl ps=>
  have e:h.get? a=some {cls:=.none,data:=.fields ps}:=x;show h'.get? a=some {cls:=.none,data:=.fields ps};exact k a _ (.inl rfl) e
 |met f y=>
  have e:h.get? a=some (P4 (.ref f) (.ref y)):=x;show h'.get? a=some (P4 (.ref f) (.ref y));exact k a _ (.inl rfl) e
 |ext φ=>obtain⟨p,⟨o,e⟩,st⟩:=x;exact⟨st _ _ _ _ p ho k,⟨o,k _ _ (.inl rfl) e⟩,st⟩
theorem o0.lt(x:o0 P w H h)(e:H a=some o):a<h.objs.size:=(x a o e).lt
theorem o0.fresh(x:o0 P w H h)(e:h.objs.size<=a):H a=none:=by
 cases q:H a with
 |none=>rfl
 |some u=>exact absurd (Nm (x.lt q) e) (Nn _)
theorem o0.kept(x:o0 P w H h)(k:∀b u,h.get? b=some u->h'.get? b=some u):o0 P w H h':=λa o e=>
 (x a o e).stay (λb u _ q=>k b u q) (λ_ q=>q) λ_ _ q=>q
theorem o0.laid(x:o0 P w H h)(k:∀b u,h.get? b=some u->h'.get? b=some u)(hp:h.objs.size<=a)(new:cS P w (upd H a o) h' a o):o0 P w (upd H a o) h':=λb u e=>by
 have hn:=x.fresh hp;by_cases hb:b=a
 ·subst hb;rw[aZ]at e;cases e;exact new
 ·rw[aR hb]at e;exact(x b u e).stay (λc v _ q=>k c v q) (λc q=>by rw[aR (bd q hn)];exact q) λc xs q=>by rw[aR (bd q hn)];exact q
end
def Rd(H:Hp)(a:Q4)(u:HO):Prop:=H a=some u\/∃o,H a=some (.frz o u)
theorem Rd.ok{P:Q3}{w:Q2}{H:Hp}{h:Q6}{a:Q4}{u:HO}(r:Rd H a u)(x:o0 P w H h):cS P w H h a u:=by
 rcases r with r|⟨o,r⟩
 ·exact x a u r
 ·obtain⟨_,q⟩:=x a _ r;exact q
def Ih:Option HO->Prop
 |some (.lst _)=>True
 |some (.dK _)=>True
 |some (.dT _)=>True
 |some (.set _ _)=>True
 |some (.ins _ _ _)=>True
 |some (.ext _)=>True
 |_=>False
section
variable{P:Q3}{w:Q2}{H:Hp}{h h':Q6}{x e:Q4}{o':HO}
theorem o0.write(ok:o0 P w H h)(mu:Ih (H x))(he:e=x\/H e=some (.own x))(k:∀b u,b≠e->h.get? b=some u->h'.get? b=some u)(heo:∃u,h'.get? e=some u)
  (new:cS P w (upd H x o') h' x o'):o0 P w (upd H x o') h':=λb u q=>by
 have nown:∀c y,H c=some (.own y)->c≠x:=λc y r z=>by subst z;rw[r]at mu;exact mu
 have ntup:∀c xs,H c=some (.tup xs)->c≠x:=λc xs r z=>by subst z;rw[r]at mu;exact mu
 by_cases hb:b=x
 ·subst hb;rw[aZ]at q;cases q;exact new
 ·rw[aR hb]at q;by_cases hbe:b=e
  ·have q':H b=some (.own x):=by
    rcases he with z|z
    ·exact absurd (hbe.trans z) hb
    ·rw[hbe];exact z
   rw[q]at q';cases q';obtain⟨v,hv⟩:=heo;exact⟨v,by rw[hbe];exact hv⟩
  ·refine(ok b u q).stay (λc v hc r=>k c v ?_ r) (λc r=>by rw[aR (nown c b r)];exact r) λc xs r=>by rw[aR (ntup c xs r)];exact r
   rcases hc with rfl|hc
   ·exact hbe
   ·rintro rfl;rcases he with z|z
    ·exact nown c b hc z
    ·rw[hc]at z;cases z;exact hb rfl
end
structure Un(fs ex:List Q4)(H H':Hp)(h h':Q6):Prop where
 keep:∀b o,h.get? b=some o->H b=none->b∉fs->b∉ex->h'.get? b=some o
 slot:∀b o,h.get? b=some o->H b=none->b∈fs->b∉ex->∃sl,h'.get? b=some {o with slots:=sl}
 free:∀b o,h.get? b=some o->H b=none->b∉ex->H' b=none
 there:∀b o,h.get? b=some o->b∉ex->∃o',h'.get? b=some o'
 tups:∀b xs,H b=some (.tup xs)->H' b=some (.tup xs)
 frzs:∀b o u,H b=some (.frz o u)->H' b=some (.frz o u)
 tbls:∀b ps,H b=some (.tbl ps)->∃more,H' b=some (.tbl (ps++more))
section
variable{fs fs' ex ex':List Q4}{H H1 H2:Hp}{h h1 h2 h':Q6}{a x e:Q4}{o:HO}
theorem Un.any(u:Un fs ex H H1 h h1){b:Q4}{ob:Obj}(q:h.get? b=some ob)(n:H b=none)(hx:b∉ex):∃sl,h1.get? b=some {ob with slots:=sl}:=by
 by_cases hb:b∈fs
 ·exact u.slot b ob q n hb hx
 ·exact⟨ob.slots,u.keep b ob q n hb hx⟩
theorem Un.kept(k:∀b u,h.get? b=some u->h'.get? b=some u):Un fs ex H H h h':=
 ⟨λb ob q _ _ _=>k b ob q,λb ob q _ _ _=>⟨ob.slots,k b ob q⟩,λ_ _ _ n _=>n,λb ob q _=>⟨ob,k b ob q⟩,λ_ _ q=>q,λ_ _ _ q=>q,λ_ ps q=>⟨#[],by rw[q];simp⟩⟩
theorem Un.refl:Un fs ex H H h h:=Un.kept λ_ _ q=>q
theorem Un.laid(k:∀b u,h.get? b=some u->h'.get? b=some u)(hp:h.objs.size<=a)(hn:H a=none):Un fs ex H (upd H a o) h h' where
 keep:=λb u q _ _ _=>k b u q
 slot:=λb u q _ _ _=>⟨u.slots,k b u q⟩
 free:=λb u q n _=>by rw[aR (Np (Nm (Qy q) hp))];exact n
 there:=λb u q _=>⟨u,k b u q⟩
 tups:=λb xs q=>by rw[aR (bd q hn)];exact q
 frzs:=λb u xs q=>by rw[aR (bd q hn)];exact q
 tbls:=λb ps q=>⟨#[],by rw[aR (bd q hn),q];simp⟩
theorem Un.write(mu:Ih (H x))(he:e=x\/H e=some (.own x))(k:∀b u,b≠e->h.get? b=some u->h'.get? b=some u)(heo:∃u,h'.get? e=some u):Un fs ex H (upd H x o) h h':=by
 have hx:∀b,H b=none->b≠x:=λb n z=>by subst z;rw[n]at mu;exact mu
 have hb:∀b,H b=none->b≠e:=λb n z=>by
  subst z;rcases he with r|r
  ·exact hx b n r
  ·rw[n]at r;cases r
 have hm:∀b u,H b=some u->¬Ih (some u)->b≠x:=λb u q nm z=>by subst z;rw[q]at mu;exact nm mu
 refine⟨λb u q n _ _=>k b u (hb b n) q,λb u q n _ _=>⟨u.slots,k b u (hb b n) q⟩,λb u q n _=>by rw[aR (hx b n)];exact n,λb u q _=>?_,
  λb xs q=>by rw[aR (hm b _ q λz=>z)];exact q,λb u xs q=>by rw[aR (hm b _ q λz=>z)];exact q,λb ps q=>⟨#[],by rw[aR (hm b _ q λz=>z),q];simp⟩⟩
 by_cases hbe:b=e
 ·subst hbe;exact heo
 ·exact⟨u,k b u hbe q⟩
end
def Kz(h:Q6)(H:Hp):List Q4:=(List.range h.objs.size).filter λa=>(H a).isSome
def wu(h:Q6)(H:Hp):Q6:=PySem.W.hideAll h (Kz h H)
theorem Bi(h:Q6)(H:Hp):(wu h H).objs.size=h.objs.size:=PySem.W.hideAll_size _ _
theorem rq{h:Q6}{H:Hp}{b:Q4}{o:Obj}(e:h.get? b=some o)(n:H b=none):(wu h H).get? b=some o:=
 PySem.W.hideAll_get _ e λhm=>by
  have q:(H b).isSome=true:=(List.mem_filter.mp hm).2;rw[n]at q;simp at q
theorem D3{h:Q6}{H:Hp}{b:Q4}{o:Obj}(e:(wu h H).get? b=some o):h.get? b=some o/\H b=none:=by
 have e':h.get? b=some o:=PySem.W.of_hideAll (Kz h H) e;refine⟨e',?_⟩;cases q:H b with
 |none=>rfl
 |some x=>
  have hm:b∈Kz h H:=List.mem_filter.mpr ⟨List.mem_range.mpr (Qy e'),by simp[q]⟩;have z:(wu h H).get? b=none:=PySem.W.hideAll_none (Kz h H) hm;rw[z]at e;cases e
def Fm(g h:Q6)(L:Q4):List (Q4×Obj):=(List.range h.objs.size).filterMap λa=>if a=L\/(g.get? a).isSome=true then none else(h.get? a).map λo=>(a,o)
def rest(g h:Q6)(L d:Q4):List (Q4×Obj):=(Fm g h L).filter λp=>decide (p.1≠d)
structure Mod(K:P5)(mg:Str->Option Q1)(base:Q6):Prop where
 kin:K.In base
 glob:base.Ns Q9 mg
 blt:∃mb,base.Ns Ra mb/\∀x:Str,x≠"__name__"->mb x=Rb x
 nolimit:base.NoLimit
structure Cx where
 prog:Q3
 w:Q2
 K:P5
 mg:Str->Option Q1
 base:Q6
 A:Rc
 N:List Str
 s₀:Rf
 H₀:Hp
 env:Env
 outer:List Env
 stack:List Env
 ex:List Q4
 fn:Str->Bool
 calm:Bool
 pn:List (Q4×Obj)
 xe:Q1->Rf->Prop
def frs(l:List Env):List Q4:=l.filterMap (·.frame)
abbrev Cx.fs(X:Cx):List Q4:=frs X.outer
def HM(sc:Rg)(x:Str):Prop:=sc.names.lookup x=some .local\/sc.names.lookup x=some .cell\/sc.names.lookup x=some .free
def Loc(sc:Rg)(x:Str):Prop:=sc.names.lookup x=some .local\/sc.names.lookup x=some .cell
def Look(env:Env)(h:Q6)(m:Str->Option Q1)(x:Str)(u:Q1):Prop:=
 (env.kindOf x=some .local/\m x=some u)\/((env.kindOf x=some .cell\/env.kindOf x=some .free)/\∃c,env.cells.lookup x=some c/\h.IsCell c (some u))
structure Cx.Ok(X:Cx):Prop where
 mod:Mod X.K X.mg X.base
 kind:X.env.scope.kind=.function
 glob:X.env.globals=Q9
 blt:X.env.builtins=Ra
 above:X.s₀.heap.objs.size<=X.env.locals
 inj:∀x y c,X.env.cells.lookup x=some c->X.env.cells.lookup y=some c->x=y
 has:∀x,(X.env.kindOf x=some .cell\/X.env.kindOf x=some .free)->∃c,X.env.cells.lookup x=some c
 cab:∀x c,X.fn x=true->X.env.cells.lookup x=some c->X.s₀.heap.objs.size<=c
 hd:X.calm=true->X.A.handled=none
 frames:X.A.frames=some X.stack
 stk:X.stack=X.outer\/(X.stack=X.env::X.outer/\X.env.frame=some X.env.locals)
 exf:∀b∈X.ex,b≠X.env.locals/\∀x c,X.env.cells.lookup x=some c->c≠b
 bs:∀b o,X.base.get? b=some o->X.s₀.heap.get? b=some o/\X.H₀ b=none
 bsz:X.base.objs.size<=X.s₀.heap.objs.size
 noex:∀b o,X.base.get? b=some o->b∉X.ex
 exfs:∀b∈X.ex,b∉X.fs
 funs:X.s₀.heap.FunFrames X.base X.outer
 frf:∀b∈X.fs,X.H₀ b=none
structure Inv(X:Cx)(pins:List (Q4×Obj))(σ:List (Option V))(H:Hp)(s:Rf):Prop where
 ok:X.Ok
 os:s.os=X.s₀.os
 bare:AllBare s.gens
 base:Un X.fs X.ex X.H₀ H X.s₀.heap s.heap
 loc:∃m,s.heap.Ns X.env.locals m/\∀(i:Nat)(x:Str)(v:V),X.N[i]?=some x->σ[i]?=some (some v)->HM X.env.scope x->∃u,RelV v u/\Look X.env s.heap m x u
 cell:∀x c,X.env.cells.lookup x=some c->∃v,s.heap.IsCell c v
 free:H X.env.locals=none
 freeC:∀x c,X.env.cells.lookup x=some c->H c=none
 pin:∀p∈X.pn++pins,s.heap.get? p.1=some p.2/\H p.1=none/\p.1≠X.env.locals/\p.1∉X.fs/\∀v,p.2.data≠.cell v
 hok:o0 X.prog X.w H s.heap
 len:σ.length=X.N.length
section
variable{X:Cx}{pins:List (Q4×Obj)}{σ:List (Option V)}{H H':Hp}{s:Rf}{h':Q6}
theorem Cx.Ok.nofr(ok:X.Ok){b:Q4}{o:Obj}(e:X.base.get? b=some o):b∉X.fs:=λhb=>by
 have:=(ok.funs.mem hb).1
 rw[e]at this;cases this
theorem Inv.bs(I:Inv X pins σ H s):∀b o,X.base.get? b=some o->s.heap.get? b=some o/\H b=none:=λb o e=>
 ⟨I.base.keep b o (I.ok.bs b o e).1 (I.ok.bs b o e).2 (I.ok.nofr e) (I.ok.noex b o e),I.base.free b o (I.ok.bs b o e).1 (I.ok.bs b o e).2 (I.ok.noex b o e)⟩
theorem Inv.bk(I:Inv X pins σ H s):∀b o,X.base.get? b=some o->s.heap.get? b=some o:=λb o e=>(I.bs b o e).1
theorem Inv.mod(I:Inv X pins σ H s):Mod X.K X.mg X.base:=I.ok.mod
theorem Inv.kIn(I:Inv X pins σ H s):X.K.In s.heap:=I.ok.mod.kin.keeps I.bk
theorem Inv.nolimit(I:Inv X pins σ H s):s.heap.NoLimit:=I.ok.mod.nolimit.keeps I.bk
theorem Inv.lt(I:Inv X pins σ H s):X.env.locals<s.heap.objs.size:=let ⟨_,hn,_⟩:=I.loc;hn.lt
theorem Inv.sz(I:Inv X pins σ H s):X.s₀.heap.objs.size<=s.heap.objs.size:=Nq I.ok.above (Nr I.lt)
theorem Inv.nofs(I:Inv X pins σ H s){a:Q4}(h:s.heap.objs.size<=a):a∉X.fs:=λhb=>by
 obtain⟨_,o,ho,_⟩:=I.ok.funs.mem hb;exact absurd (Nm (Qy ho) (Nq I.sz h)) (Nn _)
theorem Inv.cne(I:Inv X pins σ H s):∀x c,X.env.cells.lookup x=some c->c≠X.env.locals:=λx c e z=>by
 obtain⟨v,o,ho,hd⟩:=I.cell x c e;obtain⟨m,⟨o',es,ep,ho',hd',_⟩,_⟩:=I.loc;rw[z,ho']at ho;cases ho;rw[hd']at hd;cases hd
theorem Inv.funs(I:Inv X pins σ H s):s.heap.FunFrames X.base X.outer:=by
 have all:∀(l:List Env),(∀b∈frs l,b∈X.fs)->X.s₀.heap.FunFrames X.base l->s.heap.FunFrames X.base l:=by
  intro l
  induction l with
  |nil=>intro _ _;trivial
  |cons env r ih=>
   intro hs hl;obtain⟨hk,⟨L,o,hf,hn,ho,hd⟩,hr⟩:=hl;have hL:L∈X.fs:=hs L (by unfold frs;rw[Nt,hf];exact Nu);obtain⟨sl,e⟩:=I.base.slot L o ho (I.ok.frf L hL) hL λz=>I.ok.exfs L z hL;exact⟨hk,⟨L,_,hf,hn,e,hd⟩,ih (λb hb=>hs b (by unfold frs;rw[Nt,hf];exact Nv _ hb)) hr⟩
 exact all X.outer (λ_ hb=>hb) I.ok.funs
theorem Inv.stack(I:Inv X pins σ H s):s.heap.FunFrames X.base X.stack:=by
 rcases I.ok.stk with e|⟨e,hf⟩
 ·rw[e];exact I.funs
 ·rw[e];obtain⟨m,hn,_⟩:=I.loc;refine .cons (by rw[I.ok.kind];decide) hf hn ?_ I.funs;exact Qz (Nq I.ok.bsz I.ok.above)
theorem Inv.stkSub(I:Inv X pins σ H s):∀b∈frs X.stack,b∈X.env.locals::X.fs:=λb hb=>by
 rcases I.ok.stk with e|⟨e,hf⟩
 ·rw[e]at hb;exact Nv _ hb
 ·rw[e]at hb;unfold frs at hb;rw[Nt,hf]at hb;exact hb
theorem Inv.stkFree(I:Inv X pins σ H s):∀b∈frs X.stack,H b=none:=λb hb=>by
 rcases List.mem_cons.mp (I.stkSub b hb)with e|hb
 ·rw[e];exact I.free
 ·obtain⟨_,o,ho,_⟩:=I.ok.funs.mem hb;exact I.base.free b o ho (I.ok.frf b hb) λz=>I.ok.exfs b z hb
theorem Inv.step{g':Array GenState}{t':Nat}{d':Drawn}{ch:List Q4}(I:Inv X pins σ H s)
  (hch:∀b∈ch,(b∈X.ex\/X.s₀.heap.objs.size<=b)/\b≠X.env.locals/\(∀x c,X.env.cells.lookup x=some c->c≠b)/\∀p∈X.pn++pins,p.1≠b)
  (keep:∀b o,b≠X.env.locals->b∉X.fs->b∉ch->s.heap.get? b=some o->H b=none->h'.get? b=some o)
  (slot:∀b o,b≠X.env.locals->b∈X.fs->b∉ch->s.heap.get? b=some o->H b=none->∃sl,h'.get? b=some {o with slots:=sl}) (free:∀b o,b∉ch->s.heap.get? b=some o->H b=none->H' b=none)
  (there:∀b o,b∉ch->s.heap.get? b=some o->∃o',h'.get? b=some o')
  (tups:∀b xs,H b=some (.tup xs)->H' b=some (.tup xs)) (frzs:∀b o u,H b=some (.frz o u)->H' b=some (.frz o u)) (tbls:∀b ps,H b=some (.tbl ps)->∃more,H' b=some (.tbl (ps++more)))
  (ns:∀m,s.heap.Ns X.env.locals m->h'.Ns X.env.locals m) (hok:o0 X.prog X.w H' h') (hg:AllBare g'):
  Inv X pins σ H' {s with heap:=h',gens:=g',drawn:=d',toks:=t'}:=by
 have neL:∀b o,X.s₀.heap.get? b=some o->b≠X.env.locals:=λb o e=>Np (Nm (Qy e) I.ok.above);have neC:∀b o,X.s₀.heap.get? b=some o->b∉X.ex->b∉ch:=λb o e hx hb=>by
  rcases(hch b hb).1 with z|z
  ·exact hx z
  ·exact absurd (Nm (Qy e) z) (Nn _)
 have cellK:∀x c,X.env.cells.lookup x=some c->∀v,s.heap.IsCell c v->h'.IsCell c v:=λx c e v ⟨o,ho,hd⟩=>by
  have nch:c∉ch:=λz=>(hch c z).2.2.1 x c e rfl;by_cases hc:c∈X.fs
  ·obtain⟨sl,q⟩:=slot c o (I.cne x c e) hc nch ho (I.freeC x c e);exact⟨_,q,hd⟩
  ·exact⟨o,keep c o (I.cne x c e) hc nch ho (I.freeC x c e),hd⟩
 refine⟨I.ok,I.os,hg,⟨λb o e n hb hx=>?_,λb o e n hb hx=>?_,λb o e n hx=>?_,λb o e hx=>?_,λb xs e=>tups b xs (I.base.tups b xs e),λb o xs e=>frzs b o xs (I.base.frzs b o xs e),λb ps e=>?_⟩,?_,λx c e=>?_,?_,λx c e=>?_,λp hp=>?_,hok,I.len⟩
 ·exact keep b o (neL b o e) hb (neC b o e hx) (I.base.keep b o e n hb hx) (I.base.free b o e n hx)
 ·obtain⟨sl,e1⟩:=I.base.slot b o e n hb hx;obtain⟨sl',e2⟩:=slot b _ (neL b o e) hb (neC b o e hx) e1 (I.base.free b o e n hx);exact⟨sl',e2⟩
 ·obtain⟨o',e1⟩:=I.base.there b o e hx;exact free b o' (neC b o e hx) e1 (I.base.free b o e n hx)
 ·obtain⟨o',e1⟩:=I.base.there b o e hx;exact there b o' (neC b o e hx) e1
 ·obtain⟨m1,e1⟩:=I.base.tbls b ps e;obtain⟨m2,e2⟩:=tbls b _ e1;exact⟨m1++m2,by rw[e2,Array.append_assoc]⟩
 ·obtain⟨m,hn,hl⟩:=I.loc;refine⟨m,ns m hn,λi x v e1 e2 e3=>?_⟩;obtain⟨u,r,l⟩:=hl i x v e1 e2 e3;refine⟨u,r,?_⟩;rcases l with l|⟨k,c,e,z⟩
  ·exact .inl l
  ·exact .inr ⟨k,c,e,cellK x c e _ z⟩
 ·obtain⟨v,z⟩:=I.cell x c e;exact⟨v,cellK x c e v z⟩
 ·obtain⟨m,⟨o,_,_,ho,_⟩,_⟩:=I.loc;exact free _ o (λz=>(hch _ z).2.1 rfl) ho I.free
 ·obtain⟨v,o,ho,hd⟩:=I.cell x c e;exact free c o (λz=>(hch c z).2.2.1 x c e rfl) ho (I.freeC x c e)
 ·obtain⟨e,n,ne,nf,d⟩:=I.pin p hp;have nch:p.1∉ch:=λz=>(hch p.1 z).2.2.2 p hp rfl;exact⟨keep p.1 p.2 ne nf nch e n,free p.1 p.2 nch e n,ne,nf,d⟩
theorem Inv.un{t':Nat}(I:Inv X pins σ H s)(u:Un X.fs [] H H' s.heap h')(hok:o0 X.prog X.w H' h'):Inv X pins σ H' {s with heap:=h',toks:=t'}:=by
 obtain⟨m,⟨o,es,ep,ho,r⟩,_⟩:=id I.loc;obtain⟨sl,hL⟩:=u.any ho I.free (by simp);exact I.step (g':=s.gens) (d':=s.drawn) (ch:=[]) (λ_ z=>nomatch z) (λb o _ hb _ e n=>u.keep b o e n hb (by simp)) (λb o _ hb _ e n=>u.slot b o e n hb (by simp)) (λb o _ e n=>u.free b o e n (by simp)) (λb o _ e=>u.there b o e (by simp)) u.tups u.frzs u.tbls (λm' hm=>by
  obtain⟨o',es',ep',ho',r'⟩:=hm;rw[ho]at ho';cases ho';exact⟨_,es',ep',hL,r'⟩) hok I.bare
theorem Inv.call{g':Array GenState}{t':Nat}{d':Drawn}{ch:List Q4}(I:Inv X pins σ H s)(u:Un (frs X.stack) ch H H' s.heap h')(hok:o0 X.prog X.w H' h')(hg:AllBare g')
  (hch:∀b∈ch,(b∈X.ex\/X.s₀.heap.objs.size<=b)/\b≠X.env.locals/\(∀x c,X.env.cells.lookup x=some c->c≠b)/\∀p∈X.pn++pins,p.1≠b):
  Inv X pins σ H' {s with heap:=h',gens:=g',drawn:=d',toks:=t'}:=by
 obtain⟨m,⟨o,es,ep,ho,r⟩,_⟩:=id I.loc;obtain⟨sl,hL⟩:=u.any ho I.free λz=>(hch _ z).2.1 rfl;exact I.step (ch:=ch) hch (λb o hL hb hc e n=>u.keep b o e n (λz=>(List.mem_cons.mp (I.stkSub b z)).elim hL hb) hc) (λb o _ _ hc e n=>u.any e n hc) (λb o hc e n=>u.free b o e n hc) (λb o hc e=>u.there b o e hc) u.tups u.frzs u.tbls (λm' hm=>by
  obtain⟨o',es',ep',ho',r'⟩:=hm;rw[ho]at ho';cases ho';exact⟨_,es',ep',hL,r'⟩) hok hg
theorem Inv.turned{t':Nat}{it:Q4}(I:Inv X pins σ H s)(k:∀b o,b≠it->s.heap.get? b=some o->h'.get? b=some o)(hn:H it=none)(hL:it≠X.env.locals)
  (h1:it∈X.ex\/X.s₀.heap.objs.size<=it) (h2:∀x c,X.env.cells.lookup x=some c->c≠it) (h3:∀p∈X.pn++pins,p.1≠it):Inv X pins σ H {s with heap:=h',toks:=t'}:=by
 have nit:∀b u,H b=some u->b≠it:=λb u e z=>by rw[z,hn]at e;cases e
 refine I.step (g':=s.gens) (d':=s.drawn) (ch:=[it]) (λb hb=>?_) (λb o _ _ hc e _=>k b o (λz=>hc (by simp[z])) e) (λb o _ _ hc e _=>⟨o.slots,k b o (λz=>hc (by simp[z])) e⟩) (λ_ _ _ _ n=>n)
  (λb o hc e=>⟨o,k b o (λz=>hc (by simp[z])) e⟩) (λ_ _ e=>e) (λ_ _ _ e=>e) (λb ps e=>⟨#[],by rw[e];simp⟩) (λm hm=>?_) (λb u e=>?_) I.bare
 ·have e:b=it:=by simpa using hb
  subst e;exact⟨h1,hL,h2,h3⟩
 ·obtain⟨o,es,ep,ho,r⟩:=hm;exact⟨o,es,ep,k _ o (Ne.symm hL) ho,r⟩
 ·refine(I.hok b u e).stay (λc v hc q=>k c v ?_ q) (λ_ q=>q) λ_ _ q=>q;rcases hc with z|z
  ·rw[z];exact nit b u e
  ·exact nit c _ z
theorem Inv.tok(I:Inv X pins σ H s)(t:Nat):Inv X pins σ H {s with toks:=t}:=I.un (h':=s.heap) (t':=t) Un.refl I.hok
theorem Inv.kept{t':Nat}(I:Inv X pins σ H s)(k:∀b u,s.heap.get? b=some u->h'.get? b=some u):Inv X pins σ H {s with heap:=h',toks:=t'}:=I.un (Un.kept k) (I.hok.kept k)
theorem Inv.laid{a:Q4}{o:HO}{t':Nat}(I:Inv X pins σ H s)(k:∀b u,s.heap.get? b=some u->h'.get? b=some u)(hp:s.heap.objs.size<=a)(new:cS X.prog X.w (upd H a o) h' a o):
  Inv X pins σ (upd H a o) {s with heap:=h',toks:=t'}:=I.un (Un.laid k hp (I.hok.fresh hp)) (I.hok.laid k hp new)
theorem Inv.write{x e:Q4}{o:HO}{t':Nat}(I:Inv X pins σ H s)(mu:Ih (H x))(he:e=x\/H e=some (.own x))(k:∀b u,b≠e->s.heap.get? b=some u->h'.get? b=some u)(heo:∃u,h'.get? e=some u)
  (new:cS X.prog X.w (upd H x o) h' x o):Inv X pins σ (upd H x o) {s with heap:=h',toks:=t'}:=I.un (Un.write mu he k heo) (I.hok.write mu he k heo new)
theorem Inv.pins_of{pins':List (Q4×Obj)}(I:Inv X pins σ H s)(h:∀p∈pins',s.heap.get? p.1=some p.2/\H p.1=none/\p.1≠X.env.locals/\p.1∉X.fs/\∀v,p.2.data≠.cell v):Inv X pins' σ H s:=
 ⟨I.ok,I.os,I.bare,I.base,I.loc,I.cell,I.free,I.freeC,λp hp=>(List.mem_append.mp hp).elim (λz=>I.pin p (Nw _ z)) (h p),I.hok,I.len⟩
theorem wF{N:List Str}(hN:N.Nodup){i j:Nat}{x:Str}(a:N[i]?=some x)(b:N[j]?=some x):i=j:=by
 obtain⟨h1,e1⟩:=List.getElem?_eq_some_iff.mp a;obtain⟨h2,e2⟩:=List.getElem?_eq_some_iff.mp b;exact(List.getElem_inj hN).mp (e1.trans e2.symm)
theorem uB{M:Model}{A:Rc}{E:Q1->Rf->Prop}{i:Nat}{x:Str}{v:V}{u:Q1}{Q:Unit->Rf->Prop}(I:Inv X pins σ H s)(hN:X.N.Nodup)(hi:X.N[i]?=some x)(hx:Loc X.env.scope x)(r:RelV v u)
  (h:∀s',Inv X pins (σ.set i (some v)) H s'->(∃a,QA a s.heap s'.heap/\(a=X.env.locals\/X.env.cells.lookup x=some a))->Q () s') (hf:X.fn x=true\/X.env.scope.names.lookup x=some .local:=by first|exact .inl rfl|exact .inr rfl|assumption):Rh M A (storeName X.env x u) Q E s:=by
 obtain⟨m,hn,hl⟩:=id I.loc;have hcls:(X.env.scope.kind==.class||(X.env.scope.kind==.module&&X.env.locals !=X.env.globals))=false:=by rw[I.ok.kind];rfl
 have hiσ:i<σ.length:=by rw[I.len];exact(List.getElem?_eq_some_iff.mp hi).1
 have cne:=I.cne;have tracked:∀{a:Q4}{h':Q6},(∃o,s.heap.get? a=some o/\H a=none)->QA a s.heap h'->o0 X.prog X.w H h':=λ{a h'} ha hs b ob e=>by
  obtain⟨_,_,hfree⟩:=ha;refine(I.hok b ob e).stay (λc w' hc q=>(hs.2 c ?_).trans q) (λ_ q=>q) λ_ _ q=>q;rintro rfl;rcases hc with rfl|hc
  ·rw[hfree]at e;cases e
  ·rw[hfree]at hc;cases hc
 rcases hx with hk|hk
 ·refine wpAny_storeName_local hk hn (λh' hn' hs=>?_) hcls;obtain⟨oL,_,_,hoL,_⟩:=id hn;refine h _ ⟨I.ok,I.os,I.bare,⟨λb o e n hb hx=>?_,λb o e n hb hx=>?_,I.base.free,λb o e hx=>?_,I.base.tups,I.base.frzs,I.base.tbls⟩,⟨_,hn',λj y v' e1 e2 e3=>?_⟩,λy c e=>?_,I.free,I.freeC,λp hp=>?_,tracked ⟨oL,hoL,I.free⟩ hs,by simpa using I.len⟩ ⟨_,hs,.inl rfl⟩
  ·exact(hs.2 b (Np (Nm (Qy e) I.ok.above))).trans (I.base.keep b o e n hb hx)
  ·obtain⟨sl,e1⟩:=I.base.slot b o e n hb hx;exact⟨sl,(hs.2 b (Np (Nm (Qy e) I.ok.above))).trans e1⟩
  ·obtain⟨o',e1⟩:=I.base.there b o e hx;exact⟨o',(hs.2 b (Np (Nm (Qy e) I.ok.above))).trans e1⟩
  ·by_cases hj:j=i
   ·subst hj;rw[hi]at e1;cases e1;rw[Nx hiσ]at e2;cases e2;exact⟨u,r,.inl ⟨hk,by simp⟩⟩
   ·rw[Ny (Ne.symm hj)]at e2;obtain⟨u',r',q⟩:=hl j y v' e1 e2 e3;refine⟨u',r',?_⟩;rcases q with⟨k,e⟩|⟨k,c,e,z⟩
    ·refine .inl ⟨k,?_⟩
     have:y≠x:=λe=>hj (wF hN e1 (e ▸ hi))
     simp[this,e]
    ·exact .inr ⟨k,c,e,z.sameBut hs (cne y c e)⟩
  ·obtain⟨w',z⟩:=I.cell y c e;exact⟨w',z.sameBut hs (cne y c e)⟩
  ·obtain⟨e,n,ne,nf,d⟩:=I.pin p hp;exact⟨(hs.2 p.1 ne).trans e,n,ne,nf,d⟩
 ·have hfn:X.fn x=true:=by
   rcases hf with z|z
   ·exact z
   ·rw[z]at hk;cases hk
  obtain⟨c,hc⟩:=I.ok.has x (.inl hk);obtain⟨w',z⟩:=I.cell x c hc;refine wpAny_storeName_cell I.ok.kind hk hc z (λh' hc' hs=>?_);obtain⟨oc,hoc,hocd⟩:=id z;refine h {s with heap:=h'} ⟨I.ok,I.os,I.bare,⟨λb o e n hb hx=>?_,λb o e n hb hx=>?_,I.base.free,λb o e hx=>?_,I.base.tups,I.base.frzs,I.base.tbls⟩,⟨m,hn.sameBut hs (Ne.symm (cne x c hc)),λj y v' e1 e2 e3=>?_⟩,λy c' e=>?_,I.free,I.freeC,λp hp=>?_,tracked ⟨oc,hoc,I.freeC x c hc⟩ hs,by simpa using I.len⟩ ⟨c,hs,.inr hc⟩
  ·exact(hs.2 b (Np (Nm (Qy e) (I.ok.cab x c hfn hc)))).trans (I.base.keep b o e n hb hx)
  ·obtain⟨sl,e1⟩:=I.base.slot b o e n hb hx;exact⟨sl,(hs.2 b (Np (Nm (Qy e) (I.ok.cab x c hfn hc)))).trans e1⟩
  ·obtain⟨o',e1⟩:=I.base.there b o e hx;exact⟨o',(hs.2 b (Np (Nm (Qy e) (I.ok.cab x c hfn hc)))).trans e1⟩
  ·by_cases hj:j=i
   ·subst hj;rw[hi]at e1;cases e1;rw[Nx hiσ]at e2;cases e2;exact⟨u,r,.inr ⟨.inl hk,c,hc,hc'⟩⟩
   ·rw[Ny (Ne.symm hj)]at e2;obtain⟨u',r',q⟩:=hl j y v' e1 e2 e3;refine⟨u',r',?_⟩;rcases q with q|⟨k,c',e,z'⟩
    ·exact .inl q
    ·refine .inr ⟨k,c',e,z'.sameBut hs ?_⟩;rintro rfl;exact hj (wF hN e1 (I.ok.inj _ _ _ e hc ▸ hi))
  ·by_cases hcc:c'=c
   ·subst hcc;exact⟨_,hc'⟩
   ·obtain⟨w2,z2⟩:=I.cell y c' e;exact⟨w2,z2.sameBut hs hcc⟩
  ·obtain⟨e,n,ne,nf,d⟩:=I.pin p hp;refine⟨(hs.2 p.1 ?_).trans e,n,ne,nf,d⟩;intro q;rw[q,hoc]at e;have q':oc=p.2:=Option.some.inj e;exact d w' (by rw[<-q'];exact hocd)
theorem wz{M:Model}{A:Rc}{E:Q1->Rf->Prop}{i:Nat}{x:Str}{v:V}{u:Q1}{Q:Unit->Rf->Prop}(I:Inv X pins σ H s)(hN:X.N.Nodup)(hi:X.N[i]?=some x)(hx:Loc X.env.scope x)(r:RelV v u)
  (h:∀s',Inv X pins (σ.set i (some v)) H s'->Q () s') (hf:X.fn x=true\/X.env.scope.names.lookup x=some .local:=by first|exact .inl rfl|exact .inr rfl|assumption):Rh M A (storeName X.env x u) Q E s:=
 uB I hN hi hx r (λs' I' _=>h s' I') hf
theorem Inv.call'{s':Rf}{ch:List Q4}(I:Inv X pins σ H s)(ho:s'.os=s.os)(u:Un (frs X.stack) ch H H' s.heap s'.heap)(hok:o0 X.prog X.w H' s'.heap)(hg:AllBare s'.gens)
  (hch:∀b∈ch,(b∈X.ex\/X.s₀.heap.objs.size<=b)/\b≠X.env.locals/\(∀x c,X.env.cells.lookup x=some c->c≠b)/\∀p∈X.pn++pins,p.1≠b):Inv X pins σ H' s':=by
 obtain⟨h',g',d',t',o'⟩:=s';have e:o'=s.os:=ho;subst e;exact I.call (g':=g') (t':=t') (d':=d') u hok hg hch
end
abbrev XK:=Q1->Option Q4->Hp->Prop
abbrev St:=List (Option V)
abbrev VK:=V->Hp->Prop
abbrev TE:=St->Hp->VK->Prop
abbrev TT:=St->Hp->(Bool->Hp->Prop)->Prop
abbrev TA:=St->Hp->(List V->Hp->Prop)->Prop
structure Ends where
 nx:St->Hp->Prop
 rt:VK
 bk:St->Hp->Prop:=λ_ _=>False
 ct:St->Hp->Prop:=λ_ _=>False
abbrev TS:=Ends->St->Hp->Prop
def EP(X:Cx)(pins:List (Q4×Obj))(σ:St)(Q:VK)(u:Q1)(s':Rf):Prop:=∃v H',Inv X pins σ H' s'/\RelV v u/\Q v H'
def TP(X:Cx)(pins:List (Q4×Obj))(σ:St)(Q:Bool->Hp->Prop)(b:Bool)(s':Rf):Prop:=∃H',Inv X pins σ H' s'/\Q b H'
def AP(X:Cx)(pins:List (Q4×Obj))(σ:St)(Q:List V->Hp->Prop)(us:List Q1)(s':Rf):Prop:=∃vs H',Inv X pins σ H' s'/\Vals vs us/\Q vs H'
def SP(X:Cx)(pins:List (Q4×Obj))(D:Ends)(f:Flow)(s':Rf):Prop:=
 match f with
 |.next=>∃σ' H',Inv X pins σ' H' s'/\D.nx σ' H'
 |.brk=>∃σ' H',Inv X pins σ' H' s'/\D.bk σ' H'
 |.cont=>∃σ' H',Inv X pins σ' H' s'/\D.ct σ' H'
 |.ret u=>∃v σ' H',Inv X pins σ' H' s'/\RelV v u/\D.rt v H'
def PE(X:Cx)(e:Ri)(t:TE):Prop:=
 ∀(pins:List (Q4×Obj))(s:Rf)(σ:St)(H:Hp)(Q:VK),Inv X pins σ H s->t σ H Q->Rh (model X.prog X.w) X.A (eval e X.env) (EP X pins σ Q) X.xe s
def PT(X:Cx)(e:Ri)(t:TT):Prop:=
 ∀(pins:List (Q4×Obj))(s:Rf)(σ:St)(H:Hp)(Q:Bool->Hp->Prop),Inv X pins σ H s->t σ H Q->Rh (model X.prog X.w) X.A (isTrue e X.env (eval e X.env)) (TP X pins σ Q) X.xe s
def PW(X:Cx)(e:Ri)(t:TT):Prop:=
 ∀(whole:Sem Q1)(pins:List (Q4×Obj))(s:Rf)(σ:St)(H:Hp)(Q:Bool->Hp->Prop),Inv X pins σ H s->t σ H Q->Rh (model X.prog X.w) X.A (isTrue e X.env whole) (TP X pins σ Q) X.xe s
theorem PW.pt{X:Cx}{e:Ri}{t:TT}(h:PW X e t):PT X e t:=h _
def PA(X:Cx)(es:List Ri)(t:TA):Prop:=
 ∀(pos:Pos)(pins:List (Q4×Obj))(s:Rf)(σ:St)(H:Hp)(Q:List V->Hp->Prop),Inv X pins σ H s->t σ H Q->Rh (model X.prog X.w) X.A (spliced (backTo pos (Rj es X.env))) (AP X pins σ Q) X.xe s
def PS(X:Cx)(st:Rl)(t:TS):Prop:=
 ∀(pins:List (Q4×Obj))(s:Rf)(σ:St)(H:Hp)(D:Ends),Inv X pins σ H s->t D σ H->Rh (model X.prog X.w) X.A (exec st X.env) (SP X pins D) X.xe s
def BR(X:Cx)(st:List Rl)(t:TS):Prop:=
 ∀(pins:List (Q4×Obj))(s:Rf)(σ:St)(H:Hp)(D:Ends),Inv X pins σ H s->t D σ H->Rh (model X.prog X.w) X.A (execs st X.env) (SP X pins D) X.xe s
theorem fj{α:Type}{t:Sem α}{Q Q':α->Rf->Prop}{M:Model}{A:Rc}{E:Q1->Rf->Prop}{s:Rf}(h:Rh M A t Q E s)(hQ:∀a s,Q a s->Q' a s):Rh M A t Q' E s:=Rm h hQ λ_ _ x=>x
section
variable{X:Cx}
def xI(i:Nat):TE:=λσ H Q=>∃v,σ[i]?=some (some v)/\Q v H
def tC(v:V):TE:=λ_ H Q=>Q v H
theorem G5{i:Nat}{x:Str}{pos:Pos}(hN:X.N[i]?=some x)(hv:HM X.env.scope x)(hd:(x==("__debug__":Str))=false:=by decide)(hcd:(x==("__classdict__":Str))=false:=by decide):PE X (.Name x pos) (xI i):=by
 intro pins s σ H Q I h;obtain⟨v,e,h⟩:=h;obtain⟨m,hn,hl⟩:=I.loc;obtain⟨u,r,l⟩:=hl i x v hN e hv;have fin:EP X pins σ Q u s:=⟨v,H,I,r,h⟩
 rcases l with⟨hk,hm⟩|⟨hk,c,hc,hcell⟩
 ·exact Rn (wpAny_loadName_local I.ok.kind hk hn hm fin) hd
 ·rcases hk with hk|hk
  ·exact Rn (wpAny_loadName_cell I.ok.kind hk hc hcell fin) hd
  ·exact Rn (wpAny_loadName_free I.ok.kind hk hc hcell fin hcd) hd
theorem Di{i j pos}:PE X (.Constant (.int i) j pos) (tC (.int i)):=λ_ _ _ H _ I h=>wpAny_Constant_int ⟨.int i,H,I.tok _,⟨_,rfl⟩,h⟩
theorem Iz{b j pos}:PE X (.Constant (.bool b) j pos) (tC (.bl b)):=λ_ _ _ H _ I h=>Constant_bool ⟨.bl b,H,I,rfl,h⟩
theorem GW{j pos}:PE X (.Constant .none j pos) (tC .non):=λ_ _ _ H _ I h=>Constant_none ⟨.non,H,I,rfl,h⟩
theorem HS{x j pos}:PE X (.Constant (.str x) j pos) (tC (.str x)):=λ_ _ _ H _ I h=>Calls.Constant_str ⟨.str x,H,I.tok _,⟨_,rfl⟩,h⟩
def Gl(X:Cx)(x:Str):Prop:=X.env.kindOf x=some .globalImplicit
theorem vy{E:Q1->Rf->Prop}{pins:List (Q4×Obj)}{s:Rf}{σ:St}{H:Hp}{x:Str}{u:Q1}{pos:Pos}{Q:Q1->Rf->Prop}(I:Inv X pins σ H s)(hg:Gl X x)(hm:X.mg x=some u)(h:Q u s)
  (hd:(x==("__debug__":Str))=false:=by decide):Rh (model X.prog X.w) X.A (eval (.Name x pos) X.env) Q E s:=
 Calls.Name_function_global I.ok.kind hg (Calls.loadGlobal_global (by rw[I.ok.glob];exact I.mod.glob.keeps I.bk) hm h) hd
theorem my{E:Q1->Rf->Prop}{pins:List (Q4×Obj)}{s:Rf}{σ:St}{H:Hp}{x:Str}{u:Q1}{pos:Pos}{Q:Q1->Rf->Prop}(I:Inv X pins σ H s)(hg:Gl X x)(hm:X.mg x=none)(hv:Rb x=some u)(h:Q u s)
  (hn:x≠"__name__":=by decide) (hd:(x==("__debug__":Str))=false:=by decide):Rh (model X.prog X.w) X.A (eval (.Name x pos) X.env) Q E s:=by
 obtain⟨mb,h1,h2⟩:=I.mod.blt;exact Calls.Name_function_global I.ok.kind hg (Calls.loadGlobal_builtin (by rw[I.ok.glob];exact I.mod.glob.keeps I.bk) hm (by rw[I.ok.blt];exact h1.keeps I.bk) ((h2 x hn).trans hv) h) hd
theorem D4{x:Str}{v:V}{u:Q1}{pos:Pos}(hg:Gl X x)(hm:X.mg x=some u)(r:RelV v u)(hd:(x==("__debug__":Str))=false:=by decide):PE X (.Name x pos) (tC v):=
 λ_ _ _ H _ I h=>vy I hg hm ⟨v,H,I,r,h⟩ hd
theorem EH{x:Str}{v:V}{u:Q1}{pos:Pos}(hg:Gl X x)(hm:X.mg x=none)(hv:Rb x=some u)(r:RelV v u)(hn:x≠"__name__":=by decide)(hd:(x==("__debug__":Str))=false:=by decide):PE X (.Name x pos) (tC v):=
 λ_ _ _ H _ I h=>my I hg hm hv ⟨v,H,I,r,h⟩ hn hd
variable{a b:Ri}{ta tb:TE}{pos:Pos}
def tB(t:TE):TT:=λσ H Q=>t σ H λx H1=>∃c,x=.bl c/\Q c H1
variable{tA tB':TT}{rest:List Ri}
def MZ(t u:TT):TT:=λσ H Q=>t σ H λc H1=>if c=true then Q true H1 else u σ H1 Q
def Lh(t:TT):TT:=λσ H Q=>t σ H λc H1=>Q (!c) H1
theorem GY(ha:PT X a tA):PW X (.BoolOp .Or [a] pos) tA:=by
 intro wh pins s σ H Q I h;refine isTrue_or (fj (ha pins s σ H Q I h) λc s1 e=>?_);cases c with
 |false=>exact isTrue_or_nil e
 |true=>exact e
theorem Je(ha:PT X a tA)(hb:PW X (.BoolOp .Or (b::rest) pos) tB'):PW X (.BoolOp .Or (a::b::rest) pos) (MZ tA tB'):=by
 intro wh pins s σ H Q I h;refine isTrue_or (fj (ha pins s σ H _ I h) λc s1 ⟨H1,I1,q1⟩=>?_);cases c with
 |true=>exact⟨H1,I1,q1⟩
 |false=>exact hb wh pins s1 σ H1 Q I1 q1
theorem Hw(ha:PT X a tA):PT X (.UnaryOp .Not a pos) (Lh tA):=by
 intro pins s σ H Q I h;exact isTrue_not (ha pins s σ H (λc H1=>Q (!c) H1) I h)
def JS(ta tb:TE):TE:=λσ H Q=>ta σ H λx H1=>∃c,x=.bl c/\if c=true then tb σ H1 Q else Q (.bl false) H1
theorem He{op}{t:TE}(h:PE X a t):PE X (.BoolOp op [a] pos) t:=λpins s σ H Q I hw=>BoolOp_one (h pins s σ H Q I hw)
theorem Hi(ha:PE X a ta)(hb:PE X (.BoolOp .And (b::rest) pos) tb):PE X (.BoolOp .And (a::b::rest) pos) (JS ta tb):=by
 intro pins s σ H Q I h;refine BoolOp_and (fj (ha pins s σ H _ I h) λv s1 ⟨x,H1,I1,r1,q1⟩=>?_);obtain⟨c,rfl,q1⟩:=q1;cases r1;refine Ro ?_;cases c with
 |true=>exact hb pins s1 σ H1 Q I1 q1
 |false=>exact⟨.bl false,H1,I1,rfl,q1⟩
def M4(t:TT)(ta tb:TE):TE:=λσ H Q=>t σ H λc H1=>if c=true then ta σ H1 Q else tb σ H1 Q
theorem Ct{c:Ri}(hc:PT X c tA)(ha:PE X a ta)(hb:PE X b tb):PE X (.IfExp c a b pos) (M4 tA ta tb):=by
 intro pins s σ H Q I h;refine wpAny_IfExp (fj (hc pins s σ H _ I h) λd s1 ⟨H1,I1,q1⟩=>?_);cases d with
 |true=>exact ha pins s1 σ H1 Q I1 q1
 |false=>exact hb pins s1 σ H1 Q I1 q1
end
def ot(K:P5)(H:Hp)(a:Q4)(xs:List V):Prop:=
 Rd H a (.lst xs) \/
  ∃(o:Obj)(its:Array Q1)(n:Nat),K.lookup a=some o/\o.cls=.type "list"/\o.dict=none/\o.data=.seq its n/\its.size<=Q7/\Vals xs its.toList
def p8(K:P5)(H:Hp)(a:Q4)(xs:List V):Prop:=
 Rd H a (.tup xs) \/
  ∃(o:Obj)(its:Array Q1)(n:Nat),K.lookup a=some o/\o.cls=.type "tuple"/\o.data=.seq its n/\its.size<=Q7/\Vals xs its.toList
def L6:Q1->Option V
 |.none=>some .non
 |.bool b=>some (.bl b)
 |.int i _=>some (.int i)
 |.str x _=>some (.str x)
 |.bytes b _=>some (.byt b)
 |.float b _=>some (.flt b)
 |.ref a=>some (.ref a)
 |.type n=>some (.ty n)
 |_=>none
theorem RelV.abs{x:V}{u:Q1}(r:RelV x u):L6 u=some x:=by
 cases x with
 |non=>cases r;rfl
 |bl _=>cases r;rfl
 |int _=>obtain⟨t,rfl⟩:=r;rfl
 |str _=>obtain⟨t,rfl⟩:=r;rfl
 |byt _=>obtain⟨t,rfl⟩:=r;rfl
 |flt _=>obtain⟨t,rfl⟩:=r;rfl
 |ref _=>cases r;rfl
 |ty _=>cases r;rfl
theorem RelV.inj{x y:V}{u:Q1}(r:RelV x u)(q:RelV y u):x=y:=Option.some.inj (r.abs.symm.trans q.abs)
theorem Vals.inj:∀{xs ys:List V}{us:List Q1},Vals xs us->Vals ys us->xs=ys
 |_,_,_,.nil,.nil=>rfl
 |_,_,_,.cons r t,.cons r' t'=>by rw[r.inj r',Vals.inj t t']
section
variable{X:Cx}{pins:List (Q4×Obj)}{σ:St}{H:Hp}{s:Rf}{a:Q4}{xs ys:List V}
theorem ot.of{K:P5}(h:H a=some (.lst xs)):ot K H a xs:=.inl (.inl h)
theorem p8.of{K:P5}(h:H a=some (.tup xs)):p8 K H a xs:=.inl (.inl h)
theorem Inv.list(I:Inv X pins σ H s)(h:ot X.K H a xs):∃its:List Q1,Vals xs its/\PlainL s.heap a its.toArray/\xs.length<=Q7:=by
 rcases h with h|⟨o,its,n,hk,hc,hd,hs,hz,r⟩
 ·obtain⟨z,its,n,r,e⟩:=h.ok I.hok;exact⟨its,r,⟨_,n,e,rfl,rfl,rfl⟩,z⟩
 ·refine⟨its.toList,r,⟨o,n,I.kIn a o hk,hc,hd,by simpa using hs⟩,?_⟩;have e:=r.length;simp only[Array.length_toList]at e;omega
theorem Inv.tuple(I:Inv X pins σ H s)(h:p8 X.K H a xs):∃its:List Q1,Vals xs its/\Q8 s.heap a its.toArray/\xs.length<=Q7:=by
 rcases h with h|⟨o,its,n,hk,hc,hs,hz,r⟩
 ·obtain⟨z,its,r,p⟩:=h.ok I.hok;exact⟨its,r,p,z⟩
 ·refine⟨its.toList,r,⟨o,I.kIn a o hk,hc,n,by simpa using hs⟩,?_⟩;have e:=r.length;simp only[Array.length_toList]at e;omega
theorem Inv.list_inj(I:Inv X pins σ H s)(h:ot X.K H a xs)(h':ot X.K H a ys):xs=ys:=by
 obtain⟨its,r,⟨o,n,e,_,_,d⟩,_⟩:=I.list h;obtain⟨its',r',⟨o',n',e',_,_,d'⟩,_⟩:=I.list h';rw[e]at e';cases e';rw[d]at d';injection d' with d1 _
 have:its=its':=by simpa using congrArg Array.toList d1
 subst this;exact r.inj r'
theorem Inv.tuple_inj(I:Inv X pins σ H s)(h:p8 X.K H a xs)(h':p8 X.K H a ys):xs=ys:=by
 obtain⟨its,r,⟨o,e,_,n,d⟩,_⟩:=I.tuple h;obtain⟨its',r',⟨o',e',_,n',d'⟩,_⟩:=I.tuple h';rw[e]at e';cases e';rw[d]at d';injection d' with d1 _
 have:its=its':=by simpa using congrArg Array.toList d1
 subst this;exact r.inj r'
end
section
variable{X:Cx}{st:Rl}{rest:List Rl}{t u:TS}{e:Ri}{te:TE}{pos:Pos}
def IV:TS:=λD σ H=>D.nx σ H
def KQ(t u:TS):TS:=λD σ H=>t {D with nx:=u D} σ H
theorem EV:BR X [] IV:=λ_ _ σ H _ I h=>Rp ⟨σ,H,I,h⟩
theorem C8(h1:PS X st t)(h2:BR X rest u):BR X (st::rest) (KQ t u):=by
 intro pins s σ H D I h;refine wpAny_execs_cons (fj (h1 pins s σ H {D with nx:=u D} I h) λf s1 q=>?_);cases f with
 |next=>
  obtain⟨σ',H',I',q⟩:=q;exact h2 pins s1 σ' H' D I' q
 |ret v=>exact q
 |brk=>exact q
 |cont=>exact q
theorem Em(h1:PS X st t):BR X [st] t:=by
 intro pins s σ H D I h;refine wpAny_execs_cons (fj (h1 pins s σ H D I h) λf s1 q=>?_);cases f with
 |next=>exact Rp q
 |ret v=>exact q
 |brk=>exact q
 |cont=>exact q
theorem Inv.quiet{pins:List (Q4×Obj)}{σ:St}{H:Hp}{s:Rf}(I:Inv X pins σ H s):interactive X.env=false:=by simp[interactive,I.ok.kind]
def IB(te:TE):TS:=λD σ H=>te σ H λ_ H1=>D.nx σ H1
theorem zZ(he:PE X e te)(hs:swapsWith e none pos.line X.env=pure false:=by rfl):PS X (.Expr e pos) (IB te):=by
 intro pins s σ H D I h;exact wpAny_Expr_any (fj (he pins s σ H _ I h) λv s1 ⟨x,H1,I1,r1,q1⟩=>⟨σ,H1,I1,q1⟩) I.quiet hs
def MA(te:TE):TS:=λD σ H=>te σ H D.rt
theorem G3(he:PE X e te):PS X (.Return (some e) pos) (MA te):=by
 intro pins s σ H D I h;exact wpAny_Return_some (fj (he pins s σ H _ I h) λv s1 ⟨x,H1,I1,r1,q1⟩=>⟨x,σ,H1,I1,r1,q1⟩)
def Lf(c:TT)(t u:TS):TS:=λD σ H=>c σ H λb H1=>if b=true then t D σ H1 else u D σ H1
theorem IR{c:Ri}{a b:List Rl}{tc:TT}(hc:PT X c tc)(ha:BR X a t)(hb:BR X b u):PS X (.If c a b pos) (Lf tc t u):=by
 intro pins s σ H D I h;refine wpAny_If (fj (hc pins s σ H _ I h) λd s1 ⟨H1,I1,q1⟩=>?_);cases d with
 |true=>exact ha pins s1 σ H1 D I1 q1
 |false=>exact hb pins s1 σ H1 D I1 q1
end
abbrev TG:=V->St->Hp->(St->Hp->Prop)->Prop
abbrev FU:=List V->St->Hp->(St->Hp->Prop)->Prop
def PG(X:Cx)(target:Ri)(t:TG):Prop:=
 ∀(pins:List (Q4×Obj))(s:Rf)(σ:St)(H:Hp)(v:V)(u:Q1)(Q:St->Hp->Prop),Inv X pins σ H s->RelV v u->t v σ H Q->
  Rh (model X.prog X.w) X.A (assign target X.env u) (λ_ s'=>∃σ' H',Inv X pins σ' H' s'/\Q σ' H') X.xe s
def Iw(X:Cx)(ts:List Ri)(t:FU):Prop:=
 ∀(pins:List (Q4×Obj))(s:Rf)(σ:St)(H:Hp)(vs:List V)(us:List Q1)(Q:St->Hp->Prop),Inv X pins σ H s->Vals vs us->t vs σ H Q->
  Rh (model X.prog X.w) X.A (assignInOrder ((assignEach ts X.env).map (·.2)) us) (λ_ s'=>∃σ' H',Inv X pins σ' H' s'/\Q σ' H') X.xe s
section
variable{X:Cx}{pos:Pos}
def uf(i:Nat):TG:=λv σ H Q=>Q (σ.set i (some v)) H
theorem D9{i:Nat}{x:Str}(hN:X.N.Nodup)(hi:X.N[i]?=some x)(hx:Loc X.env.scope x)(hf:X.fn x=true\/X.env.scope.names.lookup x=some .local:=by first|exact .inl rfl|exact .inr rfl|assumption):PG X (.Name x pos) (uf i):=by
 intro pins s σ H v u Q I r h;exact wpAny_assign_Name (wz I hN hi hx r (λs' I'=>⟨_,H,I',h⟩) hf)
def LZ:FU:=λvs σ H Q=>vs=[]/\Q σ H
def Io(t:TG)(u:FU):FU:=λvs σ H Q=>∃v r,vs=v::r/\t v σ H λσ' H'=>u r σ' H' Q
theorem Fy:Iw X [] LZ:=by
 intro pins s σ H vs us Q I r h;obtain⟨e,h⟩:=h;subst e;cases r;exact assignInOrder_nil ⟨σ,H,I,h⟩
theorem CP{e:Ri}{es:List Ri}{t:TG}{u:FU}(h1:PG X e t)(h2:Iw X es u)
  (hs:(assignEach (e::es) X.env).map (·.2)=assign e X.env::(assignEach es X.env).map (·.2):=by rfl):Iw X (e::es) (Io t u):=by
 intro pins s σ H vs us Q I r h;obtain⟨v,vr,e1,h⟩:=h;subst e1;cases r with
 |cons r rr=>
  rw[hs];refine assignInOrder_cons (fj (h1 pins s σ H _ _ _ I r h) λ_ s1 ⟨σ1,H1,I1,q1⟩=>?_);exact h2 pins s1 σ1 H1 _ _ Q I1 rr q1
def LJ(K:P5)(n:Nat)(t:FU):TG:=λv σ H Q=>∃a xs,v=.ref a/\p8 K H a xs/\xs.length=n/\t xs σ H Q
theorem GL{es:List Ri}{k:Nat}{t:FU}{n:Nat}(hc:X.calm=true)(h:Iw X es t)
  (hn:(assignEach es X.env).length=n:=by rfl) (hst:(assignEach es X.env).findIdx? (·.1)=none:=by rfl):PG X (.Tuple es k pos) (LJ X.K n t):=by
 intro pins s σ H v u Q I r hw;obtain⟨a,xs,e1,hq,hl,hw⟩:=hw;subst e1;cases r;obtain⟨its,rv,ht,hz⟩:=I.tuple hq;refine assign_Tuple_tuple (I.ok.hd hc) ht (by simp[hn,<-hl,rv.length]) hst λh' hx=>?_;have I1:Inv X pins σ H {s with heap:=h'}:=I.kept (t':=s.toks) λb o e=>hx b o (Np (Qy e)) e;exact h pins _ σ H xs _ Q I1 (by simpa using rv) hw
def Dr(te:TE)(g:TG):TS:=λD σ H=>te σ H λx H1=>g x σ H1 D.nx
theorem Gy{tg e:Ri}{te:TE}{g:TG}(he:PE X e te)(hg:PG X tg g)(hs:swapsWithSole [tg] e pos.line X.env=pure false:=by rfl)(hw:swappedStores [tg] e X.env=pure none:=by rfl)
  (h1:(assignEach [tg] X.env).map (·.2)=[assign tg X.env]:=by rfl):PS X (.Assign [tg] e pos) (Dr te g):=by
 intro pins s σ H D I h;refine wpAny_Assign_stores (fj (he pins s σ H _ I h) λv s1 ⟨x,H1,I1,r1,q1⟩=>?_) hs hw;rw[h1];exact fj (hg pins s1 σ H1 x v _ I1 r1 q1) λ_ s2 q=>q
theorem zo{i:Nat}{x:Str}{e:Ri}{te:TE}{pos':Pos}(hN:X.N.Nodup)(hi:X.N[i]?=some x)(hx:Loc X.env.scope x)(he:PE X e te)(hs:swapsWith e (some (.Name x pos')) pos.line X.env=pure false:=by rfl)(hf:X.fn x=true\/X.env.scope.names.lookup x=some .local:=by first|exact .inl rfl|exact .inr rfl|assumption):
  PS X (.Assign [.Name x pos'] e pos) (Dr te (uf i)):=by
 intro pins s σ H D I h;refine wpAny_Assign_Name (fj (he pins s σ H _ I h) λv s1 ⟨y,H1,I1,r1,q1⟩=>?_) hs;exact wz I1 hN hi hx r1 (λs2 I2=>⟨_,H1,I2,q1⟩) hf
end
structure It where
 go:Nat->Hp->Prop
 yld:Nat->Hp->V->Hp->Prop
 stop:Nat->Hp->Prop
def tP(X:Cx)(pins:List (Q4×Obj))(H:Hp)(b:Q4):Prop:=
 H b=none/\b≠X.env.locals/\b∉X.fs/\(b∈X.ex\/X.s₀.heap.objs.size<=b)/\(∀x c,X.env.cells.lookup x=some c->c≠b)/\∀p∈X.pn++pins,p.1≠b
theorem Inv.fpOk{X:Cx}{pins:List (Q4×Obj)}{σ:St}{H H':Hp}{s:Rf}{b:Q4}(I:Inv X pins σ H s)(hb:s.heap.objs.size<=b)(hn:H' b=none):tP X pins H' b:=by
 refine⟨hn,Nz (Nm I.lt hb),I.nofs hb,.inr (Nq I.sz hb),λx c e z=>?_,λp hp z=>?_⟩
 ·obtain⟨v,q⟩:=I.cell x c e;exact absurd (Nm q.lt (by rw[z];exact hb)) (Nn _)
 ·exact absurd (Nm (Qy (I.pin p hp).1) (by rw[z];exact hb)) (Nn _)
structure Turn(P:Q3)(w:Q2)(K:P5)(tg:Ri)(J:It)(fp:List Q4)(it:Q4)(tn:Nat->Q6->Prop):Prop where
 mem:it∈fp
 obj:∀i h,tn i h->∀b∈fp,∃o,h.get? b=some o/\∀v,o.data≠.cell v
 keep:∀i h h',tn i h->(∀b∈fp,∀o,h.get? b=some o->h'.get? b=some o)->tn i h'
 item:∀(X:Cx),X.prog=P->X.w=w->X.K=K->X.calm=true->∀(i:Nat)(pins:List (Q4×Obj))(s:Rf)(σ:St)(H:Hp)(E:Q1->Rf->Prop),Inv X pins σ H s->(∀b∈fp,tP X pins H b)->tn i s.heap->J.go i H->
  Rh (model P w) X.A (pyNext (.ref it)) (λr s1=>∃u,r=some u/\
   Rh (model P w) X.A (letOwnedTupleGo tg (.ref it) u) (λ_ s2=>∃x H',Inv X pins σ H' s2/\RelV x u/\J.yld i H x H'/\tn (i+1) s2.heap/\∀b∈fp,H' b=none) E s1) E s
 done:∀(X:Cx),X.prog=P->X.w=w->X.K=K->X.calm=true->∀(i:Nat)(pins:List (Q4×Obj))(s:Rf)(σ:St)(H:Hp)(E:Q1->Rf->Prop),Inv X pins σ H s->(∀b∈fp,tP X pins H b)->tn i s.heap->J.stop i H->
  Rh (model P w) X.A (pyNext (.ref it)) (λr s1=>r=none/\Inv X pins σ H s1) E s
 self:∀(A:Rc)(i:Nat)(s:Rf)(Q:Q1->Rf->Prop)(E:Q1->Rf->Prop),tn i s.heap->Q (.ref it) s->Rh (model P w) A (pyIter (.ref it)) Q E s
abbrev TI:=St->Hp->(It->Hp->Prop)->Prop
def PIE(X:Cx)(pins:List (Q4×Obj))(σ:St)(tg:Ri)(R:It->Hp->Prop)(itv:Q1)(s2:Rf):Prop:=
 ∃(it:Q4)(fp:List Q4)(tn:Nat->Q6->Prop)(J:It)(H':Hp),itv=.ref it/\Inv X pins σ H' s2/\Turn X.prog X.w X.K tg J fp it tn/\tn 0 s2.heap/\(∀b∈fp,tP X pins H' b)/\R J H'
def PI(X:Cx)(tg iter:Ri)(wi:TI):Prop:=
 ∀(pins:List (Q4×Obj))(s:Rf)(σ:St)(H:Hp)(R:It->Hp->Prop),Inv X pins σ H s->wi σ H R->
  Rh (model X.prog X.w) X.A (eval iter X.env) (λv s1=>Rh (model X.prog X.w) X.A (pyIter v) (PIE X pins σ tg R) X.xe s1) X.xe s
theorem Cv{M:Model}{A:Rc}{E:Q1->Rf->Prop}{s:Rf}{tg:Ri}{it:Q4}{u:Q1}{o:Obj}{n:String}{vs:Array Q1}{Q:Unit->Rf->Prop}(ho:s.heap.get? it=some o)(hc:o.cls=.type n)(hd:o.data=.fields vs)
    (hn:["enumerate","zip","dict_itemiterator","dict_reverseitemiterator","odict_iterator","itertools.zip_longest","itertools.pairwise"].contains n=false) (hQ:Q () s):Rh M A (letOwnedTupleGo tg (.ref it) u) Q E s:=by
  unfold letOwnedTupleGo;cases tg<;>first
    |exact Rq hQ
    | (cases u <;> first
        |exact Rq hQ
        | (refine Rr (wpAny_load ho ?_)
           rw[hc,hd];show Rh M A (if(["enumerate","zip","dict_itemiterator","dict_reverseitemiterator","odict_iterator","itertools.zip_longest","itertools.pairwise"].contains n&&vs[0]?==some (rawInt _))=true then _ else _) Q E s;rw[if_neg (by intro h;rw[hn,Bool.false_and]at h;cases h)];exact Rq hQ))
def K8(K:P5)(a:Q4):It:=
 ⟨λi H=>∃xs x,ot K H a xs/\xs[i]?=some x,λi H x H'=>H'=H/\∀xs,ot K H a xs->xs[i]?=some x,λi H=>∃xs,ot K H a xs/\xs.length<=i⟩
def Mo(K:P5)(a:Q4):It:=
 ⟨λi H=>∃xs x,p8 K H a xs/\xs[i]?=some x,λi H x H'=>H'=H/\∀xs,p8 K H a xs->xs[i]?=some x,λi H=>∃xs,p8 K H a xs/\xs.length<=i⟩
def IP(lo:Int)(n:Nat):It:=⟨λi _=>i<n,λi H x H'=>H'=H/\x=.int (lo+i),λi _=>n<=i⟩
theorem BA{P:Q3}{w:Q2}{K:P5}{tg:Ri}(a it:Q4):Turn P w K tg (K8 K a) [it] it (λi h=>h.IsListIter it a i)where
 mem:=by simp
 obj:=λi h st b hb=>by
  have e:b=it:=by simpa using hb
  subst e;obtain⟨o,e,c,d⟩:=st;exact⟨o,e,λv z=>by rw[d]at z;cases z⟩
 keep:=λi h h' st k=>st.at λo e=>k it (by simp) o e
 item:=by
  intro X hP hw hK hc i pins s σ H E I hf st hg;subst hP hw hK;obtain⟨xs,x,hq,hx⟩:=hg;obtain⟨its,rv,p,hz⟩:=I.list hq;obtain⟨u,hu,ru⟩:=rv.get hx;obtain⟨f0,f1,f2,f3,f4,f5⟩:=hf it (by simp);refine wpAny_pyNext_list_item st p.isList (x:=u) (by simpa using hu) λh' st' sb=>?_;have I1:Inv X pins σ H {s with heap:=h'}:=I.turned (t':=s.toks) (λb o hb e=>(sb.2 b hb).trans e) f0 f1 f3 f4 f5;obtain⟨o,e,c,d⟩:=id st';exact⟨u,rfl,Cv (s:={s with heap:=h'}) e c d (by decide) ⟨x,H,I1,ru,⟨rfl,λys hy=>by rw[I.list_inj hy hq];exact hx⟩,st',λb hb=>(hf b hb).1⟩⟩
 done:=by
  intro X hP hw hK hc i pins s σ H E I hf st hg;subst hP hw hK;obtain⟨xs,hq,hx⟩:=hg;obtain⟨its,rv,p,hz⟩:=I.list hq;obtain⟨f0,f1,f2,f3,f4,f5⟩:=hf it (by simp);have hl:=rv.length;exact wpAny_pyNext_list_end (I.ok.hd hc) st p.isList (by simp;omega) λh' eb=>⟨rfl,I.turned (t':=s.toks) (λb o hb e=>eb b o hb e) f0 f1 f3 f4 f5⟩
 self:=λ_ _ _ _ _ st h=>wpAny_pyIter_listiter st h
theorem yL{P:Q3}{w:Q2}{K:P5}{tg:Ri}(a it:Q4):Turn P w K tg (Mo K a) [it] it (λi h=>h.IsTupleIter it a i)where
 mem:=by simp
 obj:=λi h st b hb=>by
  have e:b=it:=by simpa using hb
  subst e;obtain⟨o,e,c,d⟩:=st;exact⟨o,e,λv z=>by rw[d]at z;cases z⟩
 keep:=λi h h' st k=>st.at λo e=>k it (by simp) o e
 item:=by
  intro X hP hw hK hc i pins s σ H E I hf st hg;subst hP hw hK;obtain⟨xs,x,hq,hx⟩:=hg;obtain⟨its,rv,p,hz⟩:=I.tuple hq;obtain⟨u,hu,ru⟩:=rv.get hx;obtain⟨f0,f1,f2,f3,f4,f5⟩:=hf it (by simp);refine wpAny_pyNext_tuple_item st (show s.heap.IsTuple a its.toArray from p) (x:=u) (by simpa using hu) λh' st' sb=>?_;have I1:Inv X pins σ H {s with heap:=h'}:=I.turned (t':=s.toks) (λb o hb e=>(sb.2 b hb).trans e) f0 f1 f3 f4 f5;obtain⟨o,e,c,d⟩:=id st';exact⟨u,rfl,Cv (s:={s with heap:=h'}) e c d (by decide) ⟨x,H,I1,ru,⟨rfl,λys hy=>by rw[I.tuple_inj hy hq];exact hx⟩,st',λb hb=>(hf b hb).1⟩⟩
 done:=by
  intro X hP hw hK hc i pins s σ H E I hf st hg;subst hP hw hK;obtain⟨xs,hq,hx⟩:=hg;obtain⟨its,rv,p,hz⟩:=I.tuple hq;obtain⟨f0,f1,f2,f3,f4,f5⟩:=hf it (by simp);have hl:=rv.length;exact wpAny_pyNext_tuple_end (I.ok.hd hc) st (show s.heap.IsTuple a its.toArray from p) (by simp;omega) λh' eb=>⟨rfl,I.turned (t':=s.toks) (λb o hb e=>eb b o hb e) f0 f1 f3 f4 f5⟩
 self:=λ_ _ _ _ _ st h=>wpAny_pyIter_tupleiter st h
theorem zr{P:Q3}{w:Q2}{K:P5}{tg:Ri}(it:Q4)(lo:Int)(n:Nat):Turn P w K tg (IP lo n) [it] it (λi h=>IsRangeIter h it (lo+(i:Nat)*1) ((n:Int)-(i:Nat)) 1)where
 mem:=by simp
 obj:=λi h st b hb=>by
  have e:b=it:=by simpa using hb
  subst e;exact⟨_,st,λv z=>by
   have z':Data.fields _=Data.cell v:=z;cases z'⟩
 keep:=λi h h' st k=>k it (by simp) _ st
 item:=by
  intro X hP hw hK hc i pins s σ H E I hf st hg;subst hP hw hK;obtain⟨f0,f1,f2,f3,f4,f5⟩:=hf it (by simp);have W:=Walks.range (prog:=X.prog) (w:=X.w) (I.ok.hd hc) it lo 1 n;refine W.item i s _ _ hg st λv h' tk hv st' kk=>?_;obtain⟨t,rfl⟩:=hv;have I1:Inv X pins σ H {s with heap:=h',toks:=tk}:=I.turned (λb o hb e=>kk b o (by simpa using hb) e) f0 f1 f3 f4 f5;refine⟨_,rfl,Cv (s:={s with heap:=h',toks:=tk}) (n:="range_iterator") st' rfl rfl (by decide) ⟨.int (lo+i),H,I1,⟨t,?_⟩,⟨rfl,rfl⟩,st',λb hb=>(hf b hb).1⟩⟩;rw[Int.mul_one]
 done:=by
  intro X hP hw hK hc i pins s σ H E I hf st hg;subst hP hw hK;obtain⟨f0,f1,f2,f3,f4,f5⟩:=hf it (by simp);exact wpAny_pyNext_range_end (I.ok.hd hc) st (by have:n<=i:=hg;omega) λh' eb=>⟨rfl,I.turned (t':=s.toks) (λb o hb e=>eb b o hb e) f0 f1 f3 f4 f5⟩
 self:=λ_ _ _ _ _ st h=>wpAny_pyIter_rangeiter st h
section
variable{X:Cx}{tg:Ri}
def Jf(K:P5)(tl:TE):TI:=λσ H R=>tl σ H λx H1=>∃a,x=.ref a/\(∃xs,ot K H1 a xs)/\R (K8 K a) H1
def Ln(K:P5)(tl:TE):TI:=λσ H R=>tl σ H λx H1=>∃a,x=.ref a/\(∃xs,p8 K H1 a xs)/\R (Mo K a) H1
theorem zI{l:Ri}{tl:TE}(hl:PE X l tl):PI X tg l (Jf X.K tl):=by
 intro pins s σ H R I h;refine fj (hl pins s σ H _ I h) λv s1 ⟨x,H1,I1,r1,q1⟩=>?_;obtain⟨a,e,⟨xs,hq⟩,q⟩:=q1;subst e;cases r1;obtain⟨its,rv,p,hz⟩:=I1.list hq;refine Rt p.isList ?_;refine⟨s1.heap.objs.size,[s1.heap.objs.size],_,_,H1,rfl,I1.kept (t':=s1.toks) λb o e=>QB _ e,BA a _,⟨_,QC _ rfl,rfl,rfl⟩,λb hb=>?_,q⟩;have e:b=s1.heap.objs.size:=by simpa using hb
 subst e;exact I1.fpOk (NB _) (I1.hok.fresh (NB _))
theorem G1{l:Ri}{tl:TE}(hl:PE X l tl):PI X tg l (Ln X.K tl):=by
 intro pins s σ H R I h;refine fj (hl pins s σ H _ I h) λv s1 ⟨x,H1,I1,r1,q1⟩=>?_;obtain⟨a,e,⟨xs,hq⟩,q⟩:=q1;subst e;cases r1;obtain⟨its,rv,p,hz⟩:=I1.tuple hq;refine wpAny_pyIter_tuple (show s1.heap.IsTuple a its.toArray from p) ?_;refine⟨s1.heap.objs.size,[s1.heap.objs.size],_,_,H1,rfl,I1.kept (t':=s1.toks) λb o e=>QB _ e,yL a _,⟨_,QC _ rfl,rfl,rfl⟩,λb hb=>?_,q⟩;have e:b=s1.heap.objs.size:=by simpa using hb
 subst e;exact I1.fpOk (NB _) (I1.hok.fresh (NB _))
theorem yj{pins:List (Q4×Obj)}{σ:St}{H:Hp}{s:Rf}{R:It->Hp->Prop}{E:Q1->Rf->Prop}{lo hi:Int}{t u v:Tok}{tk:Nat}(I:Inv X pins σ H s)(h1:-(2^62)<=lo)(h2:lo<2^62)(h3:-(2^62)<=hi)(h4:hi<2^62)
  (q:R (IP lo (hi-lo).toNat) H):Rh (model X.prog X.w) X.A (pyIter (.ref s.heap.objs.size)) (PIE X pins σ tg R) E {s with heap:=s.heap.push {cls:=.type "range",data:=.fields #[.int lo t,.int hi u,.int 1 v]},toks:=tk}:=by
 refine wpAny_pyIter_range (IsRange.new ..) (small_one h1 h2 h3 h4) ?_;have I1:Inv X pins σ H {s with heap:=s.heap.push {cls:=.type "range",data:=.fields #[.int lo t,.int hi u,.int 1 v]},toks:=tk}:=I.kept λb o e=>QB _ e;refine⟨(s.heap.push {cls:=.type "range",data:=.fields #[.int lo t,.int hi u,.int 1 v]}).objs.size,[(s.heap.push {cls:=.type "range",data:=.fields #[.int lo t,.int hi u,.int 1 v]}).objs.size],_,_,H,rfl,
  I1.kept (t':=tk) λb o e=>QB _ e,zr _ lo (hi-lo).toNat,?_,λb hb=>?_,q⟩
 ·have e1:lo+((0:Nat):Int)*1=lo:=by simp
  have e2:(((hi-lo).toNat:Nat):Int)-((0:Nat):Int)=Builtin.Range.rangeSize lo hi 1:=by rw[rangeSize_one];split<;>omega
  show IsRangeIter _ _ (lo+((0:Nat):Int)*1) ((((hi-lo).toNat:Nat):Int)-((0:Nat):Int)) 1;rw[e1,e2];exact QC _ rfl
 ·have e:b=(s.heap.push {cls:=.type "range",data:=.fields #[.int lo t,.int hi u,.int 1 v]}).objs.size:=by simpa using hb
  subst e;exact I1.fpOk (NB _) (I1.hok.fresh (NB _))
def Jj(ta:TA):TI:=λσ H R=>ta σ H λvs H1=>∃j:Int,vs=[.int j]/\-(2^62)<=j/\j<2^62/\R (IP 0 j.toNat) H1
def IZ(ta:TA):TI:=λσ H R=>ta σ H λvs H1=>∃i j:Int,vs=[.int i,.int j]/\(-(2^62)<=i/\i<2^62/\-(2^62)<=j/\j<2^62)/\R (IP i (j-i).toNat) H1
theorem BI{a:Ri}{ta:TA}{p pos:Pos}(hg:Gl X "range")(hm:X.mg "range"=none)(ha:PA X [a] ta)(hs:Rj [a] X.env=[(false,eval a X.env)]:=by rfl):PI X tg (.Call (.Name "range" p) [a] [] pos) (Jj ta):=by
 intro pins s σ H R I h;refine Call_ (my I hg hm boot_range (QJ (fj (ha pos pins s σ H _ I h) λus s1 ⟨vs,H1,I1,r1,q1⟩=>?_) hs rfl));obtain⟨j,e,q1,q2,q⟩:=q1;subst e;cases r1 with
 |cons r rr=>
  cases rr;obtain⟨t,rfl⟩:=r;exact call_range_1 (yj I1 ‹0› ‹0› q1 q2 (by simpa using q))
theorem Bq{a b:Ri}{ta:TA}{p pos:Pos}(hg:Gl X "range")(hm:X.mg "range"=none)(ha:PA X [a,b] ta)(hs:Rj [a,b] X.env=[(false,eval a X.env),(false,eval b X.env)]:=by rfl)(hs2:Rj [b] X.env=[(false,eval b X.env)]:=by rfl):
  PI X tg (.Call (.Name "range" p) [a,b] [] pos) (IZ ta):=by
 intro pins s σ H R I h;refine Call_ (my I hg hm boot_range (QJ (fj (ha pos pins s σ H _ I h) λus s1 ⟨vs,H1,I1,r1,q1⟩=>?_) (by rw[hs,hs2]) (by rw[hs2];rfl)));obtain⟨i,j,e,⟨q1,q2,q3,q4⟩,q⟩:=q1;subst e;cases r1 with
 |cons r rr=>
  cases rr with
  |cons r' rr=>
   cases rr;obtain⟨t,rfl⟩:=r;obtain⟨t',rfl⟩:=r';exact call_range_2 (yj I1 q1 q2 q3 q4 q)
def L3(wi:TI)(g:TG)(tb:TS):TS:=λD σ H=>wi σ H λJ H1=>∃W:Nat->Nat->St->Hp->Prop,(∃m,W 0 m σ H1)/\∀i m σ H,W i m σ H->
 (J.stop i H/\D.nx σ H)\/(J.go i H/\∃N:St->Hp->Prop,(∀σ' H',N σ' H'->∃m',m'<m/\W (i+1) m' σ' H')/\∀x H',J.yld i H x H'->g x σ H' λσ2 H2=>tb {D with nx:=N,ct:=N,bk:=D.nx} σ2 H2)
def sE(fp:List Q4)(h:Q6):List (Q4×Obj):=fp.filterMap λb=>(h.get? b).map λo=>(b,o)
theorem li{fp:List Q4}{h:Q6}{b:Q4}{o:Obj}(hb:b∈fp)(e:h.get? b=some o):(b,o)∈sE fp h:=List.mem_filterMap.mpr ⟨b,hb,by rw[e];rfl⟩
theorem Bk{fp:List Q4}{h:Q6}{p:Q4×Obj}(hp:p∈sE fp h):p.1∈fp/\h.get? p.1=some p.2:=by
 obtain⟨b,hb,e⟩:=List.mem_filterMap.mp hp;cases q:h.get? b with
 |none=>rw[q]at e;cases e
 |some o=>
  rw[q]at e;have e':(b,o)=p:=Option.some.inj e;subst e';exact⟨hb,q⟩
theorem Inv.pinned{pins:List (Q4×Obj)}{σ:St}{H:Hp}{s:Rf}{fp:List Q4}(I:Inv X pins σ H s)(hf:∀b∈fp,tP X pins H b)(ho:∀b∈fp,∃o,s.heap.get? b=some o/\∀v,o.data≠.cell v):Inv X (pins++sE fp s.heap) σ H s:=
 I.pins_of λp hp=>(List.mem_append.mp hp).elim (λz=>I.pin p (NC _ z)) λz=>by
  obtain⟨hb,e⟩:=Bk z;obtain⟨f0,f1,f2,_⟩:=hf p.1 hb;obtain⟨o,e',d⟩:=ho p.1 hb;rw[e]at e';cases e';exact⟨e,f0,f1,f2,d⟩
theorem Inv.unpinned{pins pl:List (Q4×Obj)}{σ:St}{H:Hp}{s:Rf}(I:Inv X (pins++pl) σ H s):Inv X pins σ H s:=I.pins_of λp hp=>I.pin p (NC _ (Nw _ hp))
theorem GA{iter:Ri}{body:List Rl}{wi:TI}{g:TG}{tb:TS}{pos:Pos}(hp:Ru (model X.prog X.w) X.A X.env X.xe)(hc:X.calm=true)(hi:PI X tg iter wi)(hg:PG X tg g)(hb:BR X body tb)
  (hs:∀x,Rv iter X.env x=pure x:=by intro _;rfl):PS X (.For tg iter body [] pos) (L3 wi g tb):=by
 intro pins s σ H D I h;refine wpAny_For (fj (hi pins s σ H _ I h) λv s1 h1=>fj h1 λitv s2 h2=>?_) hs;obtain⟨it,fp,tn,J,H2,e,I2,T,st2,f2,W,⟨m0,w0⟩,turn⟩:=h2;subst e;have stat:∀{H':Hp},(∀b∈fp,H' b=none)->∀b∈fp,tP X pins H' b:=λhn b hb=>⟨hn b hb,(f2 b hb).2⟩
 refine codeAny_forLoop_any (λn s'=>∃i σ' H',Inv X pins σ' H' s'/\tn i s'.heap/\(∀b∈fp,H' b=none)/\W i n σ' H') ?_ m0 ⟨0,σ,H2,I2,st2,λb hb=>(f2 b hb).1,w0⟩;rintro n s3 ⟨i,σ3,H3,I3,st3,fr3,w3⟩;rcases turn i n σ3 H3 w3 with⟨stop,qn⟩|⟨go,N,hN,step⟩
 ·refine Rx hp (fj (T.done X rfl rfl rfl hc i pins s3 σ3 H3 X.xe I3 (stat fr3) st3 stop) λr s4 ⟨hr,I4⟩=>?_);subst hr;exact Rp ⟨σ3,H3,I4,qn⟩
 ·refine Rx hp (fj (T.item X rfl rfl rfl hc i pins s3 σ3 H3 X.xe I3 (stat fr3) st3 go) λr s4 ⟨u,hr,h4⟩=>?_);subst hr;refine Rx hp (fj h4 λ_ s5 ⟨x,H5,I5,r5,y5,st5,fr5⟩=>?_);have I5':=I5.pinned (stat fr5) (T.obj _ _ st5);refine Rx hp (fj (hg _ s5 σ3 H5 x u _ I5' r5 (step x H5 y5)) λ_ s6 ⟨σ6,H6,I6,q6⟩=>?_);refine Rx hp (fj (hb _ s6 σ6 H6 _ I6 q6) λf s7 q7=>?_);have again:∀{σ7:St}{H7:Hp},Inv X (pins++sE fp s5.heap) σ7 H7 s7->N σ7 H7->∃m,m<n/\∃i σ' H',Inv X pins σ' H' s7/\tn i s7.heap/\(∀b∈fp,H' b=none)/\W i m σ' H':=λ{σ7 H7} I7 n7=>by
   obtain⟨m',hm,w7⟩:=hN σ7 H7 n7;refine⟨m',hm,i+1,σ7,H7,I7.unpinned,T.keep _ _ _ st5 λb hb o e=>(I7.pin (b,o) (NC _ (NC _ (li hb e)))).1,λb hb=>?_,w7⟩;obtain⟨o,e,d⟩:=T.obj _ _ st5 b hb;exact(I7.pin (b,o) (NC _ (NC _ (li hb e)))).2.1
  cases f with
  |next=>obtain⟨σ7,H7,I7,n7⟩:=q7;exact again I7 n7
  |cont=>obtain⟨σ7,H7,I7,n7⟩:=q7;exact again I7 n7
  |brk=>obtain⟨σ7,H7,I7,q7⟩:=q7;exact⟨σ7,H7,I7.unpinned,q7⟩
  |ret v=>obtain⟨x7,σ7,H7,I7,r7,q7⟩:=q7;exact⟨x7,σ7,H7,I7.unpinned,r7,q7⟩
end
abbrev R2:=V->V->Hp->VK->Prop
def lL(X:Cx)(f:Q1->Q1->Sem Q1)(r:R2):Prop:=
 ∀(pins:List (Q4×Obj))(s:Rf)(σ:St)(H:Hp)(x y:V)(v u:Q1)(Q:VK),Inv X pins σ H s->RelV x v->RelV y u->r x y H Q->
  Rh (model X.prog X.w) X.A (f v u) (EP X pins σ Q) X.xe s
def K6(X:Cx)(f:Q1->Sem Q1)(r:V->Hp->VK->Prop):Prop:=
 ∀(pins:List (Q4×Obj))(s:Rf)(σ:St)(H:Hp)(x:V)(v:Q1)(Q:VK),Inv X pins σ H s->RelV x v->r x H Q->
  Rh (model X.prog X.w) X.A (f v) (EP X pins σ Q) X.xe s
def dW(X:Cx)(f:Q1)(r:List V->Hp->VK->Prop):Prop:=
 ∀(pins:List (Q4×Obj))(s:Rf)(σ:St)(H:Hp)(xs:List V)(us:List Q1)(Q:VK),Inv X pins σ H s->Vals xs us->r xs H Q->
  Rh (model X.prog X.w) X.A (call f us) (EP X pins σ Q) X.xe s
def Mq(X:Cx)(r:V->Hp->(Bool->Hp->Prop)->Prop):Prop:=
 ∀(pins:List (Q4×Obj))(s:Rf)(σ:St)(H:Hp)(x:V)(v:Q1)(Q:Bool->Hp->Prop),Inv X pins σ H s->RelV x v->r x H Q->
  Rh (model X.prog X.w) X.A (truthy v) (TP X pins σ Q) X.xe s
def JM(r:R2)(ta tb:TE):TE:=λσ H Q=>ta σ H λx H1=>tb σ H1 λy H2=>r x y H2 Q
def MR(r:V->Hp->VK->Prop)(ta:TE):TE:=λσ H Q=>ta σ H λx H1=>r x H1 Q
def rI(C:Int->Int->Prop)(g:Int->Int->V):R2:=λx y H Q=>∃i j,x=.int i/\y=.int j/\C i j/\Q (g i j) H
def BZ(g:Int->Int->V):R2:=λx y H Q=>∃i j,x=.int i/\y=.int j/\Q (g i j) H
def rU(g:Int->V):V->Hp->VK->Prop:=λx H Q=>∃i,x=.int i/\Q (g i) H
section
variable{X:Cx}{a b c:Ri}{ta tb tc:TE}{pos:Pos}
theorem GZ(ha:PE X a ta)(hb:PE X b tb){pins:List (Q4×Obj)}{s:Rf}{σ:St}{H:Hp}{R:V->V->Hp->Prop}(I:Inv X pins σ H s)
  (h:ta σ H λx H1=>tb σ H1 λy H2=>R x y H2) {Q:Q1->Rf->Prop} {f:Q1->Q1->Sem Q1}
  (hf:∀v u s2 x y H2,Inv X pins σ H2 s2->RelV x v->RelV y u->R x y H2->Rh (model X.prog X.w) X.A (f v u) Q X.xe s2):
  Rh (model X.prog X.w) X.A (eval a X.env) (λv s₁=>Rh (model X.prog X.w) X.A (eval b X.env) (λu s₂=>Rh (model X.prog X.w) X.A (f v u) Q X.xe s₂) X.xe s₁) X.xe s:=by
 refine fj (ha pins s σ H _ I h) λv s1 ⟨x,H1,I1,r1,q1⟩=>?_;refine fj (hb pins s1 σ H1 _ I1 q1) λu s2 ⟨y,H2,I2,r2,q2⟩=>?_;exact hf v u s2 x y H2 I2 r1 r2 q2
theorem IA{op:Operator}{r:R2}(ho:lL X (Ry op) r)(ha:PE X a ta)(hb:PE X b tb):PE X (.BinOp a op b pos) (JM r ta tb):=by
 intro pins s σ H Q I h;exact wpAny_BinOp (GZ ha hb I h λv u s2 x y H2 I2 rx ry q=>ho pins s2 σ H2 x y v u Q I2 rx ry q)
theorem JF{op:UnaryOp}{r:V->Hp->VK->Prop}(ho:K6 X (unaryOp op) r)(ha:PE X a ta):PE X (.UnaryOp op a pos) (MR r ta):=by
 intro pins s σ H Q I h;exact UnaryOp_ (fj (ha pins s σ H _ I h) λv s1 ⟨x,H1,I1,r1,q1⟩=>ho pins s1 σ H1 x v Q I1 r1 q1)
theorem J2{f:Q1->Q1->Sem Q1}{C:Int->Int->Prop}{g:Int->Int->Int}
  (rule:∀(i j:Int)(t u:Tok)(s:Rf)(Q:Q1->Rf->Prop)(E:Q1->Rf->Prop),C i j->Q (.int (g i j) s.toks) {s with toks:=s.toks+1}->Rh (model X.prog X.w) X.A (f (.int i t) (.int j u)) Q E s):
  lL X f (rI C λi j=>.int (g i j)):=by
 intro pins s σ H x y v u Q I rx ry h;obtain⟨i,j,rfl,rfl,hc,q⟩:=h;obtain⟨t,rfl⟩:=rx;obtain⟨t',rfl⟩:=ry;exact rule i j t t' s _ _ hc ⟨.int (g i j),H,I.tok _,⟨_,rfl⟩,q⟩
theorem HQ{f:Q1->Q1->Sem Q1}{g:Int->Int->Int}
  (rule:∀(i j:Int)(t u:Tok)(s:Rf)(Q:Q1->Rf->Prop)(E:Q1->Rf->Prop),Q (.int (g i j) s.toks) {s with toks:=s.toks+1}->Rh (model X.prog X.w) X.A (f (.int i t) (.int j u)) Q E s):
  lL X f (BZ λi j=>.int (g i j)):=by
 intro pins s σ H x y v u Q I rx ry h;obtain⟨i,j,rfl,rfl,q⟩:=h;obtain⟨t,rfl⟩:=rx;obtain⟨t',rfl⟩:=ry;exact rule i j t t' s _ _ ⟨.int (g i j),H,I.tok _,⟨_,rfl⟩,q⟩
theorem G0{f:Q1->Q1->Sem Q1}{g:Int->Int->Bool}
  (rule:∀(i j:Int)(t u:Tok)(s:Rf)(Q:Q1->Rf->Prop)(E:Q1->Rf->Prop),Q (.bool (g i j)) s->Rh (model X.prog X.w) X.A (f (.int i t) (.int j u)) Q E s):
  lL X f (BZ λi j=>.bl (g i j)):=by
 intro pins s σ H x y v u Q I rx ry h;obtain⟨i,j,rfl,rfl,q⟩:=h;obtain⟨t,rfl⟩:=rx;obtain⟨t',rfl⟩:=ry;exact rule i j t t' s _ _ ⟨.bl (g i j),H,I,rfl,q⟩
def JA(i j:Int):Prop:=0<=j/\j<=1000000/\i.natAbs<2^64
def Hk(i j:Int):Prop:=(-(2^64)<i/\i<2^64)\/(-(2^64)<j/\j<2^64)
theorem Hk.ok{i j:Int}(h:Hk i j):IntMulOk i j:=by
 rcases h with⟨h1,h2⟩|⟨h1,h2⟩
 ·exact .of_left (intBits_le_64 h1 h2)
 ·exact .of_right (intBits_le_64 h1 h2)
theorem yK(k:Nat):(0:Int)<=2^k:=by
 rw[two_pow_cast];exact Int.natCast_nonneg _
theorem HJ:lL X (Ry .Add) (BZ λi j=>.int (i+j)):=HQ λ_ _ _ _ _ _ _ q=>add_int q
theorem sd:lL X (Ry .Sub) (BZ λi j=>.int (i-j)):=HQ λ_ _ _ _ _ _ _ q=>sub_int q
theorem kW:lL X (Ry .Mult) (rI Hk λi j=>.int (i*j)):=J2 λ_ _ _ _ _ _ _ hc q=>mul_int q hc.ok
theorem bz:lL X (Ry .Mod) (rI (λ_ j=>0<j) λi j=>.int (i%j)):=J2 λi j _ _ _ _ _ hc q=>by
 have h1:(0:Int)<j:=hc;exact mod_int' ‹0› (by rw[Int.fmod_eq_emod_of_nonneg i ‹0›];exact q)
theorem hZ:lL X (Ry .Pow) (rI JA λi j=>.int (i^j.toNat)):=J2 λ_ _ _ _ _ _ _ hc q=>pow_int_small hc.1 hc.2.1 hc.2.2 q
theorem zq:lL X (Ry .RShift) (rI (λ_ j=>0<=j) λi j=>.int (i/2^j.toNat)):=J2 λi j _ _ _ _ _ hc q=>
 rshift_int hc (by rw[ND i (yK _)];exact q)
theorem yT:lL X (Ry .BitAnd) (BZ λi j=>.int (Builtin.bitAnd i j)):=HQ λ_ _ _ _ _ _ _ q=>and_int q
theorem MX{f:Q1->Sem Q1}{g:Int->Int}
  (rule:∀(i:Int)(t:Tok)(s:Rf)(Q:Q1->Rf->Prop)(E:Q1->Rf->Prop),Q (.int (g i) s.toks) {s with toks:=s.toks+1}->Rh (model X.prog X.w) X.A (f (.int i t)) Q E s):
  K6 X f (rU λi=>.int (g i)):=by
 intro pins s σ H x v Q I rx h;obtain⟨i,rfl,q⟩:=h;obtain⟨t,rfl⟩:=rx;exact rule i t s _ _ ⟨.int (g i),H,I.tok _,⟨_,rfl⟩,q⟩
theorem Gx:K6 X (unaryOp .USub) (rU λi=>.int (-i)):=MX λ_ _ _ _ _ q=>neg_int q
end
section
variable{X:Cx}{a b c:Ri}{ta tb tc:TE}{pos:Pos}
theorem DB{pins:List (Q4×Obj)}{σ:St}{H:Hp}{s:Rf}{Q:VK}{k k':Bool}(I:Inv X pins σ H s)(q:Q (.bl k) H)(e:k=k'):EP X pins σ Q (.bool k') s:=by
 subst e;exact⟨.bl k,H,I,rfl,q⟩
theorem Jq:lL X (Rz .Lt) (BZ λi j=>.bl (decide (i<j))):=G0 λ_ _ _ _ _ _ _ q=>lt_int q
theorem JG:lL X (Rz .LtE) (BZ λi j=>.bl (decide (i<=j))):=G0 λ_ _ _ _ _ _ _ q=>le_int q
theorem Ju:lL X (Rz .Gt) (BZ λi j=>.bl (decide (j<i))):=G0 λ_ _ _ _ _ _ _ q=>gt_int q
theorem A6:lL X (Rz .Lt) (λx y H Q=>∃i j,x=.str i/\y=.str j/\Q (.bl (decide (i.cps.toList<j.cps.toList))) H):=by
 intro pins s σ H x y v u Q I rx ry h;obtain⟨i,j,rfl,rfl,q⟩:=h;obtain⟨t,rfl⟩:=rx;obtain⟨t',rfl⟩:=ry;exact lt_str (DB I q rfl)
theorem ca(b:Ri){op:CmpOp}(h:op≠.In:=by decide)(h2:op≠.NotIn:=by decide):RA op b=false:=by
 have e1:(op==CmpOp.In)=false:=by cases op<;>first|rfl|exact absurd rfl h
 have e2:(op==CmpOp.NotIn)=false:=by cases op<;>first|rfl|exact absurd rfl h2
 cases b<;>simp[RA,e1,e2]
theorem EA{op:CmpOp}{r:R2}(ho:lL X (Rz op) r)(ha:PE X a ta)(hb:PE X b tb)(hm:RA op b=false):PE X (.Compare a [op] [b] pos) (JM r ta tb):=by
 intro pins s σ H Q I h;exact wpAny_Compare1 (GZ ha hb I h λv u s2 x y H2 I2 rx ry q=>ho pins s2 σ H2 x y v u Q I2 rx ry q) hm
def FJ(t:TE):TT:=λσ H Q=>t σ H λx H'=>∃k,x=.bl k/\Q k H'
theorem Ez{op:CmpOp}{r:R2}(ho:lL X (Rz op) r)(ha:PE X a ta)(hb:PE X b tb)(hm:RA op b=false):PT X (.Compare a [op] [b] pos) (FJ (JM r ta tb)):=by
 intro pins s σ H Q I h;refine wpAny_isTrue_Compare1 (fj (ha pins s σ H _ I h) λv s1 ⟨x,H1,I1,r1,q1⟩=>fj (hb pins s1 σ H1 _ I1 q1) λu s2 ⟨y,H2,I2,r2,q2⟩=>
  fj (ho pins s2 σ H2 x y v u _ I2 r1 r2 q2) λc s3 ⟨z,H3,I3,r3,k,e,q3⟩=>?_) hm
 subst e;cases r3;exact Ro ⟨H3,I3,q3⟩
def Jo(K:P5)(x:V)(H:Hp)(k:Bool):Prop:=
 match x with
 |.non=>k=false
 |.bl b=>k=b
 |.int i=>k=(i !=0)
 |.str y=>y.length<=Q7/\k=((y.length:Int) !=0)
 |.byt y=>y.size<=Q7/\k=((y.size:Int) !=0)
 |.ref p=>(∃xs,ot K H p xs/\k=!xs.isEmpty)\/(∃xs,p8 K H p xs/\k=!xs.isEmpty)\/∃kvs,H p=some (.dK kvs)/\k=!kvs.isEmpty
 |_=>False
theorem yQ{κ:Type}{kvs:List (κ×V)}{vs:List (κ×Q1)}(r:KV kvs vs):(!vs.isEmpty)=!kvs.isEmpty:=by
 cases r<;>rfl
theorem sO{xs:List V}{its:List Q1}(r:Vals xs its):(!its.toArray.isEmpty)=!xs.isEmpty:=by
 cases r<;>simp
theorem pZ:(Q7:Nat)<2^63:=by rw[RB];decide
theorem Hq:Mq X (λx H Q=>∃k,Jo X.K x H k/\Q k H):=by
 intro pins s σ H x v Q I rx h;obtain⟨k,e,q⟩:=h;have hl:=pZ;have hs:Q7=16777216:=RB;cases x with
 |non=>
  cases rx;have e':k=false:=e;subst e';exact truthy_none ⟨H,I,q⟩
 |bl b=>
  cases rx;have e':k=b:=e;subst e';exact Ro ⟨H,I,q⟩
 |int i=>
  obtain⟨t,rfl⟩:=rx;have e':k=(i !=0):=e;subst e';exact PySem.P.truthy_int ⟨H,I,q⟩
 |str y=>
  obtain⟨t,rfl⟩:=rx;obtain⟨hy,e'⟩:y.length<=Q7/\k=((y.length:Int) !=0):=e;subst e';exact PySem.P.truthy_str ‹0› ⟨H,I.tok _,q⟩
 |byt y=>
  obtain⟨t,rfl⟩:=rx;obtain⟨hy,e'⟩:y.size<=Q7/\k=((y.size:Int) !=0):=e;subst e';exact PySem.W.truthy_bytes ‹0› ⟨H,I.tok _,q⟩
 |ref p=>
  cases rx;have e':(∃xs,ot X.K H p xs/\k=!xs.isEmpty)\/(∃xs,p8 X.K H p xs/\k=!xs.isEmpty)\/∃kvs,H p=some (.dK kvs)/\k=!kvs.isEmpty:=e;rcases e' with⟨xs,hx,e'⟩|⟨xs,hx,e'⟩|⟨kvs,hx,e'⟩
  ·subst e';obtain⟨its,r,pl,hz⟩:=I.list hx;have hlen:=r.length;exact wpAny_truthy_list pl.isList (by simp only[NE];omega) ⟨H,I.tok _,by rw[sO r];exact q⟩
  ·subst e';obtain⟨its,r,pl,hz⟩:=I.tuple hx;have hlen:=r.length;exact truthy_tuple pl (by simp only[NE];omega) ⟨H,I.tok _,by rw[sO r];exact q⟩
  ·subst e';obtain⟨hz,hS,vs,r,m⟩:kvs.length<=Q7/\(p==sysModules)=false/\∃vs,KV kvs vs/\s.heap.DictOf (cW X.prog X.w) p vs:=I.hok p _ hx;have hlen:kvs.length=vs.length:=Paired.length r;exact wpAny_truthy_dict hS m ‹0› ⟨H,I.tok _,by rw[yQ r];exact q⟩
 |_=>exact(show False from e).elim
theorem DK(ha:PE X a ta)(he:∀whole,isTrue a X.env whole=(do let v<-whole;standAt a.pos;holding [v] (truthy v))):
  PT X a (λσ H Q=>ta σ H λx H'=>∃k,Jo X.K x H' k/\Q k H'):=by
 intro pins s σ H Q I h;exact isTrue_plain (fj (ha pins s σ H _ I h) λv s1 ⟨x,H1,I1,r1,q1⟩=>Hq pins s1 σ H1 x v Q I1 r1 q1) (he _)
theorem zj:lL X (Ry .Add) (λx y H Q=>∃i j,x=.str i/\y=.str j/\i.length+j.length<=Q7/\Q (.str (i++j)) H):=by
 intro pins s σ H x y v u Q I rx ry h;obtain⟨i,j,rfl,rfl,hz,q⟩:=h;obtain⟨t,rfl⟩:=rx;obtain⟨t',rfl⟩:=ry;exact add_str (λt' tk=>⟨.str (i++j),H,I.tok _,⟨_,rfl⟩,q⟩) hz
theorem vals1{x:V}{us:List Q1}(r:Vals [x] us):∃u,us=[u]/\RelV x u:=by
 cases r with
 |cons r1 r2=>cases r2;exact⟨_,rfl,r1⟩
theorem vals2{x y:V}{us:List Q1}(r:Vals [x,y] us):∃u w',us=[u,w']/\RelV x u/\RelV y w':=by
 cases r with
 |cons r1 r2=>
  cases r2 with
  |cons r3 r4=>cases r4;exact⟨_,_,rfl,r1,r3⟩
theorem BE(hc:X.calm=true):dW X (.builtin "max") (λxs H Q=>∃i j,xs=[.int i,.int j]/\Q (.int (if j>i then j else i)) H):=by
 intro pins s σ H xs us Q I r h;obtain⟨i,j,rfl,q⟩:=h;obtain⟨u,w',rfl,⟨t,rfl⟩,⟨t',rfl⟩⟩:=vals2 r;refine max_two_ints (I.ok.hd hc) λh' tk k=>⟨_,H,I.kept k,?_,q⟩
 by_cases hj:j>i
 ·rw[if_pos hj,if_pos hj];exact⟨_,rfl⟩
 ·rw[if_neg hj,if_neg hj];exact⟨_,rfl⟩
theorem BD(hc:X.calm=true):dW X (.builtin "min") (λxs H Q=>∃i j,xs=[.int i,.int j]/\Q (.int (if j<i then j else i)) H):=by
 intro pins s σ H xs us Q I r h;obtain⟨i,j,rfl,q⟩:=h;obtain⟨u,w',rfl,⟨t,rfl⟩,⟨t',rfl⟩⟩:=vals2 r;refine min_two_ints (I.ok.hd hc) λh' tk k=>⟨_,H,I.kept k,?_,q⟩
 by_cases hj:j<i
 ·rw[if_pos hj,if_pos hj];exact⟨_,rfl⟩
 ·rw[if_neg hj,if_neg hj];exact⟨_,rfl⟩
theorem uY:dW X (.type "int") (λxs H Q=>(∃i,xs=[.int i]/\Q (.int i) H)\/∃k,xs=[.bl k]/\Q (.int (if k then 1 else 0)) H):=by
 intro pins s σ H xs us Q I r h;rcases h with⟨i,rfl,q⟩|⟨k,rfl,q⟩
 ·obtain⟨u,rfl,t,rfl⟩:=vals1 r;exact call_int_int ⟨.int i,H,I,⟨_,rfl⟩,q⟩
 ·obtain⟨u,rfl,r1⟩:=vals1 r;cases r1;exact call_int_bool ⟨.int (if k then 1 else 0),H,I.tok _,⟨_,rfl⟩,q⟩
end
structure Hl(h:Q6)(x dx C:Q4)(mA:Str->Option Q1):Prop where
 obj:h.get? x=some (P0 C dx)
 ns:h.Ns1 dx mA
 ne:dx≠x
theorem AZ{h:Q6}{dx:Q4}{mA:Str->Option Q1}(n:h.Ns1 dx mA):∃od,h.get? dx=some od/\∀name,P6 name od=some (mA name):=by
 obtain⟨o,es,ep,ho,hd,hk,_,hm⟩:=n;refine⟨o,ho,λname=>?_⟩;have e:=hm name;unfold nsFind findBy at e;rw[<-Array.find?_toList]at e;unfold P6;rw[hd];dsimp only;split
 ·rename_i y q;rw[q]at e;exact congrArg some e
 ·rename_i q;rw[q]at e;have a:es.toList.any (·.refKey)=false:=by
   rw[List.any_eq_false];intro y hy;obtain⟨z,t,hkey⟩:=hk y (Array.mem_toList_iff.mp hy);simp[DictEntry.refKey,hkey]
  have a':¬es.toList.any (·.refKey)=true:=by rw[a];exact NF
  rw[if_neg a'];exact congrArg some e
theorem Hl.look{h:Q6}{x dx C:Q4}{mA:Str->Option Q1}(I:Hl h x dx C mA):∃od,PySem.W.InstAt h x (P0 C dx) C (some od)/\∀name,P6 name od=some (mA name):=
 let ⟨od,ho,hl⟩:=AZ I.ns
 ⟨od,⟨I.obj,rfl,rfl,ho⟩,hl⟩
section
variable{prog:Q3}{w:Q2}{A:Rc}{E:Q1->Rf->Prop}{s:Rf}{K:P5}{x dx C f:Q4}{mA:Str->Option Q1}{name:Str}{v:Q1}
theorem CN{pl:Sem Bool}{Q:Q1×List Q1->Rf->Prop}(X:K.In s.heap)(I:Hl s.heap x dx C mA)(hg:P7 K C name=true)
  (hf:P8 K (.ref C) name=some (some (.ref f))) (ht:P9 K (.ref f)=true) (hv:mA name=none) (h:Q (.ref f,[.ref x]) s):
  Rh (model prog w) A (getMethod (.ref x) name pl) Q E s:=by
 obtain⟨od,J,hl⟩:=I.look;exact PySem.W.method_fn X J (Qa hg).1 (Qa hg).2 hf (beq_iff_eq.mp ht) (by show(P6 name od).map (·.isSome)=some false;rw[hl,hv];rfl) h
theorem BO{R:Result->Rf->Prop}(X:K.In s.heap)(hm:Qb K C=true)
  (hi:P8 K (.ref C) "__init__"=some (some (.builtin "object.__init__")))
  (hb:∀self,Qc (model prog w) s.heap (bindSpecial (.builtin "object.__init__") self) (.builtin "object.__init__",[self]))
  (h:RC (model prog w) (A.under (.builtin "type.__call__" ⟨[.ref C],[]⟩)) (.call (.builtin "object.__init__") ⟨[.ref (s.heap.objs.size+1)],[]⟩) (PySem.W.InitBack (s.heap.objs.size+1) R)
   {s with heap:=(s.heap.push Qd).push (P0 C s.heap.objs.size)}):
  RC (model prog w) A (.call (.ref C) ⟨[],[]⟩) R s:=by
 obtain⟨hh,g,d,t,os⟩:=s;exact PySem.W.make_core (Qe X hm) (PySem.W.looks_findIn X hi) hb (.inr ⟨rfl,rfl⟩) h
end
theorem wR.some_of{v:V}{o:Option Q1}(r:wR (some v) o):∃u,o=some u/\RelV v u:=by
 cases o with
 |none=>exact(show False from r).elim
 |some u=>exact⟨u,rfl,r⟩
theorem wR.none_of{o:Option Q1}(r:wR none o):o=none:=by
 cases o with
 |none=>rfl
 |some u=>exact(show False from r).elim
section
variable{P:Q3}{w:Q2}{H H':Hp}{h h':Q6}{a C dx:Q4}{fs fs':List (Str×V)}
theorem E6(hok:o0 P w H h)(e:H a=some (.ins C dx fs)):∃mA,Hl h a dx C mA/\(∀f,wR (fs.lookup f) (mA f))/\PySem.Within mA (fs.map (·.1))/\fs.length<=1000/\H dx=some (.own a):=by
 obtain⟨d,z,ne,ob,mA,n,r,q⟩:=(show cS P w H h a (.ins C dx fs)from hok a _ e)
 exact⟨mA,⟨ob,n,ne⟩,r,q,z,d⟩
end
structure HG(K:P5)(C:Q4):Prop where
 pg:P7 K C Str.empty=true
 hd:Qf K C=true
 po:Qg K C=true
 sa:P8 K (.ref C) "__setattr__"=some (some (.builtin "object.__setattr__"))
theorem HG.get{K:P5}{C:Q4}(c:HG K C)(f:Str):P7 K C f=true:=c.pg
structure Meth(K:P5)(C:Q4)(m:Str)(f:Q4):Prop where
 at_:P8 K (.ref C) m=some (some (.ref f))
 fn:P9 K (.ref f)=true
 kp:Qh K (.ref f)=true
section
variable{X:Cx}{pins:List (Q4×Obj)}{σ:St}{H:Hp}{s:Rf}{a C dx:Q4}{fs:List (Str×V)}{f:Str}{v:V}{A:Rc}{E:Q1->Rf->Prop}
theorem yI{m:Str}{g:Q4}{pl:Sem Bool}{Q:Q1×List Q1->Rf->Prop}(I:Inv X pins σ H s)(e:H a=some (.ins C dx fs))(c:HG X.K C)(k:Meth X.K C m g)(l:fs.lookup m=none)
  (h:Q (.ref g,[.ref a]) s):Rh (model X.prog X.w) A (getMethod (.ref a) m pl) Q E s:=by
 obtain⟨mA,O,r,_,_,_⟩:=E6 I.hok e;have hn:mA m=none:=wR.none_of (by rw[<-l];exact r m);exact CN I.kIn O (c.get m) k.at_ k.fn hn h
theorem Inv.made(I:Inv X pins σ H s):Inv X pins σ (upd (upd H s.heap.objs.size (.own (s.heap.objs.size+1))) (s.heap.objs.size+1) (.ins C s.heap.objs.size []))
  {s with heap:=(s.heap.push Qd).push (P0 C s.heap.objs.size)}:=by
 have e1:(s.heap.push Qd).get? s.heap.objs.size=some Qd:=QC s.heap rfl;have e2:((s.heap.push Qd).push (P0 C s.heap.objs.size)).get? (s.heap.objs.size+1)=some (P0 C s.heap.objs.size):=by
  have:=QC (s.heap.push Qd) (o:=P0 C s.heap.objs.size) rfl
  rwa [QE]at this
 have e3:(s.heap.push Qd).Ns s.heap.objs.size (λ_=>none):=⟨Qd,#[],_,e1,rfl,(λe he=>absurd he (by simp)),λ_=>rfl⟩
 have I1:=I.laid (a:=s.heap.objs.size) (o:=.own (s.heap.objs.size+1)) (h':=s.heap.push Qd) (t':=s.toks) (λb u q=>QB _ q) (NB _) ⟨_,e1⟩;refine I1.laid (a:=s.heap.objs.size+1) (o:=.ins C s.heap.objs.size []) (t':=s.toks) (λb u q=>QB _ q) (NI (QE _ _)) ?_;have ne:s.heap.objs.size≠s.heap.objs.size+1:=Np (Nat.lt_succ_self _);refine⟨by rw[aR ne,aZ],NK _,ne,e2,λ_=>none,(Heap.Ns1.of_empty e3).at λo q=>QB _ q,λ_=>True.intro,λy hy=>absurd rfl hy⟩
end
section
variable{X:Cx}{o e value:Ri}{f:Str}{pos pos' tpos:Pos}{ta tv:TE}
theorem xH{pl:Sem Bool}{m:Str}{apos:Pos}{args:List Ri}{pins:List (Q4×Obj)}{s:Rf}{σ:St}{H:Hp}{Q:Q1->Rf->Prop}{te:TE}(he:PE X e te)(I:Inv X pins σ H s)
  (h:te σ H fun x H1=>∃ a C dx fs g,x=.ref a/\H1 a=some (.ins C dx fs)/\HG X.K C/\Meth X.K C m g/\fs.lookup m=none /\
   ∀s1,Inv X pins σ H1 s1->Rh (model X.prog X.w) X.A (RE pos (.ref g) [.ref a] (backTo pos (Rj args X.env)) (backToKw pos (RF [] X.env))) Q X.xe s1)
  (ht:eval (.Call (.Attribute e m apos) args [] pos) X.env=(do
   let ov<-eval e X.env
   standAt apos.atName
   let (f,first)<-holding [ov] (getMethod ov m pl)
   RE pos f first (backTo pos (Rj args X.env)) (backToKw pos (RF [] X.env)))):
  Rh (model X.prog X.w) X.A (eval (.Call (.Attribute e m apos) args [] pos) X.env) Q X.xe s:=by
 refine PySem.W.methodCall_KW (pl:=pl) (fj (he pins s σ H _ I h) λu s1 ⟨x,H1,I1,rx,a,C,dx,fs,g,ex,ea,c,k,l,q⟩=>?_) ht;subst ex;obtain rfl:u=Value.ref a:=rx;exact yI I1 ea c k l (q s1 I1)
end
structure iz(k:Nat)(A:Rc):Prop where
 hd:A.handled=none
 dp:A.depth+3*k+5<RG
 un:A.units+16*k+200<RH
theorem iz.mono{j k:Nat}{A:Rc}(r:iz k A)(h:j<=k):iz j A:=⟨r.hd,by have:=r.dp;omega,by have:=r.un;omega⟩
theorem iz.deeper{k:Nat}{A:Rc}(r:iz (k+1) A)(env:Env):iz k (A.deeper env):=
 ⟨r.hd,by have:=r.dp;show A.depth+1+3*k+5<_;omega,by have:=r.un;show A.units+3+16*k+200<_;omega⟩
theorem iz.depth{k:Nat}{A:Rc}(r:iz k A):A.depth<RG:=by have:=r.dp;omega
theorem iz.units{k:Nat}{A:Rc}(r:iz k A):A.units+64<RH:=by have:=r.un;omega
def KR:TA:=λ_ H Q=>Q [] H
def Ik(ta:TE)(tr:TA):TA:=λσ H Q=>ta σ H λx H1=>tr σ H1 λxs H2=>Q (x::xs) H2
section
variable{X:Cx}{e:Ri}{es:List Ri}{te:TE}{t:TA}{pos:Pos}
theorem qd:PA X [] KR:=λ_ _ _ _ H Q I h=>Calls.spliced_nil ⟨[],H,I,.nil,h⟩
theorem nc(ha:PE X e te)(hr:PA X es t)(hs:Rj (e::es) X.env=(false,eval e X.env)::Rj es X.env:=by rfl):PA X (e::es) (Ik te t):=by
 intro pos pins s σ H Q I h;rw[hs];show Rh _ _ (spliced ((false,eval e X.env)::backTo pos (Rj es X.env))) _ _ s;refine Calls.spliced_cons (fj (ha pins s σ H _ I h) λu s1 ⟨x,H1,I1,r1,q1⟩=>?_);exact fj (hr pos pins s1 σ H1 _ I1 q1) λus s2 ⟨xs,H2,I2,r2,q2⟩=>⟨x::xs,H2,I2,.cons r1 r2,q2⟩
def Mi(t:TA):TE:=λσ H Q=>t σ H λxs H1=>xs.length<=Q7/\∀p,H1 p=none->Q (.ref p) (upd H1 p (.tup xs))
def LC(t:TA):TE:=λσ H Q=>t σ H λxs H1=>xs.length<=Q7/\∀p,H1 p=none->Q (.ref p) (upd H1 p (.lst xs))
theorem G2{x1}(h:PA X es t):PE X (.Tuple es x1 pos) (Mi t):=by
 intro pins s σ H Q I hq;refine wpAny_Tuple_spliced (fj (h pos pins s σ H _ I hq) λus s1 ⟨xs,H1,I1,r,z,q⟩=>⟨by rw[<-r.length];exact z,?_⟩);have hf:H1 s1.heap.objs.size=none:=I1.hok.fresh (NB _);refine⟨.ref s1.heap.objs.size,upd H1 s1.heap.objs.size (.tup xs),I1.laid (t':=s1.toks) (λb u e=>QB _ e) (NB _) ?_,rfl,q _ hf⟩;exact⟨z,us,r,⟨_,QC _ rfl,rfl,_,rfl⟩⟩
theorem sU(h:PA X es t):PE X (.List es pos) (LC t):=by
 intro pins s σ H Q I hq;refine wpAny_List_spliced (fj (h pos pins s σ H _ I hq) λus s1 ⟨xs,H1,I1,r,z,q⟩=>⟨by rw[<-r.length];exact z,?_⟩);have hf:H1 s1.heap.objs.size=none:=I1.hok.fresh (NB _);refine⟨.ref s1.heap.objs.size,upd H1 s1.heap.objs.size (.lst xs),I1.laid (t':=s1.toks) (λb u e=>QB _ e) (NB _) ?_,rfl,q _ hf⟩;exact⟨z,us,0,r,QC _ rfl⟩
end
abbrev Sp:=List V->Hp->VK->XK->Prop
abbrev BU:=List Env->Hp->Rf->XK->Q1->Rf->Prop
structure DZ(P:Q3)(w:Q2)(K:P5)(mg:Str->Option Q1)(base:Q6)(A:Rc)(outer:List Env)(s:Rf)(H:Hp):Prop where
 frames:A.frames=some outer
 mod:Mod K mg base
 bs:∀b o,base.get? b=some o->s.heap.get? b=some o/\H b=none
 bsz:base.objs.size<=s.heap.objs.size
 funs:s.heap.FunFrames base outer
 frf:∀b∈frs outer,H b=none
 hok:o0 P w H s.heap
 bare:AllBare s.gens
def CE(outer:List Env)(P:Q3)(w:Q2)(H:Hp)(s:Rf)(Q:VK)(u:Q1)(s':Rf):Prop:=
 ∃v H',s'.os=s.os/\AllBare s'.gens/\Un (frs outer) [] H H' s.heap s'.heap/\o0 P w H' s'.heap/\RelV v u/\Q v H'
def CR(CX:BU)(outer:List Env)(P:Q3)(w:Q2)(H:Hp)(s:Rf)(Q:VK)(E:XK)(r:Result)(s':Rf):Prop:=
 match r with
 |.ok (.ret u)=>CE outer P w H s Q u s'
 |.ok _=>False
 |.error e=>CX outer H s E e s'
structure nQ(P:Q3)(w:Q2)(K:P5)(mg:Str->Option Q1)(base:Q6)(CX:BU)(k:Nat)(f:Q4)(fd:RJ)(ps:List Str)(sp:Sp):Prop where
 len:∀vs H Q E,sp vs H Q E->vs.length=ps.length
 run:∀(A:Rc)(outer:List Env)(s:Rf)(H:Hp)(args:Args)(us:List Q1)(vs:List V)(Q:VK)(E:XK),iz k A->DZ P w K mg base A outer s H->RK s fd args (ps.zip us)->Vals vs us->sp vs H Q E->
  RC (model P w) A (.call (.ref f) args) (CR CX outer P w H s Q E) s
theorem nQ.mono{P:Q3}{w:Q2}{K:P5}{mg:Str->Option Q1}{base:Q6}{CX:BU}{j k:Nat}{f:Q4}{fd:RJ}{ps:List Str}{sp:Sp}(F:nQ P w K mg base CX j f fd ps sp)(h:j<=k):
  nQ P w K mg base CX k f fd ps sp:=⟨F.len,λA outer s H args us vs Q E hr=>F.run A outer s H args us vs Q E (hr.mono h)⟩
section
variable{X:Cx}{pins:List (Q4×Obj)}{σ:St}{H:Hp}{s s':Rf}
theorem Inv.env0(I:Inv X pins σ H s):DZ X.prog X.w X.K X.mg X.base X.A X.stack s H:=
 ⟨I.ok.frames,I.ok.mod,I.bs,Nq I.ok.bsz I.sz,I.stack,I.stkFree,I.hok,I.bare⟩
theorem Inv.after{Q:VK}{u:Q1}(I:Inv X pins σ H s)(h:CE X.stack X.prog X.w H s Q u s'):EP X pins σ Q u s':=by
 obtain⟨v,H',os,bare,un,hok,r,q⟩:=h;obtain⟨hh,g,d,t,os'⟩:=s';obtain rfl:os'=s.os:=os;exact⟨v,H',I.call (h':=hh) (g':=g) (d':=d) (t':=t) (ch:=[]) un hok bare (λb z=>absurd z (by simp)),r,q⟩
end
def Binds(K:P5)(fd:RJ)(ps:List Str)(ds:List Q1):Prop:=
 ∀(s:Rf)(us:List Q1),K.In s.heap->(us++ds).length=ps.length->RK s fd ⟨us,[]⟩ (ps.zip (us++ds))
theorem Binds.all{K:P5}{fd:RJ}{ps:List Str}(h:∀us:List Q1,us.length=ps.length->bindArgs fd ⟨us,[]⟩=pure (ps.zip us)):Binds K fd ps []:=λs us _ hl=>by
 rw[NM]at hl ⊢;exact .of_eq (h us hl)
section
variable{X:Cx}{CX:BU}{k:Nat}{f C:Q4}{fd:RJ}{ps:List Str}{sp:Sp}{dvs:List V}{ds:List Q1}{E:XK}{x m:Str}{p pos apos:Pos}{e o:Ri}{es:List Ri}{ta:TE}{t:TA}
end
structure bf(N P:List Str)(sc:Rg):Prop where
 kind:sc.kind=.function
 co:sc.isCoroutine=false
 gen:sc.isGenerator=false
 nd:N.Nodup
 pre:N.take P.length=P
 par:∀x∈P,sc.names.lookup x=some .local\/sc.names.lookup x=some .cell
 nofree:∀y∈sc.names,y.2≠.free
theorem uU{kindOf:Str->Option RL}{x:Str}:∀{binds:List (Str×Q1)}{m:Str->Option Q1},(∀v,(x,v)∉binds)->bindL kindOf binds m x=m x
 |[],_,_=>rfl
 |(n,v)::r,m,h=>by
  unfold bindL;rw[uU λw hw=>h w (Nv _ hw)];split
  ·have:x≠n:=(by rintro rfl;exact h v Nu);simp[this]
  ·rfl
theorem uk{kindOf:Str->Option RL}{x:Str}:∀{binds:List (Str×Q1)}{m:Str->Option Q1},(∀v,(x,v)∉binds)->bindC kindOf binds m x=m x
 |[],_,_=>rfl
 |(n,v)::r,m,h=>by
  unfold bindC;rw[uk λw hw=>h w (Nv _ hw)];split
  ·rfl
  ·have:x≠n:=(by rintro rfl;exact h v Nu);simp[this]
theorem ui{kindOf:Str->Option RL}{x:Str}{v:Q1}:∀{P:List Str}{vs:List Q1}{i:Nat}{m:Str->Option Q1},P.Nodup->P[i]?=some x->vs[i]?=some v->kindOf x=some .local->
  bindL kindOf (P.zip vs) m x=some v
 |[],_,_,_,_,h,_,_=>by simp at h
 |_::_,[],_,_,_,_,h,_=>by simp at h
 |p::P,w::vs,0,m,nd,h1,h2,hk=>by
  simp at h1 h2;subst h1;subst h2;show bindL kindOf ((p,w)::P.zip vs) m p=_;unfold bindL;rw[uU λv hv=>(List.nodup_cons.mp nd).1 (NN hv).1,if_pos hk];simp
 |p::P,w::vs,i+1,m,nd,h1,h2,hk=>by
  show bindL kindOf ((p,w)::P.zip vs) m x=_;unfold bindL;exact ui (i:=i) (List.nodup_cons.mp nd).2 (by simpa using h1) (by simpa using h2) hk
theorem vo{kindOf:Str->Option RL}{x:Str}{v:Q1}:∀{P:List Str}{vs:List Q1}{i:Nat}{m:Str->Option Q1},P.Nodup->P[i]?=some x->vs[i]?=some v->kindOf x≠some .local->
  bindC kindOf (P.zip vs) m x=some v
 |[],_,_,_,_,h,_,_=>by simp at h
 |_::_,[],_,_,_,_,h,_=>by simp at h
 |p::P,w::vs,0,m,nd,h1,h2,hk=>by
  simp at h1 h2;subst h1;subst h2;show bindC kindOf ((p,w)::P.zip vs) m p=_;unfold bindC;rw[uk λv hv=>(List.nodup_cons.mp nd).1 (NN hv).1,if_neg hk];simp
 |p::P,w::vs,i+1,m,nd,h1,h2,hk=>by
  show bindC kindOf ((p,w)::P.zip vs) m x=_;unfold bindC;exact vo (i:=i) (List.nodup_cons.mp nd).2 (by simpa using h1) (by simpa using h2) hk
def start(N:List Str)(vs:List V):St:=vs.map some++List.replicate (N.length-vs.length) none
def kO(CX:BU)(P:Q3)(w:Q2)(K:P5)(mg:Str->Option Q1)(base:Q6)(N:List Str)(qual:Str)(scope:Rg)(f:Q4)(cd:Q1)(A:Rc)(outer:List Env)(s:Rf)(H:Hp)(E:XK):Cx where
 prog:=P
 w:=w
 K:=K
 mg:=mg
 base:=base
 A:=A.deeper (envOfC qual scope s.heap.objs.size f cd)
 N:=N
 s₀:=s
 H₀:=H
 env:=envOfC qual scope s.heap.objs.size f cd
 outer:=outer
 stack:=envOfC qual scope s.heap.objs.size f cd::outer
 ex:=[]
 calm:=true
 fn:=λ_=>true
 pn:=[]
 xe:=λe s'=>Rh (model P w) (A.deeper (envOfC qual scope s.heap.objs.size f cd)) (leaving (envOfC qual scope s.heap.objs.size f cd) e) (λ_ s''=>CX outer H s E e s'') (λe' s''=>CX outer H s E e' s'') s'
theorem xq{sc:Rg}{n:Nat}{x:Str}(h:sc.names.lookup x=some .cell):∃c,(cellsFrom n sc.names []).lookup x=some c:=by
 have q:=Qi sc.names n [] (.inl h);exact Option.isSome_iff_exists.mp q
theorem A2{CX:BU}{P:Q3}{w:Q2}{K:P5}{mg:Str->Option Q1}{base:Q6}{N ps:List Str}{qual:Str}{scope:Rg}{f:Q4}{cd:Q1}{A:Rc}{outer:List Env}{s s1:Rf}{H:Hp}{E:XK}{us:List Q1}{vs:List V}
  (S:bf N ps scope) (hd:A.handled=none) (e0:DZ P w K mg base A outer s H) (hl:vs.length=ps.length) (r:Vals vs us)
  (x:InCallC s s.heap.objs.size (bindL (envOfC qual scope s.heap.objs.size f cd).kindOf (ps.zip us) λ_=>none) (cellsFrom (s.heap.objs.size+1) scope.names []) (bindC (envOfC qual scope s.heap.objs.size f cd).kindOf (ps.zip us) λ_=>none) s1):
  Inv (kO CX P w K mg base N qual scope f cd A outer s H E) [] (start N vs) H s1:=by
 have hpl:ps.length<=N.length:=by have:=congrArg List.length S.pre;rw[NP]at this;omega
 obtain⟨h1,tk,rfl,hk⟩:=x.done;have noA:∀b:Q4,b∉(kO CX P w K mg base N qual scope f cd A outer s H E).ex:=λb z=>absurd (show b∈([]:List Q4)from z) (by simp);refine⟨⟨e0.mod,S.kind,rfl,rfl,NB _,λy z c h1 h2=>?_,λy hy=>?_,λy c _ h=>?_,λ_=>hd,Around.frames_deeper e0.frames,.inr ⟨rfl,rfl⟩,λb z=>absurd z (noA b),e0.bs,e0.bsz,λb _ _=>noA b,λb z=>absurd z (noA b),e0.funs,e0.frf⟩,
  rfl,e0.bare,Un.kept hk,⟨_,x.toInCall.ns,λi y v h1 h2 h3=>?_⟩,λy c h=>⟨_,x.cell y c h⟩,e0.hok.fresh (NB _),λy c h=>?_,λp hp=>absurd (show p∈([]:List (Q4×Obj))from hp) (by simp),e0.hok.kept hk,?_⟩
 ·exact name_of_addr x.apart (PySem.mem_of_lookup h1) (PySem.mem_of_lookup h2)
 ·have hy:scope.names.lookup y=some .cell\/scope.names.lookup y=some .free:=hy;rcases hy with hy|hy
  ·exact xq hy
  ·exact absurd rfl (S.nofree _ (PySem.mem_of_lookup hy))
 ·exact Nr (x.above y c (PySem.mem_of_lookup h))
 ·have hi:i<vs.length:=by
   unfold start at h2;by_cases hi:i<vs.length
   ·exact hi
   ·rw[NQ (by simpa using hi)]at h2;rw[NR]at h2;split at h2<;>cases h2
  have ha:vs[i]?=some v:=by
   unfold start at h2;rw[NS (by simpa using hi),NT]at h2;cases e:vs[i]? with
   |none=>rw[e]at h2;cases h2
   |some a=>rw[e]at h2;cases h2;rfl
  obtain⟨u,hu,rv⟩:=r.get ha;have hp:ps[i]?=some y:=by
   rw[<-S.pre,List.getElem?_take_of_lt ‹0›];exact h1
  have ndP:ps.Nodup:=by rw[<-S.pre];exact S.nd.sublist (List.take_sublist _ _)
  refine⟨u,rv,?_⟩;rcases S.par y (NU hp)with k|k
  ·exact .inl ⟨k,ui ndP hp hu k⟩
  ·obtain⟨c,e⟩:=xq (n:=s.heap.objs.size+1) k;refine .inr ⟨.inl k,c,e,?_⟩;have q:=x.cell y c e;rw[vo ndP hp hu (by show scope.names.lookup y≠_;rw[k];decide)]at q;exact q
 ·exact e0.hok.fresh (Nr (x.above y c (PySem.mem_of_lookup h)))
 ·unfold start;show _=N.length;rw[NV,NW,List.length_replicate];omega
theorem Ga{CX:BU}{P:Q3}{w:Q2}{K:P5}{mg:Str->Option Q1}{base:Q6}{k:Nat}{f:Q4}{name qual:Str}{params:RM}{body:List Rl}{scope:Rg}{dV kV doc pm cdv ct oc:Q1}{an od:Option Q4}
  {osl:Array (Option Q1)} {N ps:List Str} {sp:Sp} (lk:K.lookup f=some ⟨oc,od,.func (Qj name qual params body scope dV kV doc pm an cdv ct),osl⟩) (hcd:Qk K cdv qual=true) (S:bf N ps scope)
  (len:∀vs H Q E,sp vs H Q E->vs.length=ps.length)
  (hbody:∀ (A:Rc) (outer:List Env) (s:Rf) (H:Hp) (vs:List V) (Q:VK) (E:XK),iz k (A.deeper (envOfC qual scope s.heap.objs.size f cdv))->sp vs H Q E ->
   ∃t,BR (kO CX P w K mg base N qual scope f cdv A outer s H E) body t/\t {nx:=λ_ H'=>Q .non H',rt:=Q} (start N vs) H):
  nQ P w K mg base CX (k+1) f (Qj name qual params body scope dV kV doc pm an cdv ct) ps sp:=by
 refine⟨len,λA outer s H args us vs Q E hr e0 hb r hsp=>?_⟩;have hl:=len _ _ _ _ hsp;have KX:K.In s.heap:=e0.mod.kin.keeps λb o e=>(e0.bs b o e).1;have lim:s.heap.NoLimit:=e0.mod.nolimit.keeps λb o e=>(e0.bs b o e).1;have hkind:∀y∈ps.zip us,scope.names.lookup y.1=some .local\/(scope.names.lookup y.1=some .cell/\((cellsFrom (s.heap.objs.size+1) scope.names []).lookup y.1).isSome=true):=λ⟨n,v⟩ hy=>by
  rcases S.par n (NN hy).1 with q|q
  ·exact .inl q
  ·exact .inr ⟨q,Qi _ _ _ (.inl q)⟩
 refine codeAny_call_function hr.depth (KX _ _ lk) rfl S.co S.gen rfl (PySem.W.codeRec_of KX hcd) (hb _ _ _ _ ?_);refine wpAny_newFunctionEnv_cells S.kind hkind λenv he s1 x=>?_;subst he;refine⟨lim.keeps x.toInCall.keep,codeAny_func ?_⟩;obtain⟨t,ht,hq⟩:=hbody A outer s H vs Q E (hr.deeper _) hsp;have I:Inv (kO CX P w K mg base N qual scope f cdv A outer s H E) [] (start N vs) H s1:=A2 S hr.hd e0 hl r x;refine Rm (ht [] s1 (start N vs) H _ I hq) (λfl s' hs=>?_) λe s' hs=>hs;have fin:∀{σ':St}{H':Hp}{v:V}{u:Q1},Inv (kO CX P w K mg base N qual scope f cdv A outer s H E) [] σ' H' s'->RelV v u->Q v H'->CE outer P w H s Q u s':=
  λ{σ' H' v u} J rv q=>⟨v,H',J.os,J.bare,J.base,J.hok,rv,q⟩
 cases fl with
 |ret u=>
  obtain⟨v,σ',H',J,rv,q⟩:=hs;exact fin J rv q
 |next=>
  obtain⟨σ',H',J,q⟩:=hs;exact fin (v:=V.non) (u:=Value.none) J rfl q
 |brk=>
  obtain⟨_,_,_,q⟩:=hs;exact False.elim q
 |cont=>
  obtain⟨_,_,_,q⟩:=hs;exact False.elim q
section
variable{X:Cx}{x:Str}{p pos:Pos}{e:Ri}{es:List Ri}{t:TA}{id T:String}{r:List V->Hp->VK->Prop}
def Mj(r:List V->Hp->VK->Prop)(t:TA):TE:=λσ H Q=>t σ H λvs H1=>r vs H1 Q
theorem xJ(hc:dW X (.builtin id) r)(hg:Gl X x)(hm:X.mg x=none)(hv:Rb x=some (.builtin id))(ha:PA X (e::es) t)(hn:x≠"__name__":=by decide)(hdb:(x==("__debug__":Str))=false:=by decide)
  (he:Rj (e::es) X.env=(false,eval e X.env)::Rj es X.env:=by rfl) (hpl:(backTo pos (Rj es X.env)).any (·.1)=false:=by rfl):PE X (.Call (.Name x p) (e::es) [] pos) (Mj r t):=by
 intro pins s σ H Q I h;refine RN (my I hg hm hv ?_ hn hdb);exact PyProof.Rows.callWith_builtin1 (fj (ha pos pins s σ H _ I h) λus s1 ⟨vs,H1,I1,r1,q1⟩=>hc pins s1 σ H1 vs us Q I1 r1 q1) he hpl
theorem BF(hc:dW X (.type T) r)(hg:Gl X x)(hm:X.mg x=none)(hv:Rb x=some (.type T))(ha:PA X (e::es) t)(hn:x≠"__name__":=by decide)(hdb:(x==("__debug__":Str))=false:=by decide)
  (he:Rj (e::es) X.env=(false,eval e X.env)::Rj es X.env:=by rfl) (hpl:(backTo pos (Rj es X.env)).any (·.1)=false:=by rfl):PE X (.Call (.Name x p) (e::es) [] pos) (Mj r t):=by
 intro pins s σ H Q I h;refine RN (my I hg hm hv ?_ hn hdb);exact QJ (fj (ha pos pins s σ H _ I h) λus s1 ⟨vs,H1,I1,r1,q1⟩=>hc pins s1 σ H1 vs us Q I1 r1 q1) he hpl
end
end L2
namespace HT
open PySem PyProof.Rows
theorem JE(A:Rc)(s:Rf)(a:Int)(t:Tok)(c:Int)(u:Tok)(prog:Q3)(w:Q2)(E:Q1->Rf->Prop)(Q:Q1->Rf->Prop)(h:Q (.bool (decide (a<c))) s):
  Rh (model prog w) A (richCompare .Lt (.int a t) (.int c u)) Q E s:=
 (PyProof.Rows.lt_int h:Rh (model prog w) A (Rz .Lt (.int a t) (.int c u)) Q E s)
section
open PySem.SeqAt
open PySem.AutoSeq1 (wpAny_loadPart')
open PySem.MeetsSeq PySem.MeetsSeq2 PySem.MeetsSeq3
end
section
variable{prog:Q3}{w:Q2}{A:Rc}{E:Q1->Rf->Prop}{s:Rf}
theorem KD{t b:Q4}{vs ws:List Q1}{Q:Q1->Rf->Prop}(ht:Q8 s.heap t vs.toArray)(hb:Q8 s.heap b ws.toArray)(hv:vs≠[])
  (h1:ws=[]->Q (.ref t) s) (h2:ws≠[]->Q (.ref s.heap.objs.size) {s with heap:=s.heap.push {cls:=.type "tuple",data:=.seq (vs++ws).toArray}})
  (hsz:vs.length+ws.length<=Q7):Rh (model prog w) A (Ry .Add (.ref t) (.ref b)) Q E s:=by
 obtain⟨⟨cls,dd,data,sl⟩,ho,hc,n,hd⟩:=id ht;obtain⟨⟨cls2,dd2,data2,sl2⟩,ho2,hc2,n2,hd2⟩:=id hb;simp only at hc hd hc2 hd2;subst hc hd hc2 hd2;have e:vs.toArray++ws.toArray=(vs++ws).toArray:=by simp
 by_cases hw:ws=[]
 ·exact RO ⟨_,ho,rfl⟩ ⟨_,ho2,rfl⟩ RP RT QW QX (QY _ _)
   (tuple_addW1 t b vs.toArray ws.toArray n n2 dd dd2 sl sl2 (by simpa using hv) (by simp[hw])) ⟨ho,ho2,h1 hw⟩
 ·refine RO ⟨_,ho,rfl⟩ ⟨_,ho2,rfl⟩ RP RT QW QX (QY _ _)
   (tuple_addW2 t b vs.toArray ws.toArray n n2 dd dd2 sl sl2 (by simpa using hv) (by simpa using hw) (by rw[NE,NE];exact hsz)) ⟨ho,ho2,?_⟩
  rw[e];exact h2 hw
def sIx(n d:Nat):Option Int->Nat
 |none=>d
 |some v=>if v<0 then(v+(n:Int)).toNat else min v.toNat n
theorem IL(n d:Nat):sIx n d none=d:=rfl
theorem J4(n d k:Nat):sIx n d (some (k:Int))=min k n:=by
 show(if(k:Int)<0 then((k:Int)+(n:Int)).toNat else min (k:Int).toNat n)=min k n;rw[if_neg ‹0›,NX]
theorem G4(n d:Nat)(hd:d<=n)(o:Option Int):sIx n d o<=n:=by
 cases o with
 |none=>exact hd
 |some v=>
  show(if v<0 then(v+(n:Int)).toNat else min v.toNat n)<=n;by_cases hv:v<0
  ·rw[if_pos hv];omega
  ·rw[if_neg hv];exact Nat.min_le_right _ _
theorem zJ(v:Int)(n d:Nat):(if v<0 then max (v+(n:Int)) 0 else min v (n:Int))=((sIx n d (some v):Nat):Int):=by
 show(if v<0 then max (v+(n:Int)) 0 else min v (n:Int))=(((if v<0 then(v+(n:Int)).toNat else min v.toNat n):Nat):Int)
 by_cases hv:v<0
 ·simp only[if_pos hv];omega
 ·simp only[if_neg hv];omega
theorem yZ(lo hi:Option Int)(n:Nat):Builtin.Slice.sliceAdjust lo hi 1 (n:Int)=(((sIx n 0 lo:Nat):Int),((sIx n n hi:Nat):Int)):=by
 have h1:¬((1:Int)<0):=by omega
 unfold Builtin.Slice.sliceAdjust;simp only[h1,if_false];refine Prod.ext ?_ ?_
 ·cases lo with
  |none=>rfl
  |some v=>exact zJ v n 0
 ·cases hi with
  |none=>rfl
  |some v=>exact zJ v n n
theorem yB(i j:Nat):Builtin.Slice.slicePlaces (i:Int) (j:Int) 1=j-i:=by
 unfold Builtin.Slice.slicePlaces;have h1:(1:Int)>0:=by omega
 simp only[h1,if_true,Int.ediv_one];split<;>omega
theorem rL{v:Q1}{o:Option Int}{Q:Option Int->Rf->Prop}(p:RU v o)(h:Q o s):Rh (model prog w) A (Builtin.Slice.slicePartIndex v) Q E s:=by
 cases p with
 |none=>exact slicePart_none h
 |int i t=>exact slicePart_int h
theorem pQ{sl:Q4}{vl vu:Q1}{lo hi:Option Int}{n:Nat}{Q:Int×Int×Nat->Rf->Prop}(hs:s.heap.IsSliceOf sl vl vu .none)(pl:RU vl lo)(pu:RU vu hi)
  (h:Q (((sIx n 0 lo:Nat):Int),1,sIx n n hi-sIx n 0 lo) s):Rh (model prog w) A (Builtin.Slice.sliceApplied (.ref sl) (pure (n:Int))) Q E s:=by
 obtain⟨os,hos,hcs,hds⟩:=id hs;unfold Builtin.Slice.sliceApplied Builtin.Slice.sliceFields;refine Rr (Rr (RV hos hds (x:=vl) rfl (Rr (RV hos hds (x:=vu) rfl (Rr (RV hos hds (x:=.none) rfl (Rq ?_)))))));refine Rr (slicePart_none ?_);show Rh _ _ (if((1:Int)==0)=true then _ else _) _ _ s;rw[if_neg (by decide)];refine Rr (rL pl (Rr (rL pu (Rr (Rq ?_)))));show Rh _ _ (match Builtin.Slice.sliceAdjust lo hi 1 (n:Int)with|(lo,hi)=>pure (lo,(1:Int),Builtin.Slice.slicePlaces lo hi 1)) _ _ s;rw[yZ lo hi n];show Rh _ _ (pure (((sIx n 0 lo:Nat):Int),(1:Int),Builtin.Slice.slicePlaces ((sIx n 0 lo:Nat):Int) ((sIx n n hi:Nat):Int) 1)) _ _ s;rw[yB];exact Rq h
theorem DS(xs:Array Q1)(i k:Nat):((List.range k).filterMap λ(m:Nat)=>xs[((i:Int)+(m:Int)*1).toNat]?).toArray=((xs.toList.drop i).take k).toArray:=by
 have e:(λ(m:Nat)=>xs[((i:Int)+(m:Int)*1).toNat]?)=λm=>xs[i+m]?:=by
  funext m
  have:((i:Int)+(m:Int)*1).toNat=i+m:=by omega
  rw[this]
 rw[e]
 have:=pick_run xs i k
 rw[List.filterMap_map]at this;have e2:((λx=>xs[x]?)∘λx=>i+x)=λm=>xs[i+m]?:=rfl;rw[e2]at this;rw[this]
theorem zx{t sl:Q4}{items:Array Q1}{vl vu:Q1}{lo hi:Option Int}{Q:Q1->Rf->Prop}(ht:Q8 s.heap t items)(hs:s.heap.IsSliceOf sl vl vu .none)(pl:RU vl lo)(pu:RU vu hi)
  (hw:¬(sIx items.size 0 lo=0/\sIx items.size items.size hi=items.size))
  (h:Q (.ref s.heap.objs.size) {s with heap:=s.heap.push {cls:=.type "tuple",data:=.seq ((items.toList.drop (sIx items.size 0 lo)).take (sIx items.size items.size hi-sIx items.size 0 lo)).toArray}})
  (hsz:items.size<=Q7):Rh (model prog w) A (getItem (.ref t) (.ref sl)) Q E s:=by
 have htake:sizeOk (.seq ((items.toList.drop (sIx items.size 0 lo)).take (sIx items.size items.size hi-sIx items.size 0 lo)).toArray):=by
  show((items.toList.drop (sIx items.size 0 lo)).take (sIx items.size items.size hi-sIx items.size 0 lo)).toArray.size<=Q7;rw[NE,NP,NY,Array.length_toList];omega
 have hj:sIx items.size items.size hi<=items.size:=G4 _ _ (NB _) hi;obtain⟨os,hos,hcs,hds⟩:=id hs;have hTs:s.TypeIs (.ref sl) "slice":=⟨os,hos,hcs⟩
 unfold getItem
 try with_reducible refine RW ?_
 first|refine Rr (Rq ?_)|skip
 refine Rr (wpAny_sequenceKey ht.typeIs (by decide) ?_);refine Rr (RX (name:=Str.ofString "__getitem__") ht.typeIs QK
  (RY QK ht.typeIs entry_tuple_getitem ?_ (args_tuple_getitem _ _)))
 show Rh _ _ (Builtin.Tuple.tupleItemsOf (.ref t) >>= _) _ _ s;refine Rr (tupleItemsOf_ ht ?_);refine Rr (RZ hTs ?_);rw[if_pos (by decide)];refine Rr (pQ hs pl pu ?_);have hno:¬((((sIx items.size 0 lo:Nat):Int)==0&&(1:Int)==1&&(sIx items.size items.size hi-sIx items.size 0 lo)==items.size)=true):=by
  intro q;rw[NZ,NZ]at q;have q1:((sIx items.size 0 lo:Nat):Int)=0:=eq_of_beq q.1.1;have q2:sIx items.size items.size hi-sIx items.size 0 lo=items.size:=eq_of_beq q.2;exact hw ⟨by omega,by omega⟩
 show Rh _ _ (if(((sIx items.size 0 lo:Nat):Int)==0&&(1:Int)==1&&(sIx items.size items.size hi-sIx items.size 0 lo)==items.size)=true then _ else _) _ _ s;rw[if_neg hno,DS]
 first
  |exact Rr (m:=Builtin.Tuple.tupleExact _) (R3 (Rq ⟨_,rfl,Rq h⟩) htake)
  |exact Rr (m:=Builtin.Tuple.tupleExact _) (R3 (Rr (Rq (Rq ⟨_,rfl,Rq h⟩))) htake)
  |exact Rr (Rr (m:=Builtin.Tuple.tupleExact _) (R3 (Rq (Rq ⟨_,rfl,Rq h⟩)) htake))
  |exact Rr (Rr (m:=Builtin.Tuple.tupleExact _) (R3 (Rq ⟨_,rfl,Rq h⟩) htake))
end
end HT
namespace L2
open PySem PySem.Spec PyProof.Rows
abbrev TO:=St->Hp->(Option Int->Hp->Prop)->Prop
def PO(X:Cx)(e:Option Ri)(t:TO):Prop:=
 ∀(pins:List (Q4×Obj))(s:Rf)(σ:St)(H:Hp)(Q:Option Int->Hp->Prop),Inv X pins σ H s->t σ H Q->
  Rh (model X.prog X.w) X.A (evalPart e X.env) (λu s'=>∃o H',Inv X pins σ H' s'/\RU u o/\Q o H') X.xe s
def En:TO:=λ_ H Q=>Q none H
def JD(t:TE):TO:=λσ H Q=>t σ H λx H1=>∃i,x=.int i/\Q (some i) H1
section
variable{X:Cx}{e:Ri}{te:TE}{lo hi:Option Ri}{tl th:TO}{pos p2:Pos}
theorem Ft:PO X none En:=by
 intro pins s σ H Q I h;rw[R4];exact Rq ⟨none,H,I,.none,h⟩
theorem Fh(h:PE X e te):PO X (some e) (JD te):=by
 intro pins s σ H Q I hw;rw[evalPart_some];refine fj (h pins s σ H _ I hw) λu s1 ⟨x,H1,I1,r1,q1⟩=>?_;obtain⟨i,rfl,q⟩:=q1;obtain⟨t,rfl⟩:=r1;exact⟨some i,H1,I1,.int i t,q⟩
def Kb(X:Cx)(r:V->Option Int->Option Int->Hp->VK->Prop):Prop:=
 ∀(pins:List (Q4×Obj))(s:Rf)(σ:St)(H:Hp)(x:V)(v vl vu:Q1)(lo hi:Option Int)(sl:Q4)(Q:VK),Inv X pins σ H s->RelV x v->s.heap.IsSliceOf sl vl vu .none->RU vl lo->RU vu hi->r x lo hi H Q->
  ∃T id,typeLookup (.type T) "__getitem__"=pure (some (.builtin id))/\s.TypeIs v T/\Rh (model X.prog X.w) X.A (getItem v (.ref sl)) (EP X pins σ Q) X.xe s
def M3(r:V->Option Int->Option Int->Hp->VK->Prop)(te:TE)(tl th:TO):TE:=λσ H Q=>te σ H λx H1=>tl σ H1 λl H2=>th σ H2 λu H3=>r x l u H3 Q
theorem DF{r:V->Option Int->Option Int->Hp->VK->Prop}(hr:Kb X r)(he:PE X e te)(hl:PO X lo tl)(hu:PO X hi th):PE X (.Subscript e (.Slice lo hi none p2) pos) (M3 r te tl th):=by
 intro pins s σ H Q I h;refine R5 (fj (he pins s σ H _ I h) λv s1 ⟨x,H1,I1,r1,q1⟩=>?_);refine wpAny_Slice (fj (hl pins s1 σ H1 _ I1 q1) λvl s2 ⟨l,H2,I2,pl,q2⟩=>fj (hu pins s2 σ H2 _ I2 q2) λvu s3 ⟨u,H3,I3,pu,q3⟩=>?_);rw[R4];refine Rq ?_;have I4:Inv X pins σ H3 {s3 with heap:=s3.heap.push {cls:=.type "slice",data:=.fields #[vl,vu,.none]}}:=I3.kept (t':=s3.toks) λb ob q=>QB _ q;obtain⟨T,id,hT,ht,hg⟩:=hr pins {s3 with heap:=s3.heap.push {cls:=.type "slice",data:=.fields #[vl,vu,.none]}} σ H3 x v vl vu l u s3.heap.objs.size Q I4 r1 (Heap.IsSliceOf.new ..) pl pu q3;show Rh (model X.prog X.w) X.A (subscriptTail e (.Slice lo hi none p2) v (.ref s3.heap.objs.size)) (EP X pins σ Q) X.xe {s3 with heap:=s3.heap.push {cls:=.type "slice",data:=.fields #[vl,vu,.none]}};exact tail_any (ops:=[.ref s3.heap.objs.size,v]) ht hT hg (by with_unfolding_all rfl)
def xA(xs:List V)(lo hi:Option Int):List V:=(xs.drop (HT.sIx xs.length 0 lo)).take (HT.sIx xs.length xs.length hi-HT.sIx xs.length 0 lo)
theorem qu(xs:List V)(lo hi:Option Int):(xA xs lo hi).length<=xs.length:=by
 unfold xA;rw[NP,NY];omega
def L7(K:P5):V->Option Int->Option Int->Hp->VK->Prop:=λx lo hi H Q=>∃a xs,x=.ref a/\p8 K H a xs/\
 ¬(HT.sIx xs.length 0 lo=0/\HT.sIx xs.length xs.length hi=xs.length)/\∀p,H p=none->Q (.ref p) (upd H p (.tup (xA xs lo hi)))
theorem G6:Kb X (L7 X.K):=by
 intro pins s σ H x v vl vu lo hi sl Q I rx hs pl pu h;obtain⟨a,xs,rfl,hx,hw,q⟩:=h;cases rx;obtain⟨its,r,ht,hz⟩:=I.tuple hx;have hlen:its.toArray.size=xs.length:=by rw[NE];exact r.length.symm
 refine⟨"tuple",_,PyProof.Rows.slot_tuple_getitem.lookup,ht.typeIs,?_⟩;refine HT.zx ht hs pl pu (by rw[hlen];exact hw) ?_ (by rw[hlen];exact hz);rw[hlen];refine⟨.ref s.heap.objs.size,_,I.laid (t':=s.toks) (o:=.tup (xA xs lo hi)) (λb ob q=>QB _ q) (NB _) ?_,rfl,q _ (I.hok.fresh (NB _))⟩;exact⟨Nq (qu xs lo hi) hz,_,(r.drop (HT.sIx xs.length 0 lo)).take (HT.sIx xs.length xs.length hi-HT.sIx xs.length 0 lo),IsTup.new _ _⟩
def JW(K:P5):R2:=λx y H Q=>∃a b xs ys,x=.ref a/\y=.ref b/\p8 K H a xs/\p8 K H b ys/\xs≠[]/\xs.length+ys.length<=Q7/\
 (ys=[]->Q (.ref a) H)/\(ys≠[]->∀p,H p=none->Q (.ref p) (upd H p (.tup (xs++ys))))
theorem Vals.nil_iff{xs:List V}{us:List Q1}(r:Vals xs us):us=[]↔xs=[]:=by
 cases r with
 |nil=>simp
 |cons _ _=>simp
theorem Fw:lL X (Ry .Add) (JW X.K):=by
 intro pins s σ H x y v u Q I rx ry h;obtain⟨a,b,xs,ys,rfl,rfl,ha,hb,hx,hz,q1,q2⟩:=h;cases rx;cases ry;obtain⟨its,r1,p1,_⟩:=I.tuple ha;obtain⟨its2,r2,p2,_⟩:=I.tuple hb;refine HT.KD p1 p2 (λz=>hx (r1.nil_iff.mp z)) (λz=>⟨.ref a,H,I,rfl,q1 (r2.nil_iff.mp z)⟩) (λz=>?_) (by rw[<-r1.length,<-r2.length];exact hz);refine⟨.ref s.heap.objs.size,_,I.laid (t':=s.toks) (o:=.tup (xs++ys)) (λb ob q=>QB _ q) (NB _) ?_,rfl,q2 (λw=>z (r2.nil_iff.mpr w)) _ (I.hok.fresh (NB _))⟩;exact⟨by rw[NV];exact hz,_,r1.append r2,IsTup.new _ _⟩
end
def EQ(n:Nat)(i:Int):Option Nat:=if 0<=i then(if i<n then some i.toNat else none)else if -(n:Int)<=i then some (i+n).toNat else none
def ou{α:Type}(xs:List α)(i:Int):Option α:=(EQ xs.length i).bind λj=>xs[j]?
theorem Et{n:Nat}{i:Int}{j:Nat}(h:EQ n i=some j):seqIndex? i n=some j/\j<n/\-(n:Int)<=i/\i<n:=by
 unfold EQ at h;by_cases h0:0<=i
 ·rw[if_pos h0]at h;by_cases h1:i<n
  ·rw[if_pos h1]at h;have e:i.toNat=j:=Option.some.inj h;exact⟨by rw[seqIndex_of h0 h1,e],by omega,by omega,h1⟩
  ·rw[if_neg h1]at h;cases h
 ·rw[if_neg h0]at h;by_cases h1:-(n:Int)<=i
  ·rw[if_pos h1]at h;have e:(i+n).toNat=j:=Option.some.inj h;exact⟨by rw[seqIndex_neg ‹0› h1,e],by omega,h1,by omega⟩
  ·rw[if_neg h1]at h;cases h
theorem vv{α:Type}{xs:List α}{i:Int}{v:α}(h:ou xs i=some v):∃j,seqIndex? i xs.length=some j/\xs[j]?=some v/\j<xs.length/\-(xs.length:Int)<=i/\i<xs.length:=by
 unfold ou at h;cases e:EQ xs.length i with
 |none=>rw[e]at h;cases h
 |some j=>
  rw[e]at h;obtain⟨h1,h2,h3,h4⟩:=Et e;exact⟨j,h1,h,h2,h3,h4⟩
theorem DY{α:Type}{xs:List α}{j:Nat}{v:α}(h:xs[j]?=some v):ou xs (j:Int)=some v:=by
 have hj:j<xs.length:=(List.getElem?_eq_some_iff.mp h).1;have e:EQ xs.length (j:Int)=some j:=by
  unfold EQ;rw[if_pos ‹0›,if_pos ‹0›];simp
 unfold ou;rw[e];exact h
def oy(b:Ri):Prop:=∀o i,subscripted b false o i=operate [o,i] (getItem o i)
def Im(X:Cx)(r:R2):Prop:=
 ∀(value slice:Ri)(pins:List (Q4×Obj))(s:Rf)(σ:St)(H:Hp)(x y:V)(v u:Q1)(Q:VK),Inv X pins σ H s->RelV x v->RelV y u->r x y H Q->
  subscripted slice false v u=operate [v,u] (getItem v u)->Rh (model X.prog X.w) X.A (subscriptTail value slice v u) (EP X pins σ Q) X.xe s
def M7(X:Cx)(id:String)(r:V->List V->Hp->VK->Prop):Prop:=
 ∀(pins:List (Q4×Obj))(s:Rf)(σ:St)(H:Hp)(x:V)(xs:List V)(v:Q1)(us:List Q1)(Q:VK),Inv X pins σ H s->RelV x v->Vals xs us->r x xs H Q->
  Rh (model X.prog X.w) X.A (call (.builtin id) (v::us)) (EP X pins σ Q) X.xe s
section
variable{X:Cx}{a b:Ri}{ta tb:TE}{pos:Pos}
theorem Gg{r:R2}(hr:Im X r)(ha:PE X a ta)(hb:PE X b tb)(hs:oy b):PE X (.Subscript a b pos) (JM r ta tb):=by
 intro pins s σ H Q I h;exact R5 (GZ ha hb I h λv u s2 x y H2 I2 rx ry q=>hr a b pins s2 σ H2 x y v u Q I2 rx ry q (hs _ _))
def LA(K:P5):R2:=λx y H Q=>∃p xs i v,x=.ref p/\y=.int i/\ot K H p xs/\ou xs i=some v/\Q v H
def LU(K:P5):R2:=λx y H Q=>∃p xs i v,x=.ref p/\y=.int i/\p8 K H p xs/\ou xs i=some v/\Q v H
def Mx:R2:=λx y H Q=>∃z i c,x=.str z/\y=.int i/\z.length<=Q7/\ou z.cps.toList i=some c/\Q (.str ⟨#[c]⟩) H
theorem zF:Im X (LA X.K):=by
 intro value slice pins s σ H x y v u Q I rx ry h hs;obtain⟨p,xs,i,z,rfl,rfl,hq,he,q⟩:=h;cases rx;obtain⟨t,rfl⟩:=ry;obtain⟨its,r,pl,hz⟩:=I.list hq;obtain⟨j,h1,h2,h3,h4,h5⟩:=vv he;obtain⟨w,ew,rw'⟩:=r.get h2;have hl:=r.length;have hn:=pZ;have fin:EP X pins σ Q w s:=⟨z,H,I,rw',q⟩
 by_cases h0:0<=i
 ·have hj:i.toNat=j:=by
   rw[seqIndex_of h0 h5]at h1;exact Option.some.inj h1
  exact item_listR pl.isList h0 ‹0› (by rw[hj];simpa using ew) fin hs
 ·have hj:(i+(its.toArray.size:Int)).toNat=j:=by
   rw[seqIndex_neg ‹0› h4]at h1;rw[NE,<-hl];exact Option.some.inj h1
  exact subscriptTail_builtinR (x:=w) pl.isList.typeIs slot_list_getitem.lookup
   (wpAny_getItem_list_neg (Q:=λr s'=>r=w/\EP X pins σ Q r s') pl.isList ‹0› (by rw[NE]<;>omega) ‹0› (by rw[hj];simpa using ew) ⟨rfl,fin⟩) hs
theorem Gz:Im X (LU X.K):=by
 intro value slice pins s σ H x y v u Q I rx ry h hs;obtain⟨p,xs,i,z,rfl,rfl,hq,he,q⟩:=h;cases rx;obtain⟨t,rfl⟩:=ry;obtain⟨its,r,pl,hz⟩:=I.tuple hq;obtain⟨j,h1,h2,h3,h4,h5⟩:=vv he;obtain⟨w,ew,rw'⟩:=r.get h2;have hl:=r.length;have hn:=pZ;have fin:EP X pins σ Q w s:=⟨z,H,I,rw',q⟩
 exact subscriptTail_builtinR (x:=w) pl.typeIs slot_tuple_getitem.lookup
  (getItem_tuple (j:=j) (Q:=λr s'=>r=w/\EP X pins σ Q r s') pl ‹0› ‹0› (by rw[NE,<-hl];exact h1) (by simpa using ew) ⟨rfl,fin⟩) hs
theorem GH:Im X Mx:=by
 intro value slice pins s σ H x y v u Q I rx ry h hs;obtain⟨z,i,c,rfl,rfl,hz,he,q⟩:=h;obtain⟨t,rfl⟩:=rx;obtain⟨t',rfl⟩:=ry;obtain⟨j,h1,h2,h3,h4,h5⟩:=vv he;have hl:z.cps.toList.length=z.length:=by simp[Str.length]
 rw[hl]at h1 h4 h5;have hn:=pZ;exact tail_any (typeIs_str s z t) slot_str_getitem.lookup (getItem_str (c:=c) (by
  have e1:decide (i < -(2^63:Int))=false:=decide_eq_false ‹0›;have e2:decide (i>=2^63)=false:=decide_eq_false ‹0›;rw[e1,e2,Bool.or_false]) (by rw[h1];simpa using h2) ⟨.str ⟨#[c]⟩,H,I.tok _,⟨_,rfl⟩,q⟩) hs
theorem vE(lo hi:Option Int)(n:Nat):(sliceBounds lo hi none n).1=((HT.sIx n 0 lo:Nat):Int)/\(sliceBounds lo hi none n).2.1=((HT.sIx n n hi:Nat):Int)/\(sliceBounds lo hi none n).2.2=1:=by
 refine⟨?_,?_,rfl⟩
 ·cases lo with
  |none=>simp[sliceBounds,HT.sIx]
  |some i=>
   simp only[sliceBounds,HT.sIx,N0,show(1:Int)>0 by decide,if_true];by_cases h:i<0
   ·simp only[h,if_true]<;>omega
   ·simp only[h,if_false]<;>omega
 ·cases hi with
  |none=>simp[sliceBounds,HT.sIx]
  |some i=>
   simp only[sliceBounds,HT.sIx,N0,show(1:Int)>0 by decide,if_true];by_cases h:i<0
   ·simp only[h,if_true]<;>omega
   ·simp only[h,if_false]<;>omega
theorem tM(its:List Q1)(lo hi:Option Int):slicePick its.toArray lo hi none=((its.drop (HT.sIx its.length 0 lo)).take (HT.sIx its.length its.length hi-HT.sIx its.length 0 lo)).toArray:=by
 obtain⟨h1,h2,h3⟩:=vE lo hi its.toArray.size;unfold slicePick;rw[h1,h2,h3];simp only[sliceRange_one,pick_run,NE]<;>rfl
def L5(K:P5):V->Option Int->Option Int->Hp->VK->Prop:=λx lo hi H Q=>∃a xs,x=.ref a/\ot K H a xs/\∀p,H p=none->Q (.ref p) (upd H p (.lst (xA xs lo hi)))
theorem ER:Kb X (L5 X.K):=by
 intro pins s σ H x v vl vu lo hi sl Q I rx hs pl pu h;obtain⟨a,xs,rfl,hx,q⟩:=h;cases rx;obtain⟨its,r,ht,hz⟩:=I.list hx;have hlen:=r.length;refine⟨"list",_,slot_list_getitem.lookup,ht.isList.typeIs,?_⟩;refine wpAny_getItem_list_slice ht.isList hs pl pu .none (by simp) ?_ (by rw[NE]<;>omega);rw[tM,<-hlen];refine⟨.ref s.heap.objs.size,_,I.laid (t':=s.toks) (o:=.lst (xA xs lo hi)) (λb ob q=>QB _ q) (NB _) ?_,rfl,q _ (I.hok.fresh (NB _))⟩;exact⟨Nq (qu xs lo hi) hz,_,0,(r.drop (HT.sIx xs.length 0 lo)).take (HT.sIx xs.length xs.length hi-HT.sIx xs.length 0 lo),QC _ rfl⟩
def Dh:V->Bool
 |.non=>true
 |.bl _=>true
 |.int _=>true
 |.str _=>true
 |_=>false
def La:V->V->Bool
 |.non,.non=>true
 |.bl a,.bl b=>a==b
 |.bl a,.int b=>(if a then 1 else 0)==b
 |.int a,.bl b=>a==(if b then 1 else 0)
 |.int a,.int b=>a==b
 |.str a,.str b=>a==b
 |_,_=>false
theorem HB{A:Rc}{s:Rf}{y x:V}{u v:Q1}(ry:RelV y u)(rx:RelV x v)(fy:Dh y=true)(fx:Dh x=true):SeqAt.EqAt A s u v (La y x):=by
 cases y with
 |non=>
  cases ry;cases x with
  |non=>cases rx;exact SeqAt.EqAt.same _
  |bl b=>cases rx;exact SeqAt.EqAt.none_bool b
  |int b=>obtain⟨t,rfl⟩:=rx;exact SeqAt.EqAt.none_int b t
  |str b=>obtain⟨t,rfl⟩:=rx;exact SeqAt.EqAt.none_str b t
  |_=>exact absurd (show false=true from fx) NF
 |bl a=>
  cases ry;cases x with
  |non=>cases rx;exact SeqAt.EqAt.bool_none a
  |bl b=>cases rx;exact SeqAt.EqAt.bool_bool a b
  |int b=>obtain⟨t,rfl⟩:=rx;exact SeqAt.EqAt.bool_int a b t
  |str b=>obtain⟨t,rfl⟩:=rx;exact SeqAt.EqAt.bool_str a b t
  |_=>exact absurd (show false=true from fx) NF
 |int a=>
  obtain⟨t',rfl⟩:=ry;cases x with
  |non=>cases rx;exact SeqAt.EqAt.int_none a t'
  |bl b=>cases rx;exact SeqAt.EqAt.int_bool a t' b
  |int b=>obtain⟨t,rfl⟩:=rx;exact SeqAt.EqAt.int_int a t' b t
  |str b=>obtain⟨t,rfl⟩:=rx;exact SeqAt.EqAt.int_str a t' b t
  |_=>exact absurd (show false=true from fx) NF
 |str a=>
  obtain⟨t',rfl⟩:=ry;cases x with
  |non=>cases rx;exact SeqAt.EqAt.str_none a t'
  |bl b=>cases rx;exact SeqAt.EqAt.str_bool a t' b
  |int b=>obtain⟨t,rfl⟩:=rx;exact SeqAt.EqAt.str_int a t' b t
  |str b=>obtain⟨t,rfl⟩:=rx;exact SeqAt.EqAt.str_str a t' b t
  |_=>exact absurd (show false=true from fx) NF
 |_=>exact absurd (show false=true from fy) NF
theorem oH:dW X (.builtin "len") (λxs H Q=>∃p ys,xs=[.ref p]/\(ot X.K H p ys\/p8 X.K H p ys)/\Q (.int ys.length) H):=by
 intro pins s σ H xs us Q I r h;obtain⟨p,ys,rfl,hq,q⟩:=h;obtain⟨u,rfl,rx⟩:=vals1 r;cases rx;have hn:=pZ;rcases hq with hq|hq
 ·obtain⟨its,r',pl,hz⟩:=I.list hq;have hlen:=r'.length;exact Calls.call_len_list pl.isList (by simp only[NE]<;>omega) ⟨.int ys.length,H,I.tok _,⟨s.toks+1,by rw[NE,hlen]⟩,q⟩
 ·obtain⟨its,r',pl,hz⟩:=I.tuple hq;have hlen:=r'.length;exact len_tuple pl (by simp only[NE]<;>omega) ⟨.int ys.length,H,I.tok _,⟨s.toks+1,by rw[NE,hlen]⟩,q⟩
theorem ww:dW X (.builtin "len") (λxs H Q=>∃z,xs=[.str z]/\z.length<=Q7/\Q (.int z.length) H):=by
 intro pins s σ H xs us Q I r h;obtain⟨z,rfl,hz,q⟩:=h;obtain⟨u,rfl,t,rfl⟩:=vals1 r;have hn:=pZ;exact len_str ‹0› ⟨.int z.length,H,I.tok _,⟨_,rfl⟩,q⟩
theorem oM:dW X (.type "list") (λxs H Q=>∃p ys,xs=[.ref p]/\(ot X.K H p ys\/p8 X.K H p ys)/\∀l,H l=none->Q (.ref l) (upd H l (.lst ys))):=by
 intro pins s σ H xs us Q I r h;obtain⟨p,ys,rfl,hq,q⟩:=h;obtain⟨u,rfl,rx⟩:=vals1 r;cases rx;have fin:∀(its:List Q1),Vals ys its->ys.length<=Q7->∀(h':Q6)(c':Nat),(∀b o',s.heap.get? b=some o'->h'.get? b=some o')->
   h'.get? s.heap.objs.size=some {cls:=.type "list",dict:=none,data:=.seq its.toArray c',slots:=#[]}->EP X pins σ Q (.ref s.heap.objs.size) {s with heap:=h'}:=λits r' hz h' c' kp e=>
  ⟨.ref s.heap.objs.size,_,I.laid (t':=s.toks) kp (NB _) (show cS X.prog X.w _ h' _ (.lst ys)from⟨hz,its,c',r',e⟩),rfl,q _ (I.hok.fresh (NB _))⟩
 rcases hq with hq|hq
 ·obtain⟨its,r',pl,hz⟩:=I.list hq;have hlen:=r'.length;obtain⟨o,ho,hc,n,hd⟩:=pl.isList;exact call_list_seq p (.inl rfl) ho hc hd (λh' c' kp e=>fin its r' hz h' c' kp e) (by simp only[NE]<;>omega)
 ·obtain⟨its,r',pl,hz⟩:=I.tuple hq;have hlen:=r'.length;obtain⟨o,ho,hc,n,hd⟩:=pl;exact call_list_seq p (.inr rfl) ho hc hd (λh' c' kp e=>fin its r' hz h' c' kp e) (by simp only[NE]<;>omega)
theorem nV:dW X (.type "tuple") (λxs H Q=>∃p ys,xs=[.ref p]/\((ot X.K H p ys/\∀l,H l=none->Q (.ref l) (upd H l (.tup ys)))\/(p8 X.K H p ys/\Q (.ref p) H))):=by
 intro pins s σ H xs us Q I r h;obtain⟨p,ys,rfl,h⟩:=h;obtain⟨u,rfl,rx⟩:=vals1 r;cases rx;rcases h with⟨hq,q⟩|⟨hq,q⟩
 ·obtain⟨its,r',pl,hz⟩:=I.list hq;have hlen:=r'.length;refine call_tuple_list pl.isList (λh' kp=>?_) (by simp only[NE]<;>omega);have I1:Inv X pins σ H {s with heap:=h'}:=I.kept (t':=s.toks) kp;have I2:Inv X pins σ (upd H h'.objs.size (.tup ys)) {s with heap:=h'.push {cls:=.type "tuple",data:=.seq its.toArray}}:=
   I1.laid (t':=s.toks) (λb o e=>QB _ e) (NB _) (show cS X.prog X.w _ _ _ (.tup ys)from⟨hz,its,r',IsTup.new _ _⟩)
  exact⟨.ref h'.objs.size,_,I2,rfl,q _ (I1.hok.fresh (NB _))⟩
 ·obtain⟨its,r',pl,hz⟩:=I.tuple hq;exact call_tuple_same pl ⟨.ref p,H,I,rfl,q⟩
def MM(K:P5)(T:String)(x:V)(H:Hp):Prop:=match x with
 |.str _=>T="str"
 |.int _=>T="int"
 |.ref p=>(T="list"/\∃xs,ot K H p xs)\/(T="tuple"/\∃o,K.lookup p=some o/\o.cls=.type "tuple"/\o.dict=none) \/
   (T="dict"/\((∃kvs,H p=some (.dK kvs))\/∃kvs,H p=some (.dT kvs)))\/(T="set"/\∃S n,H p=some (.set S n))
 |_=>False
theorem Hy{pins:List (Q4×Obj)}{σ:St}{H:Hp}{s:Rf}{T:String}{x:V}{v:Q1}(I:Inv X pins σ H s)(r:RelV x v)(ty:MM X.K T x H):
  s.TypeIs v T/\∀a,v=.ref a->∃ob,s.heap.get? a=some ob/\ob.dict=none:=by
 cases x with
 |str z=>
  obtain⟨t,rfl⟩:=r;cases(show T="str"from ty);exact⟨typeIs_str s z t,λ_ e=>nomatch e⟩
 |int i=>
  obtain⟨t,rfl⟩:=r;cases(show T="int"from ty);exact⟨typeIs_int s i t,λ_ e=>nomatch e⟩
 |ref p=>
  cases r;rcases ty with⟨rfl,xs,hq⟩|⟨rfl,o,hk,hc,hd⟩|⟨rfl,hk⟩|⟨rfl,S,n,hk⟩
  ·obtain⟨its,_,pl,_⟩:=I.list hq;refine⟨pl.isList.typeIs,λa e=>?_⟩;cases e;obtain⟨o,n,e,c,hd,_⟩:=pl;exact⟨o,e,hd⟩
  ·refine⟨⟨o,I.kIn p o hk,hc⟩,λa e=>?_⟩;cases e;exact⟨o,I.kIn _ o hk,hd⟩
  ·have z:∃o,s.heap.get? p=some o/\o.ExactDict:=by
    rcases hk with⟨kvs,hk⟩|⟨kvs,hk⟩
    ·obtain⟨_,_,_,_,o,_,_,e,ex,_⟩:=I.hok p _ hk;exact⟨o,e,ex⟩
    ·obtain⟨_,_,_,_,o,_,_,e,ex,_⟩:=I.hok p _ hk;exact⟨o,e,ex⟩
   obtain⟨o,e,ex⟩:=z;refine⟨⟨o,e,ex.1⟩,λa e2=>?_⟩;cases e2;exact⟨o,e,ex.2.1⟩
  ·obtain⟨o,_,_,_,e,ex,_⟩:=I.hok p _ hk;refine⟨⟨o,e,ex.1⟩,λa e2=>?_⟩;cases e2;exact⟨o,e,ex.2.1⟩
 |_=>exact False.elim ty
def M6(K:P5)(T:String)(r:V->List V->Hp->VK->Prop)(to:TE)(t:TA):TE:=λσ H Q=>to σ H λx H1=>MM K T x H1/\t σ H1 λxs H2=>r x xs H2 Q
variable{o e:Ri}{es:List Ri}{to:TE}{t:TA}{name:Str}{apos cpos:Pos}{T id:String}{r:V->List V->Hp->VK->Prop}
theorem FV(pa:PlainAttrs T)(slot:Slot T name id)(hty:typeOf (.builtin id)=pure (.type "method_descriptor"))(hm:M7 X id r)(ho:PE X o to)(ha:PA X (e::es) t)
  (hbase:R6 o name X.env (eval o X.env)=eval o X.env:=by rfl)
  (hfew:((backTo cpos (Rj (e::es) X.env)).all (fun x=>!x.1) && (backToKw cpos (RF [] X.env)).all (fun x=>x.1.isSome)
   && decide ((e::es).length+([]:List R7).length+(if([]:List R7).isEmpty then 0 else 1)<30))=true:=by rfl)
  (hline:(apos.endLine==cpos.line)=true:=by rfl) (hs:Rj (e::es) X.env=(false,eval e X.env)::Rj es X.env:=by rfl) (hplain:(backTo cpos (Rj es X.env)).any (·.1)=false:=by rfl):
  PE X (.Call (.Attribute o name apos) (e::es) [] cpos) (M6 X.K T r to t):=by
 intro pins s σ H Q I h;refine wpAny_Call_method_late hbase hfew hline rfl (fj (ho pins s σ H _ I h) λv s1 ⟨x,H1,I1,r1,ty,q1⟩=>?_);obtain⟨h1,h2⟩:=Hy I1 r1 ty;refine⟨T,id,pa,slot,hty,h1,h2,?_⟩;have hA:=ha cpos pins s1 σ H1 _ I1 q1;rw[hs]at hA ⊢;refine Calls.callWith_builtin (by show(false||(backTo cpos (Rj es X.env)).any (·.1))=false;rw[hplain]<;>rfl) (Calls.evalArgs_plain ?_);exact fj hA λus s2 ⟨vs,H2,I2,r2,q2⟩=>hm pins s2 σ H2 x vs v us Q I2 r1 r2 q2
end
def Mk(X:Cx)(id:String)(r:V->List V->Hp->VK->Prop):Prop:=
 ∀(pins:List (Q4×Obj))(s:Rf)(σ:St)(H:Hp)(x:V)(xs:List V)(v:Q1)(us:List Q1)(Q:VK),Inv X pins σ H s->RelV x v->Vals xs us->r x xs H Q->
  Rh (model X.prog X.w) X.A (call (.builtin id) (v::us)) (EP X pins σ Q) X.xe s
theorem Vals.one:∀{x:V}{us:List Q1},Vals [x] us->∃u,us=[u]/\RelV x u
 |_,_,.cons r .nil=>⟨_,rfl,r⟩
section
variable{X:Cx}{pins:List (Q4×Obj)}{σ:St}{H:Hp}{s:Rf}{l b:Q4}{xs ys zs:List V}
theorem Inv.lset{its its':List Q1}{n:Nat}{f:Array Q1->Array Q1}{t':Nat}(I:Inv X pins σ H s)(hH:H l=some (.lst xs))
  (e:s.heap.get? l=some {cls:=.type "list",data:=.seq its.toArray n}) (hf:f its.toArray=its'.toArray) (hv:Vals ys its') (hz:ys.length<=Q7):
  Inv X pins σ (upd H l (.lst ys)) {s with heap:=s.heap.update l (Obj.mapSeq f),toks:=t'}:=by
 have q:=PySem.IsL.update e f;rw[hf]at q;refine I.write (x:=l) (e:=l) (by rw[hH];exact trivial) (.inl rfl) (λb' u hb hu=>(Heap.get?_update_other s.heap (Obj.mapSeq f) (Ne.symm hb)).trans hu) ⟨_,q⟩ ?_;exact⟨hz,its',_,hv,q⟩
theorem Inv.lnew{its:List Q1}{t':Nat}(I:Inv X pins σ H s)(hv:Vals ys its)(hz:ys.length<=Q7):
  Inv X pins σ (upd H s.heap.objs.size (.lst ys)) {s with heap:=s.heap.push {cls:=.type "list",data:=.seq its.toArray},toks:=t'}:=
 I.laid (λ_ _ q=>QB _ q) (NB _) ⟨hz,its,0,hv,QC _ rfl⟩
theorem Inv.fresh(I:Inv X pins σ H s):H s.heap.objs.size=none:=I.hok.fresh (NB _)
theorem Inv.lstM(I:Inv X pins σ H s)(hH:H l=some (.lst xs)):xs.length<=Q7/\∃(its:List Q1)(n:Nat),Vals xs its/\xs.length=its.length/\s.heap.get? l=some {cls:=.type "list",data:=.seq its.toArray n}:=by
 obtain⟨z,its,n,r,e⟩:=I.hok l _ hH;exact⟨z,its,n,r,r.length,e⟩
end
section
variable{X:Cx}
def zC:V->List V->Hp->VK->Prop:=λx vs H Q=>∃l xs y,x=.ref l/\vs=[y]/\H l=some (.lst xs)/\xs.length<Q7/\Q .non (upd H l (.lst (xs++[y])))
theorem dQ:Mk X "list.append" zC:=by
 intro pins s σ H x vs v us Q I rx rv h;obtain⟨l,xs,y,rfl,rfl,hH,hz,q⟩:=h;cases rx;obtain⟨u,rfl,ru⟩:=rv.one;obtain⟨z,its,n,r,hl,e⟩:=I.lstM hH;refine call_meets F.slot_list_append ⟨_,e,rfl⟩ F.entry_list_append (F.args_list_append_2 _ _) (PySem.list_append l its.toArray n u (by rw[NE];omega)) ⟨e,?_⟩;refine⟨.non,_,I.lset (its':=its++[u]) hH e (by simp) (r.append (.cons ru .nil)) ?_,rfl,q⟩;rw[NV,N1];omega
end
end L2
namespace Att
open PySem PySem.W PySem.Calls PyProof.Rows
theorem qH{P:Params}{h:Q6}:∀(ns:List Int)(vs:List Q1),WellAll P h vs (ns.map WData.int)->IntsAre vs ns:=by
 intro ns
 induction ns with
 |nil=>
  intro vs w;rw[N2]at w;cases w;exact .nil
 |cons n ns ih=>
  intro vs w;rw[N3]at w;cases w with
  |cons a b=>
   cases a;exact .cons _ _ (ih _ b)
theorem Bs{l:OpenLaw}{n:Nat}(hn:l.most=some n){P:Params}{h:Q6}{args:List WData}{vals:List Q1}
  (hpre:l.row.toRowW.claim.pre args=true) (hwl:WellAll P h vals args):
  ∃a vs ns,vals=[Value.ref a]/\args=[WData.list (ns.map WData.int)]/\h.get? a=some {cls:=.type "list",data:=.seq vs.toArray}/\IntsAre vs ns/\ns.length<=n:=by
 have hsh:WShape.hasAll [] args [.list .int]=true:=(pre_splitW hpre).1;have hc:l.pre.holds [] {args:=args}=true:=(pre_splitW hpre).2;obtain⟨d,r,rfl,h1,h2⟩:=hasAllW_cons hsh;obtain rfl:=hasAllW_nil h2;obtain⟨xs,rfl,h3⟩:=hasW_list h1;obtain⟨ns,rfl⟩:=items_int h3;have hlen:ns.length<=n:=by
  unfold OpenLaw.pre at hc;have h4:(WTm.not (.lt (.lit (.int (n:Int))) (.len (.arg 0)))).holds [] {args:=[.list (ns.map .int)]}=true:=by
   have h4:=(holds_andW hc).1;rw[hn]at h4;exact h4
  have h5:=condW_of h4 (w_not (w_lt w_lit (w_len_list (w_arg rfl))));rw[NW]at h5;refine Nat.le_of_not_lt λq=>?_;have q':(n:Int)<((ns.length:Nat):Int):=by omega
  first
   |(rw[decide_eq_true q']at h5;exact absurd h5 (by decide))
   |(simp at h5;omega)
 cases hwl with
 |cons w1 w2=>
  cases w2;cases w1 with
  |list ho hall=>exact⟨_,_,ns,rfl,rfl,ho,qH ns _ hall,hlen⟩
theorem A9(l:OpenLaw)(args:List WData):l.row.toRowW.claim.post args (.bool true) args=true:=
 postW_of (r:=l.row.toRowW) (X:=(true==true))
  (show WShape.has [] (.bool true) .bool=true by first|rfl|decide|simp[WShape.has,WShape.arms,WShape.armsAll])
  (show(WTm.eq .res (.lit (.bool true))).value [] {args:=args,res:=some (.bool true),after:=args}=some (.bool (true==true))from w_eq_bool (w_res rfl) w_lit) rfl
theorem Gb{l:OpenLaw}{n:Nat}{q:Q3}{loose:List Str}{XP:(Str->Option Q1)->Q6->Prop}{YP:Q2->Q6->Prop}{d:DefRec}
  (hn:l.most=some n) (hdf:d.params.defaults=[])
  (call:∀ (w:Q2) (s₀ s₁:Rf) (mg mb:Str->Option Q1) (fa:Q4) (o:Obj) (pm cd doc:Q1) (a:Q4) (vs:List Q1) (ns:List Int),
   Ground q loose [] XP w s₀ mg mb s₁.heap->YP w s₁.heap->
   s₁.heap.get? fa=some o->o.data=.func (docDef d.name d.params d.body d.scope pm cd doc)->s₁.heap.CodeRec cd d.name->mg d.name=some (.ref fa)->
   s₁.heap.get? a=some {cls:=.type "list",data:=.seq vs.toArray}->IntsAre vs ns->ns.length<=n->s₁.gens=#[]->
   RC (model l.prog w) callerA (.call (.ref fa) ⟨[.ref a],[]⟩) (λr s'=>r=.ok (.ret (.bool true))/\OldK s₁.heap s'.heap/\s'.os=s₁.os/\AllBare s'.gens) s₁):
  WalkO q loose XP YP l.row.toRowW d [] (λf vs=>PySem.call f vs):=by
 intro w s₀ s₁ mg mb G Y fa o pm cd doc dV kV ho hd hcd hD hmg hg args vals as hpre hlay hrd hwl hlo;obtain rfl:dV=.none:=Dflts.none hD hdf;obtain rfl:kV=.none:=Dflts.noKw hD;obtain⟨a,vs,ns,rfl,rfl,hobj,hints,hlen⟩:=Bs hn hpre hwl;refine enter_call (codeAny_mono (call w s₀ s₁ mg mb fa o pm cd doc a vs ns G Y ho (fd_plain hd) hcd hmg hobj hints hlen hg) λr s' hq=>?_);obtain⟨rfl,h2,h3,h4⟩:=hq;exact⟨.inl ⟨.bool true,.bool true,[],rfl,λ_=>rfl,.bool true,A9 l _,λ_=>⟨List.Pairwise.nil,λ_ hm=>(nomatch hm)⟩⟩,h2,h3,h4⟩
section
variable{prog:Q3}{w:Q2}{A:Rc}{E:Q1->Rf->Prop}{s:Rf}{K:Frag}
end
end Att
namespace L2
open PySem PySem.Spec PyProof.Rows
theorem uj:∀{vs:List Q1}{ns:List Int},IntsAre vs ns->Vals (ns.map V.int) vs
 |_,_,.nil=>.nil
 |_,_,.cons n t h=>.cons ⟨t,rfl⟩ (uj h)
def inClass(s:Rl)(j:Nat):Rl:=match s with
 |.ClassDef _ _ _ body _ _ _ _ _ _ _=>body.getD j (.Pass ⟨0,0,0,0⟩)
 |_=>.Pass ⟨0,0,0,0⟩
def mY(s:Rl):RM:=match s with
 |.FunctionDef _ a _ _ _ _ _ _ _ _=>a
 |_=>{posonlyargs:=[],args:=[],vararg:=none,kwonlyargs:=[],kw_defaults:=[],kwarg:=none,defaults:=[]}
def gK(s:Rl):List Rl:=match s with
 |.FunctionDef _ _ b _ _ _ _ _ _ _=>b
 |_=>[]
def aA(s:Rl):Rg:=match s with
 |.FunctionDef _ _ _ _ _ _ sc _ _ _=>sc
 |_=>{kind:=.function,names:=[],isGenerator:=false,isCoroutine:=false}
abbrev E0:XK:=λ_ _ _=>False
structure yn(K:P5)(x qual:Str)(st:Rl)(f:Q4)(fd:RJ):Prop where
 ex:∃(oc:Q1)(od:Option Q4)(kV doc pm:Q1)(an:Option Q4)(cdv ct:Q1)(osl:Array (Option Q1)),
  fd=Qj x qual (mY st) (gK st) (aA st) .none kV doc pm an cdv ct/\K.lookup f=some ⟨oc,od,.func fd,osl⟩/\Qk K cdv qual=true
 kp:Qh K (.ref f)=true
section
variable{P:Q3}{w:Q2}{K:P5}{mg:Str->Option Q1}{base:Q6}
theorem yn.binds{x qual:Str}{st:Rl}{f:Q4}{fd:RJ}{ps:List Str}(F:yn K x qual st f fd)
  (h:∀(kV doc pm:Q1)(an:Option Q4)(cdv ct:Q1)(us:List Q1),us.length=ps.length->bindArgs (Qj x qual (mY st) (gK st) (aA st) .none kV doc pm an cdv ct) ⟨us,[]⟩=pure (ps.zip us)):Binds K fd ps []:=by
 obtain⟨oc,od,kV,doc,pm,an,cdv,ct,osl,rfl,lk,hcd⟩:=F.ex;exact .all (h kV doc pm an cdv ct)
theorem bS{x qual:Str}{st:Rl}{f:Q4}{oc:Q1}{od an:Option Q4}{osl:Array (Option Q1)}{kV doc pm cdv ct:Q1}(l:K.lookup f=some ⟨oc,od,.func (Qj x qual (mY st) (gK st) (aA st) .none kV doc pm an cdv ct),osl⟩)
  (c:Qk K cdv qual=true) (k:Qh K (.ref f)=true):yn K x qual st f (Qj x qual (mY st) (gK st) (aA st) .none kV doc pm an cdv ct):=⟨⟨oc,od,kV,doc,pm,an,cdv,ct,osl,rfl,l,c⟩,k⟩
end
section
variable{X:Cx}
theorem pv(i:Nat){x:Str}{pos:Pos}(hN:X.N[i]?=some x:=by rfl)(hv:HM X.env.scope x:=by first|exact Or.inl rfl|exact Or.inr (Or.inl rfl)|exact Or.inr (Or.inr rfl))(hd:(x==("__debug__":Str))=false:=by decide)
  (hcd:(x==("__classdict__":Str))=false:=by decide):PE X (.Name x pos) (xI i):=G5 hN hv hd hcd
end
theorem Ce{A B:Prop}(h:B):if false=true then A else B:=by
 rw[if_neg NF];exact h
theorem Dc{A B:Prop}(h:A):if true=true then A else B:=by
 rw[if_pos rfl];exact h
def bE(H H':Hp):Prop:=∀b o,H b=some o->H' b=some o
theorem bE.refl(H:Hp):bE H H:=λ_ _ h=>h
theorem bE.trans{H H1 H2:Hp}(a:bE H H1)(b:bE H1 H2):bE H H2:=λc o h=>b c o (a c o h)
theorem bE.free{H H':Hp}(e:bE H H'){l:Q4}(h:H' l=Option.none):H l=Option.none:=by
 cases q:H l with
 |none=>rfl
 |some o=>
  rw[e l o q]at h;cases h
theorem bE.seq{K:P5}{H H':Hp}{a:Q4}{xs:List V}(e:bE H H')(h:ot K H a xs):ot K H' a xs:=by
 rcases h with(h|⟨o,h⟩)|h
 ·exact .inl (.inl (e _ _ h))
 ·exact .inl (.inr ⟨o,e _ _ h⟩)
 ·exact .inr h
section
variable{κ:Type}[DecidableEq κ]
def lN(kvs:List (κ×V))(k:κ):Option V:=(kvs.find? λkv=>decide (kv.1=k)).map (·.2)
def putK(kvs:List (κ×V))(k:κ)(v:V):List (κ×V):=
 if(kvs.any λkv=>decide (kv.1=k))=true then kvs.map (λkv=>if kv.1=k then(kv.1,v)else kv)else kvs++[(k,v)]
theorem mG{p:κ×V}{r:List (κ×V)}{k:κ}(e:p.1=k):lN (p::r) k=some p.2:=by simp[lN,N4,e]
theorem lZ{p:κ×V}{r:List (κ×V)}{k:κ}(e:¬p.1=k):lN (p::r) k=lN r k:=by simp[lN,N4,e]
theorem wK(k:κ):∀kvs:List (κ×V),(kvs.any λkv=>decide (kv.1=k))=(lN kvs k).isSome
 |[]=>rfl
 |p::r=>by
  rw[N5];by_cases e:p.1=k
  ·simp only[mG e,decide_eq_true e,Bool.true_or,Option.isSome_some]
  ·rw[lZ e,decide_eq_false e,Bool.false_or];exact wK k r
theorem mh(kvs:List (κ×V))(k:κ)(v:V):(putK kvs k v).length<=kvs.length+1:=by
 unfold putK;split
 ·rw[NW];omega
 ·rw[NV,N6,N7];omega
theorem wR.isSome_eq{o:Option V}{u:Option Q1}(r:wR o u):o.isSome=u.isSome:=by
 cases o with
 |none=>cases u with
  |none=>rfl
  |some _=>exact(show False from r).elim
 |some _=>cases u with
  |none=>exact(show False from r).elim
  |some _=>rfl
theorem KV.val{kvs:List (κ×V)}{vs:List (κ×Q1)}(r:KV kvs vs)(k:κ):wR (lN kvs k) (valueAt vs k):=by
 unfold KV at r
 induction r with
 |nil=>exact True.intro
 |@cons p q ps qs h t ih=>
  obtain⟨h1,h2⟩:=h;by_cases e:p.1=k
  ·have e':q.1=k:=h1.symm.trans e;have b:valueAt (q::qs) k=some q.2:=(by simp[valueAt,N4,e']);rw[mG e,b];exact h2
  ·have e':¬q.1=k:=λz=>e (h1.trans z);have b:valueAt (q::qs) k=valueAt qs k:=(by simp[valueAt,N4,e']);rw[lZ e,b];exact ih
theorem KV.any{kvs:List (κ×V)}{vs:List (κ×Q1)}(r:KV kvs vs)(k:κ):(kvs.any λkv=>decide (kv.1=k))=vs.any λkv=>decide (kv.1=k):=by
 unfold KV at r
 induction r with
 |nil=>rfl
 |cons h t ih=>rw[N5,N5,ih,h.1]
theorem KV.repl{kvs:List (κ×V)}{vs:List (κ×Q1)}(r:KV kvs vs)(k:κ){y:V}{u:Q1}(ry:RelV y u):
  KV (kvs.map λkv=>if kv.1=k then(kv.1,y)else kv) (vs.map λkv=>if kv.1=k then(kv.1,u)else kv):=by
 unfold KV at r ⊢
 induction r with
 |nil=>exact .nil
 |@cons p q ps qs h t ih=>
  rw[N3,N3];refine .cons ?_ ih;obtain⟨h1,h2⟩:=h;by_cases e:p.1=k
  ·rw[if_pos e,if_pos (h1.symm.trans e)];exact⟨h1,ry⟩
  ·rw[if_neg e,if_neg (λz=>e (h1.trans z))];exact⟨h1,h2⟩
theorem KV.put{kvs:List (κ×V)}{vs:List (κ×Q1)}(r:KV kvs vs)(k:κ){y:V}{u:Q1}(ry:RelV y u):KV (putK kvs k y) (stored vs k u):=by
 unfold putK stored;rw[r.any k];by_cases e:(vs.any λkv=>decide (kv.1=k))=true
 ·rw[if_pos e,if_pos e];exact r.repl k ry
 ·rw[if_neg e,if_neg e];exact Paired.snoc r ⟨rfl,ry⟩
theorem KV.keys{kvs:List (κ×V)}{vs:List (κ×Q1)}(r:KV kvs vs):kvs.map (·.1)=vs.map (·.1):=by
 unfold KV at r
 induction r with
 |nil=>rfl
 |cons h t ih=>rw[N3,N3,ih,h.1]
theorem KV.length{kvs:List (κ×V)}{vs:List (κ×Q1)}(r:KV kvs vs):kvs.length=vs.length:=Paired.length r
end
theorem yf{P:Q3}{w:Q2}{k:Key}{u:Q1}(r:RelV (kV k) u):(cW P w).is k u=true:=by
 cases k with
 |inl i=>obtain⟨t,e⟩:=(show∃t,u=Value.int i t from r);subst e;exact xZ P w i t
 |inr x=>obtain⟨t,e⟩:=(show∃t,u=Value.str x t from r);subst e;exact xM P w x t
theorem uo{P:Q3}{w:Q2}:∀{ks:List Key}{us:List Q1},Vals (ks.map kV) us->ItemsAre (cW P w) ks us
 |[],_,r=>by rw[N2]at r;cases r;exact .nil
 |k::ks,_,r=>by
  rw[N3]at r;cases r with
  |cons h t=>exact .cons (yf h) (uo t)
abbrev KT(H:Hp):List (List Key×V)->List (List Key×Q4×Q1)->Prop:=Q5 λp q=>p.1=q.1/\H q.2.1=some (.tup (p.1.map kV))/\RelV p.2 q.2.2
theorem KT.val{H:Hp}{kvs:List (List Key×V)}{xs:List (List Key×Q4×Q1)}(r:KT H kvs xs)(k:List Key):wR (lN kvs k) ((atKey xs k).map (·.2)):=by
 induction r with
 |nil=>exact True.intro
 |@cons p q ps qs h t ih=>
  obtain⟨h1,_,h2⟩:=h;by_cases e:p.1=k
  ·have e':q.1=k:=h1.symm.trans e;have b:atKey (q::qs) k=some q.2:=(by simp[atKey,N4,e']);rw[mG e,b];exact h2
  ·have e':¬q.1=k:=λz=>e (h1.trans z);have b:atKey (q::qs) k=atKey qs k:=(by simp[atKey,N4,e']);rw[lZ e,b];exact ih
theorem KT.repl{H:Hp}{kvs:List (List Key×V)}{xs:List (List Key×Q4×Q1)}(r:KT H kvs xs)(k:List Key){y:V}{u:Q1}(ry:RelV y u):
  KT H (kvs.map λkv=>if kv.1=k then(kv.1,y)else kv) (xs.map (putAt k u)):=by
 induction r with
 |nil=>exact .nil
 |@cons p q ps qs h t ih=>
  rw[N3,N3];refine .cons ?_ ih;obtain⟨h1,h2,h3⟩:=h;unfold putAt;by_cases e:p.1=k
  ·rw[if_pos e,if_pos (h1.symm.trans e)];exact⟨h1,h2,ry⟩
  ·rw[if_neg e,if_neg (λz=>e (h1.trans z))];exact⟨h1,h2,h3⟩
theorem KT.put{H:Hp}{kvs:List (List Key×V)}{xs:List (List Key×Q4×Q1)}(r:KT H kvs xs)(k:List Key){b:Q4}{y:V}{u:Q1}(hb:H b=some (.tup (k.map kV)))(ry:RelV y u):
  KT H (putK kvs k y) (storedH xs k b u):=by
 have e:(kvs.any λkv=>decide (kv.1=k))=(atKey xs k).isSome:=by
  rw[wK,(r.val k).isSome_eq,N8]
 unfold putK storedH;rw[e];by_cases q:(atKey xs k).isSome=true
 ·rw[if_pos q,if_pos q];exact r.repl k ry
 ·rw[if_neg q,if_neg q];exact Paired.snoc r ⟨rfl,hb,ry⟩
theorem KT.keeps{H H':Hp}{kvs:List (List Key×V)}{xs:List (List Key×Q4×Q1)}(r:KT H kvs xs)(ht:∀b ys,H b=some (.tup ys)->H' b=some (.tup ys)):KT H' kvs xs:=
 Paired.mapP r λ_ _ z=>⟨z.1,ht _ _ z.2.1,z.2.2⟩
section
variable{P:Q3}{w:Q2}{H:Hp}{h:Q6}{a:Q4}
theorem FY{u:HO}(ok:o0 P w H h)(e:Rd H a u):cS P w H h a u:=e.ok ok
theorem wY{kvs:List (Key×V)}(ok:o0 P w H h)(e:Rd H a (.dK kvs)):kvs.length<=Q7/\(a==sysModules)=false/\∃vs,KV kvs vs/\h.DictOf (cW P w) a vs:=
 show cS P w H h a (.dK kvs)from FY ok e
theorem FH{kvs:List (Key×V)}(ok:o0 P w H h)(e:H a=some (.dK kvs)):kvs.length<=Q7/\(a==sysModules)=false/\∃vs,KV kvs vs/\h.DictOf (cW P w) a vs:=wY ok (.inl e)
theorem pA{ks:List Key}(ok:o0 P w H h)(e:H a=some (.tup (ks.map kV))):(tupleKind (cW P w)).is h ks a:=by
 obtain⟨_,its,r,o,h1,h2,n,h3⟩:=(show cS P w H h a (.tup (ks.map kV))from ok a _ e)
 exact⟨o,its.toArray,n,h1,h2,h3,by simpa using uo r⟩
theorem ur{kvs:List (List Key×V)}(ok:o0 P w H h)(e:Rd H a (.dT kvs)):kvs.length<=Q7/\(a==sysModules)=false/\
  ∃xs,KT H kvs xs/\h.DictOfH (tupleKind (cW P w)) a xs:=by
 obtain⟨z,y,xs,r,o,es,ep,h1,h2,h3,h4,h5⟩:=(show cS P w H h a (.dT kvs)from FY ok e)
 refine⟨z,y,xs,r,o,es,ep,h1,h2,h3,h4,λx hx=>?_,h5⟩;have all:∀{l:List (List Key×V)}{m:List (List Key×Q4×Q1)},KT H l m->∀x∈m,(tupleKind (cW P w)).is h x.1 x.2.1:=by
  intro l m q
  induction q with
  |nil=>intro x hx;exact nomatch hx
  |@cons p q ps qs hq t ih=>
   intro x hx;rcases List.mem_cons.mp hx with e|hx
   ·subst e;exact pA ok (by rw[<-hq.1];exact hq.2.1)
   ·exact ih x hx
 exact all r x hx
theorem JH{kvs:List (List Key×V)}(ok:o0 P w H h)(e:H a=some (.dT kvs)):kvs.length<=Q7/\(a==sysModules)=false/\
  ∃xs,KT H kvs xs/\h.DictOfH (tupleKind (cW P w)) a xs:=ur ok (.inl e)
end
def BC(H:Hp)(a:Q4)(y:V)(r:Option V):Prop:=
 (∃kvs k,Rd H a (.dK kvs)/\y=kV k/\r=lN kvs k)\/∃kvs k b,Rd H a (.dT kvs)/\y=.ref b/\H b=some (.tup (k.map kV))/\r=lN kvs k
def Gw(H:Hp)(a:Q4)(y v:V)(H':Hp):Prop:=
 (∃kvs k,H a=some (.dK kvs)/\y=kV k/\kvs.length<Q7/\H'=upd H a (.dK (putK kvs k v))) \/
 ∃kvs k b,H a=some (.dT kvs)/\y=.ref b/\H b=some (.tup (k.map kV))/\kvs.length<Q7/\H'=upd H a (.dT (putK kvs k v))
theorem BC.t{H:Hp}{a b:Q4}{kvs:List (List Key×V)}{k:List Key}(e:H a=some (.dT kvs))(eb:H b=some (.tup (k.map kV))):BC H a (.ref b) (lN kvs k):=.inr ⟨kvs,k,b,.inl e,rfl,eb,rfl⟩
theorem Gw.k{H:Hp}{a:Q4}{kvs:List (Key×V)}{k:Key}{v:V}(e:H a=some (.dK kvs))(hl:kvs.length<Q7):Gw H a (kV k) v (upd H a (.dK (putK kvs k v))):=.inl ⟨kvs,k,e,rfl,hl,rfl⟩
theorem Gw.t{H:Hp}{a b:Q4}{kvs:List (List Key×V)}{k:List Key}{v:V}(e:H a=some (.dT kvs))(eb:H b=some (.tup (k.map kV)))(hl:kvs.length<Q7):
  Gw H a (.ref b) v (upd H a (.dT (putK kvs k v))):=.inr ⟨kvs,k,b,e,rfl,eb,hl,rfl⟩
section
variable{X:Cx}{pins:List (Q4×Obj)}{σ:St}{H:Hp}{s:Rf}{a:Q4}{y v:V}{u r:Q1}{o:Option V}{A:Rc}{E:Q1->Rf->Prop}
theorem Inv.big(I:Inv X pins σ H s):sysModules<s.heap.objs.size:=by
 have h:Q9<s.heap.objs.size:=(I.mod.glob.keeps I.bk).lt;exact N9 (by decide) h
theorem AK{Q:Q1->Rf->Prop}(hu:A.units+1<RH)(I:Inv X pins σ H s)(g:BC H a y (some v))(ry:RelV y u)(h:∀w' s',Inv X pins σ H s'->RelV v w'->Q w' s'):
  Rh (model X.prog X.w) A (getItem (.ref a) u) Q E s:=by
 rcases g with⟨kvs,k,e,ey,l⟩|⟨kvs,k,b,e,ey,eb,l⟩
 ·subst ey;obtain⟨z,hd,vs,rel,dd⟩:=wY I.hok e;obtain⟨w',hw,rw'⟩:=wR.some_of (v:=v) (o:=valueAt vs k) (by rw[l];exact rel.val k);exact wpAny_getItem_of (yf ry) dd.mapOf hw (h w' _ (I.tok _) rw')
 ·subst ey;cases(show u=Value.ref b from ry);obtain⟨z,hd,xs,rel,dd⟩:=ur I.hok e;obtain⟨w',hw,rw'⟩:=wR.some_of (v:=v) (o:=(atKey xs k).map (·.2)) (by rw[l];exact rel.val k);obtain⟨p,hp,hp2⟩:=Option.map_eq_some_iff.mp hw;refine wpAny_getItem_heap (R8 hu) (pA I.hok eb) dd hp ?_;rw[hp2];exact h w' _ (I.tok _) rw'
theorem JU{Q:Q1->Rf->Prop}(hu:A.units+1<RH)(I:Inv X pins σ H s)(g:BC H a y o)(ry:RelV y u)(h:∀s',Inv X pins σ H s'->Q (.bool o.isSome) s'):
  Rh (model X.prog X.w) A (Rz .In u (.ref a)) Q E s:=by
 rcases g with⟨kvs,k,e,ey,l⟩|⟨kvs,k,b,e,ey,eb,l⟩
 ·subst ey;obtain⟨z,hd,vs,rel,dd⟩:=wY I.hok e;refine wpAny_in_of (yf ry) hd dd.mapOf ?_;rw[<-(rel.val k).isSome_eq,<-l];exact h _ (I.tok _)
 ·subst ey;cases(show u=Value.ref b from ry);obtain⟨z,hd,xs,rel,dd⟩:=ur I.hok e;refine wpAny_in_heap (R8 hu) (pA I.hok eb) hd dd ?_;have q:=(rel.val k).isSome_eq;rw[N8]at q;rw[<-q,<-l];exact h _ (I.tok _)
theorem zP{Q:Q1->Rf->Prop}(hu:A.units+1<RH)(I:Inv X pins σ H s)(g:BC H a y o)(ry:RelV y u)(h:∀s',Inv X pins σ H s'->Q (.bool (!o.isSome)) s'):
  Rh (model X.prog X.w) A (Rz .NotIn u (.ref a)) Q E s:=by
 rcases g with⟨kvs,k,e,ey,l⟩|⟨kvs,k,b,e,ey,eb,l⟩
 ·subst ey;obtain⟨z,hd,vs,rel,dd⟩:=wY I.hok e;refine wpAny_notIn_of (yf ry) hd dd.mapOf ?_;rw[<-(rel.val k).isSome_eq,<-l];exact h _ (I.tok _)
 ·subst ey;cases(show u=Value.ref b from ry);obtain⟨z,hd,xs,rel,dd⟩:=ur I.hok e;refine wpAny_notIn_heap (R8 hu) (pA I.hok eb) hd dd ?_;have q:=(rel.val k).isSome_eq;rw[N8]at q;rw[<-q,<-l];exact h _ (I.tok _)
theorem rd{h':Q6}{t':Nat}{ob:HO}(I:Inv X pins σ H s)(mu:Ih (H a))(hs:QA a s.heap h')(he:∃q,h'.get? a=some q)(new:cS X.prog X.w (upd H a ob) h' a ob):
  Inv X pins σ (upd H a ob) {s with heap:=h',toks:=t'}:=
 I.write (x:=a) (e:=a) mu (.inl rfl) (λb q hb z=>(hs.2 b hb).trans z) he new
theorem GB{P:Q3}{w:Q2}{H':Hp}{h':Q6}{kvs:List (Key×V)}{vs:List (Key×Q1)}(z:kvs.length<=Q7)(hd:(a==sysModules)=false)(rel:KV kvs vs)(dd:h'.DictOf (cW P w) a vs):
  cS P w H' h' a (.dK kvs):=⟨z,hd,vs,rel,dd⟩
theorem nh{H':Hp}{Q:Unit->Rf->Prop}(hu:A.units+1<RH)(I:Inv X pins σ H s)(g:Gw H a y v H')(ry:RelV y u)(rv:RelV v r)(h:∀s',Inv X pins σ H' s'->Q () s'):
  Rh (model X.prog X.w) A (setItem (.ref a) u r) Q E s:=by
 rcases g with⟨kvs,k,e,ey,l,eH⟩|⟨kvs,k,b,e,ey,eb,l,eH⟩
 ·subst ey eH;obtain⟨z,hd,vs,rel,dd⟩:=FH I.hok e;have hz:vs.length<=Q7:=by rw[<-rel.length];exact z
  have hl:(putK kvs k v).length<=Q7:=by have:=mh kvs k v;omega
  refine wpAny_setItem_pairs (hsz:=hz) (yf ry) dd λh' dd' hs=>h _ ?_;have he:∃q,h'.get? a=some q:=let ⟨q,_,_,hq,_⟩:=dd';⟨q,hq⟩
  exact rd I (by rw[e];exact True.intro) hs he (GB hl hd (rel.put k rv) dd')
 ·subst ey eH;cases(show u=Value.ref b from ry);obtain⟨z,hd,xs,rel,dd⟩:=JH I.hok e;have hz:xs.length<=Q7:=by rw[<-Paired.length rel];exact z
  have hl:(putK kvs k v).length<=Q7:=by have:=mh kvs k v;omega
  refine wpAny_setItem_heap (hsz:=hz) (R8 hu) (pA I.hok eb) dd λh' dd' hs=>h _ ?_;obtain⟨q,es,ep,hq,h2,h3,h4,_,h5⟩:=dd';refine rd I (by rw[e];exact True.intro) hs ⟨q,hq⟩ ⟨hl,hd,_,(rel.put k eb rv).keeps λc ys ec=>?_,q,es,ep,hq,h2,h3,h4,h5⟩;rw[aR (Ip ec e (λz=>nomatch z))];exact ec
end
def E5(i:Ri):Prop:=∀ov iv,subscripted i false ov iv=operate [ov,iv] (getItem ov iv)
theorem Fs{prog:Q3}{w:Q2}{A:Rc}{E:Q1->Rf->Prop}{s:Rf}{env:Env}{value slice:Ri}{pos:Pos}{T id:String}{Q:Q1->Rf->Prop}
  (hl:typeLookup (.type T) "__getitem__"=pure (some (.builtin id))) (hs:E5 slice)
  (h:Rh (model prog w) A (eval value env) (λo s₁=>Rh (model prog w) A (eval slice env) (λi s₂=>s₂.TypeIs o T/\Rh (model prog w) A (getItem o i) Q E s₂) E s₁) E s):
  Rh (model prog w) A (eval (.Subscript value slice pos) env) Q E s:=by
 refine R5 (Rm h (λo s₁ h₁=>Rm h₁ (λi s₂ h₂=>?_) λ_ _ x=>x) λ_ _ x=>x);obtain⟨hT,h₂⟩:=h₂;unfold subscriptTail;refine Rr ?_;rw[getitemInPython_of_ne hT.not_modules];refine Rr (wpAny_specialOf hT hl ?_);have fin:Rh (model prog w) A (subscripted slice false o i) (λr s₃=>Rh (model prog w) A (letTemporaryGo value o r >>= λ_=>pure r) Q E s₃) E s₂:=by
  rw[hs o i];exact wpAny_operating (Rm h₂ (λr s₃ h₃=>Rr (wpAny_letTemporaryGo (Rq h₃))) λ_ _ x=>x)
 first
  |exact Rq (Rr fin)
  |exact Rr (Rq (Rr fin))
  |exact Rr fin
theorem wx{X:Cx}{pins:List (Q4×Obj)}{σ:St}{H:Hp}{s:Rf}{a:Q4}{y:V}{o:Option V}(I:Inv X pins σ H s)(g:BC H a y o):s.TypeIs (.ref a) "dict":=by
 rcases g with⟨kvs,k,e,_,_⟩|⟨kvs,k,b,e,_,_,_⟩
 ·obtain⟨_,_,vs,_,dd⟩:=wY I.hok e;exact dd.typeIs
 ·obtain⟨_,_,xs,_,dd⟩:=ur I.hok e;exact dd.typeIs
def JT(td ty:TE):TE:=λσ H Q=>td σ H λx H1=>ty σ H1 λy H2=>∃a v,x=.ref a/\BC H2 a y (some v)/\Q v H2
section
variable{X:Cx}{o i e value:Ri}{pos pos' tpos:Pos}{td ty tv:TE}
theorem EY(hu:X.A.units+1<RH)(ho:PE X o td)(hi:PE X i ty)(hs:E5 i):PE X (.Subscript o i pos) (JT td ty):=by
 intro pins s σ H Q I h;refine Fs PySem.F.slot_dict_getitem.lookup hs (fj (ho pins s σ H _ I h) λu s1 ⟨x,H1,I1,rx,q1⟩=>fj (hi pins s1 σ H1 _ I1 q1) λiv s2 ⟨y,H2,I2,ry,a,v,ex,g,q2⟩=>?_);subst ex;obtain rfl:u=Value.ref a:=rx;exact⟨wx I2 g,AK hu I2 g ry λw' s3 I3 rw'=>⟨v,H2,I3,rw',q2⟩⟩
end
theorem B8{P:Q3}{w:Q2}{H:Hp}(h:Q6)(hb:sysModules<h.objs.size):cS P w H (h.push {cls:=.type "dict",data:=.dict #[]}) h.objs.size (.dT []):=
 ⟨NK _,beq_eq_false_iff_ne.mpr (Ne.symm (Np hb)),[],.nil,_,#[],0,QC _ rfl,⟨rfl,rfl,rfl⟩,rfl,rfl,Oa⟩
def Hs:TE:=λ_ H Q=>∀p,H p=none->Q (.ref p) (upd H p (.dT []))
section
variable{X:Cx}{pos:Pos}
theorem CT:PE X (.Dict [] [] pos) Hs:=λpins s σ H Q I h=>
 wpAny_Dict_empty ⟨.ref s.heap.objs.size,_,I.laid (a:=s.heap.objs.size) (o:=.dT []) (t':=s.toks) (λ_ _ q=>QB _ q) (NB _) (B8 s.heap I.big),rfl,h _ (I.hok.fresh (NB _))⟩
end
def dR(cells:List (Str×Q4)):List (Str×RL)->List (Str×Q4)->List (Str×Q4)
 |[],acc=>acc
 |(n,k)::r,acc=>if k=.free then(match cells.lookup n with|some c=>dR cells r ((n,c)::acc)|none=>dR cells r acc)else dR cells r acc
theorem ny{cells:List (Str×Q4)}:∀(names:List (Str×RL))(acc:List (Str×Q4)),(∀x c,acc.lookup x=some c->cells.lookup x=some c)->
  ∀x c,(dR cells names acc).lookup x=some c->cells.lookup x=some c
 |[],acc,h=>h
 |(n,k)::r,acc,h=>by
  unfold dR;by_cases hk:k=.free
  ·rw[if_pos hk];cases e:cells.lookup n with
   |none=>exact ny r acc h
   |some c0=>
    refine ny r _ λx c q=>?_;rw[Oc]at q;cases hx:x==n with
    |true=>
     rw[hx]at q;have e1:x=n:=(by simpa using hx);cases q;rw[e1];exact e
    |false=>rw[hx]at q;exact h x c q
  ·rw[if_neg hk];exact ny r acc h
theorem kP{cells:List (Str×Q4)}:∀(names:List (Str×RL))(acc:List (Str×Q4))(x:Str),(acc.lookup x).isSome=true->((dR cells names acc).lookup x).isSome=true
 |[],acc,x,h=>h
 |(n,k)::r,acc,x,h=>by
  unfold dR;by_cases hk:k=.free
  ·rw[if_pos hk];cases e:cells.lookup n with
   |none=>exact kP r acc x h
   |some c0=>
    refine kP r _ x ?_;rw[Oc];cases hx:x==n with
    |true=>rfl
    |false=>exact h
  ·rw[if_neg hk];exact kP r acc x h
theorem kj{cells:List (Str×Q4)}:∀(names:List (Str×RL))(acc:List (Str×Q4))(x:Str),(x,NameKind.free)∈names->(∃c,cells.lookup x=some c)->((dR cells names acc).lookup x).isSome=true
 |[],acc,x,h,_=>absurd h (by simp)
 |(n,k)::r,acc,x,h,hc=>by
  unfold dR;rcases List.mem_cons.mp h with e|h
  ·cases e;rw[if_pos rfl];obtain⟨c,e⟩:=hc;rw[e];refine kP r _ _ ?_;rw[Oc];simp
  ·by_cases hk:k=.free
   ·rw[if_pos hk];cases e:cells.lookup n with
    |none=>exact kj r acc x h hc
    |some c0=>exact kj r _ x h hc
   ·rw[if_neg hk];exact kj r acc x h hc
theorem oQ{scope:Rg}{env:Env}(h:∀p∈scope.names,p.2=.free->∃c,env.cells.lookup p.1=some c):closureFor scope env=pure (dR env.cells scope.names []):=by
 have go:∀(names:List (Str×RL))(acc:List (Str×Q4)),(∀p∈names,p.2=.free->∃c,env.cells.lookup p.1=some c)->
   (forIn names acc λx cs=>(match x with|(name,kind)=>if(kind==NameKind.free)=true then do let a<-cellOf env name;pure (ForInStep.yield ((name,a)::cs))else pure (ForInStep.yield cs):Sem (ForInStep (List (Str×Q4)))))=pure (dR env.cells names acc):=by
  intro names
  induction names with
  |nil=>intro acc _;rfl
  |cons p r ih=>
   intro acc hp;obtain⟨n,k⟩:=p;rw[Od];by_cases hk:k=.free
   ·obtain⟨c,e⟩:=hp (n,k) Nu hk;subst hk;have e2:cellOf env n=pure c:=(by unfold cellOf;rw[e]);simp only[beq_self_eq_true,if_true,e2,pure_bind];rw[ih _ λq hq=>hp q (Nv _ hq)]
    conv=>rhs;rw[dR]
    simp[e]
   ·have hb:(k==NameKind.free)=false:=(by simpa using hk);simp only[hb,Oe,if_false,pure_bind];rw[ih _ λq hq=>hp q (Nv _ hq)]
    conv=>rhs;rw[dR,if_neg hk]
 have:=go scope.names [] h
 unfold closureFor;simp only[];rw[this];rfl
def cP(X:Cx)(scope:Rg)(N:List Str)(cl:List (Str×Q4))(C:Q4)(fp:List Q4)(s:Rf)(H:Hp)(E:Q1->Rf->Prop):Cx where
 prog:=X.prog
 w:=X.w
 K:=X.K
 mg:=X.mg
 base:=X.base
 A:=X.A
 N:=N
 s₀:=s
 H₀:=H
 env:=compEnvC scope cl C X.env
 outer:=X.stack
 stack:=X.stack
 ex:=fp
 fn:=λ_=>false
 calm:=X.calm
 pn:=[]
 xe:=E
def vS(XN N:List Str)(names:List (Str×RL))(ix:List (Option Nat)):Bool:=
 decide (ix.length=N.length)&&(N.zip ix).all λp=>match p.2 with
  |some i=>decide (XN[i]?=some p.1)&&decide (names.lookup p.1=some .free)
  |none=>true
def inBlock(ix:List (Option Nat))(σ:St):St:=ix.map λo=>match o with
 |some i=>(σ[i]?).getD none
 |none=>none
theorem vS.len{XN N:List Str}{names:List (Str×RL)}{ix:List (Option Nat)}(h:vS XN N names ix=true):ix.length=N.length:=by
 unfold vS at h;rw[NZ]at h;exact of_decide_eq_true h.1
theorem vS.at_{XN N:List Str}{names:List (Str×RL)}{ix:List (Option Nat)}(h:vS XN N names ix=true){j i:Nat}{x:Str}(h1:N[j]?=some x)(h2:ix[j]?=some (some i)):XN[i]?=some x/\names.lookup x=some .free:=by
 unfold vS at h;rw[NZ]at h;have hm:(x,some i)∈N.zip ix:=by
  have e:(N.zip ix)[j]?=some (x,some i):=by rw[List.getElem?_zip_eq_some];exact⟨h1,h2⟩
  exact NU e
 have q:=List.all_eq_true.mp h.2 _ hm;simp only[NZ]at q;exact⟨of_decide_eq_true q.1,of_decide_eq_true q.2⟩
theorem mI{env:Env}:∀{names:List (Str×RL)}{x:Str}{k:RL},
  (names.map λ(n,k)=>if(k==NameKind.free&&env.scope.kind==.function&&env.kindOf n==some .cell)then(n,NameKind.cell)else(n,k)).lookup x=some k->
  names.lookup x=some k\/(names.lookup x=some .free/\k=.cell)
 |[],_,_,h=>by simp at h
 |(n,k0)::r,x,k,h=>by
  have ih:=@mI env r x k
  replace h:List.lookup x ((if(k0==NameKind.free&&env.scope.kind==.function&&env.kindOf n==some .cell)=true then(n,NameKind.cell)else(n,k0))::(r.map λ(n,k)=>if(k==NameKind.free&&env.scope.kind==.function&&env.kindOf n==some .cell)then(n,NameKind.cell)else(n,k)))=some k:=h
  by_cases hc:(k0==NameKind.free&&env.scope.kind==.function&&env.kindOf n==some .cell)=true
  ·rw[if_pos hc]at h;have hk0:k0=.free:=by
    simp only[NZ]at hc
    simpa using hc.1.1
   cases hx:x==n with
   |true=>
    simp only[Oc,hx]at h;simp only[Oc,hx];cases h;exact .inr ⟨by rw[hk0],rfl⟩
   |false=>
    simp only[Oc,hx]at h ⊢;exact ih h
  ·rw[if_neg hc]at h;cases hx:x==n with
   |true=>
    simp only[Oc,hx]at h ⊢;exact .inl h
   |false=>
    simp only[Oc,hx]at h ⊢;exact ih h
def GR(X:Cx)(ifs:List Ri)(t:TT):Prop:=
 ∀(pins:List (Q4×Obj))(s:Rf)(σ:St)(H:Hp)(Q:Bool->Hp->Prop),Inv X pins σ H s->t σ H Q->
  Rh (model X.prog X.w) X.A (forIn ifs true λc r=>if r=true then do let ok<-isTrue c X.env (eval c X.env);pure (ForInStep.yield ok)else pure (ForInStep.yield r)) (TP X pins σ Q) X.xe s
def Jr:TT:=λ_ H Q=>Q true H
theorem Ff{X:Cx}:GR X [] Jr:=λ_ _ _ H _ I h=>wpAny_tests_nil ⟨H,I,h⟩
theorem Fu{X:Cx}{c:Ri}{t:TT}(h:PT X c t):GR X [c] t:=λpins s σ H Q I q=>wpAny_tests_one (h pins s σ H Q I q)
theorem mw{prog:Q3}{w:Q2}{A:Rc}{R:Result->Rf->Prop}{s:Rf}{elt target iter:Ri}{ifs:List Ri}{scope:Rg}{pos:Pos}{it acc:Q1}{env:Env}(I:Nat->Rf->Prop)
  (turn:∀ n s,I n s->Rh (model prog w) A (pyNext it) (fun r s₁=>match r with
   |none=>R (.ok .next) s₁
   |some v=>Rh (model prog w) A (letOwnedTupleGo target it v) (λ_ s₁'=>Rh (model prog w) A (assign target env v) (λ_ s₂=>
     Rh (model prog w) A (forIn ifs true λc r=>if r=true then do let ok<-isTrue c env (eval c env);pure (ForInStep.yield ok)else pure (ForInStep.yield r)) (λok s₃=>
      if ok=true then Rh (model prog w) A (eval elt env) (λx s₄=>
       Rh (model prog w) A (call (.builtin "list.append") [acc,x]) (λ_ s₅=>∃m,m<n/\I m s₅) (notedBy (model prog w) A env λe s'=>R (.error e) s') s₄) (notedBy (model prog w) A env λe s'=>R (.error e) s') s₃
      else∃m,m<n/\I m s₃) (notedBy (model prog w) A env λe s'=>R (.error e) s') s₂) (notedBy (model prog w) A env λe s'=>R (.error e) s') s₁') (notedBy (model prog w) A env λe s'=>R (.error e) s') s₁) (notedBy (model prog w) A env λe s'=>R (.error e) s') s)
  (n:Nat) (h:I n s):
  RC (model prog w) A (.compLoop (.ListComp elt [⟨target,iter,ifs,0⟩] scope pos) 0 it acc env) R s:=by
 refine codeAny_loop rfl I (λn s hI=>?_) n h;show Rh _ A ((compTurn (.ListComp elt [⟨target,iter,ifs,0⟩] scope pos) 0 it acc env).onRaise (λx=>do noteFrame x env;theTreesLotGoes x)) _ _ s;refine wpAny_noted ?_;rw[compTurn_list];refine Rr (R9 (Rr (Rm (turn n s hI) (λr s₁ h₁=>?_) λ_ _ h'=>h')));cases r with
 |none=>exact Rq h₁
 |some v=>
  refine Rr (Rm h₁ (λ_ s₁' h₁'=>?_) λ_ _ h'=>h');refine Rr (Rm h₁' (λ_ s₂ h₂=>Rr (Rm h₂ (λok s₃ h₃=>?_) λ_ _ h'=>h')) λ_ _ h'=>h');cases ok with
  |false=>exact Rq ⟨rfl,h₃⟩
  |true=>
   exact Rr (Rr (Rm h₃ (λx s₄ h₄=>Rr (Rm h₄ (λ_ s₅ h₅=>Rq (Rq ⟨rfl,h₅⟩)) λ_ _ h'=>h')) λ_ _ h'=>h'))
def J5(wi:TI)(g:TG)(tc:TT)(te:TE)(ix:List (Option Nat)):TE:=λσ H Q=>
 wi σ H λJ H1=>∀D,H1 D=none->∃W:Nat->Nat->St->Hp->Prop,(∃m,W 0 m (inBlock ix σ) (upd H1 D (.lst [])))/\
  ∀i m σ' H',W i m σ' H'->(J.stop i H'/\Q (.ref D) H') \/
   (J.go i H'/\∀ x H2,J.yld i H' x H2->g x σ' H2 fun σ3 H3=>tc σ3 H3 fun b H4 =>
    if b=true then te σ3 H4 λv H5=>∃acc,H5 D=some (.lst acc)/\acc.length<Q7/\∃m',m'<m/\W (i+1) m' σ3 (upd H5 D (.lst (acc++[v])))
    else∃m',m'<m/\W (i+1) m' σ3 H4)
section
variable{X:Cx}{elt tg iter:Ri}{ifs:List Ri}{scope:Rg}{pos:Pos}{N:List Str}{ix:List (Option Nat)}{wi:TI}{g:TG}{tc:TT}{te:TE}
theorem sY{pins:List (Q4×Obj)}{σ:St}{s2:Rf}{H2:Hp}{it:Q4}{fp:List Q4}{tn:Nat->Q6->Prop}{J:It}{Q:V->Hp->Prop}{E:Q1->Rf->Prop}{RR:Q1->Q4->Result->Rf->Prop}
    (hc:X.calm=true) (hcell:∀y∈scope.names,y.2≠.cell) (hkind:scope.kind=.function)
    (hfr:∀y∈scope.names,y.2=.free->X.env.scope.names.lookup y.1=some .cell\/X.env.scope.names.lookup y.1=some .free)
    (hix:vS X.N N scope.names ix=true)
    (hb:∀cl C fp s H E,PG (cP X scope N cl C fp s H E) tg g/\GR (cP X scope N cl C fp s H E) ifs tc/\PE (cP X scope N cl C fp s H E) elt te)
    (I2:Inv X pins σ H2 s2) (T:Turn X.prog X.w X.K tg J fp it tn) (st2:tn 0 s2.heap) (f2:∀b∈fp,tP X pins H2 b)
    (q:∀ D,H2 D=none->∃ W:Nat->Nat->St->Hp->Prop,(∃ m,W 0 m (inBlock ix σ) (upd H2 D (.lst []))) /\
      ∀i m σ' H',W i m σ' H'->(J.stop i H'/\Q (.ref D) H') \/
        (J.go i H'/\∀ x H3,J.yld i H' x H3->g x σ' H3 fun σ3 H3=>tc σ3 H3 fun b H4 =>
          if b=true then te σ3 H4 λv H5=>∃acc,H5 D=some (.lst acc)/\acc.length<Q7/\∃m',m'<m/\W (i+1) m' σ3 (upd H5 D (.lst (acc++[v])))
          else∃m',m'<m/\W (i+1) m' σ3 H4))
    (hRR:∀D C H' s' m,H2 D=none->s2.heap.objs.size<=C->H' C=none->s'.heap.Ns C m->(∀h',QA C s'.heap h'->Inv X pins σ H' {s' with heap:=h'})->Q (.ref D) H'->RR (.ref D) C (.ok .next) s'):
    Rh (model X.prog X.w) X.A (newList []) (λacc s₃=>Rh (model X.prog X.w) X.A (newFunctionEnv scope X.env.globals (dR X.env.cells scope.names []) [] X.env.qual none .none (some X.env)) (λcenv s₄=>
      RC (model X.prog X.w) X.A (.compStart (.ListComp elt [⟨tg,iter,ifs,0⟩] scope pos) 0 (.ref it) acc {cenv with scope:=relabel scope X.env}) (RR acc cenv.locals) s₄) E s₃) E s2:=by
  refine R3 (wpAny_newFunctionEnv hcell (by intro y hy;simp at hy) (λh₁ hns₁ hsb₁=>?_) hkind);dsimp only at hns₁ hsb₁ ⊢;have I3:Inv X pins σ (upd H2 s2.heap.objs.size (.lst [])) {s2 with heap:=s2.heap.push {cls:=.type "list",dict:=none,data:=.seq ([]:List Q1).toArray},toks:=s2.toks}:=I2.lnew (its:=[]) (t':=s2.toks) .nil (NK _);generalize hs3:({s2 with heap:=s2.heap.push {cls:=.type "list",dict:=none,data:=.seq ([]:List Q1).toArray},toks:=s2.toks}:Rf)=s3 at I3;have eh3:s2.heap.push {cls:=.type "list",dict:=none,data:=.seq ([]:List Q1).toArray}=s3.heap:=by rw[<-hs3]
  rw[eh3]at hns₁ hsb₁ ⊢;have hC3:s3.heap.objs.size=s2.heap.objs.size+1:=by rw[<-eh3,QE]
  have hD:H2 s2.heap.objs.size=none:=I2.fresh;obtain⟨W,⟨m0,w0⟩,turn⟩:=q s2.heap.objs.size hD;generalize hH3:upd H2 s2.heap.objs.size (.lst [])=H3 at I3 w0;have old:∀b o,s3.heap.get? b=some o->h₁.get? b=some o:=λb o e=>hsb₁.extBut b o (Np (Qy e)) (QB _ e);have fpH3:∀b∈fp,H3 b=none:=λb hb'=>by
    rw[<-hH3,aR]
    ·exact(f2 b hb').1
    · obtain⟨o,e,_⟩:=T.obj _ _ st2 b hb'
      exact Np (Qy e)
  have fpLt:∀b∈fp,b<s3.heap.objs.size:=λb hb'=>by
    obtain⟨o,e,_⟩:=T.obj _ _ st2 b hb';rw[hC3];exact Of (Qy e)
  have hfree:∀p∈scope.names,p.2=.free->∃c,X.env.cells.lookup p.1=some c:=λp hp hk=>I2.ok.has p.1 (hfr p hp hk);have csub:∀x c,(dR X.env.cells scope.names []).lookup x=some c->X.env.cells.lookup x=some c:=ny scope.names [] (λx c e=>by simp at e);have names':∀x k,(relabel scope X.env).names.lookup x=some k->scope.names.lookup x=some k\/(scope.names.lookup x=some .free/\k=.cell):=λx k h=>mI h;have ok:(cP X scope N (dR X.env.cells scope.names []) s3.heap.objs.size fp s3 H3 (notedBy (model X.prog X.w) X.A (compEnvC scope (dR X.env.cells scope.names []) s3.heap.objs.size X.env) λe s'=>RR (.ref s2.heap.objs.size) s3.heap.objs.size (.error e) s')).Ok:=
    { mod:=I3.ok.mod
      kind:=hkind
      glob:=I3.ok.glob
      blt:=I3.ok.blt
      above:=NB _
      inj:=λx y c h1 h2=>I3.ok.inj x y c (csub x c h1) (csub y c h2)
      has:=λx hx=>by
        have fr:scope.names.lookup x=some .free:=by
          rcases hx with hx|hx
          · rcases names' x .cell hx with h|⟨h,_⟩
            ·exact absurd rfl (hcell _ (PySem.mem_of_lookup h))
            ·exact h
          · rcases names' x .free hx with h|⟨_,h⟩
            ·exact h
            ·cases h
        have hm:=PySem.mem_of_lookup fr;exact Option.isSome_iff_exists.mp (kj scope.names [] x hm (hfree _ hm rfl))
      cab:=λx c h _=>by cases h
      hd:=I3.ok.hd
      frames:=I3.ok.frames
      stk:=.inl rfl
      exf:=λb hb'=>⟨Np (fpLt b hb'),λx c e=>(f2 b hb').2.2.2.2.1 x c (csub x c e)⟩
      bs:=λb o e=>I3.bs b o e
      bsz:=Nq I3.ok.bsz I3.sz
      noex:=λb o e hb'=>by
        obtain⟨_,_,_,h4,_⟩:=f2 b hb';rcases h4 with h4|h4
        ·exact I3.ok.noex b o e h4
        ·exact absurd (Nm (Qy (I3.ok.bs b o e).1) h4) (Nn _)
      exfs:=λb hb' hs=>by
        obtain⟨_,h2,h3,_⟩:=f2 b hb';rcases List.mem_cons.mp (I3.stkSub b hs)with e|e
        ·exact h2 e
        ·exact h3 e
      funs:=I3.stack
      frf:=λb hb'=>I3.stkFree b hb'}
  generalize hE:(notedBy (model X.prog X.w) X.A (compEnvC scope (dR X.env.cells scope.names []) s3.heap.objs.size X.env) λe s'=>RR (.ref s2.heap.objs.size) s3.heap.objs.size (.error e) s')=E' at ok;obtain⟨hg,htc,hel⟩:=hb (dR X.env.cells scope.names []) s3.heap.objs.size fp s3 H3 E';have Istart:∀tk,Inv (cP X scope N (dR X.env.cells scope.names []) s3.heap.objs.size fp s3 H3 E') [] (inBlock ix σ) H3 {s3 with heap:=h₁,toks:=tk}:=λtk=>by
    refine⟨ok,rfl,I3.bare,Un.kept old,⟨_,hns₁,λj x v e1 e2 _=>?_⟩,λx c e=>?_,I3.fresh,λx c e=>I3.freeC x c (csub x c e),λp hp=>absurd (show p∈([]:List (Q4×Obj))from hp) (by simp),I3.hok.kept old,?_⟩
    ·
      unfold inBlock at e2;rw[NT]at e2;cases q1:ix[j]? with
      |none=>rw[q1]at e2;simp at e2
      |some o=>
        rw[q1]at e2;cases o with
        |none=>simp at e2
        |some i=>
          obtain⟨n1,n2⟩:=vS.at_ hix e1 q1;have e2':(σ[i]?).getD none=some v:=Option.some.inj e2;have e3:σ[i]?=some (some v):=by
            cases q2:σ[i]? with
            |none=>rw[q2]at e2';simp at e2'
            |some o2=>rw[q2]at e2';simpa using e2'
          obtain⟨m,hn,hl⟩:=I3.loc;have hm:=PySem.mem_of_lookup n2;have hk:=hfr _ hm rfl;have hv:HM X.env.scope x:=by
            rcases hk with hk|hk
            ·exact .inr (.inl hk)
            ·exact .inr (.inr hk)
          obtain⟨u,r,l⟩:=hl i x v n1 e3 hv;refine⟨u,r,.inr ?_⟩;rcases l with⟨kl,_⟩|⟨_,c,hcx,hcell'⟩
          · have kl':X.env.scope.names.lookup x=some .local:=kl
            rcases hk with hk|hk
            ·rw[kl']at hk;cases hk
            ·rw[kl']at hk;cases hk
          · obtain⟨c',hc'⟩:=Option.isSome_iff_exists.mp (kj (cells:=X.env.cells) scope.names [] x hm ⟨c,hcx⟩)
            have ec:c'=c:=Option.some.inj ((csub x c' hc').symm.trans hcx);subst ec;refine⟨?_,c',hc',?_⟩
            ·
              show(relabel scope X.env).names.lookup x=some .cell\/(relabel scope X.env).names.lookup x=some .free;have gen:∀names:List (Str×RL),names.lookup x=some .free->((names.map λ(n,k)=>if(k==NameKind.free&&X.env.scope.kind==.function&&X.env.kindOf n==some .cell)then(n,NameKind.cell)else(n,k)).lookup x=some .cell\/(names.map λ(n,k)=>if(k==NameKind.free&&X.env.scope.kind==.function&&X.env.kindOf n==some .cell)then(n,NameKind.cell)else(n,k)).lookup x=some .free):=by
                intro names
                induction names with
                |nil=>intro h;simp at h
                |cons p r ih=>
                  obtain⟨n,k⟩:=p;intro h;show List.lookup x ((if(k==NameKind.free&&X.env.scope.kind==.function&&X.env.kindOf n==some .cell)=true then(n,NameKind.cell)else(n,k))::_)=_\/List.lookup x ((if(k==NameKind.free&&X.env.scope.kind==.function&&X.env.kindOf n==some .cell)=true then(n,NameKind.cell)else(n,k))::_)=_;cases hx:x==n with
                  |true=>
                    simp only[Oc,hx]at h;by_cases hcc:(k==NameKind.free&&X.env.scope.kind==.function&&X.env.kindOf n==some .cell)=true
                    ·rw[if_pos hcc];left;simp only[Oc,hx]
                    ·rw[if_neg hcc];right;simp only[Oc,hx];exact h
                  |false=>
                    simp only[Oc,hx]at h;by_cases hcc:(k==NameKind.free&&X.env.scope.kind==.function&&X.env.kindOf n==some .cell)=true
                    ·rw[if_pos hcc];simp only[Oc,hx];exact ih h
                    ·rw[if_neg hcc];simp only[Oc,hx];exact ih h
              exact gen scope.names n2
            ·exact hcell'.keeps old
    · obtain⟨v,z⟩:=I3.cell x c (csub x c e)
      exact⟨v,z.keeps old⟩
    · show(inBlock ix σ).length=N.length
      unfold inBlock;rw[NW];exact vS.len hix
  have stat:∀{H':Hp},(∀b∈fp,H' b=none)->∀b∈fp,tP (cP X scope N (dR X.env.cells scope.names []) s3.heap.objs.size fp s3 H3 E') [] H' b:=λhn b hb'=>
    ⟨hn b hb',(ok.exf b hb').1,ok.exfs b hb',.inl hb',(ok.exf b hb').2,λp hp=>absurd (show p∈([]:List (Q4×Obj))from hp) (by simp)⟩
  have tn1:tn 0 h₁:=T.keep _ _ _ st2 λb hb' o e=>old b o (by rw[<-eh3];exact QB _ e);have loop:∀tk,RC (model X.prog X.w) X.A (.compLoop (.ListComp elt [⟨tg,iter,ifs,0⟩] scope pos) 0 (.ref it) (.ref s2.heap.objs.size) (compEnvC scope (dR X.env.cells scope.names []) s3.heap.objs.size X.env))
      (RR (.ref s2.heap.objs.size) s3.heap.objs.size) {s3 with heap:=h₁,toks:=tk}:=by
    intro tk;refine mw (λn s'=>∃i σ' H',Inv (cP X scope N (dR X.env.cells scope.names []) s3.heap.objs.size fp s3 H3 E') [] σ' H' s'/\tn i s'.heap/\(∀b∈fp,H' b=none)/\W i n σ' H') ?_ m0 ⟨0,_,_,Istart tk,tn1,fpH3,w0⟩;rintro n s5 ⟨i,σ5,H5,I5,st5,fr5,w5⟩;rw[hE];rcases turn i n σ5 H5 w5 with⟨stop,qn⟩|⟨go,step⟩
    · refine fj (T.done (cP X scope N (dR X.env.cells scope.names []) s3.heap.objs.size fp s3 H3 E') rfl rfl rfl hc i [] s5 σ5 H5 _ I5 (stat fr5) st5 stop) λr s6 ⟨hr,I6⟩=>?_
      subst hr;obtain⟨m6,hn6,_⟩:=I6.loc;refine hRR s2.heap.objs.size s3.heap.objs.size H5 s6 m6 hD (by rw[hC3];exact Nat.le_succ _) I6.free hn6 (λh' sb=>?_) qn;have ne:∀b o,s3.heap.get? b=some o->b≠s3.heap.objs.size:=λb o e=>Np (Qy e);refine I3.call' (s':={s6 with heap:=h'}) (H':=H5) (ch:=fp) I6.os ⟨λb o e n hb' hx=>?_,λb o e n hb' hx=>?_,λb o e n hx=>?_,λb o e hx=>?_,I6.base.tups,I6.base.frzs,I6.base.tbls⟩ ?_ I6.bare λb hb'=>?_
      ·exact(sb.2 b (ne b o e)).trans (I6.base.keep b o e n hb' hx)
      · obtain⟨sl,e1⟩:=I6.base.slot b o e n hb' hx
        exact⟨sl,(sb.2 b (ne b o e)).trans e1⟩
      ·exact I6.base.free b o e n hx
      · obtain⟨o',e1⟩:=I6.base.there b o e hx
        exact⟨o',(sb.2 b (ne b o e)).trans e1⟩
      · intro b ob e
        have hfreeC:H5 s3.heap.objs.size=none:=I6.free;refine(I6.hok b ob e).stay (λc v hcc q=>(sb.2 c ?_).trans q) (λ_ q=>q) λ_ _ q=>q;rintro rfl;rcases hcc with rfl|hcc
        ·rw[hfreeC]at e;cases e
        ·rw[hfreeC]at hcc;cases hcc
      · obtain⟨_,h2',_,h4',h5',h6'⟩:=f2 b hb'
        exact⟨h4',h2',h5',h6'⟩
    · refine fj (T.item (cP X scope N (dR X.env.cells scope.names []) s3.heap.objs.size fp s3 H3 E') rfl rfl rfl hc i [] s5 σ5 H5 _ I5 (stat fr5) st5 go) λr s6 ⟨u,hr,h6⟩=>?_
      subst hr;refine fj h6 λ_ s7 ⟨x,H7,I7,r7,y7,st7,fr7⟩=>?_;have I7':=I7.pinned (stat fr7) (T.obj _ _ st7);refine fj (hg _ s7 σ5 H7 x u _ I7' r7 (step x H7 y7)) λ_ s8 ⟨σ8,H8,I8,q8⟩=>?_;refine fj (htc _ s8 σ8 H8 _ I8 q8) λb s9 ⟨H9,I9,q9⟩=>?_;have again:∀{σ':St}{H':Hp}{s':Rf}{m':Nat},Inv (cP X scope N (dR X.env.cells scope.names []) s3.heap.objs.size fp s3 H3 E') ([]++sE fp s7.heap) σ' H' s'->m'<n->W (i+1) m' σ' H'->
          ∃m,m<n/\∃i σ' H',Inv (cP X scope N (dR X.env.cells scope.names []) s3.heap.objs.size fp s3 H3 E') [] σ' H' s'/\tn i s'.heap/\(∀b∈fp,H' b=none)/\W i m σ' H':=λ{σ' H' s' m'} I' hm w'=>by
        refine⟨m',hm,i+1,σ',H',I'.unpinned,T.keep _ _ _ st7 λb hb' o e=>(I'.pin (b,o) (NC _ (NC _ (li hb' e)))).1,λb hb'=>?_,w'⟩;obtain⟨o,e,d⟩:=T.obj _ _ st7 b hb';exact(I'.pin (b,o) (NC _ (NC _ (li hb' e)))).2.1
      cases b with
      |false=>
        rw[if_neg NF]at q9 ⊢;obtain⟨m',hm,w9⟩:=q9;exact again I9 hm w9
      |true=>
        rw[if_pos rfl]at q9 ⊢;refine fj (hel _ s9 σ8 H9 _ I9 q9) λy s10 ⟨v,H10,I10,r10,q10⟩=>?_;obtain⟨acc,ha,hz,m',hm,w10⟩:=q10;refine fj (dQ _ s10 σ8 H10 (.ref s2.heap.objs.size) [v] (.ref s2.heap.objs.size) [y] (λ_ H'=>H'=upd H10 s2.heap.objs.size (.lst (acc++[v]))) I10 rfl (.cons r10 .nil) ⟨_,acc,v,rfl,rfl,ha,hz,rfl⟩) λ_ s11 ⟨_,H11,I11,_,e11⟩=>?_;subst e11;exact again I11 hm w10
  subst hs3;exact codeAny_compStart_list (loop _) (T.self _ 0 _ _ _ tn1 (loop _))
theorem IT(hc:X.calm=true)(hcell:∀y∈scope.names,y.2≠.cell)(hkind:scope.kind=.function)(hnames:∀y∈scope.names,y.2=.local->scope.names.lookup y.1=some .local)
  (hfr:∀y∈scope.names,y.2=.free->X.env.scope.names.lookup y.1=some .cell\/X.env.scope.names.lookup y.1=some .free)
  (hix:vS X.N N scope.names ix=true) (hi:PI X tg iter wi)
  (hb:∀cl C fp s H E,PG (cP X scope N cl C fp s H E) tg g/\GR (cP X scope N cl C fp s H E) ifs tc/\PE (cP X scope N cl C fp s H E) elt te)
  (hs:∀x,Rv iter X.env x=pure x:=by intro _;rfl):PE X (.ListComp elt [⟨tg,iter,ifs,0⟩] scope pos) (J5 wi g tc te ix):=by
 intro pins s σ H Q I h;rw[eval_ListComp];refine Sa (use:=none) rfl hs (oQ λp hp hk=>I.ok.has p.1 (hfr p hp hk)) hkind hnames (fj (hi pins s σ H _ I h) λv s1 h1=>fj h1 λitv s2 h2=>?_);obtain⟨it,fp,tn,J,H2,e,I2,T,st2,f2,q⟩:=h2;subst e;refine sY (Q:=Q) (RR:=λacc C=>compPost (model X.prog X.w) X.A X.xe none (EP X pins σ Q) acc C) hc hcell hkind hfr hix hb I2 T st2 f2 q ?_;intro D C H' s' m _ _ _ hn hI hq;exact⟨m,hn,λh' sb=>⟨.ref D,H',hI h' sb,rfl,hq⟩⟩
theorem Il{i:Nat}{y:Str}{py spos:Pos}(hN:X.N.Nodup)(hi':X.N[i]?=some y)(hx:Loc X.env.scope y)
  (hc:X.calm=true) (hcell:∀y∈scope.names,y.2≠.cell) (hkind:scope.kind=.function) (hnames:∀y∈scope.names,y.2=.local->scope.names.lookup y.1=some .local)
  (hfr:∀y∈scope.names,y.2=.free->X.env.scope.names.lookup y.1=some .cell\/X.env.scope.names.lookup y.1=some .free)
  (hix:vS X.N N scope.names ix=true) (hi:PI X tg iter wi)
  (hb:∀cl C fp s H E,PG (cP X scope N cl C fp s H E) tg g/\GR (cP X scope N cl C fp s H E) ifs tc/\PE (cP X scope N cl C fp s H E) elt te)
  (hsw:swapsWith (.ListComp elt [⟨tg,iter,ifs,0⟩] scope pos) (some (.Name y py)) spos.line X.env=pure true:=by rfl)
  (hs:∀x,Rv iter X.env x=pure x:=by intro _;rfl)
  (hf:X.fn y=true\/X.env.scope.names.lookup y=some .local:=by first|exact .inl rfl|exact .inr rfl|assumption):
  PS X (.Assign [.Name y py] (.ListComp elt [⟨tg,iter,ifs,0⟩] scope pos) spos) (Dr (J5 wi g tc te ix) (uf i)):=by
 intro pins s σ H D0 I h;rw[exec_Assign_Name_used _ _ _ _ hsw];refine Rr (R9 (Rr ?_));show Rh _ X.A (do let _<-comprehension (.ListComp elt [⟨tg,iter,ifs,0⟩] scope pos) scope X.env _ (newList []) false (eval iter X.env) (some (assign (.Name y py) X.env))) _ _ s;refine Rr (fj (Sa (use:=some (assign (.Name y py) X.env)) (Q:=λ_ s'=>SP X pins D0 .next s') rfl hs (oQ λp hp hk=>I.ok.has p.1 (hfr p hp hk)) hkind hnames
  (fj (hi pins s σ H _ I h) λv s1 h1=>fj h1 λitv s2 h2=>?_)) λ_ s' hq=>Rq (Rq hq))
 obtain⟨it,fp,tn,J,H2,e,I2,T,st2,f2,q⟩:=h2;subst e;refine sY (Q:=λv H'=>uf i v σ H' D0.nx) (RR:=λacc C=>compPost (model X.prog X.w) X.A X.xe (some (assign (.Name y py) X.env)) (λ_ s'=>SP X pins D0 .next s') acc C) hc hcell hkind hfr hix hb I2 T st2 f2 q ?_;intro D C H' s' m _ hC hfree hn hI hq;have I':Inv X pins σ H' s':=hI s'.heap (.refl ..);have nL:C≠X.env.locals:=Nz (Nm I2.lt hC);have nC:∀x c,X.env.cells.lookup x=some c->c≠C:=λx c e z=>by
  obtain⟨v,q⟩:=I2.cell x c e;exact absurd (Nm q.lt (by rw[z];exact hC)) (Nn _)
 have nP:∀p∈X.pn++pins,p.1≠C:=λp hp z=>absurd (Nm (Qy (I2.pin p hp).1) (by rw[z];exact hC)) (Nn _);show Rh _ X.A (assign (.Name y py) X.env (.ref D)) _ _ _;refine wpAny_assign_Name (uB I' hN hi' hx (v:=.ref D) rfl (λs'' I'' ch=>?_) hf);obtain⟨a,sb,ha⟩:=ch;have hCa:C≠a:=by
  rcases ha with ha|ha
  ·rw[ha];exact nL
  ·exact Ne.symm (nC y a ha)
 refine⟨m,hn.sameBut sb hCa,λh' sb'=>⟨_,H',?_,hq⟩⟩;exact I''.turned (t':=s''.toks) (λb o hb' e=>(sb'.2 b hb').trans e) hfree nL (.inr (Nq I2.sz hC)) nC nP
end
end L2
namespace TG
open PySem PySem.Spec L2
inductive D where
 |non|bl (b:Bool)|int (i:Int)|str (x:Str)|tup (xs:List D)|lst (xs:List D)
 |dct (ks vs:List D)|obj (c:Str) (fs:List Str) (vs:List D)|exc (c:Str) (fs:List Str) (vs:List D)
def bM:Key->D
 |.inl i=>.int i
 |.inr x=>.str x
def clsAt(K:P5)(c:Str)(C:Q4):Prop:=Ql K Q9 c=some (some (.ref C))
def KU(C a:Q4)(dx:Option Q4):(Q4->Prop)->Q6->Prop:=λ_ h=>∃o,h.get? a=some o/\o.cls=.ref C/\o.dict=dx
mutual
def cY(K:P5)(H:Hp):D->V->Prop
 |.non,v=>v=.non
 |.bl b,v=>v=.bl b
 |.int i,v=>v=.int i
 |.str x,v=>v=.str x
 |.tup xs,v=>∃a vs,v=.ref a/\H a=some (.tup vs)/\bh K H xs vs
 |.lst xs,v=>∃a vs,v=.ref a/\ot K H a vs/\bh K H xs vs
 |.dct ks ds,v=>∃a vs,v=.ref a/\bh K H ds vs/\((∃kvs:List (Key×V),H a=some (.dK kvs)/\ks=kvs.map (λp=>bM p.1)/\vs=kvs.map (·.2)) \/
   (∃kvs:List (List Key×V),H a=some (.dT kvs)/\ks=kvs.map (λp=>.tup (p.1.map bM))/\vs=kvs.map (·.2)) \/
   ∃(kvs:List (List Key×V))(o:Obj),H a=some (.frz o (.dT kvs))/\ks=.non::kvs.map (λp=>.tup (p.1.map bM))/\vs=kvs.map (·.2))
 |.obj c fs ds,v=>∃a vs,v=.ref a/\bh K H ds vs/\fs.length=vs.length/\∃C dx,clsAt K c C/\H a=some (.ins C dx (fs.zip vs))
 |.exc c fs ds,v=>∃a vs,v=.ref a/\bh K H ds vs/\fs.length=vs.length/\∃C dx,clsAt K c C/\H a=some (.ext (KU C a dx))/\(fs=[]\/∃d,dx=some d/\H d=some (.xd (fs.zip vs)))
def bh(K:P5)(H:Hp):List D->List V->Prop
 |[],vs=>vs=[]
 |x::xs,vs=>∃v r,vs=v::r/\cY K H x v/\bh K H xs r
end
theorem A8{K:P5}{H H':Hp}{a:Q4}{xs:List V}(e:bE H H')(h:p8 K H a xs):p8 K H' a xs:=by
 rcases h with(h|⟨o,h⟩)|h
 ·exact .inl (.inl (e _ _ h))
 ·exact .inl (.inr ⟨o,e _ _ h⟩)
 ·exact .inr h
theorem cw{K:P5}{H H':Hp}{a:Q4}{xs:List V}(e:bE H H')(h:H a=some (.tup xs)):p8 K H' a xs:=p8.of (e _ _ h)
mutual
theorem cY.mono{K:P5}{H H':Hp}(e:bE H H'):∀{d:D}{v:V},cY K H d v->cY K H' d v
 |.non,_,h=>by unfold cY at h ⊢;exact h
 |.bl _,_,h=>by unfold cY at h ⊢;exact h
 |.int _,_,h=>by unfold cY at h ⊢;exact h
 |.str _,_,h=>by unfold cY at h ⊢;exact h
 |.tup xs,_,h=>by
  unfold cY at h ⊢;obtain⟨a,vs,e1,h1,h2⟩:=h;exact⟨a,vs,e1,e _ _ h1,bh.mono e h2⟩
 |.lst xs,_,h=>by
  unfold cY at h ⊢;obtain⟨a,vs,e1,h1,h2⟩:=h;exact⟨a,vs,e1,e.seq h1,bh.mono e h2⟩
 |.dct _ ds,_,h=>by
  unfold cY at h ⊢;obtain⟨a,vs,e1,h1,h2⟩:=h;refine⟨a,vs,e1,bh.mono e h1,?_⟩;rcases h2 with⟨kvs,h2,h3⟩|⟨kvs,h2,h3⟩|⟨kvs,o,h2,h3⟩
  ·exact .inl ⟨kvs,e _ _ h2,h3⟩
  ·exact .inr (.inl ⟨kvs,e _ _ h2,h3⟩)
  ·exact .inr (.inr ⟨kvs,o,e _ _ h2,h3⟩)
 |.obj _ _ ds,_,h=>by
  unfold cY at h ⊢;obtain⟨a,vs,e1,h1,h2,C,dx,h3,h4⟩:=h;exact⟨a,vs,e1,bh.mono e h1,h2,C,dx,h3,e _ _ h4⟩
 |.exc _ _ ds,_,h=>by
  unfold cY at h ⊢;obtain⟨a,vs,e1,h1,h2,C,dx,h3,h4,h5⟩:=h;exact⟨a,vs,e1,bh.mono e h1,h2,C,dx,h3,e _ _ h4,h5.imp id λ⟨d,q1,q2⟩=>⟨d,q1,e _ _ q2⟩⟩
theorem bh.mono{K:P5}{H H':Hp}(e:bE H H'):∀{ds:List D}{vs:List V},bh K H ds vs->bh K H' ds vs
 |[],_,h=>by unfold bh at h ⊢;exact h
 |x::xs,_,h=>by
  unfold bh at h ⊢;obtain⟨v,r,e1,h1,h2⟩:=h;exact⟨v,r,e1,cY.mono e h1,bh.mono e h2⟩
end
section
variable{K:P5}{H:Hp}
theorem kK{v:V}:cY K H .non v↔v=.non:=by unfold cY;rfl
theorem kG{b:Bool}{v:V}:cY K H (.bl b) v↔v=.bl b:=by unfold cY;rfl
theorem fK{i:Int}{v:V}:cY K H (.int i) v↔v=.int i:=by unfold cY;rfl
theorem fM{x:Str}{v:V}:cY K H (.str x) v↔v=.str x:=by unfold cY;rfl
theorem cV{xs:List D}{v:V}:cY K H (.tup xs) v↔∃a vs,v=.ref a/\H a=some (.tup vs)/\bh K H xs vs:=by unfold cY;rfl
theorem cT{xs:List D}{v:V}:cY K H (.lst xs) v↔∃a vs,v=.ref a/\ot K H a vs/\bh K H xs vs:=by unfold cY;rfl
theorem J8{ks ds : List D}{v : V}: cY K H (.dct ks ds) v ↔ ∃ a vs, v = .ref a /\ bh K H ds vs /\ ((∃ kvs : List (Key × V), H a = some (.dK kvs) /\ ks = kvs.map (fun p => bM p.1) /\ vs = kvs.map (·.2)) \/
      (∃kvs:List (List Key×V),H a=some (.dT kvs)/\ks=kvs.map (λp=>.tup (p.1.map bM))/\vs=kvs.map (·.2)) \/
      ∃(kvs:List (List Key×V))(o:Obj),H a=some (.frz o (.dT kvs))/\ks=.non::kvs.map (λp=>.tup (p.1.map bM))/\vs=kvs.map (·.2)):=by unfold cY;rfl
theorem Kk{c:Str}{fs:List Str}{ds:List D}{v:V}:cY K H (.obj c fs ds) v↔∃a vs,v=.ref a/\bh K H ds vs/\fs.length=vs.length/\∃C dx,clsAt K c C/\H a=some (.ins C dx (fs.zip vs)):=by unfold cY;rfl
theorem df{vs:List V}:bh K H [] vs↔vs=[]:=by unfold bh;rfl
theorem bH{x:D}{xs:List D}{vs:List V}:bh K H (x::xs) vs↔∃v r,vs=v::r/\cY K H x v/\bh K H xs r:=by conv=>lhs;unfold bh
theorem bh.length:∀{ds:List D}{vs:List V},bh K H ds vs->ds.length=vs.length
 |[],_,h=>by rw[df]at h;rw[h];rfl
 |_::xs,_,h=>by
  rw[bH]at h;obtain⟨v,r,e,_,h⟩:=h;rw[e,N6,N6,bh.length h]
theorem bh.get:∀{ds:List D}{vs:List V}{i:Nat}{d:D},bh K H ds vs->ds[i]?=some d->∃v,vs[i]?=some v/\cY K H d v
 |[],_,_,_,_,e=>by simp at e
 |x::xs,_,0,d,h,e=>by
  rw[bH]at h;obtain⟨v,r,rfl,h1,_⟩:=h;simp at e;subst e;exact⟨v,rfl,h1⟩
 |x::xs,_,i+1,d,h,e=>by
  rw[bH]at h;obtain⟨v,r,rfl,_,h2⟩:=h;obtain⟨w,e1,e2⟩:=bh.get (i:=i) h2 (by simpa using e);exact⟨w,by simpa using e1,e2⟩
theorem bh.append:∀{ds es:List D}{vs ws:List V},bh K H ds vs->bh K H es ws->bh K H (ds++es) (vs++ws)
 |[],_,_,_,h,h'=>by rw[df]at h;subst h;exact h'
 |x::xs,_,_,_,h,h'=>by
  rw[bH]at h;obtain⟨v,r,rfl,h1,h2⟩:=h;rw[Og,bH];exact⟨v,_,rfl,h1,bh.append h2 h'⟩
theorem bh.take:∀{ds:List D}{vs:List V}(n:Nat),bh K H ds vs->bh K H (ds.take n) (vs.take n)
 |_,_,0,_=>by rw[Oh,Oh,df]
 |[],_,_+1,h=>by rw[df]at h;subst h;rw[List.take_nil,List.take_nil,df]
 |x::xs,_,n+1,h=>by
  rw[bH]at h;obtain⟨v,r,rfl,h1,h2⟩:=h;rw[Oi,Oi,bH];exact⟨v,_,rfl,h1,bh.take n h2⟩
theorem bh.drop:∀{ds:List D}{vs:List V}(n:Nat),bh K H ds vs->bh K H (ds.drop n) (vs.drop n)
 |_,_,0,h=>by rw[Oj,Oj];exact h
 |[],_,_+1,h=>by rw[df]at h;subst h;rw[List.drop_nil,List.drop_nil,df]
 |x::xs,_,n+1,h=>by
  rw[bH]at h;obtain⟨v,r,rfl,h1,h2⟩:=h;rw[Ol,Ol];exact bh.drop n h2
theorem bh.snoc{ds:List D}{vs:List V}{d:D}{v:V}(h:bh K H ds vs)(h':cY K H d v):bh K H (ds++[d]) (vs++[v]):=
 h.append (bH.mpr ⟨v,[],rfl,h',df.mpr rfl⟩)
theorem bh.one{d:D}{vs:List V}(h:bh K H [d] vs):∃v,vs=[v]/\cY K H d v:=by
 rw[bH]at h;obtain⟨v,r,rfl,h1,h2⟩:=h;rw[df]at h2;subst h2;exact⟨v,rfl,h1⟩
theorem bh.two{d e:D}{vs:List V}(h:bh K H [d,e] vs):∃v w,vs=[v,w]/\cY K H d v/\cY K H e w:=by
 rw[bH]at h;obtain⟨v,r,rfl,h1,h2⟩:=h;obtain⟨w,rfl,h3⟩:=h2.one;exact⟨v,w,rfl,h1,h3⟩
theorem uI:∀ns:List Int,bh K H (ns.map D.int) (ns.map V.int)
 |[]=>df.mpr rfl
 |n::ns=>bH.mpr ⟨_,_,rfl,fK.mpr rfl,uI ns⟩
end
def hid(H:Hp)(O:List Q4):Hp:=λb=>if b∈O then none else H b
theorem aI(H:Hp)(O:List Q4):bE (hid H O) H:=λb o h=>by
 unfold hid at h;split at h
 ·cases h
 ·exact h
theorem cI{H H':Hp}{O:List Q4}(e:bE H H'):bE (hid H O) (hid H' O):=λb o h=>by
 unfold hid at h ⊢;by_cases hb:b∈O
 ·rw[if_pos hb]at h;cases h
 ·rw[if_neg hb]at h ⊢;exact e b o h
theorem js{H:Hp}{O O':List Q4}(s:∀a∈O,a∈O'):bE (hid H O') (hid H O):=λb o h=>by
 unfold hid at h ⊢;by_cases hb:b∈O'
 ·rw[if_pos hb]at h;cases h
 ·rw[if_neg hb]at h;rw[if_neg λz=>hb (s b z)];exact h
theorem Fx(H:Hp):hid H []=H:=by funext b;unfold hid;simp
theorem vt{H:Hp}{O:List Q4}{p:Q4}{o:HO}(h:H p=none):bE (hid H O) (hid (upd H p o) O):=λb u q=>by
 unfold hid at q ⊢;by_cases hb:b∈O
 ·rw[if_pos hb]at q;cases q
 ·rw[if_neg hb]at q ⊢;rw[aR (bd q h)];exact q
theorem cm{H:Hp}{p:Q4}(h:H p=none)(o:HO):bE H (upd H p o):=λb u q=>by rw[aR (bd q h)];exact q
theorem jU{H:Hp}{O:List Q4}{p:Q4}(h:p∉O):hid H O p=H p:=by unfold hid;rw[if_neg h]
theorem jR{H:Hp}{O:List Q4}{p:Q4}{o:HO}(h:p∈O):bE (hid H O) (hid (upd H p o) O):=λb u q=>by
 unfold hid at q ⊢;by_cases hb:b∈O
 ·rw[if_pos hb]at q;cases q
 ·rw[if_neg hb]at q ⊢;rw[aR (λz=>hb (by rw[z];exact h))];exact q
inductive S where
 |val (d:D)|own (d:D)|nest (d:D)
abbrev aw:=List (Option S)
def tD:HO->Prop
 |.lst _=>True
 |.dK _=>True
 |.dT _=>True
 |_=>False
class aY where
 tab:Hp->Prop
 same:∀{H H':Hp},tab H->bE H H'->tab H'
 own:∀{H:Hp}{p:Q4}{o o':HO},tab H->H p=some o->tD o->tab (upd H p o')
variable[aY]
def eA(H:Hp)(O:List Q4):Prop:=aY.tab H/\∀a∈O,∃o,H a=some o/\tD o
theorem eA.not{H:Hp}{O:List Q4}(h:eA H O){p:Q4}(n:H p=none):p∉O:=λz=>by
 obtain⟨vs,e,_⟩:=h.2 p z;rw[n]at e;cases e
theorem eA.same{H H':Hp}{O:List Q4}(h:eA H O)(e:bE H H'):eA H' O:=⟨aY.same h.1 e,λa ha=>let ⟨vs,q,m⟩:=h.2 a ha;⟨vs,e _ _ q,m⟩⟩
theorem eA.upd{H:Hp}{O:List Q4}{p:Q4}{o:HO}(h:eA H O)(hp:p∈O)(m:tD o):eA (L2.upd H p o) O:=⟨let ⟨_,q,r⟩:=h.2 p hp;aY.own h.1 q r,λa ha=>by
 by_cases z:a=p
 ·rw[z];exact⟨o,aZ,m⟩
 ·obtain⟨u,q,r⟩:=h.2 a ha;exact⟨u,by rw[aR z];exact q,r⟩⟩
theorem eA.cons{H:Hp}{O:List Q4}{p:Q4}{o:HO}(h:eA H O)(hp:H p=some o)(m:tD o):eA H (p::O):=⟨h.1,λa ha=>by
 rcases List.mem_cons.mp ha with z|z
 ·rw[z];exact⟨o,hp,m⟩
 ·exact h.2 a z⟩
def eQ(K:P5)(H:Hp)(O:List Q4)(a:Q4)(d:D):Prop:=∃o vs,H a=some o/\match d with
 |.lst xs=>o=.lst vs/\bh K (hid H O) xs vs
 |.dct ks ds=>bh K (hid H O) ds vs/\((∃kvs:List (Key×V),o=.dK kvs/\ks=kvs.map (λp=>bM p.1)/\vs=kvs.map (·.2)) \/
   ∃kvs:List (List Key×V),o=.dT kvs/\ks=kvs.map (λp=>.tup (p.1.map bM))/\vs=kvs.map (·.2))
 |_=>False
theorem eQ.mono{K:P5}{H H':Hp}{O O':List Q4}{a:Q4}{d:D}(h:eQ K H O a d)(e:H a=H' a)(s:bE (hid H O) (hid H' O')):eQ K H' O' a d:=by
 obtain⟨o,vs,h1,h2⟩:=h;refine⟨o,vs,by rw[<-e];exact h1,?_⟩;cases d with
 |lst xs=>exact⟨h2.1,h2.2.mono s⟩
 |dct ks ds=>exact⟨h2.1.mono s,h2.2⟩
 |_=>exact h2
theorem eQ.some{K:P5}{H:Hp}{O:List Q4}{a:Q4}{d:D}(h:eQ K H O a d):∃o,H a=some o:=let ⟨o,_,e,_⟩:=h;⟨o,e⟩
theorem eQ.den{K:P5}{H:Hp}{O O':List Q4}{a:Q4}{d:D}(h:eQ K H O a d)(s:bE (hid H O) (hid H O'))(ha:a∉O'):cY K (hid H O') d (.ref a):=by
 obtain⟨o,vs,h1,h2⟩:=h;have h1':hid H O' a=Option.some o:=by rw[jU ha];exact h1
 cases d with
 |lst xs=>
  obtain⟨e,g⟩:=h2;subst e;exact cT.mpr ⟨a,vs,rfl,ot.of h1',g.mono s⟩
 |dct ks ds=>
  obtain⟨g,q⟩:=h2;refine J8.mpr ⟨a,vs,rfl,g.mono s,?_⟩;rcases q with⟨kvs,e,q⟩|⟨kvs,e,q⟩
  ·subst e;exact .inl ⟨kvs,h1',q⟩
  ·subst e;exact .inr (.inl ⟨kvs,h1',q⟩)
 |_=>exact h2.elim
structure eE(K:P5)(O:List Q4)(H:Hp)(ρ:aw)(σ:St):Prop where
 val:∀(i:Nat) d,ρ[i]?=some (some (.val d))->∃v,σ[i]?=some (some v)/\cY K (hid H O) d v
 own:∀(i:Nat) d,ρ[i]?=some (some (.own d))->∃a,σ[i]?=some (some (.ref a))/\a∈O/\eQ K H O a d
 one:∀(i j:Nat) xs ys a,ρ[i]?=some (some (.own xs))->ρ[j]?=some (some (.own ys))->σ[i]?=some (some (.ref a))->σ[j]?=some (some (.ref a))->i=j
 all:eA H O
theorem qQ{H H':Hp}(e:bE H H'){a:Q4}{o:HO}(h:H a=some o):H a=H' a:=by rw[h,e _ _ h]
theorem eE.same{K:P5}{O:List Q4}{H H':Hp}{ρ:aw}{σ:St}(h:eE K O H ρ σ)(e:bE H H'):eE K O H' ρ σ:=
  ⟨fun i d q=>let ⟨v,a,b⟩:=h.val i d q; ⟨v,a,b.mono (cI e)⟩,
   λi xs q=>let ⟨a,q1,q2,q3⟩:=h.own i xs q;⟨a,q1,q2,q3.mono (let ⟨_,z⟩:=q3.some;qQ e z) (cI e)⟩,h.one,h.all.same e⟩
structure Ex where
 c:Str
 fs:List Str
 vs:List D
abbrev R(α:Type):=Except (Option Ex) α
abbrev un{α:Type}:R α:=.error none
def rO{α:Type}:Option α->R α
 |some a=>.ok a
 |none=>.error none
def Jl(K:P5)(Hd:Hp)(x:Ex)(C:Q4)(dx:Option Q4):Prop:=clsAt K x.c C/\∃ws,bh K Hd x.vs ws/\x.fs.length=ws.length/\(x.fs=[]\/∃d,dx=some d/\Hd d=some (.xd (x.fs.zip ws)))
theorem Jl.mono{K:P5}{H H':Hp}{x:Ex}{C:Q4}{dx:Option Q4}(h:Jl K H x C dx)(e:bE H H'):Jl K H' x C dx:=by
 obtain⟨h1,ws,h2,h3,h4⟩:=h;exact⟨h1,ws,h2.mono e,h3,h4.imp id λ⟨d,q1,q2⟩=>⟨d,q1,e _ _ q2⟩⟩
end TG
namespace TG
open PySem PySem.Spec L2
variable[aY]
open PyProof.Rows (AllBare)
theorem HP{P:Q3}{w:Q2}{H:Hp}{h:Q6}{a:Q4}{o:HO}(x:cS P w H h a o):∃u,h.get? a=some u:=by
 cases o with
 |lst xs=>obtain⟨_,_,_,_,e⟩:=x;exact⟨_,e⟩
 |tup xs=>obtain⟨_,_,_,o,e,_⟩:=x;exact⟨_,e⟩
 |dK kvs=>obtain⟨_,_,_,_,o,_,_,e,_⟩:=x;exact⟨_,e⟩
 |dT kvs=>obtain⟨_,_,_,_,o,_,_,e,_⟩:=x;exact⟨_,e⟩
 |set S n=>obtain⟨o,_,_,_,e,_⟩:=x;exact⟨_,e⟩
 |ins C dx fs=>obtain⟨_,_,_,e,_⟩:=x;exact⟨_,e⟩
 |own y=>exact x
 |xd fs=>obtain⟨_,⟨_,_,_,e,_⟩,_⟩:=x;exact⟨_,e⟩
 |rng lo hi=>obtain⟨_,_,_,e⟩:=x;exact⟨_,e⟩
 |frz ob u=>obtain⟨e,_⟩:=x;exact⟨_,e⟩
 |tbl ps=>exact⟨_,(show h.get? a=some _ from x)⟩
 |met f y=>exact⟨_,(show h.get? a=some _ from x)⟩
 |ext φ=>obtain⟨_,e,_⟩:=x;exact e
def rC(X:Cx)(H:Hp)(b:Q4):Prop:=((∃o,X.s₀.heap.get? b=some o)/\b∉X.ex)\/H b≠none\/(∃o,(b,o)∈X.pn)\/∃x,X.env.cells.lookup x=some b
def M1(B:Q6)(e:Q4)(cls a0:Q1)(h:Q6):Prop:=h.TracedW B e cls a0\/∃oe vs,h.get? e=some oe/\oe.cls=cls/\oe.data=.fields vs/\vs[1]?=some .none/\vs[0]?=some a0
def JK(X:Cx)(H:Hp)(s:Rf)(e C:Q4):Prop:=∃B a0,B.StaysIn s.heap/\B.get? e=none/\s.heap.FunFrames B X.stack/\M1 B e (.ref C) a0 s.heap/\∀b o,s.heap.get? b=some o->rC X H b->b∉frs X.stack->B.get? b=some o
def Nf(X:Cx)(H:Hp)(O:List Q4)(s:Rf)(u:Q1)(x:Ex):Prop:=∃e C dx,u=.ref e/\Jl X.K (hid H O) x C dx/\JK X H s e C
def oq(P:Q3)(w:Q2):BU:=λouter H s E u s'=>∃e C dx H' B a0,u=.ref e/\s'.os=s.os/\AllBare s'.gens/\Un (frs outer) [] H H' s.heap s'.heap/\o0 P w H' s'.heap/\Heap.FlyingW B outer e (.ref C) a0 s'.heap/\
 (∀b o,s'.heap.get? b=some o->((∃o',s.heap.get? b=some o')\/H' b≠none)->b∉frs outer->B.get? b=some o)/\E (.ref C) dx H'
def Mp(K:P5)(H:Hp)(O:List Q4)(x:Ex)(E:XK):Prop:=∀C dx H',bE H H'->Jl K (hid H' O) x C dx->E (.ref C) dx H'
def HX(X:Cx)(σ:St)(O:List Q4)(H:Hp)(x:Ex):Prop:=∀pins s u H',Inv X pins σ H' s->bE H H'->Nf X H' O s u x->X.xe u s
theorem HX.mono{X:Cx}{σ:St}{O:List Q4}{H H':Hp}{x:Ex}(h:HX X σ O H x)(s:bE H H'):HX X σ O H' x:=λpins st u H2 I s2 f=>h pins st u H2 I (s.trans s2) f
def Aq(X:Cx)(O:List Q4)(H:Hp)(x:Ex):XK:=λu dx H'=>∃C,u=.ref C/\bE H H'/\Jl X.K (hid H' O) x C dx
def mq(CX:BU)(X:Cx)(σ:St)(E:XK):Prop:=∀(pins:List (Q4×Obj))(H:Hp)(s:Rf)(e:Q1)(s':Rf),Inv X pins σ H s->CX X.stack H s E e s'->X.xe e s'
theorem Ae{X:Cx}{σ:St}{O:List Q4}{H:Hp}{x:Ex}(h:HX X σ O H x):mq (oq X.prog X.w) X σ (Aq X O H x):=by
 rintro pins H1 s u s' I ⟨e,C,dx,H',B,a0,rfl,os,bare,un,hok,⟨f1,f2,f3,f4⟩,kp,C',eC,sm,hd⟩;cases eC;have I':Inv X pins σ H' s':=I.call' os un hok bare (ch:=[]) λb z=>absurd z (by simp);refine h pins s' _ H' I' sm ⟨e,C,dx,rfl,hd,B,a0,f1,f2,f3,.inl f4,λb o eb hb nf=>kp b o eb ?_ nf⟩;rcases hb with⟨⟨o',hb⟩,nx⟩|hb|⟨o',hb⟩|⟨y,hb⟩
 ·exact .inl (I.base.there b o' hb nx)
 ·exact .inr hb
 ·exact .inl ⟨_,(I.pin _ (Nw _ hb)).1⟩
 ·obtain⟨v,o,q,_⟩:=I.cell y b hb;exact .inl ⟨o,q⟩
theorem Ao{X:Cx}{σ:St}:mq (oq X.prog X.w) X σ E0:=λ_ _ _ _ _ _ ⟨_,_,_,_,_,_,_,_,_,_,_,_,_,z⟩=>z.elim
theorem xV{X:Cx}{O:List Q4}{H:Hp}{x:Ex}:Mp X.K H O x (Aq X O H x):=λC dx H' s e=>⟨C,rfl,s,e⟩
section
variable{X:Cx}{pins:List (Q4×Obj)}{σ:St}{H:Hp}{s:Rf}{h':Q6}
theorem EK(I:Inv X pins σ H s)(k:∀b o,s.heap.get? b=some o->rC X H b->b∉frs X.stack->h'.get? b=some o):o0 X.prog X.w H h':=λa ob ea=>
 (I.hok a ob ea).stay (λb u hb q=>by
  have hn:H b≠none:=by
   rcases hb with e|e
   ·rw[e,ea];intro z;cases z
   ·rw[e];intro z;cases z
  exact k b u q (.inr (.inl hn)) λhf=>hn (I.stkFree b hf)) (λ_ q=>q) λ_ _ q=>q
theorem u6(I:Inv X pins σ H s)(us:s.heap.UpToSlots h'){b:Q4}{o:Obj}(hb:b∈frs X.stack)(e:s.heap.get? b=some o):∃sl,h'.get? b=some {o with slots:=sl}:=by
 obtain⟨_,o',e',nf⟩:=I.stack.mem hb;rw[e]at e';cases e';exact us b o e nf
theorem Gv(I:Inv X pins σ H s)(hx:X.ex=[])(hst:X.stack=X.env::X.outer)(hf:X.env.frame=some X.env.locals)(us:s.heap.UpToSlots h')(k:∀b o,s.heap.get? b=some o->rC X H b->b∉frs X.stack->h'.get? b=some o):
  Un (frs X.outer) [] X.H₀ H X.s₀.heap h':=by
 have U:=I.base;rw[hx]at U;have fr:frs X.stack=X.env.locals::frs X.outer:=by rw[hst];show List.filterMap _ (_::_)=_;rw[Nt,hf];rfl
 have nl:∀b o,X.s₀.heap.get? b=some o->b≠X.env.locals:=λb o q z=>by
  have h1:=Qy q;have h2:=I.ok.above;rw[z]at h1;exact Nn _ (Nm h1 h2)
 have nfr:∀b o,X.s₀.heap.get? b=some o->b∉frs X.outer->b∉frs X.stack:=λb o q nb z=>by
  rw[fr]at z;rcases List.mem_cons.mp z with z|z
  ·exact nl b o q z
  ·exact nb z
 refine⟨λb o q n nb _=>k b o (U.keep b o q n nb (by simp)) (.inl ⟨⟨o,q⟩,by rw[hx];simp⟩) (nfr b o q nb),λb o q n hb _=>?_,λb o q n _=>U.free b o q n (by simp),λb o q _=>?_,U.tups,U.frzs,U.tbls⟩
 ·obtain⟨sl,e⟩:=U.slot b o q n hb (by simp);obtain⟨sl',e'⟩:=u6 I us (by rw[fr];exact Nv _ hb) e;exact⟨sl',e'⟩
 ·obtain⟨o1,e1⟩:=U.there b o q (by simp);by_cases hb:b∈frs X.stack
  ·obtain⟨sl,e⟩:=u6 I us hb e1;exact⟨_,e⟩
  ·exact⟨o1,k b o1 e1 (.inl ⟨⟨o,q⟩,by rw[hx];simp⟩) hb⟩
end
theorem C6{P:Q3}{w:Q2}{K:P5}{mg:Str->Option Q1}{base:Q6}{N:List Str}{qual:Str}{scope:Rg}{f:Q4}{cd:Q1}{A:Rc}{outer:List Env}{s:Rf}{H:Hp}{E:XK}{σ:St}{O O':List Q4}{H':Hp}{x:Ex}
  (hx:Mp K H O x E) (sm:bE H H') (hs:∀a∈O,a∈O'):HX (kO (oq P w) P w K mg base N qual scope f cd A outer s H E) σ O' H' x:=by
 rintro pins s1 u H1 I s2 ⟨e,C,dx,rfl,hd,B,a0,b1,b2,b3,b4,b5⟩;have fin:∀h',Heap.FlyingW B outer e (.ref C) a0 h'->s1.heap.UpToSlots h'->oq P w outer H s E (.ref e) {s1 with heap:=h'}:=λh' fl us=>by
  have k:∀b o,s1.heap.get? b=some o->rC (kO (oq P w) P w K mg base N qual scope f cd A outer s H E) H1 b->b∉frs (kO (oq P w) P w K mg base N qual scope f cd A outer s H E).stack->h'.get? b=some o:=λb o q kb nf=>fl.1 b o (b5 b o q kb nf);have un:=Gv I rfl rfl rfl us k;have hok:=EK I k;refine⟨e,C,dx,H1,B,a0,rfl,I.os,I.bare,un,hok,fl,λb o q hb nf=>?_,hx C dx H1 (sm.trans s2) (hd.mono (js hs))⟩;have nf2:b∉frs (kO (oq P w) P w K mg base N qual scope f cd A outer s H E).stack:=λz=>by
   rcases List.mem_cons.mp (show b∈s.heap.objs.size::frs outer from z)with z|z
   ·rcases hb with hb|hb
    ·obtain⟨o',hb⟩:=hb
     have:=Qy hb
     rw[z]at this;exact Nn _ this
    ·rw[z]at hb;exact hb I.free
   ·exact nf z
  have kb:rC (kO (oq P w) P w K mg base N qual scope f cd A outer s H E) H1 b:=hb.elim (λz=>.inl ⟨z,λy=>nomatch y⟩) λz=>.inr (.inl z);obtain⟨o1,e1⟩:∃o1,s1.heap.get? b=some o1:=by
   rcases hb with⟨o',hb⟩|hb
   ·exact I.base.there b o' hb (λz=>nomatch z)
   ·cases q0:H1 b with
    |none=>exact absurd q0 hb
    |some ob=>exact HP (I.hok b ob q0)
  have:=k b o1 e1 kb nf2
  rw[q]at this;cases this;exact b5 b _ e1 kb nf2
 show Rh _ _ (leaving (QL qual scope s.heap.objs.size f cd) (.ref e)) _ _ s1;rcases b4 with b4|⟨oe,vs,c1,c2,c3,c4,c5⟩
 ·exact wpAny_leaves_onW I.ok.frames rfl ⟨b1,b2,b3,b4⟩ fin
 ·refine wpAny_leaving_firstW I.ok.frames b3 rfl c1 b1 b2 c3 c4 c5 λh' hL=>?_;obtain⟨k1,⟨_,_,k2⟩,k3,k4⟩:=hL;exact fin h' ⟨k1,b2,k2,c2 ▸ k3⟩ k4
end TG
namespace TG
open PySem PySem.Spec L2
variable[aY]
def jj(X:Cx)(σ:St)(O:List Q4)(H:Hp){α:Type}(r:R α)(Q:α->Prop):Prop:=match r with
 |.ok a=>Q a
 |.error (some x)=>HX X σ O H x
 |.error none=>False
section
variable{X:Cx}{σ:St}{O:List Q4}{H H':Hp}{α β:Type}
theorem jj.bind{r:R α}{G:α->R β}{Q:β->Prop}(h:jj X σ O H (r.bind G) Q):jj X σ O H r λa=>jj X σ O H (G a) Q:=by
 match r,h with
 |.ok a,h=>exact h
 |.error (some x),h=>exact h
 |.error none,h=>exact h
theorem jj.imp{r:R α}{Q Q':α->Prop}(h:jj X σ O H r Q)(f:∀a,Q a->Q' a):jj X σ O H r Q':=by
 match r,h with
 |.ok a,h=>exact f a h
 |.error (some x),h=>exact h
 |.error none,h=>exact h
theorem jj.mono{r:R α}{Q:α->Prop}(h:jj X σ O H r Q)(s:bE H H'):jj X σ O H' r Q:=by
 match r,h with
 |.ok a,h=>exact h
 |.error (some x),h=>exact HX.mono h s
 |.error none,h=>exact h
theorem jj.rO{o:Option α}{Q:α->Prop}(h:jj X σ O H (rO o) Q):∃a,o=some a/\Q a:=by
 match o,h with
 |some a,h=>exact⟨a,rfl,h⟩
 |none,h=>exact h.elim
end
abbrev FX:=aw->R D
def tF(X:Cx)(F:FX):TE:=λσ H Q=>∃O ρ,eE X.K O H ρ σ/\jj X σ O H (F ρ) λd=>∀v H',bE H H'->cY X.K (hid H' O) d v->Q v H'
def Ki(X:Cx)(F:aw->R Bool):TT:=λσ H Q=>∃O ρ,eE X.K O H ρ σ/\jj X σ O H (F ρ) λb=>∀H',bE H H'->Q b H'
def LY(X:Cx)(F:aw->R (List D)):TA:=λσ H Q=>∃O ρ,eE X.K O H ρ σ/\jj X σ O H (F ρ) λds=>∀vs H',bE H H'->bh X.K (hid H' O) ds vs->Q vs H'
def FE(X:Cx)(e:Ri)(F:FX):Prop:=PE X e (tF X F)
def FT(X:Cx)(e:Ri)(F:aw->R Bool):Prop:=PT X e (Ki X F)
def FW(X:Cx)(e:Ri)(F:aw->R Bool):Prop:=PW X e (Ki X F)
def FA(X:Cx)(es:List Ri)(F:aw->R (List D)):Prop:=PA X es (LY X F)
theorem PE.weak{X:Cx}{e:Ri}{t t':TE}(h:PE X e t)(w:∀σ H Q,t' σ H Q->t σ H Q):PE X e t':=λpins s σ H Q I q=>h pins s σ H Q I (w σ H Q q)
theorem PT.weak{X:Cx}{e:Ri}{t t':TT}(h:PT X e t)(w:∀σ H Q,t' σ H Q->t σ H Q):PT X e t':=λpins s σ H Q I q=>h pins s σ H Q I (w σ H Q q)
theorem PW.weak{X:Cx}{e:Ri}{t t':TT}(h:PW X e t)(w:∀σ H Q,t' σ H Q->t σ H Q):PW X e t':=λwhole pins s σ H Q I q=>h whole pins s σ H Q I (w σ H Q q)
theorem PA.weak{X:Cx}{es:List Ri}{t t':TA}(h:PA X es t)(w:∀σ H Q,t' σ H Q->t σ H Q):PA X es t':=λpos pins s σ H Q I q=>h pos pins s σ H Q I (w σ H Q q)
theorem PS.weak{X:Cx}{st:Rl}{t t':TS}(h:PS X st t)(w:∀D σ H,t' D σ H->t D σ H):PS X st t':=λpins s σ H Q I q=>h pins s σ H Q I (w Q σ H q)
theorem BR.weak{X:Cx}{st:List Rl}{t t':TS}(h:BR X st t)(w:∀D σ H,t' D σ H->t D σ H):BR X st t':=λpins s σ H Q I q=>h pins s σ H Q I (w Q σ H q)
def rG(ρ:aw)(i:Nat):R D:=match ρ[i]? with
 |some (some (.val d))=>.ok d
 |_=>un
theorem E8{ρ:aw}{i:Nat}{d:D}(h:rG ρ i=.ok d):ρ[i]?=some (some (.val d)):=by
 unfold rG at h;split at h
 ·rename_i e;cases h;exact e
 ·cases h
def ai(i:Nat):FX:=λρ=>rG ρ i
def fC(d:D):FX:=λ_=>.ok d
section
variable{X:Cx}
theorem uD{σ:St}{O:List Q4}{H:Hp}{ρ:aw}{i:Nat}{Q:D->Prop}(h:jj X σ O H (rG ρ i) Q):∃d,ρ[i]?=some (some (.val d))/\Q d:=by
 cases e:rG ρ i with
 |ok d=>rw[e]at h;exact⟨d,E8 e,h⟩
 |error z=>
  rw[e]at h;cases z with
  |none=>exact h.elim
  |some x=>
   exfalso;unfold rG at e;split at e
   ·cases e
   ·have:=Except.error.inj e;cases this
theorem LW{i:Nat}{x:Str}{pos:Pos}(h:PE X (.Name x pos) (xI i)):FE X (.Name x pos) (ai i):=
 PE.weak h λσ H Q ⟨O,ρ,E,hF⟩=>by
  obtain⟨d,e,q⟩:=uD hF;obtain⟨v,e,dv⟩:=E.val i d e;exact⟨v,e,q v H (bE.refl H) dv⟩
theorem mr{e:Ri}{d:D}{v:V}(h:PE X e (tC v))(hd:∀K H,cY K H d v):FE X e (fC d):=
 PE.weak h λσ H Q ⟨O,ρ,E,q⟩=>q v H (bE.refl H) (hd _ _)
theorem Ma{i j pos}:FE X (.Constant (.int i) j pos) (fC (.int i)):=mr Di λ_ _=>fK.mpr rfl
theorem MF{b j pos}:FE X (.Constant (.bool b) j pos) (fC (.bl b)):=mr Iz λ_ _=>kG.mpr rfl
theorem Lv{j pos}:FE X (.Constant .none j pos) (fC .non):=mr GW λ_ _=>kK.mpr rfl
theorem Lp{x j pos}:FE X (.Constant (.str x) j pos) (fC (.str x)):=mr HS λ_ _=>fM.mpr rfl
def noStar:Ri->Bool
 |.Starred _ _=>false
 |_=>true
theorem fH{e:Ri}{es:List Ri}{env:Env}(h:noStar e=true):Rj (e::es) env=(false,eval e env)::Rj es env:=by
 cases e<;>first|rfl|cases h
theorem jv{pos:Pos}{env:Env}:∀{es:List Ri},es.all noStar=true->(backTo pos (Rj es env)).any (·.1)=false
 |[],_=>rfl
 |e::es,h=>by
  rw[Om,NZ]at h;rw[fH h.1];exact jv h.2
def av:aw->R (List D):=λ_=>.ok []
def af(f:FX)(g:aw->R (List D)):aw->R (List D):=λρ=>(f ρ).bind λx=>(g ρ).bind λxs=>.ok (x::xs)
theorem GX:FA X [] av:=PA.weak qd λσ H Q ⟨O,ρ,E,q⟩=>q [] H (bE.refl H) (df.mpr rfl)
theorem bind_some{α β:Type}{o:Option α}{f:α->Option β}{b:β}(h:o.bind f=some b):∃a,o=some a/\f a=some b:=by
 cases o with
 |none=>cases h
 |some a=>exact⟨a,rfl,h⟩
theorem qY{ε α β:Type}{o:Except ε α}{f:α->Except ε β}{b:β}(h:o.bind f=.ok b):∃a,o=.ok a/\f a=.ok b:=by
 cases o with
 |error _=>cases h
 |ok a=>exact⟨a,rfl,h⟩
theorem E9{e:Ri}{es:List Ri}{f:FX}{g:aw->R (List D)}(he:FE X e f)(hs:FA X es g)(hns:noStar e=true:=by rfl):FA X (e::es) (af f g):=
 PA.weak (nc he hs (fH hns)) λσ H Q ⟨O,ρ,E,h⟩=>
  ⟨O,ρ,E,(jj.bind h).imp λx h v H1 s1 d1=>⟨O,ρ,E.same s1,((jj.bind h).mono s1).imp λxs q vs H2 s2 d2=>q (v::vs) H2 (s1.trans s2) (bH.mpr ⟨v,vs,rfl,d1.mono (cI s2),d2⟩)⟩⟩
def small(n:Nat):Bool:=decide (n<=100000)
theorem eW{n:Nat}(h:small n=true):n<=Q7:=Nq (of_decide_eq_true h) (by decide)
theorem dZ{n:Nat}(h:n<=100000):small n=true:=decide_eq_true h
def u9(xs:List D):Option D:=if small xs.length then some (.tup xs)else none
def lJ(xs:List D):Option D:=if small xs.length then some (.lst xs)else none
def bF(g:aw->R (List D)):FX:=λρ=>(g ρ).bind λxs=>rO (u9 xs)
def ie(g:aw->R (List D)):FX:=λρ=>(g ρ).bind λxs=>rO (lJ xs)
theorem cn{α:Type}{c:Bool}{a b:α}(h:(if c then some a else none)=some b):c=true/\a=b:=by
 cases c with
 |true=>exact⟨rfl,Option.some.inj h⟩
 |false=>cases h
theorem fV{K:P5}{H:Hp}{O:List Q4}{p:Q4}{ds:List D}{vs:List V}(hO:eA H O)(hp:H p=none)(d:bh K (hid H O) ds vs):cY K (hid (upd H p (.tup vs)) O) (.tup ds) (.ref p):=
 cV.mpr ⟨p,vs,rfl,by rw[jU (hO.not hp),aZ],d.mono (vt hp)⟩
theorem dG{K:P5}{H:Hp}{O:List Q4}{p:Q4}{ds:List D}{vs:List V}(hO:eA H O)(hp:H p=none)(d:bh K (hid H O) ds vs):cY K (hid (upd H p (.lst vs)) O) (.lst ds) (.ref p):=
 cT.mpr ⟨p,vs,rfl,ot.of (by rw[jU (hO.not hp),aZ]),d.mono (vt hp)⟩
theorem Le{es:List Ri}{g:aw->R (List D)}{k pos}(h:FA X es g):FE X (.Tuple es k pos) (bF g):=
 PE.weak (G2 h) λσ H Q ⟨O,ρ,E,hF⟩=>⟨O,ρ,E,(jj.bind hF).imp λxs hF vs H1 s1 d1=>by
  obtain⟨d,e,q⟩:=jj.rO hF;obtain⟨hz,e⟩:=cn e;subst e;refine⟨by rw[<-d1.length];exact eW hz,λp hp=>?_⟩;exact q _ _ (s1.trans (cm hp _)) (fV (E.all.same s1) hp d1)⟩
theorem L1{es:List Ri}{g:aw->R (List D)}{pos}(h:FA X es g):FE X (.List es pos) (ie g):=
 PE.weak (sU h) λσ H Q ⟨O,ρ,E,hF⟩=>⟨O,ρ,E,(jj.bind hF).imp λxs hF vs H1 s1 d1=>by
  obtain⟨d,e,q⟩:=jj.rO hF;obtain⟨hz,e⟩:=cn e;subst e;refine⟨by rw[<-d1.length];exact eW hz,λp hp=>?_⟩;exact q _ _ (s1.trans (cm hp _)) (dG (E.all.same s1) hp d1)⟩
def Ed(K:P5)(r:V->Hp->VK->Prop)(g:D->Option D):Prop:=
 ∀(a d:D)(x:V)(O:List Q4)(H:Hp)(Q:VK),eA H O->g a=some d->cY K (hid H O) a x->(∀v H',bE H H'->cY K (hid H' O) d v->Q v H')->r x H Q
def f1(g:D->Option D)(f:FX):FX:=λρ=>(f ρ).bind λa=>rO (g a)
def eF(K:P5)(r:R2)(g:D->D->Option D):Prop:=
 ∀(a b d:D)(x y:V)(O:List Q4)(H:Hp)(Q:VK),eA H O->g a b=some d->cY K (hid H O) a x->cY K (hid H O) b y->(∀v H',bE H H'->cY K (hid H' O) d v->Q v H')->r x y H Q
def f2(g:D->D->Option D)(f1 f2:FX):FX:=λρ=>(f1 ρ).bind λa=>(f2 ρ).bind λb=>rO (g a b)
theorem vK{r:R2}{g:D->D->Option D}{fa fb:FX}(s:eF X.K r g):∀σ H Q,tF X (f2 g fa fb) σ H Q->JM r (tF X fa) (tF X fb) σ H Q:=λσ H Q ⟨O,ρ,E,hF⟩=>
 ⟨O,ρ,E,(jj.bind hF).imp fun a hF x H1 s1 d1=>⟨O,ρ,E.same s1,((jj.bind hF).mono s1).imp fun b hF y H2 s2 d2=>by
  obtain⟨d,e,q⟩:=jj.rO hF;exact s a b d x y O H2 Q (E.all.same (s1.trans s2)) e (d1.mono (cI s2)) d2 λv H3 s3 d3=>q v H3 ((s1.trans s2).trans s3) d3⟩⟩
theorem K5{a b:Ri}{op:Operator}{r:R2}{g:D->D->Option D}{fa fb:FX}{pos:Pos}(ho:lL X (Ry op) r)(s:eF X.K r g)(ha:FE X a fa)(hb:FE X b fb):FE X (.BinOp a op b pos) (f2 g fa fb):=
 PE.weak (IA ho ha hb) (vK s)
theorem Mz{a b:Ri}{op:CmpOp}{r:R2}{g:D->D->Option D}{fa fb:FX}{pos:Pos}(ho:lL X (Rz op) r)(s:eF X.K r g)(ha:FE X a fa)(hb:FE X b fb)(hm:RA op b=false):FE X (.Compare a [op] [b] pos) (f2 g fa fb):=
 PE.weak (EA ho ha hb hm) (vK s)
def KN:D->Option Bool
 |.bl b=>some b
 |_=>none
def fB(f:FX):aw->R Bool:=λρ=>(f ρ).bind λd=>rO (KN d)
theorem DE{t:TE}{f:FX}(h:∀σ H Q,tF X f σ H Q->t σ H Q):∀σ H Q,Ki X (fB f) σ H Q->FJ t σ H Q:=λσ H Q ⟨O,ρ,E,hF⟩=>
 h σ H _ ⟨O,ρ,E,(jj.bind hF).imp λd hF v H1 s1 d1=>by
  obtain⟨b,e,q⟩:=jj.rO hF;cases d with
  |bl b'=>
   cases e;exact⟨b,kG.mp d1,q H1 s1⟩
  |_=>cases e⟩
theorem Lw{a b:Ri}{op:CmpOp}{r:R2}{g:D->D->Option D}{fa fb:FX}{pos:Pos}(ho:lL X (Rz op) r)(s:eF X.K r g)(ha:FE X a fa)(hb:FE X b fb)(hm:RA op b=false):FT X (.Compare a [op] [b] pos) (fB (f2 g fa fb)):=
 PT.weak (Ez ho ha hb hm) (DE (vK s))
def zM(K:P5)(r:List V->Hp->VK->Prop)(g:List D->Option D):Prop:=
 ∀(ds:List D)(d:D)(xs:List V)(O:List Q4)(H:Hp)(Q:VK),eA H O->g ds=some d->bh K (hid H O) ds xs->(∀v H',bE H H'->cY K (hid H' O) d v->Q v H')->r xs H Q
def fL(g:List D->Option D)(f:aw->R (List D)):FX:=λρ=>(f ρ).bind λds=>rO (g ds)
def fR(g:List D->R D)(f:aw->R (List D)):FX:=λρ=>(f ρ).bind g
theorem Cm{r:List V->Hp->VK->Prop}{g:List D->Option D}{f:aw->R (List D)}(s:zM X.K r g):∀σ H Q,tF X (fL g f) σ H Q->Mj r (LY X f) σ H Q:=λσ H Q ⟨O,ρ,E,hF⟩=>
 ⟨O,ρ,E,(jj.bind hF).imp fun ds hF vs H1 s1 d1=>by
  obtain⟨d,e,q⟩:=jj.rO hF;exact s ds d vs O H1 Q (E.all.same s1) e d1 λv H2 s2 d2=>q v H2 (s1.trans s2) d2⟩
def sN(f:aw->R Bool):aw->R Bool:=λρ=>(f ρ).bind λb=>.ok (!b)
def K9(f g:aw->R Bool):aw->R Bool:=λρ=>(f ρ).bind λb=>if b then g ρ else .ok false
def BV(f g:aw->R Bool):aw->R Bool:=λρ=>(f ρ).bind λb=>if b then .ok true else g ρ
variable{a b c:Ri}{rest:List Ri}{pos:Pos}{f g:aw->R Bool}
theorem KW(h:FT X a f):FT X (.UnaryOp .Not a pos) (sN f):=PT.weak (Hw h) λσ H Q ⟨O,ρ,E,hF⟩=>⟨O,ρ,E,(jj.bind hF).imp λb q H1 s1=>q H1 s1⟩
theorem Lg(h:FT X a f):FW X (.BoolOp .Or [a] pos) f:=GY h
theorem MB(ha:FT X a f)(hb:FW X (.BoolOp .Or (b::rest) pos) g):FW X (.BoolOp .Or (a::b::rest) pos) (BV f g):=PW.weak (Je ha hb) λσ H Q ⟨O,ρ,E,hF⟩=>⟨O,ρ,E,(jj.bind hF).imp λc hF H1 s1=>by
 cases c with
 |false=>exact Ce ⟨O,ρ,E.same s1,(hF.mono s1).imp λb q H2 s2=>q H2 (s1.trans s2)⟩
 |true=>exact Dc (hF H1 s1)⟩
theorem FW.ft{e:Ri}(h:FW X e f):FT X e f:=PW.pt h
def truth:D->Option Bool
 |.non=>some false
 |.bl b=>some b
 |.int i=>some (i !=0)
 |.str x=>if small x.length then some (x.length !=0)else none
 |.tup xs=>some (!xs.isEmpty)
 |.lst xs=>some (!xs.isEmpty)
 |_=>none
def eS(f:FX):aw->R Bool:=λρ=>(f ρ).bind λd=>rO (truth d)
def yF(d:D)(k:R D):R D:=match d with
 |.bl true=>k
 |.bl false=>.ok (.bl false)
 |_=>un
def II(d:D)(k:R D):R D:=match d with
 |.bl false=>k
 |.bl true=>.ok (.bl true)
 |_=>un
def xP:D->Option D
 |.bl b=>some (.bl (!b))
 |_=>none
def qA(f g:FX):FX:=λρ=>(f ρ).bind λd=>yF d (g ρ)
def Lb(f g:FX):FX:=λρ=>(f ρ).bind λd=>II d (g ρ)
def J1(f:FX):FX:=f1 xP f
variable{fa fb:FX}
theorem My{op}(h:FE X a fa):FE X (.BoolOp op [a] pos) fa:=He h
theorem Mw(ha:FE X a fa)(hb:FE X (.BoolOp .And (b::rest) pos) fb):FE X (.BoolOp .And (a::b::rest) pos) (qA fa fb):=PE.weak (Hi ha hb) λσ H Q ⟨O,ρ,E,hF⟩=>⟨O,ρ,E,(jj.bind hF).imp λd hF x H1 s1 d1=>by
 cases d with
 |bl c=>
  refine⟨c,kG.mp d1,?_⟩;cases c with
  |true=>exact Dc ⟨O,ρ,E.same s1,(hF.mono s1).imp λd q v H2 s2 d2=>q v H2 (s1.trans s2) d2⟩
  |false=>exact Ce (hF _ H1 s1 (kG.mpr rfl))
 |_=>exact hF.elim⟩
def IX(t:aw->R Bool)(f g:FX):FX:=λρ=>(t ρ).bind λc=>if c then f ρ else g ρ
theorem MC(hc:FT X c f)(ha:FE X a fa)(hb:FE X b fb):FE X (.IfExp c a b pos) (IX f fa fb):=PE.weak (Ct hc ha hb) λσ H Q ⟨O,ρ,E,hF⟩=>⟨O,ρ,E,(jj.bind hF).imp λd hF H1 s1=>by
 cases d with
 |true=>exact Dc ⟨O,ρ,E.same s1,(hF.mono s1).imp λd q v H2 s2 d2=>q v H2 (s1.trans s2) d2⟩
 |false=>exact Ce ⟨O,ρ,E.same s1,(hF.mono s1).imp λd q v H2 s2 d2=>q v H2 (s1.trans s2) d2⟩⟩
end
end TG
namespace TG
open PySem PySem.Spec L2
variable[aY]
open PySem.SeqAt (EqAt RcAt RcNeAt)
mutual
def pyEq:D->D->Bool
 |.non,.non=>true
 |.bl a,.bl b=>a==b
 |.bl a,.int b=>(if a then 1 else 0)==b
 |.int a,.bl b=>a==(if b then 1 else 0)
 |.int a,.int b=>a==b
 |.str a,.str b=>a==b
 |.tup xs,.tup ys=>fu xs ys
 |.lst xs,.lst ys=>fu xs ys
 |.dct _ _,.dct _ _=>true
 |.obj _ _ _,.obj _ _ _=>true
 |.exc _ _ _,.exc _ _ _=>true
 |_,_=>false
def fu:List D->List D->Bool
 |[],[]=>true
 |x::xs,y::ys=>pyEq x y&&fu xs ys
 |_,_=>false
end
mutual
theorem pC:∀d:D,pyEq d d=true
 |.non=>by unfold pyEq;rfl
 |.bl b=>by unfold pyEq;simp
 |.int i=>by unfold pyEq;simp
 |.str x=>by unfold pyEq;simp
 |.tup xs=>by unfold pyEq;exact om xs
 |.lst xs=>by unfold pyEq;exact om xs
 |.dct _ _=>by unfold pyEq;rfl
 |.obj _ _ _=>by unfold pyEq;rfl
 |.exc _ _ _=>by unfold pyEq;rfl
theorem om:∀ds:List D,fu ds ds=true
 |[]=>by unfold fu;rfl
 |d::ds=>by unfold fu;rw[pC d,om ds];rfl
end
def zt(xs ys:List D)(j:Nat):Bool:=match xs[j]?,ys[j]? with
 |some a,some b=>pyEq a b
 |_,_=>false
theorem ia:∀xs ys:List D,((List.range (min xs.length ys.length)).all (zt xs ys)&&xs.length==ys.length)=fu xs ys
 |[],[]=>by unfold fu;rfl
 |[],_::_=>by unfold fu;simp
 |_::_,[]=>by unfold fu;simp
 |x::xs,y::ys=>by
  have ih:=ia xs ys
  conv=>rhs;unfold fu
  rw[<-ih];have e:min (x::xs).length (y::ys).length=min xs.length ys.length+1:=by simp only[N6];omega
  rw[e,Oo,Om,List.all_map];have e2:((x::xs).length==(y::ys).length)=(xs.length==ys.length):=by simp
  rw[e2,Bool.and_assoc];have e3:(List.range (min xs.length ys.length)).all (zt (x::xs) (y::ys)∘Nat.succ)=(List.range (min xs.length ys.length)).all (zt xs ys):=by
   congr 1
  rw[e3];rfl
mutual
def pl:D->Bool
 |.tup xs=>ow xs
 |.lst xs=>ow xs
 |.dct _ _=>false
 |.obj _ _ _=>false
 |.exc _ _ _=>false
 |_=>true
def ow:List D->Bool
 |[]=>true
 |x::xs=>pl x&&ow xs
end
theorem gP{ks vs:List D}(h:pl (.dct ks vs)=true):False:=by unfold pl at h;cases h
theorem ic{c:Str}{fs:List Str}{vs:List D}(h:pl (.obj c fs vs)=true):False:=by unfold pl at h;cases h
theorem gU{c:Str}{fs:List Str}{vs:List D}(h:pl (.exc c fs vs)=true):False:=by unfold pl at h;cases h
theorem m9:∀{xs:List D},ow xs=true->∀x∈xs,pl x=true
 |[],_,_,h=>nomatch h
 |x::xs,h,y,hy=>by
  unfold ow at h;rw[NZ]at h;rcases List.mem_cons.mp hy with z|z
  ·rw[z];exact h.1
  ·exact m9 h.2 y z
theorem CQ:∀{xs:List D},(∀x∈xs,pl x=true)->ow xs=true
 |[],_=>by unfold ow;rfl
 |x::xs,h=>by
  unfold ow;rw[NZ];exact⟨h x Nu,CQ λy hy=>h y (Nv _ hy)⟩
theorem dP{xs:List D}:pl (.tup xs)=ow xs:=by rw[pl]
theorem eI{xs:List D}:pl (.lst xs)=ow xs:=by rw[pl]
def fA:Nat->D->Bool
 |n+1,.tup xs=>xs.all (fA n)
 |n+1,.lst xs=>xs.all (fA n)
 |0,.tup _=>false
 |0,.lst _=>false
 |_,.dct _ _=>false
 |_,.obj _ _ _=>false
 |_,.exc _ _ _=>false
 |_,_=>true
section
variable{X:Cx}{pins:List (Q4×Obj)}{σ:St}{H:Hp}{s:Rf}
theorem Inv.not_both(I:Inv X pins σ H s){a:Q4}{xs ys:List V}(h:p8 X.K H a xs)(h':ot X.K H a ys):False:=by
 obtain⟨its,_,ht,_⟩:=I.tuple h;obtain⟨its2,_,hl,_⟩:=I.list h';exact absurd rfl (SeqAt.ne_of_list_tuple hl.isList (show s.heap.IsTuple a its.toArray from ht))
mutual
theorem Inv.den_inj(I:Inv X pins σ H s):∀{a b:D}{v:V},pl a=true->pl b=true->cY X.K H a v->cY X.K H b v->a=b
 |.non,b,v,pa,pb,h,h'=>by
  rw[kK]at h;subst h;cases b with
  |non=>rfl
  |bl _=>rw[kG]at h';cases h'
  |int _=>rw[fK]at h';cases h'
  |str _=>rw[fM]at h';cases h'
  |tup _=>rw[cV]at h';obtain⟨_,_,e,_⟩:=h';cases e
  |lst _=>rw[cT]at h';obtain⟨_,_,e,_⟩:=h';cases e
  |dct _ _=>exact(gP pb).elim
  |obj _ _ _=>exact(ic pb).elim
  |exc _ _ _=>exact(gU pb).elim
 |.bl x,b,v,pa,pb,h,h'=>by
  rw[kG]at h;subst h;cases b with
  |non=>rw[kK]at h';cases h'
  |bl _=>rw[kG]at h';cases h';rfl
  |int _=>rw[fK]at h';cases h'
  |str _=>rw[fM]at h';cases h'
  |tup _=>rw[cV]at h';obtain⟨_,_,e,_⟩:=h';cases e
  |lst _=>rw[cT]at h';obtain⟨_,_,e,_⟩:=h';cases e
  |dct _ _=>exact(gP pb).elim
  |obj _ _ _=>exact(ic pb).elim
  |exc _ _ _=>exact(gU pb).elim
 |.int x,b,v,pa,pb,h,h'=>by
  rw[fK]at h;subst h;cases b with
  |non=>rw[kK]at h';cases h'
  |bl _=>rw[kG]at h';cases h'
  |int _=>rw[fK]at h';cases h';rfl
  |str _=>rw[fM]at h';cases h'
  |tup _=>rw[cV]at h';obtain⟨_,_,e,_⟩:=h';cases e
  |lst _=>rw[cT]at h';obtain⟨_,_,e,_⟩:=h';cases e
  |dct _ _=>exact(gP pb).elim
  |obj _ _ _=>exact(ic pb).elim
  |exc _ _ _=>exact(gU pb).elim
 |.str x,b,v,pa,pb,h,h'=>by
  rw[fM]at h;subst h;cases b with
  |non=>rw[kK]at h';cases h'
  |bl _=>rw[kG]at h';cases h'
  |int _=>rw[fK]at h';cases h'
  |str _=>rw[fM]at h';cases h';rfl
  |tup _=>rw[cV]at h';obtain⟨_,_,e,_⟩:=h';cases e
  |lst _=>rw[cT]at h';obtain⟨_,_,e,_⟩:=h';cases e
  |dct _ _=>exact(gP pb).elim
  |obj _ _ _=>exact(ic pb).elim
  |exc _ _ _=>exact(gU pb).elim
 |.tup xs,b,v,pa,pb,h,h'=>by
  rw[cV]at h;obtain⟨a,vs,e,h1,h2⟩:=h;subst e;cases b with
  |non=>rw[kK]at h';cases h'
  |bl _=>rw[kG]at h';cases h'
  |int _=>rw[fK]at h';cases h'
  |str _=>rw[fM]at h';cases h'
  |tup ys=>
   rw[cV]at h';obtain⟨a',vs',e,h1',h2'⟩:=h';cases e;have ev:=I.tuple_inj (p8.of h1) (p8.of h1');subst ev;rw[Inv.denL_inj I (by first|rw[<-dP];exact pa|rw[<-eI];exact pa) (by first|rw[<-dP];exact pb|rw[<-eI];exact pb) h2 h2']
  |lst _=>rw[cT]at h';obtain⟨_,_,e,h1',_⟩:=h';cases e;exact(Inv.not_both I (p8.of h1) h1').elim
  |dct _ _=>exact(gP pb).elim
  |obj _ _ _=>exact(ic pb).elim
  |exc _ _ _=>exact(gU pb).elim
 |.lst xs,b,v,pa,pb,h,h'=>by
  rw[cT]at h;obtain⟨a,vs,e,h1,h2⟩:=h;subst e;cases b with
  |non=>rw[kK]at h';cases h'
  |bl _=>rw[kG]at h';cases h'
  |int _=>rw[fK]at h';cases h'
  |str _=>rw[fM]at h';cases h'
  |lst ys=>
   rw[cT]at h';obtain⟨a',vs',e,h1',h2'⟩:=h';cases e;have ev:=I.list_inj h1 h1';subst ev;rw[Inv.denL_inj I (by first|rw[<-dP];exact pa|rw[<-eI];exact pa) (by first|rw[<-dP];exact pb|rw[<-eI];exact pb) h2 h2']
  |tup _=>rw[cV]at h';obtain⟨_,_,e,h1',_⟩:=h';cases e;exact(Inv.not_both I (p8.of h1') h1).elim
  |dct _ _=>exact(gP pb).elim
  |obj _ _ _=>exact(ic pb).elim
  |exc _ _ _=>exact(gU pb).elim
 |.dct _ _,_,_,pa,_,_,_=>(gP pa).elim
 |.obj _ _ _,_,_,pa,_,_,_=>(ic pa).elim
 |.exc _ _ _,_,_,pa,_,_,_=>(gU pa).elim
theorem Inv.denL_inj(I:Inv X pins σ H s):∀{as bs:List D}{vs:List V},ow as=true->ow bs=true->bh X.K H as vs->bh X.K H bs vs->as=bs
 |[],bs,vs,pa,pb,h,h'=>by
  rw[df]at h;subst h;cases bs with
  |nil=>rfl
  |cons b bs=>rw[bH]at h';obtain⟨_,_,e,_⟩:=h';cases e
 |a::as,bs,vs,pa,pb,h,h'=>by
  rw[bH]at h;obtain⟨v,r,e,h1,h2⟩:=h;subst e;cases bs with
  |nil=>rw[df]at h';cases h'
  |cons b bs=>
   rw[bH]at h';obtain⟨v',r',e,h1',h2'⟩:=h';cases e;unfold ow at pa pb;rw[NZ]at pa pb;rw[Inv.den_inj I pa.1 pb.1 h1 h1',Inv.denL_inj I pa.2 pb.2 h2 h2']
end
def nU:D->Option V
 |.non=>some .non
 |.bl b=>some (.bl b)
 |.int i=>some (.int i)
 |.str x=>some (.str x)
 |_=>none
theorem qm{K:P5}{d:D}{v x:V}(h:nU d=some x)(hd:cY K H d v):v=x/\Dh x=true:=by
 cases d with
 |non=>cases h;exact⟨kK.mp hd,rfl⟩
 |bl b=>cases h;exact⟨kG.mp hd,rfl⟩
 |int i=>cases h;exact⟨fK.mp hd,rfl⟩
 |str y=>cases h;exact⟨fM.mp hd,rfl⟩
 |_=>cases h
theorem Fv{a b:D}{x y:V}(ha:nU a=some x)(hb:nU b=some y):La x y=pyEq a b:=by
 cases a<;>cases ha<;>cases b<;>cases hb<;>(unfold pyEq La;rfl)
theorem xN{a:D}{x:V}(n:Nat)(h:nU a=some x):fA n a=true:=by
 cases a with
 |tup _=>cases h
 |lst _=>cases h
 |dct _ _=>cases h
 |obj _ _ _=>cases h
 |exc _ _ _=>cases h
 |_=>cases n<;>rfl
theorem ye{a:D}(h:nU a=none):fA 0 a=false:=by
 cases a with
 |tup _=>rfl
 |lst _=>rfl
 |dct _ _=>rfl
 |obj _ _ _=>rfl
 |exc _ _ _=>rfl
 |_=>cases h
theorem in1_units(A:Rc):A.in1.units=A.units+1:=rfl
theorem oF{vs:List V}{us:List Q1}(r:Vals vs us){j:Nat}(h:j<us.toArray.size):∃x,vs[j]?=some x/\RelV x us.toArray[j]:=by
 have hj:j<us.length:=by simpa using h
 have hl:=r.length;have hv:j<vs.length:=by omega
 obtain⟨u,e,ru⟩:=r.get (i:=j) (x:=vs[j]) (by simp[hv]);refine⟨vs[j],by simp[hv],?_⟩;have e2:us.toArray[j]=u:=by
  rw[Oq hj]at e
  simpa using Option.some.inj e
 rw[e2];exact ru
theorem oP{K:P5}{ds:List D}{vs:List V}(h:bh K H ds vs){j:Nat}{x:V}(e:vs[j]?=some x):∃d,ds[j]?=some d/\cY K H d x:=by
 have hj:j<vs.length:=(List.getElem?_eq_some_iff.mp e).1;have hl:=h.length;have hd:j<ds.length:=by omega
 obtain⟨v,e1,e2⟩:=h.get (i:=j) (d:=ds[j]) (by simp[hd]);rw[e]at e1;cases e1;exact⟨ds[j],by simp[hd],e2⟩
theorem DA(I:Inv X pins σ H s):∀(n:Nat)(a b:D)(x y:V)(u v:Q1)(A:Rc),pl a=true->pl b=true->(fA n a=true\/fA n b=true)->cY X.K H a x->cY X.K H b y->RelV x u->RelV y v->A.units+n<RH->EqAt A s u v (pyEq a b):=by
 intro n
 induction n with
 |zero=>
  intro a b x y u v A pa pb hd ha hb ru rv hA;have hu:A.units<RH:=hA;cases ha':nU a with
  |some x'=>
   obtain⟨e,f⟩:=qm ha' ha;subst e;cases hb':nU b with
   |some y'=>
    obtain⟨e,f'⟩:=qm hb' hb;subst e;rw[<-Fv ha' hb'];exact HB ru rv f f'
   |none=>
    cases b with
    |tup ys=>
     rw[cV]at hb;obtain⟨p,vs,e,h1,h2⟩:=hb;subst e;cases rv;obtain⟨its,_,ht,_⟩:=I.tuple (p8.of h1);have ht':s.heap.IsTuple p its.toArray:=ht;cases a with
     |non=>cases ha';cases ru;unfold pyEq;exact .none_tuple ht' hu
     |bl z=>cases ha';cases ru;unfold pyEq;exact .bool_tuple z ht' hu
     |int z=>cases ha';obtain⟨t,rfl⟩:=ru;unfold pyEq;exact .int_tuple z t ht' hu
     |str z=>cases ha';obtain⟨t,rfl⟩:=ru;unfold pyEq;exact .str_tuple z t ht' hu
     |_=>cases ha'
    |lst ys=>
     rw[cT]at hb;obtain⟨p,vs,e,h1,h2⟩:=hb;subst e;cases rv;obtain⟨its,_,ht,_⟩:=I.list h1;have ht':s.heap.IsList p its.toArray:=ht.isList;cases a with
     |non=>cases ha';cases ru;unfold pyEq;exact .none_list ht' hu
     |bl z=>cases ha';cases ru;unfold pyEq;exact .bool_list z ht' hu
     |int z=>cases ha';obtain⟨t,rfl⟩:=ru;unfold pyEq;exact .int_list z t ht' hu
     |str z=>cases ha';obtain⟨t,rfl⟩:=ru;unfold pyEq;exact .str_list z t ht' hu
     |_=>cases ha'
    |dct _ _=>exact(gP pb).elim
    |obj _ _ _=>exact(ic pb).elim
    |exc _ _ _=>exact(gU pb).elim
    |_=>cases hb'
  |none=>
   have hdb:fA 0 b=true:=by
    rcases hd with hd|hd
    ·rw[ye ha']at hd;cases hd
    ·exact hd
   cases hb':nU b with
   |none=>rw[ye hb']at hdb;cases hdb
   |some y'=>
    obtain⟨e,f'⟩:=qm hb' hb;subst e;cases a with
    |tup xs=>
     rw[cV]at ha;obtain⟨p,vs,e,h1,h2⟩:=ha;subst e;cases ru;obtain⟨its,_,ht,_⟩:=I.tuple (p8.of h1);have ht':s.heap.IsTuple p its.toArray:=ht;cases b with
     |non=>cases hb';cases rv;unfold pyEq;exact .tuple_none ht' hu
     |bl z=>cases hb';cases rv;unfold pyEq;exact .tuple_bool z ht' hu
     |int z=>cases hb';obtain⟨t,rfl⟩:=rv;unfold pyEq;exact .tuple_int z t ht' hu
     |str z=>cases hb';obtain⟨t,rfl⟩:=rv;unfold pyEq;exact .tuple_str z t ht' hu
     |_=>cases hb'
    |lst xs=>
     rw[cT]at ha;obtain⟨p,vs,e,h1,h2⟩:=ha;subst e;cases ru;obtain⟨its,_,ht,_⟩:=I.list h1;have ht':s.heap.IsList p its.toArray:=ht.isList;cases b with
     |non=>cases hb';cases rv;unfold pyEq;exact .list_none ht' hu
     |bl z=>cases hb';cases rv;unfold pyEq;exact .list_bool z ht' hu
     |int z=>cases hb';obtain⟨t,rfl⟩:=rv;unfold pyEq;exact .list_int z t ht' hu
     |str z=>cases hb';obtain⟨t,rfl⟩:=rv;unfold pyEq;exact .list_str z t ht' hu
     |_=>cases hb'
    |dct _ _=>exact(gP pa).elim
    |obj _ _ _=>exact(ic pa).elim
    |exc _ _ _=>exact(gU pa).elim
    |_=>cases ha'
 |succ n ih=>
  intro a b x y u v A pa pb hd ha hb ru rv hA;have hu:A.units<RH:=by omega
  have flatWay:(∀xs ys,¬(a=.tup xs/\b=.tup ys))->(∀xs ys,¬(a=.lst xs/\b=.lst ys))->EqAt A s u v (pyEq a b):=by
   intro n1 n2;cases ha':nU a with
   |some x'=>exact ih a b x y u v A pa pb (.inl (xN n ha')) ha hb ru rv ‹0›
   |none=>
    cases hb':nU b with
    |some y'=>exact ih a b x y u v A pa pb (.inr (xN n hb')) ha hb ru rv ‹0›
    |none=>
     cases a with
     |tup xs=>
      cases b with
      |tup ys=>exact absurd ⟨rfl,rfl⟩ (n1 xs ys)
      |lst ys=>
       rw[cV]at ha;obtain⟨p,vs,e,h1,h2⟩:=ha;subst e;rw[cT]at hb;obtain⟨p',vs',e,h1',h2'⟩:=hb;subst e;cases ru;cases rv;obtain⟨its,_,ht,_⟩:=I.tuple (p8.of h1);obtain⟨its2,_,ht2,_⟩:=I.list h1';unfold pyEq;exact .tuple_list (show s.heap.IsTuple p its.toArray from ht) ht2.isList hu
      |dct _ _=>exact(gP pb).elim
      |obj _ _ _=>exact(ic pb).elim
      |exc _ _ _=>exact(gU pb).elim
      |_=>cases hb'
     |lst xs=>
      cases b with
      |lst ys=>exact absurd ⟨rfl,rfl⟩ (n2 xs ys)
      |tup ys=>
       rw[cT]at ha;obtain⟨p,vs,e,h1,h2⟩:=ha;subst e;rw[cV]at hb;obtain⟨p',vs',e,h1',h2'⟩:=hb;subst e;cases ru;cases rv;obtain⟨its,_,ht,_⟩:=I.list h1;obtain⟨its2,_,ht2,_⟩:=I.tuple (p8.of h1');unfold pyEq;exact .list_tuple ht.isList (show s.heap.IsTuple p' its2.toArray from ht2) hu
      |dct _ _=>exact(gP pb).elim
      |obj _ _ _=>exact(ic pb).elim
      |exc _ _ _=>exact(gU pb).elim
      |_=>cases hb'
     |dct _ _=>exact(gP pa).elim
     |obj _ _ _=>exact(ic pa).elim
     |exc _ _ _=>exact(gU pa).elim
     |_=>cases ha'
  have items:∀(xs ys:List D)(vs vs':List V)(its its':List Q1),ow xs=true->ow ys=true->(fA (n+1) (.tup xs)=true\/fA (n+1) (.tup ys)=true)->bh X.K H xs vs->bh X.K H ys vs'->Vals vs its->Vals vs' its'->
    ∀j (h1:j<its.toArray.size) (h2:j<its'.toArray.size),EqAt A.in1 s its.toArray[j] its'.toArray[j] (zt xs ys j):=by
   intro xs ys vs vs' its its' px py hdd hx hy rx ry j h1 h2;obtain⟨w1,e1,r1⟩:=oF rx h1;obtain⟨w2,e2,r2⟩:=oF ry h2;obtain⟨d1,f1,g1⟩:=oP hx e1;obtain⟨d2,f2,g2⟩:=oP hy e2;have e3:zt xs ys j=pyEq d1 d2:=(by unfold zt;rw[f1,f2]);rw[e3];refine ih d1 d2 w1 w2 _ _ A.in1 (m9 px _ (NU f1)) (m9 py _ (NU f2)) ?_ g1 g2 r1 r2 (by rw[in1_units];omega);rcases hdd with hdd|hdd
   ·exact .inl (List.all_eq_true.mp hdd d1 (NU f1))
   ·exact .inr (List.all_eq_true.mp hdd d2 (NU f2))
  by_cases hT:∃xs ys,a=.tup xs/\b=.tup ys
  ·obtain⟨xs,ys,rfl,rfl⟩:=hT;have da:=ha;have db:=hb;rw[cV]at ha hb;obtain⟨p,vs,e,h1,h2⟩:=ha;subst e;obtain⟨p',vs',e,h1',h2'⟩:=hb;subst e;cases ru;cases rv;by_cases hp:p=p'
   ·subst hp;have e:=Inv.den_inj I pa pb da db;rw[e,pC];exact EqAt.same _
   ·obtain⟨its,rv1,ht,_⟩:=I.tuple (p8.of h1);obtain⟨its2,rv2,ht2,_⟩:=I.tuple (p8.of h1');refine EqAt.of_refs hp ?_;have q:=RcAt.tuples (e:=zt xs ys) (show s.heap.IsTuple p its.toArray from ht) (show s.heap.IsTuple p' its2.toArray from ht2) hu (items xs ys vs vs' its its2 (by first|rw[<-dP];exact pa|rw[<-eI];exact pa) (by first|rw[<-dP];exact pb|rw[<-eI];exact pb) hd h2 h2' rv1 rv2);have z1:its.toArray.size=xs.length:=(by rw[NE,<-rv1.length,<-h2.length]);have z2:its2.toArray.size=ys.length:=(by rw[NE,<-rv2.length,<-h2'.length]);rw[z1,z2,ia]at q;unfold pyEq;exact q
  ·by_cases hL:∃xs ys,a=.lst xs/\b=.lst ys
   ·obtain⟨xs,ys,rfl,rfl⟩:=hL;have da:=ha;have db:=hb;rw[cT]at ha hb;obtain⟨p,vs,e,h1,h2⟩:=ha;subst e;obtain⟨p',vs',e,h1',h2'⟩:=hb;subst e;cases ru;cases rv;by_cases hp:p=p'
    ·subst hp;have e:=Inv.den_inj I pa pb da db;rw[e,pC];exact EqAt.same _
    ·obtain⟨its,rv1,ht,_⟩:=I.list h1;obtain⟨its2,rv2,ht2,_⟩:=I.list h1';refine EqAt.of_refs hp ?_;have z1:its.toArray.size=xs.length:=(by rw[NE,<-rv1.length,<-h2.length]);have z2:its2.toArray.size=ys.length:=(by rw[NE,<-rv2.length,<-h2'.length]);have er:=ia xs ys;by_cases hz:its.toArray.size=its2.toArray.size
     ·have q:=RcAt.lists (e:=zt xs ys) ht.isList ht2.isList hz hu (items xs ys vs vs' its its2 (by first|rw[<-dP];exact pa|rw[<-eI];exact pa) (by first|rw[<-dP];exact pb|rw[<-eI];exact pb) hd h2 h2' rv1 rv2);rw[z1]at q;have hz':xs.length=ys.length:=(by omega);rw[<-hz',Ot]at er;simp only[beq_self_eq_true,Ou]at er;rw[er]at q;unfold pyEq;exact q
     ·have hne:(its.toArray.size !=its2.toArray.size)=true:=(by simpa using hz);have q:=RcAt.lists_lengths (A:=A) ht.isList ht2.isList hne hu;have hz':(xs.length==ys.length)=false:=by
       rw[z1,z2]at hz
       simpa using hz
      rw[hz',Ov]at er;unfold pyEq;rw[<-er];exact q
   ·exact flatWay (λxs ys z=>hT ⟨xs,ys,z⟩) λxs ys z=>hL ⟨xs,ys,z⟩
end
end TG
namespace TG
open PySem PySem.Spec L2
variable[aY]
open PySem.SeqAt (EqAt RcAt RcNeAt)
section
variable{X:Cx}{pins:List (Q4×Obj)}{σ:St}{H:Hp}{s:Rf}
theorem qW(I:Inv X pins σ H s){n:Nat}{xs ys:List D}{vs vs':List V}{its its':List Q1}{A:Rc}(px:ow xs=true)(py:ow ys=true)(hdd:fA (n+1) (.tup xs)=true\/fA (n+1) (.tup ys)=true)(hx:bh X.K H xs vs)(hy:bh X.K H ys vs')(rx:Vals vs its)(ry:Vals vs' its')(hA:A.units+n<RH):
  ∀j (h1:j<its.toArray.size) (h2:j<its'.toArray.size),EqAt A s its.toArray[j] its'.toArray[j] (zt xs ys j):=by
 intro j h1 h2;obtain⟨w1,e1,r1⟩:=oF rx h1;obtain⟨w2,e2,r2⟩:=oF ry h2;obtain⟨d1,f1,g1⟩:=oP hx e1;obtain⟨d2,f2,g2⟩:=oP hy e2;have e3:zt xs ys j=pyEq d1 d2:=by unfold zt;rw[f1,f2]
 rw[e3];refine DA I n d1 d2 w1 w2 _ _ A (m9 px _ (NU f1)) (m9 py _ (NU f2)) ?_ g1 g2 r1 r2 hA;rcases hdd with hdd|hdd
 ·exact .inl (List.all_eq_true.mp hdd d1 (NU f1))
 ·exact .inr (List.all_eq_true.mp hdd d2 (NU f2))
inductive Way(I:Inv X pins σ H s):D->Q1->Prop where
 |non:Way I .non .none
 |bl (b:Bool):Way I (.bl b) (.bool b)
 |int (i:Int) (t:Tok):Way I (.int i) (.int i t)
 |str (x:Str) (t:Tok):Way I (.str x) (.str x t)
 |tup {xs:List D} {p:Q4} {vs:List V} {its:List Q1} (h:bh X.K H xs vs) (r:Vals vs its) (t:s.heap.IsTuple p its.toArray):Way I (.tup xs) (.ref p)
 |lst {xs:List D} {p:Q4} {vs:List V} {its:List Q1} (h:bh X.K H xs vs) (r:Vals vs its) (t:s.heap.IsList p its.toArray):Way I (.lst xs) (.ref p)
def top:D->Bool
 |.dct _ _=>false
 |.obj _ _ _=>false
 |.exc _ _ _=>false
 |_=>true
theorem gh{d:D}(h:pl d=true):top d=true:=by
 cases d with
 |dct _ _=>exact(gP h).elim
 |obj _ _ _=>exact(ic h).elim
 |exc _ _ _=>exact(gU h).elim
 |_=>rfl
theorem fT(I:Inv X pins σ H s){d:D}{v:V}{u:Q1}(pd:top d=true)(h:cY X.K H d v)(r:RelV v u):Way I d u:=by
 cases d with
 |non=>rw[kK]at h;subst h;cases r;exact .non
 |bl b=>rw[kG]at h;subst h;cases r;exact .bl b
 |int i=>rw[fK]at h;subst h;obtain⟨t,rfl⟩:=r;exact .int i t
 |str x=>rw[fM]at h;subst h;obtain⟨t,rfl⟩:=r;exact .str x t
 |tup xs=>
  rw[cV]at h;obtain⟨p,vs,e,h1,h2⟩:=h;subst e;cases r;obtain⟨its,rv,ht,_⟩:=I.tuple (p8.of h1);exact .tup h2 rv ht
 |lst xs=>
  rw[cT]at h;obtain⟨p,vs,e,h1,h2⟩:=h;subst e;cases r;obtain⟨its,rv,ht,_⟩:=I.list h1;exact .lst h2 rv ht.isList
 |dct _ _=>cases pd
 |obj _ _ _=>cases pd
 |exc _ _ _=>cases pd
theorem HA(I:Inv X pins σ H s){n:Nat}{a b:D}{x y:V}{u v:Q1}{A:Rc}(pa:pl a=true)(pb:pl b=true)(hd:fA (n+1) a=true\/fA (n+1) b=true)(ha:cY X.K H a x)(hb:cY X.K H b y)(ru:RelV x u)(rv:RelV y v)(hA:A.units+n+1<RH):RcAt A s u v (pyEq a b):=by
 have hu:A.units<RH:=by omega
 cases fT I (gh pa) ha ru with
 |non=>cases fT I (gh pb) hb rv with
  |non=>unfold pyEq;exact .none_none
  |bl b=>unfold pyEq;exact .none_bool b
  |int i t=>unfold pyEq;exact .none_int i t
  |str x t=>unfold pyEq;exact .none_str x t
  |tup h r t=>unfold pyEq;exact .none_tuple t hu
  |lst h r t=>unfold pyEq;exact .none_list t hu
 |bl z=>cases fT I (gh pb) hb rv with
  |non=>unfold pyEq;exact .bool_none z
  |bl b=>unfold pyEq;exact .bool_bool z b
  |int i t=>unfold pyEq;exact .bool_int z i t
  |str x t=>unfold pyEq;exact .bool_str z x t
  |tup h r t=>unfold pyEq;exact .bool_tuple z t hu
  |lst h r t=>unfold pyEq;exact .bool_list z t hu
 |int z tz=>cases fT I (gh pb) hb rv with
  |non=>unfold pyEq;exact .int_none z tz
  |bl b=>unfold pyEq;exact .int_bool z tz b
  |int i t=>unfold pyEq;exact .int_int z tz i t
  |str x t=>unfold pyEq;exact .int_str z tz x t
  |tup h r t=>unfold pyEq;exact .int_tuple z tz t hu
  |lst h r t=>unfold pyEq;exact .int_list z tz t hu
 |str z tz=>cases fT I (gh pb) hb rv with
  |non=>unfold pyEq;exact .str_none z tz
  |bl b=>unfold pyEq;exact .str_bool z tz b
  |int i t=>unfold pyEq;exact .str_int z tz i t
  |str x t=>unfold pyEq;exact .str_str z tz x t
  |tup h r t=>unfold pyEq;exact .str_tuple z tz t hu
  |lst h r t=>unfold pyEq;exact .str_list z tz t hu
 |@tup xs p vs its h1 r1 t1=>cases fT I (gh pb) hb rv with
  |non=>unfold pyEq;exact .tuple_none t1 hu
  |bl b=>unfold pyEq;exact .tuple_bool b t1 hu
  |int i t=>unfold pyEq;exact .tuple_int i t t1 hu
  |str x t=>unfold pyEq;exact .tuple_str x t t1 hu
  |@tup ys p' vs' its' h2 r2 t2=>
   have q:=RcAt.tuples (e:=zt xs ys) t1 t2 hu (qW (A:=A.in1) I (by first|rw[<-dP];exact pa|rw[<-eI];exact pa) (by first|rw[<-dP];exact pb|rw[<-eI];exact pb) hd h1 h2 r1 r2 (by rw[in1_units];omega));have z1:its.toArray.size=xs.length:=(by rw[NE,<-r1.length,<-h1.length]);have z2:its'.toArray.size=ys.length:=(by rw[NE,<-r2.length,<-h2.length]);rw[z1,z2,ia]at q;unfold pyEq;exact q
  |lst h r t=>unfold pyEq;exact .tuple_list t1 t hu
 |@lst xs p vs its h1 r1 t1=>cases fT I (gh pb) hb rv with
  |non=>unfold pyEq;exact .list_none t1 hu
  |bl b=>unfold pyEq;exact .list_bool b t1 hu
  |int i t=>unfold pyEq;exact .list_int i t t1 hu
  |str x t=>unfold pyEq;exact .list_str x t t1 hu
  |tup h r t=>unfold pyEq;exact .list_tuple t1 t hu
  |@lst ys p' vs' its' h2 r2 t2=>
   have z1:its.toArray.size=xs.length:=(by rw[NE,<-r1.length,<-h1.length]);have z2:its'.toArray.size=ys.length:=(by rw[NE,<-r2.length,<-h2.length]);have er:=ia xs ys;by_cases hz:its.toArray.size=its'.toArray.size
   ·have q:=RcAt.lists (e:=zt xs ys) t1 t2 hz hu (qW (A:=A.in1) I (by first|rw[<-dP];exact pa|rw[<-eI];exact pa) (by first|rw[<-dP];exact pb|rw[<-eI];exact pb) hd h1 h2 r1 r2 (by rw[in1_units];omega));rw[z1]at q;have hz':xs.length=ys.length:=(by omega);rw[<-hz',Ot]at er;simp only[beq_self_eq_true,Ou]at er;rw[er]at q;unfold pyEq;exact q
   ·have q:=RcAt.lists_lengths (A:=A) t1 t2 (by simpa using hz) hu;have hz':(xs.length==ys.length)=false:=by
     rw[z1,z2]at hz
     simpa using hz
    rw[hz',Ov]at er;unfold pyEq;rw[<-er];exact q
theorem DH(I:Inv X pins σ H s){n:Nat}{a b:D}{x y:V}{u v:Q1}{A:Rc}(pa:pl a=true)(pb:pl b=true)(hd:fA (n+1) a=true\/fA (n+1) b=true)(ha:cY X.K H a x)(hb:cY X.K H b y)(ru:RelV x u)(rv:RelV y v)(hA:A.units+n+1<RH):RcNeAt A s u v (!pyEq a b):=by
 have hu:A.units<RH:=by omega
 cases fT I (gh pa) ha ru with
 |non=>cases fT I (gh pb) hb rv with
  |non=>unfold pyEq;exact .none_none
  |bl b=>unfold pyEq;exact .none_bool b
  |int i t=>unfold pyEq;exact .none_int i t
  |str x t=>unfold pyEq;exact .none_str x t
  |tup h r t=>unfold pyEq;exact .none_tuple t hu
  |lst h r t=>unfold pyEq;exact .none_list t hu
 |bl z=>cases fT I (gh pb) hb rv with
  |non=>unfold pyEq;exact .bool_none z
  |bl b=>unfold pyEq;exact .bool_bool z b
  |int i t=>unfold pyEq;exact .bool_int z i t
  |str x t=>unfold pyEq;exact .bool_str z x t
  |tup h r t=>unfold pyEq;exact .bool_tuple z t hu
  |lst h r t=>unfold pyEq;exact .bool_list z t hu
 |int z tz=>cases fT I (gh pb) hb rv with
  |non=>unfold pyEq;exact .int_none z tz
  |bl b=>unfold pyEq;exact .int_bool z tz b
  |int i t=>unfold pyEq;exact .int_int z tz i t
  |str x t=>unfold pyEq;exact .int_str z tz x t
  |tup h r t=>unfold pyEq;exact .int_tuple z tz t hu
  |lst h r t=>unfold pyEq;exact .int_list z tz t hu
 |str z tz=>cases fT I (gh pb) hb rv with
  |non=>unfold pyEq;exact .str_none z tz
  |bl b=>unfold pyEq;exact .str_bool z tz b
  |int i t=>unfold pyEq;exact .str_int z tz i t
  |str x t=>unfold pyEq;exact .str_str z tz x t
  |tup h r t=>unfold pyEq;exact .str_tuple z tz t hu
  |lst h r t=>unfold pyEq;exact .str_list z tz t hu
 |@tup xs p vs its h1 r1 t1=>cases fT I (gh pb) hb rv with
  |non=>unfold pyEq;exact .tuple_none t1 hu
  |bl b=>unfold pyEq;exact .tuple_bool b t1 hu
  |int i t=>unfold pyEq;exact .tuple_int i t t1 hu
  |str x t=>unfold pyEq;exact .tuple_str x t t1 hu
  |@tup ys p' vs' its' h2 r2 t2=>
   have q:=RcNeAt.tuples (e:=zt xs ys) t1 t2 hu (qW (A:=A.in1) I (by first|rw[<-dP];exact pa|rw[<-eI];exact pa) (by first|rw[<-dP];exact pb|rw[<-eI];exact pb) hd h1 h2 r1 r2 (by rw[in1_units];omega));have z1:its.toArray.size=xs.length:=(by rw[NE,<-r1.length,<-h1.length]);have z2:its'.toArray.size=ys.length:=(by rw[NE,<-r2.length,<-h2.length]);rw[z1,z2,ia]at q;unfold pyEq;exact q
  |lst h r t=>unfold pyEq;exact .tuple_list t1 t hu
 |@lst xs p vs its h1 r1 t1=>cases fT I (gh pb) hb rv with
  |non=>unfold pyEq;exact .list_none t1 hu
  |bl b=>unfold pyEq;exact .list_bool b t1 hu
  |int i t=>unfold pyEq;exact .list_int i t t1 hu
  |str x t=>unfold pyEq;exact .list_str x t t1 hu
  |tup h r t=>unfold pyEq;exact .list_tuple t1 t hu
  |@lst ys p' vs' its' h2 r2 t2=>
   have z1:its.toArray.size=xs.length:=(by rw[NE,<-r1.length,<-h1.length]);have z2:its'.toArray.size=ys.length:=(by rw[NE,<-r2.length,<-h2.length]);have er:=ia xs ys;by_cases hz:its.toArray.size=its'.toArray.size
   ·have q:=RcNeAt.lists (e:=zt xs ys) t1 t2 hz hu (qW (A:=A.in1) I (by first|rw[<-dP];exact pa|rw[<-eI];exact pa) (by first|rw[<-dP];exact pb|rw[<-eI];exact pb) hd h1 h2 r1 r2 (by rw[in1_units];omega));rw[z1]at q;have hz':xs.length=ys.length:=(by omega);rw[<-hz',Ot]at er;simp only[beq_self_eq_true,Ou]at er;rw[er]at q;unfold pyEq;exact q
   ·have q:=RcNeAt.lists_lengths (A:=A) t1 t2 (by simpa using hz) hu;have hz':(xs.length==ys.length)=false:=by
     rw[z1,z2]at hz
     simpa using hz
    rw[hz',Ov]at er;unfold pyEq;rw[<-er];exact q
end
section
variable{X:Cx}
def rD(K:P5)(g:D->D->Option D):R2:=λx y H Q=>∃O a b d,eA H O/\cY K (hid H O) a x/\cY K (hid H O) b y/\g a b=some d/\∀v H',bE H H'->cY K (hid H' O) d v->Q v H'
theorem au{K:P5}{g:D->D->Option D}:eF K (rD K g) g:=λa b d x y O H Q hO hg ha hb q=>⟨O,a,b,d,hO,ha,hb,hg,q⟩
theorem sZ{f : Q1 -> Q1 -> Sem Q1}{g : D -> D -> Option D}(h : ∀ (pins : List (Q4 × Obj)) (s : Rf) (σ : St) (H : Hp) (a b d : D) (x y : V) (u v : Q1), Inv X pins σ H s -> cY X.K H a x -> cY X.K H b y -> RelV x u -> RelV y v -> g a b = some d ->
      ∃c,d=.bl c/\∀(Q:Q1->Rf->Prop),Q (.bool c) s->Rh (model X.prog X.w) X.A (f u v) Q X.xe s):lL X f (rD X.K g):=by
  intro pins s σ H x y u v Q I rx ry ⟨O,a,b,d,hO,ha,hb,hg,q⟩;obtain⟨c,rfl,hq⟩:=h pins s σ H a b d x y u v I (ha.mono (aI H O)) (hb.mono (aI H O)) rx ry hg;exact hq _ ⟨.bl c,H,I,rfl,q _ H (bE.refl H) (kG.mpr rfl)⟩
def j8(a b:D):Option D:=if(pl a&&pl b)&&(fA 8 a||fA 8 b)then some (.bl (pyEq a b))else none
def wf(a b:D):Option D:=if(pl a&&pl b)&&(fA 8 a||fA 8 b)then some (.bl (!pyEq a b))else none
theorem dC(hu:X.A.units+64<RH):lL X (Rz .Eq) (rD X.K j8):=sZ λpins s σ H a b d x y u v I ha hb ru rv hg=>by
 obtain⟨h1,h2⟩:=cn hg;subst h2;rw[NZ,NZ,Ow]at h1;exact⟨_,rfl,λQ q=>HA (n:=7) (A:=X.A) I h1.1.1 h1.1.2 h1.2 ha hb ru rv ‹0› X.prog X.w X.xe Q q⟩
theorem qa(hu:X.A.units+64<RH):lL X (Rz .NotEq) (rD X.K wf):=sZ λpins s σ H a b d x y u v I ha hb ru rv hg=>by
 obtain⟨h1,h2⟩:=cn hg;subst h2;rw[NZ,NZ,Ow]at h1;exact⟨_,rfl,λQ q=>DH (n:=7) (A:=X.A) I h1.1.1 h1.1.2 h1.2 ha hb ru rv ‹0› X.prog X.w X.xe Q q⟩
def inD(x:D)(ys:List D):Bool:=ys.any λy=>pyEq y x
def Av(x y:D):Option D:=match y with
 |.tup ys=>if(pl x&&ow ys)&&fA 8 x then some (.bl (inD x ys))else none
 |.lst ys=>if(pl x&&ow ys)&&fA 8 x then some (.bl (inD x ys))else none
 |_=>none
open Classical in
theorem Gn{pins:List (Q4×Obj)}{σ:St}{H:Hp}{s:Rf}(I:Inv X pins σ H s){xd:D}{x:V}{u:Q1}{A:Rc}(px:pl xd=true)(hd:fA 8 xd=true)(hx:cY X.K H xd x)(ru:RelV x u)(hA:A.units+8<RH){ys:List D}{vs:List V}{its:List Q1}(py:ow ys=true)(hy:bh X.K H ys vs)(rv:Vals vs its):
  ∃e:Q1->Bool,(∀y,y∈its.toArray->EqAt A s y u (e y))/\its.toArray.any e=inD xd ys:=by
 let e:Q1->Bool:=λy=>decide (∃d w,pl d=true/\cY X.K H d w/\RelV w y/\pyEq d xd=true)
 have he:∀d w y,pl d=true->cY X.K H d w->RelV w y->e y=pyEq d xd:=λd w y h0 h1 h2=>by
  cases hq:pyEq d xd with
  |true=>exact decide_eq_true ⟨d,w,h0,h1,h2,hq⟩
  |false=>
   refine decide_eq_false ?_;rintro⟨d',w',g0,g1,g2,g3⟩;have ew:=RelV.inj h2 g2;subst ew;rw[Inv.den_inj I h0 g0 h1 g1,g3]at hq;cases hq
 refine⟨e,λy hy'=>?_,?_⟩
 ·have hm:y∈its:=by simpa using hy'
  obtain⟨j,hj,rfl⟩:=Ox hm;obtain⟨w,e1,r1⟩:=oF rv (j:=j) (by simpa using hj);obtain⟨d,f1,g1⟩:=oP hy e1;have r1':RelV w its[j]:=by simpa using r1
  have pd:=m9 py _ (NU f1);rw[he d w _ pd g1 r1'];exact DA I 8 d xd w x _ u A pd px (.inr hd) g1 hx r1' ru hA
 ·unfold inD;have go:∀(ys:List D)(vs:List V)(its:List Q1),ow ys=true->bh X.K H ys vs->Vals vs its->its.any e=ys.any λy=>pyEq y xd:=by
   intro ys
   induction ys with
   |nil=>
    intro vs its py h r;rw[df]at h;subst h;cases r;rfl
   |cons y ys ih=>
    intro vs its py h r;unfold ow at py;rw[NZ]at py;rw[bH]at h;obtain⟨v,r',e1,h1,h2⟩:=h;subst e1;cases r with
    |cons q1 q2=>rw[N5,N5,he y v _ py.1 h1 q1,ih _ _ py.2 h2 q2]
  rw[List.any_toArray];exact go ys vs its py hy rv
theorem pB(hu:X.A.units+64<RH):lL X (Rz .In) (rD X.K Av):=sZ λpins s σ H a b d x y u v I ha hb ru rv hg=>by
 cases b with
 |tup ys=>
  obtain⟨h1,h2⟩:=cn hg;subst h2;rw[NZ,NZ]at h1;rw[cV]at hb;obtain⟨p,vs,e,g1,g2⟩:=hb;subst e;cases rv;obtain⟨its,r,t,_⟩:=I.tuple (p8.of g1);obtain⟨e,he,ea⟩:=Gn (A:=X.A.in1) I h1.1.1 h1.2 ha ru (by rw[in1_units];omega) h1.1.2 g2 r;exact⟨_,rfl,λQ q=>SeqAt.in_tupleAt e (show s.heap.IsTuple p its.toArray from t) he (by rw[ea];exact q)⟩
 |lst ys=>
  obtain⟨h1,h2⟩:=cn hg;subst h2;rw[NZ,NZ]at h1;rw[cT]at hb;obtain⟨p,vs,e,g1,g2⟩:=hb;subst e;cases rv;obtain⟨its,r,t,_⟩:=I.list g1;obtain⟨e,he,ea⟩:=Gn (A:=X.A.in1) I h1.1.1 h1.2 ha ru (by rw[in1_units];omega) h1.1.2 g2 r;exact⟨_,rfl,λQ q=>SeqAt.in_listAt e t.isList he (by rw[ea];exact q)⟩
 |_=>cases hg
def Gd(p:Int->Int->D)(a b:D):Option D:=match a,b with
 |.int i,.int j=>some (p i j)
 |_,_=>none
def Nb:=Gd λi j=>.bl (decide (i<j))
def MD:=Gd λi j=>.bl (decide (i<=j))
def MK:=Gd λi j=>.bl (decide (j<i))
def MV:=Gd λi j=>.bl (decide (j<=i))
theorem uO{K:P5}{g:Int->Int->Bool}:eF K (BZ λi j=>.bl (g i j)) (Gd λi j=>.bl (g i j)):=λa b d x y O H Q hO hg ha hb q=>by
 cases a with
 |int i=>
  cases b with
  |int j=>cases hg;exact⟨i,j,fK.mp ha,fK.mp hb,q _ H (bE.refl H) (kG.mpr rfl)⟩
  |_=>cases hg
 |_=>cases hg
theorem rW{K:P5}{g:Int->Int->Int}:eF K (BZ λi j=>.int (g i j)) (Gd λi j=>.int (g i j)):=λa b d x y O H Q hO hg ha hb q=>by
 cases a with
 |int i=>
  cases b with
  |int j=>cases hg;exact⟨i,j,fK.mp ha,fK.mp hb,q _ H (bE.refl H) (fK.mpr rfl)⟩
  |_=>cases hg
 |_=>cases hg
def Ig(c:Int->Int->Bool)(p:Int->Int->Int)(a b:D):Option D:=match a,b with
 |.int i,.int j=>if c i j then some (.int (p i j))else none
 |_,_=>none
theorem ki{K:P5}{C:Int->Int->Prop}{c:Int->Int->Bool}{g:Int->Int->Int}(hc:∀i j,c i j=true->C i j):eF K (rI C λi j=>.int (g i j)) (Ig c g):=λa b d x y O H Q hO hg ha hb q=>by
 cases a with
 |int i=>
  cases b with
  |int j=>
   obtain⟨h1,h2⟩:=cn hg;subst h2;exact⟨i,j,fK.mp ha,fK.mp hb,hc i j h1,q _ H (bE.refl H) (fK.mpr rfl)⟩
  |_=>cases hg
 |_=>cases hg
def AV:=Gd λi j=>.int (i-j)
def oT:=Ig (λi j=>decide ((-(2^64)<i/\i<2^64)\/(-(2^64)<j/\j<2^64))) (·*·)
def Gr(_ j:Int):Prop:=0<j/\j<10^200
theorem bj:lL X (Ry .FloorDiv) (rI Gr λi j=>.int (i/j)):=J2 λi j _ _ _ _ _ hc q=>by
 have h1:(0:Int)<j:=hc.1;have h2:j<10^200:=hc.2;refine PyProof.Rows.floordiv_int ‹0› (by rw[ND i ‹0›];exact q) (.inl (PyProof.noPylong_of_log2 ?_));have h3:j.natAbs<10^200:=by omega
 rw[Nat.log2_lt ‹0›];exact N9 h3 (by decide +kernel)
def dI:=Ig (λ_ j=>decide (0<j/\j<10^200)) (·/·)
def cM:=Ig (λ_ j=>decide (0<j)) (·%·)
def j9:=Ig (λi j=>decide (0<=j/\j<=1000000/\i.natAbs<2^64)) λi j=>i^j.toNat
theorem rQ{K:P5}:eF K (BZ λi j=>.int (i-j)) AV:=rW
theorem ly{K:P5}:eF K (rI Hk λi j=>.int (i*j)) oT:=ki λi j h=>by have q:=of_decide_eq_true h;exact q
theorem bZ{K:P5}:eF K (rI Gr λi j=>.int (i/j)) dI:=ki λi j h=>by have q:=of_decide_eq_true h;exact q
theorem bx{K:P5}:eF K (rI (λ_ j=>0<j) λi j=>.int (i%j)) cM:=ki λ_ _ h=>of_decide_eq_true h
theorem gY{K:P5}:eF K (rI JA λi j=>.int (i^j.toNat)) j9:=ki λi j h=>by have q:=of_decide_eq_true h;exact q
def IQ(K:P5):R2:=λx y H Q=>∃l b xs zs,x=.ref l/\y=.ref b/\ot K H l xs/\ot K H b zs/\xs.length+zs.length<=Q7/\∀p,H p=none->Q (.ref p) (upd H p (.lst (xs++zs)))
theorem Fc:lL X (Ry .Add) (IQ X.K):=by
 intro pins s σ H x y v u Q I rx ry h;obtain⟨l,b,xs,zs,rfl,rfl,hH,hB,hz,q⟩:=h;cases rx;cases ry;obtain⟨its,r,t1,_⟩:=I.list hH;obtain⟨its2,r2,t2,_⟩:=I.list hB;obtain⟨⟨c1,d1,dt1,sl1⟩,n1,ho,hc,hd,hdt⟩:=t1;obtain⟨⟨c2,d2,dt2,sl2⟩,n2,ho2,hc2,hd2,hdt2⟩:=t2;simp only at hc hd hdt hc2 hd2 hdt2;subst hc hd hdt hc2 hd2 hdt2;have z1:=r.length;have z2:=r2.length;refine RO ⟨_,ho,rfl⟩ ⟨_,ho2,rfl⟩ noFill_list_add seq_list_add F.slot_list_add F.entry_list_add (F.args_list_add_2 _ _) (PyProof.Rows.list_addW l b its.toArray its2.toArray n1 n2 none none sl1 sl2 (by rw[NE,NE];omega)) ⟨ho,ho2,?_⟩;have ea:its.toArray++its2.toArray=(its++its2).toArray:=by simp
 rw[ea];exact⟨.ref _,_,I.lnew (t':=s.toks) (r.append r2) (by rw[NV];omega),rfl,q _ I.fresh⟩
def GI(K:P5):R2:=λx y H Q=>∃a b xs ys,x=.ref a/\y=.ref b/\p8 K H a xs/\p8 K H b ys/\xs.length+ys.length<=Q7/\
 (xs=[]->Q (.ref b) H)/\(xs≠[]->ys=[]->Q (.ref a) H)/\(xs≠[]->ys≠[]->∀p,H p=none->Q (.ref p) (upd H p (.tup (xs++ys))))
theorem C5:lL X (Ry .Add) (GI X.K):=by
 intro pins s σ H x y v u Q I rx ry h;obtain⟨a,b,xs,ys,ex,ey,ha,hb,hz,q0,q1,q2⟩:=h;by_cases hx:xs=[]
 ·subst ex ey;cases rx;cases ry;obtain⟨its,r1,p1,_⟩:=I.tuple ha;obtain⟨its2,r2,p2,_⟩:=I.tuple hb;obtain⟨⟨cls,dd,data,sl⟩,ho,hc,n,hd⟩:=id p1;obtain⟨⟨cls2,dd2,data2,sl2⟩,ho2,hc2,n2,hd2⟩:=id p2;simp only at hc hd hc2 hd2;subst hc hd hc2 hd2;have e:its=[]:=r1.nil_iff.mpr hx;exact RO ⟨_,ho,rfl⟩ ⟨_,ho2,rfl⟩ RP RT F.slot_tuple_add F.entry_tuple_add (F.args_tuple_add_2 _ _)
   (PyProof.Rows.tuple_addW0 a b its.toArray its2.toArray n n2 dd dd2 sl sl2 (by rw[e];rfl)) ⟨ho,ho2,⟨.ref b,H,I,rfl,q0 hx⟩⟩
 ·exact Fw pins s σ H x y v u Q I rx ry ⟨a,b,xs,ys,ex,ey,ha,hb,hx,hz,q1 hx,q2 hx⟩
def bV(a b:D):Option D:=match a,b with
 |.int i,.int j=>some (.int (i+j))
 |.str x,.str y=>if small (x.length+y.length)then some (.str (x++y))else none
 |.lst xs,.lst ys=>if small (xs.length+ys.length)then some (.lst (xs++ys))else none
 |.tup xs,.tup ys=>if small (xs.length+ys.length)then some (.tup (xs++ys))else none
 |_,_=>none
theorem aX:lL X (Ry .Add) (rD X.K bV):=by
 intro pins s σ H x y u v Q I rx ry ⟨O,a,b,d,hO,ha,hb,hg,q⟩;cases a with
 |int i=>
  cases b with
  |int j=>
   cases hg;exact HJ pins s σ H x y u v Q I rx ry ⟨i,j,fK.mp ha,fK.mp hb,q _ H (bE.refl H) (fK.mpr rfl)⟩
  |_=>cases hg
 |str i=>
  cases b with
  |str j=>
   obtain⟨h1,h2⟩:=cn hg;subst h2;exact zj pins s σ H x y u v Q I rx ry ⟨i,j,fM.mp ha,fM.mp hb,eW h1,q _ H (bE.refl H) (fM.mpr rfl)⟩
  |_=>cases hg
 |lst xs=>
  cases b with
  |lst ys=>
   obtain⟨h1,h2⟩:=cn hg;subst h2;rw[cT]at ha hb;obtain⟨p,vs,ex,g1,g2⟩:=ha;obtain⟨p',vs',ey,g1',g2'⟩:=hb;refine Fc pins s σ H x y u v Q I rx ry ⟨p,p',vs,vs',ex,ey,(aI H O).seq g1,(aI H O).seq g1',?_,λr hr=>?_⟩
   ·rw[<-g2.length,<-g2'.length];exact eW h1
   ·exact q _ _ (cm hr _) (dG hO hr (g2.append g2'))
  |_=>cases hg
 |tup xs=>
  cases b with
  |tup ys=>
   obtain⟨h1,h2⟩:=cn hg;subst h2;have da:=ha;have db:=hb;rw[cV]at ha hb;obtain⟨p,vs,ex,g1,g2⟩:=ha;obtain⟨p',vs',ey,g1',g2'⟩:=hb;have l1:=g2.length;have l2:=g2'.length;refine C5 pins s σ H x y u v Q I rx ry ⟨p,p',vs,vs',ex,ey,cw (aI H O) g1,cw (aI H O) g1',?_,λz=>?_,λz z'=>?_,λz z' r hr=>?_⟩
   ·rw[<-l1,<-l2];exact eW h1
   ·have e:xs=[]:=List.length_eq_zero_iff.mp (by rw[l1,z];rfl);rw[<-ey];refine q _ H (bE.refl H) ?_;rw[e,Oy];exact db
   ·have e:ys=[]:=List.length_eq_zero_iff.mp (by rw[l2,z'];rfl);rw[<-ex];refine q _ H (bE.refl H) ?_;rw[e,NM];exact da
   ·exact q _ _ (cm hr _) (fV hO hr (g2.append g2'))
  |_=>cases hg
 |_=>cases hg
def aB(a b:D):Option D:=match a,b with
 |.tup xs,.int i=>ou xs i
 |.lst xs,.int i=>ou xs i
 |.str x,.int i=>if small x.length then(ou x.cps.toList i).bind λc=>some (.str ⟨#[c]⟩)else none
 |_,_=>none
theorem zG{K:P5}{H:Hp}{ds:List D}{vs:List V}{i:Int}{d:D}(h:bh K H ds vs)(e:ou ds i=some d):∃v,ou vs i=some v/\cY K H d v:=by
 unfold ou at e ⊢;obtain⟨j,e1,e2⟩:=bind_some e;rw[<-h.length,e1];exact h.get e2
theorem KS:Im X (rD X.K aB):=by
 intro value slice pins s σ H x y u v Q I rx ry ⟨O,a,b,d,hO,ha,hb,hg,q⟩ hsub;cases a with
 |tup xs=>
  cases b with
  |int i=>
   rw[cV]at ha;obtain⟨p,vs,ex,g1,g2⟩:=ha;obtain⟨w,e1,e2⟩:=zG g2 hg;refine Gz value slice pins s σ H x y u v Q I rx ry ?_ hsub;exact⟨p,vs,i,w,ex,fK.mp hb,cw (aI H O) g1,e1,q w H (bE.refl H) e2⟩
  |_=>cases hg
 |lst xs=>
  cases b with
  |int i=>
   rw[cT]at ha;obtain⟨p,vs,ex,g1,g2⟩:=ha;obtain⟨w,e1,e2⟩:=zG g2 hg;refine zF value slice pins s σ H x y u v Q I rx ry ?_ hsub;exact⟨p,vs,i,w,ex,fK.mp hb,(aI H O).seq g1,e1,q w H (bE.refl H) e2⟩
  |_=>cases hg
 |str z=>
  cases b with
  |int i=>
   have hg':(if small z.length then(ou z.cps.toList i).bind λc=>some (D.str ⟨#[c]⟩)else none)=some d:=hg;cases hs:small z.length with
   |false=>rw[hs]at hg';cases hg'
   |true=>
    rw[hs]at hg';obtain⟨c,e1,e2⟩:=bind_some hg';cases e2;refine GH value slice pins s σ H x y u v Q I rx ry ?_ hsub;exact⟨z,i,c,fM.mp ha,fK.mp hb,eW hs,e1,q _ H (bE.refl H) (fM.mpr rfl)⟩
  |_=>cases hg
 |_=>cases hg
theorem MJ{a b:Ri}{fa fb:FX}{pos:Pos}(ha:FE X a fa)(hb:FE X b fb)(hs:oy b):FE X (.Subscript a b pos) (f2 aB fa fb):=
 PE.weak (Gg KS ha hb hs) (vK au)
def cutD{α:Type}(xs:List α)(lo hi:Option Int):List α:=(xs.drop (HT.sIx xs.length 0 lo)).take (HT.sIx xs.length xs.length hi-HT.sIx xs.length 0 lo)
theorem tY{M:Model}{A:Rc}{E:Q1->Rf->Prop}{s:Rf}{t:Q4}{items:Array Q1}{Q:Bool->Rf->Prop}(ht:QM s.heap t items)(h:Q true s):Rh M A (Builtin.Tuple.tupleIsExact (.ref t)) Q E s:=by
 unfold Builtin.Tuple.tupleIsExact;refine Rr (RZ ht.typeIs ?_);exact Rq h
theorem iP{prog:Q3}{w:Q2}{A:Rc}{E:Q1->Rf->Prop}{s:Rf}{t sl:Q4}{items:Array Q1}{vl vu:Q1}{lo hi:Option Int}{Q:Q1->Rf->Prop}(ht:QM s.heap t items)(hs:s.heap.IsSliceOf sl vl vu .none)(pl:RU vl lo)(pu:RU vu hi)
  (hw:HT.sIx items.size 0 lo=0/\HT.sIx items.size items.size hi=items.size) (h:Q (.ref t) s):Rh (model prog w) A (getItem (.ref t) (.ref sl)) Q E s:=by
 obtain⟨os,hos,hcs,hds⟩:=id hs;have hTs:s.TypeIs (.ref sl) "slice":=⟨os,hos,hcs⟩
 unfold getItem
 try with_reducible refine RW ?_
 first|refine Rr (Rq ?_)|skip
 refine Rr (wpAny_sequenceKey ht.typeIs (by decide) ?_);refine Rr (RX (name:=Str.ofString "__getitem__") ht.typeIs QK
  (RY QK ht.typeIs PyProof.Rows.entry_tuple_getitem ?_ (PyProof.Rows.args_tuple_getitem _ _)))
 show Rh _ _ (Builtin.Tuple.tupleItemsOf (.ref t) >>= _) _ _ s;refine Rr (PyProof.Rows.tupleItemsOf_ ht ?_);refine Rr (RZ hTs ?_);rw[if_pos (by decide)];refine Rr (HT.pQ hs pl pu ?_);have hyes:(((HT.sIx items.size 0 lo:Nat):Int)==0&&(1:Int)==1&&(HT.sIx items.size items.size hi-HT.sIx items.size 0 lo)==items.size)=true:=by
  rw[hw.1,hw.2];simp
 show Rh _ _ (if(((HT.sIx items.size 0 lo:Nat):Int)==0&&(1:Int)==1&&(HT.sIx items.size items.size hi-HT.sIx items.size 0 lo)==items.size)=true then _ else _) _ _ s;rw[if_pos hyes];refine Rr (tY ht ?_);rw[if_pos rfl]
 first
  |exact Rr (Sb (Rq ⟨_,rfl,Rq h⟩))
  |exact Rr (Sb (Rr (Rq (Rq ⟨_,rfl,Rq h⟩))))
def rj(a:D)(lo hi:Option Int):Option D:=match a with
 |.lst xs=>some (.lst (cutD xs lo hi))
 |.tup xs=>some (.tup (cutD xs lo hi))
 |.str x=>if small x.length then some (.str ⟨(cutD x.cps.toList lo hi).toArray⟩)else none
 |_=>none
theorem Gp(v:Option Int)(d n:Nat)(hd:d<=n):(match v with|none=>(d:Int)|some i=>if(1:Int)>0 then max 0 (min (if i<0 then i+(n:Int)else i) (n:Int))else max (-1) (min (if i<0 then i+(n:Int)else i) ((n:Int)-1)))=((HT.sIx n d v:Nat):Int):=by
 cases v with
 |none=>rfl
 |some i=>
  show(if(1:Int)>0 then max 0 (min (if i<0 then i+(n:Int)else i) (n:Int))else max (-1) (min (if i<0 then i+(n:Int)else i) ((n:Int)-1)))=(((if i<0 then(i+(n:Int)).toNat else min i.toNat n):Nat):Int)
  rw[if_pos (by decide)];by_cases h:i<0
  ·rw[if_pos h,if_pos h];omega
  ·rw[if_neg h,if_neg h];omega
theorem CV(lo hi:Option Int)(n:Nat):Builtin.Str.strSliceIndices lo hi 1 n=(List.range (HT.sIx n n hi-HT.sIx n 0 lo)).map λk=>HT.sIx n 0 lo+k:=by
 have e1:=Gp lo 0 n (NK _);have e2:=Gp hi n n (NB _);have e:Builtin.Str.strSliceIndices lo hi 1 n=sliceRange ((HT.sIx n 0 lo:Nat):Int) ((HT.sIx n n hi:Nat):Int) 1:=by
  rw[<-e1,<-e2];cases lo<;>cases hi<;>rfl
 rw[e];unfold sliceRange;dsimp only;rw[if_pos (by decide:(1:Int)>0)];have e3:(if((HT.sIx n 0 lo:Nat):Int)<((HT.sIx n n hi:Nat):Int)then(((HT.sIx n n hi:Nat):Int)-((HT.sIx n 0 lo:Nat):Int)+1-1)/1 else 0:Int).toNat=HT.sIx n n hi-HT.sIx n 0 lo:=by
  rw[Int.ediv_one];split<;>omega
 rw[e3];refine Oz λk _=>?_;omega
theorem DN{α:Type}(l:List α)(a:Nat):∀n:Nat,((List.range n).map λk=>a+k).filterMap (λi=>l[i]?)=(l.drop a).take n
 |0=>by simp
 |n+1=>by
  rw[List.range_succ,OA,List.filterMap_append,DN l a n,List.take_add_one,List.getElem?_drop];cases e:l[a+n]?<;>simp[e]
theorem BJ(x:Str)(lo hi:Option Int):Txt.slice x lo hi=⟨(cutD x.cps.toList lo hi).toArray⟩:=by
 have hl:x.cps.toList.length=x.length:=by simp[Str.length]
 have pick:(Builtin.Str.strSliceIndices lo hi 1 x.length).filterMap (x.cps[·]?)=cutD x.cps.toList lo hi:=by
  rw[CV];have q:=DN x.cps.toList (HT.sIx x.length 0 lo) (HT.sIx x.length x.length hi-HT.sIx x.length 0 lo);unfold cutD;rw[hl,<-q];congr 1;funext i;simp
 unfold Txt.slice;split
 ·rename_i h;have h':(Builtin.Str.strSliceIndices lo hi 1 x.length).length=x.length:=by simpa using h
  rw[CV,NW,OB]at h';have h1:=HT.G4 x.length x.length (NB _) hi;have z1:HT.sIx x.length 0 lo=0\/x.length=0:=by omega
  have e:cutD x.cps.toList lo hi=x.cps.toList:=by
   unfold cutD;rw[hl,h'];rcases z1 with z1|z1
   ·rw[z1,Oj,<-hl,List.take_length]
   ·have:x.cps.toList=[]:=List.length_eq_zero_iff.mp (by rw[hl];exact z1)
    rw[this];simp
  rw[e]
 ·rw[pick]
def KZ(K:P5):V->Option Int->Option Int->Hp->VK->Prop:=λx lo hi H Q=>∃O a d,eA H O/\cY K (hid H O) a x/\rj a lo hi=some d/\∀v H',bE H H'->cY K (hid H' O) d v->Q v H'
theorem bh.cut{K:P5}{H:Hp}{ds:List D}{vs:List V}(h:bh K H ds vs)(lo hi:Option Int):bh K H (cutD ds lo hi) (xA vs lo hi):=by
 unfold cutD xA;rw[h.length];exact(h.drop _).take _
theorem Lq:Kb X (KZ X.K):=by
 intro pins s σ H x v vl vu lo hi sl Q I rx hs pl pu ⟨O,a,d,hO,ha,hg,q⟩;cases a with
 |lst xs=>
  cases hg;rw[cT]at ha;obtain⟨p,vs,ex,g1,g2⟩:=ha;exact ER pins s σ H x v vl vu lo hi sl Q I rx hs pl pu ⟨p,vs,ex,(aI H O).seq g1,λr hr=>q _ _ (cm hr _) (dG hO hr (g2.cut lo hi))⟩
 |tup xs=>
  cases hg;have da:=ha;rw[cV]at ha;obtain⟨p,vs,ex,g1,g2⟩:=ha;by_cases hw:HT.sIx vs.length 0 lo=0/\HT.sIx vs.length vs.length hi=vs.length
  ·subst ex;cases rx;obtain⟨its,r,ht,hz⟩:=I.tuple (cw (aI H O) g1);have hlen:its.toArray.size=vs.length:=(by rw[NE];exact r.length.symm);refine⟨"tuple",_,PyProof.Rows.slot_tuple_getitem.lookup,ht.typeIs,iP ht hs pl pu (by rw[hlen];exact hw) ⟨.ref p,H,I,rfl,q _ H (bE.refl H) ?_⟩⟩;have e:cutD xs lo hi=xs:=by
    unfold cutD;rw[g2.length,hw.1,hw.2,OC,Oj,<-g2.length,List.take_length]
   rw[e];exact da
  ·exact G6 pins s σ H x v vl vu lo hi sl Q I rx hs pl pu ⟨p,vs,ex,cw (aI H O) g1,hw,λr hr=>q _ _ (cm hr _) (fV hO hr (g2.cut lo hi))⟩
 |str z=>
  obtain⟨h1,h2⟩:=cn hg;subst h2;rw[fM]at ha;subst ha;obtain⟨t,rfl⟩:=rx;have fin:∀t' tk,EP X pins σ Q (.str (Txt.slice z lo hi) t') {s with toks:=tk}:=λt' tk=>by
   rw[BJ];exact⟨.str _,H,I.tok _,⟨_,rfl⟩,q _ H (bE.refl H) (fM.mpr rfl)⟩
  obtain⟨os,hos,hcs,hds⟩:=id hs;have hz:=eW h1;refine⟨"str",_,F.slot_str_getitem.lookup,typeIs_str _ _ _,?_⟩;cases pl with
  |none=>
   cases pu with
   |none=>exact Sd (l:=none) (u:=none) (st:=none) ⟨os,hos,hcs,hds⟩ rfl (Se ⟨Nq (Txt.slice_le z _ _) hz,λt' k=>fin t' k⟩)
   |int j tj=>exact Sd (l:=none) (u:=some (j,tj)) (st:=none) ⟨os,hos,hcs,hds⟩ rfl (Se ⟨Nq (Txt.slice_le z _ _) hz,λt' k=>fin t' k⟩)
  |int i ti=>
   cases pu with
   |none=>exact Sd (l:=some (i,ti)) (u:=none) (st:=none) ⟨os,hos,hcs,hds⟩ rfl (Se ⟨Nq (Txt.slice_le z _ _) hz,λt' k=>fin t' k⟩)
   |int j tj=>exact Sd (l:=some (i,ti)) (u:=some (j,tj)) (st:=none) ⟨os,hos,hcs,hds⟩ rfl (Se ⟨Nq (Txt.slice_le z _ _) hz,λt' k=>fin t' k⟩)
 |_=>cases hg
def bc:aw->R (Option Int):=λ_=>.ok none
def yv:D->Option (Option Int)
 |.int i=>some (some i)
 |_=>none
def ce(f:FX):aw->R (Option Int):=λρ=>(f ρ).bind λd=>rO (yv d)
def M8(X:Cx)(F:aw->R (Option Int)):TO:=λσ H Q=>∃O ρ,eE X.K O H ρ σ/\jj X σ O H (F ρ) λo=>∀H',bE H H'->Q o H'
def FO(X:Cx)(e:Option Ri)(F:aw->R (Option Int)):Prop:=PO X e (M8 X F)
theorem Kj:FO X none bc:=λpins s σ H Q I ⟨O,ρ,E,q⟩=>Ft pins s σ H Q I (q H (bE.refl H))
theorem Kc{e:Ri}{f:FX}(h:FE X e f):FO X (some e) (ce f):=λpins s σ H Q I ⟨O,ρ,E,hF⟩=>
 Fh h pins s σ H Q I ⟨O,ρ,E,(jj.bind hF).imp λd hF v H1 s1 d1=>by
  obtain⟨o,e,q⟩:=jj.rO hF;cases d with
  |int i=>
   cases e;exact⟨i,fK.mp d1,q H1 s1⟩
  |_=>cases e⟩
def bD(f:FX)(l h:aw->R (Option Int)):FX:=λρ=>(f ρ).bind λa=>(l ρ).bind λlo=>(h ρ).bind λhi=>rO (rj a lo hi)
theorem Jz{e:Ri}{f:FX}{l h:aw->R (Option Int)}{lo hi:Option Ri}{p2 pos:Pos}(he:FE X e f)(hl:FO X lo l)(hh:FO X hi h):FE X (.Subscript e (.Slice lo hi none p2) pos) (bD f l h):=
 PE.weak (DF Lq he hl hh) λσ H Q ⟨O,ρ,E,hF⟩=>⟨O,ρ,E,(jj.bind hF).imp λa hF x H1 s1 d1=>⟨O,ρ,E.same s1,((jj.bind hF).mono s1).imp λlo' hF H2 s2=>⟨O,ρ,E.same (s1.trans s2),((jj.bind hF).mono (s1.trans s2)).imp λhi' hF H3 s3=>by
  obtain⟨d,e,q⟩:=jj.rO hF;exact⟨O,a,d,E.all.same ((s1.trans s2).trans s3),d1.mono (cI (s2.trans s3)),e,λv H4 s4 d4=>q v H4 (((s1.trans s2).trans s3).trans s4) d4⟩⟩⟩⟩
end
end TG
namespace TG
open PySem PySem.Spec L2
variable[aY]
def wC(K:P5)(g:List D->Option D):List V->Hp->VK->Prop:=λxs H Q=>∃O ds d,eA H O/\bh K (hid H O) ds xs/\g ds=some d/\∀v H',bE H H'->cY K (hid H' O) d v->Q v H'
theorem sq{K:P5}{g:List D->Option D}:zM K (wC K g) g:=λds d xs O H Q hO hg hd q=>⟨O,ds,d,hO,hd,hg,q⟩
section
variable{X:Cx}{x:Str}{p pos:Pos}{e:Ri}{es:List Ri}{id T:String}{g:List D->Option D}{f:aw->R (List D)}
theorem Jc(hc:dW X (.builtin id) (wC X.K g))(hg:Gl X x)(hm:X.mg x=none)(hv:Rb x=some (.builtin id))(ha:FA X (e::es) f)(hn:x≠"__name__":=by decide)(hdb:(x==("__debug__":Str))=false:=by decide)
  (hns:(e::es).all noStar=true:=by rfl):FE X (.Call (.Name x p) (e::es) [] pos) (fL g f):=
 PE.weak (xJ hc hg hm hv ha hn hdb (fH (NZ _ _ ▸ hns).1) (jv (NZ _ _ ▸ hns).2)) (Cm sq)
theorem Ie(hc:dW X (.type T) (wC X.K g))(hg:Gl X x)(hm:X.mg x=none)(hv:Rb x=some (.type T))(ha:FA X (e::es) f)(hn:x≠"__name__":=by decide)(hdb:(x==("__debug__":Str))=false:=by decide)
  (hns:(e::es).all noStar=true:=by rfl):FE X (.Call (.Name x p) (e::es) [] pos) (fL g f):=
 PE.weak (BF hc hg hm hv ha hn hdb (fH (NZ _ _ ▸ hns).1) (jv (NZ _ _ ▸ hns).2)) (Cm sq)
def iL:List D->Option D
 |[.lst xs]=>some (.int xs.length)
 |[.tup xs]=>some (.int xs.length)
 |[.str x]=>if small x.length then some (.int x.length)else none
 |_=>none
theorem cC:dW X (.builtin "len") (wC X.K iL):=by
 intro pins s σ H xs us Q I r ⟨O,ds,d,hO,hd,hg,q⟩;unfold iL at hg;split at hg
 ·rename_i ys;cases hg;obtain⟨v,ev,h1⟩:=hd.one;rw[cT]at h1;obtain⟨p,vs,ep,g1,g2⟩:=h1;exact oH pins s σ H xs us Q I r ⟨p,vs,by rw[ev,ep],.inl ((aI H O).seq g1),q _ H (bE.refl H) (fK.mpr (by rw[g2.length]))⟩
 ·rename_i ys;cases hg;obtain⟨v,ev,h1⟩:=hd.one;rw[cV]at h1;obtain⟨p,vs,ep,g1,g2⟩:=h1;exact oH pins s σ H xs us Q I r ⟨p,vs,by rw[ev,ep],.inr (cw (aI H O) g1),q _ H (bE.refl H) (fK.mpr (by rw[g2.length]))⟩
 ·rename_i z;obtain⟨h1,h2⟩:=cn hg;subst h2;obtain⟨v,ev,h1'⟩:=hd.one;exact ww pins s σ H xs us Q I r ⟨z,by rw[ev,fM.mp h1'],eW h1,q _ H (bE.refl H) (fK.mpr rfl)⟩
 ·cases hg
def cq:List D->Option D
 |[.lst xs]=>some (.tup xs)
 |[.tup xs]=>some (.tup xs)
 |_=>none
theorem bC:dW X (.type "tuple") (wC X.K cq):=by
 intro pins s σ H xs us Q I r ⟨O,ds,d,hO,hd,hg,q⟩;unfold cq at hg;split at hg
 ·rename_i ys;cases hg;obtain⟨v,ev,h1⟩:=hd.one;rw[cT]at h1;obtain⟨p,vs,ep,g1,g2⟩:=h1;exact nV pins s σ H xs us Q I r ⟨p,vs,by rw[ev,ep],.inl ⟨(aI H O).seq g1,λl hl=>q _ _ (cm hl _) (fV hO hl g2)⟩⟩
 ·rename_i ys;cases hg;obtain⟨v,ev,h1⟩:=hd.one;have h0:=h1;rw[cV]at h1;obtain⟨p,vs,ep,g1,g2⟩:=h1;rw[ep]at h0;exact nV pins s σ H xs us Q I r ⟨p,vs,by rw[ev,ep],.inr ⟨cw (aI H O) g1,q _ H (bE.refl H) h0⟩⟩
 ·cases hg
def zV:List D->Option D
 |[.lst xs]=>some (.lst xs)
 |[.tup xs]=>some (.lst xs)
 |_=>none
theorem yE:dW X (.type "list") (wC X.K zV):=by
 intro pins s σ H xs us Q I r ⟨O,ds,d,hO,hd,hg,q⟩;unfold zV at hg;split at hg
 ·rename_i ys;cases hg;obtain⟨v,ev,h1⟩:=hd.one;rw[cT]at h1;obtain⟨p,vs,ep,g1,g2⟩:=h1;exact oM pins s σ H xs us Q I r ⟨p,vs,by rw[ev,ep],.inl ((aI H O).seq g1),λl hl=>q _ _ (cm hl _) (dG hO hl g2)⟩
 ·rename_i ys;cases hg;obtain⟨v,ev,h1⟩:=hd.one;rw[cV]at h1;obtain⟨p,vs,ep,g1,g2⟩:=h1;exact oM pins s σ H xs us Q I r ⟨p,vs,by rw[ev,ep],.inr (cw (aI H O) g1),λl hl=>q _ _ (cm hl _) (dG hO hl g2)⟩
 ·cases hg
def oV:List D->Option D
 |[.int i,.int j]=>some (.int (if j>i then j else i))
 |_=>none
def rz:List D->Option D
 |[.int i,.int j]=>some (.int (if j<i then j else i))
 |_=>none
def zN:List D->Option D
 |[.int i]=>some (.int i)
 |[.bl k]=>some (.int (if k then 1 else 0))
 |_=>none
theorem kJ(hc:X.calm=true):dW X (.builtin "max") (wC X.K oV):=by
 intro pins s σ H xs us Q I r ⟨O,ds,d,hO,hd,hg,q⟩;unfold oV at hg;split at hg
 ·rename_i i j;cases hg;obtain⟨v,w,ev,h1,h2⟩:=hd.two;exact BE hc pins s σ H xs us Q I r ⟨i,j,by rw[ev,fK.mp h1,fK.mp h2],q _ H (bE.refl H) (fK.mpr rfl)⟩
 ·cases hg
theorem n6(hc:X.calm=true):dW X (.builtin "min") (wC X.K rz):=by
 intro pins s σ H xs us Q I r ⟨O,ds,d,hO,hd,hg,q⟩;unfold rz at hg;split at hg
 ·rename_i i j;cases hg;obtain⟨v,w,ev,h1,h2⟩:=hd.two;exact BD hc pins s σ H xs us Q I r ⟨i,j,by rw[ev,fK.mp h1,fK.mp h2],q _ H (bE.refl H) (fK.mpr rfl)⟩
 ·cases hg
theorem yV:dW X (.type "int") (wC X.K zN):=by
 intro pins s σ H xs us Q I r ⟨O,ds,d,hO,hd,hg,q⟩;unfold zN at hg;split at hg
 ·rename_i i;cases hg;obtain⟨v,ev,h1⟩:=hd.one;exact uY pins s σ H xs us Q I r (.inl ⟨i,by rw[ev,fK.mp h1],q _ H (bE.refl H) (fK.mpr rfl)⟩)
 ·rename_i k;cases hg;obtain⟨v,ev,h1⟩:=hd.one;exact uY pins s σ H xs us Q I r (.inr ⟨k,by rw[ev,kG.mp h1],q _ H (bE.refl H) (fK.mpr rfl)⟩)
 ·cases hg
def GC:D->String
 |.non=>"NoneType"
 |.bl _=>"bool"
 |.int _=>"int"
 |.str _=>"str"
 |.tup _=>"tuple"
 |.lst _=>"list"
 |.dct _ _=>"dict"
 |_=>""
def EJ(T:String)(d:D):Bool:=match d with
 |.bl _=>T=="bool"||T=="int"
 |.non=>T=="NoneType"
 |.int _=>T=="int"
 |.str _=>T=="str"
 |.tup _=>T=="tuple"
 |.lst _=>T=="list"
 |.dct _ _=>T=="dict"
 |_=>false
def xi(K:P5)(T:String):Prop:=∀d:D,top d=true->Qm K (.type (GC d)) (.type T)=some (EJ T d)
def KO(K:P5)(T:String):List V->Hp->VK->Prop:=λxs H Q=>∃O x d,xs=[x,.ty T]/\top d=true/\cY K (hid H O) d x/\Q (.bl (EJ T d)) H
theorem Dp(ok:xi X.K T):dW X (.builtin "isinstance") (KO X.K T):=by
 intro pins s σ H xs us Q I r ⟨O,x,d,ex,td,hd,q⟩;subst ex;obtain⟨u,w',rfl,rx,rt⟩:=vals2 r;cases rt;have e:=ok d td;have fin:∀tk,EP X pins σ Q (.bool (EJ T d)) {s with toks:=tk}:=λtk=>⟨.bl _,H,I.tok _,rfl,q⟩
 cases fT I td (hd.mono (aI H O)) rx with
 |non=>exact Qn PySem.W.kitx_none I.kIn True.intro e (λz=>nomatch z) fin
 |bl b=>exact Qn PySem.W.kitx_bool I.kIn True.intro e (λz=>nomatch z) fin
 |int i t=>exact Qn PySem.W.kitx_int I.kIn True.intro e (λz=>nomatch z) fin
 |str y t=>exact Qn PySem.W.kitx_str I.kIn True.intro e (λz=>nomatch z) fin
 |tup h rv t=>
  obtain⟨o,h1,h2,_⟩:=t;exact Qn PySem.W.kitx_tuple I.kIn ⟨o,h1,h2⟩ e (λz=>nomatch z) fin
 |lst h rv t=>
  obtain⟨o,h1,h2,_⟩:=t;exact Qn PySem.W.kitx_list I.kIn ⟨o,h1,h2⟩ e (λz=>nomatch z) fin
theorem Cg:Rb "isinstance"=some (.builtin "isinstance"):=by first|rfl|decide +kernel
def i7(T:String)(d:D):Option D:=if top d then some (.bl (EJ T d))else none
def qL(T:String)(f:FX):FX:=f1 (i7 T) f
theorem K3{f:FX}{xT:Str}{p2:Pos}(ok:xi X.K T)(hg:Gl X "isinstance")(hm:X.mg "isinstance"=none)(hgT:Gl X xT)(hmT:X.mg xT=none)(hvT:Rb xT=some (.type T))(he:FE X e f)
  (hn2:xT≠"__name__":=by decide) (hd2:(xT==("__debug__":Str))=false:=by decide)
  (hns:noStar e=true:=by rfl):
  FE X (.Call (.Name "isinstance" p) [e,.Name xT p2] [] pos) (qL T f):=
 PE.weak (xJ (Dp ok) hg hm Cg (nc he (nc (EH (v:=.ty T) hgT hmT hvT rfl hn2 hd2) qd (fH rfl)) (fH hns)) (by decide) (by decide) (fH hns) (jv rfl)) λσ H Q ⟨O,ρ,E,hF⟩=>⟨O,ρ,E,(jj.bind hF).imp λa hF v H1 s1 d1=>by
  obtain⟨d,e,q⟩:=jj.rO hF;obtain⟨h1,h2⟩:=cn e;subst h2;exact⟨O,v,a,rfl,h1,d1,q _ H1 s1 (kG.mpr rfl)⟩⟩
end
section
variable{X:Cx}{a:Ri}{f:FX}{pos:Pos}
def isNon:D->Bool
 |.non=>true
 |_=>false
def LD(d:D):Option D:=some (.bl (isNon d))
def Jk(d:D):Option D:=some (.bl (!isNon d))
def Mm(f:FX):FX:=f1 LD f
def IM(f:FX):FX:=f1 Jk f
theorem JI(h:FE X a f)(he:∀whole,isTrue a X.env whole=(do let v<-whole;standAt a.pos;holding [v] (truthy v)):=by intro _;rfl):FT X a (eS f):=PT.weak (DK h he) λσ H Q ⟨O,ρ,E,hF⟩=>⟨O,ρ,E,(jj.bind hF).imp λd hF x H1 s1 d1=>by
 obtain⟨r,hF,q⟩:=jj.rO hF;refine⟨r,?_,q H1 s1⟩;cases d with
 |non=>cases hF;rw[kK.mp d1];rfl
 |bl b=>cases hF;rw[kG.mp d1];rfl
 |int i=>cases hF;rw[fK.mp d1];rfl
 |str y=>
  obtain⟨hz,e⟩:=cn hF;subst e;rw[fM.mp d1];refine⟨eW hz,?_⟩;show(y.length !=0)=((y.length:Int) !=0)
  cases y.length<;>rfl
 |tup xs=>
  cases hF;obtain⟨p,vs,e,g1,g2⟩:=cV.mp d1;rw[e];refine .inr (.inl ⟨vs,cw (aI H1 O) g1,?_⟩);have l:=g2.length;cases xs<;>cases vs<;>first|rfl|(simp at l)
 |lst xs=>
  cases hF;obtain⟨p,vs,e,g1,g2⟩:=cT.mp d1;rw[e];refine .inl ⟨vs,(aI H1 O).seq g1,?_⟩;have l:=g2.length;cases xs<;>cases vs<;>first|rfl|(simp at l)
 |_=>cases hF⟩
end
def Walk(K:P5)(Hd:Hp)(J:It)(ds:List D):Prop:=
 ∀(Hn:Hp)(O':List Q4)(i:Nat),eA Hn O'->bE Hd (hid Hn O')->(∀d,ds[i]?=some d->J.go i Hn/\∀x H2,J.yld i Hn x H2->bE Hn H2/\cY K (hid H2 O') d x)/\(i=ds.length->J.stop i Hn)
def LV(X:Cx)(G:aw->R (List D)):TI:=λσ H RR=>∃O ρ,eE X.K O H ρ σ/\jj X σ O H (G ρ) λds=>∀J H1,bE H H1->Walk X.K (hid H1 O) J ds->RR J H1
def FI(X:Cx)(tg iter:Ri)(G:aw->R (List D)):Prop:=PI X tg iter (LV X G)
def sS:D->Option (List D)
 |.lst xs=>some xs
 |.tup xs=>some xs
 |_=>none
def bK(f:FX):aw->R (List D):=λρ=>(f ρ).bind λd=>rO (sS d)
section
variable{X:Cx}{tg:Ri}
theorem Bn{K:P5}{Hd:Hp}{a:Q4}{ds:List D}{vs:List V}(h:ot K Hd a vs)(g:bh K Hd ds vs):Walk K Hd (K8 K a) ds:=λHn O' i hO s=>
  have s':bE Hd Hn:=s.trans (aI Hn O')
  ⟨fun d e=>by
    obtain⟨v,ev,dv⟩:=g.get e;refine⟨⟨vs,v,s'.seq h,ev⟩,λx H2 ⟨e2,y⟩=>?_⟩;have q:=y vs (s'.seq h);rw[ev]at q;cases q;subst e2;exact⟨bE.refl _,dv.mono s⟩,
   λhl=>⟨vs,s'.seq h,by rw[<-g.length];exact NI hl.symm⟩⟩
theorem Dy{K:P5}{Hd:Hp}{a:Q4}{ds:List D}{vs:List V}(h:Hd a=some (.tup vs))(g:bh K Hd ds vs):Walk K Hd (Mo K a) ds:=λHn O' i hO s=>
  have s':bE Hd Hn:=s.trans (aI Hn O')
  ⟨fun d e=>by
    obtain⟨v,ev,dv⟩:=g.get e;refine⟨⟨vs,v,cw s' h,ev⟩,λx H2 ⟨e2,y⟩=>?_⟩;have q:=y vs (cw s' h);rw[ev]at q;cases q;subst e2;exact⟨bE.refl _,dv.mono s⟩,
   λhl=>⟨vs,cw s' h,by rw[<-g.length];exact NI hl.symm⟩⟩
theorem LX{e:Ri}{f:FX}(h:FE X e f):FI X tg e (bK f):=by
 intro pins s σ H R I ⟨O,ρ,E,hG⟩;have hG':=jj.bind hG;cases hf:f ρ with
 |error z=>exact zI h pins s σ H R I ⟨O,ρ,E,by rw[hf]at hG' ⊢;cases z with|none=>exact hG'.elim|some x=>exact hG'⟩
 |ok d=>
  rw[hf]at hG';obtain⟨ds,e1,q⟩:=jj.rO (α:=List D) (o:=sS d) hG';cases d with
  |lst xs=>
   cases e1;refine zI h pins s σ H R I ⟨O,ρ,E,?_⟩;rw[hf];refine λv H1 s1 d1=>?_;obtain⟨p,vs,ev,g1,g2⟩:=cT.mp d1;exact⟨p,ev,⟨vs,(aI H1 O).seq g1⟩,q _ H1 s1 (Bn g1 g2)⟩
  |tup xs=>
   cases e1;refine G1 h pins s σ H R I ⟨O,ρ,E,?_⟩;rw[hf];refine λv H1 s1 d1=>?_;obtain⟨p,vs,ev,g1,g2⟩:=cV.mp d1;exact⟨p,ev,⟨vs,cw (aI H1 O) g1⟩,q _ H1 s1 (Dy g1 g2)⟩
  |_=>cases e1
def fN(lo:Int)(n:Nat):List D:=(List.range n).map λ(k:Nat)=>D.int (lo+(k:Int))
theorem tQ(lo:Int)(n:Nat):(fN lo n).length=n:=by unfold fN;rw[NW,OB]
theorem tq{K:P5}{Hd:Hp}(lo:Int)(n:Nat):Walk K Hd (IP lo n) (fN lo n):=λHn O' i hO s=>
  ⟨fun d e=>by
    unfold fN at e;rw[NT]at e;cases hi:(List.range n)[i]? with
    |none=>rw[hi]at e;cases e
    |some k=>
      rw[hi]at e;cases e;have hlt:i<n:=by
        have:=(List.getElem?_eq_some_iff.mp hi).1
        rwa [OB]at this
      have ek:k=i:=by
        rw[OD hlt]at hi;exact(Option.some.inj hi).symm
      subst ek;exact⟨hlt,λx H2 ⟨e1,e2⟩=>by subst e1;exact⟨bE.refl _,fK.mpr e2⟩⟩,
   λhl=>by rw[tQ]at hl;exact NI hl.symm⟩
def okR(j:Int):Bool:=decide (-(2^62)<=j/\j<2^62)
def mS:List D->Option (List D)
 |[.int j]=>if okR j then some (fN 0 j.toNat)else none
 |_=>none
def qT:List D->Option (List D)
 |[.int i,.int j]=>if okR i&&okR j then some (fN i (j-i).toNat)else none
 |_=>none
def iw(f:aw->R (List D)):aw->R (List D):=λρ=>(f ρ).bind λds=>rO (mS ds)
def qV(f:aw->R (List D)):aw->R (List D):=λρ=>(f ρ).bind λds=>rO (qT ds)
theorem HY{a:Ri}{f:aw->R (List D)}{p pos:Pos}(hg:Gl X "range")(hm:X.mg "range"=none)(ha:FA X [a] f)(hs:Rj [a] X.env=[(false,eval a X.env)]:=by rfl):FI X tg (.Call (.Name "range" p) [a] [] pos) (iw f):=by
 intro pins s σ H R I ⟨O,ρ,E,hG⟩;refine BI hg hm ha hs pins s σ H R I ⟨O,ρ,E,(jj.bind hG).imp λes hG' vs H1 s1 d1=>?_⟩;clear hG;obtain⟨ds,hG,q⟩:=jj.rO hG';clear hG';unfold mS at hG;split at hG
 ·rename_i j;obtain⟨h1,h2⟩:=cn hG;subst h2;obtain⟨j1,j2⟩:=of_decide_eq_true h1;obtain⟨v,ev,dv⟩:=d1.one;exact⟨j,by rw[ev,fK.mp dv],j1,j2,q _ H1 s1 (tq 0 _)⟩
 ·cases hG
theorem Ib{a b:Ri}{f:aw->R (List D)}{p pos:Pos}(hg:Gl X "range")(hm:X.mg "range"=none)(ha:FA X [a,b] f)(hs:Rj [a,b] X.env=[(false,eval a X.env),(false,eval b X.env)]:=by rfl)(hs2:Rj [b] X.env=[(false,eval b X.env)]:=by rfl):FI X tg (.Call (.Name "range" p) [a,b] [] pos) (qV f):=by
 intro pins s σ H R I ⟨O,ρ,E,hG⟩;refine Bq hg hm ha hs hs2 pins s σ H R I ⟨O,ρ,E,(jj.bind hG).imp λes hG' vs H1 s1 d1=>?_⟩;clear hG;obtain⟨ds,hG,q⟩:=jj.rO hG';clear hG';unfold qT at hG;split at hG
 ·rename_i i j;obtain⟨h1,h2⟩:=cn hG;subst h2;rw[NZ]at h1;obtain⟨i1,i2⟩:=of_decide_eq_true h1.1;obtain⟨j1,j2⟩:=of_decide_eq_true h1.2;obtain⟨v,w,ev,dv,dw⟩:=d1.two;exact⟨i,j,by rw[ev,fK.mp dv,fK.mp dw],⟨i1,i2,j1,j2⟩,q _ H1 s1 (tq i _)⟩
 ·cases hG
end
abbrev GF:=D->aw->Option aw
def Kp(K:P5)(g:GF):TG:=λv σ H Q=>∃O ρ d ρ',eE K O H ρ σ/\cY K (hid H O) d v/\g d ρ=some ρ'/\∀σ',eE K O H ρ' σ'->(∀(i:Nat) x,ρ'[i]?=some (some x)->(∀d,x≠.val d)->σ'[i]?=σ[i]?/\ρ[i]?=some (some x))->Q σ' H
def FG(X:Cx)(tg:Ri)(g:GF):Prop:=PG X tg (Kp X.K g)
def setV(i:Nat)(d:D)(ρ:aw):aw:=ρ.set i (some (.val d))
theorem bq{α:Type}{l:List α}{i j:Nat}{a b:α}(h:(l.set i a)[j]?=some b):(j=i/\b=a)\/(j≠i/\l[j]?=some b):=by
 by_cases e:j=i
 ·subst e;left;have hj:j<(l.set j a).length:=(List.getElem?_eq_some_iff.mp h).1;rw[List.length_set]at hj;rw[Nx hj]at h;exact⟨rfl,(Option.some.inj h).symm⟩
 ·right;rw[Ny (Ne.symm e)]at h;exact⟨e,h⟩
theorem eE.setV{K:P5}{O:List Q4}{H:Hp}{ρ:aw}{σ:St}(E:eE K O H ρ σ){i:Nat}{d:D}{v:V}(hi:i<σ.length)(hd:cY K (hid H O) d v):eE K O H (setV i d ρ) (σ.set i (some v)):=
  ⟨fun j d' e=>by
    rcases bq e with⟨hj,eq⟩|⟨ne,eq⟩
    ·cases eq;rw[hj];exact⟨v,Nx hi,hd⟩
    · obtain⟨w,e1,e2⟩:=E.val j d' eq
      exact⟨w,by rw[Ny (Ne.symm ne)];exact e1,e2⟩,
   λj xs e=>by
    rcases bq e with⟨_,eq⟩|⟨ne,eq⟩
    ·cases eq
    · obtain⟨a,e1,e2⟩:=E.own j xs eq
      exact⟨a,by rw[Ny (Ne.symm ne)];exact e1,e2⟩,
   λj k xs ys a e1 e2 e3 e4=>by
    rcases bq e1 with⟨_,q1⟩|⟨ne1,q1⟩
    ·cases q1
    · rcases bq e2 with⟨_,q2⟩|⟨ne2,q2⟩
      ·cases q2
      · rw[Ny (Ne.symm ne1)]at e3
        rw[Ny (Ne.symm ne2)]at e4;exact E.one j k xs ys a q1 q2 e3 e4,E.all⟩
section
variable{X:Cx}{pos:Pos}
def gN(i:Nat):GF:=λd ρ=>some (setV i d ρ)
theorem Kx{i:Nat}{x:Str}(hN:X.N.Nodup)(hi:X.N[i]?=some x)(hx:Loc X.env.scope x)(hf:X.fn x=true\/X.env.scope.names.lookup x=some .local:=by first|exact .inl rfl|exact .inr rfl|assumption):FG X (.Name x pos) (gN i):=by
 intro pins s σ H v u Q I r ⟨O,ρ,d,ρ',E,hd,hg,q⟩;cases hg;have hiσ:i<σ.length:=by rw[I.len];exact(List.getElem?_eq_some_iff.mp hi).1
 refine D9 hN hi hx hf pins s σ H v u Q I r (q _ (E.setV hiσ hd) λj x e nv=>?_);rcases bq e with⟨_,eq⟩|⟨ne,eq⟩
 ·cases eq;exact absurd rfl (nv _)
 ·exact⟨Ny (Ne.symm ne),eq⟩
abbrev BX:=List D->aw->Option aw
def LI(K:P5)(g:BX):FU:=λvs σ H Q=>∃O ρ ds ρ',eE K O H ρ σ/\bh K (hid H O) ds vs/\g ds ρ=some ρ'/\∀σ',eE K O H ρ' σ'->(∀(i:Nat) x,ρ'[i]?=some (some x)->(∀d,x≠.val d)->σ'[i]?=σ[i]?/\ρ[i]?=some (some x))->Q σ' H
def IG(X:Cx)(ts:List Ri)(g:BX):Prop:=Iw X ts (LI X.K g)
def Cw:BX:=λds ρ=>match ds with
 |[]=>some ρ
 |_=>none
def zc(g:GF)(h:BX):BX:=λds ρ=>match ds with
 |d::r=>(g d ρ).bind λρ1=>h r ρ1
 |_=>none
theorem Ke:IG X [] Cw:=by
 intro pins s σ H vs us Q I r ⟨O,ρ,ds,ρ',E,hd,hg,q⟩;cases ds with
 |nil=>
  cases hg;rw[df]at hd;exact Fy pins s σ H vs us Q I r ⟨hd,q _ E λi x e _=>⟨rfl,e⟩⟩
 |cons _ _=>cases hg
theorem Ir{e:Ri}{es:List Ri}{g:GF}{h:BX}(h1:FG X e g)(h2:IG X es h)(hs:(assignEach (e::es) X.env).map (·.2)=assign e X.env::(assignEach es X.env).map (·.2):=by rfl):IG X (e::es) (zc g h):=by
 intro pins s σ H vs us Q I r ⟨O,ρ,ds,ρ',E,hd,hg,q⟩;cases ds with
 |nil=>cases hg
 |cons d ds=>
  obtain⟨ρ1,e1,e2⟩:=bind_some hg;rw[bH]at hd;obtain⟨v,vr,ev,d1,d2⟩:=hd;exact CP h1 h2 hs pins s σ H vs us Q I r ⟨v,vr,ev,O,ρ,d,ρ1,E,d1,e1,λσ1 E1 k1=>⟨O,ρ1,ds,ρ',E1,d2,e2,λσ2 E2 k2=>q σ2 E2 λi x e nv=>by
   obtain⟨a1,a2⟩:=k2 i x e nv;obtain⟨b1,b2⟩:=k1 i x a2 nv;exact⟨a1.trans b1,b2⟩⟩⟩
def gT(n:Nat)(g:BX):GF:=λd ρ=>match d with
 |.tup xs=>if xs.length=n then g xs ρ else none
 |_=>none
theorem Md{es:List Ri}{k:Nat}{g:BX}{n:Nat}(hc:X.calm=true)(h:IG X es g)(hn:(assignEach es X.env).length=n:=by rfl)(hst:(assignEach es X.env).findIdx? (·.1)=none:=by rfl):FG X (.Tuple es k pos) (gT n g):=by
 intro pins s σ H v u Q I r ⟨O,ρ,d,ρ',E,hd,hg,q⟩;cases d with
 |tup xs=>
  obtain⟨p,vs,ev,g1,g2⟩:=cV.mp hd;have hg':(if xs.length=n then g xs ρ else none)=some ρ':=hg;by_cases hl:xs.length=n
  ·rw[if_pos hl]at hg';exact GL hc h hn hst pins s σ H v u Q I r ⟨p,vs,ev,cw (aI H O) g1,by rw[<-g2.length];exact hl,O,ρ,xs,ρ',E,g2,hg',q⟩
  ·rw[if_neg hl]at hg';cases hg'
 |_=>cases hg
end
def Ds{α:Type}(r:R α):R α:=match r with
 |.ok a=>.ok a
 |.error _=>un
theorem Du{α:Type}{r:R α}{a:α}(h:Ds r=.ok a):r=.ok a:=by
 cases r with
 |ok b=>exact h
 |error z=>cases h
def inB(ix:List (Option Nat))(ρ:aw):aw:=ix.map λo=>match o with
 |some i=>match ρ[i]? with
  |some (some (.val d))=>some (.val d)
  |_=>none
 |none=>none
def A3(ρ:aw)(g:GF)(C:aw->R Bool)(Fe:FX):List D->R (List D)
 |[]=>.ok []
 |d::ds=>(rO (g d ρ)).bind λρ1=>(Ds (C ρ1)).bind λc=>if c then(Ds (Fe ρ1)).bind λv=>(A3 ρ g C Fe ds).bind λr=>.ok (v::r)else A3 ρ g C Fe ds
theorem oR(ρ:aw)(g:GF)(C:aw->R Bool)(Fe:FX)(d:D)(ds:List D):A3 ρ g C Fe (d::ds)=(rO (g d ρ)).bind λρ1=>(Ds (C ρ1)).bind λc=>if c then(Ds (Fe ρ1)).bind λv=>(A3 ρ g C Fe ds).bind λr=>.ok (v::r)else A3 ρ g C Fe ds:=rfl
def jy(ix:List (Option Nat))(G:aw->R (List D))(g:GF)(C:aw->R Bool)(Fe:FX):FX:=λρ=>(G ρ).bind λds=>if small ds.length then Ds ((A3 (inB ix ρ) g C Fe ds).bind λr=>.ok (.lst r))else un
def Ky(X:Cx)(ifs:List Ri)(F:aw->R Bool):Prop:=GR X ifs (Ki X F)
def dA:aw->R Bool:=λ_=>.ok true
theorem Kt{X:Cx}:Ky X [] dA:=λpins s σ H Q I ⟨O,ρ,E,q⟩=>Ff pins s σ H Q I (q H (bE.refl H))
theorem Kl{X:Cx}{c:Ri}{F:aw->R Bool}(h:FT X c F):Ky X [c] F:=Fu h
theorem o4{ix:List (Option Nat)}{ρ:aw}{j:Nat}{x:S}(e:(inB ix ρ)[j]?=some (some x)):∃i d,ix[j]?=some (some i)/\ρ[i]?=some (some (.val d))/\x=.val d:=by
 unfold inB at e;rw[NT]at e;cases q:ix[j]? with
 |none=>rw[q]at e;cases e
 |some o=>
  rw[q]at e;cases o with
  |none=>cases e
  |some i=>
   have e':(match ρ[i]? with|some (some (.val d))=>some (S.val d)|_=>none)=some x:=Option.some.inj e;split at e'
   ·rename_i d hd;cases e';exact⟨i,d,rfl,hd,rfl⟩
   ·cases e'
theorem Ek{K:P5}{O:List Q4}{H:Hp}{ρ:aw}{σ:St}(ix:List (Option Nat))(E:eE K O H ρ σ):eE K O H (inB ix ρ) (inBlock ix σ):=by
 refine⟨λj d e=>?_,λj xs e=>?_,λj k xs ys a e=>?_,E.all⟩
 ·obtain⟨i,d',q1,q2,q3⟩:=o4 e;cases q3;obtain⟨v,e1,e2⟩:=E.val i d q2;refine⟨v,?_,e2⟩;unfold inBlock;rw[NT,q1];show some ((σ[i]?).getD none)=some (some v);rw[e1];rfl
 ·obtain⟨_,_,_,_,q3⟩:=o4 e;cases q3
 ·obtain⟨_,_,_,_,q3⟩:=o4 e;cases q3
theorem rZ{H:Hp}{O:List Q4}{p:Q4}{o:HO}(hp:H p=none):bE (hid H O) (hid (upd H p o) (p::O)):=λb u h=>by
 unfold hid at h ⊢;by_cases hb:b∈O
 ·rw[if_pos hb]at h;cases h
 ·rw[if_neg hb]at h;have ne:=bd h hp;rw[if_neg (by intro z;rcases List.mem_cons.mp z with z|z;exact ne z;exact hb z),aR ne];exact h
theorem eE.hideNew{K:P5}{O:List Q4}{H:Hp}{ρ:aw}{σ:St}{p:Q4}{o:HO}(m:tD o)(E:eE K O H ρ σ)(hp:H p=none):eE K (p::O) (upd H p o) ρ σ:=by
 have s:bE (hid H O) (hid (upd H p o) (p::O)):=rZ hp;refine⟨λi d e=>let ⟨v,a,b⟩:=E.val i d e;⟨v,a,b.mono s⟩,λi xs e=>?_,E.one,(E.all.same (cm hp o)).cons aZ m⟩;obtain⟨a,e1,e2,e3⟩:=E.own i xs e;obtain⟨u,hu⟩:=e3.some;exact⟨a,e1,Nv _ e2,e3.mono (by rw[aR (bd hu hp)]) s⟩
theorem eE.rewrite{K:P5}{O:List Q4}{H:Hp}{ρ:aw}{σ:St}{p:Q4}{o:HO}(m:tD o)(E:eE K O H ρ σ)(hp:p∈O)(hs:∀(i:Nat) xs,ρ[i]?=some (some (.own xs))->σ[i]?≠some (some (.ref p))):eE K O (upd H p o) ρ σ:=by
 have s:bE (hid H O) (hid (upd H p o) O):=jR hp;refine⟨λi d e=>let ⟨v,a,b⟩:=E.val i d e;⟨v,a,b.mono s⟩,λi xs e=>?_,E.one,E.all.upd hp m⟩;obtain⟨a,e1,e2,e3⟩:=E.own i xs e;have ne:a≠p:=λz=>hs i xs e (by rw[<-z];exact e1);exact⟨a,e1,e2,e3.mono (by rw[aR ne]) s⟩
theorem eE.forget{K:P5}{O:List Q4}{H:Hp}{ρ ρ':aw}{σ:St}(E:eE K O H ρ σ)(h:∀(i:Nat) x,ρ'[i]?=some (some x)->ρ[i]?=some (some x)):eE K O H ρ' σ:=
 ⟨λi d e=>E.val i d (h i _ e),λi xs e=>E.own i xs (h i _ e),λi j xs ys a e1 e2=>E.one i j xs ys a (h i _ e1) (h j _ e2),E.all⟩
def Fills(ρ:aw)(g:GF):Prop:=∀d ρ1,g d ρ=some ρ1->∀(i:Nat) x,ρ[i]?=some (some x)->ρ1[i]?=some (some x)
theorem vp(ix:List (Option Nat))(ρ:aw):∀(i:Nat) xs,(inB ix ρ)[i]?≠some (some (.own xs)):=by
 intro j xs e;obtain⟨_,_,_,_,q3⟩:=o4 e;cases q3
theorem IU{α:Type}{o:Option α}{a:α}(h:rO o=.ok a):o=some a:=by
 cases o with
 |none=>cases h
 |some b=>cases h;rfl
end TG
namespace TG
open PySem PySem.Spec L2
variable[aY]
section
variable{X:Cx}{elt tg iter:Ri}{ifs:List Ri}{scope:Rg}{pos:Pos}{N:List Str}{ix:List (Option Nat)}{G:aw->R (List D)}{g:GF}{C:aw->R Bool}{Fe:FX}
structure xQ(ix:List (Option Nat))(g:GF):Prop where
 fill:∀ρ,Fills (inB ix ρ) g
 own:∀ρ d ρ1,g d (inB ix ρ)=some ρ1->∀(i:Nat) xs,ρ1[i]?≠some (some (.own xs))
theorem wU{ρ:aw}{i:Nat}(h:ix[i]?=some none):∀x,(inB ix ρ)[i]?≠some (some x):=λx e=>by
 obtain⟨_,_,q,_⟩:=o4 e;rw[h]at q;cases q
theorem cf{i:Nat}(h:ix[i]?=some none):xQ ix (gN i):=
  ⟨fun ρ d ρ1 e j x q=>by
    cases e;by_cases z:j=i
    ·subst z;exact absurd q (wU h x)
    ·unfold setV;rw[Ny (Ne.symm z)];exact q,
   λρ d ρ1 e j xs q=>by
    cases e;rcases bq q with⟨_,z⟩|⟨_,z⟩
    ·cases z
    ·exact vp ix ρ j xs z⟩
def Ea(ix:List (Option Nat))(is:List Nat):Bool:=is.all λi=>match ix[i]? with
 |some none=>true
 |_=>false
def oo:List Nat->BX
 |[]=>Cw
 |i::is=>zc (gN i) (oo is)
theorem zv:∀(is:List Nat)(ds:List D)(ρ ρ1:aw),oo is ds ρ=some ρ1->∀(k:Nat)(x:S),ρ1[k]?=some (some x)->(k∈is/\∃d,x=.val d)\/ρ[k]?=some (some x)
 |[],ds,ρ,ρ1,h,k,x,e=>by
  cases ds with
  |nil=>cases h;exact .inr e
  |cons _ _=>cases h
 |i::is,ds,ρ,ρ1,h,k,x,e=>by
  cases ds with
  |nil=>cases h
  |cons d ds=>
   rcases zv is ds (setV i d ρ) ρ1 h k x e with⟨a,b⟩|q
   ·exact .inl ⟨Nv _ a,b⟩
   ·rcases bq q with⟨z,w⟩|⟨_,w⟩
    ·exact .inl ⟨by rw[z];exact Nu,d,Option.some.inj w⟩
    ·exact .inr w
theorem yh:∀(is:List Nat)(ds:List D)(ρ ρ1:aw),oo is ds ρ=some ρ1->∀(k:Nat)(x:S),k∉is->ρ[k]?=some (some x)->ρ1[k]?=some (some x)
 |[],ds,ρ,ρ1,h,k,x,_,e=>by
  cases ds with
  |nil=>cases h;exact e
  |cons _ _=>cases h
 |i::is,ds,ρ,ρ1,h,k,x,n,e=>by
  cases ds with
  |nil=>cases h
  |cons d ds=>
   refine yh is ds (setV i d ρ) ρ1 h k x (λz=>n (Nv _ z)) ?_;unfold setV;rw[Ny (λz=>n (by rw[z];exact Nu))];exact e
theorem jq{is:List Nat}{n:Nat}(h:Ea ix is=true):xQ ix (gT n (oo is)):=by
 have hn:∀i∈is,ix[i]?=some none:=λi hi=>by
  have:=List.all_eq_true.mp h i hi
  cases e:ix[i]? with
  |none=>rw[e]at this;cases this
  |some o=>cases o with
   |none=>rfl
   |some _=>rw[e]at this;cases this
 have shape:∀ρ d ρ1,gT n (oo is) d ρ=some ρ1->∃ds,oo is ds ρ=some ρ1:=λρ d ρ1 e=>by
  cases d with
  |tup xs=>
   have e':(if xs.length=n then oo is xs ρ else none)=some ρ1:=e;by_cases hl:xs.length=n
   ·rw[if_pos hl]at e';exact⟨xs,e'⟩
   ·rw[if_neg hl]at e';cases e'
  |_=>cases e
 refine⟨λρ d ρ1 e k x q=>?_,λρ d ρ1 e k xs q=>?_⟩
 ·obtain⟨ds,e⟩:=shape _ d ρ1 e;exact yh is ds _ ρ1 e k x (λz=>wU (hn k z) x q) q
 ·obtain⟨ds,e⟩:=shape _ d ρ1 e;rcases zv is ds _ ρ1 e k _ q with⟨_,d,z⟩|z
  ·cases z
  ·exact vp ix ρ k xs z
structure oI(X:Cx)(scope:Rg)(N:List Str)(ix:List (Option Nat)):Prop where
 cell:∀y∈scope.names,y.2≠.cell
 kind:scope.kind=.function
 names:∀y∈scope.names,y.2=.local->scope.names.lookup y.1=some .local
 free:∀y∈scope.names,y.2=.free->X.env.scope.names.lookup y.1=some .cell\/X.env.scope.names.lookup y.1=some .free
 ix:vS X.N N scope.names ix=true
def zS(XS:List (Str×RL))(XN:List Str)(scope:Rg)(N:List Str)(ix:List (Option Nat)):Bool:=
 scope.names.all (λy=>decide (y.2≠.cell))&&decide (scope.kind=.function)&&scope.names.all (λy=>decide (y.2≠.local)||decide (scope.names.lookup y.1=some .local)) &&
  scope.names.all (λy=>decide (y.2≠.free)||(decide (XS.lookup y.1=some .cell)||decide (XS.lookup y.1=some .free)))&&vS XN N scope.names ix
theorem oI.of(h:zS X.env.scope.names X.N scope N ix=true):oI X scope N ix:=by
 unfold zS at h;simp only[NZ]at h;obtain⟨⟨⟨⟨h1,h2⟩,h3⟩,h4⟩,h5⟩:=h;refine⟨λy hy=>of_decide_eq_true (List.all_eq_true.mp h1 y hy),of_decide_eq_true h2,λy hy e=>?_,λy hy e=>?_,h5⟩
 ·rcases Ow _ _ ▸ List.all_eq_true.mp h3 y hy with q|q
  ·exact absurd e (of_decide_eq_true q)
  ·exact of_decide_eq_true q
 ·rcases Ow _ _ ▸ List.all_eq_true.mp h4 y hy with q|q
  ·exact absurd e (of_decide_eq_true q)
  ·rcases Ow _ _ ▸ q with q|q
   ·exact .inl (of_decide_eq_true q)
   ·exact .inr (of_decide_eq_true q)
def J6(X:Cx)(scope:Rg)(N:List Str)(tg elt:Ri)(ifs:List Ri)(g:GF)(C:aw->R Bool)(Fe:FX):Prop:=
 ∀cl C' fp s H E,FG (cP X scope N cl C' fp s H E) tg g/\Ky (cP X scope N cl C' fp s H E) ifs C/\FE (cP X scope N cl C' fp s H E) elt Fe
def GQ(K:P5)(F:aw->R Bool):TT:=λσ H Q=>∃O ρ b,eE K O H ρ σ/\F ρ=.ok b/\∀H',bE H H'->Q b H'
def Ms(K:P5)(F:FX):TE:=λσ H Q=>∃O ρ d,eE K O H ρ σ/\F ρ=.ok d/\∀v H',bE H H'->cY K (hid H' O) d v->Q v H'
theorem J6.k(hb:J6 X scope N tg elt ifs g C Fe):∀cl C' fp s H E,PG (cP X scope N cl C' fp s H E) tg (Kp X.K g)/\GR (cP X scope N cl C' fp s H E) ifs (GQ X.K C)/\PE (cP X scope N cl C' fp s H E) elt (Ms X.K Fe):=λcl C' fp s H E=>by
 obtain⟨h1,h2,h3⟩:=hb cl C' fp s H E;refine⟨h1,λpins s σ H Q I ⟨O,ρ,b,e1,e2,q⟩=>h2 pins s σ H Q I ⟨O,ρ,e1,by rw[e2];exact q⟩,λpins s σ H Q I ⟨O,ρ,d,e1,e2,q⟩=>h3 pins s σ H Q I ⟨O,ρ,e1,by rw[e2];exact q⟩⟩
def ML(X:Cx)(F:FX):TE:=λσ H Q=>∃O ρ,eE X.K O H ρ σ/\jj X σ O H (F ρ) λd=>∀D H' total acc,d=.lst total->bE H H'->H D=none->H' D=some (.lst acc)->bh X.K (hid H' (D::O)) total acc->Q (.ref D) H'
theorem Lr{F:FX}:∀σ H Q,tF X F σ H Q->ML X F σ H Q:=λσ H Q ⟨O,ρ,E,hF⟩=>⟨O,ρ,E,hF.imp λd q D H' total acc e sm hD hD' dn=>by
 subst e;have DO:D∉O:=E.all.not hD;exact q _ H' sm (cT.mpr ⟨D,acc,rfl,ot.of (by rw[jU DO];exact hD'),dn.mono (js λa ha=>Nv _ ha)⟩)⟩
theorem JQ(tk:xQ ix g):∀σ H Q,ML X (jy ix G g C Fe) σ H Q->J5 (LV X G) (Kp X.K g) (GQ X.K C) (Ms X.K Fe) ix σ H Q:=λσ H Q ⟨O,ρ,E,hF⟩=>by
 refine⟨O,ρ,E,(jj.bind hF).imp λds hF=>?_⟩;have hz:small ds.length=true:=by
  cases e:small ds.length with
  |true=>rfl
  |false=>rw[e]at hF;exact hF.elim
 rw[hz,if_pos rfl]at hF;cases hL:A3 (inB ix ρ) g C Fe ds with
 |error z=>rw[hL]at hF;exact hF.elim
 |ok total=>
 rw[hL]at hF;have q:∀D H' total' acc,TG.D.lst total=.lst total'->bE H H'->H D=none->H' D=some (.lst acc)->bh X.K (hid H' (D::O)) total' acc->Q (.ref D) H':=hF;have e2:=hL;have hfill:=tk.fill;have hown:=tk.own;refine λJ H1 s1 wk D hD=>?_;have E1:eE X.K (D::O) (upd H1 D (.lst [])) (inB ix ρ) (inBlock ix σ):=((Ek ix E).same s1).hideNew trivial hD;have DO:D∉O:=(E.all.same s1).not hD;refine⟨λi m σ' H'=>m=ds.length-i/\i<=ds.length/\bE H1 H'/\eE X.K (D::O) H' (inB ix ρ) σ'/\∃acc dn rest,H' D=some (.lst acc)/\acc.length<=i/\bh X.K (hid H' (D::O)) dn acc/\A3 (inB ix ρ) g C Fe (ds.drop i)=.ok rest/\dn++rest=total,
  ⟨ds.length,by rw[OC],NK _,cm hD _,E1,[],[],total,aZ,NB _,df.mpr rfl,by rw[Oj];exact e2,rfl⟩,?_⟩
 rintro i m σ' H' ⟨rfl,hi,sm,E',acc,dn,rest,hacc,hlen,hdn,hrest,htot⟩;have sH:bE (hid H1 O) (hid H' (D::O)):=λb o h=>by
  have h2:=sm b o (aI H1 O b o h);unfold hid at h ⊢;by_cases hb:b∈O
  ·rw[if_pos hb]at h;cases h
  ·rw[if_neg hb]at h;have ne:b≠D:=bd h hD;rw[if_neg (by intro z;rcases List.mem_cons.mp z with z|z;exact ne z;exact hb z)];exact h2
 by_cases hlt:i<ds.length
 ·right;obtain⟨go,yl⟩:=(wk H' (D::O) i E'.all sH).1 ds[i] (by simp[hlt]);refine⟨go,λx H2 y=>?_⟩;obtain⟨s2,dx'⟩:=yl x H2 y;have E':=E'.same s2;have sm:=sm.trans s2;have hacc:=s2 _ _ hacc;have hdn:=hdn.mono (cI s2);rw[OG hlt,oR]at hrest;obtain⟨ρ1,g1,hrest⟩:=qY hrest;have g1:=IU g1;obtain⟨c,c1,hrest⟩:=qY hrest;have c1:=Du c1;refine⟨D::O,inB ix ρ,ds[i],ρ1,E',dx',g1,λσ3 E3 _=>?_⟩;refine⟨D::O,ρ1,c,E3,c1,λH4 s4=>?_⟩;have E4:=E3.same s4;have back:∀{H5:Hp},eE X.K (D::O) H5 ρ1 σ3->eE X.K (D::O) H5 (inB ix ρ) σ3:=λz=>z.forget λj x e=>hfill ρ _ _ g1 j x e;cases c with
  |true=>
   refine Dc ?_;rw[if_pos rfl]at hrest;obtain⟨v,v1,hrest⟩:=qY hrest;have v1:=Du v1;obtain⟨r,r1,hrest⟩:=qY hrest;cases hrest;refine⟨D::O,ρ1,v,E4,v1,λw H5 s5 dw=>?_⟩;have s45:=s4.trans s5;have ha5:H5 D=some (.lst acc):=s45 _ _ hacc;have hzl:ds.length<Q7:=OH (of_decide_eq_true hz) (by decide);refine⟨acc,ha5,by omega,ds.length-(i+1),by omega,rfl,hlt,?_,?_,acc++[w],dn++[v],r,aZ,by rw[NV,N1];omega,?_,r1,by rw[OI];exact htot⟩
   ·intro b o h;rw[aR (bd h hD)];exact s45 _ _ (sm _ _ h)
   ·exact back ((E3.same s45).rewrite trivial Nu λj xs e=>absurd e (hown ρ _ _ g1 j xs))
   ·have s6:bE (hid H5 (D::O)) (hid (upd H5 D (.lst (acc++[w]))) (D::O)):=jR Nu;exact(hdn.mono ((cI s45).trans s6)).snoc (dw.mono s6)
  |false=>
   refine Ce ?_;rw[if_neg NF]at hrest;exact⟨ds.length-(i+1),by omega,rfl,hlt,sm.trans s4,back E4,acc,dn,rest,s4 _ _ hacc,by omega,hdn.mono (cI s4),hrest,htot⟩
 ·left;have ei:i=ds.length:=by omega
  subst ei;refine⟨(wk H' (D::O) ds.length E'.all sH).2 rfl,?_⟩;rw[OJ]at hrest;cases hrest;rw[NM]at htot;subst htot;exact q D H' _ acc rfl (s1.trans sm) (s1.free hD) hacc hdn
theorem Gf(tk:xQ ix g):∀σ H Q,tF X (jy ix G g C Fe) σ H Q->J5 (LV X G) (Kp X.K g) (GQ X.K C) (Ms X.K Fe) ix σ H Q:=λσ H Q h=>JQ tk σ H Q (Lr σ H Q h)
theorem MS(hc:X.calm=true)(ok:oI X scope N ix)(tk:xQ ix g)(hi:FI X tg iter G)(hb:J6 X scope N tg elt ifs g C Fe)
  (hs:∀x,Rv iter X.env x=pure x:=by intro _;rfl):FE X (.ListComp elt [⟨tg,iter,ifs,0⟩] scope pos) (jy ix G g C Fe):=
 PE.weak (IT hc ok.cell ok.kind ok.names ok.free ok.ix hi hb.k hs) (Gf tk)
end
structure Ks where
 nx:aw->R D
 bk:aw->R D:=λ_=>un
 ct:aw->R D:=λ_=>un
 ex:Ex->aw->R D:=λx _=>.error (some x)
abbrev cG:=Ks->aw->R D
def tx{α:Type}(r:R α)(k:Ks)(ρ:aw)(f:α->R D):R D:=match r with
 |.ok a=>f a
 |.error (some x)=>k.ex x ρ
 |.error none=>un
structure Base(Hb:Hp)(Ob:List Q4)(H:Hp)(O:List Q4):Prop where
 same:bE Hb H
 sub:∀a∈Ob,a∈O
 new:∀a∈O,a∈Ob\/Hb a=none
def sR(K:P5)(H:Hp)(O:List Q4):List Q4->List D->Prop
 |[],[]=>True
 |b::bs,x::xs=>eQ K H O b x/\sR K H O bs xs
 |_,_=>False
def vn(K:P5)(H:Hp)(O:List Q4)(a:Q4)(bs:List Q4)(d:D):Prop:=
 ∃xs,sR K H O bs xs/\((d=.lst xs/\H a=some (.lst (bs.map .ref)))\/(∃kvs:List (List Key×V),d=.dct (kvs.map λp=>.tup (p.1.map bM)) xs/\H a=some (.dT kvs)/\kvs.map (·.2)=bs.map .ref)\/(d=.dct [] xs/\bs=[]/\H a=some (.dK [])))
def Am(K:P5)(Hb:Hp)(Ob O:List Q4)(H:Hp)(ρ:aw)(σ:St)(i:Nat)(d:D):Prop:=
 ∃a bs,σ[i]?=some (some (.ref a))/\vn K H O a bs d/\(a::bs).Nodup/\(∀b∈a::bs,b∈O/\Hb b=none/\b∉Ob/\∀(j:Nat) d',ρ[j]?=some (some (.own d'))->σ[j]?≠some (some (.ref b)))/\∀(j:Nat) d',ρ[j]?=some (some (.nest d'))->j=i
theorem sR.mono{K:P5}{H H':Hp}{O O':List Q4}(s:bE (hid H O) (hid H' O')):∀{bs:List Q4}{xs:List D},sR K H O bs xs->(∀b∈bs,(∃o,H b=some o)->H' b=H b)->sR K H' O' bs xs
 |[],[],_,_=>trivial
 |b::bs,x::xs,h,e=>⟨h.1.mono (e b Nu h.1.some).symm s,sR.mono s h.2 λb' hb=>e b' (Nv _ hb)⟩
 |[],_::_,h,_=>h.elim
 |_::_,[],h,_=>h.elim
theorem sR.some{K:P5}{H:Hp}{O:List Q4}:∀{bs:List Q4}{xs:List D},sR K H O bs xs->∀b∈bs,∃o,H b=some o
 |[],_,_,_,hb=>nomatch hb
 |b::bs,x::xs,h,b',hb=>by
  rcases List.mem_cons.mp hb with z|z
  ·rw[z];exact h.1.some
  ·exact sR.some h.2 b' z
 |_::_,[],h,_,_=>h.elim
theorem vn.some{K:P5}{H:Hp}{O:List Q4}{a:Q4}{bs:List Q4}{d:D}(h:vn K H O a bs d):∀b∈a::bs,∃o,H b=some o:=λb hb=>by
 obtain⟨xs,h1,h2⟩:=h;rcases List.mem_cons.mp hb with z|z
 ·rw[z];rcases h2 with⟨_,q⟩|⟨_,_,q,_⟩|⟨_,_,q⟩<;>exact⟨_,q⟩
 ·exact h1.some b z
theorem vn.mono{K:P5}{H H':Hp}{O O':List Q4}{a:Q4}{bs:List Q4}{d:D}(h:vn K H O a bs d)(s:bE (hid H O) (hid H' O'))(e:∀b∈a::bs,(∃o,H b=Option.some o)->H' b=H b):vn K H' O' a bs d:=by
 have ea:=e a Nu (h.some a Nu);obtain⟨xs,h1,h2⟩:=h;refine⟨xs,h1.mono s λb hb=>e b (Nv _ hb),?_⟩;rw[ea];exact h2
theorem Am.to{K:P5}{Hb Hb':Hp}{Ob O O':List Q4}{H H':Hp}{ρ ρ':aw}{σ σ':St}{i:Nat}{d:D}(h:Am K Hb Ob O H ρ σ i d)(hσ:σ'[i]?=σ[i]?)(s:bE (hid H O) (hid H' O'))
  (k:∀b,b∈O->Hb b=none->b∉Ob->(∀(j:Nat) d',ρ[j]?=some (some (.own d'))->σ[j]?≠some (some (.ref b)))->(∃o,H b=some o)->H' b=H b/\b∈O'/\Hb' b=none/\∀(j:Nat) d',ρ'[j]?=some (some (.own d'))->σ'[j]?≠some (some (.ref b)))
  (n:∀(j:Nat) d',ρ'[j]?=some (some (.nest d'))->∃d2,ρ[j]?=some (some (.nest d2))):Am K Hb' Ob O' H' ρ' σ' i d:=by
 obtain⟨a,bs,h1,h2,h3,h4,h5⟩:=h;refine⟨a,bs,hσ.trans h1,h2.mono s λb hb ho=>?_,h3,λb hb=>?_,λj d' q=>?_⟩
 ·obtain⟨q1,q2,q3,q4⟩:=h4 b hb;exact(k b q1 q2 q3 q4 ho).1
 ·obtain⟨q1,q2,q3,q4⟩:=h4 b hb;obtain⟨_,w2,w3,w4⟩:=k b q1 q2 q3 q4 (h2.some b hb);exact⟨w2,w3,q3,w4⟩
 ·obtain⟨d2,q⟩:=n j d' q;exact h5 j d2 q
structure eD(K:P5)(Hb:Hp)(Ob O:List Q4)(H:Hp)(ρ:aw)(σ:St):Prop where
 env:eE K O H ρ σ
 base:Base Hb Ob H O
 mine:∀(i:Nat) xs a,ρ[i]?=some (some (.own xs))->σ[i]?=some (some (.ref a))->Hb a=none/\a∉Ob
 nst:∀(i:Nat) d,ρ[i]?=some (some (.nest d))->Am K Hb Ob O H ρ σ i d
theorem Base.same'{Hb:Hp}{Ob:List Q4}{H H':Hp}{O:List Q4}(b:Base Hb Ob H O)(s:bE H H'):Base Hb Ob H' O:=⟨b.same.trans s,b.sub,b.new⟩
theorem eD.same{K:P5}{Hb:Hp}{Ob O:List Q4}{H H':Hp}{ρ:aw}{σ:St}(h:eD K Hb Ob O H ρ σ)(s:bE H H'):eD K Hb Ob O H' ρ σ:=⟨h.env.same s,h.base.same' s,h.mine,λi d q=>(h.nst i d q).to rfl (cI s) (λb q1 q2 q3 q4 ⟨o,ho⟩=>⟨by rw[ho,s _ _ ho],q1,q2,q4⟩) λj d' z=>⟨d',z⟩⟩
theorem eD.after{K:P5}{Hb:Hp}{Ob O:List Q4}{H:Hp}{ρ ρ':aw}{σ σ':St}(S:eD K Hb Ob O H ρ σ)(E':eE K O H ρ' σ')(own:∀(i:Nat) x,ρ'[i]?=some (some x)->(∀d,x≠.val d)->σ'[i]?=σ[i]?/\ρ[i]?=some (some x)):eD K Hb Ob O H ρ' σ':=
 ⟨E',S.base,fun i xs a q1 q2=>by
  obtain⟨w1,w2⟩:=own i _ q1 (λ_ z=>nomatch z);rw[w1]at q2;exact S.mine i xs a w2 q2,λi d q=>by
  obtain⟨w1,w2⟩:=own i _ q (λ_ z=>nomatch z);refine(S.nst i d w2).to w1 (λ_ _ z=>z) (λb q1 q2 q3 q4 _=>⟨rfl,q1,q2,λl d' w=>?_⟩) λl d' w=>⟨d',(own l _ w (λ_ z=>nomatch z)).2⟩
  obtain⟨z1,z2⟩:=own l _ w (λ_ z=>nomatch z);rw[z1];exact q4 l d' z2⟩
structure KH(X:Cx)(Hb:Hp)(Ob:List Q4)(E:Ends)(k:Ks)(r:R D):Prop where
 ne:r≠un
 nx:∀O ρ σ H,eD X.K Hb Ob O H ρ σ->k.nx ρ=r->E.nx σ H
 bk:∀O ρ σ H,eD X.K Hb Ob O H ρ σ->k.bk ρ=r->E.bk σ H
 ct:∀O ρ σ H,eD X.K Hb Ob O H ρ σ->k.ct ρ=r->E.ct σ H
 rt:∀d O v H,r=.ok d->Base Hb Ob H O->cY X.K (hid H O) d v->E.rt v H
 ex:∀O ρ σ H x,eD X.K Hb Ob O H ρ σ->k.ex x ρ=r->HX X σ O H x
def LK(X:Cx)(Hb:Hp)(Ob:List Q4)(F:cG):TS:=λE σ H=>∃O ρ k r,eD X.K Hb Ob O H ρ σ/\F k ρ=r/\KH X Hb Ob E k r
def FS(X:Cx)(st:Rl)(F:cG):Prop:=∀Hb Ob,PS X st (LK X Hb Ob F)
def yo(X:Cx)(st:List Rl)(F:cG):Prop:=∀Hb Ob,BR X st (LK X Hb Ob F)
theorem jj.on{X:Cx}{Hb:Hp}{Ob O:List Q4}{H:Hp}{ρ:aw}{σ:St}{E:Ends}{k:Ks}{r:R D}{α:Type}{fr:R α}{G:α->R D}{Q:α->Prop}(h:tx fr k ρ G=r)(hk:KH X Hb Ob E k r)(S:eD X.K Hb Ob O H ρ σ)(q:∀a,G a=r->Q a):jj X σ O H fr Q:=by
 match fr,h with
 |.ok a,h=>exact q a h
 |.error (some x),h=>exact hk.ex O ρ σ H x S h
 |.error none,h=>exact absurd h.symm hk.ne
section
variable{X:Cx}{st:Rl}{rest body:List Rl}{pos:Pos}
def cB:cG:=λk ρ=>k.nx ρ
def aH(F1 F2:cG):cG:=λk ρ=>F1 {k with nx:=F2 k} ρ
theorem Kg:yo X [] cB:=λHb Ob=>BR.weak EV λE σ H ⟨O,ρ,k,r,S,hF,hk⟩=>hk.nx O ρ σ H S hF
theorem Jb{F1 F2:cG}(h1:FS X st F1)(h2:yo X rest F2):yo X (st::rest) (aH F1 F2):=λHb Ob=>BR.weak (C8 (h1 Hb Ob) (h2 Hb Ob)) λE σ H ⟨O,ρ,k,r,S,hF,hk⟩=>
 ⟨O,ρ,{k with nx:=F2 k},r,S,hF,hk.ne,λO' ρ' σ' H' S' e=>⟨O',ρ',k,r,S',e,hk⟩,hk.bk,hk.ct,hk.rt,hk.ex⟩
theorem Km{F1:cG}(h1:FS X st F1):yo X [st] F1:=λHb Ob=>Em (h1 Hb Ob)
def bP(f:FX):cG:=λk ρ=>tx (f ρ) k ρ .ok
theorem KJ{e:Ri}{f:FX}(h:FE X e f):FS X (.Return (some e) pos) (bP f):=λHb Ob=>PS.weak (G3 h) λE σ H ⟨O,ρ,k,r,S,hF,hk⟩=>
 ⟨O,ρ,S.env,jj.on hF hk S λd e v H' s' d'=>hk.rt d O v H' e.symm (S.base.same' s') d'⟩
def JX:cG:=λ_ _=>.ok .non
def jx(c:aw->R Bool)(A B:cG):cG:=λk ρ=>tx (c ρ) k ρ λb=>if b then A k ρ else B k ρ
theorem MH{c:Ri}{a b:List Rl}{tc:aw->R Bool}{A B:cG}(hc:FT X c tc)(ha:yo X a A)(hb:yo X b B):FS X (.If c a b pos) (jx tc A B):=λHb Ob=>PS.weak (IR hc (ha Hb Ob) (hb Hb Ob)) λE σ H ⟨O,ρ,k,r,S,hF,hk⟩=>
 ⟨O,ρ,S.env,jj.on hF hk S fun z e H1 s1=>by
  cases z with
  |true=>exact Dc ⟨O,ρ,k,r,S.same s1,e,hk⟩
  |false=>exact Ce ⟨O,ρ,k,r,S.same s1,e,hk⟩⟩
def bI(i:Nat)(f:FX):cG:=λk ρ=>tx (f ρ) k ρ λd=>k.nx (setV i d ρ)
theorem eD.setV{K:P5}{Hb:Hp}{Ob O:List Q4}{H:Hp}{ρ:aw}{σ:St}(E:eD K Hb Ob O H ρ σ){i:Nat}{d:D}{v:V}(hi:i<σ.length)(hd:cY K (hid H O) d v):eD K Hb Ob O H (setV i d ρ) (σ.set i (some v)):=
  ⟨E.env.setV hi hd,E.base,fun j xs a e1 e2=>by
    rcases bq e1 with⟨_,q⟩|⟨ne,q⟩
    ·cases q
    · rw[Ny (Ne.symm ne)]at e2
      exact E.mine j xs a q e2,
   λj dn e=>by
    rcases bq e with⟨_,q⟩|⟨ne,q⟩
    ·cases q
    · refine(E.nst j dn q).to (Ny (Ne.symm ne)) (λ_ _ z=>z) (λb q1 q2 q3 q4 _=>⟨rfl,q1,q2,λl d' w=>?_⟩) λl d' w=>?_
      · rcases bq w with⟨_,z⟩|⟨nl,z⟩
        ·cases z
        ·rw[Ny (Ne.symm nl)];exact q4 l d' z
      · rcases bq w with⟨_,z⟩|⟨_,z⟩
        ·cases z
        ·exact⟨d',z⟩⟩
theorem uV{f:FX}{i:Nat}(hi:i<X.N.length)(h:PS X st (Dr (tF X f) (uf i))):FS X st (bI i f):=λHb Ob pins s σ H E I ⟨O,ρ,k,r,S,hF,hk⟩=>
 h pins s σ H E I ⟨O,ρ,S.env,jj.on hF hk S λd e v H1 s1 d1=>hk.nx O _ _ H1 ((S.same s1).setV (by rw[I.len];exact hi) d1) e⟩
theorem Mr{i:Nat}{x:Str}{e:Ri}{f:FX}{pos':Pos}(hN:X.N.Nodup)(hi:X.N[i]?=some x)(hx:Loc X.env.scope x)(he:FE X e f)(hs:swapsWith e (some (.Name x pos')) pos.line X.env=pure false:=by rfl)(hf:X.fn x=true\/X.env.scope.names.lookup x=some .local:=by first|exact .inl rfl|exact .inr rfl|assumption):
  FS X (.Assign [.Name x pos'] e pos) (bI i f):=uV (List.getElem?_eq_some_iff.mp hi).1 (zo hN hi hx he hs hf)
theorem MG{elt tg iter:Ri}{ifs:List Ri}{scope:Rg}{N:List Str}{ix:List (Option Nat)}{G:aw->R (List D)}{g:GF}{C:aw->R Bool}{Fe:FX}{i:Nat}{y:Str}{lpos py spos:Pos}(hN:X.N.Nodup)(hi':X.N[i]?=some y)(hx:Loc X.env.scope y)
  (hc:X.calm=true) (ok:oI X scope N ix) (tk:xQ ix g) (hi:FI X tg iter G) (hb:J6 X scope N tg elt ifs g C Fe)
  (hsw:swapsWith (.ListComp elt [⟨tg,iter,ifs,0⟩] scope lpos) (some (.Name y py)) spos.line X.env=pure true:=by rfl)
  (hs:∀x,Rv iter X.env x=pure x:=by intro _;rfl)
  (hf:X.fn y=true\/X.env.scope.names.lookup y=some .local:=by first|exact .inl rfl|exact .inr rfl|assumption):
  FS X (.Assign [.Name y py] (.ListComp elt [⟨tg,iter,ifs,0⟩] scope lpos) spos) (bI i (jy ix G g C Fe)):=
 uV (List.getElem?_eq_some_iff.mp hi').1 (PS.weak (Il hN hi' hx hc ok.cell ok.kind ok.names ok.free ok.ix hi hb.k hsw hs hf) λE σ H q=>Gf tk σ H _ q)
def EF(f:FX)(g:GF):cG:=λk ρ=>tx (f ρ) k ρ λd=>(rO (g d ρ)).bind k.nx
theorem Lc{tg e:Ri}{f:FX}{g:GF}(he:FE X e f)(hg:FG X tg g)(hs:swapsWithSole [tg] e pos.line X.env=pure false:=by rfl)(hw:swappedStores [tg] e X.env=pure none:=by rfl)
  (h1:(assignEach [tg] X.env).map (·.2)=[assign tg X.env]:=by rfl):FS X (.Assign [tg] e pos) (EF f g):=λHb Ob=>PS.weak (Gy he hg hs hw h1) λE σ H ⟨O,ρ,k,r,S,hF,hk⟩=>
 ⟨O,ρ,S.env,jj.on hF hk S fun d e v H1 s1 d1=>by
  cases hg:g d ρ with
  |none=>rw[hg]at e;exact absurd e.symm hk.ne
  |some ρ1=>
   rw[hg]at e;refine⟨O,ρ,d,ρ1,(S.same s1).env,d1,hg,λσ' E' own=>hk.nx O ρ1 σ' H1 ((S.same s1).after E' own) e⟩⟩
def si:cG:=λ_ _=>un
theorem J9:FS X st si:=λHb Ob pins s σ H E I ⟨O,ρ,k,r,S,hF,hk⟩=>absurd hF.symm hk.ne
def kill(is:List Nat)(ρ:aw):aw:=is.foldl (λρ i=>ρ.set i none) ρ
theorem ko:∀(is:List Nat)(ρ:aw)(i:Nat)(x:S),(kill is ρ)[i]?=some (some x)->ρ[i]?=some (some x)
 |[],ρ,i,x,e=>e
 |j::is,ρ,i,x,e=>by
  rcases bq (ko is (ρ.set j none) i x e)with⟨_,q⟩|⟨_,q⟩
  ·cases q
  ·exact q
theorem eD.kill{K:P5}{Hb:Hp}{Ob O:List Q4}{H:Hp}{ρ:aw}{σ:St}(E:eD K Hb Ob O H ρ σ)(is:List Nat):eD K Hb Ob O H (kill is ρ) σ:=
 ⟨E.env.forget (ko is ρ),E.base,λi xs a e1 e2=>E.mine i xs a (ko is ρ i _ e1) e2,λi d q=>(E.nst i d (ko is ρ i _ q)).to rfl (λ_ _ z=>z) (λb q1 q2 q3 q4 _=>⟨rfl,q1,q2,λl d' w=>q4 l d' (ko is ρ l _ w)⟩) λl d' w=>⟨d',ko is ρ l _ w⟩⟩
def eP(is:List Nat)(F:cG):cG:=λk ρ=>F k (kill is ρ)
theorem Iu{st:List Rl}{F:cG}(is:List Nat)(h:yo X st F):yo X st (eP is F):=λHb Ob=>BR.weak (h Hb Ob) λE σ H ⟨O,ρ,k,r,S,hF,hk⟩=>⟨O,TG.kill is ρ,k,r,S.kill is,hF,hk⟩
end
def jX(g:GF)(B:cG)(k:Ks):List D->aw->R D
 |[],ρ=>k.nx ρ
 |d::ds,ρ=>(rO (g d ρ)).bind λρ1=>B ⟨jX g B k ds,k.nx,jX g B k ds,k.ex⟩ ρ1
def lu(G:aw->R (List D))(g:GF)(B:cG):cG:=λk ρ=>tx (G ρ) k ρ λds=>jX g B k ds ρ
def lb(H:Hp)(O Ob:List Q4):Hp:=λb=>if b∈O/\b∉Ob then none else H b
theorem wt{H:Hp}{O Ob:List Q4}{b:Q4}(h1:b∈O)(h2:b∉Ob):lb H O Ob b=none:=by unfold lb;rw[if_pos ⟨h1,h2⟩]
theorem Fi{H:Hp}{O Ob:List Q4}{b:Q4}{o:HO}(h:lb H O Ob b=some o):H b=some o/\¬(b∈O/\b∉Ob):=by
 unfold lb at h;split at h
 ·cases h
 ·rename_i n;exact⟨h,n⟩
theorem C4{H:Hp}{O Ob:List Q4}{b:Q4}{o:HO}(h:H b=some o)(n:¬(b∈O/\b∉Ob)):lb H O Ob b=some o:=by unfold lb;rw[if_neg n];exact h
theorem Base.loop{Hb:Hp}{Ob:List Q4}{H:Hp}{O:List Q4}(b:Base Hb Ob H O):Base (lb H O Ob) Ob H O:=
 ⟨fun c o h=>(Fi h).1,b.sub,fun a ha=>by
  by_cases h:a∈Ob
  ·exact .inl h
  ·exact .inr (wt ha h)⟩
theorem Base.back{Hb:Hp}{Ob:List Q4}{H H':Hp}{O O':List Q4}(b:Base Hb Ob H O)(b':Base (lb H O Ob) Ob H' O'):Base Hb Ob H' O':=by
 have up:bE Hb (lb H O Ob):=λc o h=>C4 (b.same c o h) λ⟨z1,z2⟩=>by
  rcases b.new c z1 with z|z
  ·exact z2 z
  ·rw[z]at h;cases h
 exact⟨up.trans b'.same,b'.sub,λa ha=>(b'.new a ha).imp id up.free⟩
theorem eD.loop{K:P5}{Hb:Hp}{Ob O:List Q4}{H:Hp}{ρ:aw}{σ:St}(E:eD K Hb Ob O H ρ σ):eD K (lb H O Ob) Ob O H ρ σ:=
 ⟨E.env,E.base.loop,fun i xs a e1 e2=>by
  obtain⟨_,n⟩:=E.mine i xs a e1 e2;obtain⟨a',e3,e4,_⟩:=E.env.own i xs e1;rw[e2]at e3;cases e3;exact⟨wt e4 n,n⟩,λi d q=>(E.nst i d q).to rfl (λ_ _ z=>z) (λb q1 q2 q3 q4 _=>⟨rfl,q1,wt q1 q3,q4⟩) λl d' w=>⟨d',w⟩⟩
theorem eD.back{K:P5}{Hb:Hp}{Ob O O':List Q4}{H H':Hp}{ρ':aw}{σ':St}(b:Base Hb Ob H O)(E:eD K (lb H O Ob) Ob O' H' ρ' σ'):eD K Hb Ob O' H' ρ' σ':=
 have up:bE Hb (lb H O Ob):=λc o h=>C4 (b.same c o h) λ⟨z1,z2⟩=>by
  rcases b.new c z1 with z|z
  ·exact z2 z
  ·rw[z]at h;cases h
 ⟨E.env,b.back E.base,fun i xs a e1 e2=>by
  obtain⟨z,n⟩:=E.mine i xs a e1 e2;exact⟨up.free z,n⟩,λi d q=>(E.nst i d q).to rfl (λ_ _ z=>z) (λb q1 q2 q3 q4 _=>⟨rfl,q1,up.free q2,q4⟩) λl d' w=>⟨d',w⟩⟩
theorem Ca{Hb:Hp}{Ob O O':List Q4}{H H':Hp}(b:Base Hb Ob H O)(b':Base (lb H O Ob) Ob H' O'):bE (hid H O) (hid H' O'):=λc o h=>by
 unfold hid at h ⊢;by_cases hc:c∈O
 ·rw[if_pos hc]at h;cases h
 ·rw[if_neg hc]at h;have h1:lb H O Ob c=some o:=C4 h λz=>hc z.1;rw[if_neg]
  ·exact b'.same _ _ h1
  ·intro z;rcases b'.new c z with z|z
   ·exact hc (b.sub c z)
   ·rw[h1]at z;cases z
theorem KH.loop{X:Cx}{Hb:Hp}{Ob O:List Q4}{H:Hp}{E E':Ends}{k k':Ks}{r:R D}(hk:KH X Hb Ob E k r)(b:Base Hb Ob H O)(hn:∀O' ρ' σ' H',eD X.K (lb H O Ob) Ob O' H' ρ' σ'->k'.nx ρ'=r->E'.nx σ' H')(hc:∀O' ρ' σ' H',eD X.K (lb H O Ob) Ob O' H' ρ' σ'->k'.ct ρ'=r->E'.ct σ' H')
    (eb:k'.bk=k.nx) (ee:k'.ex=k.ex) (Eb:E'.bk=E.nx) (Er:E'.rt=E.rt):KH X (lb H O Ob) Ob E' k' r:=
  ⟨hk.ne,hn,fun O' ρ' σ' H' S e=>by rw [Eb]; exact hk.nx O' ρ' σ' H' (S.back b) (by rw [<- eb]; exact e),hc,fun d O' v H' e b' dv=>by rw [Er]; exact hk.rt d O' v H' e (b.back b') dv,
   λO' ρ' σ' H' x S e=>hk.ex O' ρ' σ' H' x (S.back b) (by rw[<-ee];exact e)⟩
section
variable{X:Cx}{st:Rl}{rest body:List Rl}{pos:Pos}
theorem LR{tg iter:Ri}{G:aw->R (List D)}{g:GF}{B:cG}(hp:Ru (model X.prog X.w) X.A X.env X.xe)(hc:X.calm=true)(hi:FI X tg iter G)(hg:FG X tg g)(hb:yo X body B)
  (hs:∀x,Rv iter X.env x=pure x:=by intro _;rfl):FS X (.For tg iter body [] pos) (lu G g B):=λHb Ob pins s σ H E I ⟨O,ρ,k,r,S,hF,hk⟩=>by
 have hall:BR X body (λE σ H=>∃Hb',LK X Hb' Ob B E σ H):=λpins s σ H E I ⟨Hb',q⟩=>hb Hb' Ob pins s σ H E I q;refine GA hp hc hi hg hall hs pins s σ H E I ⟨O,ρ,S.env,jj.on hF hk S λds hF J H1 s1 wk=>?_⟩;have E1:=S.same s1;refine⟨λi m σ H=>m=ds.length-i/\i<=ds.length/\∃O' ρ',eD X.K (lb H1 O Ob) Ob O' H ρ' σ/\jX g B k (ds.drop i) ρ'=r,
  ⟨ds.length,by rw[OC],NK _,O,ρ,E1.loop,by rw[Oj];exact hF⟩,?_⟩
 rintro i m σ' H' ⟨rfl,hi',O',ρ',E',hr⟩;have sD:=Ca E1.base E'.base;by_cases hlt:i<ds.length
 ·right;obtain⟨go,yl⟩:=(wk H' O' i E'.env.all sD).1 ds[i] (by simp[hlt]);refine⟨go,λσ2 H2=>ds.length-(i+1)=ds.length-(i+1)/\i+1<=ds.length/\∃O' ρ',eD X.K (lb H1 O Ob) Ob O' H2 ρ' σ2/\jX g B k (ds.drop (i+1)) ρ'=r,λσ2 H2 z=>⟨ds.length-(i+1),by omega,z⟩,λx H2 y=>?_⟩;obtain⟨s2,dx⟩:=yl x H2 y;have E':=E'.same s2;rw[OG hlt]at hr;cases hg':g ds[i] ρ' with
  |none=>
   have hr':(rO (g ds[i] ρ')).bind (λρ1=>B ⟨jX g B k (ds.drop (i+1)),k.nx,jX g B k (ds.drop (i+1)),k.ex⟩ ρ1)=r:=hr;rw[hg']at hr';exact absurd hr'.symm hk.ne
  |some ρ1=>
   have hr':(rO (g ds[i] ρ')).bind (λρ1=>B ⟨jX g B k (ds.drop (i+1)),k.nx,jX g B k (ds.drop (i+1)),k.ex⟩ ρ1)=r:=hr;rw[hg']at hr';refine⟨O',ρ',ds[i],ρ1,E'.env,dx,hg',λσ3 E3 own=>?_⟩;have E3':eD X.K (lb H1 O Ob) Ob O' H2 ρ1 σ3:=E'.after E3 own;exact⟨lb H1 O Ob,O',ρ1,⟨jX g B k (ds.drop (i+1)),k.nx,jX g B k (ds.drop (i+1)),k.ex⟩,r,E3',hr',hk.loop E1.base (λO4 ρ4 σ4 H4 E4 z=>⟨rfl,hlt,O4,ρ4,E4,z⟩) (λO4 ρ4 σ4 H4 E4 z=>⟨rfl,hlt,O4,ρ4,E4,z⟩) rfl rfl rfl rfl⟩
 ·left;have ei:i=ds.length:=by omega
  subst ei;refine⟨(wk H' O' ds.length E'.env.all sD).2 rfl,?_⟩;rw[OJ]at hr;exact hk.nx O' ρ' σ' H' (E'.back E1.base) hr
end
end TG
namespace TG
open PySem PySem.Spec L2
variable[aY]
theorem eD.setO{K:P5}{Hb:Hp}{Ob O:List Q4}{H:Hp}{ρ:aw}{σ:St}(E:eD K Hb Ob O H ρ σ){i:Nat}{d d':D}{a:Q4}{o:HO}(hi:ρ[i]?=some (some (.own d)))(ha:σ[i]?=some (some (.ref a)))(m:tD o)(new:eQ K (upd H a o) O a d'):
  eD K Hb Ob O (upd H a o) (ρ.set i (some (.own d'))) σ:=by
 obtain⟨a',ha',haO,hat⟩:=E.env.own i d hi;rw[ha]at ha';cases ha';obtain⟨m1,m2⟩:=E.mine i d a hi ha;have s:bE (hid H O) (hid (upd H a o) O):=jR haO;have own:∀(j:Nat) ys,(ρ.set i (some (.own d')))[j]?=some (some (.own ys))->∃ys',ρ[j]?=some (some (.own ys')):=λj ys q=>by
  rcases bq q with⟨hj,_⟩|⟨_,q⟩
  ·rw[hj];exact⟨d,hi⟩
  ·exact⟨ys,q⟩
 refine⟨⟨λj d1 e=>?_,λj ys e=>?_,λj l ys zs b q1 q2 q3 q4=>?_,E.env.all.upd haO m⟩,⟨λb u h=>?_,E.base.sub,E.base.new⟩,λj ys b q1 q2=>?_,λj dn q=>?_⟩
 ·rcases bq e with⟨_,q⟩|⟨ne,q⟩
  ·cases q
  ·obtain⟨w,q1,q2⟩:=E.env.val j d1 q;exact⟨w,q1,q2.mono s⟩
 ·rcases bq e with⟨hj,q⟩|⟨ne,q⟩
  ·cases q;rw[hj];exact⟨a,ha,haO,new⟩
  ·obtain⟨b,q1,q2,q3⟩:=E.env.own j ys q;have nb:b≠a:=λz=>ne (E.env.one j i ys d a q hi (by rw[<-z];exact q1) ha);exact⟨b,q1,q2,q3.mono (by rw[aR nb]) s⟩
 ·obtain⟨_,q1'⟩:=own j ys q1;obtain⟨_,q2'⟩:=own l zs q2;exact E.env.one j l _ _ b q1' q2' q3 q4
 ·have nb:b≠a:=λz=>by rw[z,m1]at h;cases h
  rw[aR nb];exact E.base.same b u h
 ·obtain⟨ys',q⟩:=own j ys q1;exact E.mine j ys' b q q2
 ·have q:ρ[j]?=some (some (.nest dn)):=by
   rcases bq q with⟨_,z⟩|⟨_,z⟩
   ·cases z
   ·exact z
  refine(E.nst j dn q).to rfl s (λb q1 q2 q3 q4 _=>⟨aR λz=>q4 i d hi (by rw[z];exact ha),q1,q2,λl d1 w=>?_⟩) λl d1 w=>?_
  ·obtain⟨_,w'⟩:=own l d1 w;exact q4 l _ w'
  ·rcases bq w with⟨_,z⟩|⟨_,z⟩
   ·cases z
   ·exact⟨d1,z⟩
theorem eD.setNew{K:P5}{Hb:Hp}{Ob O:List Q4}{H H':Hp}{ρ:aw}{σ:St}(E:eD K Hb Ob O H ρ σ){i:Nat}{d:D}{p:Q4}(hi:i<σ.length)(sm:bE H H')(hp:H p=none)(m:∃o,H' p=some o/\tD o)(new:eQ K H' (p::O) p d):
  eD K Hb Ob (p::O) H' (ρ.set i (some (.own d))) (σ.set i (some (.ref p))):=by
 have hpO:p∉O:=E.env.all.not hp;have s:bE (hid H O) (hid H' (p::O)):=λb o h=>by
  unfold hid at h ⊢;by_cases hb:b∈O
  ·rw[if_pos hb]at h;cases h
  ·rw[if_neg hb]at h;have ne:=bd h hp;rw[if_neg (by intro z;rcases List.mem_cons.mp z with z|z;exact ne z;exact hb z)];exact sm _ _ h
 have other:∀(j:Nat) xs,ρ[j]?=some (some (.own xs))->σ[j]?≠some (some (.ref p)):=λj xs e z=>by
  obtain⟨a,e1,e2,e3⟩:=E.env.own j xs e;rw[z]at e1;cases e1;obtain⟨o,e3⟩:=e3.some;rw[hp]at e3;cases e3
 refine⟨⟨λj d' e=>?_,λj xs e=>?_,λj k xs ys a e1 e2 e3 e4=>?_,⟨(E.env.all.same sm).1,λa ha=>?_⟩⟩,⟨E.base.same.trans sm,λa ha=>Nv _ (E.base.sub a ha),λa ha=>?_⟩,λj xs a e1 e2=>?_,λj dn e=>?_⟩
 ·rcases bq e with⟨_,q⟩|⟨ne,q⟩
  ·cases q
  ·obtain⟨v,q1,q2⟩:=E.env.val j d' q;exact⟨v,by rw[Ny (Ne.symm ne)];exact q1,q2.mono s⟩
 ·rcases bq e with⟨hj,q⟩|⟨ne,q⟩
  ·cases q;rw[hj];exact⟨p,Nx hi,Nu,new⟩
  ·obtain⟨a,q1,q2,q3⟩:=E.env.own j xs q;obtain⟨o,ho⟩:=q3.some;exact⟨a,by rw[Ny (Ne.symm ne)];exact q1,Nv _ q2,q3.mono (qQ sm ho) s⟩
 ·rcases bq e1 with⟨hj,q1⟩|⟨nj,q1⟩
  ·rcases bq e2 with⟨hk,q2⟩|⟨nk,q2⟩
   ·exact hj.trans hk.symm
   ·rw[hj,Nx hi]at e3;cases e3;rw[Ny (Ne.symm nk)]at e4;exact absurd e4 (other k ys q2)
  ·rcases bq e2 with⟨hk,q2⟩|⟨nk,q2⟩
   ·rw[hk,Nx hi]at e4;cases e4;rw[Ny (Ne.symm nj)]at e3;exact absurd e3 (other j xs q1)
   ·rw[Ny (Ne.symm nj)]at e3;rw[Ny (Ne.symm nk)]at e4;exact E.env.one j k xs ys a q1 q2 e3 e4
 ·rcases List.mem_cons.mp ha with rfl|ha
  ·exact m
  ·exact(E.env.all.same sm).2 a ha
 ·rcases List.mem_cons.mp ha with rfl|ha
  ·exact .inr (E.base.same.free hp)
  ·exact E.base.new a ha
 ·rcases bq e1 with⟨hj,q1⟩|⟨nj,q1⟩
  ·rw[hj,Nx hi]at e2;cases e2;exact⟨E.base.same.free hp,λz=>hpO (E.base.sub p z)⟩
  ·rw[Ny (Ne.symm nj)]at e2;exact E.mine j xs a q1 e2
 ·rcases bq e with⟨_,q⟩|⟨ne,q⟩
  ·cases q
  ·refine(E.nst j dn q).to (Ny (Ne.symm ne)) s (λb q1 q2 q3 q4 ⟨o,ho⟩=>⟨by rw[ho,sm _ _ ho],Nv _ q1,q2,λl d1 w=>?_⟩) λl d1 w=>?_
   ·rcases bq w with⟨hl,z⟩|⟨nl,z⟩
    ·rw[hl,Nx hi];intro z;cases z;rw[hp]at ho;cases ho
    ·rw[Ny (Ne.symm nl)];exact q4 l d1 z
   ·rcases bq w with⟨_,z⟩|⟨_,z⟩
    ·cases z
    ·exact⟨d1,z⟩
def MQ(X:Cx)(F:FX):TE:=λσ H Q=>∃O ρ,eE X.K O H ρ σ/\jj X σ O H (F ρ) λd=>∀p H',bE H H'->H p=none->(∃o,H' p=some o/\tD o)->eQ X.K H' (p::O) p d->Q (.ref p) H'
def FN(X:Cx)(e:Ri)(F:FX):Prop:=PE X e (MQ X F)
section
variable{X:Cx}{pos:Pos}
theorem wM{K:P5}{H:Hp}{O:List Q4}{p:Q4}{ds:List D}{vs:List V}(hp:H p=none)(d:bh K (hid H O) ds vs):eQ K (upd H p (.lst vs)) (p::O) p (.lst ds):=⟨_,vs,aZ,rfl,d.mono (rZ hp)⟩
theorem K4{es:List Ri}{g:aw->R (List D)}(h:FA X es g):FN X (.List es pos) (ie g):=
 PE.weak (sU h) λσ H Q ⟨O,ρ,E,hF⟩=>⟨O,ρ,E,(jj.bind hF).imp λxs hF vs H1 s1 d1=>by
  obtain⟨d,e,q⟩:=jj.rO hF;obtain⟨hz,e⟩:=cn e;subst e;refine⟨by rw[<-d1.length];exact eW hz,λp hp=>?_⟩;exact q p _ (s1.trans (cm hp _)) (s1.free hp) ⟨_,aZ,trivial⟩ (wM hp d1)⟩
def vk:FX:=λ_=>.ok (.dct [] [])
theorem IW:FN X (.Dict [] [] pos) vk:=PE.weak CT λσ H Q ⟨O,ρ,E,q⟩ p hp=>q p _ (cm hp _) hp ⟨_,aZ,trivial⟩ ⟨_,[],aZ,df.mpr rfl,.inr ⟨[],rfl,rfl,rfl⟩⟩
def nZ(i:Nat)(f:FX):cG:=λk ρ=>tx (f ρ) k ρ λd=>k.nx (ρ.set i (some (.own d)))
theorem AC{st:Rl}{f:FX}{i:Nat}(hi:i<X.N.length)(h:PS X st (Dr (MQ X f) (uf i))):FS X st (nZ i f):=λHb Ob pins s σ H E I ⟨O,ρ,k,r,S,hF,hk⟩=>
 h pins s σ H E I ⟨O,ρ,S.env,jj.on hF hk S λd e p H1 s1 hp m o=>hk.nx _ _ _ H1 (S.setNew (by rw[I.len];exact hi) s1 hp m o) e⟩
theorem Li{i:Nat}{x:Str}{e:Ri}{f:FX}{pos':Pos}(hN:X.N.Nodup)(hi:X.N[i]?=some x)(hx:Loc X.env.scope x)(he:FN X e f)(hs:swapsWith e (some (.Name x pos')) pos.line X.env=pure false:=by rfl)(hf:X.fn x=true\/X.env.scope.names.lookup x=some .local:=by first|exact .inl rfl|exact .inr rfl|assumption):
  FS X (.Assign [.Name x pos'] e pos) (nZ i f):=AC (List.getElem?_eq_some_iff.mp hi).1 (zo hN hi hx he hs hf)
end
def ym(i:Nat)(u:List D->List D->Option (List D))(f:aw->R (List D)):cG:=λk ρ=>match ρ[i]? with
 |some (some (.own (.lst xs)))=>tx (f ρ) k ρ λds=>(rO (u xs ds)).bind λys=>k.nx (ρ.set i (some (.own (.lst ys))))
 |_=>un
def CJ(K:P5)(r:V->List V->Hp->VK->Prop)(u:List D->List D->Option (List D)):Prop:=
 ∀(H:Hp)(O:List Q4)(a:Q4)(xs ys as:List D)(ws vs:List V)(Q:VK),eA H O->a∈O->H a=some (.lst ws)->bh K (hid H O) xs ws->bh K (hid H O) as vs->u xs as=some ys->(∀ws' v,bh K (hid H O) ys ws'->Q v (upd H a (.lst ws')))->r (.ref a) vs H Q
theorem xW{K:P5}{H:Hp}{O:List Q4}{a:Q4}{ys:List D}{ws:List V}(ha:a∈O)(h:bh K (hid H O) ys ws):eQ K (upd H a (.lst ws)) O a (.lst ys):=⟨_,ws,aZ,rfl,h.mono (jR ha)⟩
theorem MP{X:Cx}{i:Nat}{x m:Str}{id:String}{r:V->List V->Hp->VK->Prop}{u:List D->List D->Option (List D)}{e:Ri}{es:List Ri}{f:aw->R (List D)}{npos apos cpos pos:Pos}(slot:Slot "list" m id)(hty:typeOf (.builtin id)=pure (.type "method_descriptor"))(hm:Mk X id r)(ok:CJ X.K r u)(hx:PE X (.Name x npos) (xI i))(he:FA X (e::es) f)
  (hbase:R6 (.Name x npos) m X.env (eval (.Name x npos) X.env)=eval (.Name x npos) X.env:=by rfl)
  (hfew:((backTo cpos (Rj (e::es) X.env)).all (fun x=>!x.1) && (backToKw cpos (RF [] X.env)).all (fun x=>x.1.isSome)
   && decide ((e::es:List Ri).length+([]:List R7).length+(if([]:List R7).isEmpty then 0 else 1)<30))=true:=by rfl)
  (hline:(apos.endLine==cpos.line)=true:=by rfl) (hs:Rj (e::es) X.env=(false,eval e X.env)::Rj es X.env:=by rfl) (hplain:(backTo cpos (Rj es X.env)).any (·.1)=false:=by rfl)
  (hsw:swapsWith (.Call (.Attribute (.Name x npos) m apos) (e::es) [] cpos) none pos.line X.env=pure false:=by rfl):
  FS X (.Expr (.Call (.Attribute (.Name x npos) m apos) (e::es) [] cpos) pos) (ym i u f):=λHb Ob pins s σ H E I ⟨O,ρ,k,rr,S,hF,hk⟩=>by
 unfold ym at hF;split at hF
 ·rename_i xs hxs;obtain⟨a,ha,haO,hat⟩:=S.env.own i _ hxs;obtain⟨o,vs0,ho,eo,dn⟩:=hat;subst eo;refine zZ (FV F.plainAttrs_list slot hty hm hx he hbase hfew hline hs hplain) hsw pins s σ H E I ⟨.ref a,ha,.inl ⟨rfl,vs0,ot.of ho⟩,O,ρ,S.env,jj.on hF hk S λds hr vs H1 s1 d1=>?_⟩;have S1:=S.same s1;cases hu1:u xs ds with
  |none=>rw[hu1]at hr;exact absurd hr.symm hk.ne
  |some ys=>
   rw[hu1]at hr;exact ok H1 O a xs ys ds vs0 vs _ S1.env.all haO (s1 _ _ ho) (dn.mono (cI s1)) d1 hu1 λws' v new=>hk.nx O _ σ _ (S1.setO hxs ha trivial (xW haO new)) hr
 ·exact absurd hF.symm hk.ne
def fE(xs:List D)(ds:List D):Option (List D):=match ds with
 |[y]=>if small (xs.length+1)then some (xs++[y])else none
 |_=>none
theorem e9{K:P5}:CJ K zC fE:=λH O a xs ys as ws vs Q hO haO ha dx da hu q=>by
 unfold fE at hu;split at hu
 ·rename_i y;obtain⟨h1,h2⟩:=cn hu;subst h2;obtain⟨v,rfl,dv⟩:=da.one
  have:=eW h1
  rw[dx.length]at this;exact⟨a,ws,v,rfl,rfl,ha,by omega,q _ _ (dx.snoc dv)⟩
 ·cases hu
def frz(i:Nat)(ρ:aw):aw:=match ρ[i]? with
 |some (some (.own d))=>setV i d ρ
 |_=>ρ
theorem eE.frz{K:P5}{O:List Q4}{H:Hp}{ρ:aw}{σ:St}(E:eE K O H ρ σ)(i:Nat):∃O',eE K O' H (frz i ρ) σ/\(∀b∈O',b∈O)/\∀b∈O,b∉O'->∃d,ρ[i]?=some (some (.own d))/\σ[i]?=some (some (.ref b)):=by
 unfold TG.frz;split
 ·rename_i d hd;obtain⟨a,ha,haO,hat⟩:=E.own i d hd;have sub:∀b∈O.filter (λb=>decide (b≠a)),b∈O:=λb hb=>(List.mem_filter.mp hb).1;have s:bE (hid H O) (hid H (O.filter λb=>decide (b≠a))):=js sub;have na:a∉O.filter λb=>decide (b≠a):=λz=>absurd rfl (of_decide_eq_true (List.mem_filter.mp z).2);refine⟨O.filter λb=>decide (b≠a),⟨λj d' e=>?_,λj ys e=>?_,λj l ys zs b q1 q2 q3 q4=>?_,⟨E.all.1,λb hb=>E.all.2 b (sub b hb)⟩⟩,sub,λb hb nb=>?_⟩
  ·rcases bq e with⟨hj,q⟩|⟨ne,q⟩
   ·cases q;rw[hj];exact⟨.ref a,ha,hat.den s na⟩
   ·obtain⟨w,q1,q2⟩:=E.val j d' q;exact⟨w,q1,q2.mono s⟩
  ·rcases bq e with⟨_,q⟩|⟨ne,q⟩
   ·cases q
   ·obtain⟨b,q1,q2,q3⟩:=E.own j ys q;have nb:b≠a:=λz=>ne (E.one j i ys d a q hd (by rw[<-z];exact q1) ha);exact⟨b,q1,List.mem_filter.mpr ⟨q2,decide_eq_true nb⟩,q3.mono rfl s⟩
  ·rcases bq q1 with⟨_,q⟩|⟨_,q⟩
   ·cases q
   ·rcases bq q2 with⟨_,q'⟩|⟨_,q'⟩
    ·cases q'
    ·exact E.one j l ys zs b q q' q3 q4
  ·by_cases z:b=a
   ·exact⟨d,hd,by rw[z];exact ha⟩
   ·exact absurd (List.mem_filter.mpr ⟨hb,decide_eq_true z⟩) nb
 ·exact⟨O,E,λ_ z=>z,λb hb nb=>absurd hb nb⟩
theorem eD.frz{K:P5}{Hb:Hp}{Ob O:List Q4}{H:Hp}{ρ:aw}{σ:St}(E:eD K Hb Ob O H ρ σ)(i:Nat):∃O',eD K Hb Ob O' H (frz i ρ) σ:=by
 obtain⟨O',E',sub,gone⟩:=E.env.frz i;refine⟨O',E',⟨E.base.same,λa ha=>?_,λa ha=>E.base.new a (sub a ha)⟩,λj xs a q1 q2=>?_,λj dn q1=>?_⟩
 ·by_cases z:a∈O'
  ·exact z
  ·obtain⟨d,e1,e2⟩:=gone a (E.base.sub a ha) z;exact absurd ha (E.mine i d a e1 e2).2
 ·have q:ρ[j]?=some (some (.own xs)):=by
   unfold TG.frz at q1;split at q1
   ·rcases bq q1 with⟨_,q⟩|⟨_,q⟩
    ·cases q
    ·exact q
   ·exact q1
  exact E.mine j xs a q q2
 ·have bk:∀(l:Nat) x,(TG.frz i ρ)[l]?=some (some x)->(∀d,x≠.val d)->ρ[l]?=some (some x):=λl x e nv=>by
   unfold TG.frz at e;split at e
   ·rcases bq e with⟨_,q⟩|⟨_,q⟩
    ·cases q;exact absurd rfl (nv _)
    ·exact q
   ·exact e
  refine(E.nst j dn (bk j _ q1 (λ_ z=>nomatch z))).to rfl (js sub) (λb w1 w2 w3 w4 _=>⟨rfl,?_,w2,λl d1 w=>w4 l d1 (bk l _ w (λ_ z=>nomatch z))⟩) λl d1 w=>⟨d1,bk l _ w (λ_ z=>nomatch z)⟩
  by_cases z:b∈O'
  ·exact z
  ·obtain⟨d,e1,e2⟩:=gone b w1 z;exact absurd e2 (w4 i d e1)
def iN(i:Nat)(F:cG):cG:=λk ρ=>F k (frz i ρ)
theorem Kf{X:Cx}{st:List Rl}{F:cG}(i:Nat)(h:yo X st F):yo X st (iN i F):=λHb Ob=>BR.weak (h Hb Ob) λE σ H ⟨O,ρ,k,r,S,hF,hk⟩=>by
 obtain⟨O',S'⟩:=S.frz i;exact⟨O',TG.frz i ρ,k,r,S',hF,hk⟩
def frzs(is:List Nat)(ρ:aw):aw:=is.foldl (λρ i=>frz i ρ) ρ
theorem eE.frzs{K:P5}{H:Hp}{σ:St}:∀(is:List Nat){O:List Q4}{ρ:aw},eE K O H ρ σ->∃O',eE K O' H (frzs is ρ) σ
 |[],O,_,E=>⟨O,E⟩
 |i::is,_,_,E=>by
  obtain⟨O',E',_⟩:=E.frz i;exact eE.frzs is E'
def mi(is:List Nat)(f:aw->R Bool):aw->R Bool:=λρ=>Ds (f (frzs is ρ))
theorem Kq{X:Cx}{e:Ri}{f:aw->R Bool}(is:List Nat)(h:FT X e f):FT X e (mi is f):=PT.weak h λσ H Q ⟨O,ρ,E,hF⟩=>by
 obtain⟨O',E'⟩:=E.frzs is;refine⟨O',TG.frzs is ρ,E',?_⟩;unfold mi at hF;cases hf:f (TG.frzs is ρ)with
 |error z=>rw[hf]at hF;exact hF.elim
 |ok d=>rw[hf]at hF;exact hF
end TG
namespace TG
open PySem PySem.Spec L2
variable[aY]
def BW(K:P5)(n:Nat)(g:List D->R D):Sp:=λvs H Q E=>∃O ds,vs.length=n/\eA H O/\bh K (hid H O) ds vs/\match g ds with
 |.ok d=>∀v H',bE H H'->cY K (hid H' O) d v->Q v H'
 |.error (some x)=>Mp K H O x E
 |.error none=>False
section
variable{X:Cx}{k:Nat}{f C:Q4}{fd:RJ}{ps:List Str}{sp:Sp}{x m:Str}{p pos apos:Pos}{e o:Ri}{es:List Ri}{ta:TE}{t:TA}
theorem vZ{pins:List (Q4×Obj)}{σ:St}{H:Hp}{s:Rf}{Q:VK}{E:XK}{us:List Q1}{vs:List V}(F:nQ X.prog X.w X.K X.mg X.base (oq X.prog X.w) k f fd ps sp)(hr:iz k X.A)(hb:Binds X.K fd ps [])(hx:mq (oq X.prog X.w) X σ E)
  (I:Inv X pins σ H s) (r:Vals vs us) (h:sp vs H Q E):Rh (model X.prog X.w) X.A (call (.ref f) us) (EP X pins σ Q) X.xe s:=by
 have hl:(us++[]).length=ps.length:=by rw[NM,<-r.length];exact F.len _ _ _ _ h
 have hb':=hb s us I.kIn hl;rw[NM]at hb';refine wpAny_call (codeAny_mono (F.run X.A X.stack s H ⟨us,[]⟩ us vs Q E hr I.env0 hb' r h) λr s' hq=>?_);cases r with
 |error e=>exact hx pins H s e s' I hq
 |ok fl=>
  cases fl with
  |ret u=>exact I.after hq
  |next=>exact False.elim hq
  |brk=>exact False.elim hq
  |cont=>exact False.elim hq
def CC(X:Cx)(sp:Sp)(t:TA):TE:=λσ H Q=>t σ H λvs H1=>∃E,mq (oq X.prog X.w) X σ E/\sp vs H1 Q E
theorem Dm(F:nQ X.prog X.w X.K X.mg X.base (oq X.prog X.w) k f fd ps sp)(hr:iz k X.A)(hg:Gl X x)(hm:X.mg x=some (.ref f))(hk:Qh X.K (.ref f)=true)(hb:Binds X.K fd ps [])
  (ha:PA X (e::es) t) (hdb:(x==("__debug__":Str))=false:=by decide) (he:Rj (e::es) X.env=(false,eval e X.env)::Rj es X.env:=by rfl) (hpl:(backTo pos (Rj es X.env)).any (·.1)=false:=by rfl):
  PE X (.Call (.Name x p) (e::es) [] pos) (CC X sp t):=by
 intro pins s σ H Q I h;refine RN (vy I hg hm ?_ hdb);refine Qo (h₀:=X.base) I.ok.mod.kin hk (fj (ha pos pins s σ H _ I h) λus s1 ⟨vs,H1,I1,r,E,hx,q⟩=>⟨I1.kIn,?_⟩) he hpl;exact vZ F hr hb hx I1 r q
theorem Ay{n:Nat}{g:List D->R D}{f:aw->R (List D)}(hn:∀ds,g ds≠un->ds.length=n):∀σ H Q,tF X (fR g f) σ H Q->CC X (BW X.K n g) (LY X f) σ H Q:=λσ H Q ⟨O,ρ,E,hF⟩=>
 ⟨O,ρ,E,(jj.bind hF).imp fun ds hF vs H1 s1 d1=>by
  cases hg:g ds with
  |ok d=>
   rw[hg]at hF;refine⟨E0,Ao,O,ds,by rw[<-d1.length];exact hn ds (by rw[hg];intro z;cases z),E.all.same s1,d1,?_⟩;rw[hg];exact λv H2 s2 d2=>hF v H2 (s1.trans s2) d2
  |error z=>
   rw[hg]at hF;cases z with
   |none=>exact hF.elim
   |some x=>
    refine⟨Aq X O H1 x,Ae (HX.mono hF s1),O,ds,by rw[<-d1.length];exact hn ds (by rw[hg];intro z;cases z),E.all.same s1,d1,?_⟩;rw[hg];exact xV⟩
end
def Callee(P:Q3)(w:Q2)(K:P5)(mg:Str->Option Q1)(base:Q6)(k:Nat)(x:Str)(ps:List Str)(g:List D->R D):Prop:=
 ∃f fd,nQ P w K mg base (oq P w) k f fd ps (BW K ps.length g)/\Binds K fd ps []/\Qh K (.ref f)=true/\mg x=some (.ref f)
def Ar(n:Nat)(g:List D->R D):Prop:=∀ds,g ds≠un->ds.length=n
theorem Ic{X:Cx}{k k':Nat}{ps:List Str}{g:List D->R D}{h:aw->R (List D)}{x:Str}{p pos:Pos}{e:Ri}{es:List Ri}
  (C:Callee X.prog X.w X.K X.mg X.base k x ps g) (hn:Ar ps.length g) (hr:iz k' X.A) (hk:k<=k') (ha:FA X (e::es) h) (hg:Gl X x:=by rfl)
  (hdb:(x==("__debug__":Str))=false:=by decide) (hns:(e::es).all noStar=true:=by rfl):
  FE X (.Call (.Name x p) (e::es) [] pos) (fR g h):=by
 obtain⟨f,fd,F,b,kp,m⟩:=C;exact PE.weak (Dm F (hr.mono hk) hg m kp b ha hdb (fH (NZ _ _ ▸ hns).1) (jv (NZ _ _ ▸ hns).2)) (Ay hn)
def K0:Ks:={nx:=λ_=>.ok .non}
def env0(n:Nat)(ds:List D):aw:=ds.map (λd=>some (.val d))++List.replicate (n-ds.length) none
def bb(B:cG)(np n:Nat):List D->R D:=λds=>if ds.length=np then B K0 (env0 n ds)else un
theorem aP{B:cG}{np n:Nat}:Ar np (bb B np n):=λds h=>by
 unfold bb at h;split at h
 ·assumption
 ·exact absurd rfl h
theorem jt{n:Nat}{ds:List D}(i:Nat)(x:S)(e:(env0 n ds)[i]?=some (some x)):∃d,ds[i]?=some d/\x=.val d:=by
 unfold env0 at e;by_cases hi:i<ds.length
 ·rw[NS (by rw[NW];exact hi),NT,Oq hi]at e;have e':some (S.val ds[i])=some x:=Option.some.inj e;exact⟨ds[i],by rw[Oq hi],(Option.some.inj e').symm⟩
 ·rw[NQ (by rw[NW];omega),NW,NR]at e;split at e
  ·cases e
  ·cases e
theorem rK{K:P5}{O:List Q4}{H:Hp}{N:List Str}{ds:List D}{vs:List V}(hO:eA H O)(h:bh K (hid H O) ds vs):eE K O H (env0 N.length ds) (L2.start N vs):=by
 refine⟨λi d e=>?_,λi xs e=>?_,λi j xs ys a e=>?_,hO⟩
 ·obtain⟨d',e1,e2⟩:=jt i _ e;cases e2;obtain⟨v,e3,e4⟩:=h.get e1;refine⟨v,?_,e4⟩;unfold L2.start;have hi:i<vs.length:=(List.getElem?_eq_some_iff.mp e3).1;rw[NS (by rw[NW];exact hi),NT,e3];rfl
 ·obtain⟨d',_,e2⟩:=jt i _ e;cases e2
 ·obtain⟨d',_,e2⟩:=jt i _ e;cases e2
section
variable{P:Q3}{w:Q2}{K:P5}{mg:Str->Option Q1}{base:Q6}
structure BodyOk(P:Q3)(w:Q2)(K:P5)(mg:Str->Option Q1)(base:Q6)(k:Nat)(N:List Str)(qual:Str)(st:Rl)(f:Q4)(B:cG):Prop where
 h:∀(cdv:Q1)(A:Rc)(outer:List Env)(s:Rf)(H:Hp)(E:XK),iz k (A.deeper (QL qual (aA st) s.heap.objs.size f cdv))->Ru (model P w) (A.deeper (QL qual (aA st) s.heap.objs.size f cdv)) (QL qual (aA st) s.heap.objs.size f cdv) (kO (oq P w) P w K mg base N qual (aA st) f cdv A outer s H E).xe->
  yo (kO (oq P w) P w K mg base N qual (aA st) f cdv A outer s H E) (gK st) B
theorem L8{x qual:Str}{st:Rl}{f:Q4}{fd:RJ}{N ps:List Str}{k:Nat}{sp:Sp}{CX:BU}(F:yn K x qual st f fd)(S:bf N ps (aA st))(len:∀vs H Q E,sp vs H Q E->vs.length=ps.length)
  (hbody:∀ (cdv:Q1) (A:Rc) (outer:List Env) (s:Rf) (H:Hp) (vs:List V) (Q:VK) (E:XK),iz k (A.deeper (QL qual (aA st) s.heap.objs.size f cdv))->sp vs H Q E ->
   ∃t,BR (kO CX P w K mg base N qual (aA st) f cdv A outer s H E) (gK st) t/\t {nx:=λ_ H'=>Q .non H',rt:=Q} (L2.start N vs) H):nQ P w K mg base CX (k+1) f fd ps sp:=by
 obtain⟨oc,od,kV,doc,pm,an,cdv,ct,osl,rfl,lk,hcd⟩:=F.ex;exact Ga lk hcd S len λA outer s H vs Q E hr hsp=>hbody cdv A outer s H vs Q E hr hsp
theorem wj{x qual:Str}{st:Rl}{f:Q4}{fd:RJ}{N ps:List Str}{k:Nat}{B:cG}(F:yn K x qual st f fd)(SC:bf N ps (aA st))(hb:BodyOk P w K mg base k N qual st f B):
  nQ P w K mg base (oq P w) (k+1) f fd ps (BW K ps.length (bb B ps.length N.length)):=by
 refine L8 F SC (λvs H Q E h=>?_) λcdv A outer s H vs Q E hr h=>?_
 ·obtain⟨O,ds,h1,_⟩:=h;exact h1
 ·obtain⟨O,ds,h1,h2,h3,h4⟩:=h;have hl:ds.length=ps.length:=h3.length.trans h1;have e4:bb B ps.length N.length ds=B K0 (env0 N.length ds):=by unfold bb;rw[if_pos hl]
  rw[e4]at h4;refine⟨_,hb.h cdv A outer s H E hr PassesOwn.leaving H O,O,env0 N.length ds,K0,_,⟨rK h2 h3,⟨bE.refl H,λ_ z=>z,λa z=>.inl z⟩,λi xs a e=>?_,λi d e=>by obtain⟨d',_,e2⟩:=jt i _ e;cases e2⟩,rfl,?_⟩
  ·obtain⟨d',_,e2⟩:=jt i _ e;cases e2
  ·generalize B K0 (env0 N.length ds)=r at h4;refine⟨λz=>by rw[z]at h4;exact h4,λO' ρ' σ' H' S e=>?_,λO' ρ' σ' H' S e=>?_,λO' ρ' σ' H' S e=>?_,λd O' v H' e b dv=>?_,λO' ρ' σ' H' x S e=>?_⟩
   ·have e:(.ok .non:R D)=r:=e;subst e;exact h4 .non H' S.base.same (kK.mpr rfl)
   ·have e:(un:R D)=r:=e;subst e;exact h4.elim
   ·have e:(un:R D)=r:=e;subst e;exact h4.elim
   ·subst e;exact h4 v H' b.same (dv.mono (js b.sub))
   ·have e:(.error (some x):R D)=r:=e;subst e;exact C6 h4 S.base.same S.base.sub
theorem bA{x qual:Str}{st:Rl}{f:Q4}{fd:RJ}{N ps:List Str}{k:Nat}{B:cG}(F:yn K x qual st f fd)(b:Binds K fd ps [])(m:mg x=some (.ref f))(SC:bf N ps (aA st))(hb:BodyOk P w K mg base k N qual st f B):
  Callee P w K mg base (k+1) x ps (bb B ps.length N.length):=⟨f,fd,wj F SC hb,b,F.kp,m⟩
theorem fW{x qual:Str}{st:Rl}{f:Q4}{fd:RJ}{ps:List Str}(k:Nat)(F:yn K x qual st f fd)(b:Binds K fd ps [])(m:mg x=some (.ref f)):Callee P w K mg base k x ps (λ_=>un):=by
 have no:∀vs H Q E,¬BW K ps.length (λ_=>un) vs H Q E:=λvs H Q E ⟨O,ds,_,_,_,e⟩=>e;exact⟨f,fd,⟨λvs H Q E h=>absurd h (no vs H Q E),λA outer s H args us vs Q E _ _ _ _ h=>absurd h (no vs H Q E)⟩,b,F.kp,m⟩
end
theorem qX{K:P5}{T:String}(h1:Qm K (.type "NoneType") (.type T)=some (T=="NoneType"))(h2:Qm K (.type "bool") (.type T)=some (T=="bool"||T=="int"))(h3:Qm K (.type "int") (.type T)=some (T=="int"))(h4:Qm K (.type "str") (.type T)=some (T=="str"))
  (h5:Qm K (.type "tuple") (.type T)=some (T=="tuple")) (h6:Qm K (.type "list") (.type T)=some (T=="list")):xi K T:=λd hd=>by
 cases d with
 |dct _ _=>cases hd
 |obj _ _ _=>cases hd
 |exc _ _ _=>cases hd
 |non=>exact h1
 |bl _=>exact h2
 |int _=>exact h3
 |str _=>exact h4
 |tup _=>exact h5
 |lst _=>exact h6
theorem xB{K:P5}:xi K "int":=qX rfl rfl rfl rfl rfl rfl
theorem mV{K:P5}:xi K "bool":=qX rfl rfl rfl rfl rfl rfl
theorem yc{K:P5}:xi K "str":=qX rfl rfl rfl rfl rfl rfl
theorem yy{K:P5}:xi K "tuple":=qX rfl rfl rfl rfl rfl rfl
end TG
namespace TG
open PySem PySem.Spec L2
variable[aY]
section
variable{X:Cx}{a b c:Ri}{fa fb fc:FX}{pos:Pos}
theorem GK{r:V->Hp->VK->Prop}{g:D->Option D}(s:Ed X.K r g):∀σ H Q,tF X (f1 g fa) σ H Q->MR r (tF X fa) σ H Q:=λσ H Q ⟨O,ρ,E,hF⟩=>⟨O,ρ,E,(jj.bind hF).imp λa hF x H1 s1 d1=>by
 obtain⟨d,e,q⟩:=jj.rO hF;exact s a d x O H1 Q (E.all.same s1) e d1 λv H2 s2 d2=>q v H2 (s1.trans s2) d2⟩
def G7(g g':D->D->Option D)(fa fb fc:FX):FX:=λρ=>(fa ρ).bind λx=>(fb ρ).bind λy=>(rO (g x y)).bind λz=>yF z ((fc ρ).bind λw=>rO (g' y w))
def HV:D->Option D
 |.int i=>some (.int (-i))
 |_=>none
def Cz(f:FX):FX:=f1 HV f
theorem Ml(ha:FE X a fa):FE X (.UnaryOp .USub a pos) (Cz fa):=PE.weak (JF Gx ha) (GK λx d v O H Q _ e dv q=>by
 cases x with
 |int i=>cases e;exact⟨i,fK.mp dv,q _ H (bE.refl H) (fK.mpr rfl)⟩
 |_=>cases e)
theorem Kw{x:Str}{i:Int}(hg:Gl X x)(hm:∃t,X.mg x=some (.int i t))(hd:(x==("__debug__":Str))=false:=by decide):FE X (.Name x pos) (fC (.int i)):=by
 obtain⟨t,m⟩:=hm;exact mr (D4 (v:=.int i) hg m ⟨t,rfl⟩ hd) λ_ _=>fK.mpr rfl
def CM:D->Option D
 |.str x=>if small x.length then some (.str (Txt.upper x))else none
 |_=>none
def HW(f:FX):FX:=f1 CM f
def GJ:D->Option D
 |.lst xs=>some (.lst xs.reverse)
 |.tup xs=>some (.tup xs.reverse)
 |_=>none
def Ls(f:FX):FX:=f1 GJ f
theorem rN{K:P5}{H:Hp}:∀{bs:List Bool}{vs:List V}{us:List Q1},bh K H (bs.map .bl) vs->Vals vs us->us=bs.map Value.bool
 |[],vs,us,h,r=>by
  rw[N2,df]at h;subst h;cases r;rfl
 |b::bs,vs,us,h,r=>by
  rw[N3,bH]at h;obtain⟨v,r',e,h1,h2⟩:=h;subst e;cases r with
  |cons q1 q2=>
   rw[kG]at h1;subst h1;cases q1;rw[N3,rN h2 q2]
end
end TG
namespace ZI
open PySem PySem.Spec PyProof.Rows
section
variable{prog:Q3}{w:Q2}{A:Rc}{E:Q1->Rf->Prop}{s:Rf}
theorem zg{it t:Q4}{i:Nat}{its:Array Q1}{x:Q1}{Q:Q1->Rf->Prop}(hit:s.heap.IsTupleIter it t i)(ht:s.heap.IsTuple t its)(hx:its[i]?=some x)
  (hQ:∀g,g.IsTupleIter it t (i+1)->QA it s.heap g->Q x {s with heap:=g}):Rh (model prog w) A (Builtin.SmallTypes.nextOf (.ref it)) Q E s:=by
 obtain⟨ob,h1,h2,h3⟩:=id hit;obtain⟨ol,g1,_,n,g2⟩:=ht;unfold Builtin.SmallTypes.nextOf;refine Rr (RX (name:=Str.ofString "__next__") hit.typeIs F.slot_tuple_iterator_next (RY F.slot_tuple_iterator_next hit.typeIs F.entry_tuple_iterator_next ?_ (F.args_tuple_iterator_next_1 _)));show Rh _ _ (field (.ref it) 0 >>= _) _ _ s;refine Rr (RV h1 h3 (x:=.ref t) rfl ?_);show Rh _ _ (if(Value.ref t==Value.none)=true then _ else _) _ _ s;rw[if_neg (show¬((Value.ref t==Value.none)=true)from λz=>NF z)];show Rh _ _ (field (.ref it) 1 >>= _) _ _ s;refine Rr (RV h1 h3 (x:=.int i 0) rfl ?_);show Rh _ _ (seqItems? (.ref t) >>= _) _ _ s;refine Rr (Sf g1 g2 ?_);simp only[NX,hx];refine Rr (Sg h1 h3 (by simp) (Rq ⟨x,rfl,Rq (hQ _ ⟨_,QF _ h1 (Obj.isFreed_of_fields (Obj.data_mapFields h3 _)),(Obj.cls_mapFields ..).trans h2,by rw[Obj.data_mapFields h3];simp[rawInt]⟩ (Heap.SameBut.update ..))⟩))
theorem A5{it t:Q4}{i:Nat}{its:Array Q1}{Q:Q1->Rf->Prop}(hh:A.handled=none)(hit:s.heap.IsTupleIter it t i)(ht:s.heap.IsTuple t its)(hx:its[i]?=none)
  (hE:∀g e,Heap.ExtBut it s.heap g->(∃o,g.get? e=some o/\o.cls=.type "StopIteration")->E (.ref e) {s with heap:=g}):Rh (model prog w) A (Builtin.SmallTypes.nextOf (.ref it)) Q E s:=by
 obtain⟨ob,h1,h2,h3⟩:=id hit;obtain⟨ol,g1,_,n,g2⟩:=ht;unfold Builtin.SmallTypes.nextOf;refine Rr (RX (name:=Str.ofString "__next__") hit.typeIs F.slot_tuple_iterator_next (RY F.slot_tuple_iterator_next hit.typeIs F.entry_tuple_iterator_next ?_ (F.args_tuple_iterator_next_1 _)));show Rh _ _ (field (.ref it) 0 >>= _) _ _ s;refine Rr (RV h1 h3 (x:=.ref t) rfl ?_);show Rh _ _ (if(Value.ref t==Value.none)=true then _ else _) _ _ s;rw[if_neg (show¬((Value.ref t==Value.none)=true)from λz=>NF z)];show Rh _ _ (field (.ref it) 1 >>= _) _ _ s;refine Rr (RV h1 h3 (x:=.int i 0) rfl ?_);show Rh _ _ (seqItems? (.ref t) >>= _) _ _ s;refine Rr (Sf g1 g2 ?_);simp only[NX,hx];refine Rr (Sb (Rr (Sg h1 h3 (by simp) ?_)));show Rh _ _ (newExc (.type "StopIteration") [] >>= _) _ _ _;refine Rr ?_;simp only[newExc,newTuple];refine Rr (R3 ?_ (by size_fits));refine Rr (m:=firstArgMember _ _) (wpAny_of_eq (a:=Value.none) (by first|rfl|(simp only[firstArgMember];rfl)) ?_);refine R3 ?_ (by size_fits);simp only[raiseNew];refine Rr (wpAny_handled ?_)
 first|rw[show A.in1.handled=none from hh]|rw[hh]
 refine Rr (Rq (wpAny_throw ?_));exact hE _ _ (((Heap.SameBut.update ..).extBut.push _).push _) ⟨_,QC _ rfl,rfl⟩
end
theorem HI{prog:Q3}{w:Q2}{A:Rc}(hh:A.handled=none)(it t:Q4)(hne:t≠it)(its:Array Q1):Draws prog w A it [it,t] its.size (λi v=>its[i]?=some v) (λi h=>h.IsTupleIter it t i/\h.IsTuple t its)where
 live:=λi h ⟨⟨o,e,_⟩,_⟩=>⟨o,e⟩
 frame:=λi h h' ⟨x,y⟩ k=>⟨x.at λo e=>k it (by simp) o e,let ⟨o,e,r⟩:=y;⟨o,k t (by simp) o e,r⟩⟩
 item:=λi s Q E hi ⟨x,y⟩ hQ=>zg x y (Array.getElem?_eq_getElem hi) λg hg hs=>hQ _ g s.toks (Array.getElem?_eq_getElem hi) ⟨hg,let ⟨o,e,r⟩:=y;⟨o,(hs.2 t hne).trans e,r⟩⟩ hs
 done:=λs Q E ⟨x,y⟩ hE=>A5 hh x y (by simp) hE
structure Apart(z TI TO i1 i2:Q4)(fp1 fp2:List Q4):Prop where
 a1:TI≠z
 a2:TO≠z
 a3:TI≠TO
 b1:z∉fp1
 b2:TO∉fp1
 b3:i2∉fp1
 c1:z∉fp2
 c2:TO∉fp2
 c3:i1∉fp2
 d1:TI≠i1
 d2:TI≠i2
 e1:i1∈fp1
 e2:i2∈fp2
section
variable{prog:Q3}{w:Q2}{A:Rc}{E:Q1->Rf->Prop}{s:Rf}{z TI TO i1 i2:Q4}{fp1 fp2:List Q4}{n1 n2 i:Nat}{P1 P2:Nat->Q1->Prop}{S1 S2:Nat->Q6->Prop}{a b:Q1}
theorem next_item{Q:Q1->Rf->Prop}(Ap:Apart z TI TO i1 i2 fp1 fp2)(D1:Draws prog w A i1 fp1 n1 P1 S1)(D2:Draws prog w A i2 fp2 n2 P2 S2)(hz:Si s.heap z TI TO .none)(hTI:Sj s.heap TI (.ref i1) (.ref i2))(hTO:Sj s.heap TO a b)(st1:S1 i s.heap)(st2:S2 i s.heap)(l1:i<n1)(l2:i<n2)
  (hQ:∀ x y g tk,P1 i x->P2 i y->Si g z TI TO (rawInt s.heap.objs.size)->Sj g TO x y->S1 (i+1) g->S2 (i+1) g->Sj g s.heap.objs.size x y->g.objs.size=s.heap.objs.size+1 ->
   (∀c o,c≠z->c≠TO->c≠i1->c≠i2->s.heap.get? c=some o->g.get? c=some o)->Q (.ref s.heap.objs.size) {s with heap:=g,toks:=tk}):
  Rh (model prog w) A (Builtin.«zip.__next__» ⟨[.ref z],[]⟩) (λfin s'=>∃v,fin=.done (.ret v)/\Q v s') E s:=by
 have n1z:i1≠z:=λe=>Ap.b1 (e ▸ Ap.e1);have n2z:i2≠z:=λe=>Ap.c1 (e ▸ Ap.e2);have n1T:i1≠TO:=λe=>Ap.b2 (e ▸ Ap.e1);have n2T:i2≠TO:=λe=>Ap.c2 (e ▸ Ap.e2);show Rh _ _ (field (.ref z) 2 >>= _) _ _ _;refine Rr (RV hz rfl (x:=.bool false) rfl ?_);show Rh _ _ (field (.ref z) 3 >>= _) _ _ _;refine Rr (RV hz rfl (x:=.ref TI) rfl ?_);refine Rr (Sf hTI rfl ?_);show Rh _ _ (Builtin.SmallTypes.ownedTupleIsFree (.ref z) >>= _) _ _ _;refine Rr ?_;unfold Builtin.SmallTypes.ownedTupleIsFree;refine Rr (RV hz rfl (x:=.none) rfl (Rq ?_));simp only[if_true];refine Rr (Sb ?_);refine Rr (RV hz rfl (x:=.ref TO) rfl ?_);refine Rr (Sl hz (by simp) λg1 hz1 k1=>?_);have hz1:Si g1 z TI TO .ellipsis:=hz1;refine Rr ?_;simp only[OL,List.zipIdx_nil,Od,List.forIn_nil];refine Rr (Rr (Sn ?_));show Rh _ _ (Builtin.SmallTypes.nextOf (.ref i1) >>= _) _ _ _;have q1:S1 i g1:=D1.frame _ _ _ st1 λb hb o e=>k1.extBut _ _ (λz'=>Ap.b1 (z' ▸ hb)) e;refine Rr (D1.item i {s with heap:=g1} _ _ l1 q1 λx g2 tk2 p1 q2 k2=>Rq ?_);have t2:Sj g2 TO a b:=k2.extBut _ _ n1T.symm (k1.extBut _ _ Ap.a2 hTO);refine Rr (Sf t2 rfl ?_);refine Rr (Sq t2 λg3 t3 k3=>?_);have t3:Sj g3 TO x b:=t3;refine Rr (Sr (Rq ?_));refine Rr (Rr (Sn ?_));show Rh _ _ (Builtin.SmallTypes.nextOf (.ref i2) >>= _) _ _ _;have q3:S2 i g3:=D2.frame _ _ _ st2 λb hb o e=>k3.extBut _ _ (λz'=>Ap.c2 (z' ▸ hb)) (k2.extBut _ _ (λz'=>Ap.c3 (z' ▸ hb)) (k1.extBut _ _ (λz'=>Ap.c1 (z' ▸ hb)) e));refine Rr (D2.item i {s with heap:=g3,toks:=tk2} _ _ l2 q3 λy g4 tk4 p2 q4 k4=>Rq ?_);have t4:Sj g4 TO x b:=k4.extBut _ _ n2T.symm t3;refine Rr (Sf t4 rfl ?_);refine Rr (Sq t4 λg5 t5 k5=>?_);have t5:Sj g5 TO x y:=t5;refine Rr (Sr (Rq (Rq ?_)));refine Rr (Sf t5 rfl ?_);refine Rr (Ss ?_);have hsz:g5.objs.size=s.heap.objs.size:=by rw[k5.1,k4.1,k3.1,k2.1,k1.1]
 have hz5:Si g5 z TI TO .ellipsis:=k5.extBut _ _ Ap.a2.symm (k4.extBut _ _ n2z.symm (k3.extBut _ _ Ap.a2.symm (k2.extBut _ _ n1z.symm hz1)));have k15:∀c o,c≠z->c≠TO->c≠i1->c≠i2->s.heap.get? c=some o->g5.get? c=some o:=λc o c1 c2 c3 c4 e=>k5.extBut _ _ c2 (k4.extBut _ _ c4 (k3.extBut _ _ c2 (k2.extBut _ _ c3 (k1.extBut _ _ c1 e))));have r1:S1 (i+1) g5:=D1.frame _ _ _ q2 λb hb o e=>k5.extBut _ _ (λz'=>Ap.b2 (z' ▸ hb)) (k4.extBut _ _ (λz'=>Ap.b3 (z' ▸ hb)) (k3.extBut _ _ (λz'=>Ap.b2 (z' ▸ hb)) e));have r2:S2 (i+1) g5:=D2.frame _ _ _ q4 λb hb o e=>k5.extBut _ _ (λz'=>Ap.c2 (z' ▸ hb)) e;have lz:z<g5.objs.size:=Qy hz5;show Rh _ _ (Builtin.SmallTypes.ownedTupleHandOut (.ref z) (.ref g5.objs.size) >>= _) _ _ _;refine Rr ?_;unfold Builtin.SmallTypes.ownedTupleHandOut;have hz6:Si (g5.push {cls:=.type "tuple",data:=.seq #[x,y]}) z TI TO .ellipsis:=QB _ hz5;refine Rr (Sl hz6 (by simp) λg7 hz7 k7=>?_);have hz7:Si g7 z TI TO (rawInt g5.objs.size):=hz7;refine Sl hz7 (by simp) λg8 hz8 k8=>?_;have hz8:Si g8 z TI TO (rawInt g5.objs.size):=hz8;have up:∀c o,c≠z->g5.get? c=some o->g8.get? c=some o:=λc o c1 e=>k8.extBut _ _ c1 (k7.extBut _ _ c1 (QB _ e));have t8:Sj g8 g5.objs.size x y:=k8.extBut _ _ (Nz lz) (k7.extBut _ _ (Nz lz) (QC _ rfl));have s8:g8.objs.size=g5.objs.size+1:=by rw[k8.1,k7.1,QE]
 rw[hsz]at hz8 t8 s8;refine Rq ⟨_,rfl,?_⟩;show Q (.ref g5.objs.size) _;rw[hsz];exact hQ x y g8 tk4 p1 p2 hz8 (up _ _ Ap.a2 t5) (D1.frame _ _ _ r1 λb hb o e=>up b o (λz'=>Ap.b1 (z' ▸ hb)) e) (D2.frame _ _ _ r2 λb hb o e=>up b o (λz'=>Ap.c1 (z' ▸ hb)) e) t8 s8 λc o c1 c2 c3 c4 e=>up c o c1 (k15 c o c1 c2 c3 c4 e)
theorem next_end{Q:Fin->Rf->Prop}(Ap:Apart z TI TO i1 i2 fp1 fp2)(D1:Draws prog w A i1 fp1 n1 P1 S1)(D2:Draws prog w A i2 fp2 n2 P2 S2)(hz:Si s.heap z TI TO .none)(hTI:Sj s.heap TI (.ref i1) (.ref i2))(hTO:Sj s.heap TO a b)(st1:S1 i s.heap)(st2:S2 i s.heap)(hend:i=n1\/(i<n1/\i=n2))
  (hE:∀g e tk,(∀c o,c≠z->c≠TO->c≠i1->c≠i2->s.heap.get? c=some o->g.get? c=some o)->(∃o,g.get? e=some o/\o.cls=.type "StopIteration")->E (.ref e) {s with heap:=g,toks:=tk}):
  Rh (model prog w) A (Builtin.«zip.__next__» ⟨[.ref z],[]⟩) Q E s:=by
 have n1z:i1≠z:=λe=>Ap.b1 (e ▸ Ap.e1);have n2z:i2≠z:=λe=>Ap.c1 (e ▸ Ap.e2);have n1T:i1≠TO:=λe=>Ap.b2 (e ▸ Ap.e1);show Rh _ _ (field (.ref z) 2 >>= _) _ _ _;refine Rr (RV hz rfl (x:=.bool false) rfl ?_);show Rh _ _ (field (.ref z) 3 >>= _) _ _ _;refine Rr (RV hz rfl (x:=.ref TI) rfl ?_);refine Rr (Sf hTI rfl ?_);show Rh _ _ (Builtin.SmallTypes.ownedTupleIsFree (.ref z) >>= _) _ _ _;refine Rr ?_;unfold Builtin.SmallTypes.ownedTupleIsFree;refine Rr (RV hz rfl (x:=.none) rfl (Rq ?_));simp only[if_true];refine Rr (Sb ?_);refine Rr (RV hz rfl (x:=.ref TO) rfl ?_);refine Rr (Sl hz (by simp) λg1 hz1 k1=>?_);have hz1:Si g1 z TI TO .ellipsis:=hz1;refine Rr ?_;simp only[OL,List.zipIdx_nil,Od,List.forIn_nil];refine Rr (Rr (Sn ?_));show Rh _ _ (Builtin.SmallTypes.nextOf (.ref i1) >>= _) _ _ _;have q1:S1 i g1:=D1.frame _ _ _ st1 λb hb o e=>k1.extBut _ _ (λz'=>Ap.b1 (z' ▸ hb)) e;rcases hend with hend|⟨l1,hend⟩
 ·subst hend;refine Rr (D1.done {s with heap:=g1} _ _ q1 λg2 e k2 he=>?_);obtain⟨oe,hoe,hce⟩:=he;have hz2:Si g2 z TI TO .ellipsis:=k2 _ _ n1z.symm hz1;have hez:e≠z:=λx=>by rw[x,hz2]at hoe;cases hoe;simp at hce
  exact Sl hz2 (by simp) λg3 _ k3=>hE g3 e s.toks (λc o c1 _ c3 _ x=>k3.extBut _ _ c1 (k2 _ _ c3 (k1.extBut _ _ c1 x))) ⟨oe,k3.extBut _ _ hez hoe,hce⟩
 ·refine Rr (D1.item i {s with heap:=g1} _ _ l1 q1 λx g2 tk2 p1 q2 k2=>Rq ?_);have t2:Sj g2 TO a b:=k2.extBut _ _ n1T.symm (k1.extBut _ _ Ap.a2 hTO);refine Rr (Sf t2 rfl ?_);refine Rr (Sq t2 λg3 t3 k3=>?_);refine Rr (Sr (Rq ?_));refine Rr (Rr (Sn ?_));show Rh _ _ (Builtin.SmallTypes.nextOf (.ref i2) >>= _) _ _ _;have q3:S2 i g3:=D2.frame _ _ _ st2 λb hb o e=>k3.extBut _ _ (λz'=>Ap.c2 (z' ▸ hb)) (k2.extBut _ _ (λz'=>Ap.c3 (z' ▸ hb)) (k1.extBut _ _ (λz'=>Ap.c1 (z' ▸ hb)) e));subst hend;refine Rr (D2.done {s with heap:=g3,toks:=tk2} _ _ q3 λg4 e k4 he=>?_);obtain⟨oe,hoe,hce⟩:=he;have hz4:Si g4 z TI TO .ellipsis:=k4 _ _ n2z.symm (k3.extBut _ _ Ap.a2.symm (k2.extBut _ _ n1z.symm hz1));have hez:e≠z:=λx=>by rw[x,hz4]at hoe;cases hoe;simp at hce
  exact Sl hz4 (by simp) λg5 _ k5=>hE g5 e tk2 (λc o c1 c2 c3 c4 x=>k5.extBut _ _ c1 (k4 _ _ c4 (k3.extBut _ _ c2 (k2.extBut _ _ c3 (k1.extBut _ _ c1 x))))) ⟨oe,k5.extBut _ _ hez hoe,hce⟩
end
def SQ(b:Bool)(h:Q6)(l:Q4)(xs:Array Q1):Prop:=if b then h.IsList l xs else h.IsTuple l xs
def SI(b:Bool)(h:Q6)(i l:Q4)(k:Nat):Prop:=if b then h.IsListIter i l k else h.IsTupleIter i l k
def Ko(b:Bool):String:=if b then"list_iterator"else"tuple_iterator"
theorem SQ.keep{b:Bool}{h h':Q6}{l:Q4}{xs:Array Q1}(x:SQ b h l xs)(k:∀o,h.get? l=some o->h'.get? l=some o):SQ b h' l xs:=by
 cases b with
 |true=>exact Heap.IsList.at x k
 |false=>obtain⟨o,e,r⟩:=(show h.IsTuple l xs from x);exact(show h'.IsTuple l xs from⟨o,k o e,r⟩)
theorem SI.keep{b:Bool}{h h':Q6}{i l:Q4}{n:Nat}(x:SI b h i l n)(k:∀o,h.get? i=some o->h'.get? i=some o):SI b h' i l n:=by
 cases b with
 |true=>exact Heap.IsListIter.at x k
 |false=>exact Heap.IsTupleIter.at x k
theorem SQ.lt{b:Bool}{h:Q6}{l:Q4}{xs:Array Q1}(x:SQ b h l xs):l<h.objs.size:=by
 cases b with
 |true=>obtain⟨o,e,_⟩:=(show h.IsList l xs from x);exact Qy e
 |false=>obtain⟨o,e,_⟩:=(show h.IsTuple l xs from x);exact Qy e
theorem SI.get{b:Bool}{h:Q6}{i l:Q4}{n:Nat}(x:SI b h i l n):∃o,h.get? i=some o/\∀v,o.data≠.cell v:=by
 cases b with
 |true=>obtain⟨o,e,_,d⟩:=(show h.IsListIter i l n from x);exact⟨o,e,λv z=>by rw[d]at z;cases z⟩
 |false=>obtain⟨o,e,_,d⟩:=(show h.IsTupleIter i l n from x);exact⟨o,e,λv z=>by rw[d]at z;cases z⟩
theorem SI.new{b:Bool}{h:Q6}{l:Q4}:SI b (h.push {cls:=.type (Ko b),data:=.fields #[.ref l,.int 0 0]}) h.objs.size l 0:=by
 cases b with
 |true=>exact⟨_,QC _ rfl,rfl,rfl⟩
 |false=>exact⟨_,QC _ rfl,rfl,rfl⟩
theorem ro{b:Bool}{prog:Q3}{w:Q2}{A:Rc}{E:Q1->Rf->Prop}{s:Rf}{l:Q4}{xs:Array Q1}{Q:Q1->Rf->Prop}(h:SQ b s.heap l xs)
  (hQ:Q (.ref s.heap.objs.size) {s with heap:=s.heap.push {cls:=.type (Ko b),data:=.fields #[.ref l,.int 0 0]}}):Rh (model prog w) A (pyIter (.ref l)) Q E s:=by
 cases b with
 |true=>exact Rt h hQ
 |false=>exact wpAny_pyIter_tuple h hQ
theorem nA{prog:Q3}{w:Q2}{A:Rc}(b:Bool)(hh:A.handled=none)(it l:Q4)(hne:l≠it)(its:Array Q1):Draws prog w A it [it,l] its.size (λi v=>its[i]?=some v) (λi h=>SI b h it l i/\SQ b h l its):=by
 cases b with
 |true=>exact Draws.list hh it l hne its
 |false=>exact HI hh it l hne its
abbrev B1(b1:Bool)(h:Q6)(l1:Q4):Q6:=h.push {cls:=.type (Ko b1),data:=.fields #[.ref l1,.int 0 0]}
abbrev Ij(b1 b2:Bool)(h:Q6)(l1 l2:Q4):Q6:=(B1 b1 h l1).push {cls:=.type (Ko b2),data:=.fields #[.ref l2,.int 0 0]}
abbrev Ku(b1 b2:Bool)(h:Q6)(l1 l2:Q4):Q6:=(Ij b1 b2 h l1 l2).push {cls:=.type "tuple",data:=.seq #[.ref h.objs.size,.ref (B1 b1 h l1).objs.size]}
abbrev Kn(b1 b2:Bool)(h:Q6)(l1 l2:Q4):Q6:=(Ku b1 b2 h l1 l2).push {cls:=.type "tuple",data:=.seq #[.none,.none]}
abbrev FL(b1 b2:Bool)(h:Q6)(l1 l2:Q4):Q6:=(Kn b1 b2 h l1 l2).push {cls:=.type "zip",data:=.fields #[.none,.bool false,.bool false,.ref (Ij b1 b2 h l1 l2).objs.size,.ref (Ku b1 b2 h l1 l2).objs.size]}
theorem CA(b1 b2:Bool)(l1 l2:Q4)(xs ys:Array Q1):Meets (Builtin.«zip.__new__» ⟨[.type "zip",.ref l1,.ref l2],[]⟩) (λ_ R s=>SQ b1 s.heap l1 xs/\SQ b2 s.heap l2 ys/\R (.ok (.ret (.ref (Kn b1 b2 s.heap l1 l2).objs.size))) {s with heap:=FL b1 b2 s.heap l1 l2}):=
 .of_wp λprog w A R s h=>by
  obtain⟨hp,g,d,tk,os⟩:=s;obtain⟨q1,q2,h⟩:=h;have hsub:=sub_zip;have e1:SQ b1 (Shared.heap ⟨hp,g,d,tk,os⟩) l1 xs:=q1;have e2:SQ b2 (Shared.heap ⟨B1 b1 hp l1,g,d,tk,os⟩) l2 ys:=q2.keep λo e=>QB _ e
  wp_walk using ro e1,ro e2
  exact⟨_,rfl,h⟩
theorem Cy{prog:Q3}{w:Q2}{A:Rc}{E:Q1->Rf->Prop}{s:Rf}{b1 b2:Bool}{l1 l2:Q4}{xs ys:Array Q1}{Q:Q1->Rf->Prop}(h1:SQ b1 s.heap l1 xs)(h2:SQ b2 s.heap l2 ys)
  (h:∀ g,Si g (s.heap.objs.size+4) (s.heap.objs.size+2) (s.heap.objs.size+3) .none->Sj g (s.heap.objs.size+2) (.ref s.heap.objs.size) (.ref (s.heap.objs.size+1))->Sj g (s.heap.objs.size+3) .none .none->SI b1 g s.heap.objs.size l1 0->SI b2 g (s.heap.objs.size+1) l2 0 ->
   (∀c o,s.heap.get? c=some o->g.get? c=some o)->Q (.ref (s.heap.objs.size+4)) {s with heap:=g}):Rh (model prog w) A (call (.type "zip") [.ref l1,.ref l2]) Q E s:=by
 refine callType_new F.called_zip (by decide) (F.typeCall_zip_2 _ _) (F.newCall_zip_2 _ _) (λobj=>F.args_object_init_3 obj _ _) F.entry_zip_new (CA b1 b2 l1 l2 xs ys) ⟨h1,h2,?_⟩;have z1:(B1 b1 s.heap l1).objs.size=s.heap.objs.size+1:=QE ..
 have z2:(Ij b1 b2 s.heap l1 l2).objs.size=s.heap.objs.size+2:=by rw[QE,z1]
 have z3:(Ku b1 b2 s.heap l1 l2).objs.size=s.heap.objs.size+3:=by rw[QE,z2]
 have z4:(Kn b1 b2 s.heap l1 l2).objs.size=s.heap.objs.size+4:=by rw[QE,z3]
 have u1:∀c o,(B1 b1 s.heap l1).get? c=some o->(FL b1 b2 s.heap l1 l2).get? c=some o:=λc o e=>QB _ (QB _ (QB _ (QB _ e)));have u2:∀c o,(Ij b1 b2 s.heap l1 l2).get? c=some o->(FL b1 b2 s.heap l1 l2).get? c=some o:=λc o e=>QB _ (QB _ (QB _ e));have g5:(FL b1 b2 s.heap l1 l2).get? (Kn b1 b2 s.heap l1 l2).objs.size=some _:=QC _ rfl;have g4:(FL b1 b2 s.heap l1 l2).get? (Ku b1 b2 s.heap l1 l2).objs.size=some _:=QB _ (QC _ rfl);have g3:(FL b1 b2 s.heap l1 l2).get? (Ij b1 b2 s.heap l1 l2).objs.size=some _:=QB _ (QB _ (QC _ rfl));have g2:SI b2 (FL b1 b2 s.heap l1 l2) (B1 b1 s.heap l1).objs.size l2 0:=SI.keep (SI.new (h:=B1 b1 s.heap l1)) λo e=>u2 _ o e;have g1:SI b1 (FL b1 b2 s.heap l1 l2) s.heap.objs.size l1 0:=SI.keep SI.new λo e=>u1 _ o e;show _/\_;rw[z2,z3,z4]at g5;rw[z1,z2]at g3;rw[z3]at g4;rw[z1]at g2;rw[z4];exact⟨⟨_,g5,rfl⟩,h _ g5 g3 g4 g1 g2 λc o e=>u1 c o (QB _ e)⟩
theorem AQ(b : Bool)(l : Q4)(xs : Array Q1): Meets (Builtin.«enumerate.__new__» ⟨[.type "enumerate", .ref l], []⟩) (fun _ R s => SQ b s.heap l xs /\
      R (.ok (.ret (.ref (B1 b s.heap l).objs.size))) {s with heap:=(B1 b s.heap l).push {cls:=.type "enumerate",data:=.fields #[.none,.bool false,.ref s.heap.objs.size,rawInt 0,.none,.none]}}):=
  .of_wp λprog w A R s h=>by
    obtain⟨hp,g,d,tk,os⟩:=s;obtain⟨q1,h⟩:=h;have hsub:=sub_enumerate;have e1:SQ b (Shared.heap ⟨hp,g,d,tk,os⟩) l xs:=q1
    wp_walk using ro e1
    refine wpAny_stack_any λst=>Rq ?_;split
    · rename_i c _ _ _ _ _
      cases(c==Value.type "enumerate")<;>(wp_walk using ro e1;exact⟨_,rfl,h⟩)
    · wp_walk using ro e1
      exact⟨_,rfl,h⟩
end ZI
namespace TG
open PySem PySem.Spec L2 ZI
variable[aY]
section
variable{X:Cx}{pins:List (Q4×Obj)}{σ:St}{H:Hp}{s:Rf}{h':Q6}
theorem Inv.turnedL{ch:List Q4}{p:Q4}{o:HO}{t':Nat}(I:Inv X pins σ H s)(hf:∀b∈ch,tP X pins H b)(k:∀b u,b∉ch->s.heap.get? b=some u->h'.get? b=some u)(hp:s.heap.objs.size<=p)(new:cS X.prog X.w (upd H p o) h' p o):
  Inv X pins σ (upd H p o) {s with heap:=h',toks:=t'}:=by
 have hn:=I.hok.fresh hp;have nch:∀b u,H b=some u->b∉ch:=λb u e z=>by rw[(hf b z).1]at e;cases e
 refine I.step (g':=s.gens) (d':=s.drawn) (ch:=ch) (λb hb=>?_) (λb o _ _ hc e _=>k b o hc e) (λb o _ _ hc e _=>⟨o.slots,k b o hc e⟩) (λb u _ q n=>by rw[aR (Np (Nm (Qy q) hp))];exact n)
  (λb o hc e=>⟨o,k b o hc e⟩) (λb xs q=>by rw[aR (bd q hn)];exact q) (λb u xs q=>by rw[aR (bd q hn)];exact q) (λb ps q=>⟨#[],by rw[aR (bd q hn),q];simp⟩) (λm hm=>?_) (λb u e=>?_) I.bare
 ·obtain⟨_,f1,_,f3,f4,f5⟩:=hf b hb;exact⟨f3,f1,f4,f5⟩
 ·obtain⟨o,es,ep,ho,r⟩:=hm;exact⟨o,es,ep,k _ o (λz=>(hf _ z).2.1 rfl) ho,r⟩
 ·by_cases hb:b=p
  ·subst hb;rw[aZ]at e;cases e;exact new
  ·rw[aR hb]at e;refine(I.hok b u e).stay (λc v hc q=>k c v ?_ q) (λc q=>by rw[aR (bd q hn)];exact q) λc xs q=>by rw[aR (bd q hn)];exact q
   rcases hc with z|z
   ·rw[z];exact nch b u e
   ·exact nch c _ z
theorem Inv.turned0{ch:List Q4}{t':Nat}(I:Inv X pins σ H s)(hf:∀b∈ch,tP X pins H b)(k:∀b u,b∉ch->s.heap.get? b=some u->h'.get? b=some u):Inv X pins σ H {s with heap:=h',toks:=t'}:=by
 have nch:∀b u,H b=some u->b∉ch:=λb u e z=>by rw[(hf b z).1]at e;cases e
 refine I.step (g':=s.gens) (d':=s.drawn) (ch:=ch) (λb hb=>?_) (λb o _ _ hc e _=>k b o hc e) (λb o _ _ hc e _=>⟨o.slots,k b o hc e⟩) (λ_ _ _ _ n=>n)
  (λb o hc e=>⟨o,k b o hc e⟩) (λ_ _ e=>e) (λ_ _ _ e=>e) (λb ps e=>⟨#[],by rw[e];simp⟩) (λm hm=>?_) (λb u e=>?_) I.bare
 ·obtain⟨_,f1,_,f3,f4,f5⟩:=hf b hb;exact⟨f3,f1,f4,f5⟩
 ·obtain⟨o,es,ep,ho,r⟩:=hm;exact⟨o,es,ep,k _ o (λz=>(hf _ z).2.1 rfl) ho,r⟩
 ·refine(I.hok b u e).stay (λc v hc q=>k c v ?_ q) (λ_ q=>q) λ_ _ q=>q;rcases hc with z|z
  ·rw[z];exact nch b u e
  ·exact nch c _ z
end
def SX(K:P5)(b:Bool)(H:Hp)(a:Q4)(xs:List V):Prop:=if b then ot K H a xs else p8 K H a xs
theorem SX.same{K:P5}{b:Bool}{H H':Hp}{a:Q4}{xs:List V}(e:bE H H')(h:SX K b H a xs):SX K b H' a xs:=by
 cases b with
 |true=>exact e.seq (show ot K H a xs from h)
 |false=>exact A8 e (show p8 K H a xs from h)
section
variable{X:Cx}{pins:List (Q4×Obj)}{σ:St}{H:Hp}{s:Rf}
theorem Inv.sx(I:Inv X pins σ H s){b:Bool}{a:Q4}{xs:List V}(h:SX X.K b H a xs):∃its:List Q1,Vals xs its/\SQ b s.heap a its.toArray/\xs.length<=Q7:=by
 cases b with
 |true=>obtain⟨its,r,p,z⟩:=I.list (show ot X.K H a xs from h);exact⟨its,r,p.isList,z⟩
 |false=>obtain⟨its,r,p,z⟩:=I.tuple (show p8 X.K H a xs from h);exact⟨its,r,p,z⟩
theorem Inv.sx_inj(I:Inv X pins σ H s){b:Bool}{a:Q4}{xs ys:List V}(h:SX X.K b H a xs)(h':SX X.K b H a ys):xs=ys:=by
 cases b with
 |true=>exact I.list_inj h h'
 |false=>exact I.tuple_inj h h'
end
def MO(K:P5)(b1 b2:Bool)(a1 a2:Q4):It:=
  ⟨fun i H=>∃ xs ys,SX K b1 H a1 xs/\SX K b2 H a2 ys/\i < xs.length/\i < ys.length,
   λi H v H'=>∃p x y,v=.ref p/\H p=none/\H'=upd H p (.tup [x,y])/\(∀xs,SX K b1 H a1 xs->xs[i]?=some x)/\∀ys,SX K b2 H a2 ys->ys[i]?=some y,
   λi H=>∃xs ys,SX K b1 H a1 xs/\SX K b2 H a2 ys/\(i=xs.length\/(i<xs.length/\i=ys.length))⟩
theorem DP{P:Q3}{w:Q2}{K:P5}{es:List Ri}{k:Nat}{pos:Pos}{b1 b2:Bool}{a1 a2 z TI TO i1 i2:Q4}(Ap:Apart z TI TO i1 i2 [i1,a1] [i2,a2])(n1:a1≠i1)(n2:a2≠i2)(n3:z≠i1)(n4:z≠i2):Turn P w K (.Tuple es k pos) (MO K b1 b2 a1 a2) [z,TI,TO,i1,i2] z
  (λi h=>Si h z TI TO .none/\Sj h TI (.ref i1) (.ref i2)/\(∃a b,Sj h TO a b)/\SI b1 h i1 a1 i/\SI b2 h i2 a2 i)where
 mem:=by simp
 obj:=λi h ⟨hz,hI,⟨a,b,hO⟩,s1,s2⟩ c hc=>by
  simp only[OM,OO,or_false]at hc;rcases hc with rfl|rfl|rfl|rfl|rfl
  ·exact⟨_,hz,λv q=>by cases q⟩
  ·exact⟨_,hI,λv q=>by cases q⟩
  ·exact⟨_,hO,λv q=>by cases q⟩
  ·exact s1.get
  ·exact s2.get
 keep:=λi h h' ⟨hz,hI,⟨a,b,hO⟩,s1,s2⟩ kp=>⟨kp z (by simp) _ hz,kp TI (by simp) _ hI,⟨a,b,kp TO (by simp) _ hO⟩,s1.keep λo e=>kp i1 (by simp) o e,s2.keep λo e=>kp i2 (by simp) o e⟩
 item:=by
  intro X hP hw hK hc i pins s σ H E I hf ⟨hz,hI,⟨a,b,hO⟩,s1,s2⟩ hg;subst hP hw hK;obtain⟨xs,ys,g1,g2,l1,l2⟩:=hg;obtain⟨its1,r1,q1,z1⟩:=Inv.sx I g1;obtain⟨its2,r2,q2,z2⟩:=Inv.sx I g2;have hh:X.A.in1.handled=none:=I.ok.hd hc;have hT:s.TypeIs (.ref z) "zip":=⟨_,hz,rfl⟩
  unfold pyNext;refine Rr (Su (RX (name:=Str.ofString "__next__") hT F.slot_zip_next (RY F.slot_zip_next hT F.entry_zip_next
   (next_item Ap (nA (A:=X.A.in1) b1 hh i1 a1 n1 its1.toArray) (nA (A:=X.A.in1) b2 hh i2 a2 n2 its2.toArray) hz hI hO ⟨s1,q1⟩ ⟨s2,q2⟩ (by rw[NE,<-r1.length];exact l1) (by rw[NE,<-r2.length];exact l2) λu v g tk p1 p2 hz' hO' t1 t2 hp sz kp=>?_) (F.args_zip_next_1 _))))
  have e1:its1[i]?=some u:=by simpa using p1
  have e2:its2[i]?=some v:=by simpa using p2
  have hx:∃x,xs[i]?=some x/\RelV x u:=by
   obtain⟨u',hu,ru⟩:=r1.get (i:=i) (x:=xs[i]) (by simp[l1]);rw[e1]at hu;cases hu;exact⟨xs[i],by simp[l1],ru⟩
  have hy:∃y,ys[i]?=some y/\RelV y v:=by
   obtain⟨u',hu,ru⟩:=r2.get (i:=i) (x:=ys[i]) (by simp[l2]);rw[e2]at hu;cases hu;exact⟨ys[i],by simp[l2],ru⟩
  obtain⟨x,ex,rx⟩:=hx;obtain⟨y,ey,ry⟩:=hy;refine Rq ⟨_,rfl,?_⟩;refine wpAny_letOwnedTupleGo_zip hz' λg' hz2 sb=>?_;have hpz:s.heap.objs.size≠z:=Nz (Qy hz);have hp':Sj g' s.heap.objs.size u v:=sb.extBut _ _ hpz hp;have I':Inv X pins σ (upd H s.heap.objs.size (.tup [x,y])) {s with heap:=g',toks:=tk}:=Inv.turnedL (ch:=[z,TI,TO,i1,i2]) I hf (λc o hc e=>by
   simp only[OM,OO,or_false,not_or]at hc;exact sb.extBut _ _ hc.1 (kp c o hc.1 hc.2.2.1 hc.2.2.2.1 hc.2.2.2.2 e)) (NB _) ⟨by show 2<=Q7;decide,[u,v],.cons rx (.cons ry .nil),_,hp',rfl,_,rfl⟩
  have fr:H s.heap.objs.size=none:=I.fresh;have ne:∀c∈[z,TI,TO,i1,i2],c≠s.heap.objs.size:=λc hc e=>by
   simp only[OM,OO,or_false]at hc;rcases hc with rfl|rfl|rfl|rfl|rfl
   ·exact hpz e.symm
   ·exact absurd (Qy hI) (by rw[e];exact Nn _)
   ·exact absurd (Qy hO) (by rw[e];exact Nn _)
   ·obtain⟨o,q,_⟩:=s1.get;exact absurd (Qy q) (by rw[e];exact Nn _)
   ·obtain⟨o,q,_⟩:=s2.get;exact absurd (Qy q) (by rw[e];exact Nn _)
  refine⟨.ref s.heap.objs.size,_,I',rfl,⟨_,x,y,rfl,fr,rfl,λxs' h=>by rw[Inv.sx_inj I h g1];exact ex,λys' h=>by rw[Inv.sx_inj I h g2];exact ey⟩,⟨hz2,?_,⟨u,v,sb.extBut _ _ Ap.a2 hO'⟩,?_,?_⟩,λc hc=>by rw[aR (ne c hc)];exact(hf c hc).1⟩
  ·exact sb.extBut _ _ Ap.a1 (kp TI _ Ap.a1 Ap.a3 Ap.d1 Ap.d2 hI)
  ·exact t1.1.keep λo e=>sb.extBut _ _ n3.symm e
  ·exact t2.1.keep λo e=>sb.extBut _ _ n4.symm e
 done:=by
  intro X hP hw hK hc i pins s σ H E I hf ⟨hz,hI,⟨a,b,hO⟩,s1,s2⟩ hg;subst hP hw hK;obtain⟨xs,ys,g1,g2,hl⟩:=hg;obtain⟨its1,r1,q1,z1⟩:=Inv.sx I g1;obtain⟨its2,r2,q2,z2⟩:=Inv.sx I g2;have hh:X.A.in1.handled=none:=I.ok.hd hc;have hT:s.TypeIs (.ref z) "zip":=⟨_,hz,rfl⟩
  unfold pyNext;refine Rr (Su (RX (name:=Str.ofString "__next__") hT F.slot_zip_next (RY F.slot_zip_next hT F.entry_zip_next
   (next_end (i:=i) Ap (nA (A:=X.A.in1) b1 hh i1 a1 n1 its1.toArray) (nA (A:=X.A.in1) b2 hh i2 a2 n2 its2.toArray) hz hI hO ⟨s1,q1⟩ ⟨s2,q2⟩ (by rw[NE,NE,<-r1.length,<-r2.length];exact hl) λg e tk kp he=>?_) (F.args_zip_next_1 _))))
  obtain⟨o,ho,hce⟩:=he;refine Rr (Sv (T:="StopIteration") (b:=true) ⟨o,ho,hce⟩ isSubtype_stop ?_);refine Rq ⟨rfl,Inv.turned0 (ch:=[z,TI,TO,i1,i2]) I hf λc o hc e=>?_⟩;simp only[OM,OO,or_false,not_or]at hc;exact kp c o hc.1 hc.2.2.1 hc.2.2.2.1 hc.2.2.2.2 e
 self:=λ_ _ _ _ _ ⟨hz,_⟩ h=>wpAny_pyIter_zip hz h
def ED:D->Option (Bool×List D)
 |.lst xs=>some (true,xs)
 |.tup xs=>some (false,xs)
 |_=>none
theorem sW{K:P5}{H:Hp}{d:D}{b:Bool}{xs:List D}{v:V}(e:ED d=some (b,xs))(h:cY K H d v):∃a vs,v=.ref a/\SX K b H a vs/\bh K H xs vs:=by
 cases d with
 |lst ys=>cases e;exact cT.mp h
 |tup ys=>cases e;obtain⟨a,vs,e1,e2,e3⟩:=cV.mp h;exact⟨a,vs,e1,p8.of e2,e3⟩
 |_=>cases e
def kQ:List D->List D->List D
 |x::xs,y::ys=>.tup [x,y]::kQ xs ys
 |_,_=>[]
theorem qx:∀xs ys:List D,(kQ xs ys).length=min xs.length ys.length
 |[],_=>by simp[kQ]
 |_::_,[]=>by simp[kQ]
 |x::xs,y::ys=>by
  rw[kQ,N6,qx xs ys,N6,N6];omega
theorem wO:∀{xs ys:List D}{i:Nat}{d:D},(kQ xs ys)[i]?=some d->∃x y,xs[i]?=some x/\ys[i]?=some y/\d=.tup [x,y]
 |[],_,i,d,h=>by simp[kQ]at h
 |_::_,[],i,d,h=>by simp[kQ]at h
 |x::xs,y::ys,0,d,h=>by
  rw[kQ,OQ]at h;cases h;exact⟨x,y,rfl,rfl,rfl⟩
 |x::xs,y::ys,i+1,d,h=>by
  rw[kQ,OS]at h;obtain⟨a,b,h1,h2,h3⟩:=wO h;exact⟨a,b,by rw[OS];exact h1,by rw[OS];exact h2,h3⟩
theorem CB{K:P5}{Hd:Hp}{b1 b2:Bool}{a1 a2:Q4}{ds es:List D}{vs ws:List V}(h1:SX K b1 Hd a1 vs)(g1:bh K Hd ds vs)(h2:SX K b2 Hd a2 ws)(g2:bh K Hd es ws):Walk K Hd (MO K b1 b2 a1 a2) (kQ ds es):=λHn O' i hO sm=>
  have s':bE Hd Hn:=sm.trans (aI Hn O')
  ⟨fun d e=>by
    obtain⟨x,y,e1,e2,rfl⟩:=wO e;have l1:i<ds.length:=(List.getElem?_eq_some_iff.mp e1).1;have l2:i<es.length:=(List.getElem?_eq_some_iff.mp e2).1;obtain⟨v,ev,dv⟩:=g1.get e1;obtain⟨w,ew,dw⟩:=g2.get e2;refine⟨⟨vs,ws,h1.same s',h2.same s',by rw[<-g1.length];exact l1,by rw[<-g2.length];exact l2⟩,λu H2 ⟨p,x',y',eu,hp,eH,q1,q2⟩=>?_⟩;have z1:=q1 vs (h1.same s');rw[ev]at z1;cases z1;have z2:=q2 ws (h2.same s');rw[ew]at z2;cases z2;subst eH eu;exact⟨cm hp _,fV hO hp (bH.mpr ⟨v,_,rfl,dv.mono sm,bH.mpr ⟨w,_,rfl,dw.mono sm,df.mpr rfl⟩⟩)⟩,
   λhl=>by
    rw[qx]at hl;refine⟨vs,ws,h1.same s',h2.same s',?_⟩;rw[<-g1.length,<-g2.length]
    omega⟩
def vB:List D->Option (List D)
 |[a,b]=>(ED a).bind λx=>(ED b).bind λy=>some (kQ x.2 y.2)
 |_=>none
def wo(f:aw->R (List D)):aw->R (List D):=λρ=>(f ρ).bind λds=>rO (vB ds)
section
variable{X:Cx}
theorem HE{a b c:Q4}(h1:a≠b)(h2:a≠c):a∉[b,c]:=λh=>by
 rcases List.mem_cons.mp h with z|z
 ·exact h1 z
 ·exact h2 (List.mem_singleton.mp z)
theorem AX{n a1 a2:Q4}(h1:a1<n)(h2:a2<n):Apart (n+4) (n+2) (n+3) n (n+1) [n,a1] [n+1,a2]:=by
 have lt:∀{a b:Nat},a<b->(b:Q4)≠(a:Q4):=λh=>Nz h;have lt':∀{a b:Nat},a<b->(a:Q4)≠(b:Q4):=λh=>Np h;have g:∀k:Nat,a1<n+k:=λk=>Nm h1 (OT _ _);have g':∀k:Nat,a2<n+k:=λk=>Nm h2 (OT _ _);have p:∀{j k:Nat},j<k->n+j<n+k:=λh=>OU h n;have p0:∀{k:Nat},0<k->n<n+k:=λh=>OV h;exact⟨lt' (p (by decide)),lt' (p (by decide)),lt' (p (by decide)),HE (lt (p0 (by decide))) (lt (g 4)),HE (lt (p0 (by decide))) (lt (g 3)),HE (lt (p0 (by decide))) (lt (g 1)),
  HE (lt (p (by decide))) (lt (g' 4)),HE (lt (p (by decide))) (lt (g' 3)),HE (lt' (p0 (by decide))) (lt h2),lt (p0 (by decide)),lt (p (by decide)),Nu,Nu⟩
theorem Hg{pins:List (Q4×Obj)}{s:Rf}{σ:St}{H:Hp}{O:List Q4}{es:List Ri}{k:Nat}{tpos:Pos}{ds r:List D}{vs:List V}{us:List Q1}{RR:It->Hp->Prop}(I:Inv X pins σ H s)(hc:vB ds=some r)(d1:bh X.K (hid H O) ds vs)(rv:Vals vs us)(q:∀J,Walk X.K (hid H O) J r->RR J H):
  Rh (model X.prog X.w) X.A (call (.type "zip") us) (λv s1=>Rh (model X.prog X.w) X.A (pyIter v) (PIE X pins σ (.Tuple es k tpos) RR) X.xe s1) X.xe s:=by
 unfold vB at hc;split at hc
 ·rename_i a b;obtain⟨⟨b1,xs⟩,e1,hc⟩:=bind_some hc;obtain⟨⟨b2,ys⟩,e2,hc⟩:=bind_some hc;cases hc;obtain⟨va,vb,rfl,da,db⟩:=d1.two;obtain⟨u1,u2,rfl,r1,r2⟩:=vals2 rv;obtain⟨a1,ws1,rfl,x1,y1⟩:=sW e1 da;obtain⟨a2,ws2,rfl,x2,y2⟩:=sW e2 db;cases r1;cases r2;obtain⟨its1,rr1,q1,_⟩:=Inv.sx I (x1.same (aI H O));obtain⟨its2,rr2,q2,_⟩:=Inv.sx I (x2.same (aI H O));refine Cy q1 q2 λg hz hI hO s1 s2 kp=>wpAny_pyIter_zip hz ?_;have Ap:=AX q1.lt q2.lt;refine⟨_,_,_,_,H,rfl,I.kept (t':=s.toks) kp,DP (b1:=b1) (b2:=b2) Ap (Np q1.lt) (Np (Nm q2.lt (OT _ 1))) (Nz (OV (by decide))) (Nz (OU (by decide) _)),⟨hz,hI,⟨_,_,hO⟩,s1,s2⟩,λb hb=>?_,q _ (CB x1 y1 x2 y2)⟩;have le:s.heap.objs.size<=b:=by
   simp only[OM,OO,or_false]at hb;rcases hb with rfl|rfl|rfl|rfl|rfl
   ·exact OT _ _
   ·exact OT _ _
   ·exact OT _ _
   ·exact NB _
   ·exact OT _ _
  exact I.fpOk le (I.hok.fresh le)
 ·cases hc
theorem KY{a b:Ri}{es:List Ri}{k:Nat}{tpos:Pos}{f:aw->R (List D)}{p pos:Pos}(hg:Gl X "zip")(hm:X.mg "zip"=none)(ha:FA X [a,b] f)(hs:Rj [a,b] X.env=(false,eval a X.env)::Rj [b] X.env:=by rfl)(hpl:(backTo pos (Rj [b] X.env)).any (·.1)=false:=by rfl):FI X (.Tuple es k tpos) (.Call (.Name "zip" p) [a,b] [] pos) (wo f):=by
 intro pins s σ H RR I ⟨O,ρ,E,hG⟩;have hA:=ha pos pins s σ H (λvs H1=>∃ds r,vB ds=some r/\bh X.K (hid H1 O) ds vs/\∀J,Walk X.K (hid H1 O) J r->RR J H1) I ⟨O,ρ,E,(jj.bind hG).imp λds hG vs H1 s1 d1=>by
  obtain⟨r,e,q⟩:=jj.rO hG;exact⟨ds,r,e,d1,λJ wk=>q J H1 s1 wk⟩⟩
 refine QN (my I hg hm PyProof.Rows.boot_zip (QJ (fj hA λus s1 ⟨vs,H1,I1,r1,ds,r,er,d1,q⟩=>?_) hs hpl));exact Hg I1 er d1 r1 q
end
def ME(K:P5)(b:Bool)(a:Q4):It:=
  ⟨fun i H=>∃ xs,SX K b H a xs/\i < xs.length,
   λi H v H'=>∃p x,v=.ref p/\H p=none/\H'=upd H p (.tup [.int i,x])/\∀xs,SX K b H a xs->xs[i]?=some x,
   λi H=>∃xs,SX K b H a xs/\i=xs.length⟩
theorem AR{P:Q3}{w:Q2}{K:P5}{es:List Ri}{k:Nat}{pos:Pos}{b:Bool}{a e it:Q4}(n1:a≠it)(n2:e≠it)(n3:e≠a):Turn P w K (.Tuple es k pos) (ME K b a) [e,it] e (λi h=>(∃old,IsEnum h e it i old)/\SI b h it a i)where
 mem:=by simp
 obj:=λi h ⟨⟨old,he⟩,s1⟩ c hc=>by
  simp only[OM,OO,or_false]at hc;rcases hc with rfl|rfl
  ·exact⟨_,he,λv q=>by cases q⟩
  ·exact s1.get
 keep:=λi h h' ⟨⟨old,he⟩,s1⟩ kp=>⟨⟨old,kp e (by simp) _ he⟩,s1.keep λo q=>kp it (by simp) o q⟩
 item:=by
  intro X hP hw hK hc i pins s σ H E I hf ⟨⟨old,he⟩,s1⟩ hg;subst hP hw hK;obtain⟨xs,g1,l1⟩:=hg;obtain⟨its,r1,q1,z1⟩:=Inv.sx I g1;have hh:X.A.in1.handled=none:=I.ok.hd hc;refine wpAny_pyNext_enum_itemD (nA (A:=X.A.in1) b hh it a n1 its.toArray) he ⟨s1,q1⟩ (by rw[NE,<-r1.length];exact l1) n2 (HE n2 n3) λu g tk p1 ho t1 hp sz kp=>?_;have e1:its[i]?=some u:=by simpa using p1
  obtain⟨u',hu,ru⟩:=r1.get (i:=i) (x:=xs[i]) (by simp[l1]);rw[e1]at hu;cases hu;refine⟨_,rfl,wpAny_letOwnedTupleGo_enum ho λg' he' sb=>?_⟩;have hpe:s.heap.objs.size≠e:=Nz (Qy he);have hp':=sb.extBut _ _ hpe hp;have I':Inv X pins σ (upd H s.heap.objs.size (.tup [.int i,xs[i]])) {s with heap:=g',toks:=tk+1}:=Inv.turnedL (ch:=[e,it]) I hf (λc o hc q=>by
   simp only[OM,OO,or_false,not_or]at hc;exact sb.extBut _ _ hc.1 (kp c o hc.1 hc.2 q)) (NB _) ⟨by show 2<=Q7;decide,[.int i tk,u],.cons ⟨_,rfl⟩ (.cons ru .nil),_,hp',rfl,_,rfl⟩
  have ne:∀c∈[e,it],c≠s.heap.objs.size:=λc hc q=>by
   simp only[OM,OO,or_false]at hc;rcases hc with rfl|rfl
   ·exact hpe q.symm
   ·obtain⟨o,q',_⟩:=s1.get;exact absurd (Qy q') (by rw[q];exact Nn _)
  refine⟨.ref s.heap.objs.size,_,I',rfl,⟨_,xs[i],rfl,I.fresh,rfl,λxs' h=>by rw[Inv.sx_inj I h g1];simp[l1]⟩,⟨⟨u,?_⟩,t1.1.keep λo q=>sb.extBut _ _ n2.symm q⟩,λc hc=>by rw[aR (ne c hc)];exact(hf c hc).1⟩;have ei:((i+1:Nat):Int)=(i:Int)+1:=by omega
  rw[ei];exact he'
 done:=by
  intro X hP hw hK hc i pins s σ H E I hf ⟨⟨old,he⟩,s1⟩ hg;subst hP hw hK;obtain⟨xs,g1,l1⟩:=hg;obtain⟨its,r1,q1,z1⟩:=Inv.sx I g1;have hh:X.A.in1.handled=none:=I.ok.hd hc;have el:i=its.toArray.size:=by rw[NE,<-r1.length];exact l1
  refine wpAny_pyNext_enum_endD (nA (A:=X.A.in1) b hh it a n1 its.toArray) he ⟨by rw[<-el];exact s1,q1⟩ λg kp=>⟨rfl,Inv.turned0 (ch:=[e,it]) I hf λc o hc q=>?_⟩
  simp only[OM,OO,or_false,not_or]at hc;exact kp c o hc.2 q
 self:=λ_ _ _ _ _ ⟨⟨old,he⟩,_⟩ h=>wpAny_pyIter_enum he h
def lK(i:Nat):List D->List D
 |[]=>[]
 |x::xs=>.tup [.int i,x]::lK (i+1) xs
theorem o3:∀(i:Nat)(xs:List D),(lK i xs).length=xs.length
 |_,[]=>rfl
 |i,x::xs=>by rw[lK,N6,o3 (i+1) xs,N6]
theorem uy:∀{xs:List D}{k i:Nat}{d:D},(lK k xs)[i]?=some d->∃x,xs[i]?=some x/\d=.tup [.int ((k+i:Nat):Int),x]
 |[],k,i,d,h=>by simp[lK]at h
 |x::xs,k,0,d,h=>by
  rw[lK,OQ]at h;cases h;exact⟨x,rfl,rfl⟩
 |x::xs,k,i+1,d,h=>by
  rw[lK,OS]at h;obtain⟨y,h1,h2⟩:=uy h;refine⟨y,by rw[OS];exact h1,?_⟩;rw[h2];congr 4;omega
theorem Bx{K:P5}{Hd:Hp}{b:Bool}{a:Q4}{ds:List D}{vs:List V}(h1:SX K b Hd a vs)(g1:bh K Hd ds vs):Walk K Hd (ME K b a) (lK 0 ds):=λHn O' i hO sm=>
  have s':bE Hd Hn:=sm.trans (aI Hn O')
  ⟨fun d e=>by
    obtain⟨x,e1,rfl⟩:=uy e;have l1:i<ds.length:=(List.getElem?_eq_some_iff.mp e1).1;obtain⟨v,ev,dv⟩:=g1.get e1;refine⟨⟨vs,h1.same s',by rw[<-g1.length];exact l1⟩,λu H2 ⟨p,x',eu,hp,eH,q1⟩=>?_⟩;have z1:=q1 vs (h1.same s');rw[ev]at z1;cases z1;subst eH eu;rw[OW];exact⟨cm hp _,fV hO hp (bH.mpr ⟨.int i,_,rfl,fK.mpr rfl,bH.mpr ⟨v,_,rfl,dv.mono sm,df.mpr rfl⟩⟩)⟩,
   λhl=>by
    rw[o3]at hl;exact⟨vs,h1.same s',by rw[<-g1.length];exact hl⟩⟩
def uE:List D->Option (List D)
 |[a]=>(ED a).bind λx=>some (lK 0 x.2)
 |_=>none
def gO(f:aw->R (List D)):aw->R (List D):=λρ=>(f ρ).bind λds=>rO (uE ds)
section
variable{X:Cx}
theorem AJ{prog:Q3}{w:Q2}{A:Rc}{E:Q1->Rf->Prop}{s:Rf}{b:Bool}{l:Q4}{xs:Array Q1}{Q:Q1->Rf->Prop}(h1:SQ b s.heap l xs)
  (h:∀g,IsEnum g (s.heap.objs.size+1) s.heap.objs.size 0 .none->SI b g s.heap.objs.size l 0->(∀c o,s.heap.get? c=some o->g.get? c=some o)->Q (.ref (s.heap.objs.size+1)) {s with heap:=g}):Rh (model prog w) A (call (.type "enumerate") [.ref l]) Q E s:=by
 refine callType_new F.called_enumerate (by decide) (F.typeCall_enumerate_1 _) (F.newCall_enumerate_1 _) (λobj=>F.args_object_init_2 obj _) F.entry_enumerate_new (AQ b l xs) ⟨h1,?_⟩;have z1:(B1 b s.heap l).objs.size=s.heap.objs.size+1:=QE ..
 have g2:=QC (B1 b s.heap l) (o:={cls:=.type "enumerate",data:=.fields #[.none,.bool false,.ref s.heap.objs.size,rawInt 0,.none,.none]}) rfl;have g1:SI b ((B1 b s.heap l).push {cls:=.type "enumerate",data:=.fields #[.none,.bool false,.ref s.heap.objs.size,rawInt 0,.none,.none]}) s.heap.objs.size l 0:=SI.keep SI.new λo e=>QB _ e;show _/\_;rw[z1]at g2 ⊢;exact⟨⟨_,g2,rfl⟩,h _ g2 g1 λc o e=>QB _ (QB _ e)⟩
theorem EL{pins:List (Q4×Obj)}{s:Rf}{σ:St}{H:Hp}{O:List Q4}{es:List Ri}{k:Nat}{tpos:Pos}{ds r:List D}{vs:List V}{us:List Q1}{RR:It->Hp->Prop}(I:Inv X pins σ H s)(hc:uE ds=some r)(d1:bh X.K (hid H O) ds vs)(rv:Vals vs us)(q:∀J,Walk X.K (hid H O) J r->RR J H):
  Rh (model X.prog X.w) X.A (call (.type "enumerate") us) (λv s1=>Rh (model X.prog X.w) X.A (pyIter v) (PIE X pins σ (.Tuple es k tpos) RR) X.xe s1) X.xe s:=by
 unfold uE at hc;split at hc
 ·rename_i a;obtain⟨⟨b1,xs⟩,e1,hc⟩:=bind_some hc;cases hc;obtain⟨va,rfl,da⟩:=d1.one;obtain⟨u1,rfl,r1⟩:=vals1 rv;obtain⟨a1,ws1,rfl,x1,y1⟩:=sW e1 da;cases r1;obtain⟨its1,rr1,q1,_⟩:=Inv.sx I (x1.same (aI H O));refine AJ q1 λg he s1 kp=>wpAny_pyIter_enum he ?_;refine⟨_,_,_,_,H,rfl,I.kept (t':=s.toks) kp,AR (b:=b1) (Np q1.lt) (Nz (OV (by decide))) (Nz (Nm q1.lt (OT _ 1))),⟨⟨_,he⟩,s1⟩,λb hb=>?_,q _ (Bx x1 y1)⟩;have le:s.heap.objs.size<=b:=by
   simp only[OM,OO,or_false]at hb;rcases hb with rfl|rfl
   ·exact OT _ _
   ·exact NB _
  exact I.fpOk le (I.hok.fresh le)
 ·cases hc
theorem Es{a:Ri}{es:List Ri}{k:Nat}{tpos:Pos}{f:aw->R (List D)}{p pos:Pos}(hg:Gl X "enumerate")(hm:X.mg "enumerate"=none)(ha:FA X [a] f)(hs:Rj [a] X.env=(false,eval a X.env)::Rj [] X.env:=by rfl)(hpl:(backTo pos (Rj [] X.env)).any (·.1)=false:=by rfl):FI X (.Tuple es k tpos) (.Call (.Name "enumerate" p) [a] [] pos) (gO f):=by
 intro pins s σ H RR I ⟨O,ρ,E,hG⟩;have hA:=ha pos pins s σ H (λvs H1=>∃ds r,uE ds=some r/\bh X.K (hid H1 O) ds vs/\∀J,Walk X.K (hid H1 O) J r->RR J H1) I ⟨O,ρ,E,(jj.bind hG).imp λds hG vs H1 s1 d1=>by
  obtain⟨r,e,q⟩:=jj.rO hG;exact⟨ds,r,e,d1,λJ wk=>q J H1 s1 wk⟩⟩
 refine QN (my I hg hm PyProof.Rows.boot_enumerate (QJ (fj hA λus s1 ⟨vs,H1,I1,r1,ds,r,er,d1,q⟩=>?_) hs hpl));exact EL I1 er d1 r1 q
end
end TG
namespace TG
open PySem PySem.Spec L2
variable[aY]
theorem Bl{K:P5}{c:Str}{C C':Q4}(h:clsAt K c C)(h':clsAt K c C'):C=C':=by
 unfold clsAt at h h';rw[h]at h';cases h';rfl
theorem uZ{f:Str}:∀{fs:List Str}{vs:List V},fs.contains f=false->(fs.zip vs).lookup f=none
 |[],_,_=>by simp
 |_::_,[],_=>by simp
 |g::fs,x::vs,h=>by
  rw[OX,Bool.or_eq_false_iff]at h;rw[OY,Oc,h.1];exact uZ h.2
def Nk(f:Str)(cs:List Str)(d:D):Option D:=match d with
 |.obj c fs vs=>if cs.contains c then(fs.zip vs).lookup f else none
 |_=>none
section
variable{X:Cx}{a o e:Ri}{es:List Ri}{fa fo:FX}{fas:aw->R (List D)}{f m x:Str}{cs:List Str}{pos apos p:Pos}{k k':Nat}{ps:List Str}
def MethAt(P:Q3)(w:Q2)(K:P5)(mg:Str->Option Q1)(base:Q6)(k:Nat)(c m:Str)(ps:List Str)(g:List D->R D):Prop:=
 ∃C f fd,clsAt K c C/\HG K C/\Meth K C m f/\nQ P w K mg base (oq P w) k f fd ps (BW K ps.length g)/\Binds K fd ps []
def eB(m:Str)(tbl:List (Str×(List D->R D)))(fo:FX)(fas:aw->R (List D)):FX:=λρ=>(fo ρ).bind λo=>match o with
 |.obj c fs vs=>match tbl.lookup c with
  |some g=>if fs.contains m then un else(fas ρ).bind λas=>g (o::as)
  |none=>un
 |_=>un
def fU(P:Q3)(w:Q2)(K:P5)(mg:Str->Option Q1)(base:Q6)(k:Nat)(m:Str)(ps:List Str)(tbl:List (Str×(List D->R D))):Prop:=
 ∀c g,tbl.lookup c=some g->MethAt P w K mg base k c m ps g/\Ar ps.length g
theorem mZ{P:Q3}{w:Q2}{K:P5}{mg:Str->Option Q1}{base:Q6}:fU P w K mg base k m ps []:=λ_ _ h=>nomatch h
theorem d7{P:Q3}{w:Q2}{K:P5}{mg:Str->Option Q1}{base:Q6}{c:Str}{g:List D->R D}{tbl:List (Str×(List D->R D))}(h:MethAt P w K mg base k c m ps g)(hn:Ar ps.length g)(t:fU P w K mg base k m ps tbl):fU P w K mg base k m ps ((c,g)::tbl):=λc' g' e=>by
 rw[Oc]at e;cases hc:c'==c with
 |true=>
  rw[hc]at e;cases e
  have:c'=c:=by simpa using hc
  subst this;exact⟨h,hn⟩
 |false=>rw[hc]at e;exact t c' g' e
theorem MethAt.mono{P:Q3}{w:Q2}{K:P5}{mg:Str->Option Q1}{base:Q6}{c:Str}{g:List D->R D}(h:MethAt P w K mg base k c m ps g)(hk:k<=k'):MethAt P w K mg base k' c m ps g:=by
 obtain⟨C,f,fd,h1,h2,h3,h4,h5⟩:=h;exact⟨C,f,fd,h1,h2,h3,h4.mono hk,h5⟩
theorem xj{tbl:List (Str×(List D->R D))}{args:List Ri}{pl:Sem Bool}(tb:fU X.prog X.w X.K X.mg X.base k m ps tbl)(hr:iz k X.A)(ho:FE X o fo)
  (hc:∀ (pins:List (Q4×Obj)) (s1:Rf) (σ:St) (H1:Hp) (O:List Q4) (ρ:aw) (a f:Q4) (od:D) (Q:VK) (g:List D->R D) (fd:RJ) (w0:V),Qh X.K (.ref f)=true->nQ X.prog X.w X.K X.mg X.base (oq X.prog X.w) k f fd ps (BW X.K ps.length g)->Binds X.K fd ps []->Ar ps.length g->Inv X pins σ H1 s1->eE X.K O H1 ρ σ->cY X.K (hid H1 O) od (.ref a) ->
   (jj X σ O H1 ((fas ρ).bind λas=>g (od::as)) λd=>∀v H',bE H1 H'->cY X.K (hid H' O) d v->Q v H')->
   Rh (model X.prog X.w) X.A (RE pos (.ref f) [.ref a] (backTo pos (Rj args X.env)) (backToKw pos (RF [] X.env))) (EP X pins σ Q) X.xe s1)
  (ht:eval (.Call (.Attribute o m apos) args [] pos) X.env=(do
   let ov<-eval o X.env
   standAt apos.atName
   let (f,first)<-holding [ov] (getMethod ov m pl)
   RE pos f first (backTo pos (Rj args X.env)) (backToKw pos (RF [] X.env)))):
  FE X (.Call (.Attribute o m apos) args [] pos) (eB m tbl fo fas):=by
 intro pins s σ H Q I ⟨O,ρ,E,hF⟩;refine xH ho I ?_ ht;refine⟨O,ρ,E,(jj.bind hF).imp λd hF v H1 s1 d1=>?_⟩;cases d with
 |obj c fs vs=>
  have hF':jj X σ O H (match tbl.lookup c with|some g=>if fs.contains m then un else(fas ρ).bind λas=>g (.obj c fs vs::as)|none=>un) _:=hF;cases hg:tbl.lookup c with
  |none=>rw[hg]at hF';exact hF'.elim
  |some g=>
   rw[hg]at hF';have hF2:jj X σ O H (if fs.contains m then un else(fas ρ).bind λas=>g (.obj c fs vs::as)) _:=hF';cases hm:fs.contains m with
   |true=>rw[hm]at hF2;exact hF2.elim
   |false=>
    rw[hm]at hF2;have hF3:jj X σ O H ((fas ρ).bind λas=>g (.obj c fs vs::as)) _:=hF2;have d0:=d1;obtain⟨a,ws,ev,g1,g2,C,dx,g3,g4⟩:=Kk.mp d1;obtain⟨⟨C',f,fd,m1,m2,m3,m4,m5⟩,ar⟩:=tb c g hg;have eC:=Bl g3 m1;subst eC;subst ev;refine⟨a,C,dx,_,f,rfl,aI H1 O _ _ g4,m2,m3,uZ hm,λs2 I2=>?_⟩;exact hc pins s2 σ H1 O ρ a f _ Q g fd (.ref a) m3.kp m4 m5 ar I2 (E.same s1) d0 ((hF3.mono s1).imp λd q v H2 s2 d2=>q v H2 (s1.trans s2) d2)
 |_=>exact hF.elim
theorem su{σ:St}{O:List Q4}{H:Hp}{g:List D->R D}{ds:List D}{vs:List V}{Q:VK}{n:Nat}(ar:Ar n g)(hO:eA H O)(d1:bh X.K (hid H O) ds vs)(h:jj X σ O H (g ds) λd=>∀v H',bE H H'->cY X.K (hid H' O) d v->Q v H'):∃E,mq (oq X.prog X.w) X σ E/\BW X.K n g vs H Q E:=by
 cases hg:g ds with
 |ok d=>
  rw[hg]at h;refine⟨E0,Ao,O,ds,by rw[<-d1.length];exact ar ds (by rw[hg];intro z;cases z),hO,d1,?_⟩;rw[hg];exact h
 |error z=>
  rw[hg]at h;cases z with
  |none=>exact h.elim
  |some x=>
   refine⟨Aq X O H x,Ae h,O,ds,by rw[<-d1.length];exact ar ds (by rw[hg];intro z;cases z),hO,d1,?_⟩;rw[hg];exact xV
theorem Kv{tbl:List (Str×(List D->R D))}{pl:Sem Bool}(tb:fU X.prog X.w X.K X.mg X.base k m ps tbl)(hr:iz k' X.A)(hk:k<=k')(ho:FE X o fo)(ha:FA X (e::es) fas)
  (hns:(e::es).all noStar=true:=by rfl)
  (ht:eval (.Call (.Attribute o m apos) (e::es) [] pos) X.env=(do
   let ov<-eval o X.env
   standAt apos.atName
   let (f,first)<-holding [ov] (getMethod ov m pl)
   RE pos f first (backTo pos (Rj (e::es) X.env)) (backToKw pos (RF [] X.env))):=by rfl):
  FE X (.Call (.Attribute o m apos) (e::es) [] pos) (eB m tbl fo fas):=
 xj tb (hr.mono hk) ho (λpins s1 σ H1 O ρ a f od Q g fd _ kp F b ar I1 E1 dO hP=>by
  refine Qo (first:=[.ref a]) (h₀:=X.base) I1.ok.mod.kin kp (fj (ha pos pins s1 σ H1 _ I1 ⟨O,ρ,E1,(jj.bind hP).imp λas hP vs H2 s2 d2=>su (vs:=.ref a::vs) ar (E1.all.same s2) (bH.mpr ⟨_,_,rfl,dO.mono (cI s2),d2⟩) ((hP.mono s2).imp λd q v H3 s3 d3=>q v H3 (s2.trans s3) d3)⟩) λus s2 ⟨vs,H2,I2,r,Ex,hx,q2⟩=>⟨I2.kIn,?_⟩) (fH (NZ _ _ ▸ hns).1) (jv (NZ _ _ ▸ hns).2);exact vZ (us:=.ref a::us) (vs:=.ref a::vs) F (hr.mono hk) b hx I2 (.cons rfl r) q2) ht
theorem JC{tbl:List (Str×(List D->R D))}{pl:Sem Bool}(tb:fU X.prog X.w X.K X.mg X.base k m ps tbl)(hr:iz k' X.A)(hk:k<=k')(ho:FE X o fo)
  (ht:eval (.Call (.Attribute o m apos) [] [] pos) X.env=(do
   let ov<-eval o X.env
   standAt apos.atName
   let (f,first)<-holding [ov] (getMethod ov m pl)
   RE pos f first (backTo pos (Rj [] X.env)) (backToKw pos (RF [] X.env))):=by rfl):
  FE X (.Call (.Attribute o m apos) [] [] pos) (eB m tbl fo av):=
 xj tb (hr.mono hk) ho (λpins s1 σ H1 O ρ a f od Q g fd _ kp F b ar I1 E1 dO hP=>by
  have hP':jj X σ O H1 (g [od]) λd=>∀v H',bE H1 H'->cY X.K (hid H' O) d v->Q v H':=hP;obtain⟨Ex,hx,q2⟩:=su (vs:=[.ref a]) ar E1.all (bH.mpr ⟨_,_,rfl,dO,df.mpr rfl⟩) hP';exact Qp (first:=[.ref a]) I1.kIn kp (vZ (us:=[.ref a]) (vs:=[.ref a]) F (hr.mono hk) b hx I1 (.cons rfl .nil) q2)) ht
theorem dD{P:Q3}{w:Q2}{K:P5}{mg:Str->Option Q1}{base:Q6}{c y qual:Str}{C f:Q4}{fd:RJ}{st:Rl}{N:List Str}{B:cG}(h1:clsAt K c C)(h2:HG K C)(h3:Meth K C m f)(F:yn K y qual st f fd)(b:Binds K fd ps [])(SC:bf N ps (aA st))(hb:BodyOk P w K mg base k N qual st f B):
  MethAt P w K mg base (k+1) c m ps (bb B ps.length N.length):=⟨C,f,fd,h1,h2,h3,wj F SC hb,b⟩
theorem xh{K:P5}{H1:Hp}{O:List Q4}{c:Str}{fs:List Str}{as:List D}{vs:List V}{C x dx:Q4}(hc:clsAt K c C)(hl:as.length=fs.length)(d1:bh K (hid H1 O) as vs)(hO:eA H1 O)(hx:H1 x=none)(hd:H1 dx=none)(ne:dx≠x):
  bE H1 (upd (upd (upd H1 dx (.own x)) x (.ins C dx [])) x (.ins C dx (fs.zip vs)))/\cY K (hid (upd (upd (upd H1 dx (.own x)) x (.ins C dx [])) x (.ins C dx (fs.zip vs))) O) (.obj c fs as) (.ref x):=by
 have sm:bE H1 (upd (upd (upd H1 dx (.own x)) x (.ins C dx [])) x (.ins C dx (fs.zip vs))):=λb o h=>by
  have n1:=bd h hx;have n2:=bd h hd;rw[aR n1,aR n1,aR n2];exact h
 exact⟨sm,Kk.mpr ⟨x,vs,rfl,d1.mono (cI sm),by rw[<-d1.length,hl],C,dx,hc,by rw[jU (hO.not hx),aZ]⟩⟩
end
end TG
namespace TG
open PySem PySem.Spec L2
variable[aY]
section
variable{X:Cx}
def Gm:List D->Option (List Str)
 |[]=>some []
 |.str x::r=>(Gm r).bind λys=>some (x::ys)
 |_=>none
def Nj:D->Option Str
 |.str z=>some z
 |_=>none
def MI(z:Str)(as:List D):Option D:=match as with
 |[.lst xs]=>(Gm xs).bind λys=>if small ((ys.map (λy=>y.length)).sum+ys.length*z.length)then some (.str (Txt.join z ys))else none
 |_=>none
def L4(a b:D):Option D:=match a,b with
 |.bl c,.bl d=>some (.bl (c==d))
 |_,_=>none
def Ej(a b:D):Option D:=match a,b with
 |.bl c,.bl d=>some (.bl (!(c==d)))
 |_,_=>none
end
structure MT(K:P5)(C:Q4):Prop where
 makes:Qb K C=true
 init:P8 K (.ref C) "__init__"=some (some (.builtin "object.__init__"))
 kp:Qh K (.ref C)=true
section
variable{X:Cx}{C:Q4}{pins:List (Q4×Obj)}{σ:St}{H:Hp}{s:Rf}{Q:VK}
theorem run_plain(M:MT X.K C)(I:Inv X pins σ H s)(h:∀x dx,H x=none->H dx=none->dx≠x->Q (.ref x) (upd (upd H dx (.own x)) x (.ins C dx []))):
  Rh (model X.prog X.w) X.A (call (.ref C) []) (EP X pins σ Q) X.xe s:=by
 have hq:=h (s.heap.objs.size+1) s.heap.objs.size (I.hok.fresh (Nat.le_succ _)) (I.hok.fresh (NB _)) (Np (Nat.lt_succ_self _));have I2:=Inv.made (C:=C) I;have e1:((s.heap.push Qd).push (P0 C s.heap.objs.size)).get? (s.heap.objs.size+1)=some (P0 C s.heap.objs.size):=by
  have:=QC (s.heap.push Qd) (o:=P0 C s.heap.objs.size) rfl
  rwa [QE]at this
 have hb:∀self,Qc (model X.prog X.w) s.heap (bindSpecial (.builtin "object.__init__") self) (.builtin "object.__init__",[self]):=λself=>PySem.W.Looks.of_pure (PySem.W.oi_bind self);refine wpAny_call (BO I.kIn M.makes M.init hb ?_);have h3:Qc (model X.prog X.w) ((s.heap.push Qd).push (P0 C s.heap.objs.size)) (isInstance (.ref (s.heap.objs.size+1)) (.type "object")) true:=by
  have h4:Qc (model X.prog X.w) ((s.heap.push Qd).push (P0 C s.heap.objs.size)) (typeOf (.ref (s.heap.objs.size+1))) (.ref C):=PySem.W.Looks.andThen (PySem.W.Looks.ld e1) PySem.W.Looks.now;exact PySem.W.Looks.andThen h4 (((Qe I.kIn M.makes).top).keeps λb o q=>QB _ (QB _ q))
 refine codeAny_call_builtin (b:=Builtin.«object.__init__») PySem.W.oi_plain PySem.W.entry_oi ?_;have ha:argsOk "object.__init__" {pos:=[Value.ref (s.heap.objs.size+1)],kw:=[]}:=PySem.W.oi_args _;refine PySem.W.check_slot (i:="object.__init__") (owner:="object") (n:="__init__") (self:=Value.ref (s.heap.objs.size+1)) (rest:=[]) (kw:=[]) PySem.W.oi_kind PySem.W.oi_split h3 ha ?_;rw[PySem.W.oi_run];exact Rq ⟨rfl,V.ref (s.heap.objs.size+1),_,I2,rfl,hq⟩
def zH(K:P5)(mg:Str->Option Q1)(c:Str):Prop:=∃C,clsAt K c C/\MT K C/\mg c=some (.ref C)
theorem Kh{c:Str}{p pos:Pos}(NA:zH X.K X.mg c)(hg:Gl X c)(hdb:(c==("__debug__":Str))=false:=by decide):FE X (.Call (.Name c p) [] [] pos) (fC (.obj c [] [])):=by
 obtain⟨C,h1,h2,h3⟩:=NA;intro pins s σ H Q I ⟨O,ρ,E,hF⟩;refine RN (vy I hg h3 ?_ hdb);refine Qp I.kIn h2.kp (run_plain h2 I λx dx hx hd ne=>?_);obtain⟨sm,dn⟩:=xh (fs:=[]) (as:=[]) (vs:=[]) h1 rfl (df.mpr rfl) E.all hx hd ne;have e:upd (upd (upd H dx (.own x)) x (.ins C dx [])) x (.ins C dx (([]:List Str).zip []))=upd (upd H dx (.own x)) x (.ins C dx []):=by rw[Eo];rfl
 rw[e]at sm dn;exact hF _ _ sm dn
def anyB:List D->Option Bool
 |[]=>some false
 |.bl b::r=>(anyB r).bind λc=>some (b||c)
 |_=>none
def BQ:List D->Option D
 |[.lst xs]=>(anyB xs).bind λb=>some (.bl b)
 |_=>none
theorem w8:∀{xs:List D}{b:Bool},anyB xs=some b->∃bs:List Bool,xs=bs.map .bl/\b=bs.any id
 |[],b,h=>by cases h;exact⟨[],rfl,rfl⟩
 |d::r,b,h=>by
  cases d with
  |bl x=>
   obtain⟨c,e1,e2⟩:=bind_some (show((anyB r).bind λc=>some (x||c))=some b from h);cases e2;obtain⟨bs,e3,e4⟩:=w8 e1;exact⟨x::bs,by rw[N3,e3],by rw[N5,e4];rfl⟩
  |_=>cases h
theorem range_any(bs:List Bool):((List.range bs.length).any λi=>(bs[i]?).getD false)=bs.any id:=by
 induction bs with
 |nil=>rfl
 |cons b bs ih=>
  rw[N6,Oo,N5,OZ,N5,<-ih];rfl
theorem Bv(hc:X.calm=true):dW X (.builtin "any") (wC X.K BQ):=by
 intro pins s σ H xs us Q I r ⟨O,ds,d,hO,hd,hg,q⟩;unfold BQ at hg;split at hg
 ·rename_i ys;obtain⟨bv,e1,e2⟩:=bind_some hg;cases e2;obtain⟨bs,eb,ev⟩:=w8 e1;subst eb ev;obtain⟨v,evv,h1⟩:=hd.one;subst evv;obtain⟨p,vs,ep,g1,g2⟩:=cT.mp h1;subst ep;obtain⟨u,eu,ru⟩:=vals1 r;subst eu;cases ru;obtain⟨its,rv,pl,hz⟩:=I.list ((aI H O).seq g1);have ei:=rN g2 rv;have hl:=pl.isList;have hlt:p<s.heap.objs.size:=by obtain⟨_,e,_⟩:=hl;exact Qy e
  refine call_any_walk (Rt hl ?_);refine⟨s.heap.objs.size,[s.heap.objs.size,p],[s.heap.objs.size],its.toArray.size,_,_,λi=>(bs[i]?).getD false,rfl,Walks.list (A:=X.A.in1) (I.ok.hd hc) _ p (Np hlt) its.toArray,
   ⟨⟨_,QC _ rfl,rfl,rfl⟩,hl.push _⟩,λi v s' Q' E' hP hQ=>?_,λh' tk hk=>?_⟩
  ·have e:bs[i]?.map Value.bool=some v:=by
    rw[<-NT,<-ei]
    simpa using hP
   cases eb:bs[i]? with
   |none=>rw[eb]at e;cases e
   |some b=>
    rw[eb]at e;cases e;simp only[eb,Option.getD_some]at hQ;exact Ro hQ
  ·have e:((List.range its.toArray.size).any λi=>(bs[i]?).getD false)=bs.any id:=by
    have:its.toArray.size=bs.length:=(by rw[NE,ei,NW]);rw[this];exact range_any bs
   rw[e];have k:∀b x,s.heap.get? b=some x->h'.get? b=some x:=λb x e=>hk b x (λhm=>by rw[List.mem_singleton.mp hm]at e;exact Nn _ (Qy e)) (QB _ e);exact⟨.bl _,H,I.kept k,rfl,q _ H (bE.refl H) (kG.mpr rfl)⟩
 ·cases hg
end
end TG
namespace TG
open PySem PySem.Spec PyProof.Rows L2
variable[aY]
def fw:List D->List D->Option Bool
 |[],[]=>some false
 |[],_::_=>some true
 |_::_,[]=>some false
 |a::as,b::bs=>match a,b with
  |.int i,.int j=>if i=j then fw as bs else some (decide (i<j))
  |.str x,.str y=>if x=y then fw as bs else some (decide (x.cps.toList<y.cps.toList))
  |_,_=>none
inductive gL:List Q1->List D->Prop where
 |nil:gL [] []
 |int (i:Int) (t:Tok) {vs:List Q1} {ds:List D} (h:gL vs ds):gL (.int i t::vs) (.int i::ds)
 |str (x:Str) (t:Tok) {vs:List Q1} {ds:List D} (h:gL vs ds):gL (.str x t::vs) (.str x::ds)
theorem gL.length:∀{vs:List Q1}{ds:List D},gL vs ds->vs.length=ds.length
 |_,_,.nil=>rfl
 |_,_,.int _ _ h=>by rw[N6,N6,h.length]
 |_,_,.str _ _ h=>by rw[N6,N6,h.length]
theorem FR(A:Rc)(s:Rf)(a:Int)(t:Tok)(c:Int)(u:Tok):∃e,SeqAt.EqAt A s (.int a t) (.int c u) e/\(e=true↔a=c):=
 ⟨(a==c),SeqAt.EqAt.int_int a t c u,by simp⟩
theorem Gh(A:Rc)(s:Rf)(a:Str)(t:Tok)(c:Str)(u:Tok):∃e,SeqAt.EqAt A s (.str a t) (.str c u) e/\(e=true↔a=c):=
 ⟨(a==c),SeqAt.EqAt.str_str a t c u,by simp⟩
theorem IK(A:Rc)(s:Rf)(a:Str)(t:Tok)(c:Str)(u:Tok)(prog:Q3)(w:Q2)(E:Q1->Rf->Prop)(Q:Q1->Rf->Prop)(h:Q (.bool (decide (a.cps.toList<c.cps.toList))) s):
  Rh (model prog w) A (richCompare .Lt (.str a t) (.str c u)) Q E s:=
 (PySem.P.lt_str h:Rh (model prog w) A (Rz .Lt (.str a t) (.str c u)) Q E s)
section
open PySem.SeqAt
open PySem.AutoSeq1 (wpAny_loadPart')
open PySem.MeetsSeq PySem.MeetsSeq2 PySem.MeetsSeq3
set_option maxHeartbeats 1000000 in
theorem tG(l b:Q4)(items items2:Array Q1)(n n2:Nat)(dd dd2:Option Q4)(sl sl2:Array (Option Q1))(ns ms:List D)(r:Bool)(hi:gL items.toList ns)(hj:gL items2.toList ms)(hr:fw ns ms=some r):
  Meets (Builtin.«tuple.__lt__» ⟨[.ref l,.ref b],[]⟩)
   (fun _ R s=>s.heap.get? l=some { cls:=.type "tuple",dict:=dd,data:=.seq items n,slots:=sl }/\s.heap.get? b=some { cls:=.type "tuple",dict:=dd2,data:=.seq items2 n2,slots:=sl2 } /\
    R (.ok (.ret (.bool r))) s):=
 .of_wp λprog w A R s h=>by
  obtain⟨hp,g,d,tk,os⟩:=s;obtain⟨hl,hb,h⟩:=h;have f2:=AutoSeq1.sub_tuple_tuple;have z1:items.size=ns.length:=by rw[<-hi.length];simp
  have z2:items2.size=ms.length:=by rw[<-hj.length];simp
  wp_walk using wpAny_loadPart' hl,wpAny_loadPart' hb,wpAny_forIn_list _ (λrest b s'=>b.1=none/\s'=⟨hp,g,d,tk,os⟩/\∃(vs ws:List Q1)(ns' ms':List D),rest=vs.zip ws/\
   gL vs ns'/\gL ws ms'/\ns'.length+items2.size=ms'.length+items.size/\fw ns' ms'=some r/\R (.ok (.ret (.bool r))) ⟨hp,g,d,tk,os⟩) _
  case turn=>
   rintro⟨y,x⟩ rest b s' ⟨hb',rfl,vs,ws,ns',ms',hz,hvi,hwi,hlen,hL,hR⟩;cases hvi with
   |nil=>rw[List.zip_nil_left]at hz;cases hz
   |int a t hvi'=>
    cases hwi with
    |nil=>rw[O0]at hz;cases hz
    |str c u hwi'=>cases hL
    |int c u hwi'=>
     rw[OY]at hz;injection hz with hyx hrest;injection hyx with hy hx;subst hy hx;have hL':(if a=c then fw _ _ else some (decide (a<c)))=some r:=hL;simp only[N6]at hlen;obtain⟨e,he,hiff⟩:=FR A.in1 ⟨hp,g,d,tk,os⟩ a t c u;refine Rr (he prog w _ _ ?_);cases e with
     |true=>
      rw[if_pos (hiff.mp rfl)]at hL'
      wp_walk
      exact⟨rfl,rfl,_,_,_,_,hrest,hvi',hwi',by omega,hL',hR⟩
     |false=>
      rw[if_neg (λq=>absurd (hiff.mpr q) NF)]at hL';cases hL';have hri:=HT.JE A.in1 ⟨hp,g,d,tk,os⟩ a t c u prog w
      wp_walk using hri
      exact⟨_,rfl,by simpa using hR⟩
   |str a t hvi'=>
    cases hwi with
    |nil=>rw[O0]at hz;cases hz
    |int c u hwi'=>cases hL
    |str c u hwi'=>
     rw[OY]at hz;injection hz with hyx hrest;injection hyx with hy hx;subst hy hx;have hL':(if a=c then fw _ _ else some (decide (a.cps.toList<c.cps.toList)))=some r:=hL;simp only[N6]at hlen;obtain⟨e,he,hiff⟩:=Gh A.in1 ⟨hp,g,d,tk,os⟩ a t c u;refine Rr (he prog w _ _ ?_);cases e with
     |true=>
      rw[if_pos (hiff.mp rfl)]at hL'
      wp_walk
      exact⟨rfl,rfl,_,_,_,_,hrest,hvi',hwi',by omega,hL',hR⟩
     |false=>
      rw[if_neg (λq=>absurd (hiff.mpr q) NF)]at hL';cases hL';have hri:=IK A.in1 ⟨hp,g,d,tk,os⟩ a t c u prog w
      wp_walk using hri
      exact⟨_,rfl,by simpa using hR⟩
  case fin=>
   rintro⟨b1,b2⟩ s' ⟨hb',rfl,vs,ws,ns',ms',hz,hvi,hwi,hlen,hL,hR⟩;simp only at hb';subst hb';have hv:r=decide (items.size<items2.size):=by
    have l1:=hvi.length;have l2:=hwi.length;cases ns' with
    |nil=>
     cases ms' with
     |nil=>
      simp only[N7]at hlen;cases hL;exact(decide_eq_false ‹0›).symm
     |cons c u=>
      simp only[N7,N6]at hlen;cases hL;exact(decide_eq_true ‹0›).symm
    |cons a t=>
     cases ms' with
     |nil=>
      simp only[N7,N6]at hlen;cases hL;exact(decide_eq_false ‹0›).symm
     |cons c u=>
      have:=congrArg List.length hz
      simp only[N7,List.length_zip,l1,l2,N6]at this;omega
   rw[hv]at hR
   wp_walk
   exact⟨_,rfl,by simpa [Builtin.Tuple.tupleCompareSizes]using hR⟩
  case h=>
   exact⟨rfl,rfl,items.toList,items2.toList,ns,ms,rfl,hi,hj,by omega,hr,h⟩
end
section
variable{X:Cx}
theorem A0{α:Type}{c:Bool}{o:Option α}{a:α}(h:(if c then o else none)=some a):c=true/\o=some a:=by
 cases c with
 |true=>exact⟨rfl,h⟩
 |false=>cases h
theorem zh{prog:Q3}{w:Q2}{A:Rc}{E:Q1->Rf->Prop}{s:Rf}{l b:Q4}{items items2:Array Q1}{ns ms:List D}{r:Bool}{Q:Q1->Rf->Prop}(hl:Q8 s.heap l items)(hb:Q8 s.heap b items2)(hi:gL items.toList ns)(hj:gL items2.toList ms)(hr:fw ns ms=some r)
  (hu:A.units<RH) (h:Q (.bool r) s):Rh (model prog w) A (Rz .Lt (.ref l) (.ref b)) Q E s:=by
 obtain⟨⟨cls,dd,data,sl⟩,ho,hc,n,hd⟩:=id hl;obtain⟨⟨cls2,dd2,data2,sl2⟩,ho2,hc2,n2,hd2⟩:=id hb;simp only at hc hd hc2 hd2;subst hc hd hc2 hd2;exact richCompare_meets_room (op:=.Lt) ⟨_,ho,rfl⟩ ⟨_,ho2,rfl⟩ PySem.F.slot_tuple_lt PySem.F.entry_tuple_lt (PySem.F.args_tuple_lt_2 _ _) (tG l b items items2 n n2 dd dd2 sl sl2 ns ms r hi hj hr)
  ⟨ho,ho2,show Value.bool r≠Value.notImplemented/\Q (.bool r) s from⟨(λx=>nomatch x),h⟩⟩ hu
def qp:List D->Bool
 |[]=>true
 |.int _::r=>qp r
 |.str _::r=>qp r
 |_=>false
theorem kC{K:P5}{H:Hp}:∀{ds:List D}{vs:List V}{us:List Q1},qp ds=true->bh K H ds vs->Vals vs us->gL us ds
 |[],vs,us,_,h,r=>by
  rw[df]at h;subst h;cases r;exact .nil
 |d::ds,vs,us,hf,h,r=>by
  obtain⟨v,r',e,h1,h2⟩:=bH.mp h;subst e;cases r with
  |cons q1 q2=>
   cases d with
   |int i=>
    rw[fK]at h1;subst h1;obtain⟨t,rfl⟩:=q1;exact .int i t (kC hf h2 q2)
   |str x=>
    rw[fM]at h1;subst h1;obtain⟨t,rfl⟩:=q1;exact .str x t (kC hf h2 q2)
   |_=>cases hf
def vG(a b:D):Option D:=match a,b with
 |.int i,.int j=>some (.bl (decide (i<j)))
 |.str x,.str y=>some (.bl (decide (x.cps.toList<y.cps.toList)))
 |.tup xs,.tup ys=>if qp xs&&qp ys then(fw xs ys).bind λr=>some (.bl r)else none
 |_,_=>none
theorem sg(hu:X.A.units+64<RH):lL X (Rz .Lt) (rD X.K vG):=by
 intro pins s σ H x y u v Q I rx ry ⟨O,a,b,d,hO,ha,hb,hg,q⟩;cases a with
 |int i=>
  cases b with
  |int j=>
   cases hg;exact Jq pins s σ H x y u v Q I rx ry ⟨i,j,fK.mp ha,fK.mp hb,q _ H (bE.refl H) (kG.mpr rfl)⟩
  |_=>cases hg
 |str i=>
  cases b with
  |str j=>
   cases hg;exact A6 pins s σ H x y u v Q I rx ry ⟨i,j,fM.mp ha,fM.mp hb,q _ H (bE.refl H) (kG.mpr rfl)⟩
  |_=>cases hg
 |tup xs=>
  cases b with
  |tup ys=>
   obtain⟨h1,h2⟩:=A0 hg;obtain⟨r,e1,e2⟩:=bind_some h2;cases e2;rw[NZ]at h1;obtain⟨p,vs,ex,g1,g2⟩:=cV.mp ha;obtain⟨p',vs',ey,g1',g2'⟩:=cV.mp hb;subst ex ey;cases rx;cases ry;obtain⟨its,r1,t1,_⟩:=I.tuple (cw (aI H O) g1);obtain⟨its2,r2,t2,_⟩:=I.tuple (cw (aI H O) g1');exact zh t1 t2 (kC h1.1 g2 r1) (kC h1.2 g2' r2) e1 ‹0› (DB I (q _ H (bE.refl H) (kG.mpr rfl)) rfl)
  |_=>cases hg
 |_=>cases hg
end
end TG
namespace TG
open PySem PySem.Spec L2
variable[aY]
def kc(x:Str)(n:Int):Str:=if(n==1||x.length==0)=true then x else⟨(List.replicate n.toNat x.cps).foldl (·++·) #[]⟩
theorem foldl_size:∀(n:Nat)(c a:Array Nat),((List.replicate n c).foldl (·++·) a).size=a.size+n*c.size
 |0,_,a=>by simp
 |n+1,c,a=>by
  rw[O1,O2,foldl_size n c,Array.size_append,Nat.succ_mul];omega
theorem xU{x:Str}{n:Int}(h:1<=n):(kc x n).length=n.toNat*x.length:=by
 unfold kc;split
 ·rename_i q;rw[Ow]at q;rcases q with q|q
  ·have:n=1:=(by simpa using q);rw[this];simp
  ·have:x.length=0:=(by simpa using q);rw[this];simp
 ·show((List.replicate n.toNat x.cps).foldl (·++·) #[]).size=n.toNat*x.cps.size;rw[foldl_size];simp
def sI(a b:D):Option D:=match a,b with
 |.int i,.int j=>oT (.int i) (.int j)
 |.str x,.int n=>if decide (1<=n/\n<=1000/\x.length<=1000)then some (.str (kc x n))else none
 |_,_=>none
section
variable{X:Cx}
theorem oz:lL X (Ry .Mult) (rD X.K sI):=by
 intro pins s σ H x y u v Q I rx ry ⟨O,a,b,d,hO,ha,hb,hg,q⟩;cases a with
 |int i=>
  cases b with
  |int j=>exact kW pins s σ H x y u v Q I rx ry (ly (.int i) (.int j) d x y O H Q hO hg ha hb q)
  |_=>cases hg
 |str z=>
  cases b with
  |int n=>
   obtain⟨h1,h2⟩:=cn hg;subst h2;obtain⟨n1,n2,zl⟩:=of_decide_eq_true h1;rw[fM]at ha;rw[fK]at hb;subst ha hb;obtain⟨t,rfl⟩:=rx;obtain⟨t',rfl⟩:=ry;have zn:z.length*n.toNat<=1000*1000:=Nat.mul_le_mul zl ‹0›;refine P.mul_str (by rw[decide_eq_false ‹0›,decide_eq_false ‹0›];rfl) (λ_ _=>?_) (λ_ _=>?_) ?_
   ·have:(2^63-1:Int)/n>=(2^63-1)/1000:=by
     rw[ge_iff_le,Int.le_ediv_iff_mul_le ‹0›];have h3:(2^63-1:Int)/1000*n<=(2^63-1)/1000*1000:=Int.mul_le_mul_of_nonneg_left n2 (by decide);have h4:(2^63-1:Int)/1000*1000<=2^63-1:=(by decide);omega
    have h5:(2^63-1:Int)/1000=9223372036854775:=(by decide);omega
   ·unfold Builtin.Str.tooLong;rw[decide_eq_false];rw[RB];omega
   ·rw[if_neg ‹0›];have fin:∀tk,EP X pins σ Q (.str (kc z n) tk) {s with toks:=s.toks+1}/\EP X pins σ Q (.str (kc z n) tk) s:=λtk=>⟨⟨.str (kc z n),H,I.tok _,⟨_,rfl⟩,q _ H (bE.refl H) (fM.mpr rfl)⟩,⟨.str (kc z n),H,I,⟨_,rfl⟩,q _ H (bE.refl H) (fM.mpr rfl)⟩⟩
    by_cases e:(n==1||z.length==0)=true
    ·rw[if_pos e]
     have:kc z n=z:=(by unfold kc;rw[if_pos e]);rw[this]at fin;exact(fin t).2
    ·rw[if_neg e];have e2:kc z n=⟨(List.replicate n.toNat z.cps).foldl (·++·) #[]⟩:=(by unfold kc;rw[if_neg e]);rw[e2]at fin;refine⟨?_,(fin _).1⟩;have rl:=xU (x:=z) (n:=n) ‹0›;rw[e2]at rl;rw[rl,RB,Nat.mul_comm];omega
  |_=>cases hg
 |_=>cases hg
end
end TG
namespace TG
open PySem PySem.Spec PyProof.Rows PySem.W L2
variable[aY]
theorem sf:∀a:List Nat,¬a<a
 |[]=>O3 _
 |x::xs=>λh=>by
  rcases List.cons_lt_cons_iff.mp h with h|⟨_,h⟩
  ·omega
  ·exact sf xs h
theorem lX:∀{a b c:List Nat},a<b->b<c->a<c
 |_,_,[],_,h=>absurd h (O3 _)
 |_,[],_::_,h,_=>absurd h (O3 _)
 |[],_::_,_::_,_,_=>O5 _ _
 |x::xs,y::ys,z::zs,h,h'=>by
  rw[O6]at h h' ⊢;rcases h with h|⟨e,h⟩<;>rcases h' with h'|⟨e',h'⟩
  ·exact .inl ‹0›
  ·exact .inl ‹0›
  ·exact .inl ‹0›
  ·exact .inr ⟨by omega,lX h h'⟩
theorem B9:∀a b:List Nat,a<b\/a=b\/b<a
 |[],[]=>.inr (.inl rfl)
 |[],_::_=>.inl (O5 _ _)
 |_::_,[]=>.inr (.inr (O5 _ _))
 |x::xs,y::ys=>by
  rw[O6,O6];rcases Nat.lt_trichotomy x y with h|h|h
  ·exact .inl (.inl h)
  ·rcases B9 xs ys with q|q|q
   ·exact .inl (.inr ⟨h,q⟩)
   ·exact .inr (.inl (by rw[h,q]))
   ·exact .inr (.inr (.inr ⟨h.symm,q⟩))
  ·exact .inr (.inr (.inl h))
theorem DT{x y:Str}(h:x.cps.toList=y.cps.toList):x=y:=by
 cases x;cases y;congr 1;exact Array.toList_inj.mp h
inductive Sh:List Bool->List D->Prop where
 |nil:Sh [] []
 |int (i:Int) {bs:List Bool} {ds:List D} (h:Sh bs ds):Sh (true::bs) (.int i::ds)
 |str (x:Str) {bs:List Bool} {ds:List D} (h:Sh bs ds):Sh (false::bs) (.str x::ds)
theorem Sh.length:∀{σ:List Bool}{a:List D},Sh σ a->a.length=σ.length
 |_,_,.nil=>rfl
 |_,_,.int _ h=>by rw[N6,N6,h.length]
 |_,_,.str _ h=>by rw[N6,N6,h.length]
theorem qN:∀{σ:List Bool}{a:List D},Sh σ a->qp a=true
 |_,_,.nil=>rfl
 |_,_,.int i h=>by
  unfold qp;exact qN h
 |_,_,.str i h=>by
  unfold qp;exact qN h
theorem sP(i j:Int)(as bs:List D):fw (.int i::as) (.int j::bs)=if i=j then fw as bs else some (decide (i<j)):=by rw[fw]
theorem rR(x y:Str)(as bs:List D):fw (.str x::as) (.str y::bs)=if x=y then fw as bs else some (decide (x.cps.toList<y.cps.toList)):=by rw[fw]
theorem C1:fw [] []=some false:=by rw[fw]
theorem nH:∀{σ:List Bool}{a:List D},Sh σ a->fw a a=some false
 |_,_,.nil=>C1
 |_,_,.int i h=>by rw[sP,if_pos rfl];exact nH h
 |_,_,.str x h=>by rw[rR,if_pos rfl];exact nH h
theorem mX:∀{σ:List Bool}{a b:List D},Sh σ a->Sh σ b->(fw a b=some true/\fw b a=some false/\a≠b)\/a=b\/(fw b a=some true/\fw a b=some false/\a≠b)
 |_,_,_,.nil,.nil=>.inr (.inl rfl)
 |_,_,_,.int i h,.int j h'=>by
  rw[sP,sP];by_cases e:i=j
  ·subst e;rw[if_pos rfl,if_pos rfl];rcases mX h h' with⟨q1,q2,q3⟩|q|⟨q1,q2,q3⟩
   ·exact .inl ⟨q1,q2,λz=>q3 (by injection z)⟩
   ·exact .inr (.inl (by rw[q]))
   ·exact .inr (.inr ⟨q1,q2,λz=>q3 (by injection z)⟩)
  ·rw[if_neg e,if_neg (λz=>e z.symm)];rcases Int.lt_or_gt_of_ne e with q|q
   ·exact .inl ⟨by rw[decide_eq_true q],by rw[decide_eq_false ‹0›],λz=>e (by injection z with z1;injection z1)⟩
   ·exact .inr (.inr ⟨by rw[decide_eq_true q],by rw[decide_eq_false ‹0›],λz=>e (by injection z with z1;injection z1)⟩)
 |_,_,_,.str x h,.str y h'=>by
  rw[rR,rR];by_cases e:x=y
  ·subst e;rw[if_pos rfl,if_pos rfl];rcases mX h h' with⟨q1,q2,q3⟩|q|⟨q1,q2,q3⟩
   ·exact .inl ⟨q1,q2,λz=>q3 (by injection z)⟩
   ·exact .inr (.inl (by rw[q]))
   ·exact .inr (.inr ⟨q1,q2,λz=>q3 (by injection z)⟩)
  ·rw[if_neg e,if_neg (λz=>e z.symm)];rcases B9 x.cps.toList y.cps.toList with q|q|q
   ·exact .inl ⟨by rw[decide_eq_true q],by rw[decide_eq_false λz=>sf _ (lX q z)],λz=>e (by injection z with z1;injection z1)⟩
   ·exact absurd (DT q) e
   ·exact .inr (.inr ⟨by rw[decide_eq_true q],by rw[decide_eq_false λz=>sf _ (lX q z)],λz=>e (by injection z with z1;injection z1)⟩)
theorem mP:∀{σ:List Bool}{a b c:List D},Sh σ a->Sh σ b->Sh σ c->fw a b=some true->fw b c=some true->fw a c=some true
 |_,_,_,_,.nil,.nil,.nil,h,_=>by rw[C1]at h;cases h
 |_,_,_,_,.int i h,.int j h',.int k h'',q,q'=>by
  rw[sP]at q q' ⊢;by_cases e:i=j
  ·subst e;rw[if_pos rfl]at q;by_cases e':i=k
   ·subst e';rw[if_pos rfl]at q' ⊢;exact mP h h' h'' q q'
   ·rw[if_neg e']at q' ⊢;exact q'
  ·rw[if_neg e]at q;have q1:=of_decide_eq_true (Option.some.inj q);by_cases e':j=k
   ·subst e';rw[if_neg e,decide_eq_true q1]
   ·rw[if_neg e']at q';have q2:=of_decide_eq_true (Option.some.inj q');rw[if_neg ‹0›,decide_eq_true ‹0›]
 |_,_,_,_,.str i h,.str j h',.str k h'',q,q'=>by
  rw[rR]at q q' ⊢;by_cases e:i=j
  ·subst e;rw[if_pos rfl]at q;by_cases e':i=k
   ·subst e';rw[if_pos rfl]at q' ⊢;exact mP h h' h'' q q'
   ·rw[if_neg e']at q' ⊢;exact q'
  ·rw[if_neg e]at q;have q1:=of_decide_eq_true (Option.some.inj q);by_cases e':j=k
   ·subst e';rw[if_neg e,decide_eq_true q1]
   ·rw[if_neg e']at q';have q2:=of_decide_eq_true (Option.some.inj q');rw[if_neg (show¬i=k from λz=>by rw[z]at q1;exact sf _ (lX q1 q2)),decide_eq_true (lX q1 q2)]
theorem CF{σ:List Bool}{a b:List D}(h:Sh σ a)(h':Sh σ b)(q:fw a b=some true):fw b a=some false:=by
 rcases mX h h' with⟨_,q2,_⟩|e|⟨_,q2,_⟩
 ·exact q2
 ·subst e;rw[nH h]at q;cases q
 ·rw[q2]at q;cases q
def kLt(a b:List D):Bool:=fw a b==some true
theorem EZ{a b:List D}:kLt a b=true↔fw a b=some true:=by unfold kLt;simp
section
variable{α:Type}
def Az(key:α->List D)(x:α):List α->List α
 |[]=>[x]
 |y::ys=>if kLt (key x) (key y)then x::y::ys else y::Az key x ys
def jG(key:α->List D):List α->List α
 |[]=>[]
 |x::xs=>Az key x (jG key xs)
theorem pT(key:α->List D)(x:α):∀ys:List α,(Az key x ys).Perm (x::ys)
 |[]=>.refl _
 |y::ys=>by
  unfold Az;split
  ·exact .refl _
  ·exact(List.Perm.cons y (pT key x ys)).trans (.swap x y ys)
theorem gX(key:α->List D):∀xs:List α,(jG key xs).Perm xs
 |[]=>.refl _
 |x::xs=>(pT key x _).trans (.cons x (gX key xs))
def xK(key:α->List D)(xs:List α):Prop:=xs.Pairwise λx y=>fw (key x) (key y)=some true
theorem wX{key:α->List D}{σ:List Bool}{x:α}(hx:Sh σ (key x)):∀{ys:List α},(∀y∈ys,Sh σ (key y)/\key x≠key y)->xK key ys->xK key (Az key x ys)
 |[],_,_=>List.pairwise_singleton _ _
 |y::ys,h,p=>by
  have p':=List.pairwise_cons.mp p;obtain⟨hy,ne⟩:=h y Nu;unfold Az;split
  ·rename_i q;have q:=EZ.mp q;refine List.pairwise_cons.mpr ⟨λz hz=>?_,p⟩;rcases List.mem_cons.mp hz with rfl|hz
   ·exact q
   ·exact mP hx hy (h z (Nv _ hz)).1 q (p'.1 z hz)
  ·rename_i q;have q:fw (key y) (key x)=some true:=by
    rcases mX hx hy with⟨z,_⟩|z|⟨z,_⟩
    ·exact absurd (EZ.mpr z) q
    ·exact absurd z ne
    ·exact z
   refine List.pairwise_cons.mpr ⟨λz hz=>?_,wX hx (λz hz=>h z (Nv _ hz)) p'.2⟩;rcases List.mem_cons.mp ((pT key x ys).mem_iff.mp hz)with rfl|hz
   ·exact q
   ·exact p'.1 z hz
theorem qo{key:α->List D}{σ:List Bool}:∀{xs:List α},(∀x∈xs,Sh σ (key x))->xs.Pairwise (λx y=>key x≠key y)->xK key (jG key xs)
 |[],_,_=>List.Pairwise.nil
 |x::xs,h,p=>by
  have p':=List.pairwise_cons.mp p;refine wX (h x Nu) (λy hy=>?_) (qo (λy hy=>h y (Nv _ hy)) p'.2);have hy:=(gX key xs).mem_iff.mp hy;exact⟨h y (Nv _ hy),p'.1 y hy⟩
theorem zW{key:α->List D}{σ:List Bool}:∀{xs ys:List α},(∀x∈xs,Sh σ (key x))->xK key xs->xK key ys->xs.Perm ys->xs=ys
 |[],ys,_,_,_,e=>(List.perm_nil.mp e.symm).symm
 |x::xs,[],_,_,_,e=>List.perm_nil.mp e
 |x::xs,y::ys,h,p,q,e=>by
  have p':=List.pairwise_cons.mp p;have q':=List.pairwise_cons.mp q;have exy:x=y:=by
   rcases List.mem_cons.mp (e.mem_iff.mp Nu)with z|z
   ·exact z
   ·have w1:=q'.1 x z;rcases List.mem_cons.mp (e.symm.mem_iff.mp Nu)with z'|z'
    ·exact z'.symm
    ·have w2:=p'.1 y z'
     have:=CF (h x Nu) (h y (Nv _ z')) w2
     rw[w1]at this;cases this
  subst exy;rw[zW (λz hz=>h z (Nv _ hz)) p'.2 q'.2 (List.Perm.cons_inv e)]
theorem wG{key:α->List D}{σ:List Bool}{xs ys:List α}(h:∀x∈xs,Sh σ (key x))(p:xs.Pairwise λx y=>key x≠key y)(q:xK key ys)(e:ys.Perm xs):jG key xs=ys:=
 zW (λx hx=>h x ((gX key xs).mem_iff.mp hx)) (qo h p) q ((gX key xs).trans e.symm)
def rank(ks:List (List D))(i:Nat):Nat:=(ks.filter λk=>kLt k (ks.getD i [])).length
theorem qZ{ks:List (List D)}{σ:List Bool}(h:∀k∈ks,Sh σ k){i j:Nat}(hi:i<ks.length)(hj:j<ks.length):decide (rank ks i<rank ks j)=kLt (ks.getD i []) (ks.getD j []):=by
 have gi:ks.getD i []=ks[i]:=by simp[hi]
 have gj:ks.getD j []=ks[j]:=by simp[hj]
 have mono:∀a b:List D,Sh σ a->Sh σ b->fw a b=some true->∀l:List (List D),(∀k∈l,Sh σ k)->(l.filter λk=>kLt k a).length<=(l.filter λk=>kLt k b).length/\(a∈l->(l.filter λk=>kLt k a).length<(l.filter λk=>kLt k b).length):=by
  intro a b ha hb hab l
  induction l with
  |nil=>exact λ_=>⟨NB _,λz=>nomatch z⟩
  |cons k l ih=>
   intro hl;obtain⟨i1,i2⟩:=ih λz hz=>hl z (Nv _ hz);have hk:=hl k Nu;by_cases q:kLt k a=true
   ·have q':kLt k b=true:=EZ.mpr (mP hk ha hb (EZ.mp q) hab);rw[O7 (p:=λk=>kLt k a) q,O7 (p:=λk=>kLt k b) q',N6,N6];refine⟨by omega,λz=>?_⟩;rcases List.mem_cons.mp z with rfl|z
    ·rw[EZ,nH ha]at q;cases q
    ·have:=i2 z;omega
   ·rw[O8 (p:=λk=>kLt k a) q];by_cases q':kLt k b=true
    ·rw[O7 (p:=λk=>kLt k b) q',N6];exact⟨by omega,λ_=>by omega⟩
    ·rw[O8 (p:=λk=>kLt k b) q'];refine⟨i1,λz=>?_⟩;rcases List.mem_cons.mp z with rfl|z
     ·exact absurd (EZ.mpr hab) q'
     ·exact i2 z
 unfold rank;rw[gi,gj];have hi':=h _ (O9 hi);have hj':=h _ (O9 hj);rcases mX hi' hj' with⟨z,_⟩|z|⟨z,z',_⟩
 ·rw[EZ.mpr z];exact decide_eq_true ((mono _ _ hi' hj' z ks h).2 (O9 hi))
 ·rw[z]
  have:kLt ks[j] ks[j]=false:=by unfold kLt;rw[nH hj'];rfl
  rw[this];exact decide_eq_false (Nn _)
 ·have e:kLt ks[i] ks[j]=false:=by unfold kLt;rw[z'];rfl
  rw[e];exact decide_eq_false (Nat.not_lt.mpr (mono _ _ hj' hi' z ks h).1)
end
section
variable{cmp:Nat->Nat->(Bool->Rf->Prop)->Rf->Prop}{r:Nat->Nat}{N:Nat}
def mK(cmp:Nat->Nat->(Bool->Rf->Prop)->Rf->Prop)(r:Nat->Nat)(N:Nat)(s:Rf):Prop:=∀(i j:Nat)(C:Bool->Rf->Prop),i<N->j<N->C (decide (r i<r j)) s->cmp i j C s
def PM(N:Nat)(p:Array Nat):Prop:=p.Perm (List.toArray (List.range N))
theorem PM.size{p:Array Nat}(h:PM N p):p.size=N:=by
 have:=h.size_eq;simpa using this
theorem PM.lt{p:Array Nat}(h:PM N p){i:Nat}(hi:i<N):p.getD i 0<N:=by
 have hs:=h.size;have e:p.getD i 0=p[i]'‹0›:=by simp[Array.getD,hs,hi]
 rw[e];have m:p[i]'‹0›∈p:=Array.getElem_mem _
 have:=(h.mem_iff (a:=p[i]'‹0›)).mp m
 simpa using this
theorem PM.rev{p:Array Nat}(h:PM N p)(i j:Nat):PM N (kas_rev p i j):=(mirror_perm p i j _).trans h
abbrev Rk(r:Nat->Nat)(p:Array Nat)(i:Nat):Nat:=r (p.getD i 0)
theorem v9{p:Array Nat}{i j:Nat}(hj:j<=p.size)(k:Nat):Rk r (kas_rev p i j) k=if i<=k/\k<j then Rk r p (i+j-1-k)else Rk r p k:=by
 have e:=getElem?_mirror_all (xs:=p) (i:=i) (j:=j) hj k;have g:∀(q:Array Nat)(k:Nat),q.getD k 0=(q[k]?).getD 0:=λq k=>by simp
 show r ((kas_rev p i j).getD k 0)=_;rw[g];show r (((mirror p i j ((j-i)/2))[k]?).getD 0)=_;rw[e];split
 ·show _=r (p.getD _ 0);rw[g]
 ·show _=r (p.getD _ 0);rw[g]
theorem DW{p:Array Nat}{src d:Nat}(hs:src<p.size)(hd:d<=src)(k:Nat):Rk r (bubble p src d) k=if k=src-d then Rk r p src else if src-d<k/\k<=src then Rk r p (k-1)else Rk r p k:=by
 have e:=getElem?_bubble (xs:=p) hs d hd k;have g:∀(q:Array Nat)(k:Nat),q.getD k 0=(q[k]?).getD 0:=λq k=>by simp
 show r ((bubble p src d).getD k 0)=_;rw[g,e];split
 ·show _=r (p.getD _ 0);rw[g]
 ·split
  ·show _=r (p.getD _ 0);rw[g]
  ·show _=r (p.getD _ 0);rw[g]
def Up(r:Nat->Nat)(p:Array Nat)(k:Nat):Prop:=∀i j,i<=j->j<k->Rk r p i<=Rk r p j
def Dn(r:Nat->Nat)(p:Array Nat)(k:Nat):Prop:=∀i j,i<=j->j<k->Rk r p j<=Rk r p i
variable{s:Rf}
theorem yN(hc:mK cmp r N s){p:Array Nat}(hp:PM N p){G:Nat->Rf->Prop}:∀(f n:Nat),1<=n->n+f<=N->Up r p n->(∀m,n<=m->m<=n+f->Up r p m->(m=n+f\/Rk r p m<Rk r p (m-1))->G m s)->(kas_asc p f n).kasWp cmp G s
 |0,n,_,_,u,h=>h n (NB _) (NB _) u (.inl rfl)
 |f+1,n,h1,h2,u,h=>by
  refine hc _ _ _ (hp.lt ‹0›) (hp.lt ‹0›) ?_;by_cases q:Rk r p n<Rk r p (n-1)
  ·rw[decide_eq_true q];dsimp only;rw[if_pos rfl];exact h n (NB _) ‹0› u (.inr q)
  ·rw[decide_eq_false q];dsimp only;rw[if_neg NF];refine yN hc hp f (n+1) ‹0› ‹0› (λi j hij hj=>?_) λm a b=>?_
   ·by_cases hjn:j<n
    ·exact u i j hij hjn
    ·have ej:j=n:=(by omega);subst ej;by_cases ei:i=j
     ·subst ei;exact NB _
     ·have:=u i (j-1) ‹0› ‹0›
      omega
   ·intro um hm;exact h m ‹0› ‹0› um (by rcases hm with z|z;exact .inl ‹0›;exact .inr z)
theorem C3{p:Array Nat}{n q:Nat}(hn:n<=p.size)(hq:q+1<=n)(he:∀i,n-(q+1)<=i->i<n->Rk r p i=Rk r p (n-1))(k:Nat):Rk r (kas_rev p (n-(q+1)) n) k=Rk r p k:=by
 rw[v9 hn];split
 ·rename_i h;rw[he _ ‹0› ‹0›,he k h.1 h.2]
 ·rfl
theorem qS(hc:mK cmp r N s){G:Array Nat×Nat×Nat->Rf->Prop}:∀(f:Nat)(p:Array Nat)(n q:Nat),PM N p->1<=n->n+f<=N->Dn r p n->q+1<=n->(∀i,n-(q+1)<=i->i<n->Rk r p i=Rk r p (n-1))->
  (∀p' m q',PM N p'->n<=m->m<=n+f->Dn r p' m->q'+1<=m->(∀i,m-(q'+1)<=i->i<m->Rk r p' i=Rk r p' (m-1))->G (p',m,q') s)->(kas_desc f p n q).kasWp cmp G s
 |0,p,n,q,hp,_,_,d,hq,he,h=>h p n q hp (NB _) (NB _) d hq he
 |f+1,p,n,q,hp,h1,h2,d,hq,he,h=>by
  have hs:=hp.size;have step:∀p',(∀k,Rk r p' k=Rk r p k)->Rk r p n<=Rk r p (n-1)->Dn r p' (n+1):=λp' hk hl i j hij hj=>by
   rw[hk,hk];by_cases hjn:j<n
   ·exact d i j hij hjn
   ·have ej:j=n:=(by omega);subst ej;by_cases ei:i=j
    ·subst ei;exact NB _
    ·have:=d i (j-1) ‹0› ‹0›
     omega
  refine hc _ _ _ (hp.lt ‹0›) (hp.lt ‹0›) ?_;by_cases q1:Rk r p n<Rk r p (n-1)
  ·rw[decide_eq_true q1];dsimp only;rw[if_pos rfl];by_cases hq0:q>0
   ·rw[if_pos hq0];refine qS hc f _ (n+1) 0 (hp.rev _ _) ‹0› ‹0› (step _ (C3 ‹0› hq he) ‹0›) ‹0› (λi a b=>by rw[show i=n+1-1 by omega]) λp' m q' a b c=>h p' m q' a ‹0› ‹0›
   ·rw[if_neg hq0];refine qS hc f _ (n+1) 0 hp ‹0› ‹0› (step _ (λ_=>rfl) ‹0›) ‹0› (λi a b=>by rw[show i=n+1-1 by omega]) λp' m q' a b c=>h p' m q' a ‹0› ‹0›
  ·rw[decide_eq_false q1];dsimp only;rw[if_neg NF];refine hc _ _ _ (hp.lt ‹0›) (hp.lt ‹0›) ?_;by_cases q2:Rk r p (n-1)<Rk r p n
   ·rw[decide_eq_true q2];dsimp only;rw[if_pos rfl];exact h p n q hp (NB _) ‹0› d hq he
   ·rw[decide_eq_false q2];dsimp only;rw[if_neg NF];refine qS hc f _ (n+1) (q+1) hp ‹0› ‹0› (step _ (λ_=>rfl) ‹0›) ‹0› (λi a b=>?_) λp' m q' a b c=>h p' m q' a ‹0› ‹0›;rw[show n+1-1=n by omega];by_cases ei:i=n
    ·subst ei;rfl
    ·have:=he i ‹0› ‹0›
     omega
theorem wZ(hc:mK cmp r N s){p:Array Nat}(hp:PM N p){n:Nat}(h1:1<=n)(hn:n<=N)(d:Dn r p n){G:Nat×Array Nat->Rf->Prop}(h:∀m p',PM N p'->1<=m->m<=N->Up r p' m->G (m,p') s):(kas_tail3 n N p).kasWp cmp G s:=by
 unfold kas_tail3;rw[KasT.kasWp_bind];have hs:=hp.size;refine yN hc (hp.rev 0 n) _ _ h1 ‹0› (λi j hij hj=>?_) λm a b u _=>h m _ (hp.rev 0 n) ‹0› ‹0› u;rw[v9 ‹0›,v9 ‹0›,if_pos ‹0›,if_pos ‹0›];exact d _ _ ‹0› ‹0›
theorem qt(hc:mK cmp r N s){p:Array Nat}(hp:PM N p){n:Nat}(hn:n+1<=N)(d:Dn r p (n+1)){G:Nat×Array Nat->Rf->Prop}(h:∀m p',PM N p'->1<=m->m<=N->Up r p' m->G (m,p') s):(kas_descPart n N p).kasWp cmp G s:=by
 unfold kas_descPart;rw[KasT.kasWp_bind];refine qS hc _ _ _ _ hp ‹0› ‹0› d ‹0› (λi a b=>by rw[show i=n+1-1 by omega]) λp' m q' hp' a b d' hq he=>?_;have hs:=hp'.size;dsimp only;by_cases hq0:q'>0
 ·rw[if_pos hq0];refine wZ hc (hp'.rev _ _) ‹0› ‹0› (λi j hij hj=>?_) h;rw[C3 ‹0› hq he,C3 ‹0› hq he];exact d' i j hij hj
 ·rw[if_neg hq0];exact wZ hc hp' ‹0› ‹0› d' h
theorem Dk(hc:mK cmp r N s)(h1:1<=N){p:Array Nat}(hp:PM N p){G:Nat×Array Nat->Rf->Prop}(h:∀m p',PM N p'->1<=m->m<=N->Up r p' m->G (m,p') s):(kas_count N p).kasWp cmp G s:=by
 unfold kas_count;rw[KasT.kasWp_bind];have hs:=hp.size;refine yN hc hp _ _ (NB _) ‹0› (λi j hij hj=>by rw[show i=j by omega];exact NB _) λn a b u hor=>?_;by_cases hn:n=N
 ·rw[if_pos (by simpa using hn)];exact h n p hp a ‹0› u
 ·rw[if_neg (by simpa using hn)];have hlt:Rk r p n<Rk r p (n-1):=by
   rcases hor with z|z
   ·omega
   ·exact z
  by_cases hg:n>1
  ·rw[if_pos hg];refine hc _ _ _ (hp.lt ‹0›) (hp.lt ‹0›) ?_;by_cases q:Rk r p 0<Rk r p (n-1)
   ·rw[decide_eq_true q];dsimp only;rw[if_pos rfl];exact h n p hp a ‹0› u
   ·rw[decide_eq_false q];dsimp only;rw[if_neg NF];have hall:∀k,k<n->Rk r p k=Rk r p (n-1):=λk hk=>by
     have a1:=u 0 k ‹0› hk;have a2:=u k (n-1) ‹0› ‹0›;omega
    have hr:∀k,Rk r (kas_rev p 0 n) k=Rk r p k:=λk=>by
     rw[v9 ‹0›];split
     ·rename_i z;rw[hall _ ‹0›,hall k z.2]
     ·rfl
    refine qt hc (hp.rev _ _) ‹0› (λi j hij hj=>?_) h;rw[hr,hr];by_cases hjn:j<n
    ·rw[hall i ‹0›,hall j hjn];exact NB _
    ·have ej:j=n:=(by omega);subst ej;by_cases ei:i=j
     ·subst ei;exact NB _
     ·rw[hall i ‹0›];omega
  ·rw[if_neg hg];have en:n=1:=(by omega);subst en;refine qt hc hp ‹0› (λi j hij hj=>?_) h;by_cases ei:i=j
   ·subst ei;exact NB _
   ·have e0:i=0:=(by omega);have e1:j=1:=(by omega);subst e0 e1;exact Nr hlt
theorem rg(hc:mK cmp r N s){p:Array Nat}(hp:PM N p){k:Nat}(hk:k<N)(u:Up r p k){G:Nat->Rf->Prop}(h:∀l,l<=k->(∀i,i<l->Rk r p i<=Rk r p k)->(∀i,l<=i->i<k->Rk r p k<Rk r p i)->G l s):
  ∀(f l t:Nat),t-l<=f->l<=t->t<=k->(∀i,i<l->Rk r p i<=Rk r p k)->(∀i,t<=i->i<k->Rk r p k<Rk r p i)->(kas_place p k f l t).kasWp cmp G s
 |0,l,t,a,b,c,d,e=>h l ‹0› d λi x y=>e i ‹0› y
 |f+1,l,t,a,b,c,d,e=>by
  unfold kas_place;by_cases hl:l>=t
  ·rw[if_pos hl];exact h l ‹0› d λi x y=>e i ‹0› y
  ·rw[if_neg hl];refine hc _ _ _ (hp.lt hk) (hp.lt ‹0›) ?_;by_cases q:Rk r p k<Rk r p ((l+t)/2)
   ·rw[decide_eq_true q];dsimp only;rw[if_pos rfl];refine rg hc hp hk u h f l ((l+t)/2) ‹0› ‹0› ‹0› d λi x y=>?_
    have:=u ((l+t)/2) i x y
    omega
   ·rw[decide_eq_false q];dsimp only;rw[if_neg NF];refine rg hc hp hk u h f ((l+t)/2+1) t ‹0› ‹0› ‹0› (λi x=>?_) e
    have:=u i ((l+t)/2) ‹0› ‹0›
    omega
theorem C0(hc:mK cmp r N s){G:Array Nat->Rf->Prop}(h:∀p,PM N p->Up r p N->G p s):∀(f:Nat)(p:Array Nat)(k:Nat),PM N p->k+f=N->Up r p k->(kas_bin f p k).kasWp cmp G s
 |0,p,k,hp,e,u=>h p hp (by rw[<-e];exact u)
 |f+1,p,k,hp,e,u=>by
  unfold kas_bin;rw[KasT.kasWp_bind];have hs:=hp.size;refine rg hc hp ‹0› u (λl hl d e'=>?_) k 0 k ‹0› (NK _) (NB _) (λi x=>by omega) λi x y=>by omega
  refine C0 hc h f _ (k+1) ((bubble_perm p k _).trans hp) ‹0› λi j hij hj=>?_;rw[DW ‹0› ‹0›,DW ‹0› ‹0›,show k-(k-l)=l by omega];have U:=u;by_cases i1:i=l
  ·rw[if_pos i1];by_cases j1:j=l
   ·rw[if_pos j1];exact NB _
   ·rw[if_neg j1,if_pos ‹0›];exact Nr (e' (j-1) ‹0› ‹0›)
  ·rw[if_neg i1];by_cases i2:l<i/\i<=k
   ·rw[if_pos i2,if_neg ‹0›,if_pos ‹0›];exact U _ _ ‹0› ‹0›
   ·rw[if_neg i2];by_cases j1:j=l
    ·rw[if_pos j1];exact d i ‹0›
    ·rw[if_neg j1];by_cases j2:l<j/\j<=k
     ·rw[if_pos j2];exact U _ _ ‹0› ‹0›
     ·rw[if_neg j2];exact U _ _ hij ‹0›
theorem Aw(hc:mK cmp r N s)(h2:1<=N){G:Array Nat->Rf->Prop}(h:∀p,PM N p->Up r p N->G p s):(kas_sort N).kasWp cmp G s:=by
 unfold kas_sort;rw[KasT.kasWp_bind];refine Dk hc h2 (Array.Perm.refl _) λm p' hp a b u=>?_;dsimp only;by_cases hm:m<N
 ·rw[if_pos hm,show max m 1=m by omega];exact C0 hc h _ p' m hp ‹0› u
 ·rw[if_neg hm];exact h p' hp (by rw[show N=m by omega];exact u)
end
section
variable{prog:Q3}{w:Q2}{A:Rc}{E:Q1->Rf->Prop}{s:Rf}
theorem tT{a:Q4}{vs:List Q1}{n:Nat}{P:PySem.Fin->Rf->Prop}{κ:Sw}{r:Nat->Nat}(ho:s.heap.get? a=some (seqObj "list" vs.toArray n))(h64:vs.length<64)
  (hk:2<=vs.length->∀h':Q6,(∀b o,b≠a->s.heap.get? b=some o->h'.get? b=some o)->∀(Q:Sw->Rf->Prop),Q κ {s with heap:=h'}->Rh (model prog w) A (keyKind' vs.toArray) Q E {s with heap:=h'})
  (hr:2<=vs.length->∀h':Q6,(∀b o,b≠a->s.heap.get? b=some o->h'.get? b=some o)->mK (Sx prog w A κ vs) r vs.length {s with heap:=h'})
  (h:∀p:Array Nat,PM vs.length p->Up r p vs.length->P (.done (.ret .none)) {s with heap:=sortedHeap s.heap a vs (List.toArray (p.toList.map λi=>vs.getD i Value.none))}):
  Rh (model prog w) A (Builtin.«list.sort» ⟨[.ref a],[]⟩) P E s:=by
 rw[list_sort_plain];have ha:a<s.heap.objs.size:=Qy ho;refine Rr (listItems_at ho rfl ?_);refine Rr (Sy ho rfl ?_ (by rw[NE,RB];omega) (NK _));obtain⟨e1,ho1⟩:∃e1,(s.heap.update a (Obj.mapSeq λ_=>(#[]:Array Q1))).get? a=some (seqObj "list" #[] e1):=⟨_,Sz ho (λ_=>#[])⟩
 refine Rr (SA ho1 rfl ?_);refine Rr (Ss ?_ (by show vs.length<=_;rw[RB];omega));refine Rr (SD ?_ (NK _));refine RW ?_;have ho6:(((s.heap.update a (Obj.mapSeq λ_=>(#[]:Array Q1))).push (seqObj "tuple" vs.toArray 0)).push (seqObj "list" #[] 0)).get? a=some (seqObj "list" #[] e1):=by
  rw[QG _ _ _ (by rw[size_push',QH];exact Np (Of ha)),QG _ _ _ (by rw[QH];exact Np ha)];exact ho1
 have kept:∀b o,b≠a->s.heap.get? b=some o->(((s.heap.update a (Obj.mapSeq λ_=>(#[]:Array Q1))).push (seqObj "tuple" vs.toArray 0)).push (seqObj "list" #[] 0)).get? b=some o:=λb o hb e=>
  QB _ (QB _ (by rw[QI _ _ _ _ hb];exact e))
 show Rh (model prog w) A _ P E {s with heap:=((s.heap.update a (Obj.mapSeq λ_=>(#[]:Array Q1))).push (seqObj "tuple" vs.toArray 0)).push (seqObj "list" #[] 0)};dsimp only;have hsz:vs.toArray.size=vs.length:=by simp
 by_cases h2:vs.toArray.size<2
 ·rw[if_pos h2,if_pos h2];refine Rr (Rq ?_);rw[StateT.run_pure];refine Rr (Rq ?_);dsimp only;refine Rr (SA ho6 rfl ?_);have hout:(arrOf (SortSt.mk' general' (vs.toArray.zip vs.toArray) #[] 7 none)).map (·.2)=List.toArray ((List.toArray (List.range vs.length)).toList.map λi=>vs.getD i Value.none):=by
   refine kat_snds rfl ?_;show vs.toArray.zip vs.toArray=_;have e:=kas_range (vs.toArray.zip vs.toArray);rw[show(vs.toArray.zip vs.toArray).size=vs.length by simp]at e;exact e.symm
  rw[hout];refine Rr (Sy ho6 rfl ?_ (NK _) (by rw[NE,NW,RB];simp;omega));simp only[bne_self_eq_false,Oe,if_false];refine Rq (h _ (Array.Perm.refl _) λi j hij hj=>?_)
  have:i=j:=by omega
  subst this;exact NB _
 ·rw[if_neg h2,if_neg h2];have h2':2<=vs.length:=by omega
  refine Rr (hk h2' _ kept _ ?_);refine Rr (Rm (kat_run (Q:=λst' s'=>∃p:Array Nat,arrOf st'=p.map (kas_item (vs.toArray.zip vs.toArray))/\failedOf st'=none/\PM vs.length p/\Up r p vs.length/\s'={s with heap:=((s.heap.update a (Obj.mapSeq λ_=>(#[]:Array Q1))).push (seqObj "tuple" vs.toArray 0)).push (seqObj "list" #[] 0)})
   (G:=λp s'=>PM vs.length p/\Up r p vs.length/\s'={s with heap:=((s.heap.update a (Obj.mapSeq λ_=>(#[]:Array Q1))).push (seqObj "tuple" vs.toArray 0)).push (seqObj "list" #[] 0)})
   rfl h2' h64 (λp' st' s' a1 a2 a3 a4=>⟨p',a2,a3,a4.1,a4.2.1,a4.2.2⟩) (Aw (hr h2' _ kept) ‹0› λp hp hu=>⟨hp,hu,rfl⟩)) ?_ λ_ _ e=>e)
  rintro⟨⟨⟩,st'⟩ s' ⟨p,har,hf,hp,hu,rfl⟩;dsimp only;refine Rr (SA ho6 rfl ?_);have hout:=kat_snds rfl har;rw[hout];refine Rr (Sy ho6 rfl ?_ (NK _) (by rw[NE,NW,Array.length_toList,hp.size,RB];omega));rw[hf];simp only[bne_self_eq_false,Oe,if_false];exact Rq (h p hp hu)
theorem rS{src:Q1}{vs:List Q1}{Q:Q1->Rf->Prop}{κ:Sw}{r:Nat->Nat}(h64:vs.length<64)
  (hcol:∀(Q':List Q1->Rf->Prop),(∀h' tk,(∀b o,s.heap.get? b=some o->h'.get? b=some o)->Q' vs {s with heap:=h',toks:=tk})->Rh (model prog w) A.in1 (collect src) Q' E s)
  (hk:2<=vs.length->∀(h':Q6)(tk:Nat),(∀b o,s.heap.get? b=some o->h'.get? b=some o)->∀(Q:Sw->Rf->Prop),Q κ {s with heap:=h',toks:=tk}->Rh (model prog w) A.in1.in1 (keyKind' vs.toArray) Q E {s with heap:=h',toks:=tk})
  (hr:2<=vs.length->∀(h':Q6)(tk:Nat),(∀b o,s.heap.get? b=some o->h'.get? b=some o)->mK (Sx prog w A.in1.in1 κ vs) r vs.length {s with heap:=h',toks:=tk})
  (h:∀(p:Array Nat)(h1 h':Q6)(l:Q4)(e tk:Nat),PM vs.length p->Up r p vs.length->(∀b o,s.heap.get? b=some o->h1.get? b=some o)->(∀b o,h1.get? b=some o->h'.get? b=some o)->h1.objs.size<=l->h'.get? l=some (seqObj "list" (List.toArray (p.toList.map λi=>vs.getD i Value.none)) e)->Q (.ref l) {s with heap:=h',toks:=tk}):
  Rh (model prog w) A (call (.builtin "sorted") [src]) Q E s:=by
 refine Calls.call_function_entry kind_sorted plain_sorted entry_sorted (args_sorted1 _) ?_;unfold Builtin.«sorted»;refine Rr (m:=checkCount "sorted" 1 1 _) (Rq ?_);refine Rr (hcol _ λh1 tk k1=>?_);refine Rr (SD ?_ (by rw[RB];omega));have hoL:(h1.push (seqObj "list" vs.toArray 0)).get? h1.objs.size=some (seqObj "list" vs.toArray 0):=QC _ rfl;have k2:∀b o,s.heap.get? b=some o->(h1.push (seqObj "list" vs.toArray 0)).get? b=some o:=λb o e=>QB _ (k1 b o e);have ne:∀b o,s.heap.get? b=some o->b≠h1.objs.size:=λb o e=>Np (Qy (k1 b o e));refine Rr (RW (RY slot_list_sort ⟨_,hoL,rfl⟩ entry_list_sort (tT (s:={s with heap:=h1.push (seqObj "list" vs.toArray 0),toks:=tk}) (r:=r) (κ:=κ) hoL h64
  (λh2 h' k=>hk h2 h' tk λb o e=>k b o (ne b o e) (k2 b o e)) (λh2 h' k=>hr h2 h' tk λb o e=>k b o (ne b o e) (k2 b o e)) λp hp hu=>⟨_,rfl,?_⟩) (args_list_sort _)))
 refine Rq ⟨_,rfl,?_⟩;obtain⟨e,he⟩:=sortedHeap_at (vs:=vs) (out:=List.toArray (p.toList.map λi=>vs.getD i Value.none)) hoL;exact h p h1 _ h1.objs.size e tk hp hu k1 (λb o q=>by rw[sortedHeap_old (Np (Qy q)) (by rw[size_push'];exact Of (Qy q))];exact QB _ q) (NB _) he
end
def eM:D->List D
 |.tup ks=>ks
 |_=>[]
def oneOf(d:D):List D:=[d]
def HN(xs:List D):Prop:=xs.length<64/\∃σ:List Bool,σ≠[]/\(∀x∈xs,∃k,x=.tup k/\Sh σ k)/\xs.Pairwise λx y=>eM x≠eM y
def JP(xs:List D):Prop:=xs.length<64/\∃b:Bool,(∀x∈xs,Sh [b] [x])/\xs.Pairwise λx y=>oneOf x≠oneOf y
open Classical in
noncomputable def qD(xs:List D):Option D:=if HN xs then some (.lst (jG eM xs))else if JP xs then some (.lst (jG oneOf xs))else none
noncomputable def fI:List D->Option D
 |[.lst xs]=>qD xs
 |[.tup xs]=>qD xs
 |_=>none
theorem jQ{prog:Q3}{w:Q2}{A:Rc}{s:Rf}{Q:Bool->Rf->Prop}{fin:Bool}(hf:fin=false):∀{σ:List Bool}{ns ms:List D}{xs ys:List Q1}{i:Nat},Sh σ ns->Sh σ ms->gL xs ns->gL ys ms->Q (kLt ns ms) s->KatLex prog w A true fin Q (xs.zip ys) i s
 |_,_,_,_,_,i,.nil,.nil,.nil,.nil,h=>by
  subst hf;exact kat_nil (by simpa [kLt,fw]using h)
 |_,_,_,_,_,i,.int a h1,.int c h2,.int _ t f1,.int _ u f2,h=>by
  rw[OY];obtain⟨e,he,hiff⟩:=FR A s a t c u;refine kat_cons (he prog w _ _ ?_);cases e with
  |true=>
   have ac:=hiff.mp rfl;refine kat_yes (jQ hf h1 h2 f1 f2 ?_);unfold kLt at h ⊢;rw[sP,if_pos ac]at h;exact h
  |false=>
   have ac:¬a=c:=λq=>absurd (hiff.mpr q) NF;have h':Q (decide (a<c)) s:=by
    unfold kLt at h;rw[sP,if_neg ac]at h;cases hd:decide (a<c)<;>rw[hd]at h<;>exact h
   refine kat_no ?_;cases hi:(i==0)with
   |true=>exact oneLt_int h'
   |false=>exact kat_one _ _ (PySem.P.lt_int (show Qq Q (.bool _) s from h'))
 |_,_,_,_,_,i,.str a h1,.str c h2,.str _ t f1,.str _ u f2,h=>by
  rw[OY];obtain⟨e,he,hiff⟩:=Gh A s a t c u;refine kat_cons (he prog w _ _ ?_);cases e with
  |true=>
   have ac:=hiff.mp rfl;refine kat_yes (jQ hf h1 h2 f1 f2 ?_);unfold kLt at h ⊢;rw[rR,if_pos ac]at h;exact h
  |false=>
   have ac:¬a=c:=λq=>absurd (hiff.mpr q) NF;have h':Q (decide (a.cps.toList<c.cps.toList)) s:=by
    unfold kLt at h;rw[rR,if_neg ac]at h;cases hd:decide (a.cps.toList<c.cps.toList)<;>rw[hd]at h<;>exact h
   refine kat_no ?_;cases hi:(i==0)with
   |true=>exact oneLt_str h'
   |false=>exact kat_one _ _ (PySem.P.lt_str (show Qq Q (.bool _) s from h'))
theorem og{h:Q6}{PT:Q1->Prop}:∀{its:List Q1},(∀v∈its,∃a o xs n f,v=.ref a/\h.get? a=some o/\o.cls=.type "tuple"/\o.data=.seq xs n/\xs[0]?=some f/\PT f)->∃fs,KatTups h its fs/\fs.length=its.length/\∀f∈fs,PT f
 |[],_=>⟨[],.nil,rfl,λ_ h=>nomatch h⟩
 |v::its,hh=>by
  obtain⟨a,o,xs,n,f,rfl,h1,h2,h3,h4,h5⟩:=hh v Nu;obtain⟨fs,k1,k2,k3⟩:=og (its:=its) λu hu=>hh u (Nv _ hu);refine⟨f::fs,.cons h1 h2 h3 h4 k1,by rw[N6,N6,k2],λg hg=>?_⟩;rcases List.mem_cons.mp hg with rfl|z
  ·exact h5
  ·exact k3 g z
theorem gL.first{σ:List Bool}{b:Bool}{xs:List Q1}{ns:List D}(f:gL xs ns)(h:Sh (b::σ) ns):∃v,xs[0]?=some v/\typeOf v=pure (.type (if b then"int"else"str")):=by
 cases f with
 |nil=>cases h
 |int i t f=>cases h;exact⟨_,rfl,rfl⟩
 |str i t f=>cases h;exact⟨_,rfl,rfl⟩
theorem qy{key:D->List D}{σ:List Bool}{ds:List D}(h:∀x∈ds,Sh σ (key x))(pw:ds.Pairwise λx y=>key x≠key y){p:Array Nat}(hp:PM ds.length p)(hu:Up (rank (ds.map key)) p ds.length):p.toList.map (λi=>ds.getD i .non)=jG key ds:=by
 have hr:p.toList.Perm (List.range ds.length):=by
  have:=Array.perm_iff_toList_perm.mp hp
  simpa using this
 have hmap:(List.range ds.length).map (λi=>ds.getD i .non)=ds:=by
  apply List.ext_getElem
  ·simp
  ·intro i h1 h2;simp at h1;simp[h1]
 have hperm:(p.toList.map λi=>ds.getD i .non).Perm ds:=by
  have:=hr.map (λi=>ds.getD i .non)
  rwa [hmap]at this
 have hn:p.toList.Nodup:=hr.nodup_iff.mpr List.nodup_range;refine(wG h pw ?_ hperm).symm;have hl:p.toList.length=ds.length:=by rw[hr.length_eq,OB]
 have kd:∀i,i<ds.length->(ds.map key).getD i []=key (ds.getD i .non):=λi hi=>by simp[hi]
 have hsh:∀k∈ds.map key,Sh σ k:=λk hk=>by
  obtain⟨x,hx,rfl⟩:=List.mem_map.mp hk;exact h x hx
 unfold xK;rw[Pa,List.pairwise_iff_getElem];intro i j hi hj hij;have hi':p.toList[i]<ds.length:=by simpa using hr.mem_iff.mp (O9 hi)
 have hj':p.toList[j]<ds.length:=by simpa using hr.mem_iff.mp (O9 hj)
 have ne:p.toList[i]≠p.toList[j]:=List.pairwise_iff_getElem.mp hn i j hi hj hij;have up:=hu i j ‹0› ‹0›;have gi:p.getD i 0=p.toList[i]:=by
  have:i<p.size:=by rw[<-Array.length_toList];exact hi
  simp[Array.getD,this]
 have gj:p.getD j 0=p.toList[j]:=by
  have:j<p.size:=by rw[<-Array.length_toList];exact hj
  simp[Array.getD,this]
 unfold Rk at up;rw[gi,gj]at up;have rl:=qZ hsh (i:=p.toList[j]) (j:=p.toList[i]) (by rw[NW];exact hj') (by rw[NW];exact hi');rw[kd _ hj',kd _ hi',decide_eq_false ‹0›]at rl;have ei:ds.getD p.toList[i] .non=ds[p.toList[i]]:=by rw[Pb,Oq hi'];rfl
 have ej:ds.getD p.toList[j] .non=ds[p.toList[j]]:=by rw[Pb,Oq hj'];rfl
 have s1:=h _ (show ds.getD p.toList[i] .non∈ds by rw[ei];exact O9 hi');have s2:=h _ (show ds.getD p.toList[j] .non∈ds by rw[ej];exact O9 hj');rcases mX s1 s2 with⟨z,_⟩|z|⟨z,_⟩
 ·exact z
 ·exfalso;have pw':=List.pairwise_iff_getElem.mp pw;rw[ei,ej]at z;rcases Nat.lt_or_gt_of_ne ne with q|q
  ·exact pw' _ _ hi' hj' q z
  ·exact pw' _ _ hj' hi' q z.symm
 ·rw[EZ.mpr z]at rl;cases rl
theorem p9{vs:List V}{us:List Q1}(r:Vals vs us):∀l:List Nat,(∀i∈l,i<vs.length)->Vals (l.map λi=>vs.getD i .non) (l.map λi=>us.getD i Value.none)
 |[],_=>.nil
 |i::l,h=>by
  have hi:=h i Nu;obtain⟨u,e,q⟩:=r.get (i:=i) (x:=vs[i]) (by simp[hi]);refine .cons ?_ (p9 r l λj hj=>h j (Nv _ hj));have e1:vs.getD i .non=vs[i]:=by simp[hi]
  have e2:us.getD i Value.none=u:=by simp[Pb,e]
  show L2.RelV (vs.getD i .non) (us.getD i Value.none);rw[e1,e2];exact q
theorem pp{K:P5}{H:Hp}{ds:List D}{vs:List V}(g:bh K H ds vs):∀l:List Nat,(∀i∈l,i<ds.length)->bh K H (l.map λi=>ds.getD i .non) (l.map λi=>vs.getD i .non)
 |[],_=>df.mpr rfl
 |i::l,h=>by
  have hi:=h i Nu;obtain⟨v,e,q⟩:=g.get (i:=i) (d:=ds[i]) (by simp[hi]);refine bH.mpr ⟨_,_,rfl,?_,pp g l λj hj=>h j (Nv _ hj)⟩;have e1:ds.getD i .non=ds[i]:=by simp[hi]
  have e2:vs.getD i .non=v:=by simp[Pb,e]
  show cY K H (ds.getD i .non) (vs.getD i .non);rw[e1,e2];exact q
section
variable{X:Cx}{pins:List (Q4×Obj)}{s:Rf}{σ:L2.St}{H:Hp}{O:List Q4}
theorem uF{u:Q1}{ds:List D}{vs:List V}{its:List Q1}{d:D}{Q:VK}(I:Inv X pins σ H s)(hO:eA H O)(dn:bh X.K (hid H O) ds vs)(rv:Vals vs its)(hs:qD ds=some d)
  (hcol:∀(Q':List Q1->Rf->Prop),(∀h' tk,(∀b o,s.heap.get? b=some o->h'.get? b=some o)->Q' its {s with heap:=h',toks:=tk})->Rh (model X.prog X.w) X.A.in1 (collect u) Q' X.xe s)
  (q:∀v H',bE H H'->cY X.K (hid H' O) d v->Q v H'):Rh (model X.prog X.w) X.A (call (.builtin "sorted") [u]) (EP X pins σ Q) X.xe s:=by
 have l1:=dn.length;have l2:=rv.length;have fin:∀(key:D->List D)(σ':List Bool),(∀x∈ds,Sh σ' (key x))->ds.Pairwise (λx y=>key x≠key y)->ds.length<64->d=.lst (jG key ds)->∀(p:Array Nat)(h1 h':Q6)(l:Q4)(e tk:Nat),PM its.length p->Up (rank (ds.map key)) p its.length->(∀b o,s.heap.get? b=some o->h1.get? b=some o)->(∀b o,h1.get? b=some o->h'.get? b=some o)->h1.objs.size<=l->
   h'.get? l=some (seqObj "list" (List.toArray (p.toList.map λi=>its.getD i Value.none)) e)->EP X pins σ Q (.ref l) {s with heap:=h',toks:=tk}:=by
  intro key σ' hsh pw h64 ed p h1 h' l e tk hp hu k1 k2 hl he;have el:its.length=ds.length:=by omega
  rw[el]at hp hu;have ps:=qy hsh pw hp hu;have hr:p.toList.Perm (List.range ds.length):=by
   have:=Array.perm_iff_toList_perm.mp hp
   simpa using this
  have hlt:∀i∈p.toList,i<ds.length:=λi hi=>by simpa using hr.mem_iff.mp hi
  have I1:Inv X pins σ H {s with heap:=h1,toks:=tk}:=I.kept k1;have hn:H l=none:=I1.hok.fresh hl;have rv':=p9 rv p.toList λi hi=>by have:=hlt i hi;omega
  have dn':=pp dn p.toList hlt;have hlen:p.toList.length=ds.length:=by rw[hr.length_eq,OB]
  refine⟨.ref l,_,Inv.laid (s:={s with heap:=h1,toks:=tk}) (t':=tk) I1 k2 hl (show cS X.prog X.w _ h' _ (.lst (p.toList.map λi=>vs.getD i .non))from⟨by rw[NW,hlen,RB];omega,_,e,rv',he⟩),rfl,?_⟩;refine q _ _ (cm hn _) ?_;rw[ed,<-ps];exact dG hO hn dn'
 unfold qD at hs;split at hs
 ·rename_i h;cases hs;obtain⟨h64,σ',hσ,hsh,pw⟩:=h;obtain⟨b,σ1,rfl⟩:∃b σ1,σ'=b::σ1:=by
   cases σ' with
   |nil=>exact absurd rfl hσ
   |cons b σ1=>exact⟨b,σ1,rfl⟩
  have hsh':∀x∈ds,Sh (b::σ1) (eM x):=λx hx=>by
   obtain⟨k,rfl,hk⟩:=hsh x hx;exact hk
  have at':∀i (hi:i<ds.length),∃a o xs n,its[i]?=some (.ref a)/\s.heap.get? a=some o/\o.cls=.type "tuple"/\o.data=.seq xs n/\gL xs.toList (eM ds[i]):=λi hi=>by
   obtain⟨v,e1,dv⟩:=dn.get (i:=i) (d:=ds[i]) (by simp[hi]);obtain⟨w,e2,rw'⟩:=rv.get e1;obtain⟨k,ek,hk⟩:=hsh _ (O9 hi);rw[ek]at dv ⊢;obtain⟨a,ws,rfl,ha,dk⟩:=cV.mp dv;cases rw';obtain⟨it2,r2,⟨o,ho,hc,n,hd⟩,_⟩:=I.tuple (cw (aI H O) ha);exact⟨a,o,_,n,e2,ho,hc,hd,by simpa [eM]using kC (qN hk) dk r2⟩
  refine rS (κ:=tuples' true) (r:=rank (ds.map eM)) ‹0› hcol (λh2 h' tk kp Q' hQ=>?_) (λh2 h' tk kp i j C hi hj hC=>?_) (fin eM _ hsh' pw h64 rfl)
  ·obtain⟨fs,t1,t2,t3⟩:=og (h:=h') (PT:=λf=>typeOf f=pure (.type (if b then"int"else"str"))) (its:=its) λv hv=>by
    obtain⟨i,hi,rfl⟩:=Ox hv;obtain⟨a,o,xs,n,e1,ho,hc,hd,ff⟩:=at' i ‹0›;obtain⟨f,ef,tf⟩:=ff.first (hsh' _ (O9 _));refine⟨a,o,xs,n,f,?_,kp _ _ ho,hc,hd,by simpa using ef,tf⟩
    have:=Oq hi
    rw[e1]at this;exact(Option.some.inj this).symm
   refine kat_kind (T:=.type (if b then"int"else"str")) t1 ‹0› (λf hf=>Looks.of_pure (t3 f hf)) (by cases b<;>rfl) ?_
   have:(Value.type (if b then"int"else"str") !=Value.type "tuple")=true:=(by cases b<;>rfl);rw[this];exact hQ
  ·obtain⟨a,o,xs,n,e1,ho,hc,hd,ff⟩:=at' i ‹0›;obtain⟨a2,o2,xs2,n2,e2,ho2,hc2,hd2,ff2⟩:=at' j ‹0›;unfold Sx;have g1:its.getD i Value.none=.ref a:=(by simp[Pb,e1]);have g2:its.getD j Value.none=.ref a2:=(by simp[Pb,e2]);rw[g1,g2];have hi':i<ds.length:=(by omega);have hj':j<ds.length:=(by omega);have sh1:=hsh' _ (O9 hi');have sh2:=hsh' _ (O9 hj');have rl:=qZ (ks:=ds.map eM) (σ:=b::σ1) (λk hk=>by obtain⟨x,hx,rfl⟩:=List.mem_map.mp hk;exact hsh' x hx) (i:=i) (j:=j) (by rw[NW];exact hi') (by rw[NW];exact hj');have k1:(ds.map eM).getD i []=eM ds[i]:=(by simp[hi']);have k2:(ds.map eM).getD j []=eM ds[j]:=(by simp[hj']);rw[k1,k2]at rl;rw[rl]at hC;refine kat_lt (kp _ _ ho) hd (kp _ _ ho2) hd2 (jQ ?_ sh1 sh2 ff ff2 hC);have z1:xs.size=(eM ds[i]).length:=(by have:=ff.length;simpa using this);have z2:xs2.size=(eM ds[j]).length:=(by have:=ff2.length;simpa using this);have z3:(eM ds[i]).length=(eM ds[j]).length:=(by rw[Sh.length sh1,Sh.length sh2]);exact decide_eq_false ‹0›
 ·split at hs
  ·rename_i _ h;cases hs;obtain⟨h64,b,hsh,pw⟩:=h;have at':∀i (hi:i<ds.length),(∃(n:Int)(t:Tok),b=true/\its[i]?=some (.int n t)/\ds[i]=.int n)\/∃(x:Str)(t:Tok),b=false/\its[i]?=some (.str x t)/\ds[i]=.str x:=λi hi=>by
    obtain⟨v,e1,dv⟩:=dn.get (i:=i) (d:=ds[i]) (by simp[hi]);obtain⟨w,e2,rw'⟩:=rv.get e1;have hk:=hsh _ (O9 hi);generalize ds[i]=di at dv hk;cases hk with
    |int n _=>
     rw[fK]at dv;subst dv;obtain⟨t,rfl⟩:=rw';exact .inl ⟨n,t,rfl,e2,rfl⟩
    |str x _=>
     rw[fM]at dv;subst dv;obtain⟨t,rfl⟩:=rw';exact .inr ⟨x,t,rfl,e2,rfl⟩
   refine rS (κ:=oneType') (r:=rank (ds.map oneOf)) ‹0› hcol (λh2 h' tk kp Q' hQ=>?_) (λh2 h' tk kp i j C hi hj hC=>?_) (fin oneOf [b] hsh pw h64 rfl)
   ·refine kas_kind (T:=.type (if b then"int"else"str")) h2 (λv hv=>?_) (by cases b<;>rfl) (by cases b<;>rfl) hQ;obtain⟨i,hi,rfl⟩:=Ox hv;have hg:=Oq hi;rcases at' i ‹0›with⟨n,t,rfl,e,_⟩|⟨x,t,rfl,e,_⟩
    ·rw[hg]at e;rw[Option.some.inj e];exact Looks.of_pure rfl
    ·rw[hg]at e;rw[Option.some.inj e];exact Looks.of_pure rfl
   ·have hi':i<ds.length:=(by omega);have hj':j<ds.length:=(by omega);unfold Sx;have rl:=qZ (ks:=ds.map oneOf) (σ:=[b]) (λk hk=>by obtain⟨x,hx,rfl⟩:=List.mem_map.mp hk;exact hsh x hx) (i:=i) (j:=j) (by rw[NW];exact hi') (by rw[NW];exact hj');have k1:(ds.map oneOf).getD i []=[ds[i]]:=(by simp[hi',oneOf]);have k2:(ds.map oneOf).getD j []=[ds[j]]:=(by simp[hj',oneOf]);rw[k1,k2]at rl;rw[rl]at hC;rcases at' i hi' with⟨n,t,hb,e1,q1⟩|⟨x,t,hb,e1,q1⟩
    ·rcases at' j hj' with⟨n2,t2,hb2,e2,q2⟩|⟨x2,t2,hb2,e2,q2⟩
     ·have g1:its.getD i Value.none=.int n t:=(by simp[Pb,e1]);have g2:its.getD j Value.none=.int n2 t2:=(by simp[Pb,e2]);rw[g1,g2,keyLt'_oneType];refine oneLt_int ?_;rw[q1,q2]at hC;unfold kLt at hC;rw[sP]at hC;by_cases z:n=n2
      ·rw[if_pos z]at hC;rw[decide_eq_false ‹0›];exact hC
      ·rw[if_neg z]at hC;cases hd:decide (n<n2)<;>rw[hd]at hC<;>exact hC
     ·rw[hb]at hb2;cases hb2
    ·rcases at' j hj' with⟨n2,t2,hb2,e2,q2⟩|⟨x2,t2,hb2,e2,q2⟩
     ·rw[hb]at hb2;cases hb2
     ·have g1:its.getD i Value.none=.str x t:=(by simp[Pb,e1]);have g2:its.getD j Value.none=.str x2 t2:=(by simp[Pb,e2]);rw[g1,g2,keyLt'_oneType];refine oneLt_str ?_;rw[q1,q2]at hC;unfold kLt at hC;rw[rR]at hC;by_cases z:x=x2
      ·rw[if_pos z]at hC;rw[decide_eq_false (by rw[z];exact sf _)];exact hC
      ·rw[if_neg z]at hC;cases hd:decide (x.cps.toList<x2.cps.toList)<;>rw[hd]at hC<;>exact hC
  ·cases hs
theorem lx:dW X (.builtin "sorted") (wC X.K fI):=by
 intro pins s σ H xs us Q I r ⟨O,ds,d,hO,hd,hg,q⟩;unfold fI at hg;split at hg
 ·obtain⟨v,rfl,h1⟩:=hd.one;obtain⟨p,ws,rfl,g1,g2⟩:=cT.mp h1;obtain⟨u,rfl,ru⟩:=vals1 r;cases ru;obtain⟨its,rv,pl,hz⟩:=I.list ((aI H O).seq g1);have hlen:=rv.length;obtain⟨o,ho,hc,n,hd'⟩:=pl.isList;exact uF I hO g2 rv hg (λQ' hQ=>SE p (.inl rfl) ho hc hd' (λh' k=>by simpa using hQ h' s.toks k) (by simp only[NE]<;>omega)) q
 ·obtain⟨v,rfl,h1⟩:=hd.one;obtain⟨p,ws,rfl,g1,g2⟩:=cV.mp h1;obtain⟨u,rfl,ru⟩:=vals1 r;cases ru;obtain⟨its,rv,⟨o,ho,hc,n,hd'⟩,hz⟩:=I.tuple (cw (aI H O) g1);have hlen:=rv.length;exact uF I hO g2 rv hg (λQ' hQ=>SE p (.inr rfl) ho hc hd' (λh' k=>by simpa using hQ h' s.toks k) (by simp only[NE]<;>omega)) q
 ·cases hg
end
end TG
namespace TG
open PySem PySem.Spec L2
variable[aY]
section
variable{X:Cx}{tg:Ri}
end
end TG
namespace TG
open PySem PySem.Spec L2
variable[aY]
end TG
namespace TG
open PySem PySem.Spec L2
variable[aY]
end TG
namespace TG
open PySem PySem.Spec L2
variable[aY]
def keyOf:D->Option Key
 |.int i=>some (.inl i)
 |.str x=>some (.inr x)
 |_=>none
def keysOf:List D->Option (List Key)
 |[]=>some []
 |d::r=>(keyOf d).bind λk=>(keysOf r).map (k::·)
def jT:D->Option (List Key)
 |.tup ds=>keysOf ds
 |_=>none
theorem sy{d:D}{k:Key}(h:keyOf d=some k):d=bM k:=by
 cases d with
 |int i=>cases h;rfl
 |str x=>cases h;rfl
 |_=>cases h
theorem mN:∀{ds:List D}{ks:List Key},keysOf ds=some ks->ds=ks.map bM
 |[],_,h=>by cases h;rfl
 |d::r,ks,h=>by
  unfold keysOf at h;cases e1:keyOf d with
  |none=>rw[e1]at h;cases h
  |some k=>
   rw[e1]at h;cases e2:keysOf r with
   |none=>rw[e2]at h;cases h
   |some ks'=>rw[e2]at h;cases h;rw[sy e1,mN e2];rfl
theorem oE{d:D}{k:List Key}(h:jT d=some k):d=.tup (k.map bM):=by
 cases d with
 |tup ds=>rw[mN (show keysOf ds=some k from h)]
 |_=>cases h
theorem cJ:∀ks:List Key,keysOf (ks.map bM)=some ks
 |[]=>rfl
 |k::r=>by
  show(keyOf (bM k)).bind _=_;have e:keyOf (bM k)=some k:=by cases k<;>rfl
  rw[e];show(keysOf (r.map bM)).map (k::·)=_;rw[cJ r];rfl
theorem sK{K:P5}{H:Hp}{k:Key}{v:V}(h:cY K H (bM k) v):v=kV k:=by
 cases k with
 |inl i=>exact fK.mp h
 |inr x=>exact fM.mp h
theorem jc{K:P5}{H:Hp}:∀{ks:List Key}{vs:List V},bh K H (ks.map bM) vs->vs=ks.map kV
 |[],vs,h=>by rw[N2,df]at h;exact h
 |k::r,vs,h=>by
  rw[N3,bH]at h;obtain⟨v,r',e1,h1,h2⟩:=h;rw[e1,sK h1,jc h2];rfl
section
variable{P:Q3}{w:Q2}{H H':Hp}{h:Q6}{a:Q4}
theorem DR(x:cS P w H h a (.dK [])):cS P w H' h a (.dT []):=by
 obtain⟨z,hd,vs,rel,o,es,ep,h1,h2,h3,h4,h5,h6⟩:=x;have e:vs=[]:=by have:=rel.length;simpa using this.symm
 subst e;refine⟨NK _,hd,[],.nil,o,es,ep,h1,h2,h3,?_,by simp⟩
 have:=h5.length
 simpa using this
theorem xu(x:cS P w H h a (.dT [])):cS P w H' h a (.dK []):=by
 obtain⟨z,hd,xs,rel,o,es,ep,h1,h2,h3,h4,h5⟩:=x;have e:xs=[]:=by have:=rel.length;simpa using this.symm
 subst e;have e2:es=#[]:=by simpa using h4
 subst e2;exact⟨NK _,hd,[],.nil,o,#[],ep,h1,h2,h3,λe he=>by simp at he,.nil,by simp⟩
end
section
variable{X:Cx}{pins:List (Q4×Obj)}{σ:St}{H:Hp}{s:Rf}{a:Q4}
theorem Fb(I:Inv X pins σ H s)(h1:H a=some (.dK [])):Inv X pins σ (upd H a (.dT [])) s:=by
 have hx:=I.hok a _ h1;have hq:∃q,s.heap.get? a=some q:=by obtain⟨_,_,_,_,o,_,_,e,_⟩:=id hx;exact⟨o,e⟩
 exact rd (ob:=.dT []) (h':=s.heap) (t':=s.toks) I (by rw[h1];exact trivial) ⟨rfl,λ_ _=>rfl⟩ hq (DR hx)
theorem Ho(I:Inv X pins σ H s)(h1:H a=some (.dT [])):Inv X pins σ (upd H a (.dK [])) s:=by
 have hx:=I.hok a _ h1;have hq:∃q,s.heap.get? a=some q:=by obtain⟨_,_,_,_,o,_,_,e,_⟩:=id hx;exact⟨o,e⟩
 exact rd (ob:=.dK []) (h':=s.heap) (t':=s.toks) I (by rw[h1];exact trivial) ⟨rfl,λ_ _=>rfl⟩ hq (xu hx)
end
theorem xn{H:Hp}{a:Q4}{o1 o2:HO}(h:H a=some o1):upd (upd H a o2) a o1=H:=by
 funext b;by_cases e:b=a
 ·subst e;rw[aZ,h]
 ·rw[aR e,aR e]
def qi:List D->List D->Option (List (List Key×D))
 |[],[]=>some []
 |k::ks,d::ds=>(jT k).bind λk=>(qi ks ds).map ((k,d)::·)
 |_,_=>none
abbrev encK(al:List (List Key×D)):List D:=al.map λp=>.tup (p.1.map bM)
abbrev fh(al:List (List Key×D)):D:=.dct (encK al) (al.map (·.2))
theorem o5:∀{ks ds:List D}{al:List (List Key×D)},qi ks ds=some al->ks=encK al/\ds=al.map (·.2)
 |[],[],_,h=>by cases h;exact⟨rfl,rfl⟩
 |k::ks,d::ds,al,h=>by
  unfold qi at h;cases e1:jT k with
  |none=>rw[e1]at h;cases h
  |some k'=>
   rw[e1]at h;cases e2:qi ks ds with
   |none=>rw[e2]at h;cases h
   |some al'=>
    rw[e2]at h;cases h;obtain⟨h1,h2⟩:=o5 e2;rw[oE e1,h1,h2];exact⟨rfl,rfl⟩
 |[],_::_,_,h=>by cases h
 |_::_,[],_,h=>by cases h
theorem oY:∀al:List (List Key×D),qi (encK al) (al.map (·.2))=some al
 |[]=>rfl
 |p::r=>by
  show(jT (.tup (p.1.map bM))).bind _=_;have e:jT (.tup (p.1.map bM))=some p.1:=cJ p.1;rw[e];show(qi (encK r) (r.map (·.2))).map ((p.1,p.2)::·)=_;rw[oY r];rfl
theorem oB:∀{al:List (List Key×D)}{ks:List (List Key)},encK al=ks.map (λk=>.tup (k.map bM))->al.map (·.1)=ks
 |[],[],_=>rfl
 |p::r,k::ks,h=>by
  have h:D.tup (p.1.map bM)::encK r=D.tup (k.map bM)::ks.map (λk=>.tup (k.map bM)):=h;injection h with h1 h2;injection h1 with h1;have e:some p.1=some k:=by rw[<-cJ p.1,h1,cJ k]
  rw[N3,Option.some.inj e,oB h2]
 |[],_::_,h=>by cases h
 |_::_,[],h=>by cases h
theorem KP{K:P5}{H:Hp}{O:List Q4}{a:Q4}{al:List (List Key×D)}(h:eQ K H O a (fh al)):
  (∃kvs:List (List Key×V),H a=some (.dT kvs)/\kvs.map (·.1)=al.map (·.1)/\bh K (hid H O) (al.map (·.2)) (kvs.map (·.2)))\/(H a=some (.dK [])/\al=[]):=by
 obtain⟨o,vs,h1,h2,h3⟩:=h;rcases h3 with⟨kvs,e,e1,e2⟩|⟨kvs,e,e1,e2⟩
 ·subst e;cases kvs with
  |nil=>
   refine .inr ⟨h1,?_⟩
   simpa using e1
  |cons p r=>
   cases al with
   |nil=>cases e1
   |cons q r'=>
    have e1:D.tup (q.1.map bM)::encK r'=bM p.1::r.map (λp=>bM p.1):=e1;injection e1 with e1 _;rcases p with⟨k,v⟩
    cases k<;>cases e1
 ·subst e;refine .inl ⟨kvs,h1,?_,by rw[<-e2];exact h2⟩;exact(oB (ks:=kvs.map (·.1)) (by rw[Ph];exact e1)).symm
theorem ya{kvs:List (List Key×V)}{ks:List (List Key)}(e:kvs.map (·.1)=ks)(k:List Key):(lN kvs k).isSome=ks.any λq=>decide (q=k):=by
 subst e
 induction kvs with
 |nil=>rfl
 |cons p r ih=>
  rw[N3,N5,<-ih];by_cases e:p.1=k
  ·rw[mG e];simp[e]
  ·rw[lZ e];simp[e]
def nW(ks ds:List D)(k:D):Option D:=(qi ks ds).bind λal=>(jT k).bind λk=>some (.bl (al.any λp=>decide (p.1=k)))
def M9(i:Nat)(f:FX):FX:=λρ=>(f ρ).bind λk=>match ρ[i]? with
 |some (some (.own (.dct ks ds)))=>rO (nW ks ds k)
 |_=>un
theorem rF{ks ds:List D}{k d:D}(h:nW ks ds k=some d):∃al q,ks=encK al/\ds=al.map (·.2)/\k=.tup (q.map bM)/\d=.bl (al.any λp=>decide (p.1=q)):=by
 unfold nW at h;cases e1:qi ks ds with
 |none=>rw[e1]at h;cases h
 |some al=>
  rw[e1]at h;cases e2:jT k with
  |none=>rw[e2]at h;cases h
  |some q=>
   rw[e2]at h;cases h;obtain⟨h1,h2⟩:=o5 e1;exact⟨al,q,h1,h2,oE e2,rfl⟩
def iI(al:List (List Key×D))(k:List Key)(v:D):List (List Key×D):=if(al.any λp=>decide (p.1=k))=true then al.map (λp=>if p.1=k then(p.1,v)else p)else al++[(k,v)]
def uK(ks ds:List D)(k v:D):Option (List (List Key×D)):=(qi ks ds).bind λal=>(jT k).bind λk=>if small al.length then some (iI al k v)else none
def uS(i:Nat)(fk fv:FX):cG:=λk ρ=>match ρ[i]? with
 |some (some (.own (.dct ks ds)))=>tx ((fv ρ).bind λv=>(fk ρ).bind λq=>rO (uK ks ds q v)) k ρ λal=>k.nx (ρ.set i (some (.own (fh al))))
 |_=>un
theorem yS{ks ds:List D}{k v:D}{al':List (List Key×D)}(h:uK ks ds k v=some al'):∃al q,ks=encK al/\ds=al.map (·.2)/\k=.tup (q.map bM)/\small al.length=true/\al'=iI al q v:=by
 unfold uK at h;cases e1:qi ks ds with
 |none=>rw[e1]at h;cases h
 |some al=>
  rw[e1]at h;cases e2:jT k with
  |none=>rw[e2]at h;cases h
  |some q=>
   rw[e2]at h;obtain⟨h3,h4⟩:=cn (show(if small al.length then some (iI al q v)else none)=some al' from h);obtain⟨h1,h2⟩:=o5 e1;exact⟨al,q,h1,h2,oE e2,h3,h4.symm⟩
theorem xk{kvs:List (List Key×V)}{al:List (List Key×D)}(e:kvs.map (·.1)=al.map (·.1))(k:List Key)(w:V)(d:D):(putK kvs k w).map (·.1)=(iI al k d).map (·.1):=by
 have e2:(kvs.any λp=>decide (p.1=k))=(al.any λp=>decide (p.1=k)):=by
  have:=congrArg (λl=>l.any λq=>decide (q=k)) e
  simpa [OZ,Function.comp_def]using this
 unfold putK iI;rw[e2];split
 ·have e3:∀(l:List (List Key×V)),(l.map λkv=>if kv.1=k then(kv.1,w)else kv).map (·.1)=l.map (·.1):=λl=>by
   rw[Ph];refine Oz λp _=>?_;show(if p.1=k then(p.1,w)else p).1=p.1;split<;>rfl
  have e4:∀(l:List (List Key×D)),(l.map λkv=>if kv.1=k then(kv.1,d)else kv).map (·.1)=l.map (·.1):=λl=>by
   rw[Ph];refine Oz λp _=>?_;show(if p.1=k then(p.1,d)else p).1=p.1;split<;>rfl
  rw[e3,e4,e]
 ·rw[OA,OA,e];rfl
theorem wD{K:P5}{H:Hp}{k:List Key}{w:V}{d:D}(hw:cY K H d w):∀{kvs:List (List Key×V)}{al:List (List Key×D)},kvs.map (·.1)=al.map (·.1)->bh K H (al.map (·.2)) (kvs.map (·.2))->
  bh K H ((al.map λp=>if p.1=k then(p.1,d)else p).map (·.2)) ((kvs.map λp=>if p.1=k then(p.1,w)else p).map (·.2))
 |[],[],_,h=>h
 |p::r,q::r',e,h=>by
  rw[N3,N3]at e;injection e with e1 e2;rw[N3,N3,bH]at h;obtain⟨v,ws,h0,h1,h2⟩:=h;injection h0 with h0 h0';subst h0 h0';have ih:=wD (k:=k) hw e2 h2;rw[N3,N3,N3,N3,bH];refine⟨_,_,rfl,?_,ih⟩;rw[e1];split
  ·exact hw
  ·exact h1
 |[],_::_,e,_=>by cases e
 |_::_,[],e,_=>by cases e
theorem zA{K:P5}{H:Hp}{k:List Key}{w:V}{d:D}(hw:cY K H d w){kvs:List (List Key×V)}{al:List (List Key×D)}(e:kvs.map (·.1)=al.map (·.1))(h:bh K H (al.map (·.2)) (kvs.map (·.2))):
  bh K H ((iI al k d).map (·.2)) ((putK kvs k w).map (·.2)):=by
 have e2:(kvs.any λp=>decide (p.1=k))=(al.any λp=>decide (p.1=k)):=by
  have:=congrArg (λl=>l.any λq=>decide (q=k)) e
  simpa [OZ,Function.comp_def]using this
 unfold putK iI;rw[e2];split
 ·exact wD hw e h
 ·rw[OA,OA];exact h.append (bH.mpr ⟨w,[],rfl,hw,df.mpr rfl⟩)
theorem CZ{kvs:List (List Key×V)}{al:List (List Key×D)}(e:kvs.map (·.1)=al.map (·.1)):encK al=kvs.map λp=>D.tup (p.1.map bM):=by
 have:=congrArg (List.map λk:List Key=>D.tup (k.map bM)) e
 rw[Ph,Ph]at this;exact this.symm
theorem wL{H:Hp}{a:Q4}{o1 o2:HO}:upd (upd H a o1) a o2=upd H a o2:=by
 funext b;by_cases e:b=a
 ·subst e;rw[aZ,aZ]
 ·rw[aR e,aR e,aR e]
def GD(td ty tv:TE):TS:=λD σ H=>tv σ H λv H1=>td σ H1 λx H2=>ty σ H2 λy H3=>∃a k b kvs,x=.ref a/\y=.ref b/\H3 b=some (.tup (k.map kV))/\(H3 a=some (.dT kvs)\/(H3 a=some (.dK [])/\kvs=[]))/\kvs.length<Q7/\D.nx σ (upd H3 a (.dT (putK kvs k v)))
section
variable{X:Cx}{o idx value:Ri}{pos pos':Pos}{td ty tv:TE}
theorem Dq(hu:X.A.units+1<RH)(ho:PE X o td)(hi:PE X idx ty)(hv:PE X value tv)(hs:swapsWith value (some (.Subscript o idx pos')) pos.line X.env=pure false):PS X (.Assign [.Subscript o idx pos'] value pos) (GD td ty tv):=by
 intro pins s σ H D I h;refine wpAny_Assign_Subscript (fj (hv pins s σ H _ I h) λr s1 ⟨v,H1,I1,rv,q1⟩=>fj (ho pins s1 σ H1 _ I1 q1) λu s2 ⟨x,H2,I2,rx,q2⟩=>fj (hi pins s2 σ H2 _ I2 q2) λiv s3 ⟨y,H3,I3,ry,a,k,b,kvs,ex,ey,hb,ha,hl,q3⟩=>?_) hs;subst ex ey;obtain rfl:u=Value.ref a:=rx;rcases ha with ha|⟨ha,rfl⟩
 ·exact nh hu I3 (Gw.t ha hb hl) ry rv λs4 I4=>⟨σ,_,I4,q3⟩
 ·have ne:b≠a:=λz=>by rw[z,ha]at hb;cases hb
  refine nh hu (Fb I3 ha) (Gw.t aZ (by rw[aR ne];exact hb) hl) ry rv λs4 I4=>⟨σ,_,I4,?_⟩
  rw[wL];exact q3
end
theorem Ka{X:Cx}{i:Nat}{x:Str}{idx value:Ri}{fk fv:FX}{npos tpos pos:Pos}(hu:X.A.units+64<RH)(hx:PE X (.Name x npos) (xI i))(hi:FE X idx fk)(hv:FE X value fv)
  (hs:swapsWith value (some (.Subscript (.Name x npos) idx tpos)) pos.line X.env=pure false:=by rfl):
  FS X (.Assign [.Subscript (.Name x npos) idx tpos] value pos) (uS i fk fv):=λHb Ob pins s σ H E I ⟨O,ρ,k,rr,S,hF,hk⟩=>by
 unfold uS at hF;split at hF
 ·rename_i ks ds hxs;obtain⟨a,ha,haO,hat⟩:=S.env.own i _ hxs;have hP:=jj.on hF hk S (Q:=λal=>k.nx (ρ.set i (some (.own (fh al))))=rr) λp e=>e;refine Dq ‹0› hx hi hv hs pins s σ H E I ⟨O,ρ,S.env,(jj.bind hP).imp λy hP v H1 s1 d1=>?_⟩;have S1:=S.same s1;refine⟨.ref a,ha,O,ρ,S1.env,((jj.bind hP).mono s1).imp λj hP w H2 s2 d2=>?_⟩;have S2:=S1.same s2;obtain⟨al',hg,e⟩:=jj.rO hP;obtain⟨al,q,f1,f2,f3,f4,f5⟩:=yS hg;subst f1 f2 f3 f5;have s12:=s1.trans s2;obtain⟨b,ws,eb,g1,g2⟩:=cV.mp d2;rw[jc g2]at g1;have hat2:eQ X.K H2 O a (fh al):=hat.mono (let ⟨_,z⟩:=hat.some;qQ s12 z) (cI s12);have dv:cY X.K (hid H2 O) y v:=d1.mono (cI s2);have fin:∀kvs:List (List Key×V),kvs.map (·.1)=al.map (·.1)->bh X.K (hid H2 O) (al.map (·.2)) (kvs.map (·.2))->eQ X.K (upd H2 a (.dT (putK kvs q v))) O a (fh (iI al q y)):=λkvs k2 k3=>
   ⟨_,_,aZ,(zA dv k2 k3).mono (jR haO),.inr ⟨putK kvs q v,rfl,CZ (xk k2 q v y),rfl⟩⟩
  rcases KP hat2 with⟨kvs,k1,k2,k3⟩|⟨k1,rfl⟩
  ·have hl:kvs.length=al.length:=(by have:=congrArg List.length k2;simpa using this);exact⟨a,q,b,kvs,rfl,eb,(aI H2 O) _ _ g1,.inl k1,by rw[hl];exact OH (of_decide_eq_true f4) (by decide),hk.nx O _ σ _ (S2.setO hxs ha trivial (fin kvs k2 k3)) e⟩
  ·exact⟨a,q,b,[],rfl,eb,(aI H2 O) _ _ g1,.inr ⟨k1,rfl⟩,by decide,hk.nx O _ σ _ (S2.setO hxs ha trivial (fin [] rfl (df.mpr rfl))) e⟩
 ·exact absurd hF.symm hk.ne
end TG
namespace TG
open PySem PySem.Spec L2
variable[aY]
end TG
namespace TG
open PySem PySem.Spec PySem.W PySem.Calls PyProof.Rows Builtin Builtin.ObjectAttr Builtin.Getset_descriptor
variable[aY]
end TG
namespace TG
open PySem PySem.Spec L2
variable[aY]
open PyProof.Rows (AllBare OwnCls)
end TG
namespace TG
open PySem PySem.Spec L2
variable[aY]
end TG
namespace TG
open PySem PySem.Spec L2
variable[aY]
end TG
namespace TG
open PySem PySem.Spec L2
variable[aY]
end TG
namespace TG
open PySem PySem.Spec L2
def oK(P:Q4)(pos:Pos)(q:Str):(Q4->Prop)->Q6->Prop:=λS h=>h.get? P=some (Qr #[])\/∃c,S c/\h.get? P=some (Qr #[rawInt pos.line,rawInt pos.col,.ref c])/\h.CodeRec (.ref c) q
theorem oK.stay{P:Q4}{pos:Pos}{q:Str}{S1 S2:Q4->Prop}{h1 h2:Q6}(x:oK P pos q S1 h1)(s:∀b,S1 b->S2 b)(k:∀b o,(b=P\/S1 b)->h1.get? b=some o->h2.get? b=some o):oK P pos q S2 h2:=by
 rcases x with e|⟨c,hc,e,c',o,vs,t,ec,e1,r⟩
 ·exact .inl (k _ _ (.inl rfl) e)
 ·cases ec;exact .inr ⟨c,s c hc,k _ _ (.inl rfl) e,c,o,vs,t,rfl,k _ _ (.inr hc) e1,r⟩
theorem oK.ok{Pg:Q3}{w:Q2}{H:Hp}{h:Q6}{P:Q4}{pos:Pos}{q:Str}(x:oK P pos q (λb=>H b=some (.own P)) h):cS Pg w H h P (.ext (oK P pos q)):=
 ⟨x,by rcases x with e|⟨_,_,e,_⟩<;>exact⟨_,e⟩,λ_ _ _ _ x s k=>x.stay s k⟩
abbrev vA(P:Q4)(pos:Pos)(q:Str):aY:=⟨λH=>H P=some (.ext (oK P pos q)),λh e=>e _ _ h,λ{H p o o'} h hp m=>by
 rw[aR]
 ·exact h
 ·rintro rfl;rw[h]at hp;cases hp;exact m⟩
open PySem PySem.Spec PyProof.Rows PySem.W L2
variable[aY]
def tX(key:List D)(h:Q6)(k:Q1):Prop:=∃b o xs n,k=.ref b/\h.get? b=some o/\o.cls=.type "tuple"/\o.data=.seq xs n/\gL xs.toList key
theorem tX.keep{key:List D}{h h':Q6}{k:Q1}(x:tX key h k)(kp:∀b o,h.get? b=some o->h'.get? b=some o):tX key h' k:=by
 obtain⟨b,o,xs,n,e,ho,r⟩:=x;exact⟨b,o,xs,n,e,kp _ _ ho,r⟩
theorem tX.stay{key:List D}{h h':Q6}{k:Q1}{c:Q4}{xs:Array Q1}{n:Nat}(x:tX key h k)(hc:h.get? c=some (seqObj "list" xs n))(kp:∀b o,b≠c->h.get? b=some o->h'.get? b=some o):tX key h' k:=by
 obtain⟨b,o,ys,m,e,ho,hk,r⟩:=x;refine⟨b,o,ys,m,e,kp _ _ (λz=>?_) ho,hk,r⟩;subst z;rw[hc]at ho;cases ho;revert hk;show¬(Value.type "list"=Value.type "tuple");simp
section
variable{prog:Q3}{w:Q2}{A:Rc}{E:Q1->Rf->Prop}{s:Rf}
theorem Bm{ks:List Q1}{keys:List (List D)}{σ:List Bool}{b:Bool}{Q:Sw->Rf->Prop}(hl:ks.length=keys.length)(hsh:∀k∈keys,Sh (b::σ) k)(h1:1<=ks.length)
  (hk:∀i,i<ks.length->tX (keys.getD i []) s.heap (ks.getD i Value.none)) (h:Q (tuples' true) s):Rh (model prog w) A (keyKind' ks.toArray) Q E s:=by
 obtain⟨fs,t1,t2,t3⟩:=og (h:=s.heap) (PT:=λf=>typeOf f=pure (.type (if b then"int"else"str"))) (its:=ks) λv hv=>by
  obtain⟨i,hi,rfl⟩:=Ox hv;obtain⟨a,o,xs,n,e1,ho,hc,hd,ff⟩:=hk i hi;have hi':i<keys.length:=by omega
  have gk:keys.getD i []=keys[i]:=by simp[hi']
  rw[gk]at ff;obtain⟨f,ef,tf⟩:=ff.first (hsh _ (O9 hi'));have gv:ks.getD i Value.none=ks[i]:=by simp[hi]
  rw[gv]at e1;exact⟨a,o,xs,n,f,e1,ho,hc,hd,by simpa using ef,tf⟩
 refine kat_kind (T:=.type (if b then"int"else"str")) t1 ‹0› (λf hf=>Looks.of_pure (t3 f hf)) (by cases b<;>rfl) ?_
 have:(Value.type (if b then"int"else"str") !=Value.type "tuple")=true:=by cases b<;>rfl
 rw[this];exact h
theorem y8{ks:List Q1}{keys:List (List D)}{σ:List Bool}{b:Bool}(hl:ks.length=keys.length)(hsh:∀k∈keys,Sh (b::σ) k)
  (hk:∀i,i<ks.length->tX (keys.getD i []) s.heap (ks.getD i Value.none)):mK (Sx prog w A (tuples' true) ks) (rank keys) ks.length s:=by
 intro i j C hi hj hC;obtain⟨a,o,xs,n,e1,ho,hc,hd,ff⟩:=hk i hi;obtain⟨a2,o2,xs2,n2,e2,ho2,hc2,hd2,ff2⟩:=hk j hj;unfold Sx;rw[e1,e2];have hi':i<keys.length:=by omega
 have hj':j<keys.length:=by omega
 have gi:keys.getD i []=keys[i]:=by simp[hi']
 have gj:keys.getD j []=keys[j]:=by simp[hj']
 have sh1:=hsh _ (O9 hi');have sh2:=hsh _ (O9 hj');have rl:=qZ (ks:=keys) hsh hi' hj';rw[rl]at hC;rw[gi]at ff;rw[gj]at ff2;rw[gi,gj]at hC;refine kat_lt ho hd ho2 hd2 (jQ ?_ sh1 sh2 ff ff2 hC);have z1:xs.size=keys[i].length:=by have:=ff.length;simpa using this
 have z2:xs2.size=keys[j].length:=by have:=ff2.length;simpa using this
 have z3:keys[i].length=keys[j].length:=by rw[Sh.length sh1,Sh.length sh2]
 exact decide_eq_false ‹0›
theorem C7{f:Q1}{a:Q4}{vs:List Q1}{n:Nat}{keys:List (List D)}{σ:List Bool}{b:Bool}{P:PySem.Fin->Rf->Prop}
  (ho:s.heap.get? a=some (seqObj "list" vs.toArray n)) (h64:vs.length<64) (hl:keys.length=vs.length) (hsh:∀k∈keys,Sh (b::σ) k)
  (hc:∀ (i:Nat) (v:Q1) (h':Q6) (tk:Nat) (Q':Q1->Rf->Prop),vs[i]?=some v->(∀ c o,c≠a->s.heap.get? c=some o->h'.get? c=some o) ->
   (∀k h'' tk',(∀c o,h'.get? c=some o->h''.get? c=some o)->tX (keys.getD i []) h'' k->Q' k {s with heap:=h'',toks:=tk'})->Rh (model prog w) A (call f [v]) Q' (λ_ _=>False) {s with heap:=h',toks:=tk})
  (h:∀ (p:Array Nat) (h':Q6) (e tk:Nat),PM vs.length p->Up (rank keys) p vs.length->(∀ c o,c≠a->s.heap.get? c=some o->h'.get? c=some o)->h'.get? a=some (seqObj "list" (List.toArray (p.toList.map fun i=>vs.getD i Value.none)) e) ->
   P (.done (.ret .none)) {s with heap:=h',toks:=tk}):Rh (model prog w) A (ksk_tree a f false) P E s:=by
 have ha:a<s.heap.objs.size:=Qy ho;obtain⟨e1,ho1⟩:∃e1,(s.heap.update a (Obj.mapSeq λ_=>(#[]:Array Q1))).get? a=some (seqObj "list" #[] e1):=⟨_,Sz ho (λ_=>#[])⟩
 unfold ksk_tree;refine Rr (listItems_at ho rfl ?_);refine Rr (Sy ho rfl ?_ (by rw[NE,RB];omega) (NK _));refine Rr (SA ho1 rfl ?_);refine Rr (Ss ?_ (by show vs.length<=_;rw[RB];omega));refine Rr (SD ?_ (NK _));refine RW ?_;have hkS:((s.heap.update a (Obj.mapSeq λ_=>(#[]:Array Q1))).push (seqObj "tuple" vs.toArray 0)).objs.size=s.heap.objs.size+1:=by rw[size_push',QH]
 show Rh (model prog w) A (ksk_rest a f false vs.toArray e1 (.ref ((s.heap.update a (Obj.mapSeq λ_=>(#[]:Array Q1))).push (seqObj "tuple" vs.toArray 0)).objs.size)) P E {s with heap:=((s.heap.update a (Obj.mapSeq λ_=>(#[]:Array Q1))).push (seqObj "tuple" vs.toArray 0)).push (seqObj "list" #[] 0)};rw[hkS];have hS0:(((s.heap.update a (Obj.mapSeq λ_=>(#[]:Array Q1))).push (seqObj "tuple" vs.toArray 0)).push (seqObj "list" #[] 0)).get? (s.heap.objs.size+1)=some (seqObj "list" #[] 0):=by rw[<-hkS];exact QC _ rfl
 have hA0:(((s.heap.update a (Obj.mapSeq λ_=>(#[]:Array Q1))).push (seqObj "tuple" vs.toArray 0)).push (seqObj "list" #[] 0)).get? a=some (seqObj "list" #[] e1):=QB _ (QB _ ho1);have hK0:∀b o,b≠a->s.heap.get? b=some o->(((s.heap.update a (Obj.mapSeq λ_=>(#[]:Array Q1))).push (seqObj "tuple" vs.toArray 0)).push (seqObj "list" #[] 0)).get? b=some o:=λb o hb e=>
  QB _ (QB _ (by rw[QI _ _ _ _ hb];exact e))
 have hne:a≠s.heap.objs.size+1:=Np (Of ha);have hold:∀c o,s.heap.get? c=some o->c≠s.heap.objs.size+1:=λc o e=>Np (Of (Qy e));generalize (((s.heap.update a (Obj.mapSeq λ_=>(#[]:Array Q1))).push (seqObj "tuple" vs.toArray 0)).push (seqObj "list" #[] 0))=h0 at hS0 hA0 hK0;generalize s.heap.objs.size+1=kS at hS0 hne hold;unfold ksk_rest;refine Rr (Sb ?_)
 first
  |rw[List.forIn_toArray]
  |(rw[<-Array.forIn_toList];simp only[Pj])
  |rw[<-Array.forIn_toList]
 refine Rr (ksk_fold (λi s'=>∃(ks:List Q1)(e:Nat)(h':Q6)(tk:Nat),s'={s with heap:=h',toks:=tk}/\ks.length=i/\i<=vs.length/\h'.get? kS=some (seqObj "list" (List.toArray ks) e)/\h'.get? a=some (seqObj "list" #[] e1)/\
  (∀c o,c≠a->s.heap.get? c=some o->h'.get? c=some o)/\∀j,j<i->tX (keys.getD j []) h' (ks.getD j Value.none)) vs 0 _ ⟨[],0,h0,s.toks,rfl,rfl,NK _,hS0,hA0,hK0,λj hj=>absurd hj (Nat.not_lt_zero _)⟩ ?_ ?_)
 ·rintro j x s' hx ⟨ks,e,h',tk,rfl,hlen,hle,hS,hA,hK,hT⟩;rw[OW]at hlen hle hT;have hj:j<vs.length:=by
   rcases Pk j vs.length with z|z
   ·exact z
   ·rw[Pl z]at hx;cases hx
  refine Rr (Su (Rm (hc j x h' tk (λk s''=>∃h'' tk',s''={s with heap:=h'',toks:=tk'}/\(∀c o,h'.get? c=some o->h''.get? c=some o)/\tX (keys.getD j []) h'' k) hx hK λk h'' tk' kp tK=>⟨h'',tk',rfl,kp,tK⟩) (λk s'' hk=>?_) λ_ _ hF=>hF.elim));obtain⟨h'',tk',rfl,kp,tK⟩:=hk;have nk:=kp _ _ hS;have s1:∀c o,c≠kS->h''.get? c=some o->(h''.update kS (Obj.mapSeq (·.push k))).get? c=some o:=λc o hc' e=>by rw[QI _ _ _ _ hc'];exact e
  have ea:(List.toArray ks).push k=List.toArray (ks++[k]):=by simp
  obtain⟨c2,hc2⟩:∃c2,(h''.update kS (Obj.mapSeq (·.push k))).get? kS=some (seqObj "list" (List.toArray (ks++[k])) c2):=⟨_,by rw[<-ea];exact Sz nk (·.push k)⟩
  try dsimp only
  refine Rr (Sy nk rfl ?_ (by rw[NE,RB];omega) (Nq (NI (Array.size_push ..)) (by rw[NE,RB];omega)));refine Rq ⟨rfl,ks++[k],c2,_,tk',rfl,by rw[NV,N1];omega,by omega,hc2,s1 _ _ hne (kp _ _ hA),λc o h1 h2=>s1 _ _ (hold c o h2) (kp _ _ (hK c o h1 h2)),λi hi=>?_⟩;refine tX.stay (c:=kS) ?_ nk s1;by_cases z:i=j
  ·subst z
   have:(ks++[k]).getD i Value.none=k:=(by simp[Pb,<-hlen]);rw[this];exact tK
  ·have hi':i<ks.length:=by omega
   have:(ks++[k]).getD i Value.none=ks.getD i Value.none:=(by simp[Pb,NS hi']);rw[this];exact(hT i ‹0›).keep kp
 ·rintro s' ⟨ks,e,h',tk,rfl,hlen,hle,hS,hA,hK,hT⟩;rw[OW]at hlen hT
  try dsimp only
  refine Rr (listItems_at hS rfl ?_);have tail:∀(p:Array Nat)(st:SortSt),(arrOf st).map (·.2)=List.toArray (p.toList.map λi=>vs.getD i Value.none)->failedOf st=none->PM vs.length p->Up (rank keys) p vs.length->Rh (model prog w) A (ksk_tail a false e1 (.ref kS) st) P E {s with heap:=h',toks:=tk}:=by
   intro p st hout hf hp hu;obtain⟨ck,hck⟩:∃ck,(h'.update kS (Obj.mapSeq λ_=>(#[]:Array Q1))).get? kS=some (seqObj "list" #[] ck):=⟨_,Sz hS λ_=>#[]⟩
   have hA2:(h'.update kS (Obj.mapSeq λ_=>(#[]:Array Q1))).get? a=some (seqObj "list" #[] e1):=(by rw[QI _ _ _ _ hne];exact hA);obtain⟨c2,hc2⟩:∃c2,((h'.update kS (Obj.mapSeq λ_=>(#[]:Array Q1))).update a (Obj.mapSeq λ_=>List.toArray (p.toList.map λi=>vs.getD i Value.none))).get? a=some (seqObj "list" (List.toArray (p.toList.map λi=>vs.getD i Value.none)) c2):=⟨_,Sz hA2 λ_=>List.toArray (p.toList.map λi=>vs.getD i Value.none)⟩
   unfold ksk_tail
   try dsimp only
   rw[hout];refine Rr (Sy hS rfl ?_ (by rw[NE,RB];omega) (NK _));refine Rr (Sr ?_);refine Rr (SA hA2 rfl ?_);simp only[Oe,if_false];refine Rr (Sy hA2 rfl ?_ (NK _) (by rw[NE,NW,Array.length_toList,hp.size,RB];omega));rw[hf];simp only[bne_self_eq_false,Oe,if_false];exact Rq (h p _ c2 tk hp hu (λc o h1 h2=>by rw[QI _ _ _ _ h1,QI _ _ _ _ (hold c o h2)];exact hK c o h1 h2) hc2)
  unfold ksk_end
  try dsimp only
  simp only[Oe,if_false];have hl2:ks.length=vs.length:=hlen;by_cases h2:vs.toArray.size<2
  ·rw[if_pos h2,if_pos h2];refine Rr (Rq ?_);rw[StateT.run_pure];refine Rr (Rq ?_);dsimp only;refine tail (List.toArray (List.range vs.length)) _ ?_ rfl (Array.Perm.refl _) λi j hij hj=>?_
   ·refine kat_snds hl2 ?_;show(List.toArray ks).zip vs.toArray=_;have e:=kas_range ((List.toArray ks).zip vs.toArray);rw[show((List.toArray ks).zip vs.toArray).size=vs.length by simp[hl2]]at e;exact e.symm
   ·have:vs.length<2:=by simpa using h2
    have:i=j:=(by omega);subst this;exact NB _
  ·have h2':2<=vs.length:=by
    have:¬vs.length<2:=(by simpa using h2);omega
   rw[if_neg h2,if_neg h2];refine Rr (Bm (s:={s with heap:=h',toks:=tk}) ‹0› hsh ‹0› (λi hi=>hT i ‹0›) ?_);refine Rr (Rm (kat_run (Q:=λst' s'=>∃p:Array Nat,arrOf st'=p.map (kas_item ((List.toArray ks).zip vs.toArray))/\failedOf st'=none/\PM vs.length p/\Up (rank keys) p vs.length/\s'={s with heap:=h',toks:=tk})
    (G:=λp s'=>PM vs.length p/\Up (rank keys) p vs.length/\s'={s with heap:=h',toks:=tk})
    hl2 h2' h64 (λp' st' s' a1 a2 a3 a4=>⟨p',a2,a3,a4.1,a4.2.1,a4.2.2⟩) (by
     have:=y8 (prog:=prog) (w:=w) (A:=A) (s:={s with heap:=h',toks:=tk}) (ks:=ks) (keys:=keys) ‹0› hsh (λi hi=>hT i ‹0›)
     rw[hl2]at this;exact Aw this ‹0› λp hp hu=>⟨hp,hu,rfl⟩)) ?_ λ_ _ e=>e)
   rintro⟨⟨⟩,st'⟩ s' ⟨p,har,hf,hp,hu,rfl⟩;dsimp only;exact tail p st' (kat_snds hl2 har) hf hp hu
theorem yi{src:Q1}{f:Q4}{vs:List Q1}{keys:List (List D)}{σ:List Bool}{b:Bool}{Q:Q1->Rf->Prop}(h64:vs.length<64)(hl:keys.length=vs.length)(hsh:∀k∈keys,Sh (b::σ) k)
  (hcol:∀(Q':List Q1->Rf->Prop),(∀h' tk,(∀b o,s.heap.get? b=some o->h'.get? b=some o)->Q' vs {s with heap:=h',toks:=tk})->Rh (model prog w) A.in1 (collect src) Q' E s)
  (hc:∀ (i:Nat) (v:Q1) (h':Q6) (tk:Nat) (Q':Q1->Rf->Prop),vs[i]?=some v->(∀ c o,s.heap.get? c=some o->h'.get? c=some o) ->
   (∀k h'' tk',(∀c o,h'.get? c=some o->h''.get? c=some o)->tX (keys.getD i []) h'' k->Q' k {s with heap:=h'',toks:=tk'})->Rh (model prog w) A.in1.in1 (call (.ref f) [v]) Q' (λ_ _=>False) {s with heap:=h',toks:=tk})
  (h:∀(p:Array Nat)(h1 h':Q6)(l:Q4)(e tk:Nat),PM vs.length p->Up (rank keys) p vs.length->(∀b o,s.heap.get? b=some o->h1.get? b=some o)->(∀b o,h1.get? b=some o->h'.get? b=some o)->h1.objs.size<=l->h'.get? l=some (seqObj "list" (List.toArray (p.toList.map λi=>vs.getD i Value.none)) e)->Q (.ref l) {s with heap:=h',toks:=tk}):
  Rh (model prog w) A (call (.builtin "sorted") [src] [(Str.ofString "key",.ref f)]) Q E s:=by
 refine PyProof.Rows.call_function_entry_kw kind_sorted plain_sorted entry_sorted (ksk_s1 _ _) ?_;unfold Builtin.«sorted»;refine Rr (m:=checkCount "sorted" 1 1 _) (Rq ?_);refine Rr (hcol _ λh1 tk k1=>?_);refine Rr (SD ?_ (by rw[RB];omega));have hoL:(h1.push (seqObj "list" vs.toArray 0)).get? h1.objs.size=some (seqObj "list" vs.toArray 0):=QC _ rfl;have k2:∀b o,s.heap.get? b=some o->(h1.push (seqObj "list" vs.toArray 0)).get? b=some o:=λb o e=>QB _ (k1 b o e);have ne:∀b o,s.heap.get? b=some o->b≠h1.objs.size:=λb o e=>Np (Qy (k1 b o e));refine Rr (RW (wpAny_call_entry_kw slot_list_sort ⟨_,hoL,rfl⟩ entry_list_sort ?body (ksk_l1 _ _)))
 case body=>
  show Rh (model prog w) A.in1.in1 (Builtin.«list.sort» ⟨[.ref h1.objs.size],[(Str.ofString "key",.ref f)]⟩) _ _ _;rw[ksk_t1];refine C7 (s:={s with heap:=h1.push (seqObj "list" vs.toArray 0),toks:=tk}) hoL h64 hl hsh (λi v h' tk' Q' hv hk hq=>hc i v h' tk' Q' hv (λc o e=>hk c o (ne c o e) (k2 c o e)) hq) λp h' e tk' hp hu hk he=>⟨_,rfl,?_⟩
  refine Rq ⟨_,rfl,?_⟩;exact h p h1 h' h1.objs.size e tk' hp hu k1 (λb o q=>hk b o (Np (Qy q)) (QB _ q)) (NB _) he
end
end TG
namespace TG
open PySem PySem.Spec PyProof.Rows PySem.W L2
variable[aY]
abbrev cutE(row many:Str)(np mp p2 pos:Pos):Ri:=.Subscript (.Name row np) (.Slice none (some (.Name many mp)) none p2) pos
section
variable{prog:Q3}{w:Q2}{A:Rc}{E:Q1->Rf->Prop}{s:Rf}
theorem Cj{env:Env}{row many:Str}{np mp p2 pos:Pos}{r c:Q4}{items:Array Q1}{i:Int}{t:Tok}{m:Str->Option Q1}{Q:Q1->Rf->Prop}
  (hk:env.scope.kind=.function) (hr:env.kindOf row=some .local) (hm:env.kindOf many=some .free) (hn:s.heap.Ns env.locals m) (hrow:m row=some (.ref r)) (hc:env.cells.lookup many=some c) (hcell:s.heap.IsCell c (some (.int i t)))
  (ht:Q8 s.heap r items) (hz:items.size<=Q7) (d1:(row==("__debug__":Str))=false) (d2:(many==("__debug__":Str))=false) (d3:(many==("__classdict__":Str))=false)
  (h:∀b h',(∀c o,s.heap.get? c=some o->h'.get? c=some o)->Q8 h' b (List.toArray (items.toList.take (HT.sIx items.size items.size (some i))))->Q (.ref b) {s with heap:=h'}):
  Rh (model prog w) A (eval (cutE row many np mp p2 pos) env) Q E s:=by
 refine R5 (Rn (wpAny_loadName_local hk hr hn hrow ?_) d1);refine wpAny_Slice ?_;rw[R4,evalPart_some];refine Rq (Rn (wpAny_loadName_free hk hm hc hcell ?_ d3) d2);refine Rq ?_;have kp:∀c o,s.heap.get? c=some o->(s.heap.push {cls:=.type "slice",data:=.fields #[.none,.int i t,.none]}).get? c=some o:=λc o q=>QB _ q;have ht':Q8 (s.heap.push {cls:=.type "slice",data:=.fields #[.none,.int i t,.none]}) r items:=by
  obtain⟨o,e,q⟩:=ht;exact⟨o,kp _ _ e,q⟩
 have hs:(s.heap.push {cls:=.type "slice",data:=.fields #[.none,.int i t,.none]}).IsSliceOf s.heap.objs.size .none (.int i t) .none:=Heap.IsSliceOf.new ..
 show Rh (model prog w) A (subscriptTail (.Name row np) (.Slice none (some (.Name many mp)) none p2) (.ref r) (.ref s.heap.objs.size)) Q E {s with heap:=s.heap.push {cls:=.type "slice",data:=.fields #[.none,.int i t,.none]}};refine tail_any (ops:=[.ref s.heap.objs.size,.ref r]) ht'.typeIs slot_tuple_getitem.lookup ?_ (by with_unfolding_all rfl);by_cases hw:HT.sIx items.size 0 none=0/\HT.sIx items.size items.size (some i)=items.size
 ·refine iP (s:={s with heap:=s.heap.push {cls:=.type "slice",data:=.fields #[.none,.int i t,.none]}}) ht' hs .none (.int i t) hw ?_;refine h r _ kp ?_;rw[hw.2]
  have:items.toList.take items.size=items.toList:=Pm (by simp)
  rw[this]
  simpa using ht'
 ·refine HT.zx (s:={s with heap:=s.heap.push {cls:=.type "slice",data:=.fields #[.none,.int i t,.none]}}) ht' hs .none (.int i t) hw ?_ hz;refine h _ _ (λc o q=>QB _ (kp c o q)) ?_;have e0:HT.sIx items.size 0 none=0:=rfl;rw[e0,Oj,OC];exact⟨_,QC _ rfl,rfl,_,rfl⟩
theorem Dj{f c' cc r:Q4}{row many qual:Str}{params:RM}{scope:Rg}{np mp p2 pos:Pos}{pm ctv:Q1}{items:Array Q1}{i:Int}{t:Tok}{Q:Q1->Rf->Prop}
  (hf:s.heap.get? f=some (SF "<lambda>" qual params (cutE row many np mp p2 pos) scope [(many,cc)] pm c' ctv)) (hcd:s.heap.CodeRec (.ref c') qual) (hroom:A.depth<RG) (hlim:s.heap.NoLimit)
  (hbind:∀v,bindArgs (kla_fn "<lambda>" qual params (cutE row many np mp p2 pos) scope [(many,cc)] pm (.ref c') ctv) ⟨[v],[]⟩=pure [(row,v)])
  (hco:scope.isCoroutine=false) (hgen:scope.isGenerator=false) (hk:scope.kind=.function) (hno:∀x∈scope.names,x.2≠.cell) (hr:scope.names.lookup row=some .local) (hm:scope.names.lookup many=some .free)
  (hcell:s.heap.IsCell cc (some (.int i t))) (ht:Q8 s.heap r items) (hz:items.size<=Q7) (d1:(row==("__debug__":Str))=false) (d2:(many==("__debug__":Str))=false) (d3:(many==("__classdict__":Str))=false)
  (h:∀b h' tk,(∀c o,s.heap.get? c=some o->h'.get? c=some o)->Q8 h' b (List.toArray (items.toList.take (HT.sIx items.size items.size (some i))))->Q (.ref b) {s with heap:=h',toks:=tk}):
  Rh (model prog w) A (call (.ref f) [.ref r]) Q E s:=by
 refine wpAny_call (kla_callFunE hroom hf rfl hco hgen rfl hcd ?_);rw[hbind];refine Rq (wpAny_newFunctionEnv hno (λx hx=>?_) (λh₁ hns hsb=>⟨hlim.fresh _ hsb,?_⟩) hk)
 ·rw[Pn]at hx;subst hx;exact hr
 ·show RC _ _ (.expr (cutE row many np mp p2 pos) (envX qual scope s.heap.objs.size f (.ref c') [(many,cc)])) _ _;have hk₁:∀b o,s.heap.get? b=some o->h₁.get? b=some o:=λb o e=>hsb.extBut b o (Np (Qy e)) (QB _ e);refine kla_codeExpr (Cj (m:=λx=>[(row,Value.ref r)].reverse.lookup x) (r:=r) (c:=cc) (t:=t) hk hr hm hns ?_ ?_ ?_ ?_ hz d1 d2 d3 λb h' kp tb=>h b h' _ (λc o e=>kp c o (hk₁ c o e)) tb)
  ·simp
  ·simp
  ·obtain⟨o,e,q⟩:=hcell;exact⟨o,hk₁ _ _ e,q⟩
  ·obtain⟨o,e,q⟩:=ht;exact⟨o,hk₁ _ _ e,q⟩
end
end TG
namespace TG
open PySem PySem.Spec PyProof.Rows PySem.W L2
variable[aY]
def BP(mg:Str->Option Q1)(base:Q6)(c P:Q4):Prop:=CodeHd base c P/\∃bm ob,mg "__builtins__"=some (.ref bm)/\bm≠Ra/\base.get? bm=some ob/\ob.cls=.type "module"/\ob.dict=some Ra/\ob.data=.plain
section
variable{fs ex:List Q4}{Pg:Q3}{w:Q2}{H:Hp}{h h':Q6}{P c':Q4}{φ:(Q4->Prop)->Q6->Prop}
theorem Hf(hP:H P=some (.ext φ))(k:∀b o,b≠P->h.get? b=some o->h'.get? b=some o)(hp:∃o,h'.get? P=some o)(hc:h.objs.size<=c')(hn:H c'=none):Un fs ex H (upd H c' (.own P)) h h' where
 keep:=λb u q n _ _=>k b u (λz=>by rw[z,hP]at n;cases n) q
 slot:=λb u q n _ _=>⟨u.slots,k b u (λz=>by rw[z,hP]at n;cases n) q⟩
 free:=λb u q n _=>by rw[aR (Np (Nm (Qy q) hc))];exact n
 there:=λb u q _=>by
  by_cases z:b=P
  ·rw[z];exact hp
  ·exact⟨u,k b u z q⟩
 tups:=λb xs q=>by rw[aR (bd q hn)];exact q
 frzs:=λb u xs q=>by rw[aR (bd q hn)];exact q
 tbls:=λb ps q=>⟨#[],by rw[aR (bd q hn),q];simp⟩
theorem EE(x:o0 Pg w H h)(hP:H P=some (.ext φ))(k:∀b o,b≠P->h.get? b=some o->h'.get? b=some o)(hc:h.objs.size<=c')(ho:∃o,h'.get? c'=some o)(new:cS Pg w (upd H c' (.own P)) h' P (.ext φ)):o0 Pg w (upd H c' (.own P)) h':=λb u e=>by
 have hn:=x.fresh hc;by_cases hb:b=c'
 ·subst hb;rw[aZ]at e;cases e;exact ho
 ·rw[aR hb]at e;by_cases hb2:b=P
  ·subst hb2;rw[hP]at e;cases e;exact new
  ·refine(x b u e).stay (λc v hc' q=>k c v ?_ q) (λc q=>by rw[aR (bd q hn)];exact q) λc xs q=>by rw[aR (bd q hn)];exact q
   rcases hc' with rfl|hc'
   ·exact hb2
   ·rintro rfl;rw[hP]at hc';cases hc'
end
theorem BP.blt{mg:Str->Option Q1}{base h:Q6}{c P:Q4}{m:Str->Option Q1}(B:BP mg base c P)(kp:∀b o,base.get? b=some o->h.get? b=some o)(hP:base.get? P=none)(hg:base.Ns Q9 m):h.BuiltinsAt mg P:=by
 obtain⟨_,bm,ob,b1,b2,b3,b4,b5,b6⟩:=B;refine⟨bm,ob,b1,b2,λz=>?_,λz=>?_,kp _ _ b3,b4,b5,b6⟩
 ·subst z;obtain⟨o,es,ep,e,hd,_⟩:=hg;rw[e]at b3;cases b3;rw[hd]at b6;cases b6
 ·subst z;rw[hP]at b3;cases b3
section
variable{X:Cx}{pins:List (Q4×Obj)}{s:Rf}{σ:L2.St}{H:Hp}{E:Q1->Rf->Prop}
theorem Dx{c P:Q4}{lpos:Pos}{params:RM}{body:Ri}{scope:Rg}{clos:List (Str×Q4)}{Q:Q1->Rf->Prop}(I:Inv X pins σ H s)(B:BP X.mg X.base c P)(hcode:X.env.code=.ref c)(hP:H P=some (.ext (oK P lpos (X.env.qual++"<lambda>"))))
  (hdef:defaultsOf params X.env=([],[])) (hcl:closureFor scope X.env=pure clos)
  (h:∀f c' ctv s' H',Inv X pins σ H' s'->bE H H'->s'.heap.get? f=some (SF "<lambda>" (X.env.qual++"<lambda>") params body scope clos ((X.mg "__name__").getD .none) c' ctv)->s'.heap.CodeRec (.ref c') (X.env.qual++"<lambda>")->Q (.ref f) s'):
  Rh (model X.prog X.w) X.A (eval (.Lambda params body scope lpos) X.env) Q E s:=by
 have hg:s.heap.Ns Q9 X.mg:=I.mod.glob.keeps I.bk;have hPn:X.base.get? P=none:=by
  cases q:X.base.get? P with
  |none=>rfl
  |some o=>have:=(I.bs P o q).2;rw[hP]at this;cases this
 have hgP:Q9≠P:=λz=>by
  obtain⟨o,es,ep,e,_⟩:=I.mod.glob;rw[z,hPn]at e;cases e
 have hb:=B.blt I.bk hPn I.mod.glob;have C:=B.1.keeps I.bk;obtain⟨tb,_,_⟩:=I.hok P _ hP;refine kla_eval hdef ?_;rcases tb with e|⟨c',hc',e,hrec⟩
 ·refine kla_makeFunction hcl I.ok.glob hg hcode C e trivial rfl hgP hb λc' ctv h' tk hx hge hlt hrec htb=>?_;have hn:=I.hok.fresh hge;have htb':h'.get? P=some (tabObj #[rawInt lpos.line,rawInt lpos.col,.ref c']):=by simpa using htb
  have kp:∀b o,b≠P->s.heap.get? b=some o->(h'.push (SF "<lambda>" (X.env.qual++"<lambda>") params body scope clos ((X.mg "__name__").getD .none) c' ctv)).get? b=some o:=λb o hb' q=>QB _ (hx b o hb' q);have hrec':(h'.push (SF "<lambda>" (X.env.qual++"<lambda>") params body scope clos ((X.mg "__name__").getD .none) c' ctv)).CodeRec (.ref c') (X.env.qual++"<lambda>"):=by
   obtain⟨c2,oc,vs,t,ec,eo,r⟩:=hrec;exact⟨c2,oc,vs,t,ec,QB _ eo,r⟩
  have hco:∃o,(h'.push (SF "<lambda>" (X.env.qual++"<lambda>") params body scope clos ((X.mg "__name__").getD .none) c' ctv)).get? c'=some o:=by
   obtain⟨c2,oc,vs,t,ec,eo,r⟩:=hrec;cases ec;exact⟨oc,QB _ eo⟩
  refine h _ c' ctv _ (upd H c' (.own P)) (I.un (Hf hP kp ⟨_,QB _ htb'⟩ hge hn) (EE I.hok hP kp hge hco (oK.ok (.inr ⟨c',aZ,QB _ htb',hrec'⟩)))) (cm hn _) (QC _ rfl) hrec'
 ·refine kla_makeFunctionHit (cv:=.ref c') hcl I.ok.glob hg hcode C e trivial ?_ hb λctv h' tk hk hsz=>?_
  ·show(if((lpos.line:Int)==(lpos.line:Int)&&(lpos.col:Int)==(lpos.col:Int))=true then some (Value.ref c')else _)=_;simp
  ·have kp:∀b o,s.heap.get? b=some o->(h'.push (SF "<lambda>" (X.env.qual++"<lambda>") params body scope clos ((X.mg "__name__").getD .none) c' ctv)).get? b=some o:=λb o q=>QB _ (hk b o q);refine h _ c' ctv _ H (I.kept kp) (bE.refl H) (QC _ rfl) ?_;obtain⟨c2,oc,vs,t,ec,eo,r⟩:=hrec;exact⟨c2,oc,vs,t,ec,kp _ _ eo,r⟩
end
def tN(m:Nat):D->List D
 |.tup ks=>ks.take m
 |_=>[]
def Jg(m:Nat)(xs:List D):Prop:=xs.length<64/\∃σ:List Bool,σ≠[]/\(∀x∈xs,∃k,x=.tup k/\Sh σ (k.take m))/\xs.Pairwise λx y=>tN m x≠tN m y
open Classical in
noncomputable def rk(m:Nat)(xs:List D):Option D:=if Jg m xs then some (.lst (jG (tN m) xs))else none
noncomputable def qj:D->D->Option D
 |.lst xs,.int i=>if 0<=i then rk i.toNat xs else none
 |.tup xs,.int i=>if 0<=i then rk i.toNat xs else none
 |_,_=>none
theorem vj:∀{vs:List V}{us:List Q1}(n:Nat),Vals vs us->Vals (vs.take n) (us.take n)
 |_,_,0,_=>by rw[Oh,Oh];exact .nil
 |_,_,_+1,.nil=>.nil
 |_,_,n+1,.cons r t=>by rw[Oi,Oi];exact .cons r (vj n t)
theorem Ep{i:Int}(h:0<=i)(n:Nat):HT.sIx n n (some i)=min i.toNat n:=by
 show(if i<0 then _ else _)=_;rw[if_neg ‹0›]
theorem i6:Rb "sorted"=some (.builtin "sorted"):=by first|rfl|decide +kernel
section
variable{X:Cx}{pins:List (Q4×Obj)}{s:Rf}{σ:L2.St}{H:Hp}{O:List Q4}
theorem zb{u:Q1}{ds:List D}{vs:List V}{its:List Q1}{d:D}{i:Int}{t:Tok}{c' cc f:Q4}{row many qual:Str}{params:RM}{scope:Rg}{np mp p2 pos:Pos}{pm ctv:Q1}{Q:VK}
  (I:Inv X pins σ H s) (hO:eA H O) (dn:bh X.K (hid H O) ds vs) (rv:Vals vs its) (h0:0<=i) (hs:rk i.toNat ds=some d)
  (hf:s.heap.get? f=some (SF "<lambda>" qual params (cutE row many np mp p2 pos) scope [(many,cc)] pm c' ctv)) (hcd:s.heap.CodeRec (.ref c') qual) (hroom:X.A.depth<RG)
  (hbind:∀v,bindArgs (kla_fn "<lambda>" qual params (cutE row many np mp p2 pos) scope [(many,cc)] pm (.ref c') ctv) ⟨[v],[]⟩=pure [(row,v)])
  (hco:scope.isCoroutine=false) (hgen:scope.isGenerator=false) (hk:scope.kind=.function) (hno:∀x∈scope.names,x.2≠.cell) (hr:scope.names.lookup row=some .local) (hm:scope.names.lookup many=some .free)
  (hcell:s.heap.IsCell cc (some (.int i t))) (d1:(row==("__debug__":Str))=false) (d2:(many==("__debug__":Str))=false) (d3:(many==("__classdict__":Str))=false)
  (hcol:∀(Q':List Q1->Rf->Prop),(∀h' tk,(∀b o,s.heap.get? b=some o->h'.get? b=some o)->Q' its {s with heap:=h',toks:=tk})->Rh (model X.prog X.w) X.A.in1 (collect u) Q' X.xe s)
  (q:∀v H',bE H H'->cY X.K (hid H' O) d v->Q v H'):Rh (model X.prog X.w) X.A (call (.builtin "sorted") [u] [(Str.ofString "key",.ref f)]) (EP X pins σ Q) X.xe s:=by
 have l1:=dn.length;have l2:=rv.length;unfold rk at hs;split at hs
 ·rename_i hS;cases hs;obtain⟨h64,σ',hσ,hsh,pw⟩:=hS;obtain⟨b,σ1,rfl⟩:∃b σ1,σ'=b::σ1:=by
   cases σ' with
   |nil=>exact absurd rfl hσ
   |cons b σ1=>exact⟨b,σ1,rfl⟩
  have hsh':∀x∈ds,Sh (b::σ1) (tN i.toNat x):=λx hx=>by
   obtain⟨k,rfl,hk⟩:=hsh x hx;exact hk
  refine yi (keys:=ds.map (tN i.toNat)) (σ:=σ1) (b:=b) ‹0› (by rw[NW];omega) (λk hk=>by obtain⟨x,hx,rfl⟩:=List.mem_map.mp hk;exact hsh' x hx) hcol (λj v h' tk Q' hv kp hq=>?_) λp h1 h' l e tk hp hu k1 k2 hl he=>?_
  ·have hj:j<its.length:=by
    rcases Pk j its.length with z|z
    ·exact z
    ·rw[Pl z]at hv;cases hv
   have hj':j<ds.length:=(by omega);obtain⟨v0,e1,dv⟩:=dn.get (i:=j) (d:=ds[j]) (by simp[hj']);obtain⟨w,e2,rw'⟩:=rv.get e1;rw[hv]at e2;cases e2;obtain⟨k,ek,hk'⟩:=hsh _ (O9 hj');have ekey:(ds.map (tN i.toNat)).getD j []=k.take i.toNat:=by
    have:(ds.map (tN i.toNat)).getD j []=tN i.toNat ds[j]:=(by simp[hj']);rw[this,ek];rfl
   rw[ekey]at hq;rw[ek]at dv;obtain⟨a,ws,rfl,ha,dk⟩:=cV.mp dv;cases rw';obtain⟨it2,r2,ht,hz⟩:=I.tuple (cw (aI H O) ha);have hz':it2.toArray.size<=Q7:=(by rw[NE,<-r2.length];exact hz);refine Dj (s:={s with heap:=h',toks:=tk}) (i:=i) (t:=t) (kp _ _ hf) ?_ hroom (I.nolimit.keeps kp) hbind hco hgen hk hno hr hm ?_ (items:=it2.toArray) ?_ hz' d1 d2 d3 λb2 h'' tk' kp2 tb=>?_
   ·obtain⟨c2,oc,vs',t',ec,eo,r⟩:=hcd;exact⟨c2,oc,vs',t',ec,kp _ _ eo,r⟩
   ·obtain⟨o,e,q⟩:=hcell;exact⟨o,kp _ _ e,q⟩
   ·obtain⟨o,e,q⟩:=ht;exact⟨o,kp _ _ e,q⟩
   ·refine hq _ h'' tk' kp2 ?_;obtain⟨o,eo,hc,n,hd⟩:=tb;refine⟨b2,o,_,n,rfl,eo,hc,hd,?_⟩;have e3:(List.toArray (it2.toArray.toList.take (HT.sIx it2.toArray.size it2.toArray.size (some i)))).toList=it2.take i.toNat:=by
     rw[Ep h0];simp only[NE,Pj];rcases Pp i.toNat it2.length with z|z
     ·rw[Pq z]
     ·rw[Pr z,Pm (NB _),Pm z]
    rw[e3];exact kC (qN hk') (dk.take i.toNat) (vj i.toNat r2)
  ·have el:its.length=ds.length:=(by omega);rw[el]at hp hu;have ps:=qy (key:=tN i.toNat) hsh' pw hp hu;have hr:p.toList.Perm (List.range ds.length):=by
    have:=Array.perm_iff_toList_perm.mp hp
    simpa using this
   have hlt:∀i∈p.toList,i<ds.length:=λi hi=>by simpa using hr.mem_iff.mp hi
   have I1:Inv X pins σ H {s with heap:=h1,toks:=tk}:=I.kept k1;have hn:H l=none:=I1.hok.fresh hl;have rv':=p9 rv p.toList λi hi=>by have:=hlt i hi;omega
   have dn':=pp dn p.toList hlt;have hlen:p.toList.length=ds.length:=(by rw[hr.length_eq,OB]);refine⟨.ref l,_,Inv.laid (s:={s with heap:=h1,toks:=tk}) (t':=tk) I1 k2 hl (show cS X.prog X.w _ h' _ (.lst (p.toList.map λi=>vs.getD i .non))from⟨by rw[NW,hlen,RB];omega,_,e,rv',he⟩),rfl,?_⟩;refine q _ _ (cm hn _) ?_;rw[<-ps];exact dG hO hn dn'
 ·cases hs
theorem JL{f:FX}{j:Nat}{k:Nat}{c P cc:Q4}{e:Ri}{p lpos kp pos np mp p2 spos:Pos}{row many:Str}{params:RM}{scope:Rg}
  (hr:iz k X.A) (hg:Gl X "sorted") (hm:X.mg "sorted"=none) (B:BP X.mg X.base c P) (hcode:X.env.code=.ref c) (hT:∀H,aY.tab H->H P=some (.ext (oK P lpos (X.env.qual++"<lambda>"))))
  (he:FE X e f) (hN:X.N[j]?=some many) (hkm:X.env.kindOf many=some .cell) (hv:HM X.env.scope many) (hcc:X.env.cells.lookup many=some cc) (hcl:closureFor scope X.env=pure [(many,cc)]) (hdef:defaultsOf params X.env=([],[]))
  (hbind:∀cdv ctv v,bindArgs (Qs "<lambda>" (X.env.qual++"<lambda>") params (cutE row many np mp p2 spos) scope [(many,cc)] ((X.mg "__name__").getD .none) cdv ctv) ⟨[v],[]⟩=pure [(row,v)])
  (hco:scope.isCoroutine=false) (hgen:scope.isGenerator=false) (hk:scope.kind=.function) (hno:∀x∈scope.names,x.2≠.cell) (hlr:scope.names.lookup row=some .local) (hlm:scope.names.lookup many=some .free)
  (d1:(row==("__debug__":Str))=false) (d2:(many==("__debug__":Str))=false) (d3:(many==("__classdict__":Str))=false) (hns:noStar e=true:=by rfl):
  FE X (.Call (.Name "sorted" p) [e] [⟨some "key",.Lambda params (cutE row many np mp p2 spos) scope lpos,kp⟩] pos) (f2 qj f (ai j)):=by
 intro pins s σ H Q I ⟨O,ρ,E,hF⟩;refine RN (my I hg hm i6 ?_);have st:backTo pos (Rj [e] X.env)=(false,eval e X.env)::backTo pos (Rj [] X.env):=by rw[fH hns];rfl
 refine PyProof.Rows.callWith_kw ?_ ?_ (jv (by rw[Om,hns];rfl))
 ·refine fj (nc he qd (fH hns) pos pins s σ H (λvs H1=>∃v d a m,vs=[v]/\bE H H1/\ρ[j]?=some (some (.val m))/\qj a m=some d/\cY X.K (hid H1 O) a v/\∀v H',bE H H'->cY X.K (hid H' O) d v->Q v H') I ⟨O,ρ,E,(jj.bind hF).imp λa hF v H1 s1 d1=>?_⟩) λus s1 ⟨vs,H1,I1,rv,v,d,a,m,ev,s1',em,hd,dn,q⟩=>?_
  ·obtain⟨m,em,hF⟩:=uD (jj.bind hF);obtain⟨d,e,q⟩:=jj.rO hF;exact⟨v,d,a,m,rfl,s1,em,e,d1,q⟩
  ·subst ev;obtain⟨u,eu,ru⟩:=vals1 rv;subst eu;have E1:=E.same s1';show Rh _ _ (evalAll ((do let v<-eval (.Lambda params (cutE row many np mp p2 spos) scope lpos) X.env;standAt pos;pure v)::[])) _ _ s1;refine wpAny_evalAll_cons (Rr (Dx I1 B hcode (hT _ E1.all.1) hdef hcl λfa c' ctv s2 H2 I2 s2' hfa hcr=>Rr (R9 (Rq (wpAny_evalAll_nil ?_)))));show Rh (model X.prog X.w) X.A (call (.builtin "sorted") [u] [(Str.ofString "key",.ref fa)]) (EP X pins σ Q) X.xe s2;have E2:=E1.same s2';obtain⟨vm,e3,dm⟩:=E2.val j m em;have core:∀(i:Int)(xs:List D),m=.int i->0<=i->rk i.toNat xs=some d->∀(ys:List V)(its:List Q1),bh X.K (hid H2 O) xs ys->Vals ys its->
     (∀(Q':List Q1->Rf->Prop),(∀h' tk,(∀b o,s2.heap.get? b=some o->h'.get? b=some o)->Q' its {s2 with heap:=h',toks:=tk})->Rh (model X.prog X.w) X.A.in1 (collect u) Q' X.xe s2)->
     Rh (model X.prog X.w) X.A (call (.builtin "sorted") [u] [(Str.ofString "key",.ref fa)]) (EP X pins σ Q) X.xe s2:=by
    intro i xs ei h0 hs ys its dl ri hcol;subst ei;rw[fK]at dm;subst dm;obtain⟨mm,hns',hl⟩:=I2.loc;obtain⟨uv,ruv,lk⟩:=hl j many (.int i) hN e3 hv;obtain⟨t,rfl⟩:=ruv;have hcell:s2.heap.IsCell cc (some (.int i t)):=by
     rcases lk with⟨z,_⟩|⟨_,c2,ec,hc2⟩
     ·rw[hkm]at z;cases z
     ·rw[hcc]at ec;cases ec;exact hc2
    have dp:=hr.dp;exact zb I2 E2.all dl ri h0 hs hfa hcr ‹0› (λv=>hbind (.ref c') ctv v) hco hgen hk hno hlr hlm hcell d1 d2 d3 hcol λv H' sm dd=>q v H' ((s1'.trans s2').trans sm) dd
   have dn2:=dn.mono (cI (O:=O) s2');unfold qj at hd;split at hd
   ·rename_i xs i;split at hd
    ·rename_i h0;obtain⟨l,ys,el,g1,g2⟩:=cT.mp dn2;subst el;cases ru;obtain⟨its,ri,pl,hz⟩:=I2.list ((aI H2 O).seq g1);have hlen:=ri.length;obtain⟨o,ho,hc,n,hd'⟩:=pl.isList;exact core i xs rfl h0 hd ys its g2 ri λQ' hQ=>SE l (.inl rfl) ho hc hd' (λh' k=>by simpa using hQ h' s2.toks k) (by simp only[NE]<;>omega)
    ·cases hd
   ·rename_i xs i;split at hd
    ·rename_i h0;obtain⟨l,ys,el,g1,g2⟩:=cV.mp dn2;subst el;cases ru;obtain⟨its,ri,⟨o,ho,hc,n,hd'⟩,hz⟩:=I2.tuple (cw (aI H2 O) g1);have hlen:=ri.length;exact core i xs rfl h0 hd ys its g2 ri λQ' hQ=>SE l (.inr rfl) ho hc hd' (λh' k=>by simpa using hQ h' s2.toks k) (by simp only[NE]<;>omega)
    ·cases hd
   ·cases hd
 ·exact st
end
end TG
namespace TG
open PySem PySem.Spec PyProof.Rows PySem.W L2
section
variable[aY]{P:Q3}{w:Q2}{K:P5}{mg:Str->Option Q1}{base:Q6}
def uc(K:P5)(f:Q4)(cdv:Q1):Prop:=∃oc od fd sl,K.lookup f=some ⟨oc,od,.func fd,sl⟩/\fd.code=cdv
theorem uc.one{f:Q4}{a b:Q1}(h:uc K f a)(h':uc K f b):a=b:=by
 obtain⟨oc,od,fd,sl,e,r⟩:=h;obtain⟨oc',od',fd',sl',e',r'⟩:=h';rw[e]at e';cases e';rw[<-r,<-r']
structure vP(P:Q3)(w:Q2)(K:P5)(mg:Str->Option Q1)(base:Q6)(k:Nat)(N:List Str)(qual:Str)(st:Rl)(f:Q4)(B:cG):Prop where
 h:∀(cdv:Q1)(A:Rc)(outer:List Env)(s:Rf)(H:Hp)(E:XK),uc K f cdv->iz k (A.deeper (envOfC qual (aA st) s.heap.objs.size f cdv))->Ru (model P w) (A.deeper (envOfC qual (aA st) s.heap.objs.size f cdv)) (envOfC qual (aA st) s.heap.objs.size f cdv) (kO (oq P w) P w K mg base N qual (aA st) f cdv A outer s H E).xe->
  yo (kO (oq P w) P w K mg base N qual (aA st) f cdv A outer s H E) (gK st) B
theorem Cp{x qual:Str}{st:Rl}{f:Q4}{fd:RJ}{N ps:List Str}{k:Nat}{B:cG}(F:yn K x qual st f fd)(SC:bf N ps (aA st))(hb:vP P w K mg base k N qual st f B):
  nQ P w K mg base (oq P w) (k+1) f fd ps (BW K ps.length (bb B ps.length N.length)):=by
 obtain⟨oc,od,kV,doc,pm,an,cd,ct,osl,rfl,lk,hcd⟩:=F.ex;refine Ga lk hcd SC (λvs H Q E h=>?_) λA outer s H vs Q E hr h=>?_
 ·obtain⟨O,ds,h1,_⟩:=h;exact h1
 ·obtain⟨O,ds,h1,h2,h3,h4⟩:=h;have hl:ds.length=ps.length:=h3.length.trans h1;have e4:bb B ps.length N.length ds=B K0 (env0 N.length ds):=by unfold bb;rw[if_pos hl]
  rw[e4]at h4;refine⟨_,hb.h cd A outer s H E ⟨_,_,_,_,lk,rfl⟩ hr PassesOwn.leaving H O,O,env0 N.length ds,K0,_,⟨rK h2 h3,⟨bE.refl H,λ_ z=>z,λa z=>.inl z⟩,λi xs a e=>?_,λi d e=>by obtain⟨d',_,e2⟩:=jt i _ e;cases e2⟩,rfl,?_⟩
  ·obtain⟨d',_,e2⟩:=jt i _ e;cases e2
  ·generalize B K0 (env0 N.length ds)=r at h4;refine⟨λz=>by rw[z]at h4;exact h4,λO' ρ' σ' H' S e=>?_,λO' ρ' σ' H' S e=>?_,λO' ρ' σ' H' S e=>?_,λd O' v H' e b dv=>?_,λO' ρ' σ' H' x S e=>?_⟩
   ·have e:(.ok .non:R D)=r:=e;subst e;exact h4 .non H' S.base.same (kK.mpr rfl)
   ·have e:(un:R D)=r:=e;subst e;exact h4.elim
   ·have e:(un:R D)=r:=e;subst e;exact h4.elim
   ·subst e;exact h4 v H' b.same (dv.mono (js b.sub))
   ·have e:(.error (some x):R D)=r:=e;subst e;exact C6 h4 S.base.same S.base.sub
theorem yt{x qual:Str}{st:Rl}{f:Q4}{fd:RJ}{N ps:List Str}{k:Nat}{B:cG}(F:yn K x qual st f fd)(b:Binds K fd ps [])(m:mg x=some (.ref f))(SC:bf N ps (aA st))(hb:vP P w K mg base k N qual st f B):
  Callee P w K mg base (k+1) x ps (bb B ps.length N.length):=⟨f,fd,Cp F SC hb,b,F.kp,m⟩
end
def yx(mg:Str->Option Q1)(base:Q6):Prop:=∃bm ob,mg "__builtins__"=some (.ref bm)/\bm≠Ra/\base.get? bm=some ob/\ob.cls=.type "module"/\ob.dict=some Ra/\ob.data=.plain
theorem EB{K:P5}{mg:Str->Option Q1}{base:Q6}{c P:Q4}(X:K.In base)(e:codeHdIn K c P=true)(b:yx mg base):BP mg base c P:=⟨codeHd_of_K X e,b⟩
theorem Fd{P:Q3}{w:Q2}{K:P5}{mg mb:Str->Option Q1}{CX:BU}{k:Nat}{fa a c T:Q4}{lpos:Pos}{q:Str}{fd:RJ}{x:Str}{sp:Sp}{s₁:Rf}{vs:List Q1}{ns:List Int}
  (KX:K.In s₁.heap) (hns:s₁.heap.Ns Q9 mg) (hb:s₁.heap.Ns Ra mb) (hbb:∀x:Str,x≠"__name__"->mb x=Rb x) (hlim:s₁.heap.NoLimit) (hg:s₁.gens=#[]) (hbm:yx mg s₁.heap)
  (hT:s₁.heap.get? T=some (tabObj #[])) (hC:codeHdIn K c T=true) (hKT:K.lookup T=none)
  (ha:s₁.heap.get? a=some {cls:=.type "list",data:=.seq vs.toArray}) (hi:IntsAre vs ns) (hl:ns.length<=Q7) (hr:iz k callerA)
  (F:∀base:Q6,K.In base->base.Ns Q9 mg->yx mg base->nQ P w K mg base CX k fa fd [x] sp) (hbind:∀(s:Rf)(u:Q1),RK s fd ⟨[u],[]⟩ [(x,u)])
  (hsp:∀H:Hp,H T=some (.ext (oK T lpos q))->ot K H a (ns.map V.int)->sp [.ref a] H (λv H'=>v=.bl true/\bE H H') λ_ _ _=>False)
  (hCX:∀H e s',CX [] H s₁ (λ_ _ _=>False) e s'->False):
  RC (model P w) callerA (.call (.ref fa) ⟨[.ref a],[]⟩) (λr s'=>r=.ok (.ret (.bool true))/\OldK s₁.heap s'.heap/\s'.os=s₁.os/\AllBare s'.gens) s₁:=by
 have rv:=uj hi;have lenV:=hi.length;have aT:a≠T:=λz=>by rw[z,hT]at ha;cases ha
 obtain⟨H,hH⟩:∃H:Hp,H=λb=>if b=T then some (.ext (oK T lpos q))else if b=a/\(K.lookup a).isNone=true then some (.frz {cls:=.type "list",data:=.seq vs.toArray} (.lst (ns.map V.int)))else none:=⟨_,rfl⟩
 have hHT:H T=some (.ext (oK T lpos q)):=by rw[hH];exact if_pos rfl
 have cases':∀b u,H b=some u->(b=T/\u=.ext (oK T lpos q))\/(b=a/\K.lookup a=none/\u=.frz {cls:=.type "list",data:=.seq vs.toArray} (.lst (ns.map V.int))):=λb u e=>by
  rw[hH]at e;by_cases z:b=T
  ·have e:=(if_pos z).symm.trans e;cases e;exact .inl ⟨z,rfl⟩
  ·have e:=(if_neg z).symm.trans e;by_cases z':b=a/\(K.lookup a).isNone=true
   ·have e:=(if_pos z').symm.trans e;cases e;exact .inr ⟨z'.1,by simpa using z'.2,rfl⟩
   ·have e:=(if_neg z').symm.trans e;cases e
 have free:∀b o,s₁.heap.get? b=some o->o.cls≠.none->o.cls≠.type "list"->H b=none:=λb o e h1 h2=>by
  cases z:H b with
  |none=>rfl
  |some u=>
   rcases cases' b u z with⟨e1,_⟩|⟨e1,_⟩
   ·rw[e1,hT]at e;cases e;exact absurd rfl h1
   ·rw[e1,ha]at e;cases e;exact absurd rfl h2
 have freeD:∀b o es ep,s₁.heap.get? b=some o->o.data=.dict es ep->H b=none:=λb o es ep e d=>by
  cases z:H b with
  |none=>rfl
  |some u=>
   rcases cases' b u z with⟨e1,_⟩|⟨e1,_⟩
   ·rw[e1,hT]at e;cases e;cases d
   ·rw[e1,ha]at e;cases e;have d':Data.seq vs.toArray _=Data.dict es ep:=d;cases d'
 have hS:ot K H a (ns.map V.int):=by
  cases hk:K.lookup a with
  |some o=>
   have e:=KX a o hk;rw[ha]at e;cases e;exact .inr ⟨_,vs.toArray,_,hk,rfl,rfl,rfl,by rw[NE,lenV];exact hl,by simpa using rv⟩
  |none=>
   refine .inl (.inr ⟨{cls:=.type "list",data:=.seq vs.toArray},?_⟩);rw[hH];exact(if_neg aT).trans (if_pos ⟨rfl,by rw[hk];rfl⟩)
 have hok:o0 P w H s₁.heap:=λb u e=>by
  rcases cases' b u e with⟨e1,e2⟩|⟨e1,_,e2⟩
  ·subst e1 e2;exact oK.ok (.inl hT)
  ·subst e1 e2;exact⟨ha,by rw[NW];exact hl,vs,_,rv,ha⟩
 have nsK:∀{b:Q4}{m:Str->Option Q1},s₁.heap.Ns b m->(wu s₁.heap H).Ns b m:=λ{b m} ⟨o,es,ep,e,d,r⟩=>⟨o,es,ep,rq e (freeD b o es ep e d),d,r⟩
 have hKb:K.In (wu s₁.heap H):=λb o e=>rq (KX b o e) (by
  cases z:H b with
  |none=>rfl
  |some u=>
   rcases cases' b u z with⟨e1,_⟩|⟨e1,e2,_⟩
   ·rw[e1,hKT]at e;cases e
   ·rw[e1,e2]at e;cases e)
 have hbm':yx mg (wu s₁.heap H):=by
  obtain⟨bm,ob,b1,b2,b3,b4,b5,b6⟩:=hbm;refine⟨bm,ob,b1,b2,rq b3 (free bm ob b3 ?_ ?_),b4,b5,b6⟩
  ·rw[b4];simp
  ·rw[b4];simp
 have hM:Mod K mg (wu s₁.heap H):=⟨hKb,nsK hns,⟨mb,nsK hb,hbb⟩,let ⟨mc,h1,h2⟩:=hlim;⟨mc,nsK h1,h2⟩⟩
 have e0:DZ P w K mg (wu s₁.heap H) callerA [] s₁ H:=⟨rfl,hM,λb o e=>D3 e,NI (Bi _ _),trivial,λb hb=>absurd (show b∈([]:List Q4)from hb) (by simp),hok,.of_eq hg⟩
 refine codeAny_mono ((F _ hKb (nsK hns) hbm').run callerA [] s₁ H ⟨[.ref a],[]⟩ [.ref a] [.ref a] _ _ hr e0 (hbind s₁ (.ref a)) (.cons rfl .nil) (hsp H hHT hS)) λr s' h=>?_;cases r with
 |error e=>exact(hCX H e s' h).elim
 |ok fl=>
  cases fl with
  |next=>exact False.elim h
  |brk=>exact False.elim h
  |cont=>exact False.elim h
  |ret u=>
   obtain⟨v,H',os,bare,unn,hok',r',q'⟩:=h;obtain⟨ev,sm⟩:v=.bl true/\bE H H':=q';subst ev;obtain rfl:u=Value.bool true:=r';have tb:=(hok' T _ (sm _ _ hHT)).1;obtain⟨ps,hps⟩:∃ps,s'.heap.get? T=some (tabObj ps):=by
    rcases tb with e|⟨_,_,e,_⟩
    ·exact⟨_,e⟩
    ·exact⟨_,e⟩
   have keep:∀b o,b≠T->s₁.heap.get? b=some o->s'.heap.get? b=some o:=λb o hb e=>by
    cases z:H b with
    |none=>exact unn.keep b o e z (by intro z;exact absurd (show b∈([]:List Q4)from z) (by simp)) (by simp)
    |some u=>
     rcases cases' b u z with⟨e1,_⟩|⟨e1,_,e2⟩
     ·exact absurd e1 hb
     ·subst e2;have z2:=sm _ _ z;obtain⟨e3,_⟩:=hok' b _ z2;rw[e1,ha]at e;cases e;exact e3
   refine⟨rfl,⟨λb o e=>?_,λb o e=>?_⟩,os,bare⟩
   ·by_cases hb:b=T
    ·subst hb;rw[hT]at e;cases e;exact .inr (.inl ⟨((codeHd_of_K KX hC).tab hT).isCodeTable,rfl,#[],ps,rfl,by rw[Array.empty_append];exact hps⟩)
    ·exact .inl (keep b o hb e)
   ·by_cases hb:b=T
    ·subst hb;exact⟨_,hps⟩
    ·exact⟨o,keep b o hb e⟩
theorem Cr{l:Qt}{n k:Nat}{q:Q3}{loose:List Str}{XP:(Str->Option Q1)->Q6->Prop}{YP:Q2->Q6->Prop}{d:DefRec}{K:Params->P5}{CX:Q2->BU}{sp:Q2->Sp}{x qn:Str}{T:Q4}{lpos:Pos}
  (hn:l.most=some n) (hn2:n<=Q7) (hdf:d.params.defaults=[]) (hr:iz k callerA)
  (hY:∀(w:Q2)(h:Q6),YP w h->(K w.params).In h/\h.get? T=some (tabObj #[]))
  (F:∀ (w:Q2) (mg:Str->Option Q1) (fa:Q4) (h:Q6),(K w.params).In h->h.Ns Q9 mg->mg d.name=some (.ref fa) ->
   (∃c,codeHdIn (K w.params) c T=true)/\(K w.params).lookup T=none/\∃fd:RJ,(∀(s:Rf)(u:Q1),RK s fd ⟨[u],[]⟩ [(x,u)])/\
    ∀base:Q6,(K w.params).In base->base.Ns Q9 mg->yx mg base->nQ l.prog w (K w.params) mg base (CX w) k fa fd [x] (sp w))
  (hsp:∀(w:Q2)(H:Hp)(a:Q4)(ns:List Int),ns.length<=n->H T=some (.ext (oK T lpos qn))->ot (K w.params) H a (ns.map V.int)->sp w [.ref a] H (λv H'=>v=.bl true/\bE H H') λ_ _ _=>False)
  (hCX:∀(w:Q2)(H:Hp)(s:Rf)(e:Q1)(s':Rf),CX w [] H s (λ_ _ _=>False) e s'->False):
  PySem.W.WalkO q loose XP YP l.row.toRowW d [] (λf vs=>PySem.call f vs):=by
 refine Att.Gb hn hdf λw s₀ s₁ mg mb fa o pm cd doc a vs ns G Y ho hd hcd hmg hobj hints hlen hg=>?_;obtain⟨KX,hT⟩:=hY w _ Y;obtain⟨⟨c,hC⟩,hKT,fd,hb,hF⟩:=F w mg fa _ KX G.T.g hmg;exact Fd KX G.T.g G.T.b G.T.builtins G.T.nolimit hg G.T.bmain hT hC hKT hobj hints (Nq hlen hn2) hr hF hb (λH hO hS=>hsp w H a ns hlen hO hS) λH e s'=>hCX w H s₁ e s'
open PySem PySem.Spec PySem.Calls L2
open PySem.SeqAt (EqAt list_indexAt)
variable[aY]
section
variable{X:Cx}{p pos:Pos}{e:Ri}
end
end TG
namespace TG
open PySem PySem.Spec L2
variable[aY]
end TG
namespace TG
open PySem PySem.Spec PySem.Calls L2
open PySem.SeqAt (EqAt list_countAt)
variable[aY]
def y9:=Ig (λ_ j=>decide (0<=j)) λi j=>i/2^j.toNat
theorem yq{K:P5}:eF K (rI (λ_ j=>0<=j) λi j=>.int (i/2^j.toNat)) y9:=ki λ_ _ h=>of_decide_eq_true h
def sB:=Gd λi j=>.int (Builtin.bitAnd i j)
theorem zp{K:P5}:eF K (BZ λi j=>.int (Builtin.bitAnd i j)) sB:=rW
def qv:List D->List D->Option (List (Key×D))
 |[],[]=>some []
 |k::ks,d::ds=>(keyOf k).bind λk=>(qv ks ds).map ((k,d)::·)
 |_,_=>none
abbrev iB(al:List (Key×D)):List D:=al.map λp=>bM p.1
abbrev wH(al:List (Key×D)):D:=.dct (iB al) (al.map (·.2))
theorem kH(k:Key):keyOf (bM k)=some k:=by cases k<;>rfl
theorem rp{a b:Key}(h:bM a=bM b):a=b:=by
 have e:=congrArg keyOf h;rw[kH,kH]at e;exact Option.some.inj e
theorem xt:∀{ks ds:List D}{al:List (Key×D)},qv ks ds=some al->ks=iB al/\ds=al.map (·.2)
 |[],[],_,h=>by cases h;exact⟨rfl,rfl⟩
 |k::ks,d::ds,al,h=>by
  unfold qv at h;cases e1:keyOf k with
  |none=>rw[e1]at h;cases h
  |some k'=>
   rw[e1]at h;cases e2:qv ks ds with
   |none=>rw[e2]at h;cases h
   |some al'=>
    rw[e2]at h;cases h;obtain⟨h1,h2⟩:=xt e2;rw[sy e1,h1,h2];exact⟨rfl,rfl⟩
 |[],_::_,_,h=>by cases h
 |_::_,[],_,h=>by cases h
theorem uT:∀al:List (Key×D),qv (iB al) (al.map (·.2))=some al
 |[]=>rfl
 |p::r=>by
  show(keyOf (bM p.1)).bind _=_;rw[kH];show(qv (iB r) (r.map (·.2))).map ((p.1,p.2)::·)=_;rw[uT r];rfl
theorem uJ:∀{al:List (Key×D)}{ks:List Key},iB al=ks.map bM->al.map (·.1)=ks
 |[],[],_=>rfl
 |p::r,k::ks,h=>by
  have h:bM p.1::iB r=bM k::ks.map bM:=h;injection h with h1 h2;rw[N3,rp h1,uJ h2]
 |[],_::_,h=>by cases h
 |_::_,[],h=>by cases h
theorem Lz{K:P5}{H:Hp}{O:List Q4}{a:Q4}{al:List (Key×D)}(h:eQ K H O a (wH al)):
  (∃kvs:List (Key×V),H a=some (.dK kvs)/\kvs.map (·.1)=al.map (·.1)/\bh K (hid H O) (al.map (·.2)) (kvs.map (·.2)))\/(H a=some (.dT [])/\al=[]):=by
 obtain⟨o,vs,h1,h2,h3⟩:=h;rcases h3 with⟨kvs,e,e1,e2⟩|⟨kvs,e,e1,e2⟩
 ·subst e;refine .inl ⟨kvs,h1,?_,by rw[<-e2];exact h2⟩;exact(uJ (ks:=kvs.map (·.1)) (by rw[Ph];exact e1)).symm
 ·subst e;cases kvs with
  |nil=>
   refine .inr ⟨h1,?_⟩
   simpa using e1
  |cons p r=>
   cases al with
   |nil=>cases e1
   |cons q r'=>
    have e1:bM q.1::iB r'=D.tup (p.1.map bM)::r.map (λp=>D.tup (p.1.map bM)):=e1;injection e1 with e1 _;rcases q with⟨k,v⟩
    cases k<;>cases e1
section
variable{κ:Type}[DecidableEq κ]
def qI(al:List (κ×D))(k:κ)(v:D):List (κ×D):=if(al.any λp=>decide (p.1=k))=true then al.map (λp=>if p.1=k then(p.1,v)else p)else al++[(k,v)]
theorem Bb{kvs:List (κ×V)}{al:List (κ×D)}(e:kvs.map (·.1)=al.map (·.1))(k:κ)(w:V)(d:D):(putK kvs k w).map (·.1)=(qI al k d).map (·.1):=by
 have e2:(kvs.any λp=>decide (p.1=k))=(al.any λp=>decide (p.1=k)):=by
  have:=congrArg (λl=>l.any λq=>decide (q=k)) e
  simpa [OZ,Function.comp_def]using this
 unfold putK qI;rw[e2];split
 ·have e3:∀(l:List (κ×V)),(l.map λkv=>if kv.1=k then(kv.1,w)else kv).map (·.1)=l.map (·.1):=λl=>by
   rw[Ph];refine Oz λp _=>?_;show(if p.1=k then(p.1,w)else p).1=p.1;split<;>rfl
  have e4:∀(l:List (κ×D)),(l.map λkv=>if kv.1=k then(kv.1,d)else kv).map (·.1)=l.map (·.1):=λl=>by
   rw[Ph];refine Oz λp _=>?_;show(if p.1=k then(p.1,d)else p).1=p.1;split<;>rfl
  rw[e3,e4,e]
 ·rw[OA,OA,e];rfl
theorem uL{K:P5}{H:Hp}{k:κ}{w:V}{d:D}(hw:cY K H d w):∀{kvs:List (κ×V)}{al:List (κ×D)},kvs.map (·.1)=al.map (·.1)->bh K H (al.map (·.2)) (kvs.map (·.2))->
  bh K H ((al.map λp=>if p.1=k then(p.1,d)else p).map (·.2)) ((kvs.map λp=>if p.1=k then(p.1,w)else p).map (·.2))
 |[],[],_,h=>h
 |p::r,q::r',e,h=>by
  rw[N3,N3]at e;injection e with e1 e2;rw[N3,N3,bH]at h;obtain⟨v,ws,h0,h1,h2⟩:=h;injection h0 with h0 h0';subst h0 h0';have ih:=uL (k:=k) hw e2 h2;rw[N3,N3,N3,N3,bH];refine⟨_,_,rfl,?_,ih⟩;rw[e1];split
  ·exact hw
  ·exact h1
 |[],_::_,e,_=>by cases e
 |_::_,[],e,_=>by cases e
theorem DU{K:P5}{H:Hp}{k:κ}{w:V}{d:D}(hw:cY K H d w){kvs:List (κ×V)}{al:List (κ×D)}(e:kvs.map (·.1)=al.map (·.1))(h:bh K H (al.map (·.2)) (kvs.map (·.2))):
  bh K H ((qI al k d).map (·.2)) ((putK kvs k w).map (·.2)):=by
 have e2:(kvs.any λp=>decide (p.1=k))=(al.any λp=>decide (p.1=k)):=by
  have:=congrArg (λl=>l.any λq=>decide (q=k)) e
  simpa [OZ,Function.comp_def]using this
 unfold putK qI;rw[e2];split
 ·exact uL hw e h
 ·rw[OA,OA];exact h.append (bH.mpr ⟨w,[],rfl,hw,df.mpr rfl⟩)
end
def uP(ks ds:List D)(k v:D):Option (List (Key×D)):=(qv ks ds).bind λal=>(keyOf k).bind λk=>if small al.length then some (qI al k v)else none
def nT(i:Nat)(fk fv:FX):cG:=λk ρ=>match ρ[i]? with
 |some (some (.own (.dct ks ds)))=>tx ((fv ρ).bind λv=>(fk ρ).bind λq=>rO (uP ks ds q v)) k ρ λal=>k.nx (ρ.set i (some (.own (wH al))))
 |_=>un
theorem yY{ks ds:List D}{k v:D}{al':List (Key×D)}(h:uP ks ds k v=some al'):∃al q,ks=iB al/\ds=al.map (·.2)/\k=bM q/\small al.length=true/\al'=qI al q v:=by
 unfold uP at h;cases e1:qv ks ds with
 |none=>rw[e1]at h;cases h
 |some al=>
  rw[e1]at h;cases e2:keyOf k with
  |none=>rw[e2]at h;cases h
  |some q=>
   rw[e2]at h;obtain⟨h3,h4⟩:=cn (show(if small al.length then some (qI al q v)else none)=some al' from h);obtain⟨h1,h2⟩:=xt e1;exact⟨al,q,h1,h2,sy e2,h3,h4.symm⟩
theorem Ey{kvs:List (Key×V)}{al:List (Key×D)}(e:kvs.map (·.1)=al.map (·.1)):iB al=kvs.map λp=>bM p.1:=by
 have:=congrArg (List.map bM) e
 rw[Ph,Ph]at this;exact this.symm
def HC(td ty tv:TE):TS:=λD σ H=>tv σ H λv H1=>td σ H1 λx H2=>ty σ H2 λy H3=>∃a k kvs,x=.ref a/\y=kV k/\(H3 a=some (.dK kvs)\/(H3 a=some (.dT [])/\kvs=[]))/\kvs.length<Q7/\D.nx σ (upd H3 a (.dK (putK kvs k v)))
section
variable{X:Cx}{o idx value:Ri}{pos pos':Pos}{td ty tv:TE}
theorem CH(hu:X.A.units+1<RH)(ho:PE X o td)(hi:PE X idx ty)(hv:PE X value tv)(hs:swapsWith value (some (.Subscript o idx pos')) pos.line X.env=pure false):PS X (.Assign [.Subscript o idx pos'] value pos) (HC td ty tv):=by
 intro pins s σ H D I h;refine wpAny_Assign_Subscript (fj (hv pins s σ H _ I h) λr s1 ⟨v,H1,I1,rv,q1⟩=>fj (ho pins s1 σ H1 _ I1 q1) λu s2 ⟨x,H2,I2,rx,q2⟩=>fj (hi pins s2 σ H2 _ I2 q2) λiv s3 ⟨y,H3,I3,ry,a,k,kvs,ex,ey,ha,hl,q3⟩=>?_) hs;subst ex ey;obtain rfl:u=Value.ref a:=rx;rcases ha with ha|⟨ha,rfl⟩
 ·exact nh hu I3 (Gw.k ha hl) ry rv λs4 I4=>⟨σ,_,I4,q3⟩
 ·refine nh hu (Ho I3 ha) (Gw.k aZ hl) ry rv λs4 I4=>⟨σ,_,I4,?_⟩
  rw[wL];exact q3
end
theorem Kr{X:Cx}{i:Nat}{x:Str}{idx value:Ri}{fk fv:FX}{npos tpos pos:Pos}(hu:X.A.units+64<RH)(hx:PE X (.Name x npos) (xI i))(hi:FE X idx fk)(hv:FE X value fv)
  (hs:swapsWith value (some (.Subscript (.Name x npos) idx tpos)) pos.line X.env=pure false:=by rfl):
  FS X (.Assign [.Subscript (.Name x npos) idx tpos] value pos) (nT i fk fv):=λHb Ob pins s σ H E I ⟨O,ρ,k,rr,S,hF,hk⟩=>by
 unfold nT at hF;split at hF
 ·rename_i ks ds hxs;obtain⟨a,ha,haO,hat⟩:=S.env.own i _ hxs;have hP:=jj.on hF hk S (Q:=λal=>k.nx (ρ.set i (some (.own (wH al))))=rr) λp e=>e;refine CH ‹0› hx hi hv hs pins s σ H E I ⟨O,ρ,S.env,(jj.bind hP).imp λy hP v H1 s1 d1=>?_⟩;have S1:=S.same s1;refine⟨.ref a,ha,O,ρ,S1.env,((jj.bind hP).mono s1).imp λj hP w H2 s2 d2=>?_⟩;have S2:=S1.same s2;obtain⟨al',hg,e⟩:=jj.rO hP;obtain⟨al,q,f1,f2,f3,f4,f5⟩:=yY hg;subst f1 f2 f3 f5;have s12:=s1.trans s2;have hat2:eQ X.K H2 O a (wH al):=hat.mono (let ⟨_,z⟩:=hat.some;qQ s12 z) (cI s12);have dv:cY X.K (hid H2 O) y v:=d1.mono (cI s2);have fin:∀kvs:List (Key×V),kvs.map (·.1)=al.map (·.1)->bh X.K (hid H2 O) (al.map (·.2)) (kvs.map (·.2))->eQ X.K (upd H2 a (.dK (putK kvs q v))) O a (wH (qI al q y)):=λkvs k2 k3=>
   ⟨_,_,aZ,(DU dv k2 k3).mono (jR haO),.inl ⟨putK kvs q v,rfl,Ey (Bb k2 q v y),rfl⟩⟩
  rcases Lz hat2 with⟨kvs,k1,k2,k3⟩|⟨k1,rfl⟩
  ·have hl:kvs.length=al.length:=(by have:=congrArg List.length k2;simpa using this);exact⟨a,q,kvs,rfl,sK d2,.inl k1,by rw[hl];exact OH (of_decide_eq_true f4) (by decide),hk.nx O _ σ _ (S2.setO hxs ha trivial (fin kvs k2 k3)) e⟩
  ·exact⟨a,q,[],rfl,sK d2,.inr ⟨k1,rfl⟩,by decide,hk.nx O _ σ _ (S2.setO hxs ha trivial (fin [] rfl (df.mpr rfl))) e⟩
 ·exact absurd hF.symm hk.ne
section
variable{X:Cx}
theorem IC{pins:List (Q4×Obj)}{σ:St}{H:Hp}{s:Rf}{O:List Q4}{ks ds:List D}{v:V}{qs:List Key}(I:Inv X pins σ H s)(h:cY X.K (hid H O) (.dct ks ds) v)(hk:keysOf ks=some qs):
  ∃a vs,v=.ref a/\qs.length<=Q7/\(a==sysModules)=false/\s.heap.DictOf (cW X.prog X.w) a vs/\vs.map (·.1)=qs:=by
 obtain⟨a,vs,e,_,h2⟩:=J8.mp h;have ek:=mN hk;rcases h2 with⟨kvs,h3,h4,_⟩|⟨kvs,h3,h4,_⟩|⟨kvs,o,h3,h4,_⟩
 rotate_left 2
 ·rw[h4]at hk;cases hk
 ·obtain⟨z,hd,us,rel,dd⟩:=FH I.hok ((aI H O) _ _ h3);have e1:kvs.map (·.1)=qs:=by
   have:(kvs.map (·.1)).map bM=qs.map bM:=(by rw[Ph,<-ek,h4];rfl);have e2:=congrArg keysOf this;rw[cJ,cJ]at e2;exact Option.some.inj e2
  refine⟨a,us,e,?_,hd,dd,?_⟩
  ·have:=congrArg List.length e1
   rw[NW]at this;omega
  ·rw[<-rel.keys,e1]
 ·cases kvs with
  |nil=>
   rw[h4]at hk;cases hk;obtain⟨z,hd,us,rel,dd⟩:=(show cS X.prog X.w H s.heap a (.dK [])from xu (I.hok a _ ((aI H O) _ _ h3)))
   refine⟨a,us,e,NK _,hd,dd,?_⟩;rw[<-rel.keys];rfl
  |cons p r=>
   rw[h4]at hk;cases hk
def ud:List D->Option D
 |[.dct ks _]=>(keysOf ks).bind λqs=>some (.int qs.length)
 |_=>none
theorem Bc:dW X (.builtin "len") (wC X.K ud):=by
 intro pins s σ H xs us Q I r ⟨O,ds,d,hO,hd,hg,q⟩;unfold ud at hg;split at hg
 ·rename_i ks vs0;cases hk:keysOf ks with
  |none=>rw[hk]at hg;cases hg
  |some qs=>
   rw[hk]at hg;cases hg;obtain⟨v,ev,h1⟩:=hd.one;obtain⟨a,vs,e,z,hs,dd,e1⟩:=IC I h1 hk;subst ev e;obtain⟨u,rfl,ru⟩:=vals1 r;cases ru;have hl:vs.length=qs.length:=(by have:=congrArg List.length e1;simpa using this);refine call_len_dict hs dd (by rw[RB]at z;omega) ?_;rw[hl];exact⟨.int qs.length,H,I.tok _,⟨_,rfl⟩,q _ H (bE.refl H) (fK.mpr rfl)⟩
 ·cases hg
theorem Ba{k:Key}{v:Q1}(h:qB k v=true):RelV (kV k) v:=by
 rcases dr h with⟨i,t,rfl,rfl⟩|⟨x,t,rfl,rfl⟩
 ·exact⟨_,rfl⟩
 ·exact⟨_,rfl⟩
theorem vc{P:Q3}{w:Q2}:∀{vs:List (Key×Q1)}{its:List Q1},its.length=vs.length->(∀(j:Nat)(v:Q1),its[j]?=some v->∃(k:Key)(x:Q1),vs[j]?=some (k,x)/\(cW P w).is k v=true)->Vals (vs.map λp=>kV p.1) its
 |[],[],_,_=>.nil
 |p::r,u::us,hl,h=>by
  obtain⟨k,x,e,hk⟩:=h 0 u rfl;cases e;exact .cons (Ba (by rw[zi]at hk;exact hk)) (vc (by simpa using hl) λj v e=>h (j+1) v (by simpa using e))
 |[],_::_,hl,_=>by cases hl
 |_::_,[],hl,_=>by cases hl
theorem uN{K:P5}{H:Hp}:∀qs:List Key,bh K H (qs.map bM) (qs.map kV)
 |[]=>df.mpr rfl
 |k::r=>bH.mpr ⟨kV k,_,rfl,by cases k with
  |inl i=>exact fK.mpr rfl
  |inr x=>exact fM.mpr rfl,uN r⟩
def mE:List D->Option D
 |[.dct ks _]=>(keysOf ks).bind λ_=>some (.lst ks)
 |_=>none
theorem sC(hc:X.calm=true):dW X (.type "list") (wC X.K mE):=by
 intro pins s σ H xs us Q I r ⟨O,ds,d,hO,hd,hg,q⟩;unfold mE at hg;split at hg
 ·rename_i ks vs0;cases hk:keysOf ks with
  |none=>rw[hk]at hg;cases hg
  |some qs=>
   rw[hk]at hg;cases hg;obtain⟨v,ev,h1⟩:=hd.one;obtain⟨a,vs,e,z,hs,dd,e1⟩:=IC I h1 hk;subst ev e;obtain⟨u,rfl,ru⟩:=vals1 r;cases ru;have hl:vs.length=qs.length:=(by have:=congrArg List.length e1;simpa using this);obtain⟨ep,da⟩:=dd.dictAt;refine Qu (PySem.W.kdl_dict hs) (I.ok.hd hc) da ‹0› λh' tk acc' c' kp e2 it=>?_;have rv:Vals (qs.map kV) acc'.toList:=by
    have:=vc (P:=X.prog) (w:=X.w) (vs:=vs) (its:=acc'.toList) (by rw[Array.length_toList];exact it.1) λj v e=>it.2 j v (by rw[<-Array.getElem?_toList];exact e)
    rw[<-e1,Ph];exact this
   refine⟨.ref s.heap.objs.size,_,I.laid (t':=tk) kp (NB _) (show cS X.prog X.w _ h' _ (.lst (qs.map kV))from⟨by rw[NW];exact z,acc'.toList,c',rv,by simpa using e2⟩),rfl,?_⟩;have hf:=I.hok.fresh (NB s.heap.objs.size);refine q _ _ (cm hf _) ?_;rw[mN hk];exact dG hO hf (uN qs)
 ·cases hg
end
end TG
namespace TG
open PySem PySem.Spec L2
variable[aY]
end TG
namespace TG
open PySem PySem.Spec PySem.Calls L2
variable[aY]
theorem Bp:typeLookup (.type "list") "keys"=pure none:=by rw[typeLookup_type,builtinLookup_eq_fast];kernel_rfl
theorem Ec{prog:Q3}{w:Q2}{A:Rc}{E:Q1->Rf->Prop}{s:Rf}{a:Q4}{o:Obj}{xs:Array Q1}{k:Nat}{u:Tok}{Q:Q1->Rf->Prop}
  (hx:s.heap.get? a=some o) (hc:o.cls=.type "list") (hdat:o.data=.seq xs k) (hd:o.dict=none) (hA:A.handled=none)
  (h:∀h' tk e,Heap.NewExcOf s.heap h' e "AttributeError"->E (.ref e) {s with heap:=h',toks:=tk}):
  Rh (model prog w) A (getAttrBy (.ref a) (.str "keys" u) false) Q E s:=by
 obtain⟨c,dct,dat,sl⟩:=o;simp only at hc hdat hd;subst hc hdat hd;obtain⟨hp,g,d,tk,os⟩:=s;have hT:∀tk',(⟨hp,g,d,tk',os⟩:Rf).TypeIs (.ref a) "list":=λ_=>⟨_,hx,rfl⟩
 have f1:=sub_AttributeError;have f3:=F.slot_list_getattribute.lookup;have f4:=F.slot_list_getattribute.bind (.ref a);have f5:=am_list_getattr_none;unfold getAttrBy
 repeat (any_goals (first|assumption|exact hT _|((with_reducible show Rh _ _ (call (Value.builtin "list.__getattribute__") _ _) _ _ _);refine call_meets F.slot_list_getattribute (hT _) am_entry_list_getattribute (F.args_list_getattribute_2 _ _) (meets_getattribute_miss_list a xs k sl "keys" _ Bp (by decide +kernel) (by decide +kernel)) ⟨hx,hA,λh' tk' e hx'=>?_⟩)|wp_step))
 obtain⟨t',u',he⟩:=hx'.there;show Rh _ _ (getattributeRaised _ _ _ _ _ _ _) _ _ _;unfold getattributeRaised
 repeat (any_goals (first|assumption|wp_step))
 exact h _ _ _ hx'.of
theorem Fa{prog:Q3}{w:Q2}{A:Rc}{E:Q1->Rf->Prop}{s:Rf}{a:Q4}{o:Obj}{xs:Array Q1}{k:Nat}{Q:Option Q1->Rf->Prop}
  (hx:s.heap.get? a=some o) (hc:o.cls=.type "list") (hdat:o.data=.seq xs k) (hd:o.dict=none) (hA:A.handled=none)
  (h:∀h' tk,(∀b o,s.heap.get? b=some o->h'.get? b=some o)->Q none {s with heap:=h',toks:=tk}):
  Rh (model prog w) A (getAttr? (.ref a) "keys") Q E s:=by
 obtain⟨hp,g,d,tk,os⟩:=s;have f1:=sub_AttributeError;unfold getAttr? getAttrBy?;refine Rr (wpAny_mkText ?_);refine Rr (Su (Ec (s:=⟨hp,g,d,tk+1,os⟩) hx hc hdat hd hA λh' tk' e ne=>?_));obtain⟨ob,vs,e1,e2,_⟩:=ne.there;refine Rr (Sv (s:=⟨h',g,d,tk',os⟩) ⟨ob,e1,e2⟩ f1 ?_);exact Rq (h h' tk' ne.keeps)
abbrev Keeps(h0 h:Q6):Prop:=∀b o,h0.get? b=some o->h.get? b=some o
section
variable{prog:Q3}{w:Q2}{A:Rc}{E:Q1->Rf->Prop}{K:Type}[DecidableEq K]{knd:HeapKind prog w K}{d:Q4}{h0:Q6}
def DI(knd:HeapKind prog w K)(h0:Q6)(d:Q4)(h:Q6)(xs:List (K×Q4×Q1)):Prop:=
 (∃o es ep,h.get? d=some o/\o.ExactDict/\o.data=.dict es ep/\es.toList=xs.map (entryOfKey knd)/\(xs.map (·.1)).Nodup)/\∀x∈xs,∀h,Keeps h0 h->knd.is h x.1 x.2.1
theorem DI.dict{h:Q6}{xs:List (K×Q4×Q1)}(x:DI knd h0 d h xs)(k:Keeps h0 h):h.DictOfH knd d xs:=by
 obtain⟨⟨o,es,ep,h1,h2,h3,h4,h5⟩,h6⟩:=x;exact⟨o,es,ep,h1,h2,h3,h4,λy hy=>h6 y hy h k,h5⟩
theorem DI.stay{h h':Q6}{xs:List (K×Q4×Q1)}(x:DI knd h0 d h xs)(k:∀o,h.get? d=some o->h'.get? d=some o):DI knd h0 d h' xs:=by
 obtain⟨⟨o,es,ep,h1,r⟩,h6⟩:=x;exact⟨⟨o,es,ep,k o h1,r⟩,h6⟩
theorem mem_storedH{xs:List (K×Q4×Q1)}{k:K}{a:Q4}{v:Q1}{x:K×Q4×Q1}(h:x∈storedH xs k a v):(∃y∈xs,y.1=x.1/\y.2.1=x.2.1)\/(x.1=k/\x.2.1=a):=by
 unfold storedH at h;split at h
 ·obtain⟨y,hy,rfl⟩:=List.mem_map.mp h;refine .inl ⟨y,hy,?_⟩;unfold putAt;split<;>exact⟨rfl,rfl⟩
 ·rcases List.mem_append.mp h with z|z
  ·exact .inl ⟨x,z,rfl,rfl⟩
  ·rw[Pn]at z;subst z;exact .inr ⟨rfl,rfl⟩
theorem DI.put{h h':Q6}{xs:List (K×Q4×Q1)}{k:K}{a:Q4}{v:Q1}(x:DI knd h0 d h xs)(hk:∀h,Keeps h0 h->knd.is h k a)(dd:h'.DictOfH knd d (storedH xs k a v)):DI knd h0 d h' (storedH xs k a v):=by
 obtain⟨o,es,ep,h1,h2,h3,h4,_,h5⟩:=dd;refine⟨⟨o,es,ep,h1,h2,h3,h4,h5⟩,λy hy g kg=>?_⟩;rcases mem_storedH hy with⟨z,hz,e1,e2⟩|⟨e1,e2⟩
 ·rw[<-e1,<-e2];exact x.2 z hz g kg
 ·rw[e1,e2];exact hk g kg
theorem xO(xs:List (K×Q4×Q1))(k:K)(a:Q4)(v:Q1):(storedH xs k a v).length<=xs.length+1:=by
 unfold storedH;split
 ·rw[NW];omega
 ·simp
theorem xR:entryFor table "dict.update.loop"=some Builtin.«dict.update.loop»:=entryFor_of_tree (by kernel_rfl)
theorem oX:plainId "dict.update.loop"=true:=by decide +kernel
theorem AH{R:Result->Rf->Prop}{I:Q4}{fp wr:List Q4}{P:Nat->Q1->Prop}{St:Nat->Q6->Prop}{L:List (K×Q4×Q1)}(W:Walks prog w A.in1 I fp wr L.length P St)(hwr:∀b∈wr,h0.get? b=none)(hdn:h0.get? d=none)(hdf:d∉fp)
  (hn:L.length<=Q7) (hu:knd.room A.in1) (hP:∀i v,P i v->∃x t,L[i]?=some x/\v=.ref t/\∀h,Keeps h0 h->h.IsTuple t #[.ref x.2.1,x.2.2]) (hK:∀x∈L,∀h,Keeps h0 h->knd.is h x.1 x.2.1) (res:Q1):
  ∀(m i:Nat)(s:Rf)(xs:List (K×Q4×Q1))(j:Int)(u:Tok),i+m=L.length->St i s.heap->Keeps h0 s.heap->DI knd h0 d s.heap xs->xs.length<=i->
  (∀h' tk,Keeps h0 h'->DI knd h0 d h' ((L.drop i).foldl (λxs x=>storedH xs x.1 x.2.1 x.2.2) xs)->R (.ok (.ret res)) {s with heap:=h',toks:=tk})->
  RC (model prog w) A (.builtin "dict.update.loop" ⟨[.ref d,.ref I,.int j u,res],[]⟩) R s:=by
 have hdw:d∉wr:=λh=>hdf (W.sub _ h);intro m
 induction m with
 |zero=>
  intro i s xs j u hi st kp di hl hR;have hin:i=L.length:=by omega
  subst hin;refine codeAny_builtin xR ?_;rw[Around.under_plainId oX _];show Rh _ A.in1 (pyNext (.ref I) >>= _) _ _ s;refine Rr (W.done s _ _ st λh' tk hk=>?_);refine Rr (Rq (Rq ?_))
  have:=hR h' tk (λb o q=>hk b o (λz=>by have:=hwr b z;rw[q]at this;cases this) (kp b o q)) (by
   rw[OJ,List.foldl_nil];exact di.stay λo q=>hk d o hdw q)
  exact this
 |succ m ih=>
  intro i s xs j u hi st kp di hl hR;refine codeAny_builtin xR ?_;rw[Around.under_plainId oX _];show Rh _ A.in1 (pyNext (.ref I) >>= _) _ _ s;refine Rr (W.item i s _ _ ‹0› st λv h' tk hv st' hk=>?_);obtain⟨x,t,hx,rfl,ht⟩:=hP i v hv;have kp':Keeps h0 h':=λb o q=>hk b o (λz=>by have:=hwr b z;rw[q]at this;cases this) (kp b o q);obtain⟨o,ho,hc,n,hd⟩:=ht h' kp';have xm:x∈L:=NU hx;refine Rr (RW (Rr (wpAny_tryCatch ?_)));unfold Builtin.Dict.pairItems;refine Rr (RZ (T:="tuple") ⟨o,ho,hc⟩ ?_);rw[if_pos (by decide)];refine Rr (Sf ho hd (Rq ?_));show Rh _ _ (holding [.ref x.2.1,x.2.2] (dictSet d (.ref x.2.1) x.2.2)) _ _ _;have di':DI knd h0 d h' xs:=di.stay λo q=>hk d o hdw q;refine RW (wpAny_dictSet_heap (s:={s with heap:=h',toks:=tk}) (hsz:=by omega) hu (hK x xm h' kp') (di'.dict kp') λh2 dd sb=>?_);have kp2:Keeps h0 h2:=λb o q=>(sb.2 b (λz=>by rw[z,hdn]at q;cases q)).trans (kp' b o q);refine Rq ⟨plainId_quiet oX _,?_⟩;refine ih (i+1) _ (storedH xs x.1 x.2.1 x.2.2) (j+1) 0 ‹0› (W.frame _ _ _ st' λb hb o q=>(sb.2 b (λz=>hdf (by rw[<-z];exact hb))).trans q) kp2 (di'.put (hK x xm) dd) (by have:=xO xs x.1 x.2.1 x.2.2;omega) λh3 tk3 kp3 di3=>?_;refine hR h3 tk3 kp3 ?_;have e:L.drop i=x::L.drop (i+1):=by
   have hil:i<L.length:=(by omega);rw[OG hil];rw[Oq hil]at hx;rw[Option.some.inj hx]
  rw[e,O2];exact di3
theorem sM{s:Rf}{Q:Q1->Rf->Prop}{l:Q4}{o:Obj}{items:Array Q1}{n:Nat}{L:List (K×Q4×Q1)}(ho:s.heap.get? l=some o)(hc:o.cls=.type "list")(hd:o.data=.seq items n)(hdd:o.dict=none)(hh:A.handled=none)(hu:knd.room A.in1.in1)
  (hl:items.size=L.length) (hn:L.length<=Q7) (hP:∀(i:Nat) v,items[i]?=some v->∃x t,L[i]?=some x/\v=.ref t/\s.heap.IsTuple t #[.ref x.2.1,x.2.2]) (hK:∀x∈L,∀h,Keeps s.heap h->knd.is h x.1 x.2.1)
  (hQ:∀h' tk,Keeps s.heap h'->DI knd s.heap s.heap.objs.size h' (L.foldl (λxs x=>storedH xs x.1 x.2.1 x.2.2) [])->Q (.ref s.heap.objs.size) {s with heap:=h',toks:=tk}):
  Rh (model prog w) A (call (.type "dict") [.ref l]) Q E s:=by
 refine callType_codes (Q₁:=λobj s₁=>obj=.ref s.heap.objs.size/\s₁={s with heap:=s.heap.push {cls:=.type "dict",data:=.dict #[]}}) F.kt_called_dict (F.kt_typeCall_dict_1 _) F.entry_dict_init (kt_code_dict_new _ ⟨rfl,rfl⟩) ?_;rintro obj s₁ ⟨rfl,rfl⟩;have hnew:(s.heap.push {cls:=.type "dict",data:=.dict #[]}).DictOfH knd s.heap.objs.size []:=Heap.DictOfH.new s.heap;have hlt:=Qy ho;have hl1:(s.heap.push {cls:=.type "dict",data:=.dict #[]}).get? l=some o:=QB _ ho;refine⟨hnew.typeIs,F.args_dict_init_2 _ _,?_⟩;unfold Builtin.«dict.__init__»;refine Rr ?_;unfold Builtin.Dict.selfAndRest;refine Rr (wpAny_notOrdered_dict hnew.typeIs ?_);show Rh _ _ (pure (s.heap.objs.size,[Value.ref l])) _ _ _;refine Rq ?_;show Rh _ _ (Builtin.Dict.updateFrom "dict.__init__" s.heap.objs.size (.ref l) [] .none) _ _ _;unfold Builtin.Dict.updateFrom;refine Rr (RZ (T:="list") ⟨o,hl1,hc⟩ ?_);rw[if_pos (by decide)];refine Rr (Fa hl1 hc hd hdd hh λh1 tk1 k1=>?_);rw[if_pos (show(none:Option Q1).isNone=true from rfl)];refine Rr (Sb ?_);have hd1:h1.get? s.heap.objs.size=some {cls:=.type "dict",data:=.dict #[]}:=k1 _ _ (QC _ rfl);have hl2:h1.IsList l items:=⟨o,k1 _ _ hl1,hc,n,hd⟩
 have dlt:=Qy hd1;refine Rr (Rt (s:={s with heap:=h1,toks:=tk1}) hl2 ?_);refine Rq ⟨plainId_quiet oX _,?_⟩;have W:=Walks.list (prog:=prog) (w:=w) (A:=A.in1.in1) hh h1.objs.size l (Np (N9 hlt dlt)) items;rw[hl]at W;refine AH (A:=A.in1) (knd:=knd) (h0:=s.heap) (d:=s.heap.objs.size) W (λb hb=>?_) (Qz (NB _)) (λz=>?_) hn hu (λi v hv=>?_) hK .none L.length 0 _ [] 0 0 ‹0› ?_ (λb o q=>?_) ⟨⟨_,#[],0,QB _ hd1,⟨rfl,rfl,rfl⟩,rfl,rfl,Oa⟩,λx hx=>by simp at hx⟩ (NB _) λh' tk kp di=>?_
 ·rw[Pn]at hb;subst hb;exact Qz (Nr dlt)
 ·simp only[OM,OO,or_false]at z;rcases z with z|z
  ·exact absurd z (Np dlt)
  ·exact absurd z.symm (Np hlt)
 ·obtain⟨x,t,e1,e2,e3⟩:=hP i v hv;obtain⟨ob,q1,q2⟩:=e3;exact⟨x,t,e1,e2,λh kh=>⟨ob,kh _ _ q1,q2⟩⟩
 ·exact⟨⟨_,QC _ rfl,rfl,rfl⟩,let ⟨ob,q1,q2⟩:=hl2;⟨ob,QB _ q1,q2⟩⟩
 ·exact QB _ (k1 _ _ (QB _ q))
 ·exact⟨rfl,hQ h' tk kp di⟩
end
def yd:D->Option (List Key×D)
 |.tup [k,v]=>(jT k).map λq=>(q,v)
 |_=>none
def lw:List D->Option (List (List Key×D))
 |[]=>some []
 |d::r=>(yd d).bind λp=>(lw r).map (p::·)
def CW(ps:List (List Key×D)):List (List Key×D):=ps.foldl (λal p=>iI al p.1 p.2) []
def vx:List D->Option D
 |[.lst xs]=>(lw xs).bind λps=>if small ps.length then some (fh (CW ps))else none
 |_=>none
theorem Ci{d:D}{p:List Key×D}(h:yd d=some p):d=.tup [.tup (p.1.map bM),p.2]:=by
 unfold yd at h;split at h
 ·rename_i k v;cases e:jT k with
  |none=>rw[e]at h;cases h
  |some q=>rw[e]at h;cases h;rw[oE e]
 ·cases h
theorem ue:∀{xs:List D}{ps:List (List Key×D)},lw xs=some ps->xs=ps.map λp=>.tup [.tup (p.1.map bM),p.2]
 |[],_,h=>by cases h;rfl
 |d::r,ps,h=>by
  unfold lw at h;cases e1:yd d with
  |none=>rw[e1]at h;cases h
  |some p=>
   rw[e1]at h;cases e2:lw r with
   |none=>rw[e2]at h;cases h
   |some ps'=>rw[e2]at h;cases h;rw[Ci e1,ue e2];rfl
section
variable{X:Cx}
theorem uM{pins:List (Q4×Obj)}{σ:St}{H:Hp}{s:Rf}{O:List Q4}(I:L2.Inv X pins σ H s):∀{ps:List (List Key×D)}{ws:List V}{its:List Q1},bh X.K (hid H O) (ps.map λp=>.tup [.tup (p.1.map bM),p.2]) ws->Vals ws its->
  ∃(L:List (List Key×Q4×Q1))(ks:List (List Key×V)),its.length=L.length/\(∀(i:Nat)(v:Q1),its[i]?=some v->∃(x:List Key×Q4×Q1)(t:Q4),L[i]?=some x/\v=.ref t/\s.heap.IsTuple t #[.ref x.2.1,x.2.2])/\KT H ks L/\ks.map (·.1)=ps.map (·.1)/\bh X.K (hid H O) (ps.map (·.2)) (ks.map (·.2))
 |[],ws,its,h,r=>by
  rw[N2,df]at h;subst h;cases r;exact⟨[],[],rfl,(λi v e=>by simp at e),.nil,rfl,df.mpr rfl⟩
 |p::ps,ws,its,h,r=>by
  rw[N3,bH]at h;obtain⟨w,ws',rfl,h1,h2⟩:=h;cases r with
  |@cons _ u _ us ru rr=>
   obtain⟨L,ks,l1,l2,l3,l4,l5⟩:=uM I h2 rr;obtain⟨t,vs,rfl,t1,t2⟩:=cV.mp h1;obtain⟨v1,v2,rfl,d1,d2⟩:=t2.two;obtain⟨a,ks1,rfl,a1,a2⟩:=cV.mp d1;rw[jc a2]at a1;obtain⟨its',r',⟨o,q1,q2⟩,_⟩:=I.tuple (cw (K:=X.K) (aI H O) t1);obtain⟨x1,x2,rfl,rx1,rx2⟩:=vals2 r';cases rx1;obtain rfl:u=Value.ref t:=ru;refine⟨(p.1,a,x2)::L,(p.1,v2)::ks,by rw[N6,N6,l1],λi v e=>?_,.cons ⟨rfl,(aI H O) _ _ a1,rx2⟩ l3,by rw[N3,N3,l4],bH.mpr ⟨v2,_,rfl,d2,l5⟩⟩;cases i with
   |zero=>
    have e:Value.ref t=v:=(by simpa using e);subst e;exact⟨_,t,rfl,rfl,o,q1,q2⟩
   |succ i=>exact l2 i v (by simpa using e)
theorem xg{K:P5}{H:Hp}{H0:Hp}:∀{ps:List (List Key×D)}{ks:List (List Key×V)}{L:List (List Key×Q4×Q1)}{al:List (List Key×D)}{kvs:List (List Key×V)}{xs:List (List Key×Q4×Q1)},KT H ks L->ks.map (·.1)=ps.map (·.1)->bh K H0 (ps.map (·.2)) (ks.map (·.2))->
  KT H kvs xs->kvs.map (·.1)=al.map (·.1)->bh K H0 (al.map (·.2)) (kvs.map (·.2))->
  KT H (ks.foldl (λm p=>putK m p.1 p.2) kvs) (L.foldl (λxs x=>storedH xs x.1 x.2.1 x.2.2) xs)/\(ks.foldl (λm p=>putK m p.1 p.2) kvs).map (·.1)=(ps.foldl (λal p=>iI al p.1 p.2) al).map (·.1)/\
   bh K H0 ((ps.foldl (λal p=>iI al p.1 p.2) al).map (·.2)) ((ks.foldl (λm p=>putK m p.1 p.2) kvs).map (·.2))/\(ks.foldl (λm p=>putK m p.1 p.2) kvs).length<=kvs.length+ks.length
 |[],[],_,al,kvs,xs,.nil,_,_,h1,h2,h3=>⟨h1,h2,h3,by simp⟩
 |p::ps,q::ks,_,al,kvs,xs,.cons (b:=x) hq hr,e,d,h1,h2,h3=>by
  rw[N3,N3]at e;injection e with e1 e2;rw[N3,N3,bH]at d;obtain⟨v,vs,d0,d1,d2⟩:=d;injection d0 with d0 d0';subst d0 d0';obtain⟨y1,y2,y3⟩:=hq;have z1:=KT.put h1 q.1 y2 y3;rw[y1]at z1;have z2:=xk h2 q.1 q.2 p.2;have z3:=zA (k:=q.1) d1 h2 h3
  have:=xg (kvs:=putK kvs q.1 q.2) (al:=iI al q.1 p.2) (xs:=storedH xs x.1 x.2.1 x.2.2) hr e2 d2 (by rw[y1];exact z1) z2 z3
  rw[O2,O2,O2,<-e1];refine⟨this.1,this.2.1,this.2.2.1,Nq this.2.2.2 ?_⟩
  have:=mh kvs q.1 q.2
  rw[N6];omega
 |[],_::_,_,_,_,_,_,e,_,_,_,_=>by cases e
 |_::_,[],_,_,_,_,_,e,_,_,_,_=>by cases e
theorem yP(hc:X.calm=true)(hu:X.A.units+64<RH):dW X (.type "dict") (wC X.K vx):=by
 intro pins s σ H xs us Q I r ⟨O,ds,d,hO,hd,hg,q⟩;unfold vx at hg;split at hg
 ·rename_i ys;cases hp:lw ys with
  |none=>rw[hp]at hg;cases hg
  |some ps=>
   rw[hp]at hg;obtain⟨sm,rfl⟩:=cn (show(if small ps.length then some (fh (CW ps))else none)=some d from hg);obtain⟨v,rfl,h1⟩:=hd.one;obtain⟨p,ws,rfl,g1,g2⟩:=cT.mp h1;obtain⟨u,rfl,ru⟩:=vals1 r;cases ru;obtain⟨its,rv,⟨o,n,ho,hcl,hd',hdd⟩,hz⟩:=I.list ((aI H O).seq g1);rw[ue hp]at g2;obtain⟨L,ks,l1,l2,l3,l4,l5⟩:=uM I g2 rv;have kl:ks.length=ps.length:=(by have:=congrArg List.length l4;simpa using this);have ll:ks.length=L.length:=Paired.length l3;have key:∀{ks:List (List Key×V)}{L:List (List Key×Q4×Q1)},KT H ks L->∀x∈L,∀h,Keeps s.heap h->(tupleKind (cW X.prog X.w)).is h x.1 x.2.1:=λ{ks L} kt=>by
    induction kt with
    |nil=>intro x hx;cases hx
    |cons hq _ ih=>
     intro x hx h kh;rcases List.mem_cons.mp hx with z|z
     ·subst z;obtain⟨e1,e2,_⟩:=hq;rw[e1]at e2;obtain⟨o,xs,n,k1,k2⟩:=pA I.hok e2;exact⟨o,xs,n,kh _ _ k1,k2⟩
     ·exact ih x z h kh
   obtain⟨f1,f2,f3,f4⟩:=xg (K:=X.K) (H:=H) (H0:=hid H O) (al:=[]) (kvs:=[]) (xs:=[]) l3 l4 l5 .nil rfl (df.mpr rfl);have hsz:ps.length<=100000:=of_decide_eq_true sm;have sl:Q7=16777216:=RB;refine sM (knd:=tupleKind (cW X.prog X.w)) (L:=L) ho hcl hdd hd' (I.ok.hd hc) (R8 (by rw[in1_units];omega)) (by simpa using l1) ‹0› (λi v e=>l2 i v (by simpa using e)) (key l3) λh' tk kp di=>?_;have hf:=I.hok.fresh (NB s.heap.objs.size);obtain⟨⟨od,es,ep,k1,k2,k3,k4,k5⟩,_⟩:=di;have kt':KT (upd H s.heap.objs.size (.dT (ks.foldl (λm p=>putK m p.1 p.2) []))) (ks.foldl (λm p=>putK m p.1 p.2) []) (L.foldl (λxs x=>storedH xs x.1 x.2.1 x.2.2) []):=KT.keeps f1 λb ys eb=>by rw[aR (λz=>by rw[z,hf]at eb;cases eb)];exact eb
   refine⟨.ref s.heap.objs.size,_,I.laid (t':=tk) kp (NB _) (show cS X.prog X.w _ h' _ (.dT (ks.foldl (λm p=>putK m p.1 p.2) []))from⟨by simp only[N7]at f4;omega,beq_eq_false_iff_ne.mpr (Ne.symm (Np I.big)),_,kt',od,es,ep,k1,k2,k3,k4,k5⟩),rfl,?_⟩;refine q _ _ (cm hf _) ?_;have pO:=hO.not hf;refine J8.mpr ⟨s.heap.objs.size,_,rfl,f3.mono (vt hf),.inr (.inl ⟨_,by rw[jU pO];exact aZ,CZ f2,rfl⟩)⟩
 ·cases hg
end
def pI(al:List (List Key×D))(q:List Key):Option D:=(al.find? λp=>decide (p.1=q)).map (·.2)
def Js(ks ds:List D)(k x:D):Option D:=(qi ks ds).bind λal=>(jT k).bind λq=>some ((pI al q).getD x)
def Mg(fo fk fx:FX):FX:=λρ=>(fo ρ).bind λdd=>match dd with
 |.dct ks ds=>(fk ρ).bind λk=>(fx ρ).bind λx=>rO (Js ks ds k x)
 |_=>un
theorem rP{K:P5}{H:Hp}{v:V}{al:List (List Key×D)}(h:cY K H (fh al) v):
  ∃a,v=.ref a/\((∃kvs:List (List Key×V),H a=some (.dT kvs)/\kvs.map (·.1)=al.map (·.1)/\bh K H (al.map (·.2)) (kvs.map (·.2)))\/(H a=some (.dK [])/\al=[])):=by
 obtain⟨a,vs,e0,h2,h3⟩:=J8.mp h;refine⟨a,e0,?_⟩;rcases h3 with⟨kvs,e,e1,e2⟩|⟨kvs,e,e1,e2⟩|⟨kvs,o,e,e1,e2⟩
 rotate_left 2
 ·cases al with
  |nil=>cases e1
  |cons _ _=>injection e1 with e1 _;cases e1
 ·cases kvs with
  |nil=>exact .inr ⟨e,by simpa using e1⟩
  |cons p r=>
   cases al with
   |nil=>cases e1
   |cons q r'=>
    have e1:D.tup (q.1.map bM)::encK r'=bM p.1::r.map (λp=>bM p.1):=e1;injection e1 with e1 _;rcases p with⟨k,v⟩
    cases k<;>cases e1
 ·refine .inl ⟨kvs,e,?_,by rw[<-e2];exact h2⟩;exact(oB (ks:=kvs.map (·.1)) (by rw[Ph];exact e1)).symm
theorem x9{K:P5}{H:Hp}(q:List Key):∀{kvs:List (List Key×V)}{al:List (List Key×D)},kvs.map (·.1)=al.map (·.1)->bh K H (al.map (·.2)) (kvs.map (·.2))->(lN kvs q=none/\pI al q=none)\/∃v d,lN kvs q=some v/\pI al q=some d/\cY K H d v
 |[],[],_,_=>.inl ⟨rfl,rfl⟩
 |p::r,a::al,e,h=>by
  rw[N3,N3]at e;injection e with e1 e2;rw[N3,N3,bH]at h;obtain⟨v,ws,h0,h1,h2⟩:=h;injection h0 with h0 h0';subst h0 h0';by_cases z:p.1=q
  ·refine .inr ⟨p.2,a.2,mG z,?_,h1⟩;unfold pI;rw[Pt (by rw[<-e1];simpa using z)];rfl
  ·have ih:=x9 q e2 h2;have g:pI (a::al) q=pI al q:=by
    unfold pI;rw[Pu (by rw[<-e1];simpa using z)]
   rw[lZ z,g];exact ih
 |[],_::_,e,_=>by cases e
 |_::_,[],e,_=>by cases e
def yH(x y:D):Option D:=match y with
 |.dct ks ds=>nW ks ds x
 |_=>none
def jC(x y:D):Option D:=match y with
 |.dct ks ds=>(nW ks ds x).bind xP
 |_=>none
section
variable{X:Cx}
theorem Hj(hu:X.A.units+64<RH):lL X (Rz .In) (rD X.K yH):=by
 intro pins s σ H x y u v Q I rx ry ⟨O,a,b,d,hO,ha,hb,hg,q⟩;cases b with
 |dct ks ds=>
  obtain⟨al,qk,f1,f2,f3,f4⟩:=rF (show nW ks ds a=some d from hg);subst f1 f2 f3 f4;obtain⟨p,ey,hh⟩:=rP hb;obtain⟨c,ws,ex,g1,g2⟩:=cV.mp ha;rw[jc g2]at g1;have g1':=(aI H O) _ _ g1;subst ex ey;cases ry;rcases hh with⟨kvs,k1,k2,k3⟩|⟨k1,rfl⟩
  ·have hv:=ya k2 qk;rw[OZ]at hv;refine JU ‹0› I (BC.t ((aI H O) _ _ k1) g1') rx λs3 I3=>⟨.bl (lN kvs qk).isSome,H,I3,rfl,q _ H (bE.refl H) (kG.mpr ?_)⟩
   rw[hv];rfl
  ·have k1':=(aI H O) _ _ k1;have ne:c≠p:=λz=>by rw[z,k1']at g1';cases g1'
   refine JU (o:=lN [] qk) ‹0› (Fb I k1') (BC.t aZ (by rw[aR ne];exact g1')) rx λs3 I4=>⟨.bl false,H,?_,rfl,q _ H (bE.refl H) (kG.mpr rfl)⟩
   have I5:=Ho I4 aZ;rw[xn k1']at I5;exact I5
 |_=>cases hg
theorem pJ(hu:X.A.units+64<RH):lL X (Rz .NotIn) (rD X.K jC):=by
 intro pins s σ H x y u v Q I rx ry ⟨O,a,b,d,hO,ha,hb,hg,q⟩;cases b with
 |dct ks ds=>
  have hg:(nW ks ds a).bind xP=some d:=hg;cases e0:nW ks ds a with
  |none=>rw[e0]at hg;cases hg
  |some d0=>
  rw[e0]at hg;obtain⟨al,qk,f1,f2,f3,f4⟩:=rF e0;subst f1 f2 f3 f4;cases hg;obtain⟨p,ey,hh⟩:=rP hb;obtain⟨c,ws,ex,g1,g2⟩:=cV.mp ha;rw[jc g2]at g1;have g1':=(aI H O) _ _ g1;subst ex ey;cases ry;rcases hh with⟨kvs,k1,k2,k3⟩|⟨k1,rfl⟩
  ·have hv:=ya k2 qk;rw[OZ]at hv;refine zP ‹0› I (BC.t ((aI H O) _ _ k1) g1') rx λs3 I3=>⟨.bl (!(lN kvs qk).isSome),H,I3,rfl,q _ H (bE.refl H) (kG.mpr ?_)⟩
   rw[hv];rfl
  ·have k1':=(aI H O) _ _ k1;have ne:c≠p:=λz=>by rw[z,k1']at g1';cases g1'
   refine zP (o:=lN [] qk) ‹0› (Fb I k1') (BC.t aZ (by rw[aR ne];exact g1')) rx λs3 I4=>⟨.bl true,H,?_,rfl,q _ H (bE.refl H) (kG.mpr rfl)⟩
   have I5:=Ho I4 aZ;rw[xn k1']at I5;exact I5
 |_=>cases hg
end
end TG
namespace TG
open PySem PySem.Spec L2
variable[aY]
end TG
namespace TG
open PySem PySem.Spec L2
variable[aY]
end TG
namespace TG
open PySem PySem.Spec L2
variable[aY]
end TG
namespace TG
open PySem PySem.Spec PySem.Calls L2
variable[aY]
end TG
namespace TG
open PySem PySem.Spec L2
variable[aY]
theorem eD.setN{K:P5}{Hb:Hp}{Ob O O':List Q4}{H H':Hp}{ρ:aw}{σ:St}(S:eD K Hb Ob O H ρ σ){i:Nat}{d d':D}(hi:ρ[i]?=some (some (.nest d)))(sub:∀b∈O,b∈O')(s:bE (hid H O) (hid H' O'))(hb:Base Hb Ob H' O')(all:eA H' O')
  (keep:∀(j:Nat) xs b,ρ[j]?=some (some (.own xs))->σ[j]?=some (some (.ref b))->H b=H' b) (new:Am K Hb Ob O' H' (ρ.set i (some (.nest d'))) σ i d'):eD K Hb Ob O' H' (ρ.set i (some (.nest d'))) σ:=by
 have own:∀(j:Nat) xs,(ρ.set i (some (.nest d')))[j]?=some (some (.own xs))->ρ[j]?=some (some (.own xs)):=λj xs e=>by
  rcases bq e with⟨_,q⟩|⟨_,q⟩
  ·cases q
  ·exact q
 refine⟨⟨λj d1 e=>?_,λj xs e=>?_,λj l xs ys a e1 e2 e3 e4=>S.env.one j l xs ys a (own j xs e1) (own l ys e2) e3 e4,all⟩,hb,λj xs a e1 e2=>S.mine j xs a (own j xs e1) e2,λj dn e=>?_⟩
 ·rcases bq e with⟨_,q⟩|⟨_,q⟩
  ·cases q
  ·obtain⟨v,q1,q2⟩:=S.env.val j d1 q;exact⟨v,q1,q2.mono s⟩
 ·obtain⟨a,q1,q2,q3⟩:=S.env.own j xs (own j xs e);exact⟨a,q1,sub a q2,q3.mono (keep j xs a (own j xs e) q1) s⟩
 ·rcases bq e with⟨hj,q⟩|⟨ne,q⟩
  ·cases q;rw[hj];exact new
  ·obtain⟨_,_,_,_,_,_,one⟩:=S.nst i d hi;exact absurd (one j dn q) ne
def Ia:aw->Bool
 |[]=>true
 |some (.nest _)::_=>false
 |_::ρ=>Ia ρ
theorem oC:∀{ρ:aw},Ia ρ=true->∀(j:Nat) d,ρ[j]?≠some (some (.nest d))
 |[],_,j,d,e=>by simp at e
 |none::ρ,h,j,d,e=>by
  cases j with
  |zero=>simp at e
  |succ j=>exact oC (ρ:=ρ) h j d (by simpa using e)
 |some (.val _)::ρ,h,j,d,e=>by
  cases j with
  |zero=>simp at e
  |succ j=>exact oC (ρ:=ρ) h j d (by simpa using e)
 |some (.own _)::ρ,h,j,d,e=>by
  cases j with
  |zero=>simp at e
  |succ j=>exact oC (ρ:=ρ) h j d (by simpa using e)
 |some (.nest _)::ρ,h,j,d,e=>by cases h
theorem sR.den{K:P5}{H:Hp}{O O':List Q4}(s:bE (hid H O) (hid H O')):∀{bs:List Q4}{xs:List D},sR K H O bs xs->(∀b∈bs,b∉O')->bh K (hid H O') xs (bs.map .ref)
 |[],[],_,_=>df.mpr rfl
 |b::bs,x::xs,h,n=>bH.mpr ⟨_,_,rfl,h.1.den s (n b Nu),sR.den s h.2 λb' hb=>n b' (Nv _ hb)⟩
 |[],_::_,h,_=>h.elim
 |_::_,[],h,_=>h.elim
theorem sR.nil{K:P5}{H:Hp}{O:List Q4}{xs:List D}(h:sR K H O [] xs):xs=[]:=by
 cases xs with
 |nil=>rfl
 |cons _ _=>exact h.elim
theorem vn.den{K:P5}{H:Hp}{O O':List Q4}{a:Q4}{bs:List Q4}{d:D}(h:vn K H O a bs d)(s:bE (hid H O) (hid H O'))(n:∀b∈a::bs,b∉O'):cY K (hid H O') d (.ref a):=by
 obtain⟨xs,h1,h2⟩:=h;have g:=h1.den s λb hb=>n b (Nv _ hb);have na:=n a Nu;rcases h2 with⟨rfl,q⟩|⟨kvs,rfl,q,e⟩|⟨rfl,rfl,q⟩
 ·exact cT.mpr ⟨a,_,rfl,ot.of (by rw[jU na];exact q),g⟩
 ·exact J8.mpr ⟨a,_,rfl,g,.inr (.inl ⟨kvs,by rw[jU na];exact q,rfl,e.symm⟩)⟩
 ·have:=h1.nil
  subst this;exact J8.mpr ⟨a,_,rfl,g,.inl ⟨[],by rw[jU na];exact q,rfl,rfl⟩⟩
def frzN(i:Nat)(ρ:aw):aw:=match ρ[i]? with
 |some (some (.nest d))=>setV i d ρ
 |_=>ρ
theorem eD.frzN{K:P5}{Hb:Hp}{Ob O:List Q4}{H:Hp}{ρ:aw}{σ:St}(E:eD K Hb Ob O H ρ σ)(i:Nat):∃O',eD K Hb Ob O' H (frzN i ρ) σ:=by
 unfold TG.frzN;split
 ·rename_i d hd;obtain⟨a,bs,h1,h2,h3,h4,h5⟩:=E.nst i d hd;have sub:∀b∈O.filter (λb=>decide (b∉a::bs)),b∈O:=λb hb=>(List.mem_filter.mp hb).1;have s:bE (hid H O) (hid H (O.filter λb=>decide (b∉a::bs))):=js sub;have na:∀b∈a::bs,b∉O.filter λb=>decide (b∉a::bs):=λb hb z=>(of_decide_eq_true (List.mem_filter.mp z).2) hb;have bk:∀(l:Nat) x,(TG.setV i d ρ)[l]?=some (some x)->(∀d,x≠.val d)->ρ[l]?=some (some x):=λl x e nv=>by
   rcases bq e with⟨_,q⟩|⟨_,q⟩
   ·cases q;exact absurd rfl (nv _)
   ·exact q
  refine⟨O.filter λb=>decide (b∉a::bs),⟨λj d' e=>?_,λj xs e=>?_,λj l xs ys b e1 e2 e3 e4=>E.env.one j l xs ys b (bk j _ e1 (λ_ z=>nomatch z)) (bk l _ e2 (λ_ z=>nomatch z)) e3 e4,⟨E.env.all.1,λb hb=>E.env.all.2 b (sub b hb)⟩⟩,⟨E.base.same,λb hb=>?_,λb hb=>E.base.new b (sub b hb)⟩,λj xs b e1 e2=>E.mine j xs b (bk j _ e1 (λ_ z=>nomatch z)) e2,λj dn e=>?_⟩
  ·rcases bq e with⟨hj,q⟩|⟨ne,q⟩
   ·cases q;rw[hj];exact⟨.ref a,h1,h2.den s na⟩
   ·obtain⟨w,q1,q2⟩:=E.env.val j d' q;exact⟨w,q1,q2.mono s⟩
  ·obtain⟨b,q1,q2,q3⟩:=E.env.own j xs (bk j _ e (λ_ z=>nomatch z));refine⟨b,q1,List.mem_filter.mpr ⟨q2,decide_eq_true λz=>?_⟩,q3.mono rfl s⟩;exact(h4 b z).2.2.2 j xs (bk j _ e (λ_ z=>nomatch z)) q1
  ·exact List.mem_filter.mpr ⟨E.base.sub b hb,decide_eq_true λz=>(h4 b z).2.2.1 hb⟩
  ·have q:=bk j _ e (λ_ z=>nomatch z);have hj:=h5 j dn q;subst hj;rcases bq e with⟨_,q⟩|⟨ne,_⟩
   ·cases q
   ·exact absurd rfl ne
 ·exact⟨O,E⟩
def xo(i:Nat)(F:cG):cG:=λk ρ=>F k (frzN i ρ)
theorem IH{X:Cx}{st:List Rl}{F:cG}(i:Nat)(h:yo X st F):yo X st (xo i F):=λHb Ob=>BR.weak (h Hb Ob) λE σ H ⟨O,ρ,k,r,S,hF,hk⟩=>by
 obtain⟨O',S'⟩:=S.frzN i;exact⟨O',TG.frzN i ρ,k,r,S',hF,hk⟩
end TG
namespace TG
open PySem PySem.Spec L2
variable[aY]
theorem sR.imp{K:P5}{H H':Hp}{O O':List Q4}:∀{bs:List Q4}{xs:List D},sR K H O bs xs->(∀c∈bs,∀x,eQ K H O c x->eQ K H' O' c x)->sR K H' O' bs xs
 |[],[],_,_=>trivial
 |b::bs,x::xs,h,f=>⟨f b Nu x h.1,sR.imp h.2 λc hc=>f c (Nv _ hc)⟩
 |[],_::_,h,_=>h.elim
 |_::_,[],h,_=>h.elim
end TG
namespace TG
open PySem PySem.Spec L2
variable[aY]
abbrev Mf(al:List (List Key×D)):D:=.dct (.non::encK al) (al.map (·.2))
theorem yz{α β:Type}{R:α->β->Prop}:∀{xs:List α}{ys:List β},Q5 R xs ys->∀{i:Nat}{x:α},xs[i]?=some x->∃y,ys[i]?=some y/\R x y:=λh=>by
 induction h with
 |nil=>intro i x e;simp at e
 |cons hq _ ih=>
  intro i x e;cases i with
  |zero=>rw[OQ]at e;cases e;exact⟨_,rfl,hq⟩
  |succ i=>rw[OS]at e ⊢;exact ih e
theorem zQ{K:P5}{H:Hp}:∀q:List Key,bh K H (q.map bM) (q.map kV)
 |[]=>df.mpr rfl
 |k::q=>bH.mpr ⟨kV k,_,rfl,by cases k with|inl i=>exact fK.mpr rfl|inr x=>exact fM.mpr rfl,zQ q⟩
abbrev wy(p:List Key×D):D:=.tup [.tup (p.1.map bM),p.2]
theorem CG{K:P5}{H:Hp}{v:V}{al:List (List Key×D)}(h:cY K H (Mf al) v):∃a o kvs,v=.ref a/\H a=some (.frz o (.dT kvs))/\kvs.map (·.1)=al.map (·.1)/\bh K H (al.map (·.2)) (kvs.map (·.2)):=by
 obtain⟨a,vs,e0,h2,h3⟩:=J8.mp h;rcases h3 with⟨kvs,e,e1,e2⟩|⟨kvs,e,e1,e2⟩|⟨kvs,o,e,e1,e2⟩
 ·cases kvs with
  |nil=>cases e1
  |cons p r=>
   injection e1 with e1 _;rcases p with⟨k,v⟩
   cases k<;>cases e1
 ·cases kvs with
  |nil=>cases e1
  |cons p r=>injection e1 with e1 _;cases e1
 ·injection e1 with _ e1;subst e2;exact⟨a,o,kvs,e0,e,(oB (ks:=kvs.map (·.1)) (by rw[Ph];exact e1)).symm,h2⟩
end TG
namespace TG
open PySem PySem.Spec L2
section
variable{prog:Q3}{w:Q2}{A:Rc}{E:Q1->Rf->Prop}{s:Rf}{it d:Q4}{i ep:Nat}{o:Obj}{es:Array DictEntry}
theorem A1{Q:Q1->Rf->Prop}(hd:(d==sysModules)=false)(ho:s.heap.get? d=some o)(hx:o.ExactDict)(hdat:o.data=.dict es ep)
  (hQ:Q (.ref s.heap.objs.size) {s with heap:=s.heap.push {cls:=.type "dict_keyiterator",data:=.fields #[.ref d,.int 0 0,.int es.size 0,.int ep 0]}}):Rh (model prog w) A (pyIter (.ref d)) Q E s:=by
 have hT:s.TypeIs (.ref d) "dict":=⟨o,ho,hx.1⟩
 refine wpAny_pyIter_slot hT F.slot_dict_iter (RY F.slot_dict_iter hT F.entry_dict_iter ?_ (F.args_dict_iter_1 _));unfold Builtin.«dict.__iter__»;refine Rr ?_;unfold Builtin.Dict.dictSlotNone;refine Rr (wpAny_notOrdered_dict hT ?_);show Rh _ _ (pure (Value.ref d)) _ _ s;refine Rq ?_;show Rh _ _ (Builtin.Dict.showsAll d >>= _) _ _ s;unfold Builtin.Dict.showsAll;rw[if_neg (by rw[hd];exact NF)];refine Rr (Rq (Rr (SG ho hdat (Rr (SH ho hdat ?_)))));refine Rr (R3 (Rq ⟨_,rfl,"dict_keyiterator",_,⟨_,QC _ rfl,rfl⟩,F.slot_dict_keyiterator_next.lookup,?_⟩));simpa [rawInt]using hQ
theorem Bj{Q:Option Q1->Rf->Prop}(hit:s.heap.IsKeyIter it d i es.size ep)(hod:s.heap.get? d=some o)(hdd:o.data=.dict es ep)(hlt:i<es.size)
  (hQ:∀h',h'.IsKeyIter it d (i+1) es.size ep->QA it s.heap h'->Q (some es[i].key) {s with heap:=h'}):Rh (model prog w) A (pyNext (.ref it)) Q E s:=by
 obtain⟨oi,ho,hc,hd⟩:=id hit;unfold pyNext;refine Rr (Su (RX (name:=Str.ofString "__next__") hit.typeIs F.slot_dict_keyiterator_next (RY F.slot_dict_keyiterator_next hit.typeIs F.entry_dict_keyiterator_next ?_ (F.args_dict_keyiterator_next_1 _))));refine Rr (Rq (Rr (Rr ?_)));first|refine Rr (SJ hit.typeIs (Rq ?_))|refine Rr (SK hit.typeIs (Rq ?_))
 refine Rr (wpAny_fieldsOf ho hd ?_);have hown:Builtin.Dict_items.ownsTuple "dict_keyiterator"=false:=by decide
 simp only[hown,Oe,if_false];show Rh _ _ (if(Value.ref d==Value.none)=true then _ else _) _ _ s;rw[if_neg (show¬((Value.ref d==Value.none)=true)from NF)];refine Rr (Rq (Rr (SG hod hdd ?_)));rw[if_neg (by simp)];refine Rr (Rq (Rr (SH hod hdd ?_)));rw[if_neg (by simp)];refine Rq ?_;simp only[show¬((i:Int)<0)from by omega,if_false,NX,Array.getElem?_eq_getElem hlt];refine Rr ?_;first|refine Rr (SJ hit.typeIs (Rq ?_))|refine Rr (SK hit.typeIs (Rq ?_))
 refine Rr (wpAny_isOneOf_keyiter hit.typeIs ?_);show Rh _ _ (setField (.ref it) 1 (rawInt ((i:Int)+1)) >>= _) _ _ s;refine Rr (Sg ho hd (by simp) ?_);have hit':(s.heap.update it (Obj.mapFields (·.setIfInBounds 1 (rawInt ((i:Int)+1))))).IsKeyIter it d (i+1) es.size ep:=⟨_,QF _ ho (Obj.isFreed_of_fields (Obj.data_mapFields hd _)),(Obj.cls_mapFields ..).trans hc,by rw[Obj.data_mapFields hd];simp[rawInt]⟩
 refine Rr (RW (Rr (wpAny_isOneOf_keyiter (s:={s with heap:=s.heap.update it (Obj.mapFields (·.setIfInBounds 1 (rawInt ((i:Int)+1))))}) hit'.typeIs ?_)));show Rh _ _ (pure es[i].key) _ _ _;exact Rq (Rq ⟨_,rfl,Rq (hQ _ hit' (Heap.SameBut.update ..))⟩)
theorem Cd{Q:Option Q1->Rf->Prop}(hh:A.handled=none)(hit:s.heap.IsKeyIter it d i es.size ep)(hod:s.heap.get? d=some o)(hdd:o.data=.dict es ep)(hge:es.size<=i)(hQ:∀h',Heap.ExtBut it s.heap h'->Q none {s with heap:=h'}):Rh (model prog w) A (pyNext (.ref it)) Q E s:=by
 obtain⟨oi,ho,hc,hd⟩:=id hit;unfold pyNext;refine Rr (Su (RX (name:=Str.ofString "__next__") hit.typeIs F.slot_dict_keyiterator_next (RY F.slot_dict_keyiterator_next hit.typeIs F.entry_dict_keyiterator_next ?_ (F.args_dict_keyiterator_next_1 _))));refine Rr (Rq (Rr (Rr ?_)));first|refine Rr (SJ hit.typeIs (Rq ?_))|refine Rr (SK hit.typeIs (Rq ?_))
 refine Rr (wpAny_fieldsOf ho hd ?_);have hown:Builtin.Dict_items.ownsTuple "dict_keyiterator"=false:=by decide
 simp only[hown,Oe,if_false];show Rh _ _ (if(Value.ref d==Value.none)=true then _ else _) _ _ s;rw[if_neg (show¬((Value.ref d==Value.none)=true)from NF)];refine Rr (Rq (Rr (SG hod hdd ?_)));rw[if_neg (by simp)];refine Rr (Rq (Rr (SH hod hdd ?_)));rw[if_neg (by simp)];refine Rq ?_;simp only[show¬((i:Int)<0)from by omega,if_false,NX,Array.getElem?_eq_none hge];refine Rr ?_;first|refine Rr (SJ hit.typeIs (Rq ?_))|refine Rr (SK hit.typeIs (Rq ?_))
 show Rh _ _ (setField (.ref it) 0 .none >>= _) _ _ s;refine Rr (Sg ho hd (by simp) ?_);show Rh _ _ (newExc (.type "StopIteration") [] >>= _) _ _ _;refine Rr ?_;simp only[newExc,newTuple];refine Rr (R3 ?_ (by size_fits));refine Rr (m:=firstArgMember _ _) (wpAny_of_eq (a:=Value.none) (by first|rfl|(simp only[firstArgMember];rfl)) ?_);refine R3 ?_ (by size_fits);simp only[raiseNew];refine Rr (wpAny_handled ?_);rw[show A.in1.handled=none from hh];refine Rr (Rq (wpAny_throw ?_));refine Rr (Sv (T:="StopIteration") (b:=true) ⟨_,QC _ rfl,rfl⟩ isSubtype_stop ?_);exact Rq (hQ _ (((Heap.SameBut.update ..).extBut.push _).push _))
def Gs(d:Q4)(o:Obj)(es:Array DictEntry)(ep:Nat)(h:Q6):Prop:=h.get? d=some o/\o.ExactDict/\o.data=.dict es ep
theorem yu(hh:A.handled=none)(I:Q4)(hne:d≠I):Walks prog w A I [I,d] [I] es.size (λi v=>∃e,es[i]?=some e/\v=e.key) (λi h=>h.IsKeyIter I d i es.size ep/\Gs d o es ep h)where
 sub:=λb hb=>by simp at hb;simp[hb]
 frame:=λ_ _ _ st hk=>⟨st.1.at λo e=>hk I (by simp) o e,hk d (by simp) _ st.2.1,st.2.2⟩
 item:=λi s Q E hi st hQ=>Bj st.1 st.2.1 st.2.2.2 hi λh' hit' hs'=>hQ _ h' s.toks ⟨es[i],by simp[hi],rfl⟩ ⟨hit',(hs'.2 d hne).trans st.2.1,st.2.2⟩ λb o hb e=>hs'.extBut b o (λh=>hb (by simp[h])) e
 done:=λs Q E st hQ=>Cd hh st.1 st.2.1 st.2.2.2 (NB _) λh' he'=>hQ h' s.toks λb o hb e=>he' b o (λh=>hb (by simp[h])) e
 self:=λ_ _ _ _ st hQ=>wpAny_pyIter_keyiter st.1 hQ
theorem CD(lo:(d==sysModules)=false):PySem.W.KdlSrc prog w "dict" d d es.size (λi v=>∃e,es[i]?=some e/\v=e.key) (Gs d o es ep)where
 type:=λ_ hm=>⟨o,hm.1,hm.2.1.1⟩
 there:=λ_ hm=>⟨Qy hm.1,Qy hm.1⟩
 keep:=λ_ _ hm hk=>⟨hk d (.inl rfl) o hm.1,hm.2⟩
 notList:=by decide
 notTuple:=by decide
 hint:=λ_ _ _ _ hm hq=>PySem.W.kdl_hint_dict ⟨o,hm.1,hm.2.1.1⟩ hq
 iter:=λ_ _ hh hm=>⟨_,_,(λ_ _ hq=>A1 lo hm.1 hm.2.1 hm.2.2 hq),yu (ep:=ep) (o:=o) hh _ (Np (Qy hm.1)),⟨⟨_,QC _ rfl,rfl,rfl⟩,QB _ hm.1,hm.2⟩⟩
end
variable[aY]
def DX:List D->List D->Option (List (List Key×D))
 |.non::ks,ds=>qi ks ds
 |ks,ds=>qi ks ds
theorem Ab{K:P5}{H:Hp}{v:V}{ks ds:List D}{al:List (List Key×D)}(h:cY K H (.dct ks ds) v)(e:DX ks ds=some al):
  ∃a,v=.ref a/\((∃kvs:List (List Key×V),Rd H a (.dT kvs)/\kvs.map (·.1)=al.map (·.1)/\bh K H (al.map (·.2)) (kvs.map (·.2)))\/(H a=some (.dK [])/\al=[])):=by
 unfold DX at e;split at e
 ·obtain⟨f1,f2⟩:=o5 e;subst f1 f2;obtain⟨a,o,kvs,q1,q2,q3,q4⟩:=CG h;exact⟨a,q1,.inl ⟨kvs,.inr ⟨o,q2⟩,q3,q4⟩⟩
 ·obtain⟨f1,f2⟩:=o5 e;subst f1 f2;obtain⟨a,q1,q2⟩:=rP h;rcases q2 with⟨kvs,q2,q3⟩|q2
  ·exact⟨a,q1,.inl ⟨kvs,.inl q2,q3⟩⟩
  ·exact⟨a,q1,.inr q2⟩
section
variable{X:Cx}
def qf:List D->Option D
 |[.dct ks ds]=>(DX ks ds).bind λal=>some (.lst (encK al))
 |_=>none
theorem Dz{pins:List (Q4×Obj)}{σ:St}{H:Hp}{s:Rf}(I:Inv X pins σ H s){a:Q4}{kvs:List (List Key×V)}(e:Rd H a (.dT kvs)):kvs.length<=Q7/\(a==sysModules)=false/\∃o es ep,Gs a o es ep s.heap/\es.size=kvs.length/\∀(i:Nat) u,es[i]?=some u->∃b q,u.key=.ref b/\kvs[i]?.map (·.1)=some q/\H b=some (.tup (q.map kV)):=by
 obtain⟨z,hd,xs,rel,o,es,ep,h1,h2,h3,h4,_⟩:=ur I.hok e;have hl:es.size=kvs.length:=by rw[<-Array.length_toList,h4,NW];exact(Paired.length rel).symm
 refine⟨z,hd,o,es,ep,⟨h1,h2,h3⟩,hl,λi u eu=>?_⟩;have hi:i<kvs.length:=by
  have:=(Array.getElem?_eq_some_iff.mp eu).1
  omega
 obtain⟨x,ex,f1,f2,f3⟩:=yz rel (i:=i) (x:=kvs[i]) (by simp[hi])
 have:es.toList[i]?=some (entryOfKey (tupleKind (cW X.prog X.w)) x):=by rw[h4,NT,ex];rfl
 rw[Array.getElem?_toList,eu]at this;cases this;exact⟨x.2.1,kvs[i].1,rfl,by simp[hi],f2⟩
theorem yW(hc:X.calm=true):dW X (.type "list") (wC X.K qf):=by
 intro pins s σ H xs us Q I r ⟨O,ds,d,hO,hd,hg,q⟩;unfold qf at hg;split at hg
 ·rename_i ks vs0;cases hk:DX ks vs0 with
  |none=>rw[hk]at hg;cases hg
  |some al=>
   rw[hk]at hg;cases hg;obtain⟨v,ev,h1⟩:=hd.one;subst ev;obtain⟨a,ea,hh⟩:=Ab h1 hk;subst ea;obtain⟨u,rfl,ru⟩:=vals1 r;cases ru;have fin:∀(H0:Hp)(kvs:List (List Key×V)),Inv X pins σ H0 s->Rd H0 a (.dT kvs)->kvs.map (·.1)=al.map (·.1)->(∀b ys,H0 b=some (.tup ys)->H b=some (.tup ys))->Rh (model X.prog X.w) X.A (call (.type "list") [.ref a]) (EP X pins σ Q) X.xe s:=λH0 kvs I0 hr hk2 ht=>by
    obtain⟨z,hs,o,es,ep,raw,hsz,hkey⟩:=Dz I0 hr;have hl:al.length=kvs.length:=(by have:=congrArg List.length hk2;simpa using this.symm);refine Qu (CD hs) (I.ok.hd hc) raw (by rw[hsz];exact z) λh' tk acc' c' kp e2 it=>?_;have key:∃ws:List V,Vals ws acc'.toList/\bh X.K (hid H O) (encK al) ws:=by
     have hlen:acc'.toList.length=al.length:=(by rw[Array.length_toList,it.1,hsz,hl]);have each:∀(j:Nat)(u:Q1),acc'.toList[j]?=some u->∃b q,u=.ref b/\al[j]?.map (·.1)=some q/\H b=some (.tup (q.map kV)):=λj u e=>by
      obtain⟨en,e3,e4⟩:=it.2 j u (by rw[<-Array.getElem?_toList];exact e);obtain⟨b,q,w1,w2,w3⟩:=hkey j en e3;refine⟨b,q,by rw[e4,w1],?_,ht _ _ w3⟩
      have:=congrArg (λl=>l[j]?) hk2
      simp only[NT]at this;rw[<-this];exact w2
     clear it e2;generalize acc'.toList=us at hlen each;clear hk hl hk2 h1 hh q
     induction us generalizing al with
     |nil=>
      cases al with
      |nil=>exact⟨[],.nil,df.mpr rfl⟩
      |cons _ _=>cases hlen
     |cons u us ih=>
      cases al with
      |nil=>cases hlen
      |cons p al=>
       obtain⟨ws,w1,w2⟩:=ih (al:=al) (by simpa using hlen) λj u e=>by
        have:=each (j+1) u (by rw[OS];exact e)
        rw[OS]at this;exact this
       obtain⟨b,q,e1,e2,e3⟩:=each 0 u rfl;cases e2;have bO:b∉O:=λz=>by
        obtain⟨u',q1,q2⟩:=hO.2 b z;rw[e3]at q1;cases q1;exact q2
       exact⟨.ref b::ws,.cons (by rw[e1];rfl) w1,bH.mpr ⟨.ref b,ws,rfl,cV.mpr ⟨b,_,rfl,by rw[jU bO];exact e3,zQ p.1⟩,w2⟩⟩
    obtain⟨ws,rv,dn⟩:=key;have wl:ws.length<=Q7:=(by rw[<-dn.length,NW,hl];exact z);refine⟨.ref s.heap.objs.size,_,I.laid (t':=tk) kp (NB _) (show cS X.prog X.w _ h' _ (.lst ws)from⟨wl,acc'.toList,c',rv,by simpa using e2⟩),rfl,?_⟩;have hf:=I.hok.fresh (NB s.heap.objs.size);exact q _ _ (cm hf _) (dG hO hf dn)
   rcases hh with⟨kvs,hr,e1,_⟩|⟨hr,e1⟩
   ·refine fin H kvs I ?_ e1 λ_ _ z=>z;rcases hr with hr|⟨o,hr⟩
    ·exact .inl ((aI H O) _ _ hr)
    ·exact .inr ⟨o,(aI H O) _ _ hr⟩
   ·have ha:=(aI H O) _ _ hr;refine fin _ [] (Fb I ha) (.inl aZ) (by rw[e1];rfl) λb ys eb=>?_;by_cases z:b=a
    ·rw[z,aZ]at eb;cases eb
    ·rw[aR z]at eb;exact eb
 ·cases hg
end
end TG
namespace TG
open PySem PySem.Spec PySem.Calls L2
variable[aY]
def sF(dd k:D):Option D:=match dd with
 |.dct ks ds=>(DX ks ds).bind λal=>(jT k).bind λq=>pI al q
 |_=>none
theorem HD{H:Hp}{O:List Q4}{a:Q4}{u:HO}(h:Rd (hid H O) a u):Rd H a u:=by
 rcases h with h|⟨o,h⟩
 ·exact .inl ((aI H O) _ _ h)
 ·exact .inr ⟨o,(aI H O) _ _ h⟩
section
variable{X:Cx}
theorem L9{o e:Ri}{fo fk:FX}{pos:Pos}(hu:X.A.units+64<RH)(ho:FE X o fo)(hi:FE X e fk)(hs:E5 e):FE X (.Subscript o e pos) (f2 sF fo fk):=
 PE.weak (EY ‹0› ho hi hs) λσ H Q ⟨O,ρ,E,hF⟩=>⟨O,ρ,E,(jj.bind hF).imp λdd hF v H1 s1 d1=>⟨O,ρ,E.same s1,((jj.bind hF).mono s1).imp λk hF y H2 s2 d2=>by
  obtain⟨d,hg,q⟩:=jj.rO hF;cases dd with
  |dct ks ds=>
   have hg:(DX ks ds).bind (λal=>(jT k).bind λq=>pI al q)=some d:=hg;cases hk:DX ks ds with
   |none=>rw[hk]at hg;cases hg
   |some al=>
    rw[hk]at hg;cases ht:jT k with
    |none=>rw[ht]at hg;cases hg
    |some qk=>
     rw[ht]at hg;have hg:pI al qk=some d:=hg;obtain⟨a,ea,hh⟩:=Ab (d1.mono (cI s2)) hk;rw[oE ht]at d2;obtain⟨b,ws,eb,g1,g2⟩:=cV.mp d2;rw[jc g2]at g1;rcases hh with⟨kvs,hr,e1,e2⟩|⟨_,rfl⟩
     ·rcases x9 qk e1 e2 with⟨_,z2⟩|⟨w,d',z1,z2,z3⟩
      ·rw[z2]at hg;cases hg
      ·rw[z2]at hg;cases hg;exact⟨a,w,ea,by rw[<-z1];exact .inr ⟨kvs,qk,b,HD hr,eb,(aI H2 O) _ _ g1,rfl⟩,q w H2 (s1.trans s2) z3⟩
     ·cases hg
  |_=>cases hg⟩⟩
end
end TG
namespace L2
open PySem PySem.Spec PyProof.Rows
end L2
namespace TG
open PySem PySem.Spec L2
variable[aY]
end TG
namespace TG
open PySem PySem.Spec L2
variable[aY]
section
variable{K:P5}{Hb H:Hp}{Ob O:List Q4}{ρ:aw}{σ:St}
theorem eD.hide(E:eD K Hb Ob O H ρ σ){p:Q4}{o:HO}(m:tD o)(hp:H p=none):eD K Hb Ob (p::O) (upd H p o) ρ σ:=
 ⟨E.env.hideNew m hp,⟨E.base.same.trans (cm hp o),fun a ha=>Nv _ (E.base.sub a ha),fun a ha=>by
  rcases List.mem_cons.mp ha with z|z
  ·rw[z];exact .inr (E.base.same.free hp)
  ·exact E.base.new a z⟩,E.mine,λj d q=>(E.nst j d q).to rfl (rZ hp) (λb q1 q2 q3 q4 ⟨o',ho⟩=>⟨aR (bd ho hp),Nv _ q1,q2,q4⟩) λl d' w=>⟨d',w⟩⟩
theorem eD.new(E:eD K Hb Ob O H ρ σ){p:Q4}(hp:H p=none):Hb p=none/\p∉Ob/\∀(j:Nat) d',ρ[j]?=some (some (.own d'))->σ[j]?≠some (some (.ref p)):=by
 have pO:=E.env.all.not hp;refine⟨E.base.same.free hp,λz=>pO (E.base.sub p z),λj d' w z=>?_⟩;obtain⟨c,e1,e2,_⟩:=E.env.own j d' w;rw[z]at e1;cases e1;exact pO e2
theorem eD.setL(E:eD K Hb Ob O H ρ σ){i:Nat}(hi:i<σ.length)(hn:Ia ρ=true){p:Q4}{bs:List Q4}{d:D}(new:vn K H O p bs d)(nd:(p::bs).Nodup)(hb:∀b∈p::bs,b∈O/\Hb b=none/\b∉Ob/\∀(j:Nat) d',ρ[j]?=some (some (.own d'))->σ[j]?≠some (some (.ref b))):
  eD K Hb Ob O H (ρ.set i (some (.nest d))) (σ.set i (some (.ref p))):=by
 have key:∀(j:Nat)(x:S),(ρ.set i (some (.nest d)))[j]?=some (some x)->(j=i/\x=.nest d)\/(j≠i/\ρ[j]?=some (some x)/\(σ.set i (some (.ref p)))[j]?=σ[j]?):=λj x e=>by
  rcases bq e with⟨hj,q⟩|⟨ne,q⟩
  ·cases q;exact .inl ⟨hj,rfl⟩
  ·exact .inr ⟨ne,q,Ny (Ne.symm ne)⟩
 have own:∀(j:Nat) xs,(ρ.set i (some (.nest d)))[j]?=some (some (.own xs))->ρ[j]?=some (some (.own xs))/\(σ.set i (some (.ref p)))[j]?=σ[j]?:=λj xs e=>by
  rcases key j _ e with⟨_,q⟩|⟨_,q⟩
  ·cases q
  ·exact q
 refine⟨⟨λj d1 e=>?_,λj xs e=>?_,λj l xs ys a e1 e2 e3 e4=>?_,E.env.all⟩,E.base,λj xs a e1 e2=>?_,λj dn e=>?_⟩
 ·rcases key j _ e with⟨_,q⟩|⟨_,q,w⟩
  ·cases q
  ·rw[w];exact E.env.val j d1 q
 ·obtain⟨q,w⟩:=own j xs e;rw[w];exact E.env.own j xs q
 ·obtain⟨q1,w1⟩:=own j xs e1;obtain⟨q2,w2⟩:=own l ys e2;rw[w1]at e3;rw[w2]at e4;exact E.env.one j l xs ys a q1 q2 e3 e4
 ·obtain⟨q,w⟩:=own j xs e1;rw[w]at e2;exact E.mine j xs a q e2
 ·rcases key j _ e with⟨hj,q⟩|⟨_,q,_⟩
  ·cases q;subst hj;refine⟨p,bs,Nx hi,new,nd,λb h=>?_,λl d' w=>?_⟩
   ·obtain⟨w1,w2,w3,w4⟩:=hb b h;exact⟨w1,w2,w3,λl d' w=>by obtain⟨q,z⟩:=own l d' w;rw[z];exact w4 l d' q⟩
   ·rcases key l _ w with⟨hl,_⟩|⟨_,q,_⟩
    ·exact hl
    ·exact absurd q (oC hn l d')
  ·exact absurd q (oC hn j dn)
theorem yg:∀{bs:List Q4}{xs:List D}{c:Nat}{x:D},sR K H O bs xs->bs.Nodup->xs[c]?=some x->∃b,bs[c]?=some b/\eQ K H O b x/\∀(H':Hp)(O':List Q4)(x':D),(∀c'∈bs,c'≠b->∀z,eQ K H O c' z->eQ K H' O' c' z)->eQ K H' O' b x'->sR K H' O' bs (xs.set c x')
 |b::bs,y::xs,0,x,h,nd,e=>by
  cases e;exact⟨b,rfl,h.1,λH' O' x' f n=>⟨n,h.2.imp λc hc=>f c (Nv _ hc) λz=>(List.nodup_cons.mp nd).1 (by rw[<-z];exact hc)⟩⟩
 |b::bs,y::xs,c+1,x,h,nd,e=>by
  obtain⟨b',q1,q2,q3⟩:=yg h.2 (List.nodup_cons.mp nd).2 (show xs[c]?=some x from e);exact⟨b',q1,q2,λH' O' x' f n=>⟨f b Nu (λz=>(List.nodup_cons.mp nd).1 (by rw[z];exact NU q1)) _ h.1,q3 H' O' x' (λc' hc=>f c' (Nv _ hc)) n⟩⟩
 |[],_::_,_,_,h,_,_=>h.elim
 |[],[],_,_,_,_,e=>by simp at e
end
def pV(i:Nat):cG:=λk ρ=>if Ia ρ then k.nx (ρ.set i (some (.nest (.lst [.lst [],.lst []]))))else un
def qC(i c:Nat)(f:FX):cG:=λk ρ=>match ρ[i]? with
 |some (some (.nest (.lst xs)))=>(match xs[c]? with
  |some (.lst ys)=>(Ds (f ρ)).bind λv=>if small (ys.length+1)then k.nx (ρ.set i (some (.nest (.lst (xs.set c (.lst (ys++[v])))))))else un
  |_=>un)
 |_=>un
theorem zf{i c:Nat}{f:FX}{k:Ks}{ρ:aw}{r:R D}(h:qC i c f k ρ=r)(hr:r≠un):∃xs ys v,ρ[i]?=some (some (.nest (.lst xs)))/\xs[c]?=some (.lst ys)/\f ρ=.ok v/\small (ys.length+1)=true/\k.nx (ρ.set i (some (.nest (.lst (xs.set c (.lst (ys++[v])))))) )=r:=by
 unfold qC at h;split at h
 ·rename_i xs hi;split at h
  ·rename_i ys hc;cases e1:f ρ with
   |error z=>rw[e1]at h;exact absurd h.symm hr
   |ok v=>
    rw[e1]at h;have h:(if small (ys.length+1)then k.nx (ρ.set i (some (.nest (.lst (xs.set c (.lst (ys++[v])))))))else un)=r:=h;cases hs:small (ys.length+1)with
    |false=>rw[hs]at h;exact absurd h.symm hr
    |true=>rw[hs]at h;exact⟨xs,ys,v,hi,hc,rfl,hs,h⟩
  ·exact absurd h.symm hr
 ·exact absurd h.symm hr
section
variable{X:Cx}
theorem Jt{i:Nat}{x:Str}{l1 l2 l3 pos pos':Pos}(hN:X.N.Nodup)(hi:X.N[i]?=some x)(hx:Loc X.env.scope x)(hs:swapsWith (.List [.List [] l1,.List [] l2] l3) (some (.Name x pos')) pos.line X.env=pure false:=by rfl)(hf:X.fn x=true\/X.env.scope.names.lookup x=some .local:=by first|exact .inl rfl|exact .inr rfl|assumption):
  FS X (.Assign [.Name x pos'] (.List [.List [] l1,.List [] l2] l3) pos) (pV i):=λHb Ob pins s σ H E I ⟨O,ρ,k,r,S,hF,hk⟩=>by
 unfold pV at hF;cases hn:Ia ρ with
 |false=>rw[hn]at hF;exact absurd hF.symm hk.ne
 |true=>
  rw[hn]at hF;refine zo hN hi hx (sU (nc (sU qd) (nc (sU qd) qd))) hs hf pins s σ H E I ?_;refine⟨NK _,λp1 h1=>⟨NK _,λp2 h2=>⟨by show 2<=Q7;decide,λp hp=>?_⟩⟩⟩;have S1:=S.hide (o:=.lst []) trivial h1;have S2:=S1.hide (o:=.lst []) trivial h2;have S3:=S2.hide (o:=.lst [.ref p1,.ref p2]) trivial hp;obtain⟨a1,a2,a3⟩:=S.new h1;obtain⟨b1,b2,b3⟩:=S1.new h2;obtain⟨c1,c2,c3⟩:=S2.new hp;have n12:p1≠p2:=bd aZ h2;have n1:p1≠p:=bd (by rw[aR n12];exact aZ) hp;have n2:p2≠p:=bd aZ hp;refine hk.nx _ _ _ _ (S3.setL (by rw[I.len];exact(List.getElem?_eq_some_iff.mp hi).1) hn (bs:=[p1,p2]) ⟨[.lst [],.lst []],⟨⟨_,[],by rw[aR n1,aR n12];exact aZ,rfl,df.mpr rfl⟩,⟨_,[],by rw[aR n2];exact aZ,rfl,df.mpr rfl⟩,trivial⟩,.inl ⟨rfl,aZ⟩⟩ (by simp[n12,n1.symm,n2.symm]) λb hb=>?_) hF;rcases List.mem_cons.mp hb with z|hb
  ·rw[z];exact⟨Nu,c1,c2,c3⟩
  ·rcases List.mem_cons.mp hb with z|hb
   ·rw[z];exact⟨by simp,a1,a2,a3⟩
   ·rw[List.mem_singleton.mp hb];exact⟨by simp,b1,b2,b3⟩
theorem KA{i c:Nat}{ci:Int}{x:Str}{ve:Ri}{fv:FX}{j:Nat}{npos jpos spos ap cp pos:Pos}(hx:PE X (.Name x npos) (xI i))(hve:FE X ve fv)(hci:ci=(c:Int):=by rfl)(hpl:oy (.Constant (.int ci) j jpos):=by intro _ _;rfl)(hn2:noStar ve=true:=by rfl)
  (hb2:R6 (.Subscript (.Name x npos) (.Constant (.int ci) j jpos) spos) "append" X.env (eval (.Subscript (.Name x npos) (.Constant (.int ci) j jpos) spos) X.env)=eval (.Subscript (.Name x npos) (.Constant (.int ci) j jpos) spos) X.env:=by rfl)
  (hf2:((backTo cp (Rj [ve] X.env)).all (λx=>!x.1)&&(backToKw cp (RF [] X.env)).all (λx=>x.1.isSome)&&decide (([ve]:List Ri).length+([]:List R7).length+(if([]:List R7).isEmpty then 0 else 1)<30))=true:=by rfl)
  (hl2:(ap.endLine==cp.line)=true:=by rfl) (hp2:(backTo cp (Rj [] X.env)).any (·.1)=false:=by rfl)
  (hsw:swapsWith (.Call (.Attribute (.Subscript (.Name x npos) (.Constant (.int ci) j jpos) spos) "append" ap) [ve] [] cp) none pos.line X.env=pure false:=by rfl):
  FS X (.Expr (.Call (.Attribute (.Subscript (.Name x npos) (.Constant (.int ci) j jpos) spos) "append" ap) [ve] [] cp) pos) (qC i c fv):=λHb Ob pins s σ H E I ⟨O,ρ,k,rr,S,hF,hk⟩=>by
 obtain⟨xs,ys,v,hi,hxc,hfv,hsm,hnx⟩:=zf hF hk.ne;subst hci;obtain⟨a,bs,ha,⟨xs',hO,hat⟩,nd,hbs,one⟩:=S.nst i _ hi;obtain⟨rfl,hHa⟩:xs'=xs/\H a=some (.lst (bs.map .ref)):=by
  rcases hat with⟨e,q⟩|⟨_,e,_⟩|⟨e,_⟩
  ·cases e;exact⟨rfl,q⟩
  ·cases e
  ·cases e
 obtain⟨na,nb⟩:=List.nodup_cons.mp nd;obtain⟨aO,aHb,aOb,aS⟩:=hbs a Nu;obtain⟨l,hl,⟨o,wl,hl3,eo,dl⟩,new⟩:=yg hO nb hxc;subst eo;have lb:=NU hl;have la:l≠a:=λz=>na (by rw[<-z];exact lb);obtain⟨lO,lHb,lOb,lS⟩:=hbs l (Nv _ lb);refine zZ (FV F.plainAttrs_list F.slot_list_append F.type_list_append dQ (Gg zF hx Di hpl) (E9 hve GX hn2) hb2 hf2 hl2 (fH hn2) hp2) hsw pins s σ H E I ?_;refine⟨.ref a,ha,a,bs.map .ref,(c:Int),.ref l,rfl,rfl,ot.of hHa,DY (by rw[NT,hl];rfl),.inl ⟨rfl,wl,ot.of hl3⟩,O,ρ,S.env,?_⟩;have e1:(af fv av) ρ=.ok [v]:=by
  show(fv ρ).bind _=_;rw[hfv];rfl
 rw[e1];intro vs H4 s4 dv;obtain⟨y',rfl,dy⟩:=dv.one;have hl4:=s4 _ _ hl3;have sm5:bE (hid H O) (hid (upd H4 l (.lst (wl++[y']))) O):=(cI s4).trans (jR lO);have wlen:=dl.length;refine⟨l,wl,y',rfl,rfl,hl4,by rw[<-wlen];exact Nm (Nat.lt_of_succ_le (of_decide_eq_true hsm)) (by decide),hk.nx O _ σ _ (S.setN hi (λc hc=>hc) sm5 ⟨λc u h=>?_,S.base.sub,S.base.new⟩ ((S.env.all.same s4).upd lO trivial) (λj xs c w1 w2=>?_) ?_) hnx⟩
 ·have cl:c≠l:=λz=>by rw[z,lHb]at h;cases h
  rw[aR cl];exact s4 _ _ (S.base.same c u h)
 ·obtain⟨c',q1,q2,q3⟩:=S.env.own j xs w1;rw[w2]at q1;cases q1;obtain⟨o,ho⟩:=q3.some;have cl:c≠l:=λz=>lS j xs w1 (by rw[<-z];exact w2);rw[ho,aR cl];exact(s4 _ _ ho).symm
 ·have own:∀(j:Nat) d' d2,(ρ.set i (some (.nest d2)))[j]?=some (some (.own d'))->ρ[j]?=some (some (.own d')):=λj d' d2 w=>by
   rcases bq w with⟨_,z⟩|⟨_,z⟩
   ·cases z
   ·exact z
  refine⟨a,bs,ha,⟨_,new _ _ (.lst (ys++[v])) (λc hc ne x hx=>hx.mono ?_ sm5) ⟨_,_,aZ,rfl,?_⟩,.inl ⟨rfl,?_⟩⟩,nd,λc hc=>?_,λj d' w=>?_⟩
  ·obtain⟨o,ho⟩:=hx.some;rw[aR ne,ho,s4 _ _ ho]
  ·exact(dl.mono sm5).append (bH.mpr ⟨y',[],rfl,dy.mono (jR lO),df.mpr rfl⟩)
  ·rw[aR (Ne.symm la)];exact s4 _ _ hHa
  ·obtain⟨w1,w2,w3,w4⟩:=hbs c hc;exact⟨w1,w2,w3,λj d' w=>w4 j d' (own j d' _ w)⟩
  ·rcases bq w with⟨hj,_⟩|⟨_,z⟩
   ·exact hj
   ·exact one j d' z
end
end TG
namespace TX
open PySem PySem.Spec L2 TG
variable[aY]
structure XE(X:Cx)(e:Ri)(F:FX):Prop where h:FE X e F
structure XT(X:Cx)(e:Ri)(F:aw->R Bool):Prop where h:FT X e F
structure XW(X:Cx)(e:Ri)(F:aw->R Bool):Prop where h:FW X e F
structure XA(X:Cx)(e:List Ri)(F:aw->R (List D)):Prop where h:FA X e F
structure XS(X:Cx)(e:Rl)(F:cG):Prop where h:FS X e F
structure yU(X:Cx)(e:List Rl)(F:cG):Prop where h:yo X e F
structure XI(X:Cx)(t e:Ri)(F:aw->R (List D)):Prop where h:FI X t e F
structure XG(X:Cx)(e:Ri)(F:GF):Prop where h:FG X e F
structure KC(X:Cx)(e:List Ri)(F:BX):Prop where h:IG X e F
structure XO(X:Cx)(e:Option Ri)(F:aw->R (Option Int)):Prop where h:FO X e F
structure XN(X:Cx)(e:Ri)(F:FX):Prop where h:FN X e F
structure LO(X:Cx)(e:List Ri)(F:aw->R Bool):Prop where h:Ky X e F
structure XV(X:Cx)(e:Ri)(i:Nat):Prop where h:PE X e (xI i)
structure XB(X:Cx)(scope:Rg)(N:List Str)(tg elt:Ri)(ifs:List Ri)(g:GF)(C:aw->R Bool)(Fe:FX)(cl:List (Str×Q4))(C':Q4)(fp:List Q4)(s:Rf)(H:Hp)(E:Q1->Rf->Prop):Prop where
 a:XG (cP X scope N cl C' fp s H E) tg g
 b:LO (cP X scope N cl C' fp s H E) ifs C
 c:XE (cP X scope N cl C' fp s H E) elt Fe
structure G8(X:Cx)(scope:Rg)(N:List Str)(tg elt:Ri)(ifs:List Ri)(g:GF)(C:aw->R Bool)(Fe:FX):Prop where
 q:∀cl C' fp s H E,XB X scope N tg elt ifs g C Fe cl C' fp s H E
theorem G8.h{X:Cx}{scope:Rg}{N:List Str}{tg elt:Ri}{ifs:List Ri}{g:GF}{C:aw->R Bool}{Fe:FX}(x:G8 X scope N tg elt ifs g C Fe):J6 X scope N tg elt ifs g C Fe:=λcl C' fp s H E=>⟨(x.q cl C' fp s H E).a.h,(x.q cl C' fp s H E).b.h,(x.q cl C' fp s H E).c.h⟩
theorem xv{X:Cx}(i:Nat){x:Str}{pos:Pos}(hN:X.N[i]?=some x:=by rfl)(hv:HM X.env.scope x:=by first|exact Or.inl rfl|exact Or.inr (Or.inl rfl)|exact Or.inr (Or.inr rfl))(hd:(x==("__debug__":Str))=false:=by decide)
  (hcd:(x==("__classdict__":Str))=false:=by decide):XV X (.Name x pos) i:=⟨pv i hN hv hd hcd⟩
theorem Gj{X:Cx}{e:Ri}{f:aw->R Bool}(h:XW X e f):XT X e f:=⟨FW.ft h.h⟩
section
variable[aY]{X:Cx}
theorem ae{i:Nat}{x:Str}{pos:Pos}(h:XV X (.Name x pos) i):XE X (.Name x pos) (ai i):=⟨TG.LW h.h⟩
end
section
variable[aY]{X:Cx}
theorem ah{i j pos}:XE X (.Constant (.int i) j pos) (fC (.int i)):=⟨TG.Ma ⟩
end
section
variable[aY]{X:Cx}
theorem jw{b j pos}:XE X (.Constant (.bool b) j pos) (fC (.bl b)):=⟨TG.MF ⟩
end
section
variable[aY]{X:Cx}
theorem oA{j pos}:XE X (.Constant .none j pos) (fC .non):=⟨TG.Lv ⟩
end
section
variable[aY]{X:Cx}
theorem cE{x j pos}:XE X (.Constant (.str x) j pos) (fC (.str x)):=⟨TG.Lp ⟩
end
section
variable[aY]{X:Cx}
theorem aj:XA X [] av:=⟨TG.GX ⟩
end
section
variable[aY]{X:Cx}
theorem aa{e:Ri}{es:List Ri}{f:FX}{g:aw->R (List D)}(he:XE X e f)(hs:XA X es g)(hns:noStar e=true:=by rfl):XA X (e::es) (af f g):=⟨TG.E9 he.h hs.h hns⟩
end
section
variable[aY]{X:Cx}
theorem aN{es:List Ri}{g:aw->R (List D)}{k pos}(h:XA X es g):XE X (.Tuple es k pos) (bF g):=⟨TG.Le h.h⟩
end
section
variable[aY]{X:Cx}
theorem eN{es:List Ri}{g:aw->R (List D)}{pos}(h:XA X es g):XE X (.List es pos) (ie g):=⟨TG.L1 h.h⟩
end
section
variable[aY]{X:Cx}
theorem aq{a b:Ri}{op:Operator}{r:R2}{g:D->D->Option D}{fa fb:FX}{pos:Pos}(ho:lL X (Ry op) r)(s:eF X.K r g)(ha:XE X a fa)(hb:XE X b fb):XE X (.BinOp a op b pos) (f2 g fa fb):=⟨TG.K5 ho s ha.h hb.h⟩
end
section
variable[aY]{X:Cx}
theorem oD{a b:Ri}{op:CmpOp}{r:R2}{g:D->D->Option D}{fa fb:FX}{pos:Pos}(ho:lL X (Rz op) r)(s:eF X.K r g)(ha:XE X a fa)(hb:XE X b fb)(hm:RA op b=false):XE X (.Compare a [op] [b] pos) (f2 g fa fb):=⟨TG.Mz ho s ha.h hb.h hm⟩
end
section
variable[aY]{X:Cx}
theorem bu{a b:Ri}{op:CmpOp}{r:R2}{g:D->D->Option D}{fa fb:FX}{pos:Pos}(ho:lL X (Rz op) r)(s:eF X.K r g)(ha:XE X a fa)(hb:XE X b fb)(hm:RA op b=false):XT X (.Compare a [op] [b] pos) (fB (f2 g fa fb)):=⟨TG.Lw ho s ha.h hb.h hm⟩
end
section
variable[aY]{X:Cx}{a b c:Ri}{rest:List Ri}{pos:Pos}{f g:aw->R Bool}
theorem jJ(h:XT X a f):XT X (.UnaryOp .Not a pos) (sN f):=⟨TG.KW h.h⟩
end
section
variable[aY]{X:Cx}{a b c:Ri}{rest:List Ri}{pos:Pos}{f g:aw->R Bool}
theorem jF(h:XT X a f):XW X (.BoolOp .Or [a] pos) f:=⟨TG.Lg h.h⟩
end
section
variable[aY]{X:Cx}{a b c:Ri}{rest:List Ri}{pos:Pos}{f g:aw->R Bool}
theorem lW(ha:XT X a f)(hb:XW X (.BoolOp .Or (b::rest) pos) g):XW X (.BoolOp .Or (a::b::rest) pos) (BV f g):=⟨TG.MB ha.h hb.h⟩
end
section
variable[aY]{X:Cx}{a b c:Ri}{rest:List Ri}{pos:Pos}{f g:aw->R Bool}{fa fb:FX}
theorem q5{op}(h:XE X a fa):XE X (.BoolOp op [a] pos) fa:=⟨TG.My h.h⟩
end
section
variable[aY]{X:Cx}{a b c:Ri}{rest:List Ri}{pos:Pos}{f g:aw->R Bool}{fa fb:FX}
theorem o6(ha:XE X a fa)(hb:XE X (.BoolOp .And (b::rest) pos) fb):XE X (.BoolOp .And (a::b::rest) pos) (qA fa fb):=⟨TG.Mw ha.h hb.h⟩
end
section
variable[aY]{X:Cx}{a b c:Ri}{rest:List Ri}{pos:Pos}{f g:aw->R Bool}{fa fb:FX}
theorem Dw(hc:XT X c f)(ha:XE X a fa)(hb:XE X b fb):XE X (.IfExp c a b pos) (IX f fa fb):=⟨TG.MC hc.h ha.h hb.h⟩
end
section
variable[aY]{X:Cx}
theorem ay{a b:Ri}{fa fb:FX}{pos:Pos}(ha:XE X a fa)(hb:XE X b fb)(hs:oy b):XE X (.Subscript a b pos) (f2 aB fa fb):=⟨TG.MJ ha.h hb.h hs⟩
end
section
variable[aY]{X:Cx}
theorem cA:XO X none bc:=⟨TG.Kj ⟩
end
section
variable[aY]{X:Cx}
theorem cD{e:Ri}{f:FX}(h:XE X e f):XO X (some e) (ce f):=⟨TG.Kc h.h⟩
end
section
variable[aY]{X:Cx}
theorem bX{e:Ri}{f:FX}{l h:aw->R (Option Int)}{lo hi:Option Ri}{p2 pos:Pos}(he:XE X e f)(hl:XO X lo l)(hh:XO X hi h):XE X (.Subscript e (.Slice lo hi none p2) pos) (bD f l h):=⟨TG.Jz he.h hl.h hh.h⟩
end
section
variable[aY]{X:Cx}{x:Str}{p pos:Pos}{e:Ri}{es:List Ri}{id T:String}{g:List D->Option D}{f:aw->R (List D)}
theorem bp(hc:dW X (.builtin id) (wC X.K g))(hg:Gl X x)(hm:X.mg x=none)(hv:Rb x=some (.builtin id))(ha:XA X (e::es) f)(hn:x≠"__name__":=by decide)(hdb:(x==("__debug__":Str))=false:=by decide)(hns:(e::es).all noStar=true:=by rfl):XE X (.Call (.Name x p) (e::es) [] pos) (fL g f):=⟨TG.Jc hc hg hm hv ha.h hn hdb hns⟩
end
section
variable[aY]{X:Cx}{x:Str}{p pos:Pos}{e:Ri}{es:List Ri}{id T:String}{g:List D->Option D}{f:aw->R (List D)}
theorem bi(hc:dW X (.type T) (wC X.K g))(hg:Gl X x)(hm:X.mg x=none)(hv:Rb x=some (.type T))(ha:XA X (e::es) f)(hn:x≠"__name__":=by decide)(hdb:(x==("__debug__":Str))=false:=by decide)(hns:(e::es).all noStar=true:=by rfl):XE X (.Call (.Name x p) (e::es) [] pos) (fL g f):=⟨TG.Ie hc hg hm hv ha.h hn hdb hns⟩
end
section
variable[aY]{X:Cx}{x:Str}{p pos:Pos}{e:Ri}{es:List Ri}{id T:String}{g:List D->Option D}{f:aw->R (List D)}
theorem iQ{f:FX}{xT:Str}{p2:Pos}(ok:xi X.K T)(hg:Gl X "isinstance")(hm:X.mg "isinstance"=none)(hgT:Gl X xT)(hmT:X.mg xT=none)(hvT:Rb xT=some (.type T))(he:XE X e f)(hn2:xT≠"__name__":=by decide)(hd2:(xT==("__debug__":Str))=false:=by decide)(hns:noStar e=true:=by rfl):XE X (.Call (.Name "isinstance" p) [e,.Name xT p2] [] pos) (qL T f):=⟨TG.K3 ok hg hm hgT hmT hvT he.h hn2 hd2 hns⟩
end
section
variable[aY]{X:Cx}{a:Ri}{f:FX}{pos:Pos}
theorem cU(h:XE X a f)(he:∀whole,isTrue a X.env whole=(do let v<-whole;standAt a.pos;holding [v] (truthy v)):=by intro _;rfl):XT X a (eS f):=⟨TG.JI h.h he⟩
end
section
variable[aY]{X:Cx}{tg:Ri}
theorem cF{e:Ri}{f:FX}(h:XE X e f):XI X tg e (bK f):=⟨TG.LX h.h⟩
end
section
variable[aY]{X:Cx}{tg:Ri}
theorem jh{a:Ri}{f:aw->R (List D)}{p pos:Pos}(hg:Gl X "range")(hm:X.mg "range"=none)(ha:XA X [a] f)(hs:Rj [a] X.env=[(false,eval a X.env)]:=by rfl):XI X tg (.Call (.Name "range" p) [a] [] pos) (iw f):=⟨TG.HY hg hm ha.h hs⟩
end
section
variable[aY]{X:Cx}{tg:Ri}
theorem yO{a b:Ri}{f:aw->R (List D)}{p pos:Pos}(hg:Gl X "range")(hm:X.mg "range"=none)(ha:XA X [a,b] f)(hs:Rj [a,b] X.env=[(false,eval a X.env),(false,eval b X.env)]:=by rfl)(hs2:Rj [b] X.env=[(false,eval b X.env)]:=by rfl):XI X tg (.Call (.Name "range" p) [a,b] [] pos) (qV f):=⟨TG.Ib hg hm ha.h hs hs2⟩
end
section
variable[aY]{X:Cx}{pos:Pos}
theorem aL{i:Nat}{x:Str}(hN:X.N.Nodup)(hi:X.N[i]?=some x)(hx:Loc X.env.scope x)(hf:X.fn x=true\/X.env.scope.names.lookup x=some .local:=by first|exact .inl rfl|exact .inr rfl|assumption):XG X (.Name x pos) (gN i):=⟨TG.Kx hN hi hx hf⟩
end
section
variable[aY]{X:Cx}{pos:Pos}
theorem fZ:KC X [] Cw:=⟨TG.Ke ⟩
end
section
variable[aY]{X:Cx}{pos:Pos}
theorem cu{e:Ri}{es:List Ri}{g:GF}{h:BX}(h1:XG X e g)(h2:KC X es h)(hs:(assignEach (e::es) X.env).map (·.2)=assign e X.env::(assignEach es X.env).map (·.2):=by rfl):KC X (e::es) (zc g h):=⟨TG.Ir h1.h h2.h hs⟩
end
section
variable[aY]{X:Cx}{pos:Pos}
theorem iY{es:List Ri}{k:Nat}{g:BX}{n:Nat}(hc:X.calm=true)(h:KC X es g)(hn:(assignEach es X.env).length=n:=by rfl)(hst:(assignEach es X.env).findIdx? (·.1)=none:=by rfl):XG X (.Tuple es k pos) (gT n g):=⟨TG.Md hc h.h hn hst⟩
end
section
variable[aY]
theorem de{X:Cx}:LO X [] dA:=⟨TG.Kt ⟩
end
section
variable[aY]
theorem iy{X:Cx}{c:Ri}{F:aw->R Bool}(h:XT X c F):LO X [c] F:=⟨TG.Kl h.h⟩
end
section
variable[aY]{X:Cx}{elt tg iter:Ri}{ifs:List Ri}{scope:Rg}{pos:Pos}{N:List Str}{ix:List (Option Nat)}{G:aw->R (List D)}{g:GF}{C:aw->R Bool}{Fe:FX}
theorem dJ(hc:X.calm=true)(ok:oI X scope N ix)(tk:xQ ix g)(hi:XI X tg iter G)(hb:G8 X scope N tg elt ifs g C Fe)(hs:∀x,Rv iter X.env x=pure x:=by intro _;rfl):XE X (.ListComp elt [⟨tg,iter,ifs,0⟩] scope pos) (jy ix G g C Fe):=⟨TG.MS hc ok tk hi.h hb.h hs⟩
end
section
variable[aY]{X:Cx}{st:Rl}{rest body:List Rl}{pos:Pos}
theorem aM:yU X [] cB:=⟨TG.Kg ⟩
end
section
variable[aY]{X:Cx}{st:Rl}{rest body:List Rl}{pos:Pos}
theorem ao{F1 F2:cG}(h1:XS X st F1)(h2:yU X rest F2):yU X (st::rest) (aH F1 F2):=⟨TG.Jb h1.h h2.h⟩
end
section
variable[aY]{X:Cx}{st:Rl}{rest body:List Rl}{pos:Pos}
theorem az{F1:cG}(h1:XS X st F1):yU X [st] F1:=⟨TG.Km h1.h⟩
end
section
variable[aY]{X:Cx}{st:Rl}{rest body:List Rl}{pos:Pos}
theorem aK{e:Ri}{f:FX}(h:XE X e f):XS X (.Return (some e) pos) (bP f):=⟨TG.KJ h.h⟩
end
section
variable[aY]{X:Cx}{st:Rl}{rest body:List Rl}{pos:Pos}
theorem bW{c:Ri}{a b:List Rl}{tc:aw->R Bool}{A B:cG}(hc:XT X c tc)(ha:yU X a A)(hb:yU X b B):XS X (.If c a b pos) (jx tc A B):=⟨TG.MH hc.h ha.h hb.h⟩
end
section
variable[aY]{X:Cx}{st:Rl}{rest body:List Rl}{pos:Pos}
theorem aC{i:Nat}{x:Str}{e:Ri}{f:FX}{pos':Pos}(hN:X.N.Nodup)(hi:X.N[i]?=some x)(hx:Loc X.env.scope x)(he:XE X e f)(hs:swapsWith e (some (.Name x pos')) pos.line X.env=pure false:=by rfl)(hf:X.fn x=true\/X.env.scope.names.lookup x=some .local:=by first|exact .inl rfl|exact .inr rfl|assumption):XS X (.Assign [.Name x pos'] e pos) (bI i f):=⟨TG.Mr hN hi hx he.h hs hf⟩
end
section
variable[aY]{X:Cx}{st:Rl}{rest body:List Rl}{pos:Pos}
theorem yM{elt tg iter:Ri}{ifs:List Ri}{scope:Rg}{N:List Str}{ix:List (Option Nat)}{G:aw->R (List D)}{g:GF}{C:aw->R Bool}{Fe:FX}{i:Nat}{y:Str}{lpos py spos:Pos}(hN:X.N.Nodup)(hi':X.N[i]?=some y)(hx:Loc X.env.scope y)(hc:X.calm=true)(ok:oI X scope N ix)(tk:xQ ix g)(hi:XI X tg iter G)(hb:G8 X scope N tg elt ifs g C Fe)(hsw:swapsWith (.ListComp elt [⟨tg,iter,ifs,0⟩] scope lpos) (some (.Name y py)) spos.line X.env=pure true:=by rfl)(hs:∀x,Rv iter X.env x=pure x:=by intro _;rfl)(hf:X.fn y=true\/X.env.scope.names.lookup y=some .local:=by first|exact .inl rfl|exact .inr rfl|assumption):XS X (.Assign [.Name y py] (.ListComp elt [⟨tg,iter,ifs,0⟩] scope lpos) spos) (bI i (jy ix G g C Fe)):=⟨TG.MG hN hi' hx hc ok tk hi.h hb.h hsw hs hf⟩
end
section
variable[aY]{X:Cx}{st:Rl}{rest body:List Rl}{pos:Pos}
theorem Fj{tg e:Ri}{f:FX}{g:GF}(he:XE X e f)(hg:XG X tg g)(hs:swapsWithSole [tg] e pos.line X.env=pure false:=by rfl)(hw:swappedStores [tg] e X.env=pure none:=by rfl)(h1:(assignEach [tg] X.env).map (·.2)=[assign tg X.env]:=by rfl):XS X (.Assign [tg] e pos) (EF f g):=⟨TG.Lc he.h hg.h hs hw h1⟩
end
section
variable[aY]{X:Cx}{st:Rl}{rest body:List Rl}{pos:Pos}
theorem lQ:XS X st si:=⟨TG.J9 ⟩
end
section
variable[aY]{X:Cx}{st:Rl}{rest body:List Rl}{pos:Pos}
theorem cK{st:List Rl}{F:cG}(is:List Nat)(h:yU X st F):yU X st (eP is F):=⟨TG.Iu is h.h⟩
end
section
variable[aY]{X:Cx}{st:Rl}{rest body:List Rl}{pos:Pos}
theorem e6{tg iter:Ri}{G:aw->R (List D)}{g:GF}{B:cG}(hp:Ru (model X.prog X.w) X.A X.env X.xe)(hc:X.calm=true)(hi:XI X tg iter G)(hg:XG X tg g)(hb:yU X body B)(hs:∀x,Rv iter X.env x=pure x:=by intro _;rfl):XS X (.For tg iter body [] pos) (lu G g B):=⟨TG.LR hp hc hi.h hg.h hb.h hs⟩
end
section
variable[aY]{X:Cx}{pos:Pos}
theorem jO{es:List Ri}{g:aw->R (List D)}(h:XA X es g):XN X (.List es pos) (ie g):=⟨TG.K4 h.h⟩
end
section
variable[aY]{X:Cx}{pos:Pos}
theorem o7:XN X (.Dict [] [] pos) vk:=⟨TG.IW ⟩
end
section
variable[aY]{X:Cx}{pos:Pos}
theorem gr{i:Nat}{x:Str}{e:Ri}{f:FX}{pos':Pos}(hN:X.N.Nodup)(hi:X.N[i]?=some x)(hx:Loc X.env.scope x)(he:XN X e f)(hs:swapsWith e (some (.Name x pos')) pos.line X.env=pure false:=by rfl)(hf:X.fn x=true\/X.env.scope.names.lookup x=some .local:=by first|exact .inl rfl|exact .inr rfl|assumption):XS X (.Assign [.Name x pos'] e pos) (nZ i f):=⟨TG.Li hN hi hx he.h hs hf⟩
end
section
variable[aY]
theorem kF{X : Cx}{i : Nat}{x m : Str}{id : String}{r : V -> List V -> Hp -> VK -> Prop}{u : List D -> List D -> Option (List D)}{e : Ri}{es : List Ri}{f : aw -> R (List D)}{npos apos cpos pos : Pos}(slot : Slot "list" m id)(hty : typeOf (.builtin id) = pure (.type "method_descriptor"))(hm : Mk X id r)(ok : CJ X.K r u)(hx : XV X (.Name x npos) i)(he : XA X (e :: es) f)(hbase : R6 (.Name x npos) m X.env (eval (.Name x npos) X.env) = eval (.Name x npos) X.env := by rfl)(hfew : ((backTo cpos (Rj (e :: es) X.env)).all (fun x => !x.1) && (backToKw cpos (RF [] X.env)).all (fun x => x.1.isSome)
      && decide ((e::es:List Ri).length+([]:List R7).length+(if([]:List R7).isEmpty then 0 else 1)<30))=true:=by rfl)(hline:(apos.endLine==cpos.line)=true:=by rfl)(hs:Rj (e::es) X.env=(false,eval e X.env)::Rj es X.env:=by rfl)(hplain:(backTo cpos (Rj es X.env)).any (·.1)=false:=by rfl)(hsw:swapsWith (.Call (.Attribute (.Name x npos) m apos) (e::es) [] cpos) none pos.line X.env=pure false:=by rfl):XS X (.Expr (.Call (.Attribute (.Name x npos) m apos) (e::es) [] cpos) pos) (ym i u f):=⟨TG.MP slot hty hm ok hx.h he.h hbase hfew hline hs hplain hsw⟩
end
section
variable[aY]
theorem eY{X:Cx}{st:List Rl}{F:cG}(i:Nat)(h:yU X st F):yU X st (iN i F):=⟨TG.Kf i h.h⟩
end
section
variable[aY]
theorem wW{X:Cx}{e:Ri}{f:aw->R Bool}(is:List Nat)(h:XT X e f):XT X e (mi is f):=⟨TG.Kq is h.h⟩
end
section
variable[aY]
theorem ax{X:Cx}{k k':Nat}{ps:List Str}{g:List D->R D}{h:aw->R (List D)}{x:Str}{p pos:Pos}{e:Ri}{es:List Ri}(C:Callee X.prog X.w X.K X.mg X.base k x ps g)(hn:Ar ps.length g)(hr:iz k' X.A)(hk:k<=k')(ha:XA X (e::es) h)(hg:Gl X x:=by rfl)(hdb:(x==("__debug__":Str))=false:=by decide)(hns:(e::es).all noStar=true:=by rfl):XE X (.Call (.Name x p) (e::es) [] pos) (fR g h):=⟨TG.Ic C hn hr hk ha.h hg hdb hns⟩
end
section
variable[aY]{X:Cx}{a b c:Ri}{fa fb fc:FX}{pos:Pos}
theorem zK(ha:XE X a fa):XE X (.UnaryOp .USub a pos) (Cz fa):=⟨TG.Ml ha.h⟩
end
section
variable[aY]{X:Cx}{a b c:Ri}{fa fb fc:FX}{pos:Pos}
theorem Dd{x:Str}{i:Int}(hg:Gl X x)(hm:∃t,X.mg x=some (.int i t))(hd:(x==("__debug__":Str))=false:=by decide):XE X (.Name x pos) (fC (.int i)):=⟨TG.Kw hg hm hd⟩
end
section
variable[aY]{X:Cx}
theorem oJ{a b:Ri}{es:List Ri}{k:Nat}{tpos:Pos}{f:aw->R (List D)}{p pos:Pos}(hg:Gl X "zip")(hm:X.mg "zip"=none)(ha:XA X [a,b] f)(hs:Rj [a,b] X.env=(false,eval a X.env)::Rj [b] X.env:=by rfl)(hpl:(backTo pos (Rj [b] X.env)).any (·.1)=false:=by rfl):XI X (.Tuple es k tpos) (.Call (.Name "zip" p) [a,b] [] pos) (wo f):=⟨TG.KY hg hm ha.h hs hpl⟩
end
section
variable[aY]{X:Cx}
theorem nS{a:Ri}{es:List Ri}{k:Nat}{tpos:Pos}{f:aw->R (List D)}{p pos:Pos}(hg:Gl X "enumerate")(hm:X.mg "enumerate"=none)(ha:XA X [a] f)(hs:Rj [a] X.env=(false,eval a X.env)::Rj [] X.env:=by rfl)(hpl:(backTo pos (Rj [] X.env)).any (·.1)=false:=by rfl):XI X (.Tuple es k tpos) (.Call (.Name "enumerate" p) [a] [] pos) (gO f):=⟨TG.Es hg hm ha.h hs hpl⟩
end
section
variable[aY]{X:Cx}{a o e:Ri}{es:List Ri}{fa fo:FX}{fas:aw->R (List D)}{f m x:Str}{cs:List Str}{pos apos p:Pos}{k k':Nat}{ps:List Str}
theorem gI{tbl : List (Str × (List D -> R D))}{pl : Sem Bool}(tb : fU X.prog X.w X.K X.mg X.base k m ps tbl)(hr : iz k' X.A)(hk : k <= k')(ho : XE X o fo)(ha : XA X (e :: es) fas)(hns : (e :: es).all noStar = true := by rfl)(ht : eval (.Call (.Attribute o m apos) (e :: es) [] pos) X.env = (do
      let ov<-eval o X.env
      standAt apos.atName
      let (f,first)<-holding [ov] (getMethod ov m pl)
      RE pos f first (backTo pos (Rj (e::es) X.env)) (backToKw pos (RF [] X.env))):=by rfl):XE X (.Call (.Attribute o m apos) (e::es) [] pos) (eB m tbl fo fas):=⟨TG.Kv tb hr hk ho.h ha.h hns ht⟩
end
section
variable[aY]{X:Cx}{a o e:Ri}{es:List Ri}{fa fo:FX}{fas:aw->R (List D)}{f m x:Str}{cs:List Str}{pos apos p:Pos}{k k':Nat}{ps:List Str}
theorem BH{tbl : List (Str × (List D -> R D))}{pl : Sem Bool}(tb : fU X.prog X.w X.K X.mg X.base k m ps tbl)(hr : iz k' X.A)(hk : k <= k')(ho : XE X o fo)(ht : eval (.Call (.Attribute o m apos) [] [] pos) X.env = (do
      let ov<-eval o X.env
      standAt apos.atName
      let (f,first)<-holding [ov] (getMethod ov m pl)
      RE pos f first (backTo pos (Rj [] X.env)) (backToKw pos (RF [] X.env))):=by rfl):XE X (.Call (.Attribute o m apos) [] [] pos) (eB m tbl fo av):=⟨TG.JC tb hr hk ho.h ht⟩
end
section
variable[aY]{X:Cx}{C:Q4}{pins:List (Q4×Obj)}{σ:St}{H:Hp}{s:Rf}{Q:VK}
theorem Dt{c:Str}{p pos:Pos}(NA:zH X.K X.mg c)(hg:Gl X c)(hdb:(c==("__debug__":Str))=false:=by decide):XE X (.Call (.Name c p) [] [] pos) (fC (.obj c [] [])):=⟨TG.Kh NA hg hdb⟩
end
section
variable[aY]
theorem Dl{X:Cx}{i:Nat}{x:Str}{idx value:Ri}{fk fv:FX}{npos tpos pos:Pos}(hu:X.A.units+64<RH)(hx:XV X (.Name x npos) i)(hi:XE X idx fk)(hv:XE X value fv)(hs:swapsWith value (some (.Subscript (.Name x npos) idx tpos)) pos.line X.env=pure false:=by rfl):XS X (.Assign [.Subscript (.Name x npos) idx tpos] value pos) (uS i fk fv):=⟨TG.Ka hu hx.h hi.h hv.h hs⟩
end
section
variable[aY]{X:Cx}{pins:List (Q4×Obj)}{s:Rf}{σ:L2.St}{H:Hp}{O:List Q4}
theorem Bu{f:FX}{j:Nat}{k:Nat}{c P cc:Q4}{e:Ri}{p lpos kp pos np mp p2 spos:Pos}{row many:Str}{params:RM}{scope:Rg}(hr:iz k X.A)(hg:Gl X "sorted")(hm:X.mg "sorted"=none)(B:BP X.mg X.base c P)(hcode:X.env.code=.ref c)(hT:∀H,aY.tab H->H P=some (.ext (oK P lpos (X.env.qual++"<lambda>"))))(he:XE X e f)(hN:X.N[j]?=some many)(hkm:X.env.kindOf many=some .cell)(hv:HM X.env.scope many)(hcc:X.env.cells.lookup many=some cc)(hcl:closureFor scope X.env=pure [(many,cc)])(hdef:defaultsOf params X.env=([],[]))(hbind:∀cdv ctv v,bindArgs (Qs "<lambda>" (X.env.qual++"<lambda>") params (cutE row many np mp p2 spos) scope [(many,cc)] ((X.mg "__name__").getD .none) cdv ctv) ⟨[v],[]⟩=pure [(row,v)])(hco:scope.isCoroutine=false)(hgen:scope.isGenerator=false)(hk:scope.kind=.function)(hno:∀x∈scope.names,x.2≠.cell)(hlr:scope.names.lookup row=some .local)(hlm:scope.names.lookup many=some .free)(d1:(row==("__debug__":Str))=false)(d2:(many==("__debug__":Str))=false)(d3:(many==("__classdict__":Str))=false)(hns:noStar e=true:=by rfl):XE X (.Call (.Name "sorted" p) [e] [⟨some "key",.Lambda params (cutE row many np mp p2 spos) scope lpos,kp⟩] pos) (f2 qj f (ai j)):=⟨TG.JL hr hg hm B hcode hT he.h hN hkm hv hcc hcl hdef hbind hco hgen hk hno hlr hlm d1 d2 d3 hns⟩
end
section
variable[aY]
theorem rY{X:Cx}{i:Nat}{x:Str}{idx value:Ri}{fk fv:FX}{npos tpos pos:Pos}(hu:X.A.units+64<RH)(hx:XV X (.Name x npos) i)(hi:XE X idx fk)(hv:XE X value fv)(hs:swapsWith value (some (.Subscript (.Name x npos) idx tpos)) pos.line X.env=pure false:=by rfl):XS X (.Assign [.Subscript (.Name x npos) idx tpos] value pos) (nT i fk fv):=⟨TG.Kr hu hx.h hi.h hv.h hs⟩
end
section
variable[aY]
theorem By{X:Cx}{st:List Rl}{F:cG}(i:Nat)(h:yU X st F):yU X st (xo i F):=⟨TG.IH i h.h⟩
end
section
variable[aY]{X:Cx}
theorem An{o e:Ri}{fo fk:FX}{pos:Pos}(hu:X.A.units+64<RH)(ho:XE X o fo)(hi:XE X e fk)(hs:E5 e):XE X (.Subscript o e pos) (f2 sF fo fk):=⟨TG.L9 hu ho.h hi.h hs⟩
end
section
variable[aY]{X:Cx}
theorem BG{i:Nat}{x:Str}{l1 l2 l3 pos pos':Pos}(hN:X.N.Nodup)(hi:X.N[i]?=some x)(hx:Loc X.env.scope x)(hs:swapsWith (.List [.List [] l1,.List [] l2] l3) (some (.Name x pos')) pos.line X.env=pure false:=by rfl)(hf:X.fn x=true\/X.env.scope.names.lookup x=some .local:=by first|exact .inl rfl|exact .inr rfl|assumption):XS X (.Assign [.Name x pos'] (.List [.List [] l1,.List [] l2] l3) pos) (pV i):=⟨TG.Jt hN hi hx hs hf⟩
end
section
variable[aY]{X:Cx}
theorem xE{i c:Nat}{ci:Int}{x:Str}{ve:Ri}{fv:FX}{j:Nat}{npos jpos spos ap cp pos:Pos}(hx:XV X (.Name x npos) i)(hve:XE X ve fv)(hci:ci=(c:Int):=by rfl)(hpl:oy (.Constant (.int ci) j jpos):=by intro _ _;rfl)(hn2:noStar ve=true:=by rfl)(hb2:R6 (.Subscript (.Name x npos) (.Constant (.int ci) j jpos) spos) "append" X.env (eval (.Subscript (.Name x npos) (.Constant (.int ci) j jpos) spos) X.env)=eval (.Subscript (.Name x npos) (.Constant (.int ci) j jpos) spos) X.env:=by rfl)(hf2:((backTo cp (Rj [ve] X.env)).all (λx=>!x.1)&&(backToKw cp (RF [] X.env)).all (λx=>x.1.isSome)&&decide (([ve]:List Ri).length+([]:List R7).length+(if([]:List R7).isEmpty then 0 else 1)<30))=true:=by rfl)(hl2:(ap.endLine==cp.line)=true:=by rfl)(hp2:(backTo cp (Rj [] X.env)).any (·.1)=false:=by rfl)(hsw:swapsWith (.Call (.Attribute (.Subscript (.Name x npos) (.Constant (.int ci) j jpos) spos) "append" ap) [ve] [] cp) none pos.line X.env=pure false:=by rfl):XS X (.Expr (.Call (.Attribute (.Subscript (.Name x npos) (.Constant (.int ci) j jpos) spos) "append" ap) [ve] [] cp) pos) (qC i c fv):=⟨TG.KA hx.h hve.h hci hpl hn2 hb2 hf2 hl2 hp2 hsw⟩
end
abbrev Lk(K:P5)(f:Q4)(nm qual:Str)(st:Rl)(oc:Q1)(od:Option Q4)(kV dc pm:Q1)(an:Option Q4)(cd ct:Q1)(sl:Array (Option Q1)):Prop:=K.lookup f=some ⟨oc,od,.func (Qj nm qual (mY st) (gK st) (aA st) .none kV dc pm an cd ct),sl⟩
structure cN(P:Q3)(w:Q2)(K:P5)(mg:Str->Option Q1)(base:Q6)(k:Nat)(N:List Str)(qual:Str)(st:Rl)(f:Q4)(B:cG):Prop where
 h:∀(cdv:Q1)(A:Rc)(outer:List Env)(s:Rf)(H:Hp)(E:XK),iz k (A.deeper (QL qual (aA st) s.heap.objs.size f cdv))->Ru (model P w) (A.deeper (QL qual (aA st) s.heap.objs.size f cdv)) (QL qual (aA st) s.heap.objs.size f cdv) (kO (oq P w) P w K mg base N qual (aA st) f cdv A outer s H E).xe->
  yU (kO (oq P w) P w K mg base N qual (aA st) f cdv A outer s H E) (gK st) B
structure CU(P:Q3)(w:Q2)(K:P5)(mg:Str->Option Q1)(base:Q6)(k:Nat)(N:List Str)(qual:Str)(st:Rl)(f:Q4)(B:cG):Prop where
 h:∀(cdv:Q1)(A:Rc)(outer:List Env)(s:Rf)(H:Hp)(E:XK),uc K f cdv->iz k (A.deeper (QL qual (aA st) s.heap.objs.size f cdv))->Ru (model P w) (A.deeper (QL qual (aA st) s.heap.objs.size f cdv)) (QL qual (aA st) s.heap.objs.size f cdv) (kO (oq P w) P w K mg base N qual (aA st) f cdv A outer s H E).xe->
  yU (kO (oq P w) P w K mg base N qual (aA st) f cdv A outer s H E) (gK st) B
theorem CU.ok{P:Q3}{w:Q2}{K:P5}{mg:Str->Option Q1}{base:Q6}{k:Nat}{N:List Str}{qual:Str}{st:Rl}{f:Q4}{B:cG}(h:CU P w K mg base k N qual st f B):vP P w K mg base k N qual st f B:=⟨λcdv A outer s H E hc hr hp=>(h.h cdv A outer s H E hc hr hp).h⟩
theorem cN.ok{P:Q3}{w:Q2}{K:P5}{mg:Str->Option Q1}{base:Q6}{k:Nat}{N:List Str}{qual:Str}{st:Rl}{f:Q4}{B:cG}(h:cN P w K mg base k N qual st f B):BodyOk P w K mg base k N qual st f B:=⟨λcdv A outer s H E hr hp=>(h.h cdv A outer s H E hr hp).h⟩
end TX
namespace TG
open L2
instance(priority:=low) noTabs:aY:=⟨λ_=>True,λ_ _=>trivial,λ_ _ _=>trivial⟩
open PySem PySem.Spec L2
theorem nr{α:Sort _}{a b:α}(h:a=b):a=b:=h
theorem eU{α β:Type}(a:α)(f:α->R β):Except.bind (Except.ok a:R α) f=f a:=nr rfl
theorem uG{α β:Type}(x:Option Ex)(f:α->R β):Except.bind (Except.error x:R α) f=.error x:=nr rfl
theorem rE{α:Type}(a:α)(k:Ks)(ρ:aw)(f:α->R D):tx (.ok a) k ρ f=f a:=nr rfl
theorem vd{α:Type}(x:Ex)(k:Ks)(ρ:aw)(f:α->R D):tx (.error (some x)) k ρ f=k.ex x ρ:=nr rfl
theorem lI{α:Type}(a:α):Ds (.ok a:R α)=.ok a:=nr rfl
theorem iq{α:Type}(a:α):rO (some a)=.ok a:=nr rfl
theorem ge_0(d:D)(ρ:aw):rG (some (.val d)::ρ) 0=.ok d:=nr rfl
theorem AG(x:Option S)(ρ:aw)(i:Nat):rG (x::ρ) (i+1)=rG ρ i:=by
 unfold rG;rw[OS]
theorem p5(i:Nat)(ρ:aw):ai i ρ=rG ρ i:=nr rfl
theorem Bw(d:D)(ρ:aw):fC d ρ=.ok d:=nr rfl
theorem o8(ρ:aw):av ρ=.ok []:=nr rfl
theorem m7(f:FX)(g:aw->R (List D))(ρ:aw):af f g ρ=(f ρ).bind λx=>(g ρ).bind λxs=>.ok (x::xs):=nr rfl
theorem pY(g:aw->R (List D))(ρ:aw):bF g ρ=(g ρ).bind λxs=>rO (u9 xs):=nr rfl
theorem pj(g:aw->R (List D))(ρ:aw):ie g ρ=(g ρ).bind λxs=>rO (lJ xs):=nr rfl
theorem A4(g:D->Option D)(f:FX)(ρ:aw):f1 g f ρ=(f ρ).bind λa=>rO (g a):=nr rfl
theorem Bh(g:D->D->Option D)(f h:FX)(ρ:aw):f2 g f h ρ=(f ρ).bind λa=>(h ρ).bind λb=>rO (g a b):=nr rfl
theorem AY(f:FX)(ρ:aw):fB f ρ=(f ρ).bind λd=>rO (KN d):=nr rfl
theorem Be(g:List D->Option D)(f:aw->R (List D))(ρ:aw):fL g f ρ=(f ρ).bind λds=>rO (g ds):=nr rfl
theorem BL(g:List D->R D)(f:aw->R (List D))(ρ:aw):fR g f ρ=(f ρ).bind g:=nr rfl
theorem qg(f:aw->R Bool)(ρ:aw):sN f ρ=(f ρ).bind λb=>.ok (!b):=nr rfl
theorem pH(f g:aw->R Bool)(ρ:aw):K9 f g ρ=(f ρ).bind λb=>if b then g ρ else .ok false:=nr rfl
theorem vq(f g:aw->R Bool)(ρ:aw):BV f g ρ=(f ρ).bind λb=>if b then .ok true else g ρ:=nr rfl
theorem j7(f:FX)(ρ:aw):eS f ρ=(f ρ).bind λd=>rO (truth d):=nr rfl
theorem nF(f g:FX)(ρ:aw):qA f g ρ=(f ρ).bind λd=>yF d (g ρ):=nr rfl
theorem p6(f g:FX)(ρ:aw):Lb f g ρ=(f ρ).bind λd=>II d (g ρ):=nr rfl
theorem mM(f:FX)(ρ:aw):J1 f ρ=(f ρ).bind λa=>rO (xP a):=nr rfl
theorem uX(t:aw->R Bool)(f g:FX)(ρ:aw):IX t f g ρ=(t ρ).bind λc=>if c then f ρ else g ρ:=nr rfl
theorem qb(T:String)(f:FX)(ρ:aw):qL T f ρ=(f ρ).bind λa=>rO (i7 T a):=nr rfl
theorem ph(f:FX)(ρ:aw):Mm f ρ=(f ρ).bind λa=>.ok (.bl (isNon a)):=nr rfl
theorem mR(f:FX)(ρ:aw):IM f ρ=(f ρ).bind λa=>.ok (.bl (!isNon a)):=nr rfl
theorem pU(f:FX)(ρ:aw):Cz f ρ=(f ρ).bind λa=>rO (HV a):=nr rfl
theorem kB(f:FX)(ρ:aw):HW f ρ=(f ρ).bind λa=>rO (CM a):=nr rfl
theorem pX(f:FX)(ρ:aw):Ls f ρ=(f ρ).bind λa=>rO (GJ a):=nr rfl
theorem kA(g g':D->D->Option D)(fa fb fc:FX)(ρ:aw):G7 g g' fa fb fc ρ=(fa ρ).bind λx=>(fb ρ).bind λy=>(rO (g x y)).bind λz=>yF z ((fc ρ).bind λw=>rO (g' y w)):=nr rfl
theorem kn(f:FX)(ρ:aw):bK f ρ=(f ρ).bind λd=>rO (sS d):=nr rfl
theorem jg(f:aw->R (List D))(ρ:aw):iw f ρ=(f ρ).bind λds=>rO (mS ds):=nr rfl
theorem jf(f:aw->R (List D))(ρ:aw):qV f ρ=(f ρ).bind λds=>rO (qT ds):=nr rfl
theorem pc(f:aw->R (List D))(ρ:aw):wo f ρ=(f ρ).bind λds=>rO (vB ds):=nr rfl
theorem nI(f:aw->R (List D))(ρ:aw):gO f ρ=(f ρ).bind λds=>rO (uE ds):=nr rfl
theorem p4(z:Str):Nj (.str z)=some z:=nr rfl
theorem jd(ρ:aw):bc ρ=.ok none:=nr rfl
theorem nB(f:FX)(ρ:aw):ce f ρ=(f ρ).bind λd=>rO (yv d):=nr rfl
theorem jY(f:FX)(l h:aw->R (Option Int))(ρ:aw):bD f l h ρ=(f ρ).bind λa=>(l ρ).bind λlo=>(h ρ).bind λhi=>rO (rj a lo hi):=nr rfl
theorem nz(ρ:aw):dA ρ=.ok true:=nr rfl
theorem nq(k:Ks)(ρ:aw):cB k ρ=k.nx ρ:=nr rfl
theorem iT(A B:cG)(k:Ks)(ρ:aw):aH A B k ρ=A {k with nx:=B k} ρ:=nr rfl
theorem ng(f:FX)(k:Ks)(ρ:aw):bP f k ρ=tx (f ρ) k ρ .ok:=nr rfl
theorem j3(k:Ks)(ρ:aw):JX k ρ=.ok .non:=nr rfl
theorem nY(c:aw->R Bool)(A B:cG)(k:Ks)(ρ:aw):jx c A B k ρ=tx (c ρ) k ρ λb=>if b then A k ρ else B k ρ:=nr rfl
theorem nM(i:Nat)(f:FX)(k:Ks)(ρ:aw):bI i f k ρ=tx (f ρ) k ρ λd=>k.nx (setV i d ρ):=nr rfl
theorem kD(is:List Nat)(F:cG)(k:Ks)(ρ:aw):eP is F k ρ=F k (kill is ρ):=nr rfl
theorem jM(G:aw->R (List D))(g:GF)(B:cG)(k:Ks)(ρ:aw):lu G g B k ρ=tx (G ρ) k ρ λds=>jX g B k ds ρ:=nr rfl
theorem AU(d:D)(x:Option S)(ρ:aw):setV 0 d (x::ρ)=some (.val d)::ρ:=nr rfl
theorem AF(i:Nat)(d:D)(x:Option S)(ρ:aw):setV (i+1) d (x::ρ)=x::setV i d ρ:=nr rfl
theorem pP(ρ:aw):kill [] ρ=ρ:=nr rfl
theorem mO(i:Nat)(is:List Nat)(ρ:aw):kill (i::is) ρ=kill is (ρ.set i none):=nr rfl
theorem pD(B:cG)(n:Nat)(a:D):bb B 1 n [a]=B K0 (env0 n [a]):=nr rfl
theorem eG(B:cG)(n:Nat)(a b:D):bb B 2 n [a,b]=B K0 (env0 n [a,b]):=nr rfl
theorem n5(B:cG)(n:Nat)(a b c:D):bb B 3 n [a,b,c]=B K0 (env0 n [a,b,c]):=nr rfl
theorem yG(B:cG)(n:Nat)(a b c d:D):bb B 4 n [a,b,c,d]=B K0 (env0 n [a,b,c,d]):=nr rfl
theorem HH(B:cG)(n:Nat)(a b c d e:D):bb B 5 n [a,b,c,d,e]=B K0 (env0 n [a,b,c,d,e]):=nr rfl
theorem o9(ρ:aw):inB [] ρ=[]:=nr rfl
theorem nG(ix:List (Option Nat))(ρ:aw):inB (none::ix) ρ=none::inB ix ρ:=nr rfl
def pick(ρ:aw)(i:Nat):Option S:=match ρ[i]? with
 |some (some (.val d))=>some (.val d)
 |_=>none
theorem mQ(i:Nat)(ix:List (Option Nat))(ρ:aw):inB (some i::ix) ρ=pick ρ i::inB ix ρ:=nr rfl
theorem BM(d:D)(ρ:aw):pick (some (.val d)::ρ) 0=some (.val d):=rfl
theorem Bo(x:Option S)(ρ:aw)(i:Nat):pick (x::ρ) (i+1)=pick ρ i:=by
 unfold pick;rw[OS]
theorem nK(i:Nat)(f:FX)(k:Ks)(ρ:aw):nZ i f k ρ=tx (f ρ) k ρ λd=>k.nx (ρ.set i (some (.own d))):=nr rfl
theorem nE(i:Nat)(F:cG)(k:Ks)(ρ:aw):iN i F k ρ=F k (frz i ρ):=nr rfl
theorem A7(d:D)(ρ:aw):frz 0 (some (.own d)::ρ)=some (.val d)::ρ:=nr rfl
theorem uQ(d:D)(ρ:aw):frz 0 (some (.val d)::ρ)=some (.val d)::ρ:=nr rfl
theorem Bz(i:Nat)(x:Option S)(ρ:aw):frz (i+1) (x::ρ)=x::frz i ρ:=by
 unfold frz;rw[OS];split<;>rename_i h
 ·rw[h];rfl
 ·rfl
theorem lj(i:Nat)(u:List D->List D->Option (List D))(f:aw->R (List D))(k:Ks)(ρ:aw){xs:List D}(h:ρ[i]?=some (some (.own (.lst xs)))):ym i u f k ρ=tx (f ρ) k ρ λds=>(rO (u xs ds)).bind λys=>k.nx (ρ.set i (some (.own (.lst ys)))):=by
 unfold ym;rw[h]
theorem lD{xs:List D}{y:D}(h:xs.length<100000):fE xs [y]=some (xs++[y]):=by
 show(if small (xs.length+1)then some (xs++[y])else none)=_;rw[dZ ‹0›];rfl
theorem pR(i j:Int):bV (.int i) (.int j)=some (.int (i+j)):=nr rfl
theorem qc(i j:Int):TG.AV (.int i) (.int j)=some (.int (i-j)):=nr rfl
theorem uH(i j:Int):Nb (.int i) (.int j)=some (.bl (decide (i<j))):=nr rfl
theorem pL(i j:Int):vG (.int i) (.int j)=some (.bl (decide (i<j))):=nr rfl
theorem pW(x y:Str):vG (.str x) (.str y)=some (.bl (decide (x.cps.toList<y.cps.toList))):=nr rfl
theorem pK(c d:Bool):L4 (.bl c) (.bl d)=some (.bl (c==d)):=nr rfl
theorem jb(c d:Bool):Ej (.bl c) (.bl d)=some (.bl (!(c==d))):=nr rfl
theorem uh(i j:Int):MD (.int i) (.int j)=some (.bl (decide (i<=j))):=nr rfl
theorem ux(i j:Int):MK (.int i) (.int j)=some (.bl (decide (j<i))):=nr rfl
theorem vh(i j:Int):MV (.int i) (.int j)=some (.bl (decide (j<=i))):=nr rfl
theorem pE(i:Int):HV (.int i)=some (.int (-i)):=nr rfl
theorem fP{i j:Int}(h:0<j):cM (.int i) (.int j)=some (.int (i%j)):=by
 show(if decide (0<j)then some (D.int (i%j))else none)=_;rw[decide_eq_true h];rfl
theorem mj{i j:Int}(h:0<j)(h':j<10^200):dI (.int i) (.int j)=some (.int (i/j)):=by
 show(if decide (0<j/\j<10^200)then some (D.int (i/j))else none)=_;rw[decide_eq_true ⟨h,h'⟩];rfl
theorem qO{i j:Int}(h:-(2^64)<i)(h':i<2^64):oT (.int i) (.int j)=some (.int (i*j)):=by
 show(if decide ((-(2^64)<i/\i<2^64)\/(-(2^64)<j/\j<2^64))then some (D.int (i*j))else none)=_;rw[decide_eq_true (.inl ⟨h,h'⟩)];rfl
theorem qU{i j:Int}(h:-(2^64)<j)(h':j<2^64):oT (.int i) (.int j)=some (.int (i*j)):=by
 show(if decide ((-(2^64)<i/\i<2^64)\/(-(2^64)<j/\j<2^64))then some (D.int (i*j))else none)=_;rw[decide_eq_true (.inr ⟨h,h'⟩)];rfl
theorem vW(i:Int)(n:Nat)(h:n<=1000000)(h':i.natAbs<2^64):j9 (.int i) (.int n)=some (.int (i^n)):=by
 show(if decide (0<=(n:Int)/\(n:Int)<=1000000/\i.natAbs<2^64)then some (D.int (i^(n:Int).toNat))else none)=_;rw[decide_eq_true ⟨by omega,by omega,h'⟩];rfl
theorem DL:j9 (.int 10) (.int 59)=some (.int (10^59)):=vW 10 59 (by decide) (by decide)
def Bf:Int:=10^59
def Ng:Int:=10^60
theorem FK:1000000<Bf/\Bf*10=Ng:=by decide +kernel
theorem yA:j9 (.int 10) (.int 59)=some (.int Bf):=DL
theorem jV(i j:Int):j8 (.int i) (.int j)=some (.bl (i==j)):=by unfold j8 pyEq;rfl
theorem ke(i j:Str):j8 (.str i) (.str j)=some (.bl (i==j)):=by unfold j8 pyEq;rfl
theorem jZ(i j:Bool):j8 (.bl i) (.bl j)=some (.bl (i==j)):=by unfold j8 pyEq;rfl
theorem jW(i j:Int):wf (.int i) (.int j)=some (.bl (!(i==j))):=by unfold wf pyEq;rfl
theorem j5(i j:Str):wf (.str i) (.str j)=some (.bl (!(i==j))):=by unfold wf pyEq;rfl
theorem j4(i j:Bool):wf (.bl i) (.bl j)=some (.bl (!(i==j))):=by unfold wf pyEq;rfl
theorem GO{α:Type}(xs:List α)(n:Nat):ou xs (n:Int)=xs[n]?:=by
 unfold ou EQ;rw[if_pos ‹0›];by_cases h:n<xs.length
 ·rw[if_pos ‹0›];rfl
 ·rw[if_neg ‹0›,Pl ‹0›];rfl
theorem AW{α:Type}(a:α)(xs:List α):ou (a::xs) 0=some a:=GO (a::xs) 0
theorem AA{α:Type}(a:α)(xs:List α)(n:Nat):ou (a::xs) ((n+1:Nat):Int)=ou xs (n:Int):=by
 rw[GO,GO,OS]
theorem Mu(xs:List D)(i:Int):aB (.tup xs) (.int i)=ou xs i:=nr rfl
theorem Jy(xs:List D)(i:Int):aB (.lst xs) (.int i)=ou xs i:=nr rfl
theorem ox(a:D)(xs:List D):aB (.tup (a::xs)) (.int 0)=some a:=AW a xs
theorem uR(a b:D)(xs:List D):aB (.tup (a::b::xs)) (.int 1)=some b:=(AA a _ 0).trans (AW b xs)
theorem ug(a b c:D)(xs:List D):aB (.tup (a::b::c::xs)) (.int 2)=some c:=(AA a _ 1).trans ((AA b _ 0).trans (AW c xs))
theorem uq(a:D)(xs:List D):aB (.lst (a::xs)) (.int 0)=some a:=AW a xs
theorem uW(a b:D)(xs:List D):aB (.lst (a::b::xs)) (.int 1)=some b:=(AA a _ 0).trans (AW b xs)
theorem uw(a b c:D)(xs:List D):aB (.lst (a::b::c::xs)) (.int 2)=some c:=(AA a _ 1).trans ((AA b _ 0).trans (AW c xs))
theorem km(xs:List D):iL [.lst xs]=some (.int xs.length):=nr rfl
theorem kr(xs:List D):iL [.tup xs]=some (.int xs.length):=nr rfl
theorem gS(xs:List D):cq [.lst xs]=some (.tup xs):=nr rfl
theorem gV(xs:List D):cq [.tup xs]=some (.tup xs):=nr rfl
theorem pS(b:Bool):KN (.bl b)=some b:=nr rfl
theorem je(i:Int):yv (.int i)=some (some i):=nr rfl
theorem h7(b:Bool):truth (.bl b)=some b:=nr rfl
theorem hU(xs:List D):truth (.tup xs)=some (!xs.isEmpty):=nr rfl
theorem ig(xs:List D):truth (.lst xs)=some (!xs.isEmpty):=nr rfl
theorem kZ(i j:Int):oV [.int i,.int j]=some (.int (if j>i then j else i)):=nr rfl
theorem lV(i j:Int):rz [.int i,.int j]=some (.int (if j<i then j else i)):=nr rfl
theorem Dg(b:Bool):zN [.bl b]=some (.int (if b then 1 else 0)):=nr rfl
theorem gW(xs:List D):sS (.lst xs)=some xs:=nr rfl
theorem gQ(xs:List D):sS (.tup xs)=some xs:=nr rfl
theorem kE(k:R D):yF (.bl true) k=k:=nr rfl
theorem j6(k:R D):yF (.bl false) k=.ok (.bl false):=nr rfl
theorem nN(k:R D):II (.bl true) k=.ok (.bl true):=nr rfl
theorem mU(k:R D):II (.bl false) k=k:=nr rfl
theorem kz(a b:Bool):yF (.bl a) (.ok (.bl b))=.ok (.bl (a&&b)):=by cases a<;>rfl
theorem nJ(a b:Bool):II (.bl a) (.ok (.bl b))=.ok (.bl (a||b)):=by cases a<;>rfl
theorem pf(b:Bool):xP (.bl b)=some (.bl (!b)):=nr rfl
theorem pM(xs:List D):GJ (.lst xs)=some (.lst xs.reverse):=nr rfl
theorem ku(n:Nat)(h:n<2^62):mS [.int n]=some (fN 0 n):=by
 show(if okR (n:Int)then some (fN 0 ((n:Int).toNat))else none)=_
 have:okR (n:Int)=true:=decide_eq_true ⟨by omega,by omega⟩
 rw[this];rfl
theorem DC{xs:List D}(h:xs.length<=100000):lJ xs=some (.lst xs):=by unfold lJ;rw[dZ h];rfl
theorem oW{α:Type}(f:α->D)(h:∀a,pl (f a)=true):∀xs:List α,ow (xs.map f)=true
 |[]=>rfl
 |x::xs=>by
  show(pl (f x)&&ow (xs.map f))=true;rw[h,oW f h xs];rfl
theorem Ei(f:Str->D)(hf:f=D.str)(w:Str)(ws:List Str):inD (.str w) (ws.map f)=ws.any λy=>y==w:=by
 subst hf;unfold inD;rw[OZ];congr 1
theorem Ad(w:Str)(ws:List Str):Av (.str w) (.tup (ws.map .str))=some (.bl (ws.contains w)):=by
 show(if(pl (.str w)&&ow (ws.map .str))&&fA 8 (.str w)then some (D.bl (inD (.str w) (ws.map .str)))else none)=_;rw[Ei _ rfl,oW _ λ_=>rfl];show some (D.bl _)=_;congr 2
 induction ws with
 |nil=>rfl
 |cons x xs ih=>rw[N5,OX,ih,Bool.beq_comm]
theorem Eu(w:Str)(ws:List Str):Av (.str w) (.lst (ws.map .str))=some (.bl (ws.contains w)):=Ad w ws
theorem B5(xs ys:List D)(h:xs.length+ys.length<=100000):bV (.lst xs) (.lst ys)=some (.lst (xs++ys)):=by
 show(if small (xs.length+ys.length)then some (D.lst (xs++ys))else none)=_;rw[dZ h];rfl
theorem fF(xs ys:List D)(h:xs.length+ys.length<=100000):bV (.tup xs) (.tup ys)=some (.tup (xs++ys)):=by
 show(if small (xs.length+ys.length)then some (D.tup (xs++ys))else none)=_;rw[dZ h];rfl
theorem nD(xs:List D)(lo hi:Option Int):rj (.lst xs) lo hi=some (.lst (cutD xs lo hi)):=nr rfl
theorem nu(xs:List D)(lo hi:Option Int):rj (.tup xs) lo hi=some (.tup (cutD xs lo hi)):=nr rfl
theorem eO{ix:List (Option Nat)}{G:aw->R (List D)}{g:GF}{C:aw->R Bool}{Fe:FX}{ρ:aw}{ds r:List D}(h1:G ρ=.ok ds)(h2:ds.length<=100000)(h3:A3 (inB ix ρ) g C Fe ds=.ok r):jy ix G g C Fe ρ=.ok (.lst r):=by
 unfold jy;rw[h1,eU,dZ h2,h3];rfl
theorem kX{α:Type}{ρ:aw}{g:GF}{C:aw->R Bool}{Fe:FX}(mk:α->D)(p:α->Bool)(v:α->D):∀xs:List α,(∀a∈xs,∃ρ1,g (mk a) ρ=some ρ1/\C ρ1=.ok (p a)/\Fe ρ1=.ok (v a))->
  A3 ρ g C Fe (xs.map mk)=.ok ((xs.filter p).map v)
 |[],_=>rfl
 |a::xs,h=>by
  obtain⟨ρ1,h1,h2,h3⟩:=h a Nu;rw[N3,oR,h1,iq,eU,h2,lI,eU,h3,lI,eU,kX mk p v xs λb hb=>h b (Nv _ hb)];cases e:p a with
  |true=>rw[if_pos rfl,O7 e];rfl
  |false=>rw[if_neg NF,O8 (by simp[e])]
theorem iS{α:Type}{ρ:aw}{g:GF}{C:aw->R Bool}{Fe:FX}(mk:α->D)(v:α->D)(xs:List α)(h:∀a∈xs,∃ρ1,g (mk a) ρ=some ρ1/\C ρ1=.ok true/\Fe ρ1=.ok (v a)):A3 ρ g C Fe (xs.map mk)=.ok (xs.map v):=by
 rw[kX mk (λ_=>true) v xs h,List.filter_eq_self.mpr λ_ _=>rfl]
theorem zR{g:GF}{B:cG}{k:Ks}(Iv:Nat->aw->Prop):∀(ds:List D)(i:Nat)(ρ:aw),(∀j d ρ (k':Ks),i<=j->ds[j-i]?=some d->Iv j ρ->∃ρ1 ρ2,g d ρ=some ρ1/\Iv (j+1) ρ2/\B k' ρ1=k'.nx ρ2)->Iv i ρ->∃ρ',Iv (i+ds.length) ρ'/\jX g B k ds ρ=k.nx ρ'
 |[],i,ρ,_,h=>⟨ρ,h,rfl⟩
 |d::ds,i,ρ,st,h=>by
  obtain⟨ρ1,ρ2,e1,h2,e2⟩:=st i d ρ ⟨jX g B k ds,k.nx,jX g B k ds,k.ex⟩ (NB _) (by rw[Pw];rfl) h;obtain⟨ρ',h3,e3⟩:=zR (g:=g) (B:=B) (k:=k) Iv ds (i+1) ρ2 (λj d' ρ k' hj hd=>st j d' ρ k' ‹0› (by rw[show j-i=(j-(i+1))+1 by omega,OS];exact hd)) h2;refine⟨ρ',?_,?_⟩
  ·rw[N6]
   have:i+(ds.length+1)=i+1+ds.length:=(by omega);rw[this];exact h3
  ·show((rO (g d ρ)).bind λρ1=>B ⟨jX g B k ds,k.nx,jX g B k ds,k.ex⟩ ρ1)=_;rw[e1,iq,eU,e2];exact e3
theorem eL{g:GF}{B:cG}{k:Ks}{ds:List D}{ρ:aw}{Q:R D->Prop}(Iv:Nat->aw->Prop)(st:∀i d ρ (k':Ks),ds[i]?=some d->Iv i ρ->∃ρ1 ρ2,g d ρ=some ρ1/\Iv (i+1) ρ2/\B k' ρ1=k'.nx ρ2)(h:Iv 0 ρ)(q:∀ρ',Iv ds.length ρ'->Q (k.nx ρ')):Q (jX g B k ds ρ):=by
 obtain⟨ρ',h1,e⟩:=zR (k:=k) Iv ds 0 ρ (λj d ρ k' _ hd=>st j d ρ k' hd) h;rw[e];rw[OW]at h1;exact q ρ' h1
theorem du{α:Type}{xs:List α}{i:Nat}{a:α}(h:xs[i]?=some a):i<xs.length:=by
 rcases Pk i xs.length with z|z
 ·exact z
 ·rw[Pl z]at h;cases h
theorem vD{α β:Type}(f:α->β)(xs:List α)(i:Int):ou (xs.map f) i=(ou xs i).map f:=by
 unfold ou;rw[NW];cases EQ xs.length i with
 |none=>rfl
 |some j=>simp
theorem sQ{α:Type}{xs:List α}{k:Nat}(h:k<xs.length):ou xs (k:Int)=some xs[k]:=by
 unfold ou EQ;rw[if_pos ‹0›,if_pos ‹0›];simp[h]
theorem qR{α:Type}{xs:List α}{i:Int}(h0:0<=i)(h:i<xs.length):ou xs i=some (xs[i.toNat]'‹0›):=by
 have e:i=((i.toNat:Nat):Int):=by omega
 conv=>lhs;rw[e]
 exact sQ ‹0›
def Gc:cG:=aH (jx (fB (f2 vG (ai 1) (fL iL (af (ai 0) (av))))) (bP (f2 aB (ai 0) (ai 1))) (cB)) (bP (fC (.int 0)))
theorem Ee(ns:List Int)(k:Nat):bb Gc 2 2 [.lst (ns.map .int),.int k]=.ok (.int (ns.getD k 0)):=by
 show(if decide ((k:Int)<((ns.map D.int).length:Int))then tx (rO (ou (ns.map D.int) (k:Int))) _ _ .ok else .ok (.int 0))=_;rw[NW];by_cases h:k<ns.length
 ·rw[if_pos (by simpa using h),vD,sQ h,Option.map_some,Pb,Oq h];rfl
 ·rw[if_neg (by simpa using h),Pb,Pl ‹0›];rfl
theorem DJ(ns:List Int)(i:Int)(h:0<=i):∃c:Int,bb Gc 2 2 [.lst (ns.map .int),.int i]=.ok (.int c):=by
 have e:i=((i.toNat:Nat):Int):=by omega
 exact⟨ns.getD i.toNat 0,by rw[e];exact Ee ns i.toNat⟩
theorem Ac(x y:Str):(x++y).length=x.length+y.length:=by
 show(x.cps++y.cps).size=_;rw[Array.size_append];rfl
theorem iD(x y:Str)(h:x.length<=1000)(h':y.length<=1000):bV (.str x) (.str y)=some (.str (x++y)):=by
 show(if small (x.length+y.length)then some (D.str (x++y))else none)=_;rw[dZ ‹0›];rfl
theorem qP(x:Str)(h:x.length<=1000)(i:Int)(h0:0<=i)(h1:i<x.length):∃y:Str,y.length=1/\aB (.str x) (.int i)=some (.str y):=by
 have hl:x.cps.toList.length=x.length:=by simp[Str.length]
 have hi:i<x.cps.toList.length:=by omega
 refine⟨⟨#[x.cps.toList[i.toNat]'‹0›]⟩,rfl,?_⟩;show(if small x.length then(ou x.cps.toList i).bind λc=>some (D.str ⟨#[c]⟩)else none)=_;rw[dZ ‹0›,if_pos rfl,qR h0 hi];rfl
theorem ky(lo:Int)(n:Nat):fN lo n=(List.range n).map λ(k:Nat)=>D.int (lo+(k:Int)):=nr rfl
theorem cX(lo:Int)(n:Nat):(fN lo n).length=n:=by unfold fN;rw[NW,OB]
theorem gZ{α:Type}(xs:List α)(m:Nat):cutD xs none (some (m:Int))=xs.take m:=by
 unfold cutD;rw[HT.IL,HT.J4,Oj,OC];rcases Pp m xs.length with h|h
 ·rw[Pq h]
 ·rw[Pr h,Pm h,Pm (NB _)]
theorem lR{α:Type}(xs:List α)(m:Nat):cutD xs (some (m:Int)) none=xs.drop m:=by
 unfold cutD;rw[HT.IL,HT.J4];rcases Pp m xs.length with h|h
 ·rw[Pq h];exact Pm (by rw[NY];exact NB _)
 ·rw[Pr h,Pw,Oh,List.drop_eq_nil_of_le h]
theorem wv(ρ:aw):vk ρ=.ok (.dct [] []):=nr rfl
theorem rX(q:List Key):jT (.tup (q.map bM))=some q:=cJ q
theorem Fl{i:Nat}{fk fv:FX}{k:Ks}{ρ:aw}{al:List (List Key×D)}{q:List Key}{v:D}(h:ρ[i]?=some (some (.own (fh al))))(ek:fk ρ=.ok (.tup (q.map bM)))(ev:fv ρ=.ok v)(hl:al.length<=100000):uS i fk fv k ρ=k.nx (ρ.set i (some (.own (fh (iI al q v))))):=by
 have e:uK (encK al) (al.map (·.2)) (.tup (q.map bM)) v=some (iI al q v):=by
  unfold uK;rw[oY];show(jT (.tup (q.map bM))).bind _=_;rw[rX];show(if small al.length then _ else _)=_;rw[dZ hl];rfl
 unfold uS;rw[h];show tx ((fv ρ).bind λv=>(fk ρ).bind λq=>rO (uK (encK al) (al.map (·.2)) q v)) k ρ _=_;rw[ev,eU,ek,eU,e];rfl
local macro_rules
 |`(tactic| simp! only[$xs,*])=>`(tactic| simp only[eU,uG,rE,vd,lI,iq,ge_0,AG,p5,Bw,o8,m7,pY,pj,A4,Bh,AY,Be,BL,qg,pH,vq,j7,nF,p6,mM,uX,qb,ph,mR,pU,kB,pX,kA,kn,jg,jf,pc,nI,jd,nB,jY,nz,nq,iT,ng,j3,nY,nM,kD,jM,nK,nE,A7,uQ,Bz,AU,AF,pP,mO,o9,nG,mQ,BM,Bo,Px,Py,N3,N2,Og,Oy,K0,env0,List.replicate,Pz,NM,OW,Nat.reduceAdd,Nat.reduceSub,N6,N7,pR,qc,uH,pL,pW,pK,jb,p4,uh,ux,vh,pE,jV,ke,jZ,jW,j5,j4,ox,uR,ug,uq,uW,uw,km,kr,gS,gV,pS,je,h7,hU,ig,kZ,lV,gW,gQ,kE,j6,nN,mU,kz,nJ,pf,pM,nD,nu,gN,if_true,if_false,PB,PC,Oe,$xs,*])
theorem GP(a b c:D):u9 [a,b,c]=some (.tup [a,b,c]):=nr rfl
theorem qw(a b:D):u9 [a,b]=some (.tup [a,b]):=nr rfl
theorem M0(a:D):u9 [a]=some (.tup [a]):=nr rfl
theorem Jd:u9 []=some (.tup []):=nr rfl
theorem HZ:lJ []=some (.lst []):=nr rfl
def Fk(m:Nat)(rows:List (List D)):Prop:=rows.Pairwise λr s=>fw (r.take m) (s.take m)=some true
inductive F2{α β:Type}(R:α->β->Prop):List α->List β->Prop where
 |nil:F2 R [] []
 |cons {a:α} {b:β} {as:List α} {bs:List β} (h:R a b) (t:F2 R as bs):F2 R (a::as) (b::bs)
theorem CK{ρ:aw}{g:GF}{C:aw->R Bool}{Fe:FX}:∀(ds:List D)(P:Nat->D->Prop),(∀i d,ds[i]?=some d->∃ρ1 v,g d ρ=some ρ1/\C ρ1=.ok true/\Fe ρ1=.ok v/\P i v)->∃vs:List D,vs.length=ds.length/\(∀i v,vs[i]?=some v->P i v)/\A3 ρ g C Fe ds=.ok vs
 |[],_,_=>⟨[],rfl,(λ_ _ h=>nomatch h),rfl⟩
 |d::ds,P,h=>by
  obtain⟨ρ1,w,h1,h2,h3,h4⟩:=h 0 d rfl;obtain⟨ws,e1,e2,e3⟩:=CK (ρ:=ρ) (g:=g) (C:=C) (Fe:=Fe) ds (λi v=>P (i+1) v) λi d' hd=>h (i+1) d' (by rw[OS];exact hd);refine⟨w::ws,by rw[N6,N6,e1],λi v hv=>?_,?_⟩
  ·cases i with
   |zero=>cases hv;exact h4
   |succ i=>rw[OS]at hv;exact e2 i v hv
  ·rw[oR,h1,iq,eU,h2,lI,eU,h3,lI,eU,e3];rfl
theorem vw:∀{σ:List Bool}{a b:List D},Sh σ a->Sh σ b->(fu a b=true↔a=b)
 |_,_,_,.nil,.nil=>by unfold fu;simp
 |_,_,_,.int i h,.int j h'=>by
  unfold fu pyEq;rw[NZ,vw h h'];simp
 |_,_,_,.str i h,.str j h'=>by
  unfold fu pyEq;rw[NZ,vw h h'];simp
theorem Aj:∀{σ:List Bool}{a:List D},Sh σ a->ow a=true
 |_,_,.nil=>rfl
 |_,_,.int i h=>by
  show(pl (.int i)&&ow _)=true;rw[Aj h];rfl
 |_,_,.str i h=>by
  show(pl (.str i)&&ow _)=true;rw[Aj h];rfl
theorem y6:∀{σ:List Bool}{a:List D}(n:Nat),Sh σ a->a.all (fA (n+1))=true
 |_,_,_,.nil=>rfl
 |_,_,n,.int i h=>by rw[Om,y6 n h];rfl
 |_,_,n,.str i h=>by rw[Om,y6 n h];rfl
end TG
namespace TD
open PySem PySem.Spec L2 TG TX
def dM:cG:=aH (jx (fB (f2 vG (ai 1) (fL iL (af (ai 0) (av))))) (bP (f2 aB (ai 0) (ai 1))) (cB)) (bP (fC (.int 0)))
def aW:cG:=bP (f2 cM (f2 bV (f2 bV (f2 oT (ai 0) (ai 0)) (f2 oT (fC (.int 48271)) (ai 0))) (fC (.int 11))) (fC (.int 2147483647)))
def cQ:cG:=aH (bI 2 (f2 cM (f2 bV (f2 bV (f2 cM (fR (bb dM 2 2) (af (ai 0) (af (ai 1) (av)))) (fC (.int 2147483647))) (f2 oT (f2 oT (fC (.int 69621)) (ai 1)) (ai 1))) (fC (.int 5))) (fC (.int 2147483647)))) (bP (fR (bb aW 1 1) (af (fR (bb aW 1 1) (af (ai 2) (av))) (av))))
def bY:cG:=aH (bI 2 (fC (.str "abcdefghijklmnopqrstuvwxyz"))) (aH (bI 1 (f2 cM (f2 bV (f2 oT (ai 1) (f2 aB (ie (af (fC (.int 1)) (af (fC (.int 5)) (af (fC (.int 7)) (af (fC (.int 11)) (af (fC (.int 13)) (af (fC (.int 23)) (av)))))))) (f2 cM (ai 0) (fC (.int 6))))) (f2 dI (ai 0) (fC (.int 6)))) (fC (.int 24)))) (aH (bI 0 (f2 dI (ai 0) (fC (.int 144)))) (aH (jx (fB (f2 j8 (f2 cM (ai 0) (fC (.int 3))) (fC (.int 0)))) (bP (f2 sI (f2 aB (ai 2) (f2 cM (f2 bV (f2 dI (ai 0) (fC (.int 3))) (f2 dI (ai 1) (fC (.int 8)))) (fC (.int 26)))) (f2 bV (fC (.int 1)) (f2 cM (ai 1) (fC (.int 8)))))) (cB)) (aH (bI 3 (f2 bV (fC (.int 1)) (f2 cM (f2 dI (ai 0) (fC (.int 3))) (fC (.int 8))))) (aH (bI 4 (fC (.str ""))) (aH (lu (iw (af (ai 3) (av))) (gN 5) (aH (bI 6 (f2 dI (ai 0) (f2 bV (fC (.int 24)) (f2 oT (f2 oT (fC (.int 11)) (ai 5)) (ai 5))))) (aH (jx (fB (f2 j8 (ai 5) (f2 cM (f2 dI (ai 0) (fC (.int 24))) (ai 3)))) (bI 6 (f2 bV (ai 6) (ai 1))) (cB)) (aH (bI 4 (f2 bV (ai 4) (f2 aB (ai 2) (f2 cM (ai 6) (fC (.int 26)))))) (eP [5,6] cB))))) (bP (ai 4))))))))
noncomputable def dq:cG:=aH (jx (fB (f2 vG (f2 cM (ai 0) (fC (.int 3))) (fC (.int 2)))) (aH (bI 1 (f2 aB (ie (af (fC (.int 0)) (af (Cz (fC (.int 3))) (af (f2 AV (fC (.int 0)) (f2 cM (f2 j9 (ai 0) (fC (.int 7))) (f2 j9 (fC (.int 10)) (fC (.int 59))))) (af (f2 cM (f2 j9 (ai 0) (fC (.int 7))) (f2 j9 (fC (.int 10)) (fC (.int 59)))) (av)))))) (f2 cM (f2 dI (ai 0) (fC (.int 3))) (fC (.int 4))))) (bP (bF (af (fC (.str "number")) (af (ai 1) (af (f2 bV (ai 1) (f2 aB (ie (af (fC (.int 0)) (af (fC (.int 1)) (af (fC (.int 6)) (af (f2 j9 (fC (.int 10)) (fC (.int 59))) (av)))))) (f2 cM (f2 dI (ai 0) (fC (.int 12))) (fC (.int 4))))) (av))))))) (cB)) (aH (bI 2 (fC (.str "abcdefghijklmnopqrstuvwxyz"))) (aH (bI 3 (f2 aB (ai 2) (f2 cM (f2 dI (ai 0) (fC (.int 3))) (fC (.int 26))))) (aH (bI 4 (f2 aB (ai 2) (f2 cM (f2 dI (ai 0) (fC (.int 78))) (fC (.int 26))))) (aH (bI 5 (ie (af (fC (.str "")) (af (ai 3) (af (ai 4) (af (f2 bV (ai 3) (ai 4)) (af (f2 bV (ai 4) (ai 3)) (af (f2 sI (ai 3) (fC (.int 8))) (af (f2 bV (ai 3) (ai 3)) (af (f2 sI (ai 4) (fC (.int 3))) (av))))))))))) (aH (nZ 6 vk) (eP [1,2,4] (aH (lu (iw (af (fC (.int 8)) (av))) (gN 7) (aH (jx (fB (f2 j8 (f2 sB (f2 y9 (f2 dI (ai 0) (fC (.int 2028))) (ai 7)) (fC (.int 1))) (fC (.int 1)))) (nT 6 (f2 aB (ai 5) (ai 7)) (fC (.bl true))) (cB)) (eP [7] cB))) (aH (jx (mi [6] (fB (f2 j8 (fL ud (af (ai 6) (av))) (fC (.int 0))))) (nT 6 (ai 3) (fC (.bl true))) (cB)) (iN 6 (bP (bF (af (fC (.str "word")) (af (fL cq (af (fL fI (af (fL mE (af (ai 6) (av))) (av))) (av))) (av))))))))))))))
open PySem PySem.Spec L2 TG
local macro_rules
 |`(tactic| simp! only[$xs,*])=>`(tactic| simp only[eU,uG,rE,vd,lI,iq,ge_0,AG,p5,Bw,o8,m7,pY,pj,A4,Bh,AY,Be,BL,qg,pH,vq,j7,nF,p6,mM,uX,qb,ph,mR,pU,kB,pX,kA,kn,jg,jf,pc,nI,jd,nB,jY,nz,nq,iT,ng,j3,nY,nM,kD,jM,nK,nE,A7,uQ,Bz,AU,AF,pP,mO,o9,nG,mQ,BM,Bo,Px,Py,N3,N2,Og,Oy,K0,env0,List.replicate,Pz,NM,OW,Nat.reduceAdd,Nat.reduceSub,N6,N7,pR,qc,uH,pL,pW,pK,jb,p4,uh,ux,vh,pE,jV,ke,jZ,jW,j5,j4,ox,uR,ug,uq,uW,uw,km,kr,gS,gV,pS,je,h7,hU,ig,kZ,lV,gW,gQ,kE,j6,nN,mU,kz,nJ,pf,pM,nD,nu,gN,if_true,if_false,PB,PC,Oe,$xs,*])
theorem J7(ns:List Int)(i:Int)(h:0<=i):∃c:Int,bb dM 2 2 [.lst (ns.map .int),.int i]=.ok (.int c):=DJ ns i h
theorem vi(xs ys:List D):vB [.tup xs,.tup ys]=some (kQ xs ys):=nr rfl
local macro_rules
 |`(tactic| simp! only[$xs,*])=>`(tactic| simp only[eU,uG,rE,vd,lI,iq,ge_0,AG,p5,Bw,o8,m7,pY,pj,A4,Bh,AY,Be,BL,qg,pH,vq,j7,nF,p6,mM,uX,qb,ph,mR,pU,kB,pX,kA,kn,jg,jf,pc,nI,jd,nB,jY,nz,nq,iT,ng,j3,nY,nM,kD,jM,nK,nE,A7,uQ,Bz,AU,AF,pP,mO,o9,nG,mQ,BM,Bo,Px,Py,N3,N2,Og,Oy,K0,env0,List.replicate,Pz,NM,OW,Nat.reduceAdd,Nat.reduceSub,N6,N7,pR,qc,uH,pL,pW,pK,jb,p4,uh,ux,vh,pE,jV,ke,jZ,jW,j5,j4,ox,uR,ug,uq,uW,uw,km,kr,gS,gV,pS,je,h7,hU,ig,kZ,lV,gW,gQ,kE,j6,nN,mU,kz,nJ,pf,pM,nD,nu,gN,if_true,if_false,PB,PC,Oe,$xs,*])
abbrev fld(p:Str×D):D:=.tup [.str p.1,p.2]
theorem Ai:∀bs:List Bool,anyB (bs.map .bl)=some (bs.any id)
 |[]=>rfl
 |b::bs=>by
  show(anyB (bs.map .bl)).bind (λc=>some (b||c))=_;rw[Ai bs];rfl
theorem Eh(bs:List Bool):BQ [.lst (bs.map .bl)]=some (.bl (bs.any id)):=by
 have e:BQ [.lst (bs.map .bl)]=(anyB (bs.map .bl)).bind λb=>some (D.bl b):=rfl;rw[e,Ai];rfl
end TD
namespace T4
open PySem PySem.Spec L2 TG TD
local macro_rules
 |`(tactic| simp! only[$xs,*])=>`(tactic| simp only[eU,uG,rE,vd,lI,iq,ge_0,AG,p5,Bw,o8,m7,pY,pj,A4,Bh,AY,Be,BL,qg,pH,vq,j7,nF,p6,mM,uX,qb,ph,mR,pU,kB,pX,kA,kn,jg,jf,pc,nI,jd,nB,jY,nz,nq,iT,ng,j3,nY,nM,kD,jM,nK,nE,A7,uQ,Bz,AU,AF,pP,mO,o9,nG,mQ,BM,Bo,Px,Py,N3,N2,Og,Oy,K0,env0,List.replicate,Pz,NM,OW,Nat.reduceAdd,Nat.reduceSub,N6,N7,pR,qc,uH,pL,pW,pK,jb,p4,uh,ux,vh,pE,jV,ke,jZ,jW,j5,j4,ox,uR,ug,uq,uW,uw,km,kr,gS,gV,pS,je,h7,hU,ig,kZ,lV,gW,gQ,kE,j6,nN,mU,kz,nJ,pf,pM,nD,nu,gN,if_true,if_false,PB,PC,Oe,$xs,*])
theorem Cq{x:Str}{n:Int}(h:1<=n)(h':n<=1000)(hx:x.length<=1000):sI (.str x) (.int n)=some (.str (kc x n)):=by
 show(if decide (1<=n/\n<=1000/\x.length<=1000)then some (D.str (kc x n))else none)=_;rw[decide_eq_true ⟨h,h',hx⟩];rfl
theorem ip(x:Int)(h0:0<=x)(h1:x<2147483700):∃y:Int,0<=y/\y<2147483647/\bb aW 1 1 [.int x]=.ok (.int y):=by
 have m1:=qO (i:=x) (j:=x) ‹0› ‹0›;have m2:=qO (i:=48271) (j:=x) (by decide) (by decide);have g:=λi=>fP (i:=i) (show(0:Int)<2147483647 by decide);refine⟨(x*x+48271*x+11)%2147483647,PD _ (by decide),PF _ (by decide),?_⟩;rw[pD];unfold aW;simp! only[m1,m2,g]
theorem vU(ns:List Int)(k:Nat)(hk:k<=100):∃y:Int,0<=y/\y<2147483647/\bb cQ 2 3 [.lst (ns.map .int),.int k]=.ok (.int y):=by
 obtain⟨c,ec⟩:=TD.J7 ns k ‹0›;have m1:=qO (i:=69621) (j:=(k:Int)) (by decide) (by decide);have m2:=qU (i:=69621*(k:Int)) (j:=(k:Int)) ‹0› ‹0›;have g:=λi=>fP (i:=i) (show(0:Int)<2147483647 by decide);obtain⟨y1,a1,b1,e1⟩:=ip ((c%2147483647+69621*(k:Int)*(k:Int)+5)%2147483647) (PD _ (by decide)) (by have:=PF (c%2147483647+69621*(k:Int)*(k:Int)+5) (show(0:Int)<2147483647 by decide);omega);obtain⟨y2,a2,b2,e2⟩:=ip y1 a1 ‹0›;refine⟨y2,a2,b2,?_⟩;rw[eG];unfold cQ;simp! only[ec,g,m1,m2,e1,e2]
theorem vM{i:Nat}{fk fv:FX}{k:Ks}{ρ:aw}{al:List (Key×D)}{q:Key}{d v:D}(h:ρ[i]?=some (some (.own (wH al))))(ek:fk ρ=.ok d)(hd:d=bM q)(ev:fv ρ=.ok v)(hl:al.length<=1000):
  nT i fk fv k ρ=k.nx (ρ.set i (some (.own (wH (qI al q v))))):=by
 subst hd;have e:uP (iB al) (al.map (·.2)) (bM q) v=some (qI al q v):=by
  unfold uP;rw[uT];show(keyOf (bM q)).bind _=_;rw[kH];show(if small al.length then _ else _)=_;rw[dZ ‹0›];rfl
 unfold nT;rw[h];show tx ((fv ρ).bind λv=>(fk ρ).bind λq=>rO (uP (iB al) (al.map (·.2)) q v)) k ρ _=_;rw[ev,eU,ek,eU,e];rfl
abbrev zD(ws:List Str):List (Key×D):=ws.map λw=>((.inr w:Key),D.bl true)
abbrev wd(ws:List Str):D:=wH (zD ws)
def pF(ws:List Str)(w:Str):List Str:=if w∈ws then ws else ws++[w]
theorem yJ(ws:List Str)(w:Str):qI (zD ws) (.inr w) (.bl true)=zD (pF ws w):=by
 have e:((zD ws).any λp=>decide (p.1=(.inr w:Key)))=decide (w∈ws):=by
  induction ws with
  |nil=>simp
  |cons a ws ih=>
   show(decide ((.inr a:Key)=.inr w)||(zD ws).any λp=>decide (p.1=(.inr w:Key)))=_;rw[ih];by_cases z:a=w
   ·subst z;simp
   ·have z':¬(.inr a:Key)=.inr w:=λq=>z (Sum.inr.inj q);have z2:¬w=a:=λq=>z q.symm;simp[z',z2]
 unfold qI pF;rw[e];by_cases h:w∈ws
 ·rw[if_pos (by simpa using h),if_pos h];show(ws.map _).map _=_;rw[Ph];refine Oz λa _=>?_;show(if(.inr a:Key)=.inr w then((.inr a:Key),D.bl true)else((.inr a:Key),D.bl true))=_;split<;>rfl
 ·rw[if_neg (by simpa using h),if_neg h];show _=(ws++[w]).map _;rw[OA];rfl
theorem v6{ws:List Str}(w:Str)(h:ws.Nodup):(pF ws w).Nodup:=by
 unfold pF;split
 ·exact h
 ·rename_i z;exact List.nodup_append.mpr ⟨h,List.nodup_cons.mpr ⟨by simp,Oa⟩,λa ha b hb e=>by
   rw[Pn]at hb;subst hb e;exact z ha⟩
theorem sL(ws:List Str)(w:Str):(pF ws w).length<=ws.length+1:=by
 unfold pF;split
 ·omega
 ·simp
theorem FD(ws:List Str):iB (zD ws)=ws.map D.str:=by
 show(ws.map _).map _=_;rw[Ph];rfl
theorem De(ws:List Str):keysOf (iB (zD ws))=some (ws.map .inr):=by
 rw[show iB (zD ws)=(ws.map (.inr:Str->Key)).map bM from by rw[FD,Ph];rfl];exact cJ _
theorem Fq(ws:List Str):ud [wd ws]=some (.int ws.length):=by
 show(keysOf (iB (zD ws))).bind _=_;rw[De];show some (D.int ((ws.map _).length:Int))=_;rw[NW]
theorem xL(ws:List Str):mE [wd ws]=some (.lst (ws.map .str)):=by
 show(keysOf (iB (zD ws))).bind _=_;rw[De];show some (D.lst (iB (zD ws)))=_;rw[FD]
theorem rh(is:List Nat)(f:aw->R Bool)(ρ:aw):mi is f ρ=Ds (f (frzs is ρ)):=nr rfl
theorem G9(i:Nat)(ρ:aw):frzs [i] ρ=frz i ρ:=nr rfl
theorem DV(i:Int)(k:Nat):y9 (.int i) (.int k)=some (.int (i/2^k)):=by
 show(if decide (0<=(k:Int))then some (D.int (i/2^(k:Int).toNat))else none)=_;rw[decide_eq_true ‹0›];rfl
theorem we(i j:Int):sB (.int i) (.int j)=some (.int (Builtin.bitAnd i j)):=nr rfl
theorem Ii(a b c d:D):lJ [a,b,c,d]=some (.lst [a,b,c,d]):=nr rfl
theorem MN(a b c d e f g h:D):lJ [a,b,c,d,e,f,g,h]=some (.lst [a,b,c,d,e,f,g,h]):=nr rfl
theorem Nh(a b c d:D)(i:Int)(h0:0<=i)(h1:i<4):∃x∈[a,b,c,d],aB (.lst [a,b,c,d]) (.int i)=some x:=by
 rcases(show i=0\/i=1\/i=2\/i=3 by omega)with z|z|z|z<;>subst z
 ·exact⟨a,by simp,rfl⟩
 ·exact⟨b,by simp,rfl⟩
 ·exact⟨c,by simp,rfl⟩
 ·exact⟨d,by simp,rfl⟩
theorem Gu(B:cG)(n:Nat)(a b c d e f:D):bb B 6 n [a,b,c,d,e,f]=B K0 (env0 n [a,b,c,d,e,f]):=nr rfl
theorem vV{α:Type}{ρ:aw}{g:GF}{C:aw->R Bool}{Fe:FX}(mk:α->D)(p:α->Bool)(v:α->D):∀xs:List α,(∀a∈xs,∃ρ1,g (mk a) ρ=some ρ1/\C ρ1=.ok (p a)/\(p a=true->Fe ρ1=.ok (v a)))->
  A3 ρ g C Fe (xs.map mk)=.ok ((xs.filter p).map v)
 |[],_=>rfl
 |a::xs,h=>by
  obtain⟨ρ1,h1,h2,h3⟩:=h a Nu;rw[N3,oR,h1,iq,eU,h2,lI,eU,vV mk p v xs λb hb=>h b (Nv _ hb)];cases e:p a with
  |true=>rw[if_pos rfl,h3 e,lI,eU,O7 e];rfl
  |false=>rw[if_neg NF,O8 (by simp[e])]
def mx(a b:Int):Int:=if b>a then b else a
local macro_rules
 |`(tactic| simp! only[$xs,*])=>`(tactic| simp only[eU,uG,rE,vd,lI,iq,ge_0,AG,p5,Bw,o8,m7,pY,pj,A4,Bh,AY,Be,BL,qg,pH,vq,j7,nF,p6,mM,uX,qb,ph,mR,pU,kB,pX,kA,kn,jg,jf,pc,nI,jd,nB,jY,nz,nq,iT,ng,j3,nY,nM,kD,jM,nK,nE,A7,uQ,Bz,AU,AF,pP,mO,o9,nG,mQ,BM,Bo,Px,Py,N3,N2,Og,Oy,K0,env0,List.replicate,Pz,NM,OW,Nat.reduceAdd,Nat.reduceSub,N6,N7,pR,qc,uH,pL,pW,pK,jb,p4,uh,ux,vh,pE,jV,ke,jZ,jW,j5,j4,ox,uR,ug,uq,uW,uw,km,kr,gS,gV,pS,je,h7,hU,ig,kZ,lV,gW,gQ,kE,j6,nN,mU,kz,nJ,pf,pM,nD,nu,gN,if_true,if_false,PB,PC,Oe,$xs,*])
def LT:List Nat:=("abcdefghijklmnopqrstuvwxyz":Str).cps.toList
theorem B7:∀a<26,∀b<26,LT[a]?=LT[b]?->a=b:=by decide +kernel
def stp(b:Int):Int:=([1,5,7,11,13,23]:List Int).getD (b%6).toNat 0
def kk(b k:Int):Int:=(k*stp b+b/6)%24
def jz(b:Int):Int:=b/144/24%(1+b/144/3%8)
def yp(b k:Int)(w:Str):Prop:=
 (b/144%3=0->w.length=(1+kk b k%8).toNat/\w.cps.toList[0]?=LT[((b/144/3+kk b k/8)%26).toNat]?)/\
 (b/144%3≠0->w.cps.toList[(jz b).toNat]?=LT[((b/144/(24+11*jz b*jz b)+kk b k)%26).toNat]?)
theorem Jh(b k:Int):0<=kk b k/\kk b k<24:=⟨PD _ (by decide),PF _ (by decide)⟩
theorem GU{b k1 k2:Int}(a1:0<=k1)(a2:k1<24)(b1:0<=k2)(b2:k2<24)(h:kk b k1=kk b k2):k1=k2:=by
 unfold kk stp at h;rcases(show b%6=0\/b%6=1\/b%6=2\/b%6=3\/b%6=4\/b%6=5 by omega)with z|z|z|z|z|z<;>rw[z]at h<;>simp at h<;>omega
theorem EW{b k1 k2:Int}{w:Str}(a1:0<=k1)(a2:k1<24)(b1:0<=k2)(b2:k2<24)(h1:yp b k1 w)(h2:yp b k2 w):k1=k2:=by
 refine GU (b:=b) a1 a2 b1 b2 ?_;have q1:=Jh b k1;have q2:=Jh b k2;by_cases z:b/144%3=0
 ·obtain⟨l1,e1⟩:=h1.1 z;obtain⟨l2,e2⟩:=h2.1 z
  have:=B7 _ ‹0› _ ‹0› (e1.symm.trans e2)
  omega
 ·have:=B7 _ ‹0› _ ‹0› ((h1.2 z).symm.trans (h2.2 z))
  omega
theorem zk(x:Str)(h:x.length<=1000)(i:Int)(h0:0<=i)(h1:i<x.length):∃y:Str,y.length=1/\y.cps.toList[0]?=x.cps.toList[i.toNat]?/\aB (.str x) (.int i)=some (.str y):=by
 have hl:x.cps.toList.length=x.length:=by simp[Str.length]
 have hi:i<x.cps.toList.length:=by omega
 have hn:i.toNat<x.cps.toList.length:=by omega
 refine⟨⟨#[x.cps.toList[i.toNat]'hn]⟩,rfl,?_,?_⟩
 ·rw[Oq hn];rfl
 ·show(if small x.length then(ou x.cps.toList i).bind λc=>some (D.str ⟨#[c]⟩)else none)=_;rw[dZ ‹0›,if_pos rfl,qR h0 hi];rfl
theorem vg(c:Array Nat)(hc:0<c.size):∀(n:Nat)(a:Array Nat),((List.replicate n c).foldl (·++·) a).toList[0]?=if a.size=0 then(if n=0 then none else c.toList[0]?)else a.toList[0]?
 |0,a=>by
  rw[Pz,List.foldl_nil];split
  ·rename_i h;simp[h]
  ·rfl
 |n+1,a=>by
  rw[O1,O2,vg c hc n (a++c)]
  have:¬(a++c).size=0:=by rw[Array.size_append];omega
  rw[if_neg this,Array.toList_append];by_cases h:a.size=0
  ·rw[if_pos h,if_neg ‹0›,NQ (by simp[h])];simp[h]
  ·rw[if_neg h,NS (by simp;omega)]
theorem Do{y:Str}{n:Int}(h:1<=n)(hy:y.length=1):(kc y n).cps.toList[0]?=y.cps.toList[0]?:=by
 unfold kc;split
 ·rfl
 ·have hc:0<y.cps.size:=by have:y.cps.size=1:=hy;omega
  rw[vg y.cps hc n.toNat #[]];split
  ·rw[if_neg ‹0›]
  ·rename_i z;exact absurd rfl z
theorem zY(x y:Str):(x++y).cps.toList=x.cps.toList++y.cps.toList:=by
 show(x.cps++y.cps).toList=_;rw[Array.toList_append]
theorem wq(x:Str):x.cps.toList.length=x.length:=by simp[Str.length]
theorem Ah(b k:Int)(hb:0<=b)(hk:0<=k):∃w:Str,bb bY 2 7 [.int b,.int k]=.ok (.str w)/\yp b k w:=by
 have LL:(("abcdefghijklmnopqrstuvwxyz":Str)).length=26:=by decide +kernel
 have hLT:LT=("abcdefghijklmnopqrstuvwxyz":Str).cps.toList:=rfl;generalize hL:("abcdefghijklmnopqrstuvwxyz":Str)=L at LL hLT;have g3:=λi=>fP (i:=i) (show(0:Int)<3 by decide);have g6:=λi=>fP (i:=i) (show(0:Int)<6 by decide);have g8:=λi=>fP (i:=i) (show(0:Int)<8 by decide);have g24:=λi=>fP (i:=i) (show(0:Int)<24 by decide);have g26:=λi=>fP (i:=i) (show(0:Int)<26 by decide);have d3:=λi=>mj (i:=i) (show(0:Int)<3 by decide) (show(3:Int)<10^200 by decide);have d6:=λi=>mj (i:=i) (show(0:Int)<6 by decide) (show(6:Int)<10^200 by decide);have d8:=λi=>mj (i:=i) (show(0:Int)<8 by decide) (show(8:Int)<10^200 by decide);have d24:=λi=>mj (i:=i) (show(0:Int)<24 by decide) (show(24:Int)<10^200 by decide);have d144:=λi=>mj (i:=i) (show(0:Int)<144 by decide) (show(144:Int)<10^200 by decide);obtain⟨st,hst,hstp,est⟩:∃st:Int,(0<=st/\st<=25)/\stp b=st/\aB (.lst [.int 1,.int 5,.int 7,.int 11,.int 13,.int 23]) (.int (b%6))=some (.int st):=by
  rcases(show b%6=0\/b%6=1\/b%6=2\/b%6=3\/b%6=4\/b%6=5 by omega)with z|z|z|z|z|z<;>rw[z]
  ·exact⟨1,by decide,by unfold stp;rw[z];rfl,rfl⟩
  ·exact⟨5,by decide,by unfold stp;rw[z];rfl,rfl⟩
  ·exact⟨7,by decide,by unfold stp;rw[z];rfl,rfl⟩
  ·exact⟨11,by decide,by unfold stp;rw[z];rfl,rfl⟩
  ·exact⟨13,by decide,by unfold stp;rw[z];rfl,rfl⟩
  ·exact⟨23,by decide,by unfold stp;rw[z];rfl,rfl⟩
 have l6:∀a b c d e f:D,lJ [a,b,c,d,e,f]=some (.lst [a,b,c,d,e,f]):=λ_ _ _ _ _ _=>rfl;have ms:=qU (i:=k) (j:=st) ‹0› ‹0›;have hkk:kk b k=(k*st+b/6)%24:=by unfold kk;rw[hstp]
 generalize hk':(k*st+b/6)%24=k' at hkk;have k1:0<=k'/\k'<24:=by omega
 have hP:∀w,yp b k w=((b/144%3=0->w.length=(1+kk b k%8).toNat/\w.cps.toList[0]?=LT[((b/144/3+kk b k/8)%26).toNat]?)/\(b/144%3≠0->w.cps.toList[(jz b).toNat]?=LT[((b/144/(24+11*jz b*jz b)+kk b k)%26).toNat]?)):=λ_=>rfl;have hj:jz b=b/144/24%(1+b/144/3%8):=rfl;generalize hb':b/144=b' at hP hj;generalize jz b=j0 at hP hj;rw[hkk]at hP;simp only[hP];have b0:0<=b':=by omega
 rw[eG];unfold bY;by_cases h:b'%3=0
 ·have h':(b'%3==0)=true:=by simp[h]
  obtain⟨y,hy,hy0,e1⟩:=zk L ‹0› ((b'/3+k'/8)%26) ‹0› ‹0›;have mu:=Cq (x:=y) (n:=1+k'%8) ‹0› ‹0› ‹0›;refine⟨kc y (1+k'%8),?_,λ_=>⟨by rw[xU ‹0›,hy,Nat.mul_one],by rw[Do ‹0› hy,hy0,hLT]⟩,λz=>absurd h z⟩;simp! only[hL,g6,l6,est,ms,d6,g24,hk',d144,hb',g3,h',d3,d8,g26,e1,g8,mu]
 ·have h':(b'%3==0)=false:=by simp[h]
  obtain⟨n,hn,hn1,hn2⟩:∃n:Nat,1+b'/3%8=(n:Int)/\1<=n/\n<=8:=⟨(1+b'/3%8).toNat,by omega,by omega,by omega⟩
  rw[hn]at hj;have hj1:0<=j0/\j0<(n:Int):=by rw[hj];exact⟨PD _ ‹0›,PF _ ‹0›⟩
  have rn:=ku n ‹0›;obtain⟨T,hT⟩:∃T:cG,T=(aH (lu (iw (af (ai 3) (av))) (gN 5) (aH (bI 6 (f2 dI (ai 0) (f2 bV (fC (.int 24)) (f2 oT (f2 oT (fC (.int 11)) (ai 5)) (ai 5))))) (aH (jx (fB (f2 j8 (ai 5) (f2 cM (f2 dI (ai 0) (fC (.int 24))) (ai 3)))) (bI 6 (f2 bV (ai 6) (ai 1))) (cB)) (aH (bI 4 (f2 bV (ai 4) (f2 aB (ai 2) (f2 cM (ai 6) (fC (.int 26)))))) (eP [5,6] cB))))) (bP (ai 4))):=⟨_,rfl⟩
  have key:∃w:Str,(w.cps.toList[j0.toNat]?=LT[((b'/(24+11*j0*j0)+k')%26).toNat]?)/\T K0 [some (.val (.int b')),some (.val (.int k')),some (.val (.str L)),some (.val (.int n)),some (.val (.str "")),none,none]=.ok (.str w):=by
   rw[hT,iT,jM];simp! only[rn];refine eL (Q:=λz=>∃w:Str,(w.cps.toList[j0.toNat]?=LT[((b'/(24+11*j0*j0)+k')%26).toNat]?)/\z=.ok (.str w)) (λi ρ=>∃w:Str,w.length=i/\(j0<(i:Int)->w.cps.toList[j0.toNat]?=LT[((b'/(24+11*j0*j0)+k')%26).toNat]?)/\ρ=[some (.val (.int b')),some (.val (.int k')),some (.val (.str L)),some (.val (.int n)),some (.val (.str w)),none,none]) ?_ ?_ ?_
   ·rintro i d ρ kx hd ⟨w,hw,hw2,rfl⟩;have hi:=du hd;rw[cX]at hi;have hdi:d=.int (i:Int):=by
     rw[ky,NT,OD hi]at hd;cases hd;simp
    subst hdi;have m1:=qO (i:=11) (j:=(i:Int)) (by decide) (by decide);have m2:=qU (i:=11*(i:Int)) (j:=(i:Int)) ‹0› ‹0›;have ii:0<=11*(i:Int)*(i:Int):=Int.mul_nonneg ‹0› ‹0›;have ii2:11*(i:Int)*(i:Int)<=11*8*8:=Int.mul_le_mul ‹0› ‹0› ‹0› (by decide);have dd:=λz=>mj (i:=z) (show(0:Int)<24+11*(i:Int)*(i:Int)by omega) (show 24+11*(i:Int)*(i:Int)<10^200 by
     have:(10:Int)^200>10000:=by decide +kernel
     omega)
    have gn:=λz=>fP (i:=z) (show(0:Int)<(n:Int)by omega);generalize hs:b'/(24+11*(i:Int)*(i:Int))=s;by_cases hq:((i:Int)==b'/24%(n:Int))=true
    ·obtain⟨y,hy,hy0,e1⟩:=zk L ‹0› ((s+k')%26) ‹0› ‹0›;have ad:=iD w y ‹0› ‹0›;refine⟨_,_,rfl,⟨w++y,by rw[Ac];omega,λ_=>?_,rfl⟩,?_⟩
     ·have eq:(i:Int)=b'/24%(n:Int):=(by simpa using hq);rw[<-hj]at eq;subst eq;rw[zY,NQ (by rw[wq];omega),wq,hw,NX,Pw,hy0,hLT,<-hs]
     simp! only[m1,m2,dd,hs,d24,gn,hq,g26,e1,ad]
    ·have hq':((i:Int)==b'/24%(n:Int))=false:=(by simpa using hq);obtain⟨y,hy,hy0,e1⟩:=zk L ‹0› (s%26) ‹0› ‹0›;have ad:=iD w y ‹0› ‹0›;refine⟨_,_,rfl,⟨w++y,by rw[Ac];omega,λz=>?_,rfl⟩,?_⟩
     ·have ne:j0≠(i:Int):=λq=>hq (by rw[<-q,<-hj];simp);rw[zY,NS (by rw[wq];omega)];exact hw2 ‹0›
     simp! only[m1,m2,dd,hs,d24,gn,hq',g26,e1,ad]
   ·exact⟨"",by decide +kernel,λz=>by omega,rfl⟩
   ·rintro ρ' ⟨w,hw,hw2,rfl⟩;rw[cX]at hw2;exact⟨w,hw2 ‹0›,by simp! only[]⟩
  obtain⟨w,hw,ew⟩:=key;refine⟨w,?_,λz=>absurd z h,λ_=>hw⟩;rw[<-hT];simp only[K0]at ew;simp! only[hL,g6,l6,est,ms,d6,g24,hk',d144,hb',g3,h',d3,g8,hn,ew]
theorem ra:∀{σ:List Bool}{a:List D},Sh σ a->∃q:List Key,a=q.map bM
 |_,_,.nil=>⟨[],rfl⟩
 |_,_,.int i h=>by
  obtain⟨q,e⟩:=ra h;exact⟨.inl i::q,by rw[N3,e];rfl⟩
 |_,_,.str x h=>by
  obtain⟨q,e⟩:=ra h;exact⟨.inr x::q,by rw[N3,e];rfl⟩
theorem rp:∀{p q:List Key},p.map bM=q.map bM->p=q:=λ{p q} h=>by
 have:=congrArg keysOf h
 rw[cJ,cJ]at this;exact Option.some.inj this
section
open Classical
variable(m:Nat)
noncomputable def MU(acc:List (List D))(r:List D):List (List D):=if r.take m∈acc then acc else acc++[r.take m]
noncomputable def fs(t:List (List D)):List (List D):=t.foldl (MU m) []
noncomputable def gp(t:List (List D))(f:List D):List (List D):=(t.filter λr=>decide (r.take m=f)).map (List.drop m)
noncomputable def flat(t:List (List D)):List (List D):=(fs m t).flatMap λf=>(gp m t f).map (f++·)
end
open Classical in
theorem uA(al:List (List Key×D))(q:List Key)(v:D):(iI al q v).map (·.1)=if q∈al.map (·.1)then al.map (·.1)else al.map (·.1)++[q]:=by
 have e:(al.any λp=>decide (p.1=q))=true↔q∈al.map (·.1):=by
  rw[List.any_eq_true,List.mem_map];simp only[decide_eq_true_eq]
 unfold iI;by_cases h:q∈al.map (·.1)
 ·rw[if_pos (e.mpr h),if_pos h,Ph];refine Oz λp _=>?_;show(if p.1=q then(p.1,v)else p).1=p.1;split<;>rfl
 ·rw[if_neg λz=>h (e.mp z),if_neg h,OA];rfl
theorem CI{al:List (List Key×D)}{q:List Key}{v:D}{p:List Key×D}(h:p∈iI al q v):p∈al\/p=(q,v):=by
 unfold iI at h;split at h
 ·obtain⟨a,ha,e⟩:=List.mem_map.mp h;by_cases z:a.1=q
  ·rw[if_pos z]at e;exact .inr (by rw[<-e,z])
  ·rw[if_neg z]at e;exact .inl (by rw[<-e];exact ha)
 ·rcases List.mem_append.mp h with z|z
  ·exact .inl z
  ·exact .inr (List.mem_singleton.mp z)
theorem D6{al:List (List Key×D)}(q:List Key)(v:D)(h:(al.map (·.1)).Nodup):((iI al q v).map (·.1)).Nodup:=by
 rw[uA];split
 ·exact h
 ·rename_i z;exact List.nodup_append.mpr ⟨h,by simp,λa ha b hb e=>by
   rw[List.mem_singleton.mp hb]at e;rw[e]at ha;exact z ha⟩
theorem CY(al:List (List Key×D))(q:List Key)(v:D):(iI al q v).length<=al.length+1:=by
 have:=congrArg List.length (uA al q v)
 rw[NW]at this;rw[this];split<;>simp
theorem rT:∀{al:List (List Key×D)}{p:List Key×D},(al.map (·.1)).Nodup->p∈al->pI al p.1=some p.2
 |a::al,p,h,hp=>by
  obtain⟨h1,h2⟩:=List.nodup_cons.mp (by simpa using h:(a.1::al.map (·.1)).Nodup);unfold pI;by_cases e:a.1=p.1
  ·rw[Pt (by simpa using e)];rcases List.mem_cons.mp hp with z|z
   ·rw[z];rfl
   ·exact absurd (show a.1∈al.map (·.1)from by rw[e];exact List.mem_map.mpr ⟨p,z,rfl⟩) h1
  ·rw[Pu (by simpa using e)];rcases List.mem_cons.mp hp with z|z
   ·exact absurd (by rw[z]) e
   ·exact rT h2 z
theorem zU(al:List (List Key×D)):DX (encK al) (al.map (·.2))=some al:=by
 cases al with
 |nil=>rfl
 |cons p al=>exact oY (p::al)
theorem B3(al:List (List Key×D)):qf [fh al]=some (.lst (encK al)):=by
 show(DX (encK al) (al.map (·.2))).bind _=_;rw[zU];rfl
theorem C9(al:List (List Key×D))(q:List Key):sF (fh al) (.tup (q.map bM))=pI al q:=by
 show(DX (encK al) (al.map (·.2))).bind _=_;rw[zU];show(jT (.tup (q.map bM))).bind _=_;rw[rX];rfl
theorem E7{al:List (List Key×D)}{σ:List Bool}(nd:(al.map (·.1)).Nodup)(hs:∀p∈al,Sh σ (p.1.map bM))(h0:σ≠[])(hl:al.length<64):fI [.lst (encK al)]=some (.lst (jG eM (encK al)))/\xK eM (jG eM (encK al)):=by
 have hx:∀x∈encK al,∃k,x=.tup k/\Sh σ k:=λx hx=>by
  obtain⟨p,hp,rfl⟩:=List.mem_map.mp hx;exact⟨_,rfl,hs p hp⟩
 have pw:(encK al).Pairwise λx y=>eM x≠eM y:=by
  rw[Pa]
  have:=List.pairwise_map.mp nd
  exact this.imp λ{a b} ne e=>ne (rp e)
 have a:HN (encK al):=⟨by rw[NW];exact hl,σ,h0,hx,pw⟩
 refine⟨?_,qo (σ:=σ) (λx h=>by obtain⟨k,e,s⟩:=hx x h;rw[e];exact s) pw⟩;show qD (encK al)=_;unfold qD;rw[if_pos a]
theorem Aa:∀vs:List D,(∀v∈vs,∃r,v=.tup r)->∃t:List (List D),vs=t.map .tup
 |[],_=>⟨[],rfl⟩
 |v::vs,h=>by
  obtain⟨r,e⟩:=h v Nu;obtain⟨t,et⟩:=Aa vs λv hv=>h v (Nv _ hv);exact⟨r::t,by rw[e,et];rfl⟩
def AL:Nat->D->Prop
 |0,d=>(∃i,d=.int i)\/∃x,d=.str x
 |n+1,d=>((∃i,d=.int i)\/∃x,d=.str x)\/∃ds,d=.tup ds/\ds.length<=1000/\∀x∈ds,AL n x
theorem AL.of0{d:D}(h:AL 0 d):∀n,AL n d
 |0=>h
 |_+1=>.inl h
theorem AL.up:∀{n:Nat}{d:D},AL n d->AL (n+1) d
 |0,_,h=>.inl h
 |n+1,_,h=>by
  rcases h with h|⟨ds,e,l,f⟩
  ·exact .inl h
  ·exact .inr ⟨ds,e,l,λx hx=>AL.up (f x hx)⟩
theorem AL.le{n m:Nat}(h:n<=m){d:D}(hd:AL n d):AL m d:=by
  induction m with
  | zero => have : n = 0 := by omega
            subst this;exact hd
  |succ m ih=>
    by_cases e:n=m+1
    ·subst e;exact hd
    ·exact AL.up (ih ‹0›)
theorem AL.tup{n:Nat}{ds:List D}(l:ds.length<=1000)(h:∀x∈ds,AL n x):AL (n+1) (.tup ds):=.inr ⟨ds,rfl,l,h⟩
theorem xF:∀{σ:List Bool}{a:List D},Sh σ a->∀x∈a,AL 0 x
 |_,_,.int i h,x,hx=>by
  rcases List.mem_cons.mp hx with z|z
  ·exact .inl ⟨i,z⟩
  ·exact xF h x z
 |_,_,.str i h,x,hx=>by
  rcases List.mem_cons.mp hx with z|z
  ·exact .inr ⟨i,z⟩
  ·exact xF h x z
end T4
namespace Tk50
open PySem PySem.Spec L2 TG TX TD
def top(i:Nat):Rl:=PySem.Challenge.pw_twoglass_k50_joined.main.body.getD i (.Pass ⟨0,0,0,0⟩)
abbrev gz:Rl:=top 32
theorem tV:bf ["_law_found","_law_due","_law_one","_law_other"] ["_law_found","_law_due"] (aA gz):=‹2›
def cH(aG:List D->R D):cG:=aH (jx (eS (qL "str" (ai 1))) (bP (qA (qL "str" (ai 0)) (f2 j8 (ai 0) (ai 1)))) (cB)) (aH (jx (BV (eS (qL "bool" (ai 1))) (eS (qL "bool" (ai 0)))) (bP (qA (qL "bool" (ai 1)) (qA (qL "bool" (ai 0)) (f2 j8 (ai 0) (ai 1))))) (cB)) (aH (jx (eS (qL "int" (ai 1))) (bP (qA (qL "int" (ai 0)) (f2 j8 (ai 0) (ai 1)))) (cB)) (aH (jx (BV (sN (eS (qL "tuple" (ai 0)))) (fB (f2 wf (fL iL (af (ai 0) (av))) (fL iL (af (ai 1) (av)))))) (bP (fC (.bl false))) (cB)) (aH (lu (wo (af (ai 0) (af (ai 1) (av)))) (gT 2 (oo [2,3])) (aH (jx (sN (eS (fR aG (af (ai 2) (af (ai 3) (av)))))) (bP (fC (.bl false))) (cB)) (eP [2,3] cB))) (bP (fC (.bl true)))))))
def aG:Nat->List D->R D
 |0=>λ_=>un
 |n+1=>bb (cH (aG n)) 2 4
theorem jN(n:Nat):aG (n+1)=bb (cH (aG n)) 2 4:=by rw[aG]
theorem cx:∀n:Nat,Ar 2 (aG n)
 |0=>λ_ h=>absurd (by rw[aG]) h
 |n+1=>by rw[jN];exact aP
abbrev kN:Rl:=inClass (top 17) 2
theorem qq:bf ["self","forms","tables"] ["self","forms","tables"] (aA kN):=‹2›
def dB:cG:=bP (f2 aB (ai 2) (fC (.int 0)))
abbrev oG:Rl:=top 14
theorem Bt:bf ["many","rows"] ["many","rows"] (aA oG):=‹2›
def gH:cG:=bP (fL vx (af (jy [none,some 0] (bK (ai 1)) (gN 0) (dA) (bF (af (bD (ai 0) (bc) (ce (ai 1))) (af (ai 0) (av))))) (av)))
abbrev kT:Rl:=inClass (top 18) 2
theorem qz:bf ["self","forms","tables","many","others"] ["self","forms","tables"] (aA kT):=‹2›
def cy:cG:=aH (bI 3 (fL iL (af (f2 aB (f2 aB (ai 1) (fC (.int 0))) (fC (.int 0))) (av)))) (aH (bI 4 (fR (bb gH 2 2) (af (ai 3) (af (f2 aB (ai 2) (fC (.int 1))) (av))))) (bP (fL cq (af (jy [none,some 4,some 3] (bK (f2 aB (ai 2) (fC (.int 0)))) (gN 0) (fB (f2 yH (bD (ai 0) (bc) (ce (ai 2))) (ai 1))) (f2 bV (ai 0) (bD (f2 sF (ai 1) (bD (ai 0) (bc) (ce (ai 2)))) (ce (ai 2)) (bc)))) (av)))))
abbrev fg:Rl:=inClass (top 17) 1
theorem jA:bf ["self","one","other"] ["self","one","other"] (aA fg):=‹2›
def cj:cG:=bP (ai 1)
abbrev iX:Rl:=top 9
theorem tJ:bf ["one","other","words"] ["one","other"] (aA iX):=‹2›
def gE:cG:=aH (bI 2 (fL cq (af (jy [none,some 1] (bK (f2 aB (ai 0) (fC (.int 1)))) (gN 0) (fB (f2 Av (ai 0) (f2 aB (ai 1) (fC (.int 1))))) (ai 0)) (av)))) (bP (IX (eS (ai 2)) (bF (af (fC (.str "word")) (af (ai 2) (av)))) (fC .non)))
abbrev fY:Rl:=top 8
theorem qK:bf ["one","other","low","high"] ["one","other"] (aA fY):=‹2›
def eT:cG:=aH (bI 2 (fL oV (af (f2 aB (ai 0) (fC (.int 1))) (af (f2 aB (ai 1) (fC (.int 1))) (av))))) (aH (bI 3 (fL rz (af (f2 aB (ai 0) (fC (.int 2))) (af (f2 aB (ai 1) (fC (.int 2))) (av))))) (bP (IX (fB (f2 MD (ai 2) (ai 3))) (bF (af (fC (.str "number")) (af (ai 2) (af (ai 3) (av))))) (fC .non))))
abbrev vT:Rl:=top 7
theorem Fg:bf ["one","other"] ["one","other"] (aA vT):=‹2›
def p3:cG:=aH (jx (fB (f2 wf (f2 aB (ai 0) (fC (.int 0))) (f2 aB (ai 1) (fC (.int 0))))) (bP (fC .non)) (cB)) (aH (jx (fB (f2 j8 (f2 aB (ai 0) (fC (.int 0))) (fC (.str "number")))) (bP (fR (bb eT 2 4) (af (ai 0) (af (ai 1) (av))))) (cB)) (aH (jx (fB (f2 j8 (f2 aB (ai 0) (fC (.int 0))) (fC (.str "word")))) (bP (fR (bb gE 2 3) (af (ai 0) (af (ai 1) (av))))) (cB)) (bP (fC .non))))
abbrev iW:Rl:=top 19
theorem tE:bf ["one","other","kinds"] ["one","other"] (aA iW):=‹2›
def gl:cG:=aH (jx (fB (f2 wf (jy [none] (bK (ai 0)) (gN 0) (dA) (f2 aB (ai 0) (fC (.int 0)))) (jy [none] (bK (ai 1)) (gN 0) (dA) (f2 aB (ai 0) (fC (.int 0)))))) (si) (cB)) (aH (jx (fB (f2 wf (jy [none] (bK (ai 0)) (gN 0) (dA) (f2 aB (f2 aB (ai 0) (fC (.int 1))) (fC (.int 0)))) (jy [none] (bK (ai 1)) (gN 0) (dA) (f2 aB (f2 aB (ai 0) (fC (.int 1))) (fC (.int 0)))))) (si) (cB)) (aH (bI 2 (jy [none,none] (wo (af (ai 0) (af (ai 1) (av)))) (gT 2 (oo [0,1])) (dA) (fR (bb p3 2 2) (af (f2 aB (ai 0) (fC (.int 1))) (af (f2 aB (ai 1) (fC (.int 1))) (av)))))) (aH (jx (fB (f2 Av (fC .non) (ai 2))) (si) (cB)) (bP (fL cq (af (jy [none,none] (wo (af (ai 0) (af (ai 2) (av)))) (gT 2 (oo [0,1])) (dA) (bF (af (f2 aB (ai 0) (fC (.int 0))) (af (ai 1) (av))))) (av)))))))
abbrev fe:Rl:=inClass (top 18) 1
theorem jS:bf ["self","one","other","key","names"] ["self","one","other"] (aA fe):=‹2›
def bJ:cG:=aH (bI 3 (fR (bb gl 2 3) (af (f2 aB (ai 1) (fC (.int 0))) (af (f2 aB (ai 2) (fC (.int 0))) (av))))) (aH (bI 4 (jy [none] (bK (f2 aB (ai 1) (fC (.int 1)))) (gN 0) (dA) (f2 aB (ai 0) (fC (.int 0))))) (aH (jx (eS (fL BQ (af (jy [none,some 4] (bK (f2 aB (ai 2) (fC (.int 1)))) (gN 0) (dA) (f2 Av (f2 aB (ai 0) (fC (.int 0))) (ai 1))) (av)))) (si) (cB)) (aH (jx (fB (f2 MK (f2 bV (fL iL (af (f2 aB (ai 1) (fC (.int 1))) (av))) (fL iL (af (f2 aB (ai 2) (fC (.int 1))) (av)))) (fC (.int 8)))) (si) (cB)) (bP (bF (af (ai 3) (af (f2 bV (f2 aB (ai 1) (fC (.int 1))) (f2 aB (ai 2) (fC (.int 1)))) (av))))))))
abbrev lB:Rl:=inClass (top 17) 3
theorem xl:bf ["self","forms","tables","view"] ["self","forms","tables","view"] (aA lB):=‹2›
def ju:cG:=bP (bF (af (ai 3) (af (f2 aB (ai 2) (fC (.int 1))) (av))))
abbrev jE:Rl:=top 12
theorem vL:bf ["many","rows"] ["many","rows"] (aA jE):=‹2›
noncomputable def iC:cG:=bP (fL cq (af (f2 qj (ai 1) (ai 0)) (av)))
abbrev lg:Rl:=top 15
theorem w6:bf ["many","rows","others","taken"] ["many","rows","others"] (aA lg):=‹2›
noncomputable def fO:cG:=aH (bI 3 (fR (bb gH 2 2) (af (ai 0) (af (ai 1) (av))))) (bP (fR (bb iC 2 2) (af (ai 0) (af (f2 bV (fL zV (af (ai 1) (av))) (jy [none,some 0,some 3] (bK (ai 2)) (gN 0) (fB (f2 jC (bD (ai 0) (bc) (ce (ai 1))) (ai 2))) (ai 0))) (av)))))
abbrev lr:Rl:=inClass (top 18) 3
theorem xX:bf ["self","forms","tables","view","many","end","others","hidden","one","other"] ["self","forms","tables","view"] (aA lr):=‹2›
noncomputable def fQ:cG:=aH (bI 4 (fL iL (af (f2 aB (f2 aB (ai 1) (fC (.int 0))) (fC (.int 0))) (av)))) (aH (bI 5 (f2 bV (ai 4) (fL iL (af (f2 aB (f2 aB (ai 1) (fC (.int 0))) (fC (.int 1))) (av))))) (aH (bI 6 (fR (bb gH 2 2) (af (ai 4) (af (f2 aB (ai 2) (fC (.int 1))) (av))))) (aH (bI 7 (jy [none,some 4,some 6] (bK (f2 aB (ai 2) (fC (.int 0)))) (gN 0) (fB (f2 jC (bD (ai 0) (bc) (ce (ai 1))) (ai 2))) (ai 0))) (aH (bI 8 (fR (bb fO 3 4) (af (ai 4) (af (jy [none,some 5] (bK (ai 3)) (gN 0) (dA) (bD (ai 0) (bc) (ce (ai 1)))) (af (ai 7) (av)))))) (aH (bI 9 (fR (bb fO 3 4) (af (ai 4) (af (jy [none,some 4,some 5] (bK (ai 3)) (gN 0) (dA) (f2 bV (bD (ai 0) (bc) (ce (ai 1))) (bD (ai 0) (ce (ai 2)) (bc)))) (af (f2 aB (ai 2) (fC (.int 1))) (av)))))) (bP (bF (af (ai 8) (af (ai 9) (av))))))))))
abbrev jL:Rl:=top 22
theorem v7:bf ["_law_x"] ["_law_x"] (aA jL):=‹2›
abbrev iu:Rl:=top 30
theorem sr:bf ["_law_many","_law_rows_here","_law_found","_law_row_here"] ["_law_many","_law_rows_here"] (aA iu):=‹2›
noncomputable def bG:cG:=aH (nZ 2 vk) (aH (lu (bK (ai 1)) (gN 3) (aH (uS 2 (bD (ai 3) (bc) (ce (ai 0))) (ai 3)) (eP [3] cB))) (iN 2 (bP (fL cq (af (jy [none,some 2] (bK (fL fI (af (fL qf (af (ai 2) (av))) (av)))) (gN 0) (dA) (f2 sF (ai 1) (ai 0))) (av))))))
abbrev gg:Rl:=top 28
theorem t6:bf ["_law_kind_here","_law_x"] ["_law_kind_here","_law_x"] (aA gg):=‹2›
abbrev jm:Rl:=top 29
theorem xS:bf ["_law_form_here","_law_many","_law_head","_law_tail","_law_row_here","_law_name_here","_law_kind_here"] ["_law_form_here","_law_many","_law_head","_law_tail"] (aA jm):=‹2›
abbrev iA:Rl:=top 31
theorem vX:bf ["_law_form_here","_law_x","_law_many","_law_rows_here","_law_k"] ["_law_form_here","_law_x","_law_many"] (aA iA):=‹2›
noncomputable def gA(aD aQ aJ:List D->R D):cG:=aH (jx (fB (f2 j8 (f2 aB (ai 0) (fC (.int 0))) (fC (.str "number")))) (bP (f2 bV (f2 aB (ai 0) (fC (.int 1))) (f2 cM (f2 j9 (ai 1) (fC (.int 7))) (f2 bV (f2 AV (f2 aB (ai 0) (fC (.int 2))) (f2 aB (ai 0) (fC (.int 1)))) (fC (.int 1)))))) (cB)) (aH (jx (fB (f2 j8 (f2 aB (ai 0) (fC (.int 0))) (fC (.str "word")))) (bP (f2 aB (f2 aB (ai 0) (fC (.int 1))) (f2 cM (ai 1) (fL iL (af (f2 aB (ai 0) (fC (.int 1))) (av)))))) (cB)) (bP (fR aJ (af (f2 aB (ai 0) (fC (.int 1))) (af (f2 dI (ai 1) (fC (.int 3))) (af (fL oV (af (f2 cM (ai 1) (fC (.int 3))) (af (fL zN (af (f2 aB (ai 0) (fC (.int 2))) (av))) (av)))) (av)))))))
noncomputable def kU(aD aQ aJ:List D->R D):cG:=aH (nZ 4 (ie (av))) (aH (lu (bK (f2 bV (f2 aB (ai 0) (fC (.int 0))) (f2 aB (ai 0) (fC (.int 1))))) (gT 2 (oo [5,6])) (aH (jx (mi [4] (fB (f2 vG (fL iL (af (ai 4) (av))) (ai 1)))) (aH (bI 2 (fR (bb aW 1 1) (af (ai 2) (av)))) (ym 4 fE (af (fR aD (af (ai 6) (af (ai 2) (av)))) (av)))) (aH (bI 3 (fR (bb aW 1 1) (af (ai 3) (av)))) (ym 4 fE (af (fR aD (af (ai 6) (af (ai 3) (av)))) (av))))) (eP [5,6] cB))) (iN 4 (bP (fL cq (af (ai 4) (av))))))
noncomputable def jB(aD aQ aJ:List D->R D):cG:=aH (nZ 3 (ie (av))) (aH (lu (iw (af (ai 2) (av))) (gN 4) (aH (bI 1 (fR (bb aW 1 1) (af (ai 1) (av)))) (aH (ym 3 fE (af (fR aQ (af (ai 0) (af (fC (.int 0)) (af (fC (.int 0)) (af (ai 1) (av)))))) (av))) (eP [4] cB)))) (iN 3 (bP (fR (bb bG 2 4) (af (fL iL (af (f2 aB (ai 0) (fC (.int 0))) (av))) (af (ai 3) (av)))))))
mutual
noncomputable def aD:Nat->List D->R D
 |0=>λ_=>un
 |n+1=>bb (gA (aD n) (aQ n) (aJ n)) 2 2
noncomputable def aQ:Nat->List D->R D
 |0=>λ_=>un
 |n+1=>bb (kU (aD n) (aQ n) (aJ n)) 4 7
noncomputable def aJ:Nat->List D->R D
 |0=>λ_=>un
 |n+1=>bb (jB (aD n) (aQ n) (aJ n)) 3 5
end
theorem eJ(n:Nat):aD (n+1)=bb (gA (aD n) (aQ n) (aJ n)) 2 2:=by rw[aD]
theorem iK:∀n:Nat,Ar 2 (aD n)
 |0=>λ_ h=>absurd (by rw[aD]) h
 |n+1=>by rw[eJ];exact aP
theorem iJ(n:Nat):aQ (n+1)=bb (kU (aD n) (aQ n) (aJ n)) 4 7:=by rw[aQ]
theorem ir:∀n:Nat,Ar 4 (aQ n)
 |0=>λ_ h=>absurd (by rw[aQ]) h
 |n+1=>by rw[iJ];exact aP
theorem gR(n:Nat):aJ (n+1)=bb (jB (aD n) (aQ n) (aJ n)) 3 5:=by rw[aJ]
theorem gB:∀n:Nat,Ar 3 (aJ n)
 |0=>λ_ h=>absurd (by rw[aJ]) h
 |n+1=>by rw[gR];exact aP
abbrev gC:Rl:=top 35
theorem qM:bf ["_law_one","_law_other"] ["_law_one","_law_other"] (aA gC):=‹2›
def dN:cG:=aH (jx (fB (f2 j8 (f2 aB (ai 0) (fC (.int 0))) (fC (.str "number")))) (bP (bF (af (fC (.str "number")) (af (fL oV (af (f2 aB (ai 0) (fC (.int 1))) (af (f2 aB (ai 1) (fC (.int 1))) (av)))) (af (fL rz (af (f2 aB (ai 0) (fC (.int 2))) (af (f2 aB (ai 1) (fC (.int 2))) (av)))) (av)))))) (cB)) (bP (bF (af (fC (.str "word")) (af (fL cq (af (jy [none,some 1] (bK (f2 aB (ai 0) (fC (.int 1)))) (gN 0) (fB (f2 Av (ai 0) (f2 aB (ai 1) (fC (.int 1))))) (ai 0)) (av))) (av)))))
abbrev dX:Rl:=top 37
theorem nR:bf ["_law_one","_law_other","_law_found","_law_field","_law_more"] ["_law_one","_law_other"] (aA dX):=‹2›
def bB:cG:=aH (nZ 2 (ie (av))) (aH (lu (wo (af (f2 aB (ai 0) (fC (.int 0))) (af (f2 aB (ai 1) (fC (.int 0))) (av)))) (gT 2 (oo [3,4])) (aH (ym 2 fE (af (bF (af (f2 aB (ai 3) (fC (.int 0))) (af (fR (bb dN 2 2) (af (f2 aB (ai 3) (fC (.int 1))) (af (f2 aB (ai 4) (fC (.int 1))) (av)))) (av)))) (av))) (eP [3,4] cB))) (iN 2 (bP (fL cq (af (ai 2) (av))))))
abbrev iV:Rl:=top 41
theorem tU:bf ["_law_pair","_law_one","_law_other","_law_x","_law_first","_law_second","_law_form_here","_law_view","_law_put","_law_wide","_law_due"] ["_law_pair","_law_one","_law_other","_law_x"] (aA iV):=‹2›
noncomputable def gJ:cG:=aH (bI 4 (bF (af (bD (f2 aB (ai 1) (fC (.int 0))) (bc) (ce (fC (.int 1)))) (af (bD (f2 aB (ai 2) (fC (.int 1))) (ce (fC (.int 1))) (bc)) (av))))) (aH (bI 5 (bF (af (bD (f2 aB (ai 2) (fC (.int 0))) (bc) (ce (fC (.int 1)))) (af (f2 aB (ai 1) (fC (.int 1))) (av))))) (aH (bI 6 (bF (af (fR (bb bB 2 5) (af (ai 4) (af (ai 5) (av)))) (af (f2 bV (f2 aB (ai 4) (fC (.int 1))) (f2 aB (ai 5) (fC (.int 1)))) (av))))) (aH (bI 7 (fR (aJ 20) (af (ai 6) (af (ai 3) (af (fC (.int 4)) (av)))))) (aH (jx (sN (eS (fR (aG 20) (af (eB "view_form" [("Pair",(bb cj 3 3)),("Join",(bb bJ 3 5))] (ai 0) (af (ai 4) (af (ai 5) (av)))) (af (ai 6) (av)))))) (bP (fC (.bl false))) (cB)) (aH (bI 8 (eB "put" [("Pair",(bb ju 4 4)),("Join",(bb fQ 4 10))] (ai 0) (af (bF (af (ai 4) (af (ai 5) (av)))) (af (bF (af (bF (av)) (af (bF (av)) (av)))) (af (ai 7) (av)))))) (aH (bI 9 (f2 bV (fC (.int 1)) (fL iL (af (f2 aB (ai 4) (fC (.int 1))) (av))))) (aH (bI 10 (bF (af (fL cq (af (jy [none,some 9] (bK (ai 7)) (gN 0) (dA) (bD (ai 0) (bc) (ce (ai 1)))) (av))) (af (fL cq (af (jy [none,some 9] (bK (ai 7)) (gN 0) (dA) (f2 bV (bD (ai 0) (bc) (ce (fC (.int 1)))) (bD (ai 0) (ce (ai 1)) (bc)))) (av))) (av))))) (bP (qA (fR (aG 20) (af (ai 8) (af (ai 10) (av)))) (fR (aG 20) (af (eB "got" [("Pair",(bb dB 3 3)),("Join",(bb cy 3 5))] (ai 0) (af (bF (af (ai 4) (af (ai 5) (av)))) (af (ai 10) (av)))) (af (ai 7) (av)))))))))))))
abbrev gf:Rl:=top 21
theorem qG:bf ["_law_script","_law_k"] ["_law_script","_law_k"] (aA gf):=‹2›
abbrev jP:Rl:=top 23
theorem wm:bf ["_law_script","_law_k","_law_x"] ["_law_script","_law_k"] (aA jP):=‹2›
abbrev i5:Rl:=inClass (top 17) 0
theorem tI:bf ["self"] ["self"] (aA i5):=‹2›
def gx:cG:=bP (bF (av))
abbrev iU:Rl:=inClass (top 18) 0
theorem t7:bf ["self"] ["self"] (aA iU):=‹2›
def fm:cG:=bP (bF (af (fC (.str "join")) (av)))
abbrev il:Rl:=top 38
theorem sV:bf ["_law_fields","_law_x"] ["_law_fields","_law_x"] (aA il):=‹2›
noncomputable def cO:cG:=bP (fR (aQ 20) (af (bF (af (fL cq (af (ai 0) (av))) (af (bF (av)) (av)))) (af (fC (.int 0)) (af (fC (.int 0)) (af (ai 1) (av))))))
abbrev dF:Rl:=top 40
theorem lM:bf ["_law_one","_law_other","_law_script","_law_start","_law_most","_law_both_key","_law_rows_here","_law_k","_law_x","_law_way","_law_y","_law_key"] ["_law_one","_law_other","_law_script","_law_start","_law_most"] (aA dF):=‹2›
noncomputable def cR:cG:=aH (bI 5 (fR (bb bB 2 5) (af (ai 0) (af (ai 1) (av))))) (aH (pV 6) (aH (lu (qV (af (ai 3) (af (fL rz (af (fL oV (af (fL iL (af (ai 2) (av))) (af (f2 bV (ai 3) (fC (.int 5))) (av)))) (af (f2 bV (ai 3) (ai 4)) (av)))) (av)))) (gN 7) (aH (bI 8 (fR (bb cQ 2 3) (af (ai 2) (af (ai 7) (av))))) (aH (bI 9 (f2 cM (ai 8) (fC (.int 5)))) (aH (bI 10 (fR (bb aW 1 1) (af (ai 8) (av)))) (aH (bI 11 (fR (bb cO 2 2) (af (f2 aB (ie (af (f2 aB (ai 0) (fC (.int 0))) (af (f2 aB (ai 1) (fC (.int 0))) (af (ai 5) (af (ai 5) (af (ai 5) (av))))))) (ai 9)) (af (f2 aB (ie (af (ai 10) (af (f2 cM (ai 10) (fC (.int 7))) (av)))) (f2 cM (f2 dI (ai 8) (fC (.int 5))) (fC (.int 2)))) (av))))) (aH (jx (fB (f2 Av (ai 9) (bF (af (fC (.int 0)) (af (fC (.int 2)) (af (fC (.int 4)) (av))))))) (qC 6 0 (f2 bV (ai 11) (fR (bb cO 2 2) (af (f2 aB (ai 0) (fC (.int 1))) (af (f2 bV (ai 10) (fC (.int 1))) (av)))))) (cB)) (aH (jx (fB (f2 Av (ai 9) (bF (af (fC (.int 1)) (af (fC (.int 3)) (af (fC (.int 4)) (av))))))) (qC 6 1 (f2 bV (ai 11) (fR (bb cO 2 2) (af (f2 aB (ai 1) (fC (.int 1))) (af (f2 bV (ai 10) (fC (.int 2))) (av)))))) (cB)) (eP [7,8,9,10,11] cB)))))))) (xo 6 (bP (bF (af (fR (bb bG 2 4) (af (fL iL (af (f2 aB (ai 0) (fC (.int 0))) (av))) (af (f2 aB (ai 6) (fC (.int 0))) (av)))) (af (fR (bb bG 2 4) (af (fL iL (af (f2 aB (ai 0) (fC (.int 0))) (av))) (af (f2 aB (ai 6) (fC (.int 1))) (av)))) (av))))))))
abbrev jD:Rl:=top 24
theorem vz:bf ["_law_base","_law_k","_law_letters","_law_size","_law_name_here","_law_j","_law_step"] ["_law_base","_law_k"] (aA jD):=‹2›
abbrev iR:Rl:=top 25
theorem tW:bf ["_law_x","_law_low","_law_letters","_law_one","_law_other","_law_some","_law_kept","_law_k"] ["_law_x"] (aA iR):=‹2›
abbrev iF:Rl:=top 26
theorem v8:bf ["_law_x","_law_base","_law_deep","_law_inner"] ["_law_x","_law_base","_law_deep"] (aA iF):=‹2›
abbrev iE:Rl:=top 27
theorem wc:bf ["_law_x","_law_base","_law_start","_law_many","_law_more","_law_deep","_law_key","_law_rest","_law_k"] ["_law_x","_law_base","_law_start","_law_many","_law_more","_law_deep"] (aA iE):=‹2›
noncomputable def iG(bg aU:List D->R D):cG:=aH (jx (BV (fB (f2 j8 (ai 2) (fC (.int 0)))) (fB (f2 vG (f2 cM (ai 0) (fC (.int 3))) (fC (.int 2))))) (bP (fR (bb dq 1 8) (af (f2 dI (ai 0) (fC (.int 3))) (av)))) (cB)) (aH (bI 3 (fR aU (af (f2 dI (ai 0) (fC (.int 3))) (af (ai 1) (af (f2 cM (f2 dI (ai 0) (fC (.int 36))) (fC (.int 12))) (af (f2 bV (fC (.int 1)) (f2 cM (f2 dI (ai 0) (fC (.int 3))) (fC (.int 2)))) (af (f2 cM (f2 dI (ai 0) (fC (.int 6))) (fC (.int 3))) (af (f2 AV (ai 2) (fC (.int 1))) (av))))))))) (bP (bF (af (fC (.str "rows")) (af (ai 3) (af (f2 j8 (f2 cM (f2 dI (ai 0) (fC (.int 18))) (fC (.int 2))) (fC (.int 1))) (av)))))))
noncomputable def jH(bg aU:List D->R D):cG:=aH (nZ 6 (ie (av))) (aH (nZ 7 (ie (av))) (aH (lu (iw (af (f2 bV (ai 3) (ai 4)) (av))) (gN 8) (aH (bI 0 (fR (bb aW 1 1) (af (ai 0) (av)))) (aH (jx (fB (f2 vG (ai 8) (ai 3))) (ym 6 fE (af (bF (af (fR (bb bY 2 7) (af (ai 1) (af (f2 bV (ai 2) (ai 8)) (av)))) (af (fR (bb dq 1 8) (af (ai 0) (av))) (av)))) (av))) (ym 7 fE (af (bF (af (fR (bb bY 2 7) (af (ai 1) (af (f2 bV (ai 2) (ai 8)) (av)))) (af (fR bg (af (ai 0) (af (ai 1) (af (ai 5) (av))))) (av)))) (av)))) (eP [8] cB)))) (iN 7 (iN 6 (bP (bF (af (fL cq (af (ai 6) (av))) (af (fL cq (af (ai 7) (av))) (av)))))))))
mutual
noncomputable def bg:Nat->List D->R D
 |0=>λ_=>un
 |n+1=>bb (iG (bg n) (aU n)) 3 4
noncomputable def aU:Nat->List D->R D
 |0=>λ_=>un
 |n+1=>bb (jH (bg n) (aU n)) 6 9
end
theorem e7(n:Nat):bg (n+1)=bb (iG (bg n) (aU n)) 3 4:=by rw[bg]
theorem mL:∀n:Nat,Ar 3 (bg n)
 |0=>λ_ h=>absurd (by rw[bg]) h
 |n+1=>by rw[e7];exact aP
theorem ik(n:Nat):aU (n+1)=bb (jH (bg n) (aU n)) 6 9:=by rw[aU]
theorem gG:∀n:Nat,Ar 6 (aU n)
 |0=>λ_ h=>absurd (by rw[aU]) h
 |n+1=>by rw[ik];exact aP
abbrev eK:Rl:=top 33
theorem oa:bf ["_law_x","_law_letters","_law_one","_law_other","_law_kept","_law_word"] ["_law_x"] (aA eK):=‹2›
noncomputable def dH:cG:=aH (bI 1 (fC (.str "abcdefghijklmnopqrstuvwxyz"))) (aH (bI 2 (f2 aB (ai 1) (f2 cM (ai 0) (fC (.int 26))))) (aH (bI 3 (f2 aB (ai 1) (f2 cM (f2 dI (ai 0) (fC (.int 26))) (fC (.int 26))))) (aH (nZ 4 vk) (eP [0,1] (aH (lu (bK (ie (af (fC (.str "")) (af (ai 2) (af (ai 3) (af (f2 bV (ai 2) (ai 3)) (af (f2 bV (ai 3) (ai 2)) (af (f2 sI (ai 2) (fC (.int 8))) (af (f2 bV (ai 2) (ai 2)) (af (f2 sI (ai 3) (fC (.int 3))) (av))))))))))) (gN 5) (aH (nT 4 (ai 5) (fC (.bl true))) (eP [5] cB))) (iN 4 (bP (fL fI (af (fL mE (af (ai 4) (av))) (av))))))))))
abbrev eZ:Rl:=top 34
theorem oS:bf ["_law_x","_law_y","_law_low","_law_wide","_law_far","_law_one","_law_other","_law_some","_law_spare"] ["_law_x"] (aA eZ):=‹2›
noncomputable def dU:cG:=aH (bI 1 (fR (bb aW 1 1) (af (ai 0) (av)))) (aH (bI 2 (f2 aB (ie (af (fC (.int 0)) (af (Cz (fC (.int 3))) (af (f2 AV (fC (.int 0)) (f2 cM (f2 j9 (ai 1) (fC (.int 7))) (f2 j9 (fC (.int 10)) (fC (.int 59))))) (af (f2 cM (f2 j9 (ai 1) (fC (.int 7))) (f2 j9 (fC (.int 10)) (fC (.int 59)))) (av)))))) (f2 cM (f2 dI (ai 0) (fC (.int 3))) (fC (.int 4))))) (aH (bI 3 (f2 aB (ie (af (fC (.int 0)) (af (fC (.int 1)) (af (fC (.int 6)) (af (f2 j9 (fC (.int 10)) (fC (.int 59))) (av)))))) (f2 cM (f2 dI (ai 0) (fC (.int 12))) (fC (.int 4))))) (aH (bI 4 (f2 cM (f2 j9 (ai 1) (fC (.int 7))) (f2 bV (ai 3) (fC (.int 1))))) (aH (bI 5 (bF (af (fC (.str "number")) (af (ai 2) (af (f2 bV (ai 2) (ai 3)) (av)))))) (aH (bI 6 (bF (af (fC (.str "number")) (af (f2 bV (ai 2) (ai 4)) (af (f2 bV (f2 bV (ai 2) (ai 4)) (f2 aB (ie (af (fC (.int 0)) (af (fC (.int 2)) (af (fC (.int 9)) (af (f2 j9 (fC (.int 10)) (fC (.int 59))) (av)))))) (f2 cM (f2 dI (ai 0) (fC (.int 48))) (fC (.int 4))))) (av)))))) (aH (jx (fB (f2 j8 (f2 cM (ai 0) (fC (.int 3))) (fC (.int 2)))) (aH (bI 7 (fR (bb dH 1 6) (af (f2 dI (ai 0) (fC (.int 3))) (av)))) (aH (bI 8 (f2 aB (ai 7) (f2 cM (ai 1) (fL iL (af (ai 7) (av)))))) (aH (bI 5 (bF (af (fC (.str "word")) (af (fL cq (af (jy [none,none,some 8,some 1] (gO (af (ai 7) (av))) (gT 2 (oo [0,1])) (BV (fB (f2 j8 (ai 1) (ai 2))) (fB (f2 j8 (f2 sB (f2 y9 (f2 dI (ai 3) (fC (.int 9))) (ai 0)) (fC (.int 1))) (fC (.int 1))))) (ai 1)) (av))) (av))))) (bI 6 (bF (af (fC (.str "word")) (af (fL cq (af (jy [none,none,some 8,some 1] (gO (af (ai 7) (av))) (gT 2 (oo [0,1])) (BV (fB (f2 j8 (ai 1) (ai 2))) (fB (f2 j8 (f2 sB (f2 y9 (f2 dI (ai 3) (fC (.int 3000))) (ai 0)) (fC (.int 1))) (fC (.int 1))))) (ai 1)) (av))) (av)))))))) (cB)) (aH (jx (fB (f2 j8 (f2 cM (f2 dI (ai 0) (fC (.int 200))) (fC (.int 2))) (fC (.int 1)))) (bP (bF (af (ai 6) (af (ai 5) (av))))) (cB)) (bP (bF (af (ai 5) (af (ai 6) (av))))))))))))
abbrev fJ:Rl:=top 36
theorem qe:bf ["_law_x","_law_base","_law_many","_law_one","_law_other","_law_k","_law_kinds"] ["_law_x","_law_base","_law_many"] (aA fJ):=‹2›
noncomputable def d9:cG:=aH (nZ 3 (ie (av))) (aH (nZ 4 (ie (av))) (aH (lu (iw (af (ai 2) (av))) (gN 5) (aH (bI 0 (fR (bb aW 1 1) (af (ai 0) (av)))) (aH (bI 6 (fR (bb dU 1 9) (af (ai 0) (av)))) (aH (ym 3 fE (af (bF (af (fR (bb bY 2 7) (af (ai 1) (af (ai 5) (av)))) (af (f2 aB (ai 6) (fC (.int 0))) (av)))) (av))) (aH (ym 4 fE (af (bF (af (fR (bb bY 2 7) (af (ai 1) (af (ai 5) (av)))) (af (f2 aB (ai 6) (fC (.int 1))) (av)))) (av))) (eP [5,6] cB)))))) (iN 4 (iN 3 (bP (bF (af (fL cq (af (ai 3) (av))) (af (fL cq (af (ai 4) (av))) (av)))))))))
abbrev dL:Rl:=top 39
theorem lU:bf ["_law_script","_law_x","_law_base","_law_keys","_law_deep","_law_more","_law_first","_law_last"] ["_law_script"] (aA dL):=‹2›
noncomputable def cZ:cG:=aH (bI 1 (fR (bb cQ 2 3) (af (ai 0) (af (fC (.int 0)) (av))))) (aH (bI 2 (f2 cM (f2 oT (fR (bb dM 2 2) (af (ai 0) (af (fC (.int 1)) (av)))) (fC (.int 48271))) (fC (.int 2147483647)))) (aH (bI 3 (fR (bb d9 3 7) (af (fR (bb aW 1 1) (af (ai 1) (av))) (af (ai 2) (af (f2 aB (ie (af (fC (.int 1)) (af (fC (.int 2)) (af (fC (.int 1)) (af (fC (.int 3)) (af (fC (.int 2)) (af (fC (.int 1)) (af (fC (.int 2)) (af (f2 bV (fC (.int 1)) (f2 cM (f2 dI (ai 1) (fC (.int 64))) (fC (.int 8)))) (av)))))))))) (f2 cM (ai 1) (fC (.int 8)))) (av)))))) (aH (bI 4 (f2 aB (ie (af (fC (.int 0)) (af (fC (.int 0)) (af (fC (.int 1)) (af (fC (.int 2)) (av)))))) (f2 cM (f2 dI (ai 1) (fC (.int 8))) (fC (.int 4))))) (aH (bI 5 (ie (af (f2 cM (f2 dI (ai 1) (fC (.int 512))) (fC (.int 4))) (af (f2 cM (f2 dI (ai 1) (fC (.int 2048))) (fC (.int 4))) (av))))) (aH (jx (fB (f2 j8 (f2 cM (f2 dI (ai 1) (fC (.int 32))) (fC (.int 8))) (fC (.int 3)))) (aH (bI 5 (ie (af (f2 cM (f2 dI (ai 1) (fC (.int 512))) (fC (.int 9))) (af (f2 AV (fC (.int 8)) (f2 cM (f2 dI (ai 1) (fC (.int 512))) (fC (.int 9)))) (av))))) (bI 4 (fC (.int 0)))) (cB)) (aH (bI 6 (f2 aB (fR (aU 20) (af (f2 bV (fR (bb aW 1 1) (af (ai 1) (av))) (fC (.int 1))) (af (ai 2) (af (fC (.int 8)) (af (fC (.int 0)) (af (f2 aB (ai 5) (fC (.int 0))) (af (ai 4) (av)))))))) (fC (.int 1)))) (aH (bI 7 (f2 aB (fR (aU 20) (af (f2 bV (fR (bb aW 1 1) (af (ai 1) (av))) (fC (.int 2))) (af (ai 2) (af (fC (.int 16)) (af (fC (.int 0)) (af (f2 aB (ai 5) (fC (.int 1))) (af (ai 4) (av)))))))) (fC (.int 1)))) (bP (bF (af (bF (af (f2 aB (ai 3) (fC (.int 0))) (af (ai 6) (av)))) (af (bF (af (f2 aB (ai 3) (fC (.int 1))) (af (ai 7) (av)))) (av))))))))))))
abbrev rM:Rl:=top 42
theorem Hc:bf ["_law_script","_law_one","_law_other","_law_tables","_law_many","_law_due","_law_row_here","_law_there","_law_pair","_law_form_here"] ["_law_script"] (aA rM):=‹2›
noncomputable def sG:cG:=aH (EF (fR (bb cZ 1 8) (af (ai 0) (av))) (gT 2 (oo [1,2]))) (aH (bI 3 (fR (bb cR 5 12) (af (ai 1) (af (ai 2) (af (ai 0) (af (fC (.int 2)) (af (fC (.int 50)) (av)))))))) (aH (bI 4 (fL iL (af (f2 aB (ai 1) (fC (.int 0))) (av)))) (aH (nZ 5 (ie (av))) (aH (lu (bK (f2 aB (ai 3) (fC (.int 0)))) (gN 6) (aH (lu (bK (f2 aB (ai 3) (fC (.int 1)))) (gN 7) (aH (jx (fB (f2 j8 (bD (ai 6) (bc) (ce (ai 4))) (bD (ai 7) (bc) (ce (ai 4))))) (ym 5 fE (af (f2 bV (ai 6) (bD (ai 7) (ce (ai 4)) (bc))) (av))) (cB)) (eP [7] cB))) (eP [6,7] cB))) (aH (bI 8 (fC (.obj "Join" [] []))) (aH (bI 9 (bF (af (fR (bb bB 2 5) (af (ai 1) (af (ai 2) (av)))) (af (f2 bV (f2 aB (ai 1) (fC (.int 1))) (f2 aB (ai 2) (fC (.int 1)))) (av))))) (aH (jx (BV (sN (eS (fR (aG 20) (af (eB "view_form" [("Pair",(bb cj 3 3)),("Join",(bb bJ 3 5))] (ai 8) (af (ai 1) (af (ai 2) (av)))) (af (ai 9) (av)))))) (sN (eS (fR (aG 20) (af (eB "words" [("Pair",(bb gx 1 1)),("Join",(bb fm 1 1))] (ai 8) av) (af (bF (af (fC (.str "join")) (av))) (av))))))) (bP (fC (.bl false))) (cB)) (aH (jx (BV (fB (f2 wf (eB "got" [("Pair",(bb dB 3 3)),("Join",(bb cy 3 5))] (ai 8) (af (bF (af (ai 1) (af (ai 2) (av)))) (af (bF (af (f2 aB (ai 3) (fC (.int 0))) (af (bF (av)) (av)))) (av)))) (bF (av)))) (fB (f2 wf (eB "got" [("Pair",(bb dB 3 3)),("Join",(bb cy 3 5))] (ai 8) (af (bF (af (ai 1) (af (ai 2) (av)))) (af (bF (af (bF (av)) (af (f2 aB (ai 3) (fC (.int 1))) (av)))) (av)))) (bF (av))))) (bP (fC (.bl false))) (cB)) (iN 5 (aH (jx (sN (eS (fR (aG 20) (af (eB "got" [("Pair",(bb dB 3 3)),("Join",(bb cy 3 5))] (ai 8) (af (bF (af (ai 1) (af (ai 2) (av)))) (af (ai 3) (av)))) (af (fL cq (af (ai 5) (av))) (av)))))) (bP (fC (.bl false))) (cB)) (aH (jx (BV (sN (eS (fR (bb gJ 4 11) (af (ai 8) (af (ai 1) (af (ai 2) (af (fR (bb cQ 2 3) (af (ai 0) (af (fC (.int 2)) (av)))) (av)))))))) (sN (eS (fR (aG 20) (af (eB "view_form" [("Pair",(bb cj 3 3)),("Join",(bb bJ 3 5))] (ai 8) (af (ai 1) (af (ai 2) (av)))) (af (ai 9) (av))))))) (bP (fC (.bl false))) (cB)) (bP (fR (aG 20) (af (eB "got" [("Pair",(bb dB 3 3)),("Join",(bb cy 3 5))] (ai 8) (af (bF (af (ai 1) (af (ai 2) (av)))) (af (ai 3) (av)))) (af (fL cq (af (ai 5) (av))) (av))))))))))))))))
theorem Mb:(["row","many"]:List Str).Nodup:=by decide +kernel
theorem Ly:(["row","others","many"]:List Str).Nodup:=by decide +kernel
theorem LN:(["word","other"]:List Str).Nodup:=by decide +kernel
theorem Lx:(["field"]:List Str).Nodup:=by decide +kernel
theorem LQ:(["field"]:List Str).Nodup:=by decide +kernel
theorem Mv:(["field"]:List Str).Nodup:=by decide +kernel
theorem Ld:(["field"]:List Str).Nodup:=by decide +kernel
theorem Ef:(["field","twin"]:List Str).Nodup:=by decide +kernel
theorem J3:(["field","kind"]:List Str).Nodup:=by decide +kernel
theorem JB:(["field"]:List Str).Nodup:=by decide +kernel
theorem JZ:(["field","names"]:List Str).Nodup:=by decide +kernel
theorem IE:(["row","many","taken"]:List Str).Nodup:=by decide +kernel
theorem FP:(["row","many","others"]:List Str).Nodup:=by decide +kernel
theorem JY:(["row","end"]:List Str).Nodup:=by decide +kernel
theorem IY:(["row","many","end"]:List Str).Nodup:=by decide +kernel
theorem Jn:(["_law_key","_law_found"]:List Str).Nodup:=by decide +kernel
theorem JO:(["_law_word","_law_other"]:List Str).Nodup:=by decide +kernel
theorem Jv:(["_law_row_here","_law_wide"]:List Str).Nodup:=by decide +kernel
theorem Jw:(["_law_row_here","_law_wide"]:List Str).Nodup:=by decide +kernel
theorem Fz:(["_law_k","_law_word","_law_spare","_law_y"]:List Str).Nodup:=by decide +kernel
theorem Gq:(["_law_k","_law_word","_law_spare","_law_y"]:List Str).Nodup:=by decide +kernel
section
variable{P:Q3}{w:Q2}{K:P5}{mg:Str->Option Q1}{base:Q6}[aY]
theorem tH{n:Nat}{f:Q4}(bT:mg "isinstance"=none)(rJ:mg "str"=none)(lE:mg "bool"=none)(iH:mg "int"=none)(aF:mg "tuple"=none)(bR:mg "len"=none)(jI:mg "zip"=none){aG:List D->R D}(bU:Callee P w K mg base (0+n) "_law_alike" ["_law_found","_law_due"] aG)(L__law_alike:Ar 2 aG):cN P w K mg base (0+n) ["_law_found","_law_due","_law_one","_law_other"] "_law_alike" gz f (cH aG):=
 ⟨λcdv A outer s H E hr hp=>(ao (bW (cU (iQ yc rfl bT rfl rJ QO (ae (xv 1)))) (az (aK (o6 (iQ yc rfl bT rfl rJ QO (ae (xv 0))) (q5 (oD (dC hr.units) au (ae (xv 0)) (ae (xv 1)) (ca _)))))) (aM)) (ao (bW (Gj (lW (cU (iQ mV rfl bT rfl lE QP (ae (xv 1)))) (jF (cU (iQ mV rfl bT rfl lE QP (ae (xv 0))))))) (az (aK (o6 (iQ mV rfl bT rfl lE QP (ae (xv 1))) (o6 (iQ mV rfl bT rfl lE QP (ae (xv 0))) (q5 (oD (dC hr.units) au (ae (xv 0)) (ae (xv 1)) (ca _))))))) (aM)) (ao (bW (cU (iQ xB rfl bT rfl iH QQ (ae (xv 1)))) (az (aK (o6 (iQ xB rfl bT rfl iH QQ (ae (xv 0))) (q5 (oD (dC hr.units) au (ae (xv 0)) (ae (xv 1)) (ca _)))))) (aM)) (ao (bW (Gj (lW (jJ (cU (iQ yy rfl bT rfl aF QS (ae (xv 0))))) (jF (bu (qa hr.units) au (bp cC rfl bR PySem.boot_len (aa (ae (xv 0)) (aj))) (bp cC rfl bR PySem.boot_len (aa (ae (xv 1)) (aj))) (ca _))))) (az (aK (jw))) (aM)) (ao (e6 hp rfl (oJ rfl jI (aa (ae (xv 0)) (aa (ae (xv 1)) (aj)))) (iY (g:=oo [2,3]) rfl (cu (aL (i:=2) tV.nd rfl ‹1›) (cu (aL (i:=3) tV.nd rfl ‹1›) (fZ)))) (ao (bW (jJ (cU (ax bU L__law_alike hr ‹0› (aa (ae (xv 2)) (aa (ae (xv 3)) (aj)))))) (az (aK (jw))) (aM)) (cK [2,3] aM))) (az (aK (jw))))))))⟩
theorem mH{f__law_alike:Q4}{fd__law_alike:RJ}(F__law_alike:yn K "_law_alike" "_law_alike" gz f__law_alike fd__law_alike)(kR:Binds K fd__law_alike ["_law_found","_law_due"] [])(m__law_alike:mg "_law_alike"=some (.ref f__law_alike))(bT:mg "isinstance"=none)(rJ:mg "str"=none)(lE:mg "bool"=none)(iH:mg "int"=none)(aF:mg "tuple"=none)(bR:mg "len"=none)(jI:mg "zip"=none):∀n:Nat,Callee P w K mg base (0+n) "_law_alike" ["_law_found","_law_due"] (aG n)
 |0=>by
  rw[aG];exact fW 0 F__law_alike kR m__law_alike
 |n+1=>by
  have ih:=mH F__law_alike kR m__law_alike bT rJ lE iH aF bR jI n;rw[jN];exact bA F__law_alike kR m__law_alike tV (cN.ok (tH bT rJ lE iH aF bR jI ih (cx n)))
theorem xc{f:Q4}:cN P w K mg base 0 ["self","forms","tables"] "Pair.got" kN f dB:=
 ⟨λcdv A outer s H E hr hp=>(az (aK (ay (ae (xv 2)) (ah) (λ_ _=>rfl))))⟩
theorem Bd{f:Q4}(yR:mg "dict"=none):cN P w K mg base 0 ["many","rows"] "by_key" oG f gH:=
 ⟨λcdv A outer s H E hr hp=>(az (aK (bi (yP rfl hr.units) rfl yR PyProof.Rows.boot_dict (aa (dJ (N:=["row","many"]) (ix:=[none,some 0]) rfl (.of rfl) (cf rfl) (cF (ae (xv 1))) ⟨λ_ _ _ _ _ _=>⟨aL (i:=0) Mb rfl (Or.inl rfl),de,aN (aa (bX (ae (xv 0)) (cA) (cD (ae (xv 1)))) (aa (ae (xv 0)) (aj)))⟩⟩) (aj)))))⟩
theorem wJ{f:Q4}(gb:Callee P w K mg base 1 "by_key" ["many","rows"] (bb gH 2 2))(bR:mg "len"=none)(aF:mg "tuple"=none):cN P w K mg base 1 ["self","forms","tables","many","others"] "Join.got" kT f cy:=
 ⟨λcdv A outer s H E hr hp=>(ao (aC (i:=3) qz.nd rfl ‹1› (bp cC rfl bR PySem.boot_len (aa (ay (ay (ae (xv 1)) (ah) (λ_ _=>rfl)) (ah) (λ_ _=>rfl)) (aj)))) (ao (aC (i:=4) qz.nd rfl ‹1› (ax gb aP hr ‹0› (aa (ae (xv 3)) (aa (ay (ae (xv 2)) (ah) (λ_ _=>rfl)) (aj))))) (az (aK (bi bC rfl aF QS (aa (dJ (N:=["row","others","many"]) (ix:=[none,some 4,some 3]) rfl (.of rfl) (cf rfl) (cF (ay (ae (xv 2)) (ah) (λ_ _=>rfl))) ⟨λ_ _ _ _ _ _=>⟨aL (i:=0) Ly rfl (Or.inl rfl),iy (bu (Hj hr.units) au (bX (ae (xv 0)) (cA) (cD (ae (xv 2)))) (ae (xv 1)) rfl),aq aX au (ae (xv 0)) (bX (An hr.units (ae (xv 1)) (bX (ae (xv 0)) (cA) (cD (ae (xv 2)))) (λ_ _=>rfl)) (cD (ae (xv 2))) (cA))⟩⟩) (aj)))))))⟩
theorem oZ{f:Q4}:cN P w K mg base 0 ["self","one","other"] "Pair.view_form" fg f cj:=
 ⟨λcdv A outer s H E hr hp=>(az (aK (ae (xv 1))))⟩
theorem t9{f:Q4}(aF:mg "tuple"=none):cN P w K mg base 0 ["one","other","words"] "both_words" iX f gE:=
 ⟨λcdv A outer s H E hr hp=>(ao (aC (i:=2) tJ.nd rfl ‹1› (bi bC rfl aF QS (aa (dJ (N:=["word","other"]) (ix:=[none,some 1]) rfl (.of rfl) (cf rfl) (cF (ay (ae (xv 0)) (ah) (λ_ _=>rfl))) ⟨λ_ _ _ _ _ _=>⟨aL (i:=0) LN rfl (Or.inl rfl),iy (bu (pB hr.units) au (ae (xv 0)) (ay (ae (xv 1)) (ah) (λ_ _=>rfl)) rfl),ae (xv 0)⟩⟩) (aj)))) (az (aK (Dw (cU (ae (xv 2))) (aN (aa (cE) (aa (ae (xv 2)) (aj)))) (oA)))))⟩
theorem qJ{f:Q4}(gF:mg "max"=none)(oO:mg "min"=none):cN P w K mg base 0 ["one","other","low","high"] "both_numbers" fY f eT:=
 ⟨λcdv A outer s H E hr hp=>(ao (aC (i:=2) qK.nd rfl ‹1› (bp (kJ rfl) rfl gF QT (aa (ay (ae (xv 0)) (ah) (λ_ _=>rfl)) (aa (ay (ae (xv 1)) (ah) (λ_ _=>rfl)) (aj))))) (ao (aC (i:=3) qK.nd rfl ‹1› (bp (n6 rfl) rfl oO QU (aa (ay (ae (xv 0)) (ah) (λ_ _=>rfl)) (aa (ay (ae (xv 1)) (ah) (λ_ _=>rfl)) (aj))))) (az (aK (Dw (bu JG uO (ae (xv 2)) (ae (xv 3)) (ca _)) (aN (aa (cE) (aa (ae (xv 2)) (aa (ae (xv 3)) (aj))))) (oA))))))⟩
theorem D8{f:Q4}(jp:Callee P w K mg base 1 "both_numbers" ["one","other"] (bb eT 2 4))(lm:Callee P w K mg base 1 "both_words" ["one","other"] (bb gE 2 3)):cN P w K mg base 1 ["one","other"] "both" vT f p3:=
 ⟨λcdv A outer s H E hr hp=>(ao (bW (bu (qa hr.units) au (ay (ae (xv 0)) (ah) (λ_ _=>rfl)) (ay (ae (xv 1)) (ah) (λ_ _=>rfl)) (ca _)) (az (aK (oA))) (aM)) (ao (bW (bu (dC hr.units) au (ay (ae (xv 0)) (ah) (λ_ _=>rfl)) (cE) (ca _)) (az (aK (ax jp aP hr ‹0› (aa (ae (xv 0)) (aa (ae (xv 1)) (aj)))))) (aM)) (ao (bW (bu (dC hr.units) au (ay (ae (xv 0)) (ah) (λ_ _=>rfl)) (cE) (ca _)) (az (aK (ax lm aP hr ‹0› (aa (ae (xv 0)) (aa (ae (xv 1)) (aj)))))) (aM)) (az (aK (oA))))))⟩
theorem tS{f:Q4}(vH:Callee P w K mg base 2 "both" ["one","other"] (bb p3 2 2))(jI:mg "zip"=none)(aF:mg "tuple"=none):cN P w K mg base 2 ["one","other","kinds"] "shared_key" iW f gl:=
 ⟨λcdv A outer s H E hr hp=>(ao (bW (bu (qa hr.units) au (dJ (N:=["field"]) (ix:=[none]) rfl (.of rfl) (cf rfl) (cF (ae (xv 0))) ⟨λ_ _ _ _ _ _=>⟨aL (i:=0) Lx rfl (Or.inl rfl),de,ay (ae (xv 0)) (ah) (λ_ _=>rfl)⟩⟩) (dJ (N:=["field"]) (ix:=[none]) rfl (.of rfl) (cf rfl) (cF (ae (xv 1))) ⟨λ_ _ _ _ _ _=>⟨aL (i:=0) LQ rfl (Or.inl rfl),de,ay (ae (xv 0)) (ah) (λ_ _=>rfl)⟩⟩) (ca _)) (az (lQ)) (aM)) (ao (bW (bu (qa hr.units) au (dJ (N:=["field"]) (ix:=[none]) rfl (.of rfl) (cf rfl) (cF (ae (xv 0))) ⟨λ_ _ _ _ _ _=>⟨aL (i:=0) Mv rfl (Or.inl rfl),de,ay (ay (ae (xv 0)) (ah) (λ_ _=>rfl)) (ah) (λ_ _=>rfl)⟩⟩) (dJ (N:=["field"]) (ix:=[none]) rfl (.of rfl) (cf rfl) (cF (ae (xv 1))) ⟨λ_ _ _ _ _ _=>⟨aL (i:=0) Ld rfl (Or.inl rfl),de,ay (ay (ae (xv 0)) (ah) (λ_ _=>rfl)) (ah) (λ_ _=>rfl)⟩⟩) (ca _)) (az (lQ)) (aM)) (ao (by first|exact yM (i:=2) tE.nd rfl ‹1› (N:=["field","twin"]) (ix:=[none,none]) rfl (.of rfl) (jq rfl) (oJ rfl jI (aa (ae (xv 0)) (aa (ae (xv 1)) (aj)))) ⟨λ_ _ _ _ _ _=>⟨iY (g:=oo [0,1]) rfl (cu (aL (i:=0) Ef rfl (Or.inl rfl)) (cu (aL (i:=1) Ef rfl (Or.inl rfl)) (fZ))),de,ax vH aP hr ‹0› (aa (ay (ae (xv 0)) (ah) (λ_ _=>rfl)) (aa (ay (ae (xv 1)) (ah) (λ_ _=>rfl)) (aj)))⟩⟩|exact aC (i:=2) tE.nd rfl ‹1› (dJ (N:=["field","twin"]) (ix:=[none,none]) rfl (.of rfl) (jq rfl) (oJ rfl jI (aa (ae (xv 0)) (aa (ae (xv 1)) (aj)))) ⟨λ_ _ _ _ _ _=>⟨iY (g:=oo [0,1]) rfl (cu (aL (i:=0) Ef rfl (Or.inl rfl)) (cu (aL (i:=1) Ef rfl (Or.inl rfl)) (fZ))),de,ax vH aP hr ‹0› (aa (ay (ae (xv 0)) (ah) (λ_ _=>rfl)) (aa (ay (ae (xv 1)) (ah) (λ_ _=>rfl)) (aj)))⟩⟩)) (ao (bW (bu (pB hr.units) au (oA) (ae (xv 2)) rfl) (az (lQ)) (aM)) (az (aK (bi bC rfl aF QS (aa (dJ (N:=["field","kind"]) (ix:=[none,none]) rfl (.of rfl) (jq rfl) (oJ rfl jI (aa (ae (xv 0)) (aa (ae (xv 2)) (aj)))) ⟨λ_ _ _ _ _ _=>⟨iY (g:=oo [0,1]) rfl (cu (aL (i:=0) J3 rfl (Or.inl rfl)) (cu (aL (i:=1) J3 rfl (Or.inl rfl)) (fZ))),de,aN (aa (ay (ae (xv 0)) (ah) (λ_ _=>rfl)) (aa (ae (xv 1)) (aj)))⟩⟩) (aj)))))))))⟩
theorem oN{f:Q4}(lG:Callee P w K mg base 3 "shared_key" ["one","other"] (bb gl 2 3))(B6:mg "any"=none)(bR:mg "len"=none)(c_MOST_FIELDS:∃t,mg "MOST_FIELDS"=some (.int 8 t)):cN P w K mg base 3 ["self","one","other","key","names"] "Join.view_form" fe f bJ:=
 ⟨λcdv A outer s H E hr hp=>(ao (aC (i:=3) jS.nd rfl ‹1› (ax lG aP hr ‹0› (aa (ay (ae (xv 1)) (ah) (λ_ _=>rfl)) (aa (ay (ae (xv 2)) (ah) (λ_ _=>rfl)) (aj))))) (ao (by first|exact yM (i:=4) jS.nd rfl ‹1› (N:=["field"]) (ix:=[none]) rfl (.of rfl) (cf rfl) (cF (ay (ae (xv 1)) (ah) (λ_ _=>rfl))) ⟨λ_ _ _ _ _ _=>⟨aL (i:=0) JB rfl (Or.inl rfl),de,ay (ae (xv 0)) (ah) (λ_ _=>rfl)⟩⟩|exact aC (i:=4) jS.nd rfl ‹1› (dJ (N:=["field"]) (ix:=[none]) rfl (.of rfl) (cf rfl) (cF (ay (ae (xv 1)) (ah) (λ_ _=>rfl))) ⟨λ_ _ _ _ _ _=>⟨aL (i:=0) JB rfl (Or.inl rfl),de,ay (ae (xv 0)) (ah) (λ_ _=>rfl)⟩⟩)) (ao (bW (cU (bp (Bv rfl) rfl B6 PyProof.Rows.boot_any (aa (dJ (N:=["field","names"]) (ix:=[none,some 4]) rfl (.of rfl) (cf rfl) (cF (ay (ae (xv 2)) (ah) (λ_ _=>rfl))) ⟨λ_ _ _ _ _ _=>⟨aL (i:=0) JZ rfl (Or.inl rfl),de,oD (pB hr.units) au (ay (ae (xv 0)) (ah) (λ_ _=>rfl)) (ae (xv 1)) rfl⟩⟩) (aj)))) (az (lQ)) (aM)) (ao (bW (bu Ju uO (aq aX au (bp cC rfl bR PySem.boot_len (aa (ay (ae (xv 1)) (ah) (λ_ _=>rfl)) (aj))) (bp cC rfl bR PySem.boot_len (aa (ay (ae (xv 2)) (ah) (λ_ _=>rfl)) (aj)))) (Dd rfl c_MOST_FIELDS) (ca _)) (az (lQ)) (aM)) (az (aK (aN (aa (ae (xv 3)) (aa (aq aX au (ay (ae (xv 1)) (ah) (λ_ _=>rfl)) (ay (ae (xv 2)) (ah) (λ_ _=>rfl))) (aj))))))))))⟩
theorem xG{f:Q4}:cN P w K mg base 0 ["self","forms","tables","view"] "Pair.put" lB f ju:=
 ⟨λcdv A outer s H E hr hp=>(az (aK (aN (aa (ae (xv 3)) (aa (ay (ae (xv 2)) (ah) (λ_ _=>rfl)) (aj))))))⟩
theorem vO{f cL T:Q4}(aF:mg "tuple"=none)(dY:mg "sorted"=none)(lamB:BP mg base cL T)(lamC:uc K f (.ref cL))(lamT:∀H,aY.tab H->H T=some (.ext (oK T ⟨31,34,31,56⟩ ((("sorted_by":Str)++".<locals>.")++"<lambda>")))):CU P w K mg base 0 ["many","rows"] "sorted_by" jE f iC:=
 ⟨fun cdv A outer s H E hc hr hp=>by
  obtain rfl:=hc.one lamC;exact(az (aK (bi bC rfl aF QS (aa (Bu (j:=0) hr rfl dY lamB rfl lamT (ae (xv 1)) rfl rfl (Or.inr (Or.inl rfl)) rfl rfl rfl (λ_ _ _=>rfl) rfl rfl rfl (by decide) rfl rfl rfl rfl rfl) (aj)))))⟩
theorem xx{f:Q4}(gb:Callee P w K mg base 1 "by_key" ["many","rows"] (bb gH 2 2))(md:Callee P w K mg base 1 "sorted_by" ["many","rows"] (bb iC 2 2))(iO:mg "list"=none):cN P w K mg base 1 ["many","rows","others","taken"] "standing" lg f fO:=
 ⟨λcdv A outer s H E hr hp=>(ao (aC (i:=3) w6.nd rfl ‹1› (ax gb aP hr ‹0› (aa (ae (xv 0)) (aa (ae (xv 1)) (aj))))) (az (aK (ax md aP hr ‹0› (aa (ae (xv 0)) (aa (aq aX au (bi yE rfl iO QV (aa (ae (xv 1)) (aj))) (dJ (N:=["row","many","taken"]) (ix:=[none,some 0,some 3]) rfl (.of rfl) (cf rfl) (cF (ae (xv 2))) ⟨λ_ _ _ _ _ _=>⟨aL (i:=0) IE rfl (Or.inl rfl),iy (bu (pJ hr.units) au (bX (ae (xv 0)) (cA) (cD (ae (xv 1)))) (ae (xv 2)) rfl),ae (xv 0)⟩⟩)) (aj)))))))⟩
theorem xC{f:Q4}(gb:Callee P w K mg base 1 "by_key" ["many","rows"] (bb gH 2 2))(kY:Callee P w K mg base 2 "standing" ["many","rows","others"] (bb fO 3 4))(bR:mg "len"=none):cN P w K mg base 2 ["self","forms","tables","view","many","end","others","hidden","one","other"] "Join.put" lr f fQ:=
 ⟨λcdv A outer s H E hr hp=>(ao (aC (i:=4) xX.nd rfl ‹1› (bp cC rfl bR PySem.boot_len (aa (ay (ay (ae (xv 1)) (ah) (λ_ _=>rfl)) (ah) (λ_ _=>rfl)) (aj)))) (ao (aC (i:=5) xX.nd rfl ‹1› (aq aX au (ae (xv 4)) (bp cC rfl bR PySem.boot_len (aa (ay (ay (ae (xv 1)) (ah) (λ_ _=>rfl)) (ah) (λ_ _=>rfl)) (aj))))) (ao (aC (i:=6) xX.nd rfl ‹1› (ax gb aP hr ‹0› (aa (ae (xv 4)) (aa (ay (ae (xv 2)) (ah) (λ_ _=>rfl)) (aj))))) (ao (by first|exact yM (i:=7) xX.nd rfl ‹1› (N:=["row","many","others"]) (ix:=[none,some 4,some 6]) rfl (.of rfl) (cf rfl) (cF (ay (ae (xv 2)) (ah) (λ_ _=>rfl))) ⟨λ_ _ _ _ _ _=>⟨aL (i:=0) FP rfl (Or.inl rfl),iy (bu (pJ hr.units) au (bX (ae (xv 0)) (cA) (cD (ae (xv 1)))) (ae (xv 2)) rfl),ae (xv 0)⟩⟩|exact aC (i:=7) xX.nd rfl ‹1› (dJ (N:=["row","many","others"]) (ix:=[none,some 4,some 6]) rfl (.of rfl) (cf rfl) (cF (ay (ae (xv 2)) (ah) (λ_ _=>rfl))) ⟨λ_ _ _ _ _ _=>⟨aL (i:=0) FP rfl (Or.inl rfl),iy (bu (pJ hr.units) au (bX (ae (xv 0)) (cA) (cD (ae (xv 1)))) (ae (xv 2)) rfl),ae (xv 0)⟩⟩)) (ao (aC (i:=8) xX.nd rfl ‹1› (ax kY aP hr ‹0› (aa (ae (xv 4)) (aa (dJ (N:=["row","end"]) (ix:=[none,some 5]) rfl (.of rfl) (cf rfl) (cF (ae (xv 3))) ⟨λ_ _ _ _ _ _=>⟨aL (i:=0) JY rfl (Or.inl rfl),de,bX (ae (xv 0)) (cA) (cD (ae (xv 1)))⟩⟩) (aa (ae (xv 7)) (aj)))))) (ao (aC (i:=9) xX.nd rfl ‹1› (ax kY aP hr ‹0› (aa (ae (xv 4)) (aa (dJ (N:=["row","many","end"]) (ix:=[none,some 4,some 5]) rfl (.of rfl) (cf rfl) (cF (ae (xv 3))) ⟨λ_ _ _ _ _ _=>⟨aL (i:=0) IY rfl (Or.inl rfl),de,aq aX au (bX (ae (xv 0)) (cA) (cD (ae (xv 1)))) (bX (ae (xv 0)) (cD (ae (xv 2))) (cA))⟩⟩) (aa (ay (ae (xv 2)) (ah) (λ_ _=>rfl)) (aj)))))) (az (aK (aN (aa (ae (xv 8)) (aa (ae (xv 9)) (aj))))))))))))⟩
theorem vY{f:Q4}:cN P w K mg base 0 ["_law_x"] "_law_next" jL f aW:=
 ⟨λcdv A outer s H E hr hp=>(az (aK (aq bz bx (aq aX au (aq aX au (aq kW ly (ae (xv 0)) (ae (xv 0))) (aq kW ly (ah) (ae (xv 0)))) (ah)) (ah))))⟩
theorem sX{f:Q4}(aF:mg "tuple"=none)(dY:mg "sorted"=none)(iO:mg "list"=none):cN P w K mg base 0 ["_law_many","_law_rows_here","_law_found","_law_row_here"] "_law_sorted" iu f bG:=
 ⟨λcdv A outer s H E hr hp=>(ao (gr (i:=2) sr.nd rfl ‹1› (o7)) (ao (e6 hp rfl (cF (ae (xv 1))) (aL (i:=3) sr.nd rfl ‹1›) (ao (Dl (hr.units) (xv 2) (bX (ae (xv 3)) (cA) (cD (ae (xv 0)))) (ae (xv 3))) (cK [3] aM))) (eY 2 (az (aK (bi bC rfl aF QS (aa (dJ (N:=["_law_key","_law_found"]) (ix:=[none,some 2]) rfl (.of rfl) (cf rfl) (cF (bp lx rfl dY i6 (aa (bi (yW rfl) rfl iO QV (aa (ae (xv 2)) (aj))) (aj)))) ⟨λ_ _ _ _ _ _=>⟨aL (i:=0) Jn rfl (Or.inl rfl),de,An hr.units (ae (xv 1)) (ae (xv 0)) (λ_ _=>rfl)⟩⟩) (aj))))))))⟩
theorem tO{n:Nat}{f:Q4}(aE:Callee P w K mg base 1 "_law_next" ["_law_x"] (bb aW 1 1))(bL:Callee P w K mg base 1 "_law_sorted" ["_law_many","_law_rows_here"] (bb bG 2 4))(bR:mg "len"=none)(gF:mg "max"=none)(iH:mg "int"=none)(aF:mg "tuple"=none)(bQ:mg "range"=none){aD:List D->R D}(gD:Callee P w K mg base (1+n) "_law_value" ["_law_kind_here","_law_x"] aD)(L__law_value:Ar 2 aD){aQ:List D->R D}(fS:Callee P w K mg base (1+n) "_law_row" ["_law_form_here","_law_many","_law_head","_law_tail"] aQ)(L__law_row:Ar 4 aQ){aJ:List D->R D}(eV:Callee P w K mg base (1+n) "_law_rows" ["_law_form_here","_law_x","_law_many"] aJ)(L__law_rows:Ar 3 aJ):cN P w K mg base (1+n) ["_law_kind_here","_law_x"] "_law_value" gg f (gA aD aQ aJ):=
 ⟨λcdv A outer s H E hr hp=>(ao (bW (bu (dC hr.units) au (ay (ae (xv 0)) (ah) (λ_ _=>rfl)) (cE) (ca _)) (az (aK (aq aX au (ay (ae (xv 0)) (ah) (λ_ _=>rfl)) (aq bz bx (aq hZ gY (ae (xv 1)) (ah)) (aq aX au (aq sd rQ (ay (ae (xv 0)) (ah) (λ_ _=>rfl)) (ay (ae (xv 0)) (ah) (λ_ _=>rfl))) (ah)))))) (aM)) (ao (bW (bu (dC hr.units) au (ay (ae (xv 0)) (ah) (λ_ _=>rfl)) (cE) (ca _)) (az (aK (ay (ay (ae (xv 0)) (ah) (λ_ _=>rfl)) (aq bz bx (ae (xv 1)) (bp cC rfl bR PySem.boot_len (aa (ay (ae (xv 0)) (ah) (λ_ _=>rfl)) (aj)))) (λ_ _=>rfl)))) (aM)) (az (aK (ax eV L__law_rows hr ‹0› (aa (ay (ae (xv 0)) (ah) (λ_ _=>rfl)) (aa (aq bj bZ (ae (xv 1)) (ah)) (aa (bp (kJ rfl) rfl gF QT (aa (aq bz bx (ae (xv 1)) (ah)) (aa (bi yV rfl iH QQ (aa (ay (ae (xv 0)) (ah) (λ_ _=>rfl)) (aj))) (aj)))) (aj)))))))))⟩
theorem wV{n:Nat}{f:Q4}(aE:Callee P w K mg base 1 "_law_next" ["_law_x"] (bb aW 1 1))(bL:Callee P w K mg base 1 "_law_sorted" ["_law_many","_law_rows_here"] (bb bG 2 4))(bR:mg "len"=none)(gF:mg "max"=none)(iH:mg "int"=none)(aF:mg "tuple"=none)(bQ:mg "range"=none){aD:List D->R D}(gD:Callee P w K mg base (1+n) "_law_value" ["_law_kind_here","_law_x"] aD)(L__law_value:Ar 2 aD){aQ:List D->R D}(fS:Callee P w K mg base (1+n) "_law_row" ["_law_form_here","_law_many","_law_head","_law_tail"] aQ)(L__law_row:Ar 4 aQ){aJ:List D->R D}(eV:Callee P w K mg base (1+n) "_law_rows" ["_law_form_here","_law_x","_law_many"] aJ)(L__law_rows:Ar 3 aJ):cN P w K mg base (1+n) ["_law_form_here","_law_many","_law_head","_law_tail","_law_row_here","_law_name_here","_law_kind_here"] "_law_row" jm f (kU aD aQ aJ):=
 ⟨λcdv A outer s H E hr hp=>(ao (gr (i:=4) xS.nd rfl ‹1› (jO (aj))) (ao (e6 hp rfl (cF (aq aX au (ay (ae (xv 0)) (ah) (λ_ _=>rfl)) (ay (ae (xv 0)) (ah) (λ_ _=>rfl)))) (iY (g:=oo [5,6]) rfl (cu (aL (i:=5) xS.nd rfl ‹1›) (cu (aL (i:=6) xS.nd rfl ‹1›) (fZ)))) (ao (bW (wW [4] (bu (sg hr.units) au (bp cC rfl bR PySem.boot_len (aa (ae (xv 4)) (aj))) (ae (xv 1)) (ca _))) (ao (aC (i:=2) xS.nd rfl ‹1› (ax aE aP hr ‹0› (aa (ae (xv 2)) (aj)))) (az (kF QZ Q0 dQ e9 (xv 4) (aa (ax gD L__law_value hr ‹0› (aa (ae (xv 6)) (aa (ae (xv 2)) (aj)))) (aj))))) (ao (aC (i:=3) xS.nd rfl ‹1› (ax aE aP hr ‹0› (aa (ae (xv 3)) (aj)))) (az (kF QZ Q0 dQ e9 (xv 4) (aa (ax gD L__law_value hr ‹0› (aa (ae (xv 6)) (aa (ae (xv 3)) (aj)))) (aj)))))) (cK [5,6] aM))) (eY 4 (az (aK (bi bC rfl aF QS (aa (ae (xv 4)) (aj))))))))⟩
theorem vF{n:Nat}{f:Q4}(aE:Callee P w K mg base 1 "_law_next" ["_law_x"] (bb aW 1 1))(bL:Callee P w K mg base 1 "_law_sorted" ["_law_many","_law_rows_here"] (bb bG 2 4))(bR:mg "len"=none)(gF:mg "max"=none)(iH:mg "int"=none)(aF:mg "tuple"=none)(bQ:mg "range"=none){aD:List D->R D}(gD:Callee P w K mg base (1+n) "_law_value" ["_law_kind_here","_law_x"] aD)(L__law_value:Ar 2 aD){aQ:List D->R D}(fS:Callee P w K mg base (1+n) "_law_row" ["_law_form_here","_law_many","_law_head","_law_tail"] aQ)(L__law_row:Ar 4 aQ){aJ:List D->R D}(eV:Callee P w K mg base (1+n) "_law_rows" ["_law_form_here","_law_x","_law_many"] aJ)(L__law_rows:Ar 3 aJ):cN P w K mg base (1+n) ["_law_form_here","_law_x","_law_many","_law_rows_here","_law_k"] "_law_rows" iA f (jB aD aQ aJ):=
 ⟨λcdv A outer s H E hr hp=>(ao (gr (i:=3) vX.nd rfl ‹1› (jO (aj))) (ao (e6 hp rfl (jh rfl bQ (aa (ae (xv 2)) (aj))) (aL (i:=4) vX.nd rfl ‹1›) (ao (aC (i:=1) vX.nd rfl ‹1› (ax aE aP hr ‹0› (aa (ae (xv 1)) (aj)))) (ao (kF QZ Q0 dQ e9 (xv 3) (aa (ax fS L__law_row hr ‹0› (aa (ae (xv 0)) (aa (ah) (aa (ah) (aa (ae (xv 1)) (aj)))))) (aj))) (cK [4] aM)))) (eY 3 (az (aK (ax bL aP hr ‹0› (aa (bp cC rfl bR PySem.boot_len (aa (ay (ae (xv 0)) (ah) (λ_ _=>rfl)) (aj))) (aa (ae (xv 3)) (aj)))))))))⟩
theorem mz{f__law_value:Q4}{fd__law_value:RJ}(F__law_value:yn K "_law_value" "_law_value" gg f__law_value fd__law_value)(lH:Binds K fd__law_value ["_law_kind_here","_law_x"] [])(m__law_value:mg "_law_value"=some (.ref f__law_value)){f__law_row:Q4}{fd__law_row:RJ}(F__law_row:yn K "_law_row" "_law_row" jm f__law_row fd__law_row)(n9:Binds K fd__law_row ["_law_form_here","_law_many","_law_head","_law_tail"] [])(m__law_row:mg "_law_row"=some (.ref f__law_row)){f__law_rows:Q4}{fd__law_rows:RJ}(F__law_rows:yn K "_law_rows" "_law_rows" iA f__law_rows fd__law_rows)(mD:Binds K fd__law_rows ["_law_form_here","_law_x","_law_many"] [])(m__law_rows:mg "_law_rows"=some (.ref f__law_rows))(aE:Callee P w K mg base 1 "_law_next" ["_law_x"] (bb aW 1 1))(bL:Callee P w K mg base 1 "_law_sorted" ["_law_many","_law_rows_here"] (bb bG 2 4))(bR:mg "len"=none)(gF:mg "max"=none)(iH:mg "int"=none)(aF:mg "tuple"=none)(bQ:mg "range"=none):∀n:Nat,Callee P w K mg base (1+n) "_law_value" ["_law_kind_here","_law_x"] (aD n)/\Callee P w K mg base (1+n) "_law_row" ["_law_form_here","_law_many","_law_head","_law_tail"] (aQ n)/\Callee P w K mg base (1+n) "_law_rows" ["_law_form_here","_law_x","_law_many"] (aJ n)
 |0=>by
  rw[aD];rw[aQ];rw[aJ];exact⟨fW 1 F__law_value lH m__law_value,fW 1 F__law_row n9 m__law_row,fW 1 F__law_rows mD m__law_rows⟩
 |n+1=>by
  have ih:=mz F__law_value lH m__law_value F__law_row n9 m__law_row F__law_rows mD m__law_rows aE bL bR gF iH aF bQ n;rw[eJ];rw[iJ];rw[gR];exact⟨bA F__law_value lH m__law_value t6 (cN.ok (tO aE bL bR gF iH aF bQ ih.1 (iK n) ih.2.1 (ir n) ih.2.2 (gB n))),bA F__law_row n9 m__law_row xS (cN.ok (wV aE bL bR gF iH aF bQ ih.1 (iK n) ih.2.1 (ir n) ih.2.2 (gB n))),bA F__law_rows mD m__law_rows vX (cN.ok (vF aE bL bR gF iH aF bQ ih.1 (iK n) ih.2.1 (ir n) ih.2.2 (gB n)))⟩
theorem qF{f:Q4}(oO:mg "min"=none)(gF:mg "max"=none)(aF:mg "tuple"=none):cN P w K mg base 0 ["_law_one","_law_other"] "_law_in_both" gC f dN:=
 ⟨λcdv A outer s H E hr hp=>(ao (bW (bu (dC hr.units) au (ay (ae (xv 0)) (ah) (λ_ _=>rfl)) (cE) (ca _)) (az (aK (aN (aa (cE) (aa (bp (kJ rfl) rfl gF QT (aa (ay (ae (xv 0)) (ah) (λ_ _=>rfl)) (aa (ay (ae (xv 1)) (ah) (λ_ _=>rfl)) (aj)))) (aa (bp (n6 rfl) rfl oO QU (aa (ay (ae (xv 0)) (ah) (λ_ _=>rfl)) (aa (ay (ae (xv 1)) (ah) (λ_ _=>rfl)) (aj)))) (aj))))))) (aM)) (az (aK (aN (aa (cE) (aa (bi bC rfl aF QS (aa (dJ (N:=["_law_word","_law_other"]) (ix:=[none,some 1]) rfl (.of rfl) (cf rfl) (cF (ay (ae (xv 0)) (ah) (λ_ _=>rfl))) ⟨λ_ _ _ _ _ _=>⟨aL (i:=0) JO rfl (Or.inl rfl),iy (bu (pB hr.units) au (ae (xv 0)) (ay (ae (xv 1)) (ah) (λ_ _=>rfl)) rfl),ae (xv 0)⟩⟩) (aj))) (aj)))))))⟩
theorem nO{f:Q4}(ji:Callee P w K mg base 1 "_law_in_both" ["_law_one","_law_other"] (bb dN 2 2))(jI:mg "zip"=none)(aF:mg "tuple"=none):cN P w K mg base 1 ["_law_one","_law_other","_law_found","_law_field","_law_more"] "_law_key_of_both" dX f bB:=
 ⟨λcdv A outer s H E hr hp=>(ao (gr (i:=2) nR.nd rfl ‹1› (jO (aj))) (ao (e6 hp rfl (oJ rfl jI (aa (ay (ae (xv 0)) (ah) (λ_ _=>rfl)) (aa (ay (ae (xv 1)) (ah) (λ_ _=>rfl)) (aj)))) (iY (g:=oo [3,4]) rfl (cu (aL (i:=3) nR.nd rfl ‹1›) (cu (aL (i:=4) nR.nd rfl ‹1›) (fZ)))) (ao (kF QZ Q0 dQ e9 (xv 2) (aa (aN (aa (ay (ae (xv 3)) (ah) (λ_ _=>rfl)) (aa (ax ji aP hr ‹0› (aa (ay (ae (xv 3)) (ah) (λ_ _=>rfl)) (aa (ay (ae (xv 4)) (ah) (λ_ _=>rfl)) (aj)))) (aj)))) (aj))) (cK [3,4] aM))) (eY 2 (az (aK (bi bC rfl aF QS (aa (ae (xv 2)) (aj))))))))⟩
theorem ua{f:Q4}(bN:Callee P w K mg base 2 "_law_key_of_both" ["_law_one","_law_other"] (bb bB 2 5))(eV:Callee P w K mg base 21 "_law_rows" ["_law_form_here","_law_x","_law_many"] (aJ 20))(bU:Callee P w K mg base 20 "_law_alike" ["_law_found","_law_due"] (aG 20))(dg:fU P w K mg base 21 "view_form" ["self","one","other"] [("Pair",(bb cj 3 3)),("Join",(bb bJ 3 5))])(pq:fU P w K mg base 21 "put" ["self","forms","tables","view"] [("Pair",(bb ju 4 4)),("Join",(bb fQ 4 10))])(dz:fU P w K mg base 21 "got" ["self","forms","tables"] [("Pair",(bb dB 3 3)),("Join",(bb cy 3 5))])(bR:mg "len"=none)(aF:mg "tuple"=none):cN P w K mg base 21 ["_law_pair","_law_one","_law_other","_law_x","_law_first","_law_second","_law_form_here","_law_view","_law_put","_law_wide","_law_due"] "_law_again" iV f gJ:=
 ⟨λcdv A outer s H E hr hp=>(ao (aC (i:=4) tU.nd rfl ‹1› (aN (aa (bX (ay (ae (xv 1)) (ah) (λ_ _=>rfl)) (cA) (cD (ah))) (aa (bX (ay (ae (xv 2)) (ah) (λ_ _=>rfl)) (cD (ah)) (cA)) (aj))))) (ao (aC (i:=5) tU.nd rfl ‹1› (aN (aa (bX (ay (ae (xv 2)) (ah) (λ_ _=>rfl)) (cA) (cD (ah))) (aa (ay (ae (xv 1)) (ah) (λ_ _=>rfl)) (aj))))) (ao (aC (i:=6) tU.nd rfl ‹1› (aN (aa (ax bN aP hr ‹0› (aa (ae (xv 4)) (aa (ae (xv 5)) (aj)))) (aa (aq aX au (ay (ae (xv 4)) (ah) (λ_ _=>rfl)) (ay (ae (xv 5)) (ah) (λ_ _=>rfl))) (aj))))) (ao (aC (i:=7) tU.nd rfl ‹1› (ax eV (gB 20) hr ‹0› (aa (ae (xv 6)) (aa (ae (xv 3)) (aa (ah) (aj)))))) (ao (bW (jJ (cU (ax bU (cx 20) hr ‹0› (aa (gI dg hr ‹0› (ae (xv 0)) (aa (ae (xv 4)) (aa (ae (xv 5)) (aj)))) (aa (ae (xv 6)) (aj)))))) (az (aK (jw))) (aM)) (ao (aC (i:=8) tU.nd rfl ‹1› (gI pq hr ‹0› (ae (xv 0)) (aa (aN (aa (ae (xv 4)) (aa (ae (xv 5)) (aj)))) (aa (aN (aa (aN (aj)) (aa (aN (aj)) (aj)))) (aa (ae (xv 7)) (aj)))))) (ao (aC (i:=9) tU.nd rfl ‹1› (aq aX au (ah) (bp cC rfl bR PySem.boot_len (aa (ay (ae (xv 4)) (ah) (λ_ _=>rfl)) (aj))))) (ao (aC (i:=10) tU.nd rfl ‹1› (aN (aa (bi bC rfl aF QS (aa (dJ (N:=["_law_row_here","_law_wide"]) (ix:=[none,some 9]) rfl (.of rfl) (cf rfl) (cF (ae (xv 7))) ⟨λ_ _ _ _ _ _=>⟨aL (i:=0) Jw rfl (Or.inl rfl),de,bX (ae (xv 0)) (cA) (cD (ae (xv 1)))⟩⟩) (aj))) (aa (bi bC rfl aF QS (aa (dJ (N:=["_law_row_here","_law_wide"]) (ix:=[none,some 9]) rfl (.of rfl) (cf rfl) (cF (ae (xv 7))) ⟨λ_ _ _ _ _ _=>⟨aL (i:=0) Jv rfl (Or.inl rfl),de,aq aX au (bX (ae (xv 0)) (cA) (cD (ah))) (bX (ae (xv 0)) (cD (ae (xv 1))) (cA))⟩⟩) (aj))) (aj))))) (az (aK (o6 (ax bU (cx 20) hr ‹0› (aa (ae (xv 8)) (aa (ae (xv 10)) (aj)))) (q5 (ax bU (cx 20) hr ‹0› (aa (gI dz hr ‹0› (ae (xv 0)) (aa (aN (aa (ae (xv 4)) (aa (ae (xv 5)) (aj)))) (aa (ae (xv 10)) (aj)))) (aa (ae (xv 7)) (aj))))))))))))))))⟩
theorem qE{f:Q4}(bR:mg "len"=none):cN P w K mg base 0 ["_law_script","_law_k"] "_law_cell_at" gf f dM:=
 ⟨λcdv A outer s H E hr hp=>(ao (bW (bu (sg hr.units) au (ae (xv 1)) (bp cC rfl bR PySem.boot_len (aa (ae (xv 0)) (aj))) (ca _)) (az (aK (ay (ae (xv 0)) (ae (xv 1)) (λ_ _=>rfl)))) (aM)) (az (aK (ah))))⟩
theorem vJ{f:Q4}(dS:Callee P w K mg base 1 "_law_cell_at" ["_law_script","_law_k"] (bb dM 2 2))(aE:Callee P w K mg base 1 "_law_next" ["_law_x"] (bb aW 1 1)):cN P w K mg base 1 ["_law_script","_law_k","_law_x"] "_law_seed" jP f cQ:=
 ⟨λcdv A outer s H E hr hp=>(ao (aC (i:=2) wm.nd rfl ‹1› (aq bz bx (aq aX au (aq aX au (aq bz bx (ax dS aP hr ‹0› (aa (ae (xv 0)) (aa (ae (xv 1)) (aj)))) (ah)) (aq kW ly (aq kW ly (ah) (ae (xv 1))) (ae (xv 1)))) (ah)) (ah))) (az (aK (ax aE aP hr ‹0› (aa (ax aE aP hr ‹0› (aa (ae (xv 2)) (aj))) (aj))))))⟩
theorem tR{f:Q4}:cN P w K mg base 0 ["self"] "Pair.words" i5 f gx:=
 ⟨λcdv A outer s H E hr hp=>(az (aK (aN (aj))))⟩
theorem tZ{f:Q4}:cN P w K mg base 0 ["self"] "Join.words" iU f fm:=
 ⟨λcdv A outer s H E hr hp=>(az (aK (aN (aa (cE) (aj)))))⟩
theorem sA{f:Q4}(fS:Callee P w K mg base 21 "_law_row" ["_law_form_here","_law_many","_law_head","_law_tail"] (aQ 20))(aF:mg "tuple"=none):cN P w K mg base 21 ["_law_fields","_law_x"] "_law_values" il f cO:=
 ⟨λcdv A outer s H E hr hp=>(az (aK (ax fS (ir 20) hr ‹0› (aa (aN (aa (bi bC rfl aF QS (aa (ae (xv 0)) (aj))) (aa (aN (aj)) (aj)))) (aa (ah) (aa (ah) (aa (ae (xv 1)) (aj))))))))⟩
theorem lP{f:Q4}(bN:Callee P w K mg base 2 "_law_key_of_both" ["_law_one","_law_other"] (bb bB 2 5))(dE:Callee P w K mg base 2 "_law_seed" ["_law_script","_law_k"] (bb cQ 2 3))(aE:Callee P w K mg base 1 "_law_next" ["_law_x"] (bb aW 1 1))(fG:Callee P w K mg base 22 "_law_values" ["_law_fields","_law_x"] (bb cO 2 2))(bL:Callee P w K mg base 1 "_law_sorted" ["_law_many","_law_rows_here"] (bb bG 2 4))(bQ:mg "range"=none)(oO:mg "min"=none)(gF:mg "max"=none)(bR:mg "len"=none):cN P w K mg base 22 ["_law_one","_law_other","_law_script","_law_start","_law_most","_law_both_key","_law_rows_here","_law_k","_law_x","_law_way","_law_y","_law_key"] "_law_joined_tables" dF f cR:=
 ⟨λcdv A outer s H E hr hp=>(ao (aC (i:=5) lM.nd rfl ‹1› (ax bN aP hr ‹0› (aa (ae (xv 0)) (aa (ae (xv 1)) (aj))))) (ao (BG (i:=6) lM.nd rfl ‹1›) (ao (e6 hp rfl (yO rfl bQ (aa (ae (xv 3)) (aa (bp (n6 rfl) rfl oO QU (aa (bp (kJ rfl) rfl gF QT (aa (bp cC rfl bR PySem.boot_len (aa (ae (xv 2)) (aj))) (aa (aq aX au (ae (xv 3)) (ah)) (aj)))) (aa (aq aX au (ae (xv 3)) (ae (xv 4))) (aj)))) (aj)))) (aL (i:=7) lM.nd rfl ‹1›) (ao (aC (i:=8) lM.nd rfl ‹1› (ax dE aP hr ‹0› (aa (ae (xv 2)) (aa (ae (xv 7)) (aj))))) (ao (aC (i:=9) lM.nd rfl ‹1› (aq bz bx (ae (xv 8)) (ah))) (ao (aC (i:=10) lM.nd rfl ‹1› (ax aE aP hr ‹0› (aa (ae (xv 8)) (aj)))) (ao (aC (i:=11) lM.nd rfl ‹1› (ax fG aP hr ‹0› (aa (ay (eN (aa (ay (ae (xv 0)) (ah) (λ_ _=>rfl)) (aa (ay (ae (xv 1)) (ah) (λ_ _=>rfl)) (aa (ae (xv 5)) (aa (ae (xv 5)) (aa (ae (xv 5)) (aj))))))) (ae (xv 9)) (λ_ _=>rfl)) (aa (ay (eN (aa (ae (xv 10)) (aa (aq bz bx (ae (xv 10)) (ah)) (aj)))) (aq bz bx (aq bj bZ (ae (xv 8)) (ah)) (ah)) (λ_ _=>rfl)) (aj))))) (ao (bW (bu (pB hr.units) au (ae (xv 9)) (aN (aa (ah) (aa (ah) (aa (ah) (aj))))) rfl) (az (xE (c:=0) (xv 6) (aq aX au (ae (xv 11)) (ax fG aP hr ‹0› (aa (ay (ae (xv 0)) (ah) (λ_ _=>rfl)) (aa (aq aX au (ae (xv 10)) (ah)) (aj))))))) (aM)) (ao (bW (bu (pB hr.units) au (ae (xv 9)) (aN (aa (ah) (aa (ah) (aa (ah) (aj))))) rfl) (az (xE (c:=1) (xv 6) (aq aX au (ae (xv 11)) (ax fG aP hr ‹0› (aa (ay (ae (xv 1)) (ah) (λ_ _=>rfl)) (aa (aq aX au (ae (xv 10)) (ah)) (aj))))))) (aM)) (cK [7,8,9,10,11] aM)))))))) (By 6 (az (aK (aN (aa (ax bL aP hr ‹0› (aa (bp cC rfl bR PySem.boot_len (aa (ay (ae (xv 0)) (ah) (λ_ _=>rfl)) (aj))) (aa (ay (ae (xv 6)) (ah) (λ_ _=>rfl)) (aj)))) (aa (ax bL aP hr ‹0› (aa (bp cC rfl bR PySem.boot_len (aa (ay (ae (xv 0)) (ah) (λ_ _=>rfl)) (aj))) (aa (ay (ae (xv 6)) (ah) (λ_ _=>rfl)) (aj)))) (aj))))))))))⟩
theorem vN{f:Q4}(bQ:mg "range"=none):cN P w K mg base 0 ["_law_base","_law_k","_law_letters","_law_size","_law_name_here","_law_j","_law_step"] "_law_name" jD f bY:=
 ⟨λcdv A outer s H E hr hp=>(ao (aC (i:=2) vz.nd rfl ‹1› (cE)) (ao (aC (i:=1) vz.nd rfl ‹1› (aq bz bx (aq aX au (aq kW ly (ae (xv 1)) (ay (eN (aa (ah) (aa (ah) (aa (ah) (aa (ah) (aa (ah) (aa (ah) (aj)))))))) (aq bz bx (ae (xv 0)) (ah)) (λ_ _=>rfl))) (aq bj bZ (ae (xv 0)) (ah))) (ah))) (ao (aC (i:=0) vz.nd rfl ‹1› (aq bj bZ (ae (xv 0)) (ah))) (ao (bW (bu (dC hr.units) au (aq bz bx (ae (xv 0)) (ah)) (ah) (ca _)) (az (aK (aq oz au (ay (ae (xv 2)) (aq bz bx (aq aX au (aq bj bZ (ae (xv 0)) (ah)) (aq bj bZ (ae (xv 1)) (ah))) (ah)) (λ_ _=>rfl)) (aq aX au (ah) (aq bz bx (ae (xv 1)) (ah)))))) (aM)) (ao (aC (i:=3) vz.nd rfl ‹1› (aq aX au (ah) (aq bz bx (aq bj bZ (ae (xv 0)) (ah)) (ah)))) (ao (aC (i:=4) vz.nd rfl ‹1› (cE)) (ao (e6 hp rfl (jh rfl bQ (aa (ae (xv 3)) (aj))) (aL (i:=5) vz.nd rfl ‹1›) (ao (aC (i:=6) vz.nd rfl ‹1› (aq bj bZ (ae (xv 0)) (aq aX au (ah) (aq kW ly (aq kW ly (ah) (ae (xv 5))) (ae (xv 5)))))) (ao (bW (bu (dC hr.units) au (ae (xv 5)) (aq bz bx (aq bj bZ (ae (xv 0)) (ah)) (ae (xv 3))) (ca _)) (az (aC (i:=6) vz.nd rfl ‹1› (aq aX au (ae (xv 6)) (ae (xv 1))))) (aM)) (ao (aC (i:=4) vz.nd rfl ‹1› (aq aX au (ae (xv 4)) (ay (ae (xv 2)) (aq bz bx (ae (xv 6)) (ah)) (λ_ _=>rfl)))) (cK [5,6] aM))))) (az (aK (ae (xv 4)))))))))))⟩
theorem tL{f:Q4}(bQ:mg "range"=none)(bR:mg "len"=none)(aF:mg "tuple"=none)(dY:mg "sorted"=none)(iO:mg "list"=none):cN P w K mg base 0 ["_law_x","_law_low","_law_letters","_law_one","_law_other","_law_some","_law_kept","_law_k"] "_law_plain" iR f dq:=
 ⟨λcdv A outer s H E hr hp=>(ao (bW (bu (sg hr.units) au (aq bz bx (ae (xv 0)) (ah)) (ah) (ca _)) (ao (aC (i:=1) tW.nd rfl ‹1› (ay (eN (aa (ah) (aa (zK (ah)) (aa (aq sd rQ (ah) (aq bz bx (aq hZ gY (ae (xv 0)) (ah)) (aq hZ gY (ah) (ah)))) (aa (aq bz bx (aq hZ gY (ae (xv 0)) (ah)) (aq hZ gY (ah) (ah))) (aj)))))) (aq bz bx (aq bj bZ (ae (xv 0)) (ah)) (ah)) (λ_ _=>rfl))) (az (aK (aN (aa (cE) (aa (ae (xv 1)) (aa (aq aX au (ae (xv 1)) (ay (eN (aa (ah) (aa (ah) (aa (ah) (aa (aq hZ gY (ah) (ah)) (aj)))))) (aq bz bx (aq bj bZ (ae (xv 0)) (ah)) (ah)) (λ_ _=>rfl))) (aj)))))))) (aM)) (ao (aC (i:=2) tW.nd rfl ‹1› (cE)) (ao (aC (i:=3) tW.nd rfl ‹1› (ay (ae (xv 2)) (aq bz bx (aq bj bZ (ae (xv 0)) (ah)) (ah)) (λ_ _=>rfl))) (ao (aC (i:=4) tW.nd rfl ‹1› (ay (ae (xv 2)) (aq bz bx (aq bj bZ (ae (xv 0)) (ah)) (ah)) (λ_ _=>rfl))) (ao (aC (i:=5) tW.nd rfl ‹1› (eN (aa (cE) (aa (ae (xv 3)) (aa (ae (xv 4)) (aa (aq aX au (ae (xv 3)) (ae (xv 4))) (aa (aq aX au (ae (xv 4)) (ae (xv 3))) (aa (aq oz au (ae (xv 3)) (ah)) (aa (aq aX au (ae (xv 3)) (ae (xv 3))) (aa (aq oz au (ae (xv 4)) (ah)) (aj))))))))))) (ao (gr (i:=6) tW.nd rfl ‹1› (o7)) (cK [1,2,4] (ao (e6 hp rfl (jh rfl bQ (aa (ah) (aj))) (aL (i:=7) tW.nd rfl ‹1›) (ao (bW (bu (dC hr.units) au (aq yT zp (aq zq yq (aq bj bZ (ae (xv 0)) (ah)) (ae (xv 7))) (ah)) (ah) (ca _)) (az (rY (hr.units) (xv 6) (ay (ae (xv 5)) (ae (xv 7)) (λ_ _=>rfl)) (jw))) (aM)) (cK [7] aM))) (ao (bW (wW [6] (bu (dC hr.units) au (bp Bc rfl bR PySem.boot_len (aa (ae (xv 6)) (aj))) (ah) (ca _))) (az (rY (hr.units) (xv 6) (ae (xv 3)) (jw))) (aM)) (eY 6 (az (aK (aN (aa (cE) (aa (bi bC rfl aF QS (aa (bp lx rfl dY i6 (aa (bi (sC rfl) rfl iO QV (aa (ae (xv 6)) (aj))) (aj))) (aj))) (aj))))))))))))))))⟩
theorem vC{n:Nat}{f:Q4}(dh:Callee P w K mg base 1 "_law_plain" ["_law_x"] (bb dq 1 8))(aE:Callee P w K mg base 1 "_law_next" ["_law_x"] (bb aW 1 1))(cz:Callee P w K mg base 1 "_law_name" ["_law_base","_law_k"] (bb bY 2 7))(bQ:mg "range"=none)(aF:mg "tuple"=none){bg:List D->R D}(mF:Callee P w K mg base (1+n) "_law_kind" ["_law_x","_law_base","_law_deep"] bg)(L__law_kind:Ar 3 bg){aU:List D->R D}(eX:Callee P w K mg base (1+n) "_law_form" ["_law_x","_law_base","_law_start","_law_many","_law_more","_law_deep"] aU)(L__law_form:Ar 6 aU):cN P w K mg base (1+n) ["_law_x","_law_base","_law_deep","_law_inner"] "_law_kind" iF f (iG bg aU):=
 ⟨λcdv A outer s H E hr hp=>(ao (bW (Gj (lW (bu (dC hr.units) au (ae (xv 2)) (ah) (ca _)) (jF (bu (sg hr.units) au (aq bz bx (ae (xv 0)) (ah)) (ah) (ca _))))) (az (aK (ax dh aP hr ‹0› (aa (aq bj bZ (ae (xv 0)) (ah)) (aj))))) (aM)) (ao (aC (i:=3) v8.nd rfl ‹1› (ax eX L__law_form hr ‹0› (aa (aq bj bZ (ae (xv 0)) (ah)) (aa (ae (xv 1)) (aa (aq bz bx (aq bj bZ (ae (xv 0)) (ah)) (ah)) (aa (aq aX au (ah) (aq bz bx (aq bj bZ (ae (xv 0)) (ah)) (ah))) (aa (aq bz bx (aq bj bZ (ae (xv 0)) (ah)) (ah)) (aa (aq sd rQ (ae (xv 2)) (ah)) (aj))))))))) (az (aK (aN (aa (cE) (aa (ae (xv 3)) (aa (oD (dC hr.units) au (aq bz bx (aq bj bZ (ae (xv 0)) (ah)) (ah)) (ah) (ca _)) (aj)))))))))⟩
theorem vI{n:Nat}{f:Q4}(dh:Callee P w K mg base 1 "_law_plain" ["_law_x"] (bb dq 1 8))(aE:Callee P w K mg base 1 "_law_next" ["_law_x"] (bb aW 1 1))(cz:Callee P w K mg base 1 "_law_name" ["_law_base","_law_k"] (bb bY 2 7))(bQ:mg "range"=none)(aF:mg "tuple"=none){bg:List D->R D}(mF:Callee P w K mg base (1+n) "_law_kind" ["_law_x","_law_base","_law_deep"] bg)(L__law_kind:Ar 3 bg){aU:List D->R D}(eX:Callee P w K mg base (1+n) "_law_form" ["_law_x","_law_base","_law_start","_law_many","_law_more","_law_deep"] aU)(L__law_form:Ar 6 aU):cN P w K mg base (1+n) ["_law_x","_law_base","_law_start","_law_many","_law_more","_law_deep","_law_key","_law_rest","_law_k"] "_law_form" iE f (jH bg aU):=
 ⟨λcdv A outer s H E hr hp=>(ao (gr (i:=6) wc.nd rfl ‹1› (jO (aj))) (ao (gr (i:=7) wc.nd rfl ‹1› (jO (aj))) (ao (e6 hp rfl (jh rfl bQ (aa (aq aX au (ae (xv 3)) (ae (xv 4))) (aj))) (aL (i:=8) wc.nd rfl ‹1›) (ao (aC (i:=0) wc.nd rfl ‹1› (ax aE aP hr ‹0› (aa (ae (xv 0)) (aj)))) (ao (bW (bu (sg hr.units) au (ae (xv 8)) (ae (xv 3)) (ca _)) (az (kF QZ Q0 dQ e9 (xv 6) (aa (aN (aa (ax cz aP hr ‹0› (aa (ae (xv 1)) (aa (aq aX au (ae (xv 2)) (ae (xv 8))) (aj)))) (aa (ax dh aP hr ‹0› (aa (ae (xv 0)) (aj))) (aj)))) (aj)))) (az (kF QZ Q0 dQ e9 (xv 7) (aa (aN (aa (ax cz aP hr ‹0› (aa (ae (xv 1)) (aa (aq aX au (ae (xv 2)) (ae (xv 8))) (aj)))) (aa (ax mF L__law_kind hr ‹0› (aa (ae (xv 0)) (aa (ae (xv 1)) (aa (ae (xv 5)) (aj))))) (aj)))) (aj))))) (cK [8] aM)))) (eY 7 (eY 6 (az (aK (aN (aa (bi bC rfl aF QS (aa (ae (xv 6)) (aj))) (aa (bi bC rfl aF QS (aa (ae (xv 7)) (aj))) (aj)))))))))))⟩
theorem nX{f__law_kind:Q4}{fd__law_kind:RJ}(F__law_kind:yn K "_law_kind" "_law_kind" iF f__law_kind fd__law_kind)(lY:Binds K fd__law_kind ["_law_x","_law_base","_law_deep"] [])(m__law_kind:mg "_law_kind"=some (.ref f__law_kind)){f__law_form:Q4}{fd__law_form:RJ}(F__law_form:yn K "_law_form" "_law_form" iE f__law_form fd__law_form)(mB:Binds K fd__law_form ["_law_x","_law_base","_law_start","_law_many","_law_more","_law_deep"] [])(m__law_form:mg "_law_form"=some (.ref f__law_form))(dh:Callee P w K mg base 1 "_law_plain" ["_law_x"] (bb dq 1 8))(aE:Callee P w K mg base 1 "_law_next" ["_law_x"] (bb aW 1 1))(cz:Callee P w K mg base 1 "_law_name" ["_law_base","_law_k"] (bb bY 2 7))(bQ:mg "range"=none)(aF:mg "tuple"=none):∀n:Nat,Callee P w K mg base (1+n) "_law_kind" ["_law_x","_law_base","_law_deep"] (bg n)/\Callee P w K mg base (1+n) "_law_form" ["_law_x","_law_base","_law_start","_law_many","_law_more","_law_deep"] (aU n)
 |0=>by
  rw[bg];rw[aU];exact⟨fW 1 F__law_kind lY m__law_kind,fW 1 F__law_form mB m__law_form⟩
 |n+1=>by
  have ih:=nX F__law_kind lY m__law_kind F__law_form mB m__law_form dh aE cz bQ aF n;rw[e7];rw[ik];exact⟨bA F__law_kind lY m__law_kind v8 (cN.ok (vC dh aE cz bQ aF ih.1 (mL n) ih.2 (gG n))),bA F__law_form mB m__law_form wc (cN.ok (vI dh aE cz bQ aF ih.1 (mL n) ih.2 (gG n)))⟩
theorem oj{f:Q4}(dY:mg "sorted"=none)(iO:mg "list"=none):cN P w K mg base 0 ["_law_x","_law_letters","_law_one","_law_other","_law_kept","_law_word"] "_law_some_words" eK f dH:=
 ⟨λcdv A outer s H E hr hp=>(ao (aC (i:=1) oa.nd rfl ‹1› (cE)) (ao (aC (i:=2) oa.nd rfl ‹1› (ay (ae (xv 1)) (aq bz bx (ae (xv 0)) (ah)) (λ_ _=>rfl))) (ao (aC (i:=3) oa.nd rfl ‹1› (ay (ae (xv 1)) (aq bz bx (aq bj bZ (ae (xv 0)) (ah)) (ah)) (λ_ _=>rfl))) (ao (gr (i:=4) oa.nd rfl ‹1› (o7)) (cK [0,1] (ao (e6 hp rfl (cF (eN (aa (cE) (aa (ae (xv 2)) (aa (ae (xv 3)) (aa (aq aX au (ae (xv 2)) (ae (xv 3))) (aa (aq aX au (ae (xv 3)) (ae (xv 2))) (aa (aq oz au (ae (xv 2)) (ah)) (aa (aq aX au (ae (xv 2)) (ae (xv 2))) (aa (aq oz au (ae (xv 3)) (ah)) (aj))))))))))) (aL (i:=5) oa.nd rfl ‹1›) (ao (rY (hr.units) (xv 4) (ae (xv 5)) (jw)) (cK [5] aM))) (eY 4 (az (aK (bp lx rfl dY i6 (aa (bi (sC rfl) rfl iO QV (aa (ae (xv 4)) (aj))) (aj))))))))))))⟩
theorem oU{f:Q4}(aE:Callee P w K mg base 1 "_law_next" ["_law_x"] (bb aW 1 1))(gq:Callee P w K mg base 1 "_law_some_words" ["_law_x"] (bb dH 1 6))(bR:mg "len"=none)(aF:mg "tuple"=none)(jK:mg "enumerate"=none):cN P w K mg base 1 ["_law_x","_law_y","_law_low","_law_wide","_law_far","_law_one","_law_other","_law_some","_law_spare"] "_law_two_kinds" eZ f dU:=
 ⟨λcdv A outer s H E hr hp=>(ao (aC (i:=1) oS.nd rfl ‹1› (ax aE aP hr ‹0› (aa (ae (xv 0)) (aj)))) (ao (aC (i:=2) oS.nd rfl ‹1› (ay (eN (aa (ah) (aa (zK (ah)) (aa (aq sd rQ (ah) (aq bz bx (aq hZ gY (ae (xv 1)) (ah)) (aq hZ gY (ah) (ah)))) (aa (aq bz bx (aq hZ gY (ae (xv 1)) (ah)) (aq hZ gY (ah) (ah))) (aj)))))) (aq bz bx (aq bj bZ (ae (xv 0)) (ah)) (ah)) (λ_ _=>rfl))) (ao (aC (i:=3) oS.nd rfl ‹1› (ay (eN (aa (ah) (aa (ah) (aa (ah) (aa (aq hZ gY (ah) (ah)) (aj)))))) (aq bz bx (aq bj bZ (ae (xv 0)) (ah)) (ah)) (λ_ _=>rfl))) (ao (aC (i:=4) oS.nd rfl ‹1› (aq bz bx (aq hZ gY (ae (xv 1)) (ah)) (aq aX au (ae (xv 3)) (ah)))) (ao (aC (i:=5) oS.nd rfl ‹1› (aN (aa (cE) (aa (ae (xv 2)) (aa (aq aX au (ae (xv 2)) (ae (xv 3))) (aj)))))) (ao (aC (i:=6) oS.nd rfl ‹1› (aN (aa (cE) (aa (aq aX au (ae (xv 2)) (ae (xv 4))) (aa (aq aX au (aq aX au (ae (xv 2)) (ae (xv 4))) (ay (eN (aa (ah) (aa (ah) (aa (ah) (aa (aq hZ gY (ah) (ah)) (aj)))))) (aq bz bx (aq bj bZ (ae (xv 0)) (ah)) (ah)) (λ_ _=>rfl))) (aj)))))) (ao (bW (bu (dC hr.units) au (aq bz bx (ae (xv 0)) (ah)) (ah) (ca _)) (ao (aC (i:=7) oS.nd rfl ‹1› (ax gq aP hr ‹0› (aa (aq bj bZ (ae (xv 0)) (ah)) (aj)))) (ao (aC (i:=8) oS.nd rfl ‹1› (ay (ae (xv 7)) (aq bz bx (ae (xv 1)) (bp cC rfl bR PySem.boot_len (aa (ae (xv 7)) (aj)))) (λ_ _=>rfl))) (ao (aC (i:=5) oS.nd rfl ‹1› (aN (aa (cE) (aa (bi bC rfl aF QS (aa (dJ (N:=["_law_k","_law_word","_law_spare","_law_y"]) (ix:=[none,none,some 8,some 1]) rfl (.of rfl) (jq rfl) (nS rfl jK (aa (ae (xv 7)) (aj))) ⟨λ_ _ _ _ _ _=>⟨iY (g:=oo [0,1]) rfl (cu (aL (i:=0) Fz rfl (Or.inl rfl)) (cu (aL (i:=1) Fz rfl (Or.inl rfl)) (fZ))),iy (Gj (lW (bu (dC hr.units) au (ae (xv 1)) (ae (xv 2)) (ca _)) (jF (bu (dC hr.units) au (aq yT zp (aq zq yq (aq bj bZ (ae (xv 3)) (ah)) (ae (xv 0))) (ah)) (ah) (ca _))))),ae (xv 1)⟩⟩) (aj))) (aj))))) (az (aC (i:=6) oS.nd rfl ‹1› (aN (aa (cE) (aa (bi bC rfl aF QS (aa (dJ (N:=["_law_k","_law_word","_law_spare","_law_y"]) (ix:=[none,none,some 8,some 1]) rfl (.of rfl) (jq rfl) (nS rfl jK (aa (ae (xv 7)) (aj))) ⟨λ_ _ _ _ _ _=>⟨iY (g:=oo [0,1]) rfl (cu (aL (i:=0) Gq rfl (Or.inl rfl)) (cu (aL (i:=1) Gq rfl (Or.inl rfl)) (fZ))),iy (Gj (lW (bu (dC hr.units) au (ae (xv 1)) (ae (xv 2)) (ca _)) (jF (bu (dC hr.units) au (aq yT zp (aq zq yq (aq bj bZ (ae (xv 3)) (ah)) (ae (xv 0))) (ah)) (ah) (ca _))))),ae (xv 1)⟩⟩) (aj))) (aj))))))))) (aM)) (ao (bW (bu (dC hr.units) au (aq bz bx (aq bj bZ (ae (xv 0)) (ah)) (ah)) (ah) (ca _)) (az (aK (aN (aa (ae (xv 6)) (aa (ae (xv 5)) (aj)))))) (aM)) (az (aK (aN (aa (ae (xv 5)) (aa (ae (xv 6)) (aj))))))))))))))⟩
theorem pG{f:Q4}(aE:Callee P w K mg base 1 "_law_next" ["_law_x"] (bb aW 1 1))(hJ:Callee P w K mg base 2 "_law_two_kinds" ["_law_x"] (bb dU 1 9))(cz:Callee P w K mg base 1 "_law_name" ["_law_base","_law_k"] (bb bY 2 7))(bQ:mg "range"=none)(aF:mg "tuple"=none):cN P w K mg base 2 ["_law_x","_law_base","_law_many","_law_one","_law_other","_law_k","_law_kinds"] "_law_two_keys" fJ f d9:=
 ⟨λcdv A outer s H E hr hp=>(ao (gr (i:=3) qe.nd rfl ‹1› (jO (aj))) (ao (gr (i:=4) qe.nd rfl ‹1› (jO (aj))) (ao (e6 hp rfl (jh rfl bQ (aa (ae (xv 2)) (aj))) (aL (i:=5) qe.nd rfl ‹1›) (ao (aC (i:=0) qe.nd rfl ‹1› (ax aE aP hr ‹0› (aa (ae (xv 0)) (aj)))) (ao (aC (i:=6) qe.nd rfl ‹1› (ax hJ aP hr ‹0› (aa (ae (xv 0)) (aj)))) (ao (kF QZ Q0 dQ e9 (xv 3) (aa (aN (aa (ax cz aP hr ‹0› (aa (ae (xv 1)) (aa (ae (xv 5)) (aj)))) (aa (ay (ae (xv 6)) (ah) (λ_ _=>rfl)) (aj)))) (aj))) (ao (kF QZ Q0 dQ e9 (xv 4) (aa (aN (aa (ax cz aP hr ‹0› (aa (ae (xv 1)) (aa (ae (xv 5)) (aj)))) (aa (ay (ae (xv 6)) (ah) (λ_ _=>rfl)) (aj)))) (aj))) (cK [5,6] aM)))))) (eY 4 (eY 3 (az (aK (aN (aa (bi bC rfl aF QS (aa (ae (xv 3)) (aj))) (aa (bi bC rfl aF QS (aa (ae (xv 4)) (aj))) (aj)))))))))))⟩
theorem mC{f:Q4}(dE:Callee P w K mg base 2 "_law_seed" ["_law_script","_law_k"] (bb cQ 2 3))(dS:Callee P w K mg base 1 "_law_cell_at" ["_law_script","_law_k"] (bb dM 2 2))(iM:Callee P w K mg base 3 "_law_two_keys" ["_law_x","_law_base","_law_many"] (bb d9 3 7))(aE:Callee P w K mg base 1 "_law_next" ["_law_x"] (bb aW 1 1))(eX:Callee P w K mg base 21 "_law_form" ["_law_x","_law_base","_law_start","_law_many","_law_more","_law_deep"] (aU 20)):cN P w K mg base 21 ["_law_script","_law_x","_law_base","_law_keys","_law_deep","_law_more","_law_first","_law_last"] "_law_joined_forms" dL f cZ:=
 ⟨λcdv A outer s H E hr hp=>(ao (aC (i:=1) lU.nd rfl ‹1› (ax dE aP hr ‹0› (aa (ae (xv 0)) (aa (ah) (aj))))) (ao (aC (i:=2) lU.nd rfl ‹1› (aq bz bx (aq kW ly (ax dS aP hr ‹0› (aa (ae (xv 0)) (aa (ah) (aj)))) (ah)) (ah))) (ao (aC (i:=3) lU.nd rfl ‹1› (ax iM aP hr ‹0› (aa (ax aE aP hr ‹0› (aa (ae (xv 1)) (aj))) (aa (ae (xv 2)) (aa (ay (eN (aa (ah) (aa (ah) (aa (ah) (aa (ah) (aa (ah) (aa (ah) (aa (ah) (aa (aq aX au (ah) (aq bz bx (aq bj bZ (ae (xv 1)) (ah)) (ah))) (aj)))))))))) (aq bz bx (ae (xv 1)) (ah)) (λ_ _=>rfl)) (aj)))))) (ao (aC (i:=4) lU.nd rfl ‹1› (ay (eN (aa (ah) (aa (ah) (aa (ah) (aa (ah) (aj)))))) (aq bz bx (aq bj bZ (ae (xv 1)) (ah)) (ah)) (λ_ _=>rfl))) (ao (aC (i:=5) lU.nd rfl ‹1› (eN (aa (aq bz bx (aq bj bZ (ae (xv 1)) (ah)) (ah)) (aa (aq bz bx (aq bj bZ (ae (xv 1)) (ah)) (ah)) (aj))))) (ao (bW (bu (dC hr.units) au (aq bz bx (aq bj bZ (ae (xv 1)) (ah)) (ah)) (ah) (ca _)) (ao (aC (i:=5) lU.nd rfl ‹1› (eN (aa (aq bz bx (aq bj bZ (ae (xv 1)) (ah)) (ah)) (aa (aq sd rQ (ah) (aq bz bx (aq bj bZ (ae (xv 1)) (ah)) (ah))) (aj))))) (az (aC (i:=4) lU.nd rfl ‹1› (ah)))) (aM)) (ao (aC (i:=6) lU.nd rfl ‹1› (ay (ax eX (gG 20) hr ‹0› (aa (aq aX au (ax aE aP hr ‹0› (aa (ae (xv 1)) (aj))) (ah)) (aa (ae (xv 2)) (aa (ah) (aa (ah) (aa (ay (ae (xv 5)) (ah) (λ_ _=>rfl)) (aa (ae (xv 4)) (aj)))))))) (ah) (λ_ _=>rfl))) (ao (aC (i:=7) lU.nd rfl ‹1› (ay (ax eX (gG 20) hr ‹0› (aa (aq aX au (ax aE aP hr ‹0› (aa (ae (xv 1)) (aj))) (ah)) (aa (ae (xv 2)) (aa (ah) (aa (ah) (aa (ay (ae (xv 5)) (ah) (λ_ _=>rfl)) (aa (ae (xv 4)) (aj)))))))) (ah) (λ_ _=>rfl))) (az (aK (aN (aa (aN (aa (ay (ae (xv 3)) (ah) (λ_ _=>rfl)) (aa (ae (xv 6)) (aj)))) (aa (aN (aa (ay (ae (xv 3)) (ah) (λ_ _=>rfl)) (aa (ae (xv 7)) (aj)))) (aj))))))))))))))⟩
theorem Hz{f:Q4}{fd:RJ}(F:yn K "law" "law" rM f fd)(fD:Callee P w K mg base 22 "_law_joined_forms" ["_law_script"] (bb cZ 1 8))(eR:Callee P w K mg base 23 "_law_joined_tables" ["_law_one","_law_other","_law_script","_law_start","_law_most"] (bb cR 5 12))(bN:Callee P w K mg base 2 "_law_key_of_both" ["_law_one","_law_other"] (bb bB 2 5))(bU:Callee P w K mg base 20 "_law_alike" ["_law_found","_law_due"] (aG 20))(lA:Callee P w K mg base 22 "_law_again" ["_law_pair","_law_one","_law_other","_law_x"] (bb gJ 4 11))(dE:Callee P w K mg base 2 "_law_seed" ["_law_script","_law_k"] (bb cQ 2 3))(dg:fU P w K mg base 23 "view_form" ["self","one","other"] [("Pair",(bb cj 3 3)),("Join",(bb bJ 3 5))])(oh:fU P w K mg base 23 "words" ["self"] [("Pair",(bb gx 1 1)),("Join",(bb fm 1 1))])(dz:fU P w K mg base 23 "got" ["self","forms","tables"] [("Pair",(bb dB 3 3)),("Join",(bb cy 3 5))])(N_Join:zH K mg "Join")(bR:mg "len"=none)(aF:mg "tuple"=none):nQ P w K mg base (oq P w) 24 f fd ["_law_script"] (BW K 1 (bb sG 1 10)):=
 wj (k:=23) F Hc (cN.ok ⟨λcdv A outer s H E hr hp=>(ao (Fj (ax fD aP hr ‹0› (aa (ae (xv 0)) (aj))) (iY (g:=oo [1,2]) rfl (cu (aL (i:=1) Hc.nd rfl ‹1›) (cu (aL (i:=2) Hc.nd rfl ‹1›) (fZ))))) (ao (aC (i:=3) Hc.nd rfl ‹1› (ax eR aP hr ‹0› (aa (ae (xv 1)) (aa (ae (xv 2)) (aa (ae (xv 0)) (aa (ah) (aa (ah) (aj)))))))) (ao (aC (i:=4) Hc.nd rfl ‹1› (bp cC rfl bR PySem.boot_len (aa (ay (ae (xv 1)) (ah) (λ_ _=>rfl)) (aj)))) (ao (gr (i:=5) Hc.nd rfl ‹1› (jO (aj))) (ao (e6 hp rfl (cF (ay (ae (xv 3)) (ah) (λ_ _=>rfl))) (aL (i:=6) Hc.nd rfl ‹1›) (ao (e6 hp rfl (cF (ay (ae (xv 3)) (ah) (λ_ _=>rfl))) (aL (i:=7) Hc.nd rfl ‹1›) (ao (bW (bu (dC hr.units) au (bX (ae (xv 6)) (cA) (cD (ae (xv 4)))) (bX (ae (xv 7)) (cA) (cD (ae (xv 4)))) (ca _)) (az (kF QZ Q0 dQ e9 (xv 5) (aa (aq aX au (ae (xv 6)) (bX (ae (xv 7)) (cD (ae (xv 4))) (cA))) (aj)))) (aM)) (cK [7] aM))) (cK [6,7] aM))) (ao (aC (i:=8) Hc.nd rfl ‹1› (Dt N_Join rfl)) (ao (aC (i:=9) Hc.nd rfl ‹1› (aN (aa (ax bN aP hr ‹0› (aa (ae (xv 1)) (aa (ae (xv 2)) (aj)))) (aa (aq aX au (ay (ae (xv 1)) (ah) (λ_ _=>rfl)) (ay (ae (xv 2)) (ah) (λ_ _=>rfl))) (aj))))) (ao (bW (Gj (lW (jJ (cU (ax bU (cx 20) hr ‹0› (aa (gI dg hr ‹0› (ae (xv 8)) (aa (ae (xv 1)) (aa (ae (xv 2)) (aj)))) (aa (ae (xv 9)) (aj)))))) (jF (jJ (cU (ax bU (cx 20) hr ‹0› (aa (BH oh hr ‹0› (ae (xv 8))) (aa (aN (aa (cE) (aj))) (aj))))))))) (az (aK (jw))) (aM)) (ao (bW (Gj (lW (bu (qa hr.units) au (gI dz hr ‹0› (ae (xv 8)) (aa (aN (aa (ae (xv 1)) (aa (ae (xv 2)) (aj)))) (aa (aN (aa (ay (ae (xv 3)) (ah) (λ_ _=>rfl)) (aa (aN (aj)) (aj)))) (aj)))) (aN (aj)) (ca _)) (jF (bu (qa hr.units) au (gI dz hr ‹0› (ae (xv 8)) (aa (aN (aa (ae (xv 1)) (aa (ae (xv 2)) (aj)))) (aa (aN (aa (aN (aj)) (aa (ay (ae (xv 3)) (ah) (λ_ _=>rfl)) (aj)))) (aj)))) (aN (aj)) (ca _))))) (az (aK (jw))) (aM)) (eY 5 (ao (bW (jJ (cU (ax bU (cx 20) hr ‹0› (aa (gI dz hr ‹0› (ae (xv 8)) (aa (aN (aa (ae (xv 1)) (aa (ae (xv 2)) (aj)))) (aa (ae (xv 3)) (aj)))) (aa (bi bC rfl aF QS (aa (ae (xv 5)) (aj))) (aj)))))) (az (aK (jw))) (aM)) (ao (bW (Gj (lW (jJ (cU (ax lA aP hr ‹0› (aa (ae (xv 8)) (aa (ae (xv 1)) (aa (ae (xv 2)) (aa (ax dE aP hr ‹0› (aa (ae (xv 0)) (aa (ah) (aj)))) (aj)))))))) (jF (jJ (cU (ax bU (cx 20) hr ‹0› (aa (gI dg hr ‹0› (ae (xv 8)) (aa (ae (xv 1)) (aa (ae (xv 2)) (aj)))) (aa (ae (xv 9)) (aj))))))))) (az (aK (jw))) (aM)) (az (aK (ax bU (cx 20) hr ‹0› (aa (gI dz hr ‹0› (ae (xv 8)) (aa (aN (aa (ae (xv 1)) (aa (ae (xv 2)) (aj)))) (aa (ae (xv 3)) (aj)))) (aa (bi bC rfl aF QS (aa (ae (xv 5)) (aj))) (aj))))))))))))))))))⟩)
end
theorem yC{us:List Q1}(h:us.length=1):∃u0,us=[u0]:=match us,h with|[u0],_=>⟨u0,rfl⟩
theorem n8{us:List Q1}(h:us.length=2):∃u0 u1,us=[u0,u1]:=match us,h with|[u0,u1],_=>⟨u0,u1,rfl⟩
theorem yk{us:List Q1}(h:us.length=3):∃u0 u1 u2,us=[u0,u1,u2]:=match us,h with|[u0,u1,u2],_=>⟨u0,u1,u2,rfl⟩
theorem EG{us:List Q1}(h:us.length=4):∃u0 u1 u2 u3,us=[u0,u1,u2,u3]:=match us,h with|[u0,u1,u2,u3],_=>⟨u0,u1,u2,u3,rfl⟩
theorem K7{us:List Q1}(h:us.length=5):∃u0 u1 u2 u3 u4,us=[u0,u1,u2,u3,u4]:=match us,h with|[u0,u1,u2,u3,u4],_=>⟨u0,u1,u2,u3,u4,rfl⟩
theorem KI{us:List Q1}(h:us.length=6):∃u0 u1 u2 u3 u4 u5,us=[u0,u1,u2,u3,u4,u5]:=match us,h with|[u0,u1,u2,u3,u4,u5],_=>⟨u0,u1,u2,u3,u4,u5,rfl⟩
theorem all_mk{l:Qt}{w:Q2}{K:P5}{h:Q6}{mg:Str->Option Q1}{fa:Q4}(X:K.In h)(G:h.Ns Q9 mg)(hfa:mg "law"=some (.ref fa)){f1 f2:Q4}
  (ac0:Ql K Q9 "Pair"=some (some (.ref Cl0)))
  (ac1:Ql K Q9 "Join"=some (some (.ref Cl1)))
  (a0:Ql K Q9 "_law_alike"=some (some (.ref f0)))
  (l0:Lk K f0 "_law_alike" "_law_alike" gz oc0 od0 kV0 dc0 pm0 an0 cd0 ct0 sl0)
  (c0:Qk K cd0 "_law_alike"=true)
  (k0:Qh K (.ref f0)=true)
  (a1:P8 K (.ref Cl0) "got"=some (some (.ref f1)))
  (i1:P9 K (.ref f1)=true)
  (l1:Lk K f1 "got" "Pair.got" kN oc1 od1 kV1 dc1 pm1 an1 cd1 ct1 sl1)
  (c1:Qk K cd1 "Pair.got"=true)
  (k1:Qh K (.ref f1)=true)
  (a2:Ql K Q9 "by_key"=some (some (.ref f2)))
  (l2:Lk K f2 "by_key" "by_key" oG oc2 od2 kV2 dc2 pm2 an2 cd2 ct2 sl2)
  (c2:Qk K cd2 "by_key"=true)
  (k2:Qh K (.ref f2)=true)
  (a3:P8 K (.ref Cl1) "got"=some (some (.ref f3)))
  (i3:P9 K (.ref f3)=true)
  (l3:Lk K f3 "got" "Join.got" kT oc3 od3 kV3 dc3 pm3 an3 cd3 ct3 sl3)
  (c3:Qk K cd3 "Join.got"=true)
  (k3:Qh K (.ref f3)=true)
  (a4:P8 K (.ref Cl0) "view_form"=some (some (.ref f4)))
  (i4:P9 K (.ref f4)=true)
  (l4:Lk K f4 "view_form" "Pair.view_form" fg oc4 od4 kV4 dc4 pm4 an4 cd4 ct4 sl4)
  (c4:Qk K cd4 "Pair.view_form"=true)
  (k4:Qh K (.ref f4)=true)
  (a5:Ql K Q9 "both_words"=some (some (.ref f5)))
  (l5:Lk K f5 "both_words" "both_words" iX oc5 od5 kV5 dc5 pm5 an5 cd5 ct5 sl5)
  (c5:Qk K cd5 "both_words"=true)
  (k5:Qh K (.ref f5)=true)
  (a6:Ql K Q9 "both_numbers"=some (some (.ref f6)))
  (l6:Lk K f6 "both_numbers" "both_numbers" fY oc6 od6 kV6 dc6 pm6 an6 cd6 ct6 sl6)
  (c6:Qk K cd6 "both_numbers"=true)
  (k6:Qh K (.ref f6)=true)
  (a7:Ql K Q9 "both"=some (some (.ref f7)))
  (l7:Lk K f7 "both" "both" vT oc7 od7 kV7 dc7 pm7 an7 cd7 ct7 sl7)
  (c7:Qk K cd7 "both"=true)
  (k7:Qh K (.ref f7)=true)
  (a8:Ql K Q9 "shared_key"=some (some (.ref f8)))
  (l8:Lk K f8 "shared_key" "shared_key" iW oc8 od8 kV8 dc8 pm8 an8 cd8 ct8 sl8)
  (c8:Qk K cd8 "shared_key"=true)
  (k8:Qh K (.ref f8)=true)
  (a9:P8 K (.ref Cl1) "view_form"=some (some (.ref f9)))
  (i9:P9 K (.ref f9)=true)
  (l9:Lk K f9 "view_form" "Join.view_form" fe oc9 od9 kV9 dc9 pm9 an9 cd9 ct9 sl9)
  (c9:Qk K cd9 "Join.view_form"=true)
  (k9:Qh K (.ref f9)=true)
  (a10:P8 K (.ref Cl0) "put"=some (some (.ref f10)))
  (i10:P9 K (.ref f10)=true)
  (l10:Lk K f10 "put" "Pair.put" lB oc10 od10 kV10 dc10 pm10 an10 cd10 ct10 sl10)
  (c10:Qk K cd10 "Pair.put"=true)
  (k10:Qh K (.ref f10)=true)
  (a11:Ql K Q9 "sorted_by"=some (some (.ref f11)))
  (l11:Lk K f11 "sorted_by" "sorted_by" jE oc11 od11 kV11 dc11 pm11 an11 cd11 ct11 sl11)
  (c11:Qk K cd11 "sorted_by"=true)
  (k11:Qh K (.ref f11)=true)
  (a12:Ql K Q9 "standing"=some (some (.ref f12)))
  (l12:Lk K f12 "standing" "standing" lg oc12 od12 kV12 dc12 pm12 an12 cd12 ct12 sl12)
  (c12:Qk K cd12 "standing"=true)
  (k12:Qh K (.ref f12)=true)
  (a13:P8 K (.ref Cl1) "put"=some (some (.ref f13)))
  (i13:P9 K (.ref f13)=true)
  (l13:Lk K f13 "put" "Join.put" lr oc13 od13 kV13 dc13 pm13 an13 cd13 ct13 sl13)
  (c13:Qk K cd13 "Join.put"=true)
  (k13:Qh K (.ref f13)=true)
  (a14:Ql K Q9 "_law_next"=some (some (.ref f14)))
  (l14:Lk K f14 "_law_next" "_law_next" jL oc14 od14 kV14 dc14 pm14 an14 cd14 ct14 sl14)
  (c14:Qk K cd14 "_law_next"=true)
  (k14:Qh K (.ref f14)=true)
  (a15:Ql K Q9 "_law_sorted"=some (some (.ref f15)))
  (l15:Lk K f15 "_law_sorted" "_law_sorted" iu oc15 od15 kV15 dc15 pm15 an15 cd15 ct15 sl15)
  (c15:Qk K cd15 "_law_sorted"=true)
  (k15:Qh K (.ref f15)=true)
  (a16:Ql K Q9 "_law_value"=some (some (.ref f16)))
  (l16:Lk K f16 "_law_value" "_law_value" gg oc16 od16 kV16 dc16 pm16 an16 cd16 ct16 sl16)
  (c16:Qk K cd16 "_law_value"=true)
  (k16:Qh K (.ref f16)=true)
  (a17:Ql K Q9 "_law_row"=some (some (.ref f17)))
  (l17:Lk K f17 "_law_row" "_law_row" jm oc17 od17 kV17 dc17 pm17 an17 cd17 ct17 sl17)
  (c17:Qk K cd17 "_law_row"=true)
  (k17:Qh K (.ref f17)=true)
  (a18:Ql K Q9 "_law_rows"=some (some (.ref f18)))
  (l18:Lk K f18 "_law_rows" "_law_rows" iA oc18 od18 kV18 dc18 pm18 an18 cd18 ct18 sl18)
  (c18:Qk K cd18 "_law_rows"=true)
  (k18:Qh K (.ref f18)=true)
  (a19:Ql K Q9 "_law_in_both"=some (some (.ref f19)))
  (l19:Lk K f19 "_law_in_both" "_law_in_both" gC oc19 od19 kV19 dc19 pm19 an19 cd19 ct19 sl19)
  (c19:Qk K cd19 "_law_in_both"=true)
  (k19:Qh K (.ref f19)=true)
  (a20:Ql K Q9 "_law_key_of_both"=some (some (.ref f20)))
  (l20:Lk K f20 "_law_key_of_both" "_law_key_of_both" dX oc20 od20 kV20 dc20 pm20 an20 cd20 ct20 sl20)
  (c20:Qk K cd20 "_law_key_of_both"=true)
  (k20:Qh K (.ref f20)=true)
  (a21:Ql K Q9 "_law_again"=some (some (.ref f21)))
  (l21:Lk K f21 "_law_again" "_law_again" iV oc21 od21 kV21 dc21 pm21 an21 cd21 ct21 sl21)
  (c21:Qk K cd21 "_law_again"=true)
  (k21:Qh K (.ref f21)=true)
  (a22:Ql K Q9 "_law_cell_at"=some (some (.ref f22)))
  (l22:Lk K f22 "_law_cell_at" "_law_cell_at" gf oc22 od22 kV22 dc22 pm22 an22 cd22 ct22 sl22)
  (c22:Qk K cd22 "_law_cell_at"=true)
  (k22:Qh K (.ref f22)=true)
  (a23:Ql K Q9 "_law_seed"=some (some (.ref f23)))
  (l23:Lk K f23 "_law_seed" "_law_seed" jP oc23 od23 kV23 dc23 pm23 an23 cd23 ct23 sl23)
  (c23:Qk K cd23 "_law_seed"=true)
  (k23:Qh K (.ref f23)=true)
  (a24:P8 K (.ref Cl0) "words"=some (some (.ref f24)))
  (i24:P9 K (.ref f24)=true)
  (l24:Lk K f24 "words" "Pair.words" i5 oc24 od24 kV24 dc24 pm24 an24 cd24 ct24 sl24)
  (c24:Qk K cd24 "Pair.words"=true)
  (k24:Qh K (.ref f24)=true)
  (a25:P8 K (.ref Cl1) "words"=some (some (.ref f25)))
  (i25:P9 K (.ref f25)=true)
  (l25:Lk K f25 "words" "Join.words" iU oc25 od25 kV25 dc25 pm25 an25 cd25 ct25 sl25)
  (c25:Qk K cd25 "Join.words"=true)
  (k25:Qh K (.ref f25)=true)
  (a26:Ql K Q9 "_law_values"=some (some (.ref f26)))
  (l26:Lk K f26 "_law_values" "_law_values" il oc26 od26 kV26 dc26 pm26 an26 cd26 ct26 sl26)
  (c26:Qk K cd26 "_law_values"=true)
  (k26:Qh K (.ref f26)=true)
  (a27:Ql K Q9 "_law_joined_tables"=some (some (.ref f27)))
  (l27:Lk K f27 "_law_joined_tables" "_law_joined_tables" dF oc27 od27 kV27 dc27 pm27 an27 cd27 ct27 sl27)
  (c27:Qk K cd27 "_law_joined_tables"=true)
  (k27:Qh K (.ref f27)=true)
  (a28:Ql K Q9 "_law_name"=some (some (.ref f28)))
  (l28:Lk K f28 "_law_name" "_law_name" jD oc28 od28 kV28 dc28 pm28 an28 cd28 ct28 sl28)
  (c28:Qk K cd28 "_law_name"=true)
  (k28:Qh K (.ref f28)=true)
  (a29:Ql K Q9 "_law_plain"=some (some (.ref f29)))
  (l29:Lk K f29 "_law_plain" "_law_plain" iR oc29 od29 kV29 dc29 pm29 an29 cd29 ct29 sl29)
  (c29:Qk K cd29 "_law_plain"=true)
  (k29:Qh K (.ref f29)=true)
  (a30:Ql K Q9 "_law_kind"=some (some (.ref f30)))
  (l30:Lk K f30 "_law_kind" "_law_kind" iF oc30 od30 kV30 dc30 pm30 an30 cd30 ct30 sl30)
  (c30:Qk K cd30 "_law_kind"=true)
  (k30:Qh K (.ref f30)=true)
  (a31:Ql K Q9 "_law_form"=some (some (.ref f31)))
  (l31:Lk K f31 "_law_form" "_law_form" iE oc31 od31 kV31 dc31 pm31 an31 cd31 ct31 sl31)
  (c31:Qk K cd31 "_law_form"=true)
  (k31:Qh K (.ref f31)=true)
  (a32:Ql K Q9 "_law_some_words"=some (some (.ref f32)))
  (l32:Lk K f32 "_law_some_words" "_law_some_words" eK oc32 od32 kV32 dc32 pm32 an32 cd32 ct32 sl32)
  (c32:Qk K cd32 "_law_some_words"=true)
  (k32:Qh K (.ref f32)=true)
  (a33:Ql K Q9 "_law_two_kinds"=some (some (.ref f33)))
  (l33:Lk K f33 "_law_two_kinds" "_law_two_kinds" eZ oc33 od33 kV33 dc33 pm33 an33 cd33 ct33 sl33)
  (c33:Qk K cd33 "_law_two_kinds"=true)
  (k33:Qh K (.ref f33)=true)
  (a34:Ql K Q9 "_law_two_keys"=some (some (.ref f34)))
  (l34:Lk K f34 "_law_two_keys" "_law_two_keys" fJ oc34 od34 kV34 dc34 pm34 an34 cd34 ct34 sl34)
  (c34:Qk K cd34 "_law_two_keys"=true)
  (k34:Qh K (.ref f34)=true)
  (a35:Ql K Q9 "_law_joined_forms"=some (some (.ref f35)))
  (l35:Lk K f35 "_law_joined_forms" "_law_joined_forms" dL oc35 od35 kV35 dc35 pm35 an35 cd35 ct35 sl35)
  (c35:Qk K cd35 "_law_joined_forms"=true)
  (k35:Qh K (.ref f35)=true)
  (a36:Ql K Q9 "law"=some (some (.ref f36)))
  (l36:Lk K f36 "law" "law" rM oc36 od36 kV36 dc36 pm36 an36 cd36 ct36 sl36)
  (c36:Qk K cd36 "law"=true)
  (k36:Qh K (.ref f36)=true)
  (p0:P7 K Cl0 Str.empty=true)
  (q0:Qf K Cl0=true)
  (r0:Qg K Cl0=true)
  (s0:P8 K (.ref Cl0) "__setattr__"=some (some (.builtin "object.__setattr__")))
  (p1:P7 K Cl1 Str.empty=true)
  (q1:Qf K Cl1=true)
  (r1:Qg K Cl1=true)
  (s1:P8 K (.ref Cl1) "__setattr__"=some (some (.builtin "object.__setattr__")))
  (o1:P8 K (.ref Cl1) "__init__"=some (some (.builtin "object.__init__")))
  (m1:Qb K Cl1=true)
  (kp1:Qh K (.ref Cl1)=true)
  (z0:Ql K Q9 "isinstance"=some none)
  (z1:Ql K Q9 "str"=some none)
  (z2:Ql K Q9 "bool"=some none)
  (z3:Ql K Q9 "int"=some none)
  (z4:Ql K Q9 "tuple"=some none)
  (z5:Ql K Q9 "len"=some none)
  (z6:Ql K Q9 "zip"=some none)
  (z7:Ql K Q9 "dict"=some none)
  (z8:Ql K Q9 "max"=some none)
  (z9:Ql K Q9 "min"=some none)
  (z10:Ql K Q9 "any"=some none)
  (z11:Ql K Q9 "sorted"=some none)
  (z12:Ql K Q9 "list"=some none)
  (z13:Ql K Q9 "range"=some none)
  (z14:Ql K Q9 "enumerate"=some none)
  (e0:Ql K Q9 "MOST_FIELDS"=some (some (.int 8 tk0)))
  (lc:cd11=.ref cL)
  (lh:Qv K cL T=true)
  (lt:K.lookup T=none):
  (∃c,Qv K c T=true)/\K.lookup T=none/\∃fd:RJ,(∀(s:Rf)(v:Q1),RK s fd ⟨[v],[]⟩ [("_law_script",v)])/\∀base:Q6,K.In base->base.Ns Q9 mg->yx mg base->nQ l.prog w K mg base (oq l.prog w) 24 fa fd ["_law_script"] (@BW (vA T ⟨31,34,31,56⟩ ((("sorted_by":Str)++".<locals>.")++"<lambda>")) K 1 (bb sG 1 10)):=by
 letI:aY:=vA T ⟨31,34,31,56⟩ ((("sorted_by":Str)++".<locals>.")++"<lambda>")
 have e:=hfa.symm.trans (Qw X G a36);cases e;have bT:=Qx X G z0;have rJ:=Qx X G z1;have lE:=Qx X G z2;have iH:=Qx X G z3;have aF:=Qx X G z4;have bR:=Qx X G z5;have jI:=Qx X G z6;have yR:=Qx X G z7;have gF:=Qx X G z8;have oO:=Qx X G z9;have B6:=Qx X G z10;have dY:=Qx X G z11;have iO:=Qx X G z12;have bQ:=Qx X G z13;have jK:=Qx X G z14;have c_MOST_FIELDS:∃t,mg "MOST_FIELDS"=some (.int 8 t):=⟨_,Qw X G e0⟩
 have F0:=bS (st:=gz) l0 c0 k0;have b0:=F0.binds (ps:=["_law_found","_law_due"]) λ_ _ _ _ _ _ us hl=>by obtain⟨u0,u1,rfl⟩:=n8 hl;rfl
 have F1:=bS (st:=kN) l1 c1 k1;have b1:=F1.binds (ps:=["self","forms","tables"]) λ_ _ _ _ _ _ us hl=>by obtain⟨u0,u1,u2,rfl⟩:=yk hl;rfl
 have F2:=bS (st:=oG) l2 c2 k2;have b2:=F2.binds (ps:=["many","rows"]) λ_ _ _ _ _ _ us hl=>by obtain⟨u0,u1,rfl⟩:=n8 hl;rfl
 have F3:=bS (st:=kT) l3 c3 k3;have b3:=F3.binds (ps:=["self","forms","tables"]) λ_ _ _ _ _ _ us hl=>by obtain⟨u0,u1,u2,rfl⟩:=yk hl;rfl
 have F4:=bS (st:=fg) l4 c4 k4;have b4:=F4.binds (ps:=["self","one","other"]) λ_ _ _ _ _ _ us hl=>by obtain⟨u0,u1,u2,rfl⟩:=yk hl;rfl
 have F5:=bS (st:=iX) l5 c5 k5;have b5:=F5.binds (ps:=["one","other"]) λ_ _ _ _ _ _ us hl=>by obtain⟨u0,u1,rfl⟩:=n8 hl;rfl
 have F6:=bS (st:=fY) l6 c6 k6;have b6:=F6.binds (ps:=["one","other"]) λ_ _ _ _ _ _ us hl=>by obtain⟨u0,u1,rfl⟩:=n8 hl;rfl
 have F7:=bS (st:=vT) l7 c7 k7;have b7:=F7.binds (ps:=["one","other"]) λ_ _ _ _ _ _ us hl=>by obtain⟨u0,u1,rfl⟩:=n8 hl;rfl
 have F8:=bS (st:=iW) l8 c8 k8;have b8:=F8.binds (ps:=["one","other"]) λ_ _ _ _ _ _ us hl=>by obtain⟨u0,u1,rfl⟩:=n8 hl;rfl
 have F9:=bS (st:=fe) l9 c9 k9;have b9:=F9.binds (ps:=["self","one","other"]) λ_ _ _ _ _ _ us hl=>by obtain⟨u0,u1,u2,rfl⟩:=yk hl;rfl
 have F10:=bS (st:=lB) l10 c10 k10;have b10:=F10.binds (ps:=["self","forms","tables","view"]) λ_ _ _ _ _ _ us hl=>by obtain⟨u0,u1,u2,u3,rfl⟩:=EG hl;rfl
 have F11:=bS (st:=jE) l11 c11 k11;have b11:=F11.binds (ps:=["many","rows"]) λ_ _ _ _ _ _ us hl=>by obtain⟨u0,u1,rfl⟩:=n8 hl;rfl
 have F12:=bS (st:=lg) l12 c12 k12;have b12:=F12.binds (ps:=["many","rows","others"]) λ_ _ _ _ _ _ us hl=>by obtain⟨u0,u1,u2,rfl⟩:=yk hl;rfl
 have F13:=bS (st:=lr) l13 c13 k13;have b13:=F13.binds (ps:=["self","forms","tables","view"]) λ_ _ _ _ _ _ us hl=>by obtain⟨u0,u1,u2,u3,rfl⟩:=EG hl;rfl
 have F14:=bS (st:=jL) l14 c14 k14;have b14:=F14.binds (ps:=["_law_x"]) λ_ _ _ _ _ _ us hl=>by obtain⟨u0,rfl⟩:=yC hl;rfl
 have F15:=bS (st:=iu) l15 c15 k15;have b15:=F15.binds (ps:=["_law_many","_law_rows_here"]) λ_ _ _ _ _ _ us hl=>by obtain⟨u0,u1,rfl⟩:=n8 hl;rfl
 have F16:=bS (st:=gg) l16 c16 k16;have b16:=F16.binds (ps:=["_law_kind_here","_law_x"]) λ_ _ _ _ _ _ us hl=>by obtain⟨u0,u1,rfl⟩:=n8 hl;rfl
 have F17:=bS (st:=jm) l17 c17 k17;have b17:=F17.binds (ps:=["_law_form_here","_law_many","_law_head","_law_tail"]) λ_ _ _ _ _ _ us hl=>by obtain⟨u0,u1,u2,u3,rfl⟩:=EG hl;rfl
 have F18:=bS (st:=iA) l18 c18 k18;have b18:=F18.binds (ps:=["_law_form_here","_law_x","_law_many"]) λ_ _ _ _ _ _ us hl=>by obtain⟨u0,u1,u2,rfl⟩:=yk hl;rfl
 have F19:=bS (st:=gC) l19 c19 k19;have b19:=F19.binds (ps:=["_law_one","_law_other"]) λ_ _ _ _ _ _ us hl=>by obtain⟨u0,u1,rfl⟩:=n8 hl;rfl
 have F20:=bS (st:=dX) l20 c20 k20;have b20:=F20.binds (ps:=["_law_one","_law_other"]) λ_ _ _ _ _ _ us hl=>by obtain⟨u0,u1,rfl⟩:=n8 hl;rfl
 have F21:=bS (st:=iV) l21 c21 k21;have b21:=F21.binds (ps:=["_law_pair","_law_one","_law_other","_law_x"]) λ_ _ _ _ _ _ us hl=>by obtain⟨u0,u1,u2,u3,rfl⟩:=EG hl;rfl
 have F22:=bS (st:=gf) l22 c22 k22;have b22:=F22.binds (ps:=["_law_script","_law_k"]) λ_ _ _ _ _ _ us hl=>by obtain⟨u0,u1,rfl⟩:=n8 hl;rfl
 have F23:=bS (st:=jP) l23 c23 k23;have b23:=F23.binds (ps:=["_law_script","_law_k"]) λ_ _ _ _ _ _ us hl=>by obtain⟨u0,u1,rfl⟩:=n8 hl;rfl
 have F24:=bS (st:=i5) l24 c24 k24;have b24:=F24.binds (ps:=["self"]) λ_ _ _ _ _ _ us hl=>by obtain⟨u0,rfl⟩:=yC hl;rfl
 have F25:=bS (st:=iU) l25 c25 k25;have b25:=F25.binds (ps:=["self"]) λ_ _ _ _ _ _ us hl=>by obtain⟨u0,rfl⟩:=yC hl;rfl
 have F26:=bS (st:=il) l26 c26 k26;have b26:=F26.binds (ps:=["_law_fields","_law_x"]) λ_ _ _ _ _ _ us hl=>by obtain⟨u0,u1,rfl⟩:=n8 hl;rfl
 have F27:=bS (st:=dF) l27 c27 k27;have b27:=F27.binds (ps:=["_law_one","_law_other","_law_script","_law_start","_law_most"]) λ_ _ _ _ _ _ us hl=>by obtain⟨u0,u1,u2,u3,u4,rfl⟩:=K7 hl;rfl
 have F28:=bS (st:=jD) l28 c28 k28;have b28:=F28.binds (ps:=["_law_base","_law_k"]) λ_ _ _ _ _ _ us hl=>by obtain⟨u0,u1,rfl⟩:=n8 hl;rfl
 have F29:=bS (st:=iR) l29 c29 k29;have b29:=F29.binds (ps:=["_law_x"]) λ_ _ _ _ _ _ us hl=>by obtain⟨u0,rfl⟩:=yC hl;rfl
 have F30:=bS (st:=iF) l30 c30 k30;have b30:=F30.binds (ps:=["_law_x","_law_base","_law_deep"]) λ_ _ _ _ _ _ us hl=>by obtain⟨u0,u1,u2,rfl⟩:=yk hl;rfl
 have F31:=bS (st:=iE) l31 c31 k31;have b31:=F31.binds (ps:=["_law_x","_law_base","_law_start","_law_many","_law_more","_law_deep"]) λ_ _ _ _ _ _ us hl=>by obtain⟨u0,u1,u2,u3,u4,u5,rfl⟩:=KI hl;rfl
 have F32:=bS (st:=eK) l32 c32 k32;have b32:=F32.binds (ps:=["_law_x"]) λ_ _ _ _ _ _ us hl=>by obtain⟨u0,rfl⟩:=yC hl;rfl
 have F33:=bS (st:=eZ) l33 c33 k33;have b33:=F33.binds (ps:=["_law_x"]) λ_ _ _ _ _ _ us hl=>by obtain⟨u0,rfl⟩:=yC hl;rfl
 have F34:=bS (st:=fJ) l34 c34 k34;have b34:=F34.binds (ps:=["_law_x","_law_base","_law_many"]) λ_ _ _ _ _ _ us hl=>by obtain⟨u0,u1,u2,rfl⟩:=yk hl;rfl
 have F35:=bS (st:=dL) l35 c35 k35;have b35:=F35.binds (ps:=["_law_script"]) λ_ _ _ _ _ _ us hl=>by obtain⟨u0,rfl⟩:=yC hl;rfl
 have F36:=bS (st:=rM) l36 c36 k36;have cl0:HG K Cl0:=⟨p0,q0,r0,s0⟩
 have cl1:HG K Cl1:=⟨p1,q1,r1,s1⟩
 have lC:uc K f11 (.ref cL):=⟨_,_,_,_,l11,lc⟩
 refine⟨⟨cL,lh⟩,lt,Qj "law" "law" (mY rM) (gK rM) (aA rM) .none kV36 dc36 pm36 an36 cd36 ct36,λs v=>.of_eq rfl,λbase kb _ bm=>?_⟩;have N_Join:zH K mg "Join":=⟨_,ac1,⟨m1,o1,kp1⟩,Qw X G ac1⟩
 have fam:=mH (P:=l.prog) (w:=w) (base:=base) F0 b0 (Qw X G a0) bT rJ lE iH aF bR jI 20;have bU:=fam;have okb_Pair_got:=xc (P:=l.prog) (w:=w) (base:=base) (K:=K) (mg:=mg) (f:=f1);have gb:=bA F2 b2 (Qw X G a2) Bt (cN.ok (Bd (P:=l.prog) (w:=w) (base:=base) (f:=f2) yR));have okb_Join_got:=wJ (P:=l.prog) (w:=w) (base:=base) (K:=K) (mg:=mg) (f:=f3) gb bR aF;have okb_Pair_view_form:=oZ (P:=l.prog) (w:=w) (base:=base) (K:=K) (mg:=mg) (f:=f4);have lm:=bA F5 b5 (Qw X G a5) tJ (cN.ok (t9 (P:=l.prog) (w:=w) (base:=base) (f:=f5) aF));have jp:=bA F6 b6 (Qw X G a6) qK (cN.ok (qJ (P:=l.prog) (w:=w) (base:=base) (f:=f6) gF oO));have vH:=bA F7 b7 (Qw X G a7) Fg (cN.ok (D8 (P:=l.prog) (w:=w) (base:=base) (f:=f7) jp lm));have lG:=bA F8 b8 (Qw X G a8) tE (cN.ok (tS (P:=l.prog) (w:=w) (base:=base) (f:=f8) vH jI aF));have okb_Join_view_form:=oN (P:=l.prog) (w:=w) (base:=base) (K:=K) (mg:=mg) (f:=f9) lG B6 bR c_MOST_FIELDS;have okb_Pair_put:=xG (P:=l.prog) (w:=w) (base:=base) (K:=K) (mg:=mg) (f:=f10);have md:=yt F11 b11 (Qw X G a11) vL (CU.ok (vO (P:=l.prog) (w:=w) (base:=base) (f:=f11) aF dY (EB kb lh bm) lC λ_ z=>z));have kY:=bA F12 b12 (Qw X G a12) w6 (cN.ok (xx (P:=l.prog) (w:=w) (base:=base) (f:=f12) gb md iO));have okb_Join_put:=xC (P:=l.prog) (w:=w) (base:=base) (K:=K) (mg:=mg) (f:=f13) gb kY bR;have aE:=bA F14 b14 (Qw X G a14) v7 (cN.ok (vY (P:=l.prog) (w:=w) (base:=base) (f:=f14) ));have bL:=bA F15 b15 (Qw X G a15) sr (cN.ok (sX (P:=l.prog) (w:=w) (base:=base) (f:=f15) aF dY iO));have fam:=mz (P:=l.prog) (w:=w) (base:=base) F16 b16 (Qw X G a16) F17 b17 (Qw X G a17) F18 b18 (Qw X G a18) aE bL bR gF iH aF bQ 20;have gD:=fam.1;have fS:=fam.2.1;have eV:=fam.2.2;have ji:=bA F19 b19 (Qw X G a19) qM (cN.ok (qF (P:=l.prog) (w:=w) (base:=base) (f:=f19) oO gF aF));have bN:=bA F20 b20 (Qw X G a20) nR (cN.ok (nO (P:=l.prog) (w:=w) (base:=base) (f:=f20) ji jI aF));have fX:fU l.prog w K mg base 21 "view_form" ["self","one","other"] [("Pair",(bb cj 3 3)),("Join",(bb bJ 3 5))]:=d7 (MethAt.mono (dD (c:="Pair") (m:="view_form") ac0 cl0 ⟨a4,i4,k4⟩ F4 b4 jA (cN.ok okb_Pair_view_form)) (by decide)) aP (d7 (MethAt.mono (dD (c:="Join") (m:="view_form") ac1 cl1 ⟨a9,i9,k9⟩ F9 b9 jS (cN.ok okb_Join_view_form)) (by decide)) aP (mZ));have iZ:fU l.prog w K mg base 21 "put" ["self","forms","tables","view"] [("Pair",(bb ju 4 4)),("Join",(bb fQ 4 10))]:=d7 (MethAt.mono (dD (c:="Pair") (m:="put") ac0 cl0 ⟨a10,i10,k10⟩ F10 b10 xl (cN.ok okb_Pair_put)) (by decide)) aP (d7 (MethAt.mono (dD (c:="Join") (m:="put") ac1 cl1 ⟨a13,i13,k13⟩ F13 b13 xX (cN.ok okb_Join_put)) (by decide)) aP (mZ));have ja:fU l.prog w K mg base 21 "got" ["self","forms","tables"] [("Pair",(bb dB 3 3)),("Join",(bb cy 3 5))]:=d7 (MethAt.mono (dD (c:="Pair") (m:="got") ac0 cl0 ⟨a1,i1,k1⟩ F1 b1 qq (cN.ok okb_Pair_got)) (by decide)) aP (d7 (MethAt.mono (dD (c:="Join") (m:="got") ac1 cl1 ⟨a3,i3,k3⟩ F3 b3 qz (cN.ok okb_Join_got)) (by decide)) aP (mZ));have lA:=bA F21 b21 (Qw X G a21) tU (cN.ok (ua (P:=l.prog) (w:=w) (base:=base) (f:=f21) bN eV bU fX iZ ja bR aF));have dS:=bA F22 b22 (Qw X G a22) qG (cN.ok (qE (P:=l.prog) (w:=w) (base:=base) (f:=f22) bR));have dE:=bA F23 b23 (Qw X G a23) wm (cN.ok (vJ (P:=l.prog) (w:=w) (base:=base) (f:=f23) dS aE));have okb_Pair_words:=tR (P:=l.prog) (w:=w) (base:=base) (K:=K) (mg:=mg) (f:=f24);have okb_Join_words:=tZ (P:=l.prog) (w:=w) (base:=base) (K:=K) (mg:=mg) (f:=f25);have fG:=bA F26 b26 (Qw X G a26) sV (cN.ok (sA (P:=l.prog) (w:=w) (base:=base) (f:=f26) fS aF));have eR:=bA F27 b27 (Qw X G a27) lM (cN.ok (lP (P:=l.prog) (w:=w) (base:=base) (f:=f27) bN dE aE fG bL bQ oO gF bR));have cz:=bA F28 b28 (Qw X G a28) vz (cN.ok (vN (P:=l.prog) (w:=w) (base:=base) (f:=f28) bQ));have dh:=bA F29 b29 (Qw X G a29) tW (cN.ok (tL (P:=l.prog) (w:=w) (base:=base) (f:=f29) bQ bR aF dY iO));have fam:=nX (P:=l.prog) (w:=w) (base:=base) F30 b30 (Qw X G a30) F31 b31 (Qw X G a31) dh aE cz bQ aF 20;have mF:=fam.1;have eX:=fam.2;have gq:=bA F32 b32 (Qw X G a32) oa (cN.ok (oj (P:=l.prog) (w:=w) (base:=base) (f:=f32) dY iO));have hJ:=bA F33 b33 (Qw X G a33) oS (cN.ok (oU (P:=l.prog) (w:=w) (base:=base) (f:=f33) aE gq bR aF jK));have iM:=bA F34 b34 (Qw X G a34) qe (cN.ok (pG (P:=l.prog) (w:=w) (base:=base) (f:=f34) aE hJ cz bQ aF));have fD:=bA F35 b35 (Qw X G a35) lU (cN.ok (mC (P:=l.prog) (w:=w) (base:=base) (f:=f35) dE dS iM aE eX));have jk:fU l.prog w K mg base 23 "view_form" ["self","one","other"] [("Pair",(bb cj 3 3)),("Join",(bb bJ 3 5))]:=d7 (MethAt.mono (dD (c:="Pair") (m:="view_form") ac0 cl0 ⟨a4,i4,k4⟩ F4 b4 jA (cN.ok okb_Pair_view_form)) (by decide)) aP (d7 (MethAt.mono (dD (c:="Join") (m:="view_form") ac1 cl1 ⟨a9,i9,k9⟩ F9 b9 jS (cN.ok okb_Join_view_form)) (by decide)) aP (mZ));have lF:fU l.prog w K mg base 23 "words" ["self"] [("Pair",(bb gx 1 1)),("Join",(bb fm 1 1))]:=d7 (MethAt.mono (dD (c:="Pair") (m:="words") ac0 cl0 ⟨a24,i24,k24⟩ F24 b24 tI (cN.ok okb_Pair_words)) (by decide)) aP (d7 (MethAt.mono (dD (c:="Join") (m:="words") ac1 cl1 ⟨a25,i25,k25⟩ F25 b25 t7 (cN.ok okb_Join_words)) (by decide)) aP (mZ));have lT:fU l.prog w K mg base 23 "got" ["self","forms","tables"] [("Pair",(bb dB 3 3)),("Join",(bb cy 3 5))]:=d7 (MethAt.mono (dD (c:="Pair") (m:="got") ac0 cl0 ⟨a1,i1,k1⟩ F1 b1 qq (cN.ok okb_Pair_got)) (by decide)) aP (d7 (MethAt.mono (dD (c:="Join") (m:="got") ac1 cl1 ⟨a3,i3,k3⟩ F3 b3 qz (cN.ok okb_Join_got)) (by decide)) aP (mZ));exact Hz (P:=l.prog) (w:=w) (base:=base) F36 fD eR bN bU lA dE jk lF lT N_Join bR aF
theorem walk{l:Qt}{q:Q3}{loose:List Str}{XP:(Str->Option Q1)->Q6->Prop}{YP:Q2->Q6->Prop}{d:DefRec}{K:Params->P5}{T:Q4}(hn:l.most=some 63)(hdf:d.params.defaults=[])
  (hY:∀(w:Q2)(h:Q6),YP w h->(K w.params).In h/\h.get? T=some (Qr #[]))
  (F:∀ (w:Q2) (mg:Str->Option Q1) (fa:Q4) (h:Q6),(K w.params).In h->h.Ns Q9 mg->mg d.name=some (.ref fa) ->
   (∃c,Qv (K w.params) c T=true)/\(K w.params).lookup T=none/\∃fd:RJ,(∀(s:Rf)(u:Q1),RK s fd ⟨[u],[]⟩ [("_law_script",u)])/\∀base:Q6,(K w.params).In base->base.Ns Q9 mg->yx mg base->nQ l.prog w (K w.params) mg base (oq l.prog w) 24 fa fd ["_law_script"] (@BW (vA T ⟨31,34,31,56⟩ ((("sorted_by":Str)++".<locals>.")++"<lambda>")) (K w.params) 1 (bb sG 1 10)))
  (math:∀ns:List Int,ns.length<=63->bb sG 1 10 [.lst (ns.map .int)]=.ok (.bl true)):PySem.W.WalkO q loose XP YP l.row.toRowW d [] (λf vs=>PySem.call f vs):=
 Cr (n:=63) (k:=24) (x:="_law_script") (T:=T) (CX:=λw=>oq l.prog w) (sp:=λw=>@BW (vA T ⟨31,34,31,56⟩ ((("sorted_by":Str)++".<locals>.")++"<lambda>")) (K w.params) 1 (bb sG 1 10)) hn (by decide) hdf ⟨rfl,by decide,by decide⟩ hY F
  (λw H a ns hl hT hS=>⟨[],[.lst (ns.map .int)],rfl,⟨hT,λa h=>nomatch h⟩,by rw[Fx];exact bH.mpr ⟨.ref a,[],rfl,cT.mpr ⟨a,_,rfl,hS,uI ns⟩,df.mpr rfl⟩,by rw[math ns hl];exact λv H' sm d=>⟨kG.mp d,sm⟩⟩) λ_ _ _ _ _ z=>by obtain⟨_,_,_,_,_,_,_,_,_,_,_,_,_,z⟩:=z;exact z
end Tk50
namespace Tk50
open PySem PySem.Spec L2 TG TD T4
local macro_rules|`(‹$x›)=>do if x.raw.isOfKind `num then Lean.Macro.throwUnsupported else `(some (S.val $x))
local macro_rules
 |`(tactic| simp! only[$xs,*])=>`(tactic| simp only[eU,uG,rE,vd,lI,iq,ge_0,AG,p5,Bw,o8,m7,pY,pj,A4,Bh,AY,Be,BL,qg,pH,vq,j7,nF,p6,mM,uX,qb,ph,mR,pU,kB,pX,kA,kn,jg,jf,pc,nI,jd,nB,jY,nz,nq,iT,ng,j3,nY,nM,kD,jM,nK,nE,A7,uQ,Bz,AU,AF,pP,mO,o9,nG,mQ,BM,Bo,Px,Py,N3,N2,Og,Oy,K0,env0,List.replicate,Pz,NM,OW,Nat.reduceAdd,Nat.reduceSub,N6,N7,pR,qc,uH,pL,pW,pK,jb,p4,uh,ux,vh,pE,jV,ke,jZ,jW,j5,j4,ox,uR,ug,uq,uW,uw,km,kr,gS,gV,pS,je,h7,hU,ig,kZ,lV,gW,gQ,kE,j6,nN,mU,kz,nJ,pf,pM,nD,nu,gN,if_true,if_false,PB,PC,Oe,$xs,*])
theorem gm(j:Int)(h:0<j:=by decide):∀i:Int,cM (.int i) (.int j)=some (.int (i%j)):=λi=>fP (i:=i) h
theorem gd(j:Int)(h:0<j:=by decide)(h':j<10^200:=by decide):∀i:Int,dI (.int i) (.int j)=some (.int (i/j)):=λi=>mj (i:=i) h h'
inductive Kd where
 |num (lo hi:Int)|wrd (ws:List Str)
def Kd.d:Kd->D
 |.num lo hi=>.tup [.str "number",.int lo,.int hi]
 |.wrd ws=>.tup [.str "word",.tup (ws.map .str)]
def Kd.gd:Kd->Prop
 |.num lo hi=>lo<=hi
 |.wrd ws=>ws≠[]/\ws.length<=100
def Kd.b:Kd->Bool
 |.num _ _=>true
 |.wrd _=>false
abbrev KL:=List (Str×Kd)
def kf(p:Str×Kd):D:=.tup [.str p.1,p.2.d]
abbrev fr(k:KL)(r:List (Str×D)):D:=.tup [.tup (k.map kf),.tup (r.map fld)]
def toD(p:Str×Kd):Str×D:=(p.1,p.2.d)
theorem B2(k:KL):k.map kf=(k.map toD).map fld:=by rw[Ph];rfl
theorem yD:(("number":Str)==("number":Str))=true:=by decide +kernel
theorem Ag:(("word":Str)==("word":Str))=true:=by decide +kernel
theorem yr:(("word":Str)==("number":Str))=false:=by decide +kernel
theorem Hv:(("rows":Str)==("number":Str))=false:=by decide +kernel
theorem El:(("rows":Str)==("word":Str))=false:=by decide +kernel
def KG:Nat->D->Prop
 |0,d=>∃c:Kd,c.gd/\d=c.d
 |n+1,d=>(∃c:Kd,c.gd/\d=c.d)\/∃(ks:KL)(qs:List (Str×D))(b:Bool),d=.tup [.str "rows",fr ks qs,.bl b]/\1<=ks.length/\ks.length<=8/\(∀p∈ks,p.2.gd)/\qs.length<=8/\∀q∈qs,KG n q.2
theorem EC(ws:List Str)(w:Str):pF ws w≠[]:=by
 unfold pF;split
 ·rename_i h;intro z;rw[z]at h;simp at h
 ·simp
theorem Gk(ws:List Str)(h:ws.Nodup)(hl:ws.length<64):∃us:List Str,fI [.lst (ws.map .str)]=some (.lst (us.map .str))/\us.Perm ws:=by
 have pz:∀zs:List D,zs.Perm (ws.map D.str)->∃us:List Str,zs=us.map .str/\us.Perm ws:=λzs p=>by
  have e:zs=(zs.map λz=>match z with|.str w=>w|_=>"").map .str:=by
   rw[Ph]
   conv=>lhs;rw[<-List.map_id zs]
   refine Oz λz hz=>?_;obtain⟨w,_,rfl⟩:=List.mem_map.mp (p.mem_iff.mp hz);rfl
  refine⟨_,e,?_⟩;have q:=p.map λz:D=>match z with|.str w=>w|_=>("":Str)
  rw[Ph]at q;have e2:ws.map ((λz:D=>match z with|.str w=>w|_=>("":Str))∘D.str)=ws:=by
   conv=>rhs;rw[<-List.map_id ws]
   exact Oz λ_ _=>rfl
  rw[e2]at q;exact q
 have fin:∀key:D->List D,∃us:List Str,some (D.lst (jG key (ws.map .str)))=some (.lst (us.map .str))/\us.Perm ws:=λkey=>by
  obtain⟨us,e,q⟩:=pz _ (gX key (ws.map .str));exact⟨us,by rw[e],q⟩
 show∃us,qD (ws.map .str)=_/\_;unfold qD;by_cases a:HN (ws.map .str)
 ·rw[if_pos a];exact fin _
 ·have b:JP (ws.map .str):=by
   refine⟨by rw[NW];exact hl,false,λx hx=>?_,?_⟩
   ·obtain⟨w,_,rfl⟩:=List.mem_map.mp hx;exact .str w .nil
   ·rw[Pa];refine h.imp λhne e=>hne ?_;have e:[D.str _]=[D.str _]:=e;injection e with e _;injection e
  rw[if_neg a,if_pos b];exact fin _
theorem sj(x:Int)(h0:0<=x)(h1:x<2147483700):∃c:Kd,bb dq 1 8 [.int x]=.ok c.d/\c.gd:=by
 have g3:=gm 3;have g4:=gm 4;have g26:=gm 26;have d3:=gd 3;have d12:=gd 12;have d78:=gd 78;have d2028:=gd 2028;have p7:j9 (.int x) (.int 7)=some (.int (x^7)):=vW x 7 (by decide) ‹0›;have pb:=FK;have gp:=λi=>fP (i:=i) (show(0:Int)<Bf by omega);rw[pD];unfold dq;by_cases h:x%3<2
 ·have h':decide (x%3<2)=true:=decide_eq_true h;obtain⟨v,hv,e1⟩:=Nh (.int 0) (.int (-3)) (.int (0-x^7%Bf)) (.int (x^7%Bf)) (x/3%4) ‹0› ‹0›;obtain⟨lo,rfl⟩:∃lo:Int,v=.int lo:=by
   simp only[OM,PH,or_false]at hv;rcases hv with rfl|rfl|rfl|rfl<;>exact⟨_,rfl⟩
  obtain⟨w,w0,e2⟩:∃w:Int,0<=w/\aB (.lst [.int 0,.int 1,.int 6,.int Bf]) (.int (x/12%4))=some (.int w):=by
   rcases(show x/12%4=0\/x/12%4=1\/x/12%4=2\/x/12%4=3 by omega)with z|z|z|z<;>rw[z]
   ·exact⟨0,by decide,rfl⟩
   ·exact⟨1,by decide,rfl⟩
   ·exact⟨6,by decide,rfl⟩
   ·exact⟨Bf,by omega,rfl⟩
  refine⟨.num lo (lo+w),?_,by show lo<=lo+w;omega⟩;unfold Kd.d;simp! only[g3,h',p7,yA,gp,Ii,d3,g4,e1,d12,e2,GP]
 ·have h':decide (x%3<2)=false:=decide_eq_false h;have LL:(("abcdefghijklmnopqrstuvwxyz":Str)).length=26:=by decide +kernel
  have L0:(("":Str)).length<=1000:=by decide +kernel
  generalize hL:("abcdefghijklmnopqrstuvwxyz":Str)=L at LL;obtain⟨one,ho,e1⟩:=qP L ‹0› (x/3%26) ‹0› ‹0›;obtain⟨oth,hq,e2⟩:=qP L ‹0› (x/78%26) ‹0› ‹0›;have a1:=iD one oth ‹0› ‹0›;have a2:=iD oth one ‹0› ‹0›;have a3:=iD one one ‹0› ‹0›;have m1:=Cq (x:=one) (n:=8) (by decide) (by decide) ‹0›;have m2:=Cq (x:=oth) (n:=3) (by decide) (by decide) ‹0›;have r8:mS [.int 8]=some (fN 0 8):=ku 8 (by decide);generalize hW:[D.str "",.str one,.str oth,.str (one++oth),.str (oth++one),.str (kc one 8),.str (one++one),.str (kc oth 3)]=W;have W8:W.length=8:=by rw[<-hW];rfl
  have Ws:∀d∈W,∃w:Str,d=.str w:=by
   rw[<-hW];intro d hd;simp only[OM,PH,or_false]at hd;rcases hd with rfl|rfl|rfl|rfl|rfl|rfl|rfl|rfl<;>exact⟨_,rfl⟩
  obtain⟨T,hT⟩:∃T:cG,T=(aH (lu (iw (af (fC (.int 8)) (av))) (gN 7) (aH (jx (fB (f2 j8 (f2 sB (f2 y9 (f2 dI (ai 0) (fC (.int 2028))) (ai 7)) (fC (.int 1))) (fC (.int 1)))) (nT 6 (f2 aB (ai 5) (ai 7)) (fC (.bl true))) (cB)) (eP [7] cB))) (aH (jx (mi [6] (fB (f2 j8 (fL ud (af (ai 6) (av))) (fC (.int 0))))) (nT 6 (ai 3) (fC (.bl true))) (cB)) (iN 6 (bP (bF (af (fC (.str "word")) (af (fL cq (af (fL fI (af (fL mE (af (ai 6) (av))) (av))) (av))) (av)))))))):=⟨_,rfl⟩
  have fin:∀ws:List Str,ws.Nodup->ws.length<=10->ws≠[]->∃c:Kd,iN 6 (bP (bF (af (fC (.str "word")) (af (fL cq (af (fL fI (af (fL mE (af (ai 6) (av))) (av))) (av))) (av))))) K0 [‹.int x›,none,none,‹.str one›,none,‹.lst W›,some (.own (wd ws)),none]=.ok c.d/\c.gd:=λws nd hl wn=>by
   obtain⟨us,ez,pz⟩:=Gk ws nd ‹0›;refine⟨.wrd us,?_,⟨λz=>wn (by rw[z]at pz;exact pz.symm.eq_nil),by rw[pz.length_eq];omega⟩⟩;unfold Kd.d;simp! only[xL,ez,qw]
  have key:∃c:Kd,T K0 [‹.int x›,none,none,‹.str one›,none,‹.lst W›,some (.own (.dct [] [])),none]=.ok c.d/\c.gd:=by
   rw[hT,iT,jM];simp! only[r8];refine eL (Q:=λz=>∃c:Kd,z=.ok c.d/\c.gd) (λi ρ=>∃ws:List Str,ws.Nodup/\ws.length<=i/\ρ=[‹.int x›,none,none,‹.str one›,none,‹.lst W›,some (.own (wd ws)),none]) ?_ ⟨[],Oa,NB _,rfl⟩ ?_
   ·rintro i d ρ kk hd ⟨ws,nd,hl,rfl⟩;have hi:=du hd;rw[cX]at hi;have hdi:d=.int (i:Int):=by
     rw[ky,NT,OD hi]at hd;cases hd;simp
    subst hdi;obtain⟨w,ew⟩:=Ws (W[i]'‹0›) (O9 _);have ix:aB (.lst W) (.int (i:Int))=some (.str w):=by
     rw[Jy,sQ ‹0›,ew]
    have sh:=DV (x/2028) i;cases hb:(Builtin.bitAnd (x/2028/2^i) 1==1)with
    |false=>
     refine⟨_,_,rfl,⟨ws,nd,by omega,rfl⟩,?_⟩;simp! only[d2028,sh,we,hb]
    |true=>
     refine⟨_,_,rfl,⟨pF ws w,v6 w nd,by have:=sL ws w;omega,rfl⟩,?_⟩;have pk:=λk:Ks=>vM (i:=6) (fk:=f2 aB (ai 5) (ai 7)) (fv:=fC (.bl true)) (k:=k) (ρ:=[‹.int x›,none,none,‹.str one›,none,‹.lst W›,some (.own (wd ws)),‹.int (i:Int)›]) (al:=zD ws) (q:=.inr w) (d:=.str w) (v:=.bl true) rfl (by simp! only[ix]) rfl rfl (by simp;omega);simp! only[d2028,sh,we,hb,pk,yJ]
   ·rintro ρ' ⟨ws,nd,hl,rfl⟩;rw[cX]at hl;have pt:mi [6] (fB (f2 j8 (fL ud (af (ai 6) (av))) (fC (.int 0)))) [‹.int x›,none,none,‹.str one›,none,‹.lst W›,some (.own (wd ws)),none]=.ok (((ws.length:Int))==0):=by
     simp! only[rh,G9,Fq]
    dsimp only;rw[iT,nY,pt,rE];cases hb:((ws.length:Int)==0)with
    |false=>exact fin ws nd ‹0› λz=>by rw[z]at hb;cases hb
    |true=>
     have pk:=λk:Ks=>vM (i:=6) (fk:=ai 3) (fv:=fC (.bl true)) (k:=k) (ρ:=[‹.int x›,none,none,‹.str one›,none,‹.lst W›,some (.own (wd ws)),none]) (al:=zD ws) (q:=.inr one) (d:=.str one) (v:=.bl true) rfl rfl rfl rfl (by simp;omega);rw[if_pos rfl,pk,yJ];exact fin (pF ws one) (v6 one nd) (by have:=sL ws one;omega) (EC ws one)
  obtain⟨d,ed,fd⟩:=key;have mW:lJ W=some (.lst W):=DC ‹0›;refine⟨d,?_,fd⟩;rw[<-hT];simp only[K0]at ed;simp! only[hL,g3,h',d3,g26,e1,d78,e2,a1,a2,a3,m1,m2,hW,mW,wv,ed]
theorem zy{b st:Int}{L:List Str}{nm:Str}(h:∀(j:Nat)(w:Str),L[j]?=some w->yp b (st+(j:Int)) w)(hn:yp b (st+(L.length:Int)) nm):∀(j:Nat)(w:Str),(L++[nm])[j]?=some w->yp b (st+(j:Int)) w:=λj w e=>by
 rw[List.getElem?_append]at e;split at e
 ·exact h j w e
 ·rename_i hj
  have:j-L.length=0:=by
   have:=du e
   simp at this;omega
  rw[this]at e;cases e;rw[show j=L.length by omega];exact hn
theorem Ax(dp g:Nat)(hk:∀x b:Int,0<=x->x<2147483700->0<=b->∃d,bg g [.int x,.int b,.int dp]=.ok d/\KG dp d)(x b st:Int)(m r:Nat)(h0:0<=x)(h1:x<2147483700)(hb:0<=b)(hs:0<=st)(hm:m<=8)(hr:r<=8):
  ∃(ks:KL)(qs:List (Str×D)),aU (g+1) [.int x,.int b,.int st,.int m,.int r,.int dp]=.ok (fr ks qs)/\ks.length=m/\qs.length=r/\(∀p∈ks,p.2.gd)/\(∀q∈qs,KG dp q.2)/\∀(j:Nat)(w:Str),(ks.map (·.1)++qs.map (·.1))[j]?=some w->yp b (st+(j:Int)) w:=by
 rw[ik,Gu];unfold jH;have rn:mS [.int ((m:Int)+(r:Int))]=some (fN 0 (m+r)):=by
  rw[show((m:Int)+(r:Int))=((m+r:Nat):Int)by omega];exact ku (m+r) ‹0›
 obtain⟨T,hT⟩:∃T:cG,T=iN 7 (iN 6 (bP (bF (af (fL cq (af (ai 6) (av))) (af (fL cq (af (ai 7) (av))) (av)))))):=⟨_,rfl⟩
 rw[<-hT];simp! only[HZ,rn];refine eL (Q:=λz=>∃(ks:KL)(qs:List (Str×D)),z=.ok (fr ks qs)/\ks.length=m/\qs.length=r/\(∀p∈ks,p.2.gd)/\(∀q∈qs,KG dp q.2)/\∀(j:Nat)(w:Str),(ks.map (·.1)++qs.map (·.1))[j]?=some w->yp b (st+(j:Int)) w)
  (fun i ρ=>∃ (y:Int) (ks:KL) (qs:List (Str×D)),0<=y/\y < 2147483700/\ks.length=min i m/\qs.length=i - m/\(∀ p∈ks,p.2.gd)/\(∀ q∈qs,KG dp q.2)/\(∀ (j:Nat) (w:Str),(ks.map (·.1)++qs.map (·.1))[j]?=some w->yp b (st+(j:Int)) w) /\
   ρ=[‹.int y›,‹.int b›,‹.int st›,‹.int m›,‹.int r›,‹.int dp›,some (.own (.lst (ks.map kf))),some (.own (.lst (qs.map fld))),none]) ?_ ⟨x,[],[],h0,h1,by simp,by simp,(λ_ h=>nomatch h),(λ_ h=>nomatch h),(λj w h=>by simp at h),rfl⟩ ?_
 ·rintro i d ρ kk hd ⟨y,ps,qs,y0,y1,lp,lq,fp,fq,fn,rfl⟩;have hi:=du hd;rw[cX]at hi;have hdi:d=.int (i:Int):=by
   rw[ky,NT,OD hi]at hd;cases hd;simp
  subst hdi;obtain⟨y',y0',y1',ey⟩:=ip y y0 y1;obtain⟨nm,en,nP⟩:=Ah b (st+(i:Int)) hb ‹0›;by_cases h:i<m
  ·have h':decide ((i:Int)<(m:Int))=true:=decide_eq_true ‹0›;obtain⟨c,ek,ck⟩:=sj y' y0' ‹0›;refine⟨_,_,rfl,⟨y',ps++[(nm,c)],qs,y0',by omega,by rw[NV,N1];omega,by omega,λp hp=>?_,fq,?_,rfl⟩,?_⟩
   ·rcases List.mem_append.mp hp with z|z
    ·exact fp p z
    ·rw[Pn]at z;subst z;exact ck
   ·have q0:qs=[]:=List.length_eq_zero_iff.mp ‹0›;subst q0;rw[N2,NM]at fn ⊢;rw[OA];exact zy fn (by rw[NW,lp,Pq ‹0›];exact nP)
   ·have ap:fE (ps.map kf) [.tup [.str nm,c.d]]=some ((ps++[(nm,c)]).map kf):=by
     rw[lD (by rw[NW];omega),OA];rfl
    have sm:=λK:Ks=>lj 6 fE (af (bF (af (fR (bb bY 2 7) (af (ai 1) (af (f2 bV (ai 2) (ai 8)) (av)))) (af (fR (bb dq 1 8) (af (ai 0) (av))) (av)))) (av)) K [‹.int y'›,‹.int b›,‹.int st›,‹.int m›,‹.int r›,‹.int dp›,some (.own (.lst (ps.map kf))),some (.own (.lst (qs.map fld))),‹.int i›] (xs:=ps.map kf) rfl;generalize (ps++[(nm,c)]).map kf=Y at ap ⊢;simp! only[ey,h',sm,en,ek,qw,ap]
  ·have h':decide ((i:Int)<(m:Int))=false:=decide_eq_false ‹0›;obtain⟨k,ek,fk⟩:=hk y' b y0' ‹0› hb;refine⟨_,_,rfl,⟨y',ps,qs++[(nm,k)],y0',by omega,by omega,by rw[NV,N1];omega,fp,λp hp=>?_,?_,rfl⟩,?_⟩
   ·rcases List.mem_append.mp hp with z|z
    ·exact fq p z
    ·rw[Pn]at z;subst z;exact fk
   ·rw[OA,<-OI];exact zy fn (by rw[NV,NW,NW,lp,lq,show min i m+(i-m)=i by omega];exact nP)
   ·have ap:fE (qs.map fld) [.tup [.str nm,k]]=some ((qs++[(nm,k)]).map fld):=by
     rw[lD (by rw[NW];omega),OA];rfl
    have sm:=λK:Ks=>lj 7 fE (af (bF (af (fR (bb bY 2 7) (af (ai 1) (af (f2 bV (ai 2) (ai 8)) (av)))) (af (fR (bg g) (af (ai 0) (af (ai 1) (af (ai 5) (av))))) (av)))) (av)) K [‹.int y'›,‹.int b›,‹.int st›,‹.int m›,‹.int r›,‹.int dp›,some (.own (.lst (ps.map kf))),some (.own (.lst (qs.map fld))),‹.int i›] (xs:=qs.map fld) rfl;generalize (qs++[(nm,k)]).map fld=Y at ap ⊢;simp! only[ey,h',sm,en,ek,qw,ap]
 ·rintro ρ' ⟨y,ps,qs,y0,y1,lp,lq,fp,fq,fn,rfl⟩;rw[cX]at lp lq;refine⟨ps,qs,?_,by omega,by omega,fp,fq,fn⟩;rw[hT];simp! only[qw]
theorem EX:∀(dp g:Nat),2*dp+1<=g->∀x b:Int,0<=x->x<2147483700->0<=b->∃d,bg g [.int x,.int b,.int dp]=.ok d/\KG dp d:=by
 intro dp
 induction dp with
 |zero=>
  intro g hg x b h0 h1 hb;obtain⟨g,rfl⟩:∃g',g=g'+1:=⟨g-1,by omega⟩
  have d3:=gd 3;obtain⟨c,e,f⟩:=sj (x/3) ‹0› ‹0›;refine⟨c.d,?_,c,f,rfl⟩;rw[e7,n5];unfold iG;have z:(((0:Nat):Int)==0)=true:=rfl;simp! only[z,d3,e]
 |succ dp ih=>
  intro g hg x b h0 h1 hb;obtain⟨g,rfl⟩:∃g',g=g'+1+1:=⟨g-2,by omega⟩
  have g2:=gm 2;have g3:=gm 3;have g12:=gm 12;have d3:=gd 3;have d6:=gd 6;have d18:=gd 18;have d36:=gd 36;have z:(((dp+1:Nat):Int)==0)=false:=by simp;omega
  rw[e7,n5];unfold iG;by_cases h:x%3<2
  ·have h':decide (x%3<2)=true:=decide_eq_true h;obtain⟨c,e,f⟩:=sj (x/3) ‹0› ‹0›;refine⟨c.d,?_,.inl ⟨c,f,rfl⟩⟩;simp! only[z,g3,h',d3,e]
  ·have h':decide (x%3<2)=false:=decide_eq_false h;obtain⟨m,hm,hm8,m1⟩:∃m:Nat,1+x/3%2=(m:Int)/\m<=8/\1<=m:=⟨(1+x/3%2).toNat,by omega,by omega,by omega⟩
   obtain⟨r,hr,hr8⟩:∃m:Nat,x/6%3=(m:Int)/\m<=8:=⟨(x/6%3).toNat,by omega,by omega⟩
   have hd:((dp+1:Nat):Int)-1=(dp:Int):=(by omega);obtain⟨ps,qs,e,l1,l2,F1,F2,_⟩:=Ax dp g (ih g ‹0›) (x/3) b (x/36%12) m r ‹0› ‹0› hb ‹0› hm8 hr8;refine⟨.tup [.str "rows",fr ps qs,.bl (x/18%2==1)],?_,.inr ⟨ps,qs,_,rfl,by omega,by omega,F1,by omega,F2⟩⟩;simp! only[z,g3,h',d3,d36,g12,g2,d6,hm,hr,hd,e,d18,GP]
theorem Fo(dp:Nat)(hd:dp<=3)(x b st:Int)(m r:Nat)(h0:0<=x)(h1:x<2147483700)(hb:0<=b)(hs:0<=st)(hm:m<=8)(hr:r<=8):
  ∃(ks:KL)(qs:List (Str×D)),aU 20 [.int x,.int b,.int st,.int m,.int r,.int dp]=.ok (fr ks qs)/\ks.length=m/\qs.length=r/\(∀p∈ks,p.2.gd)/\(∀q∈qs,KG dp q.2)/\∀(j:Nat)(w:Str),(ks.map (·.1)++qs.map (·.1))[j]?=some w->yp b (st+(j:Int)) w:=
 Ax dp 19 (EX dp 19 ‹0›) x b st m r h0 h1 hb hs hm hr
def Kd.has:Kd->D->Prop
 |.num lo hi,d=>∃i,d=.int i/\lo<=i/\i<=hi
 |.wrd ws,d=>∃w,d=.str w/\w∈ws
def As:KL->List D->Prop
 |[],[]=>True
 |p::k,v::vs=>p.2.has v/\As k vs
 |_,_=>False
theorem zm{c:Kd}{v:D}(h:c.has v){σ:List Bool}{vs:List D}(s:Sh σ vs):Sh (c.b::σ) (v::vs):=by
 cases c with
 |num lo hi=>obtain⟨i,rfl,_⟩:=h;exact .int i s
 |wrd ws=>obtain⟨w,rfl,_⟩:=h;exact .str w s
theorem As.sh:∀{k:KL}{vs:List D},As k vs->Sh (k.map (·.2.b)) vs
 |[],[],_=>.nil
 |_::_,_::_,h=>zm h.1 h.2.sh
theorem As.app:∀{k:KL}{vs:List D}{k':KL}{vs':List D},As k vs->As k' vs'->As (k++k') (vs++vs')
 |[],[],_,_,_,h=>h
 |_::_,_::_,_,_,a,h=>⟨a.1,a.2.app h⟩
theorem As.length{k:KL}{vs:List D}(h:As k vs):vs.length=k.length:=by
 rw[h.sh.length,NW]
theorem ub{σ:List Bool}{kl:Nat}(h0:σ≠[])(hl:kl=σ.length)(rows:List (List D))(hs:∀r∈rows,Sh σ (r.take kl))(hn:rows.length<64):∃t:List (List D),bb bG 2 4 [.int kl,.lst (rows.map .tup)]=.ok (.tup (t.map .tup))/\Fk kl t/\(∀r∈t,r∈rows)/\t.length<=rows.length:=by
 obtain⟨T,hT⟩:∃T:cG,T=(iN 2 (bP (fL cq (af (jy [none,some 2] (bK (fL fI (af (fL qf (af (ai 2) (av))) (av)))) (gN 0) (dA) (f2 sF (ai 1) (ai 0))) (av))))):=⟨_,rfl⟩
 rw[eG];unfold bG;rw[<-hT];simp! only[wv];refine eL (Q:=λz=>∃t:List (List D),z=.ok (.tup (t.map .tup))/\Fk kl t/\(∀r∈t,r∈rows)/\t.length<=rows.length) (λi ρ=>∃al:List (List Key×D),(al.map (·.1)).Nodup/\al.length<=i/\(∀p∈al,∃r∈rows,p.2=.tup r/\r.take kl=p.1.map bM)/\ρ=[‹.int kl›,‹.lst (rows.map .tup)›,some (.own (fh al)),none]) ?_ ⟨[],Oa,NB _,(λ_ h=>nomatch h),rfl⟩ ?_
 ·rintro i d ρ kk hd ⟨al,nd,ll,hp,rfl⟩;have hi:=du hd;rw[NW]at hi;rw[NT,Oq hi]at hd;cases hd;have rm:rows[i]∈rows:=O9 hi;obtain⟨q,eq⟩:=ra (hs _ rm);have ct:cutD rows[i] none (some (kl:Int))=q.map bM:=by rw[gZ,eq]
  refine⟨_,_,rfl,⟨iI al q (.tup rows[i]),D6 _ _ nd,by have:=CY al q (.tup rows[i]);omega,λp h=>?_,rfl⟩,?_⟩
  ·rcases CI h with z|z
   ·exact hp p z
   ·subst z;exact⟨_,rm,rfl,eq⟩
  ·have pd:=λK:Ks=>Fl (i:=2) (fk:=bD (ai 3) (bc) (ce (ai 0))) (fv:=ai 3) (k:=K) (ρ:=[‹.int kl›,‹.lst (rows.map .tup)›,some (.own (fh al)),‹.tup rows[i]›]) (al:=al) (q:=q) (v:=.tup rows[i]) rfl (by simp! only[ct]) rfl ‹0›;generalize fh (iI al q (.tup rows[i]))=Y at pd ⊢;generalize fh al=Z at pd ⊢;simp! only[pd]
 ·rintro ρ' ⟨al,nd,ll,hp,rfl⟩;rw[NW]at ll;have hsk:∀p∈al,Sh σ (p.1.map bM):=λp h=>by
   obtain⟨r,hr,_,e⟩:=hp p h;rw[<-e];exact hs r hr
  obtain⟨es,ri⟩:=E7 nd hsk h0 ‹0›;have pm:=gX eM (encK al);have lt:=B3 al;generalize jG eM (encK al)=W at es ri pm;have wl:W.length=al.length:=by rw[pm.length_eq,NW]
  have mem:∀x∈W,∃p∈al,x=.tup (p.1.map bM):=λx hx=>by
   obtain⟨p,h1,h2⟩:=List.mem_map.mp (pm.mem_iff.mp hx);exact⟨p,h1,h2.symm⟩
  obtain⟨vs,v1,v2,v3⟩:=CK (ρ:=[none,‹fh al›]) (g:=gN 0) (C:=dA) (Fe:=f2 sF (ai 1) (ai 0)) W (λi v=>∃r∈rows,v=.tup r/\W[i]?=some (.tup (r.take kl))) λi d hd=>by
   obtain⟨p,h1,h2⟩:=mem d (NU hd);obtain⟨r,hr,e1,e2⟩:=hp p h1;have dx:=C9 al p.1;rw[rT nd h1,e1]at dx;refine⟨[‹d›,‹fh al›],.tup r,rfl,rfl,?_,r,hr,rfl,by rw[hd,h2,e2]⟩;subst h2;generalize fh al=Z at dx;simp! only[dx]
  obtain⟨t,rfl⟩:=Aa vs λv hv=>by
   obtain⟨i,hi,ei⟩:=Ox hv;obtain⟨r,_,e,_⟩:=v2 i v (by rw[Oq hi,ei]);exact⟨r,e⟩
  rw[NW]at v1;have at_:∀(i:Nat)(h:i<t.length),t[i]∈rows/\W[i]?=some (.tup (t[i].take kl)):=λi h=>by
   obtain⟨r,hr,e,w⟩:=v2 i (.tup t[i]) (by rw[NT,Oq h];rfl);injection e with e;rw[e];exact⟨hr,w⟩
  refine⟨t,?_,?_,λr hr=>?_,by omega⟩
  ·have lc:jy [none,some 2] (bK (fL fI (af (fL qf (af (ai 2) (av))) (av)))) (gN 0) (dA) (f2 sF (ai 1) (ai 0)) [‹.int kl›,‹.lst (rows.map .tup)›,‹fh al›,none]=.ok (.lst (t.map .tup)):=by
    refine eO (ds:=W) ?_ ‹0› v3;generalize fh al=Z at lt;simp! only[lt,es]
   rw[hT];generalize fh al=Z at lc;simp! only[lc]
  ·refine List.pairwise_iff_getElem.mpr λi j hi hj hij=>?_;have a:=(at_ i hi).2;have b:=(at_ j hj).2;rw[Oq ‹0›]at a b
   have:=List.pairwise_iff_getElem.mp ri i j ‹0› ‹0› hij
   rw[Option.some.inj a,Option.some.inj b]at this;exact this
  ·obtain⟨i,hi,ei⟩:=Ox hr;rw[<-ei];exact(at_ i hi).1
theorem sJ(c:Kd)(hg:c.gd)(g:Nat)(x:Int)(h0:0<=x)(h1:x<2147483700):∃v,aD (g+1) [c.d,.int x]=.ok v/\c.has v:=by
 rw[eJ,eG];unfold gA;cases c with
 |num lo hi=>
  have hg:lo<=hi:=hg;have p7:j9 (.int x) (.int 7)=some (.int (x^7)):=vW x 7 (by decide) ‹0›;have gm:=λi=>fP (i:=i) (show(0:Int)<hi-lo+1 by omega);have z1:=PD (x^7) (show hi-lo+1≠0 by omega);have z2:=PF (x^7) (show 0<hi-lo+1 by omega);refine⟨.int (lo+x^7%(hi-lo+1)),?_,_,rfl,by omega,by omega⟩;simp! only[Kd.d,yD,p7,gm]
 |wrd ws=>
  obtain⟨wn,_⟩:=(show ws≠[]/\ws.length<=100 from hg)
  have ul:0<ws.length:=List.length_pos_iff.mpr wn;have q1:=PD x (show(ws.length:Int)≠0 by omega);have q2:=PF x (show(0:Int)<(ws.length:Int)by omega);have gm:=λi=>fP (i:=i) (show(0:Int)<(ws.length:Int)by omega);have ix:aB (.tup (ws.map .str)) (.int (x%(ws.length:Int)))=some (.str (ws[(x%(ws.length:Int)).toNat]'‹0›)):=by
   rw[Mu,vD,qR q1 q2];rfl
  refine⟨_,?_,ws[(x%(ws.length:Int)).toNat]'‹0›,rfl,O9 _⟩;simp! only[Kd.d,yr,Ag,NW,gm,ix]
theorem Cb(n g:Nat)(hv:∀(d:D)(x:Int),KG n d->0<=x->x<2147483700->∃v,aD (g+1) [d,.int x]=.ok v/\AL (2*n) v)(ks:KL)(qs:List (Str×D))(k8:ks.length<=8)(q8:qs.length<=8)(hk:∀p∈ks,p.2.gd)(hq:∀q∈qs,KG n q.2)(A B:List D)(em:A++B=(ks.map toD++qs).map fld)(mn hd tl:Int)(h0:0<=hd)(h1:hd<2147483700)(t0:0<=tl)(t1:tl<2147483700):
  ∃vs:List D,aQ (g+2) [.tup [.tup A,.tup B],.int mn,.int hd,.int tl]=.ok (.tup vs)/\vs.length=ks.length+qs.length/\As ks (vs.take ks.length)/\∀v∈vs,AL (2*n) v:=by
 rw[iJ,yG];unfold kU;have fl:(ks.map toD++qs).length=ks.length+qs.length:=by rw[NV,NW]
 have ad:=fF A B (by have:=congrArg List.length em;rw[NV,NW]at this;omega);rw[em]at ad;obtain⟨T,hT⟩:∃T:cG,T=(iN 4 (bP (fL cq (af (ai 4) (av))))):=⟨_,rfl⟩
 rw[<-hT];simp! only[HZ,ad];refine eL (Q:=λz=>∃vs:List D,z=.ok (.tup vs)/\vs.length=ks.length+qs.length/\As ks (vs.take ks.length)/\∀v∈vs,AL (2*n) v)
  (λi ρ=>∃(y z:Int)(ka va:List D),0<=y/\y<2147483700/\0<=z/\z<2147483700/\As (ks.take i) ka/\va.length=i-ks.length/\(∀v∈va,AL (2*n) v)/\ρ=[‹.tup [.tup A,.tup B]›,‹.int mn›,‹.int y›,‹.int z›,some (.own (.lst (ka++va))),none,none]) ?_ ⟨hd,tl,[],[],h0,h1,t0,t1,trivial,by simp,(λ_ h=>nomatch h),rfl⟩ ?_
 ·rintro i d ρ kk hd ⟨y,z,ka,va,y0,y1,z0,z1,hka,lva,hva,rfl⟩;have hi:=du hd;rw[NW,fl]at hi;rw[NT,Oq ‹0›]at hd;cases hd;have kal:ka.length=min i ks.length:=by rw[hka.length,NP]
  obtain⟨y',y0',y1',ey⟩:=ip y y0 y1;obtain⟨z',z0',z1',ez⟩:=ip z z0 z1;have step:∀x:Int,0<=x->x<2147483700->∃v,aD (g+1) [((ks.map toD++qs)[i]'‹0›).2,.int x]=.ok v/\∃ka' va',ka++va++[v]=ka'++va'/\As (ks.take (i+1)) ka'/\va'.length=i+1-ks.length/\∀v∈va',AL (2*n) v:=λx x0 x1=>by
   by_cases h:i<ks.length
   ·have e:(ks.map toD++qs)[i]'‹0›=toD ks[i]:=(by rw[List.getElem_append_left (by rw[NW];exact h),List.getElem_map]);obtain⟨v,ev,sv⟩:=sJ ks[i].2 (hk _ (O9 h)) g x x0 x1;have v0:va=[]:=List.length_eq_zero_iff.mp ‹0›;subst v0;refine⟨v,by rw[e];exact ev,ka++[v],[],by simp,?_,by simp;omega,λ_ h=>nomatch h⟩;rw[PJ h];exact hka.app ⟨sv,trivial⟩
   ·have e:(ks.map toD++qs)[i]'‹0›=qs[i-ks.length]'‹0›:=(by rw[List.getElem_append_right (by rw[NW];omega)];simp);obtain⟨v,ev,sv⟩:=hv _ x (hq _ (O9 (show i-ks.length<qs.length by omega))) x0 x1;refine⟨v,by rw[e];exact ev,ka,va++[v],by rw[OI],?_,by rw[NV,N1];omega,λw hw=>?_⟩
    ·rw[Pm ‹0›]at hka ⊢;exact hka
    ·rcases List.mem_append.mp hw with z|z
     ·exact hva w z
     ·rw[List.mem_singleton.mp z];exact sv
  have gt:gT 2 (oo [5,6]) (fld ((ks.map toD++qs)[i]'‹0›)) [‹.tup [.tup A,.tup B]›,‹.int mn›,‹.int y›,‹.int z›,some (.own (.lst (ka++va))),none,none]=some [‹.tup [.tup A,.tup B]›,‹.int mn›,‹.int y›,‹.int z›,some (.own (.lst (ka++va))),‹.str ((ks.map toD++qs)[i]'‹0›).1›,‹((ks.map toD++qs)[i]'‹0›).2›]:=rfl;have alen:(ka++va).length<1000:=by rw[NV];omega
  generalize (ks.map toD++qs)[i]'‹0›=p at step gt;cases hb:decide (((ka++va).length:Int)<mn)with
  |true=>
   obtain⟨v,ev,ka',va',e1,e2,e3,e4⟩:=step y' y0' ‹0›;refine⟨_,_,gt,⟨y',z,ka',va',y0',by omega,z0,z1,e2,e3,e4,rfl⟩,?_⟩;have ap:fE (ka++va) [v]=some (ka'++va'):=(by rw[lD ‹0›,e1]);have sm:=λK:Ks=>lj 4 fE (af (fR (aD (g+1)) (af (ai 6) (af (ai 2) (av)))) (av)) K [‹.tup [.tup A,.tup B]›,‹.int mn›,‹.int y'›,‹.int z›,some (.own (.lst (ka++va))),‹.str p.1›,‹p.2›] (xs:=ka++va) rfl;generalize ka++va=A at hb ap sm alen;generalize ka'++va'=B at ap;simp! only[rh,G9,hb,ey,sm,ev,ap]
  |false=>
   obtain⟨v,ev,ka',va',e1,e2,e3,e4⟩:=step z' z0' ‹0›;refine⟨_,_,gt,⟨y,z',ka',va',y0,y1,z0',by omega,e2,e3,e4,rfl⟩,?_⟩;have ap:fE (ka++va) [v]=some (ka'++va'):=(by rw[lD ‹0›,e1]);have sm:=λK:Ks=>lj 4 fE (af (fR (aD (g+1)) (af (ai 6) (af (ai 3) (av)))) (av)) K [‹.tup [.tup A,.tup B]›,‹.int mn›,‹.int y›,‹.int z'›,some (.own (.lst (ka++va))),‹.str p.1›,‹p.2›] (xs:=ka++va) rfl;generalize ka++va=A at hb ap sm alen;generalize ka'++va'=B at ap;simp! only[rh,G9,hb,ez,sm,ev,ap]
 ·rintro ρ' ⟨y,z,ka,va,y0,y1,z0,z1,hka,lva,hva,rfl⟩;rw[NW,fl]at hka lva;rw[Pm ‹0›]at hka;have kal:ka.length=ks.length:=hka.length;refine⟨ka++va,?_,by rw[NV];omega,by rw[<-kal,List.take_left];exact hka,λv hv=>?_⟩
  ·rw[hT];generalize ka++va=A;simp! only[]
  ·rcases List.mem_append.mp hv with w|w
   ·exact(xF hka.sh v w).of0 _
   ·exact hva v w
theorem zB(n g:Nat)(hv:∀(d:D)(x:Int),KG n d->0<=x->x<2147483700->∃v,aD (g+1) [d,.int x]=.ok v/\AL (2*n) v)(ks:KL)(qs:List (Str×D))(k1:1<=ks.length)(k8:ks.length<=8)(q8:qs.length<=8)(hk:∀p∈ks,p.2.gd)(hq:∀q∈qs,KG n q.2)(x:Int)(m:Nat)(h0:0<=x)(h1:x<2147483700)(hm:m<=8):
  ∃t:List (List D),aJ (g+3) [fr ks qs,.int x,.int m]=.ok (.tup (t.map .tup))/\Fk ks.length t/\t.length<=8/\∀r∈t,r.length=ks.length+qs.length/\As ks (r.take ks.length)/\∀v∈r,AL (2*n) v:=by
 have rn:=ku m ‹0›;obtain⟨T,hT⟩:∃T:cG,T=(iN 3 (bP (fR (bb bG 2 4) (af (fL iL (af (f2 aB (ai 0) (fC (.int 0))) (av))) (af (ai 3) (av)))))):=⟨_,rfl⟩
 rw[gR,n5];unfold jB;rw[<-hT];simp! only[HZ,rn];refine eL (Q:=λz=>∃t:List (List D),z=.ok (.tup (t.map .tup))/\Fk ks.length t/\t.length<=8/\∀r∈t,r.length=ks.length+qs.length/\As ks (r.take ks.length)/\∀v∈r,AL (2*n) v)
  (λi ρ=>∃(y:Int)(rs:List (List D)),0<=y/\y<2147483700/\rs.length=i/\(∀r∈rs,r.length=ks.length+qs.length/\As ks (r.take ks.length)/\∀v∈r,AL (2*n) v)/\ρ=[‹fr ks qs›,‹.int y›,‹.int m›,some (.own (.lst (rs.map .tup))),none]) ?_ ⟨x,[],h0,h1,rfl,(λ_ h=>nomatch h),rfl⟩ ?_
 ·rintro i d ρ kk hd ⟨y,rs,y0,y1,rl,hr,rfl⟩;have hi:=du hd;rw[cX]at hi;obtain⟨y',y0',y1',ey⟩:=ip y y0 y1;obtain⟨vs,ev,v1,v2,v3⟩:=Cb n g hv ks qs k8 q8 hk hq (ks.map kf) (qs.map fld) (by rw[OA,B2]) 0 0 y' (by decide) (by decide) y0' ‹0›;refine⟨_,_,rfl,⟨y',rs++[vs],y0',by omega,by rw[NV,N1,rl],λr h=>?_,rfl⟩,?_⟩
  ·rcases List.mem_append.mp h with z|z
   ·exact hr r z
   ·rw[List.mem_singleton.mp z];exact⟨v1,v2,v3⟩
  ·have ap:fE (rs.map .tup) [.tup vs]=some ((rs++[vs]).map .tup):=by
    rw[lD (by rw[NW];omega),OA];rfl
   have sm:=λK:Ks=>lj 3 fE (af (fR (aQ (g+2)) (af (ai 0) (af (fC (.int 0)) (af (fC (.int 0)) (af (ai 1) (av)))))) (av)) K [‹fr ks qs›,‹.int y'›,‹.int m›,some (.own (.lst (rs.map .tup))),‹d›] (xs:=rs.map .tup) rfl;generalize (rs++[vs]).map D.tup=Y at ap ⊢;generalize rs.map D.tup=Z at ap sm ⊢;simp! only[ey,sm,ev,ap]
 ·rintro ρ' ⟨y,rs,y0,y1,rl,hr,rfl⟩;rw[cX]at rl;obtain⟨t,et,ri,tm,tl⟩:=ub (σ:=ks.map (·.2.b)) (kl:=ks.length) (λz=>by have:=congrArg List.length z;rw[NW,N7]at this;omega) (by rw[NW]) rs (λr h=>(hr r h).2.1.sh) ‹0›;refine⟨t,?_,ri,by omega,λr h=>hr r (tm r h)⟩;rw[hT];simp! only[NW,et]
theorem xD:∀(n g:Nat),3*n+1<=g->∀(d:D)(x:Int),KG n d->0<=x->x<2147483700->∃v,aD g [d,.int x]=.ok v/\AL (2*n) v:=by
 intro n
 induction n with
 |zero=>
  intro g hg d x hd h0 h1;obtain⟨g,rfl⟩:∃g',g=g'+1:=⟨g-1,by omega⟩
  obtain⟨c,cg,rfl⟩:=hd;obtain⟨v,ev,sv⟩:=sJ c cg g x h0 h1;exact⟨v,ev,xF (zm sv .nil) v Nu⟩
 |succ n ih=>
  intro g hg d x hd h0 h1;obtain⟨g,rfl⟩:∃g',g=g'+3+1:=⟨g-4,by omega⟩
  rcases hd with⟨c,cg,rfl⟩|⟨ks,qs,b,rfl,k1,k8,hk,q8,hq⟩
  ·obtain⟨v,ev,sv⟩:=sJ c cg (g+3) x h0 h1;exact⟨v,ev,(xF (zm sv .nil) v Nu).of0 _⟩
  ·have d3:=gd 3;have g3:=gm 3;obtain⟨m,hm,em⟩:∃m:Nat,m<=3/\oV [.int (x%3),.int (if b then 1 else 0)]=some (.int (m:Int)):=by
    refine⟨(if(if b then(1:Int)else 0)>x%3 then(if b then(1:Int)else 0)else x%3).toNat,?_,?_⟩
    ·cases b<;>simp<;>split<;>omega
    ·rw[kZ];congr 2;cases b<;>simp<;>split<;>omega
   obtain⟨t,ev,_,tl,ht⟩:=zB n g (ih (g+1) ‹0›) ks qs k1 k8 q8 hk hq (x/3) m ‹0› ‹0› ‹0›;refine⟨_,?_,show AL (2*n+2) (.tup (t.map .tup))from AL.tup (by rw[NW];omega) λv hv=>by
    obtain⟨r,h1,rfl⟩:=List.mem_map.mp hv;obtain⟨w1,_,w3⟩:=ht r h1;exact AL.tup ‹0› w3⟩
   rw[eJ,eG];unfold gA;simp! only[Hv,El,d3,g3,Dg,em,ev]
theorem pN(n:Nat)(hn:n<=2)(ks:KL)(qs:List (Str×D))(k8:ks.length<=8)(q8:qs.length<=8)(hk:∀p∈ks,p.2.gd)(hq:∀q∈qs,KG n q.2)(A:List D)(em:A=(ks.map toD++qs).map fld)(x:Int)(h0:0<=x)(h1:x<2147483700):
  ∃vs:List D,bb cO 2 2 [.tup A,.int x]=.ok (.tup vs)/\vs.length=ks.length+qs.length/\As ks (vs.take ks.length)/\∀v∈vs,AL 4 v:=by
 obtain⟨vs,ev,v1,v2,v3⟩:=Cb n 18 (xD n 19 ‹0›) ks qs k8 q8 hk hq A [] (by rw[NM];exact em) 0 0 x (by decide) (by decide) h0 h1;have ev:aQ 20 [.tup [.tup A,.tup []],.int 0,.int 0,.int x]=.ok (.tup vs):=ev;refine⟨vs,?_,v1,v2,λv h=>AL.le ‹0› (v3 v h)⟩;rw[eG];unfold cO;simp! only[Jd,qw,ev]
theorem zip_get:∀(xs:List D)(i:Nat)(d:D),(kQ xs xs)[i]?=some d->∃x∈xs,d=.tup [x,x]
 |x::xs,0,d,h=>by cases h;exact⟨x,Nu,rfl⟩
 |x::xs,i+1,d,h=>by
  obtain⟨y,h1,h2⟩:=zip_get xs i d h;exact⟨y,Nv _ h1,h2⟩
theorem kI:∀(n g:Nat)(d:D),n<g->AL n d->aG g [d,d]=.ok (.bl true):=by
 intro n
 induction n with
 |zero=>
  intro g d hg hd;obtain⟨g,rfl⟩:∃g',g=g'+1:=⟨g-1,by omega⟩
  show bb (cH (aG g)) 2 4 [d,d]=_;rw[eG];unfold cH;rcases hd with⟨i,rfl⟩|⟨x,rfl⟩
  ·have t2:i7 "str" (.int i)=some (.bl false):=rfl;have t3:i7 "int" (.int i)=some (.bl true):=rfl;have t4:i7 "bool" (.int i)=some (.bl false):=rfl;simp! only[t2,t3,t4,beq_self_eq_true,Ou]
  ·have t2:i7 "str" (.str x)=some (.bl true):=rfl;simp! only[t2,beq_self_eq_true,Ou]
 |succ n ih=>
  intro g d hg hd;obtain⟨g,rfl⟩:∃g',g=g'+1:=⟨g-1,by omega⟩
  show bb (cH (aG g)) 2 4 [d,d]=_;rw[eG];unfold cH;rcases hd with(⟨i,rfl⟩|⟨x,rfl⟩)|⟨ds,rfl,dl,hds⟩
  ·have t2:i7 "str" (.int i)=some (.bl false):=rfl;have t3:i7 "int" (.int i)=some (.bl true):=rfl;have t4:i7 "bool" (.int i)=some (.bl false):=rfl;simp! only[t2,t3,t4,beq_self_eq_true,Ou]
  ·have t2:i7 "str" (.str x)=some (.bl true):=rfl;simp! only[t2,beq_self_eq_true,Ou]
  ·have t1:i7 "tuple" (.tup ds)=some (.bl true):=rfl;have t2:i7 "str" (.tup ds)=some (.bl false):=rfl;have t3:i7 "int" (.tup ds)=some (.bl false):=rfl;have t4:i7 "bool" (.tup ds)=some (.bl false):=rfl;simp! only[t1,t2,t3,t4,beq_self_eq_true,vi];refine eL (Q:=λz=>z=.ok (.bl true)) (λi ρ=>ρ=[‹.tup ds›,‹.tup ds›,none,none]) ?_ rfl ?_
   ·rintro i d ρ kk hd rfl;obtain⟨x,hx,rfl⟩:=zip_get ds i d hd;have ea:=ih g x ‹0› (hds x hx);refine⟨[‹.tup ds›,‹.tup ds›,‹x›,‹x›],_,rfl,rfl,?_⟩;simp! only[ea]
   ·rintro ρ' rfl;rfl
noncomputable def kq(f:List D):List Key:=(keysOf f).getD []
theorem JR(q:List Key):kq (q.map bM)=q:=by unfold kq;rw[cJ];rfl
theorem wI{σ:List Bool}{f:List D}(h:Sh σ f):(kq f).map bM=f:=by
 obtain⟨q,e⟩:=ra h;rw[e,JR]
theorem y4{σ:List Bool}{f f':List D}(h:Sh σ f)(h':Sh σ f')(e:kq f=kq f'):f=f':=by
 rw[<-wI h,e,wI h']
theorem zu:∀(ps al:List (List Key×D)),((al++ps).map (·.1)).Nodup->ps.foldl (λal p=>iI al p.1 p.2) al=al++ps
 |[],al,_=>by rw[NM];rfl
 |p::ps,al,h=>by
  rw[O2];have e:iI al p.1 p.2=al++[p]:=by
   unfold iI;rw[if_neg];intro z;obtain⟨a,ha,e⟩:=List.any_eq_true.mp z;rw[OA,N3]at h;exact(List.nodup_append.mp h).2.2 a.1 (List.mem_map.mpr ⟨a,ha,rfl⟩) p.1 Nu (of_decide_eq_true e)
  rw[e,zu ps (al++[p]) (by rw[OI];exact h),OI];rfl
theorem xf:∀ps:List (List Key×D),lw (ps.map wy)=some ps
 |[]=>rfl
 |p::ps=>by
  show(yd (wy p)).bind (λq=>(lw (ps.map wy)).map (q::·))=_;rw[xf ps];show((jT (.tup (p.1.map bM))).map _).bind _=_;rw[rX];rfl
variable{τ:List Bool}{m:Nat}
theorem Hr{T:List (List D)}(hs:∀r∈T,Sh τ (r.take m))(h:Fk m T):T.Pairwise λa b=>a.take m≠b.take m:=
 List.Pairwise.imp_of_mem (λ{a b} ha hb e z=>by rw[z,nH (hs b hb)]at e;cases e) h
structure So(τ:List Bool)(m:Nat)(L:List (List D)):Prop where
 t0:τ≠[]
 hm:m=τ.length
 sh:∀r∈L,Sh τ (r.take m)
 pw:L.Pairwise λa b=>a.take m≠b.take m
 ln:L.length<64
theorem So.prog{L T:List (List D)}(h:So τ m L)(r:Fk m T)(p:T.Perm L):bb iC 2 2 [.int m,.lst (L.map .tup)]=.ok (.tup (T.map .tup)):=by
 have k:Jg m (L.map .tup):=⟨by rw[NW];exact h.ln,τ,h.t0,λx hx=>by
  obtain⟨r,hr,rfl⟩:=List.mem_map.mp hx;exact⟨r,rfl,h.sh r hr⟩,List.pairwise_map.mpr h.pw⟩
 have so:jG (tN m) (L.map .tup)=T.map .tup:=by
  refine wG (σ:=τ) (λx hx=>?_) ?_ ?_ (p.map _)
  ·obtain⟨r,hr,rfl⟩:=List.mem_map.mp hx;exact h.sh r hr
  ·exact List.pairwise_map.mpr h.pw
  ·exact List.pairwise_map.mpr r
 have e:qj (.lst (L.map .tup)) (.int m)=some (.lst (T.map .tup)):=by
  show(if(0:Int)<=(m:Int)then rk ((m:Int)).toNat (L.map .tup)else none)=_;rw[if_pos ‹0›,NX];unfold rk;rw[if_pos k,so]
 rw[eG];unfold iC;simp! only[e]
theorem Ht(xs:List D):zV [.lst xs]=some (.lst xs):=nr rfl
def AB:Nat->D->Prop
 |0,d=>(∃i,d=.int i)\/(∃x,d=.str x)\/∃b,d=.bl b
 |n+1,d=>((∃i,d=.int i)\/(∃x,d=.str x)\/∃b,d=.bl b)\/∃ds,d=.tup ds/\ds.length<=1000/\∀x∈ds,AB n x
theorem AB.of0{d:D}(h:AB 0 d):∀n,AB n d
 |0=>h
 |_+1=>.inl h
theorem AB.up:∀{n:Nat}{d:D},AB n d->AB (n+1) d
 |0,_,h=>.inl h
 |n+1,_,h=>by
  rcases h with h|⟨ds,e,l,f⟩
  ·exact .inl h
  ·exact .inr ⟨ds,e,l,λx hx=>AB.up (f x hx)⟩
theorem AB.le{n m:Nat}(h:n<=m){d:D}(hd:AB n d):AB m d:=by
  induction m with
  | zero => have : n = 0 := by omega
            subst this;exact hd
  |succ m ih=>
    by_cases e:n=m+1
    ·subst e;exact hd
    ·exact AB.up (ih ‹0›)
theorem AB.tup{n:Nat}{ds:List D}(l:ds.length<=1000)(h:∀x∈ds,AB n x):AB (n+1) (.tup ds):=.inr ⟨ds,rfl,l,h⟩
theorem AB.str{n:Nat}(x:Str):AB n (.str x):=AB.of0 (.inr (.inl ⟨x,rfl⟩)) n
theorem AB.int{n:Nat}(i:Int):AB n (.int i):=AB.of0 (.inl ⟨i,rfl⟩) n
theorem AB.bl{n:Nat}(b:Bool):AB n (.bl b):=AB.of0 (.inr (.inr ⟨b,rfl⟩)) n
theorem rV(g:Nat)(d:D)(h:AB 0 d):aG (g+1) [d,d]=.ok (.bl true):=by
 show bb (cH (aG g)) 2 4 [d,d]=_;rw[eG];unfold cH;rcases h with⟨i,rfl⟩|⟨x,rfl⟩|⟨b,rfl⟩
 ·have t2:i7 "str" (.int i)=some (.bl false):=rfl;have t3:i7 "int" (.int i)=some (.bl true):=rfl;have t4:i7 "bool" (.int i)=some (.bl false):=rfl;simp! only[t2,t3,t4,beq_self_eq_true,Ou]
 ·have t2:i7 "str" (.str x)=some (.bl true):=rfl;simp! only[t2,beq_self_eq_true,Ou]
 ·have t2:i7 "str" (.bl b)=some (.bl false):=rfl;have t4:i7 "bool" (.bl b)=some (.bl true):=rfl;simp! only[t2,t4,beq_self_eq_true,Ou]
theorem Ew:∀(n g:Nat)(d:D),n<g->AB n d->aG g [d,d]=.ok (.bl true):=by
 intro n
 induction n with
 |zero=>
  intro g d hg hd;obtain⟨g,rfl⟩:∃g',g=g'+1:=⟨g-1,by omega⟩
  exact rV g d hd
 |succ n ih=>
  intro g d hg hd;obtain⟨g,rfl⟩:∃g',g=g'+1:=⟨g-1,by omega⟩
  rcases hd with h|⟨ds,rfl,dl,hds⟩
  ·exact rV g d h
  ·show bb (cH (aG g)) 2 4 [.tup ds,.tup ds]=_;rw[eG];unfold cH;have t1:i7 "tuple" (.tup ds)=some (.bl true):=rfl;have t2:i7 "str" (.tup ds)=some (.bl false):=rfl;have t3:i7 "int" (.tup ds)=some (.bl false):=rfl;have t4:i7 "bool" (.tup ds)=some (.bl false):=rfl;simp! only[t1,t2,t3,t4,beq_self_eq_true,vi];refine eL (Q:=λz=>z=.ok (.bl true)) (λi ρ=>ρ=[‹.tup ds›,‹.tup ds›,none,none]) ?_ rfl ?_
   ·rintro i d ρ kk hd rfl;obtain⟨x,hx,rfl⟩:=zip_get ds i d hd;have ea:=ih g x ‹0› (hds x hx);refine⟨[‹.tup ds›,‹.tup ds›,‹x›,‹x›],_,rfl,rfl,?_⟩;simp! only[ea]
   ·rintro ρ' rfl;rfl
theorem DQ(c:Kd)(h:c.gd):AB 2 c.d:=by
 cases c with
 |num lo hi=>
  exact AB.tup (by simp) λx hx=>by
   rcases List.mem_cons.mp hx with rfl|hx
   ·exact AB.str _
   ·rcases List.mem_cons.mp hx with rfl|hx
    ·exact AB.int _
    ·rw[List.mem_singleton.mp hx];exact AB.int _
 |wrd ws=>
  have hl:ws.length<=100:=h.2;exact AB.tup (by simp) λx hx=>by
   rcases List.mem_cons.mp hx with rfl|hx
   ·exact AB.str _
   ·rw[List.mem_singleton.mp hx];exact AB.tup (by rw[NW];omega) λy hy=>by
     obtain⟨w,_,rfl⟩:=List.mem_map.mp hy;exact AB.str _
theorem Ak{n:Nat}{a b:D}(ha:AB n a)(hb:AB n b):AB (n+1) (.tup [a,b]):=AB.tup (by simp) λx hx=>by
 rcases List.mem_cons.mp hx with rfl|hx
 ·exact ha
 ·rw[List.mem_singleton.mp hx];exact hb
theorem zO{n:Nat}{L:List D}(hl:L.length<=1000)(h:∀d∈L,∃(w:Str)(k:D),d=.tup [.str w,k]/\AB n k):AB (n+2) (.tup L):=AB.tup hl λx hx=>by
 obtain⟨w,k,rfl,hk⟩:=h x hx;exact Ak (AB.str _) hk
theorem D7{n:Nat}{f:D}(b:Bool)(hf:AB n f):AB (n+1) (.tup [.str "rows",f,.bl b]):=AB.tup (by simp) λx hx=>by
 rcases List.mem_cons.mp hx with rfl|hx
 ·exact AB.str _
 ·rcases List.mem_cons.mp hx with rfl|hx
  ·exact hf
  ·rw[List.mem_singleton.mp hx];exact AB.bl _
theorem FZ{n:Nat}(ks:KL)(qs:List (Str×D))(k8:ks.length<=8)(q8:qs.length<=8)(hk:∀p∈ks,p.2.gd)(hq:∀q∈qs,AB (2+n) q.2):AB (5+n) (fr ks qs):=by
 have e:5+n=(2+n+2)+1:=by omega
 rw[e];refine Ak (zO (by rw[NW];omega) λd hd=>?_) (zO (by rw[NW];omega) λd hd=>?_)
 ·obtain⟨p,hp,rfl⟩:=List.mem_map.mp hd;exact⟨p.1,p.2.d,rfl,AB.le ‹0› (DQ p.2 (hk p hp))⟩
 ·obtain⟨p,hp,rfl⟩:=List.mem_map.mp hd;exact⟨p.1,p.2,rfl,hq p hp⟩
theorem FC:∀(n:Nat)(d:D),KG n d->AB (2+4*n) d
 |0,d,h=>by
  obtain⟨c,hc,rfl⟩:=h;exact DQ c hc
 |n+1,d,h=>by
  rcases h with⟨c,hc,rfl⟩|⟨ks,qs,b,rfl,_,k8,hk,q8,hq⟩
  ·exact AB.le ‹0› (DQ c hc)
  ·have:=D7 b (FZ (n:=4*n) ks qs k8 q8 hk λq hq'=>FC n _ (hq q hq'))
   exact AB.le ‹0› this
theorem GV{σ:List Bool}{a b:List D}(h:Sh σ a)(h':Sh σ b):j8 (.tup a) (.tup b)=some (.bl (fu a b)):=by
 have e:j8 (.tup a) (.tup b)=if(pl (.tup a)&&pl (.tup b))&&(fA 8 (.tup a)||fA 8 (.tup b))then some (.bl (pyEq (.tup a) (.tup b)))else none:=rfl
 have d:fA 8 (.tup a)=true:=by show a.all (fA 7)=true;exact y6 6 h
 rw[e,dP,dP,Aj h,Aj h',d];show some (D.bl (pyEq (.tup a) (.tup b)))=_;rw[pyEq]
open Classical in
theorem Eg{σ:List Bool}{a b:List D}(h:Sh σ a)(h':Sh σ b):j8 (.tup a) (.tup b)=some (.bl (decide (a=b))):=by
 rw[GV h h'];congr 2;by_cases e:a=b
 ·rw[decide_eq_true e];exact(vw h h').mpr e
 ·rw[decide_eq_false e];cases z:fu a b with
  |false=>rfl
  |true=>exact absurd ((vw h h').mp z) e
def mn(i j:Int):Int:=if j<i then j else i
theorem Ja(a:Kd):pl a.d=true:=by
 cases a with
 |num _ _=>rfl
 |wrd ws=>
  show pl (.tup [.str "word",.tup (ws.map .str)])=true;rw[dP];show(pl (.str "word")&&(pl (.tup (ws.map .str))&&ow []))=true;rw[dP,oW D.str λ_=>rfl];rfl
def Kd.srt:Kd->Str
 |.num _ _=>"number"
 |.wrd _=>"word"
def Kd.ok:Kd->Prop
 |.num _ _=>True
 |.wrd ws=>ws.length<=100
def Kd.bad:Kd->Bool
 |.num a b=>decide (b<a)
 |.wrd ws=>ws.isEmpty
def tu:Kd->Kd->Kd
 |.num a b,.num x y=>.num (mx a x) (mn b y)
 |.wrd ws,.wrd us=>.wrd (ws.filter λw=>us.contains w)
 |k,_=>k
def bo(k s:Kd):D:=if(tu k s).bad then .non else(tu k s).d
theorem JV(k:Kd):aB k.d (.int 0)=some (.str k.srt):=by
 cases k with
 |num a b=>exact ox _ _
 |wrd ws=>exact ox _ _
theorem zz{k s:Kd}(h:k.srt=s.srt)(hk:k.ok):bb p3 2 2 [k.d,s.d]=.ok (bo k s)/\bb dN 2 2 [k.d,s.d]=.ok (tu k s).d:=by
 rw[eG,eG];unfold p3 dN;cases k with
 |num a b=>
  cases s with
  |num x y=>
   have bn:bb eT 2 4 [.tup [.str "number",.int a,.int b],.tup [.str "number",.int x,.int y]]=.ok (bo (.num a b) (.num x y)):=by
    rw[eG];unfold eT;cases hd:decide (mx a x<=mn b y)with
    |true=>
     have e:bo (.num a b) (.num x y)=.tup [.str "number",.int (mx a x),.int (mn b y)]:=by
      unfold bo;rw[if_neg]
      ·rfl
      ·show¬decide (mn b y<mx a x)=true
       have:=of_decide_eq_true hd
       rw[decide_eq_false ‹0›];simp
     have l1:decide ((if x>a then x else a)<=(if y<b then y else b))=true:=hd;rw[e];simp! only[l1,GP];rfl
    |false=>
     have e:bo (.num a b) (.num x y)=.non:=by
      unfold bo;rw[if_pos];show decide (mn b y<mx a x)=true
      have:=of_decide_eq_false hd
      exact decide_eq_true ‹0›
     have l1:decide ((if x>a then x else a)<=(if y<b then y else b))=false:=hd;rw[e];simp! only[l1]
   constructor
   ·simp! only[Kd.d,yD,bn]
   ·simp! only[Kd.d,yD,GP];rfl
  |wrd us=>exact absurd (show(("number":Str))="word"from h) (by decide +kernel)
 |wrd ws=>
  cases s with
  |num x y=>exact absurd (show(("word":Str))="number"from h) (by decide +kernel)
  |wrd us=>
   have hk:ws.length<=100:=hk;have f0:∀tl:aw,jy [none,some 1] (bK (f2 aB (ai 0) (fC (.int 1)))) (gN 0) (fB (f2 Av (ai 0) (f2 aB (ai 1) (fC (.int 1))))) (ai 0) (‹.tup [.str "word",.tup (ws.map .str)]›::‹.tup [.str "word",.tup (us.map .str)]›::tl)=.ok (.lst ((ws.filter λw=>us.contains w).map .str)):=λtl=>by
    refine eO (ds:=ws.map .str) (by simp! only[]) (by rw[NW];omega) ?_;refine kX D.str (λw=>us.contains w) D.str ws λw _=>⟨_,rfl,?_,rfl⟩
    simp! only[Ad]
   have bw:bb gE 2 3 [.tup [.str "word",.tup (ws.map .str)],.tup [.str "word",.tup (us.map .str)]]=.ok (bo (.wrd ws) (.wrd us)):=by
    have f0:=f0 [none];rw[eG];unfold gE;cases q:(ws.filter λw=>us.contains w)with
    |nil=>
     rw[q]at f0;have e:bo (.wrd ws) (.wrd us)=.non:=by
      unfold bo;rw[if_pos];show(ws.filter λw=>us.contains w).isEmpty=true;rw[q];rfl
     rw[e];have n0:(([]:List Str).map D.str)=[]:=rfl;rw[n0]at f0;simp! only[f0];rfl
    |cons a r=>
     rw[q]at f0;have e:bo (.wrd ws) (.wrd us)=.tup [.str "word",.tup ((a::r).map .str)]:=by
      unfold bo;rw[if_neg]
      ·show D.tup [.str "word",.tup ((ws.filter λw=>us.contains w).map .str)]=_;rw[q]
      ·show¬(ws.filter λw=>us.contains w).isEmpty=true;rw[q];simp
     have ne:((a::r).map D.str).isEmpty=false:=rfl;rw[e];generalize (a::r).map D.str=Z at f0 ne;simp! only[f0,ne,qw]
   constructor
   ·simp! only[Kd.d,yr,Ag,bw]
   ·have f0:=f0 [];simp! only[Kd.d,yr,f0,qw];rfl
theorem zE:∀a b:List Str,fu (a.map .str) (b.map .str)=decide (a=b)
 |[],[]=>by unfold fu;simp
 |[],_::_=>by rw[N2,N3];unfold fu;simp
 |_::_,[]=>by rw[N2,N3];unfold fu;simp
 |x::a,y::b=>by
  rw[N3,N3];unfold fu;rw[zE a b]
  have:pyEq (.str x) (.str y)=(x==y):=by unfold pyEq;rfl
  rw[this,Bool.eq_iff_iff];simp
theorem Fp(a b:List Str):wf (.lst (a.map .str)) (.lst (b.map .str))=some (.bl (!decide (a=b))):=by
 have e:wf (.lst (a.map .str)) (.lst (b.map .str))=if(pl (.lst (a.map .str))&&pl (.lst (b.map .str)))&&(fA 8 (.lst (a.map .str))||fA 8 (.lst (b.map .str)))then some (.bl (!pyEq (.lst (a.map .str)) (.lst (b.map .str))))else none:=rfl
 have d:fA 8 (.lst (a.map .str))=true:=by
  show(a.map D.str).all (fA 7)=true;rw[List.all_map];exact List.all_eq_true.mpr λ_ _=>rfl
 rw[e,eI,eI,oW D.str (λ_=>rfl) a,oW D.str (λ_=>rfl) b,d];show some (D.bl (!pyEq (.lst (a.map .str)) (.lst (b.map .str))))=_;rw[pyEq,zE]
abbrev ZP:=(Str×Kd)×(Str×Kd)
structure Mt(c e:Kd):Prop where
 o1:c.ok
 o2:e.ok
 s:c.srt=e.srt
 b:(tu c e).bad=false
 b':(tu e c).bad=false
theorem Mt.gd{c e:Kd}(h:Mt c e):(tu c e).gd:=by
 have b:=h.b;have o:=h.o1;have s:=h.s;cases c with
 |num x y=>cases e with
  |num u v=>
   have b:decide (mn y v<mx x u)=false:=b;show mx x u<=mn y v
   have:=of_decide_eq_false b
   omega
  |wrd us=>cases s
 |wrd ws=>cases e with
  |num u v=>cases s
  |wrd us=>
   refine⟨λz=>?_,Nq (PK _ _) o⟩;have b:(ws.filter λw=>us.contains w).isEmpty=false:=b;rw[z]at b;cases b
theorem Mt.gds{c e:Kd}(h:Mt c e):c.gd/\e.gd/\(tu c e).b=c.b/\e.b=c.b:=by
 have b:=h.b;have o:=h.o1;have o2:=h.o2;have s:=h.s;cases c with
 |num x y=>cases e with
  |num u v=>
   have b:decide (mn y v<mx x u)=false:=b
   have:=of_decide_eq_false b
   unfold mn mx at this;refine⟨show x<=y from ?_,show u<=v from ?_,rfl,rfl⟩
   ·split at this<;>split at this<;>omega
   ·split at this<;>split at this<;>omega
  |wrd us=>cases s
 |wrd ws=>cases e with
  |num u v=>cases s
  |wrd us=>
   have b:(ws.filter λw=>us.contains w).isEmpty=false:=b;refine⟨⟨λz=>?_,o⟩,⟨λz=>?_,o2⟩,rfl,rfl⟩
   ·rw[z]at b;cases b
   ·have:(ws.filter λw=>us.contains w)=[]:=List.filter_eq_nil_iff.mpr λw _=>by rw[z];simp
    rw[this]at b;cases b
theorem yX{α:Type}(f g:α->D):∀L:List α,kQ (L.map f) (L.map g)=L.map λz=>.tup [f z,g z]
 |[]=>rfl
 |a::L=>by
  rw[N3,N3,N3,<-yX f g L];rfl
def bk(L:List ZP):KL:=L.map λz=>(z.1.1,tu z.1.2 z.2.2)
abbrev k1(L:List ZP):KL:=L.map (·.1)
abbrev k2(L:List ZP):KL:=L.map (·.2)
abbrev Ok(L:List ZP):Prop:=∀z∈L,z.1.1=z.2.1/\Mt z.1.2 z.2.2
theorem wN{L:List ZP}(h:Ok L):∀p∈bk L,p.2.gd:=λp hp=>by
 obtain⟨z,hz,rfl⟩:=List.mem_map.mp hp;exact(h z hz).2.gd
theorem CL{α:Type}(f g:α->D)(t:List D):∀L:List α,kQ (L.map f) (L.map g++t)=L.map λz=>.tup [f z,g z]
 |[]=>by cases t<;>rfl
 |a::L=>by
  rw[N3,N3,N3,<-CL f g t L];rfl
theorem Jx{L:List ZP}(h:Ok L):∀p∈k1 L,p.2.gd:=λp hp=>by
 obtain⟨z,hz,rfl⟩:=List.mem_map.mp hp;exact(h z hz).2.gds.1
theorem IJ{L:List ZP}(h:Ok L):∀p∈k2 L,p.2.gd:=λp hp=>by
 obtain⟨z,hz,rfl⟩:=List.mem_map.mp hp;exact(h z hz).2.gds.2.1
abbrev so(L:List ZP):List Bool:=(bk L).map (·.2.b)
theorem Ni{L:List ZP}(h:Ok L):(k1 L).map (·.2.b)=so L:=by
 unfold so bk;rw[Ph,Ph];exact Oz λz hz=>(h z hz).2.gds.2.2.1.symm
theorem Nc{L:List ZP}(h:Ok L):(k2 L).map (·.2.b)=so L:=by
 unfold so bk;rw[Ph,Ph];exact Oz λz hz=>by
  obtain⟨_,_,a,b⟩:=(h z hz).2.gds;exact b.trans a.symm
theorem vQ(L:List ZP):(so L).length=L.length:=by unfold so bk;rw[NW,NW]
theorem rH{L:List ZP}(h:Ok L)(l8:L.length<=8)(t:KL)(a b:D):bb bB 2 5 [.tup [.tup ((k1 L).map kf),a],.tup [.tup ((k2 L++t).map kf),b]]=.ok (.tup ((bk L).map kf)):=by
 have ze:vB [.tup ((k1 L).map kf),.tup ((k2 L++t).map kf)]=some (L.map λz=>.tup [kf z.1,kf z.2]):=by
  show some (kQ ((k1 L).map kf) ((k2 L++t).map kf))=_;rw[Ph,OA,Ph,CL];rfl
 obtain⟨T,hT⟩:∃T:cG,T=(iN 2 (bP (fL cq (af (ai 2) (av))))):=⟨_,rfl⟩
 rw[eG];unfold bB;rw[<-hT];simp! only[HZ,ze];generalize hA:D.tup [.tup ((k1 L).map kf),a]=A;generalize hB:D.tup [.tup ((k2 L++t).map kf),b]=B;refine eL (Q:=λz=>z=.ok (.tup ((bk L).map kf))) (λi ρ=>ρ=[‹A›,‹B›,some (.own (.lst ((bk (L.take i)).map kf))),none,none]) ?_ rfl ?_
 ·rintro i d ρ kk hd rfl;have hi:=du hd;rw[NW]at hi;rw[NT,Oq hi]at hd;cases hd;obtain⟨_,mt⟩:=h L[i] (O9 hi);have ib:=(zz mt.s mt.o1).2;have ap:fE ((bk (L.take i)).map kf) [.tup [.str L[i].1.1,(tu L[i].1.2 L[i].2.2).d]]=some ((bk (L.take (i+1))).map kf):=by
   unfold bk;rw[lD (by rw[NW,NW,NP];omega),PJ hi,OA,OA];rfl
  refine⟨[‹A›,‹B›,some (.own (.lst ((bk (L.take i)).map kf))),‹kf L[i].1›,‹kf L[i].2›],_,rfl,rfl,?_⟩;have sm:=λK:Ks=>lj 2 fE (af (bF (af (f2 aB (ai 3) (fC (.int 0))) (af (fR (bb dN 2 2) (af (f2 aB (ai 3) (fC (.int 1))) (af (f2 aB (ai 4) (fC (.int 1))) (av)))) (av)))) (av)) K [‹A›,‹B›,some (.own (.lst ((bk (L.take i)).map kf))),‹kf L[i].1›,‹kf L[i].2›] (xs:=(bk (L.take i)).map kf) rfl;have j0:aB (kf L[i].1) (.int 0)=some (.str L[i].1.1):=rfl;have j1:aB (kf L[i].1) (.int 1)=some L[i].1.2.d:=rfl;have j2:aB (kf L[i].2) (.int 1)=some L[i].2.2.d:=rfl;generalize (bk (L.take (i+1))).map kf=Y at ap ⊢;generalize (bk (L.take i)).map kf=Z at ap sm ⊢;simp! only[sm,j0,j1,j2,ib,qw,ap]
 ·rintro ρ' rfl;rw[NW,Pm (NB _),hT];simp! only[]
theorem Df{α:Type}(f h:α->D)(L:List α)(ρ:aw)(G:aw->R (List D))(Fe:FX)(hG:G ρ=.ok (L.map f))(hl:L.length<=1000)(hF:∀z∈L,Fe [‹f z›]=.ok (h z)):jy [none] G (gN 0) (dA) Fe ρ=.ok (.lst (L.map h)):=
 eO hG (by rw[NW];omega) (iS f h L λz hz=>⟨[‹f z›],rfl,rfl,hF z hz⟩)
theorem zX(ws:List Str):wf (.lst (ws.map .str)) (.lst (ws.map .str))=some (.bl false):=by
 rw[Fp,decide_eq_true rfl];rfl
theorem Bg{L:List ZP}(h:Ok L)(l8:L.length<=8):bb gl 2 3 [.tup ((k1 L).map kf),.tup ((k2 L).map kf)]=.ok (.tup ((bk L).map kf)):=by
 have ze:vB [.tup ((k1 L).map kf),.tup ((k2 L).map kf)]=some (L.map λz=>.tup [kf z.1,kf z.2]):=by
  show some (kQ ((k1 L).map kf) ((k2 L).map kf))=_;rw[Ph,Ph,yX];rfl
 rw[Ph,Ph]at ze ⊢;generalize hρ:[some (S.val (.tup (L.map (kf∘(·.1))))),‹.tup (L.map (kf∘(·.2)))›,none]=ρ;have f0:bK (ai 0) ρ=.ok (L.map (kf∘(·.1))):=by rw[<-hρ];simp! only[]
 have f1:bK (ai 1) ρ=.ok (L.map (kf∘(·.2))):=by rw[<-hρ];simp! only[]
 have nme:L.map (λz=>D.str z.2.1)=L.map (λz=>.str z.1.1):=Oz λz hz=>by rw[(h z hz).1]
 have sre:L.map (λz=>D.str z.2.2.srt)=L.map (λz=>.str z.1.2.srt):=Oz λz hz=>by rw[(h z hz).2.s]
 have n1:=Df _ (λz=>.str z.1.1) L ρ _ (f2 aB (ai 0) (fC (.int 0))) f0 ‹0› λz _=>rfl;have n2:=Df _ (λz=>.str z.2.1) L ρ _ (f2 aB (ai 0) (fC (.int 0))) f1 ‹0› λz _=>rfl;have s1:=Df _ (λz=>.str z.1.2.srt) L ρ _ (f2 aB (f2 aB (ai 0) (fC (.int 1))) (fC (.int 0))) f0 ‹0› λz _=>by
  have a:aB (kf z.1) (.int 1)=some z.1.2.d:=rfl;have b:=JV z.1.2;simp! only[Function.comp_apply,a,b]
 have s2:=Df _ (λz=>.str z.2.2.srt) L ρ _ (f2 aB (f2 aB (ai 0) (fC (.int 1))) (fC (.int 0))) f1 ‹0› λz _=>by
  have a:aB (kf z.2) (.int 1)=some z.2.2.d:=rfl;have b:=JV z.2.2;simp! only[Function.comp_apply,a,b]
 rw[nme]at n2;rw[sre]at s2;have ne:wf (.lst (L.map λz=>.str z.1.1)) (.lst (L.map λz=>.str z.1.1))=some (.bl false):=by
  have:=zX (L.map λz=>z.1.1)
  rwa [Ph]at this
 have se:wf (.lst (L.map λz=>.str z.1.2.srt)) (.lst (L.map λz=>.str z.1.2.srt))=some (.bl false):=by
  have:=zX (L.map λz=>z.1.2.srt)
  rwa [Ph]at this
 have kk:jy [none,none] (wo (af (ai 0) (af (ai 1) (av)))) (gT 2 (oo [0,1])) (dA) (fR (bb p3 2 2) (af (f2 aB (ai 0) (fC (.int 1))) (af (f2 aB (ai 1) (fC (.int 1))) (av)))) ρ=.ok (.lst (L.map λz=>(tu z.1.2 z.2.2).d)):=by
  refine eO (ds:=L.map λz=>.tup [kf z.1,kf z.2]) (by rw[<-hρ];simp! only[ze]) (by rw[NW];omega) ?_;refine iS (λz:ZP=>D.tup [kf z.1,kf z.2]) _ L λz hz=>⟨[‹kf z.1›,‹kf z.2›],by rw[<-hρ];rfl,rfl,?_⟩
  obtain⟨_,mt⟩:=h z hz;have ib:=(zz mt.s mt.o1).1;have b:=mt.b;unfold bo at ib;rw[b,if_neg NF]at ib;have j1:aB (kf z.1) (.int 1)=some z.1.2.d:=rfl;have j2:aB (kf z.2) (.int 1)=some z.2.2.d:=rfl;simp! only[j1,j2,ib]
 have inn:Av .non (.lst (L.map λz=>(tu z.1.2 z.2.2).d))=some (.bl false):=by
  show(if(pl .non&&ow (L.map λz=>(tu z.1.2 z.2.2).d))&&fA 8 .non then some (D.bl (inD .non (L.map λz=>(tu z.1.2 z.2.2).d)))else none)=_;rw[CQ λx hx=>by
   obtain⟨z,_,rfl⟩:=List.mem_map.mp hx;exact Ja _]
  show some (D.bl (inD .non (L.map λz=>(tu z.1.2 z.2.2).d)))=_;congr 2;unfold inD;rw[OZ];refine List.any_eq_false.mpr λz _=>?_
  have:pyEq (tu z.1.2 z.2.2).d .non=false:=by
   cases tu z.1.2 z.2.2 with
   |num _ _=>unfold Kd.d pyEq;rfl
   |wrd _=>unfold Kd.d pyEq;rfl
  rw[Function.comp_apply,this];exact NF
 have ze2:vB [.tup (L.map (kf∘(·.1))),.lst (L.map λz=>(tu z.1.2 z.2.2).d)]=some (L.map λz=>.tup [kf z.1,(tu z.1.2 z.2.2).d]):=by
  show some (kQ _ _)=_;rw[yX];rfl
 have fi:jy [none,none] (wo (af (ai 0) (af (ai 2) (av)))) (gT 2 (oo [0,1])) (dA) (bF (af (f2 aB (ai 0) (fC (.int 0))) (af (ai 1) (av)))) [‹.tup (L.map (kf∘(·.1)))›,‹.tup (L.map (kf∘(·.2)))›,‹.lst (L.map λz=>(tu z.1.2 z.2.2).d)›]=.ok (.lst ((bk L).map kf)):=by
  unfold bk;rw[Ph];refine eO (ds:=L.map λz=>.tup [kf z.1,(tu z.1.2 z.2.2).d]) (by simp! only[ze2]) (by rw[NW];omega) ?_;refine iS (λz:ZP=>D.tup [kf z.1,(tu z.1.2 z.2.2).d]) _ L λz hz=>⟨[‹kf z.1›,‹(tu z.1.2 z.2.2).d›],rfl,rfl,?_⟩
  have k0:aB (kf z.1) (.int 0)=some (.str z.1.1):=rfl;simp! only[k0,qw];rfl
 rw[eG];unfold gl;rw[<-hρ]at n1 n2 s1 s2 kk;generalize (bk L).map kf=BK at fi ⊢;simp! only[n1,n2,ne,s1,s2,se,kk,inn,fi]
theorem yw(x:Int):∃us:List Str,us≠[]/\us.length<=8/\bb dH 1 6 [.int x]=.ok (.lst (us.map .str)):=by
 have g26:=gm 26;have d26:=gd 26;have LL:(("abcdefghijklmnopqrstuvwxyz":Str)).length=26:=by decide +kernel
 generalize hL:("abcdefghijklmnopqrstuvwxyz":Str)=L at LL;obtain⟨one,ho,e1⟩:=qP L ‹0› (x%26) ‹0› ‹0›;obtain⟨oth,hq,e2⟩:=qP L ‹0› (x/26%26) ‹0› ‹0›;have a1:=iD one oth ‹0› ‹0›;have a2:=iD oth one ‹0› ‹0›;have a3:=iD one one ‹0› ‹0›;have m1:=Cq (x:=one) (n:=8) (by decide) (by decide) ‹0›;have m2:=Cq (x:=oth) (n:=3) (by decide) (by decide) ‹0›;generalize hW:[D.str "",.str one,.str oth,.str (one++oth),.str (oth++one),.str (kc one 8),.str (one++one),.str (kc oth 3)]=W;have W8:W.length=8:=by rw[<-hW];rfl
 have Ws:∀d∈W,∃w:Str,d=.str w:=by
  rw[<-hW];intro d hd;simp only[OM,PH,or_false]at hd;rcases hd with rfl|rfl|rfl|rfl|rfl|rfl|rfl|rfl<;>exact⟨_,rfl⟩
 have mW:lJ W=some (.lst W):=DC ‹0›;obtain⟨T,hT⟩:∃T:cG,T=(iN 4 (bP (fL fI (af (fL mE (af (ai 4) (av))) (av))))):=⟨_,rfl⟩
 rw[pD];unfold dH;rw[<-hT];simp! only[hL,g26,e1,d26,e2,wv,a1,a2,a3,m1,m2,hW,mW];refine eL (Q:=λz=>∃us:List Str,us≠[]/\us.length<=8/\z=.ok (.lst (us.map .str))) (λi ρ=>∃ws:List Str,ws.Nodup/\ws.length<=i/\(0<i->ws≠[])/\ρ=[none,none,‹.str one›,‹.str oth›,some (.own (wd ws)),none]) ?_ ⟨[],Oa,NB _,λh=>by omega,rfl⟩ ?_
 ·rintro i d ρ kk hd ⟨ws,nd,hl,hn,rfl⟩;have hi:=du hd;obtain⟨w,rfl⟩:=Ws d (NU hd);have pn:pF ws w≠[]:=by
   unfold pF;split
   ·rename_i h;intro z;rw[z]at h;simp at h
   ·simp
  refine⟨_,_,rfl,⟨pF ws w,v6 w nd,by have:=sL ws w;omega,λ_=>pn,rfl⟩,?_⟩;have pk:=λk:Ks=>vM (i:=4) (fk:=ai 5) (fv:=fC (.bl true)) (k:=k) (ρ:=[none,none,‹.str one›,‹.str oth›,some (.own (wd ws)),‹.str w›]) (al:=zD ws) (q:=.inr w) (d:=.str w) (v:=.bl true) rfl rfl rfl rfl (by simp;omega);simp! only[pk,yJ]
 ·rintro ρ' ⟨ws,nd,hl,hn,rfl⟩;rw[W8]at hl hn;obtain⟨us,eu,pu⟩:=Gk ws nd ‹0›;refine⟨us,λz=>hn (by decide) (by rw[z]at pu;exact pu.symm.eq_nil),by rw[pu.length_eq];exact hl,?_⟩;rw[hT];simp! only[xL,eu]
theorem xY:∀(us:List Str)(i:Nat),lK i (us.map .str)=(us.zipIdx i).map λp=>.tup [.int (p.2:Int),.str p.1]
 |[],_=>rfl
 |u::us,i=>by
  rw[N3,lK,xY us (i+1),OL,N3]
theorem Mt.swap{c e:Kd}(h:Mt c e):Mt e c:=⟨h.o2,h.o1,h.s.symm,h.b',h.b⟩
theorem HF{lo w f g:Int}(h1:0<=f)(h2:f<=w)(h3:0<=g):Mt (.num lo (lo+w)) (.num (lo+f) (lo+f+g)):=by
 refine⟨trivial,trivial,rfl,?_,?_⟩
 ·show decide (mn (lo+w) (lo+f+g)<mx lo (lo+f))=false;refine decide_eq_false ?_;unfold mn mx;split<;>split<;>omega
 ·show decide (mn (lo+f+g) (lo+w)<mx (lo+f) lo)=false;refine decide_eq_false ?_;unfold mn mx;split<;>split<;>omega
theorem Hm{a b:List Str}{w:Str}(h1:w∈a)(h2:w∈b)(l1:a.length<=100)(l2:b.length<=100):Mt (.wrd a) (.wrd b):=by
 refine⟨l1,l2,rfl,?_,?_⟩
 ·show(a.filter λw=>b.contains w).isEmpty=false
  have:w∈a.filter λw=>b.contains w:=List.mem_filter.mpr ⟨h1,by simpa using h2⟩
  cases h:a.filter λw=>b.contains w with
  |nil=>rw[h]at this;cases this
  |cons _ _=>rfl
 ·show(b.filter λw=>a.contains w).isEmpty=false
  have:w∈b.filter λw=>a.contains w:=List.mem_filter.mpr ⟨h2,by simpa using h1⟩
  cases h:b.filter λw=>a.contains w with
  |nil=>rw[h]at this;cases this
  |cons _ _=>rfl
theorem EI(a b c d i:Int)(h0:0<=i)(h1:i<4):∃x:Int,(x=a\/x=b\/x=c\/x=d)/\aB (.lst [.int a,.int b,.int c,.int d]) (.int i)=some (.int x):=by
 rcases(show i=0\/i=1\/i=2\/i=3 by omega)with z|z|z|z<;>subst z
 ·exact⟨a,by simp,rfl⟩
 ·exact⟨b,by simp,rfl⟩
 ·exact⟨c,by simp,rfl⟩
 ·exact⟨d,by simp,rfl⟩
def bit(y m:Int)(j:Nat):Bool:=Builtin.bitAnd (y/m/2^j) 1==1
theorem Af(us:List Str)(hl:us.length<=8)(sp:Str)(hs:sp∈us)(y m:Int)(h0:0<m)(h1:m<10^200)(x0 x2 x3 x4 x5 x6:Option S):∃ws:List Str,ws.length<=8/\sp∈ws/\jy [none,none,some 8,some 1] (gO (af (ai 7) (av))) (gT 2 (oo [0,1])) (BV (fB (f2 j8 (ai 1) (ai 2))) (fB (f2 j8 (f2 sB (f2 y9 (f2 dI (ai 3) (fC (.int m))) (ai 0)) (fC (.int 1))) (fC (.int 1))))) (ai 1) [x0,‹.int y›,x2,x3,x4,x5,x6,‹.lst (us.map .str)›,‹.str sp›]=.ok (.lst (ws.map .str)):=by
 have dm:=λi=>mj (i:=i) h0 h1;have en:uE [.lst (us.map .str)]=some ((us.zipIdx 0).map λp=>.tup [.int (p.2:Int),.str p.1]):=by
  show some (lK 0 (us.map .str))=_;rw[xY]
 refine⟨((us.zipIdx 0).filter λp=>(p.1==sp)||bit y m p.2).map (·.1),?_,?_,?_⟩
 ·rw[NW];refine Nq (PK _ _) ?_;rw[PL];exact hl
 ·obtain⟨j,hj,e⟩:=Ox hs;refine List.mem_map.mpr ⟨(sp,j),List.mem_filter.mpr ⟨?_,by simp⟩,rfl⟩;rw[List.mem_iff_getElem?];refine⟨j,?_⟩;rw[List.getElem?_zipIdx,Oq hj,e];simp
 ·refine eO (ds:=(us.zipIdx 0).map λp=>.tup [.int (p.2:Int),.str p.1]) (by simp! only[en]) (by rw[NW,PL];omega) ?_;refine Eq.trans (kX (ρ:=[none,none,‹.str sp›,‹.int y›]) (g:=gT 2 (oo [0,1])) (λp:Str×Nat=>D.tup [.int (p.2:Int),.str p.1]) (λp=>(p.1==sp)||bit y m p.2) (D.str∘λp:Str×Nat=>p.1) (us.zipIdx 0) λp _=>⟨[‹.int (p.2:Int)›,‹.str p.1›,‹.str sp›,‹.int y›],rfl,?_,?_⟩) (by rw[Ph])
  ·have sh:=DV (y/m) p.2;unfold bit;cases h:(p.1==sp)<;>simp! only[h,dm,sh,we,Bool.true_or,Bool.false_or]
  ·simp! only[];rfl
theorem vR(x:Int)(h0:0<=x)(h1:x<2147483700):∃c e:Kd,Mt c e/\bb dU 1 9 [.int x]=.ok (.tup [c.d,e.d]):=by
 obtain⟨y,y0,y1,ey⟩:=ip x h0 h1;have g2:=gm 2;have g3:=gm 3;have g4:=gm 4;have d3:=gd 3;have d12:=gd 12;have d48:=gd 48;have d200:=gd 200;have p7:j9 (.int y) (.int 7)=some (.int (y^7)):=vW y 7 (by decide) ‹0›;have pb:=FK;have gp:=λi=>fP (i:=i) (show(0:Int)<Bf by omega);obtain⟨lo,_,e1⟩:=EI 0 (-3) (0-y^7%Bf) (y^7%Bf) (x/3%4) ‹0› ‹0›;obtain⟨wd',hw,e2⟩:=EI 0 1 6 Bf (x/12%4) ‹0› ‹0›;obtain⟨ex,hx,e3⟩:=EI 0 2 9 Bf (x/48%4) ‹0› ‹0›;have w0:0<=wd':=by omega
 have x0:0<=ex:=by omega
 have gw:=λi=>fP (i:=i) (show(0:Int)<wd'+1 by omega);have f0:=PD (y^7) (show wd'+1≠0 by omega);have f1:=PF (y^7) (show 0<wd'+1 by omega);obtain⟨T,hT⟩:∃T:cG,T=(aH (jx (fB (f2 j8 (f2 cM (f2 dI (ai 0) (fC (.int 200))) (fC (.int 2))) (fC (.int 1)))) (bP (bF (af (ai 6) (af (ai 5) (av))))) (cB)) (bP (bF (af (ai 5) (af (ai 6) (av)))))):=⟨_,rfl⟩
 have fin:∀(c e:Kd)(x1 x2 x3 x4 x7 x8:Option S),Mt c e->∃c' e':Kd,Mt c' e'/\T K0 [‹.int x›,x1,x2,x3,x4,‹c.d›,‹e.d›,x7,x8]=.ok (.tup [c'.d,e'.d]):=λc e x1 x2 x3 x4 x7 x8 m=>by
  rw[hT];cases hb:(x/200%2==1)with
  |true=>exact⟨e,c,m.swap,by simp! only[d200,g2,hb,qw]⟩
  |false=>exact⟨c,e,m,by simp! only[d200,g2,hb,qw]⟩
 rw[pD];unfold dU;rw[<-hT];simp only[K0]at fin;cases h3:(x%3==2)with
 |false=>
  obtain⟨c',e',m,e⟩:=fin (.num lo (lo+wd')) (.num (lo+y^7%(wd'+1)) (lo+y^7%(wd'+1)+ex)) (‹.int y›) (‹.int lo›) (‹.int wd'›) (‹.int (y^7%(wd'+1))›) none none (HF f0 ‹0› x0);unfold Kd.d at e;refine⟨c',e',m,?_⟩;refine Eq.trans ?_ e;simp! only[ey,p7,yA,gp,Ii,d3,g4,e1,d12,e2,gw,GP,d48,e3,g3,h3]
 |true=>
  obtain⟨us,u1,u2,eu⟩:=yw (x/3);have ul:0<us.length:=by
   cases us with
   |nil=>exact absurd rfl u1
   |cons _ _=>simp
  have gu:=λi=>fP (i:=i) (show(0:Int)<(us.length:Int)by omega);have q1:=PD y (show(us.length:Int)≠0 by omega);have q2:=PF y (show(0:Int)<(us.length:Int)by omega);obtain⟨sp,hs,es⟩:∃sp∈us,aB (.lst (us.map .str)) (.int (y%(us.length:Int)))=some (.str sp):=by
   refine⟨us[(y%(us.length:Int)).toNat]'‹0›,O9 _,?_⟩;rw[Jy,vD,qR q1 q2];rfl
  obtain⟨A,a1,a2,ea⟩:=Af us u2 sp hs y 9 (by decide) (by decide) (‹.int x›) (‹.int lo›) (‹.int wd'›) (‹.int (y^7%(wd'+1))›) (‹.tup [.str "number",.int lo,.int (lo+wd')]›) (‹.tup [.str "number",.int (lo+y^7%(wd'+1)),.int (lo+y^7%(wd'+1)+ex)]›);obtain⟨B,b1,b2,eb⟩:=Af us u2 sp hs y 3000 (by decide) (by decide) (‹.int x›) (‹.int lo›) (‹.int wd'›) (‹.int (y^7%(wd'+1))›) (‹.tup [.str "word",.tup (A.map .str)]›) (‹.tup [.str "number",.int (lo+y^7%(wd'+1)),.int (lo+y^7%(wd'+1)+ex)]›);obtain⟨c',e',m,e⟩:=fin (.wrd A) (.wrd B) (‹.int y›) (‹.int lo›) (‹.int wd'›) (‹.int (y^7%(wd'+1))›) (‹.lst (us.map .str)›) (‹.str sp›) (Hm a2 b2 ‹0› ‹0›);unfold Kd.d at e;refine⟨c',e',m,?_⟩;refine Eq.trans ?_ e;simp! only[ey,p7,yA,gp,Ii,d3,g4,e1,d12,e2,gw,GP,d48,e3,g3,h3,eu,NW,gu,es,ea,eb,qw]
theorem wQ(x b:Int)(m:Nat)(h0:0<=x)(h1:x<2147483700)(hb:0<=b)(hm:m<=8):∃L:List ZP,L.length=m/\(∀q∈L,q.1.1=q.2.1/\Mt q.1.2 q.2.2/\∃j:Nat,j<m/\yp b j q.1.1)/\bb d9 3 7 [.int x,.int b,.int m]=.ok (.tup [.tup ((L.map (·.1)).map kf),.tup ((L.map (·.2)).map kf)]):=by
 have rn:=ku m ‹0›;obtain⟨T,hT⟩:∃T:cG,T=(iN 4 (iN 3 (bP (bF (af (fL cq (af (ai 3) (av))) (af (fL cq (af (ai 4) (av))) (av))))))):=⟨_,rfl⟩
 rw[n5];unfold d9;rw[<-hT];simp! only[HZ,rn];refine eL (Q:=λz=>∃L:List ZP,L.length=m/\(∀q∈L,q.1.1=q.2.1/\Mt q.1.2 q.2.2/\∃j:Nat,j<m/\yp b j q.1.1)/\z=.ok (.tup [.tup ((L.map (·.1)).map kf),.tup ((L.map (·.2)).map kf)]))
  (λi ρ=>∃(y:Int)(L:List ZP),0<=y/\y<2147483700/\L.length=i/\(∀q∈L,q.1.1=q.2.1/\Mt q.1.2 q.2.2/\∃j:Nat,j<m/\yp b j q.1.1)/\ρ=[‹.int y›,‹.int b›,‹.int m›,some (.own (.lst ((L.map (·.1)).map kf))),some (.own (.lst ((L.map (·.2)).map kf))),none,none]) ?_ ⟨x,[],h0,h1,rfl,(λ_ h=>nomatch h),rfl⟩ ?_
 ·rintro i d ρ kk hd ⟨y,L,y0,y1,ll,hq,rfl⟩;have hi:=du hd;rw[cX]at hi;have hdi:d=.int (i:Int):=by
   rw[ky,NT,OD hi]at hd;cases hd;simp
  subst hdi;obtain⟨y',y0',y1',ey⟩:=ip y y0 y1;obtain⟨c,e,mt,ek⟩:=vR y' y0' ‹0›;obtain⟨nm,en,hnm⟩:=Ah b (i:Int) hb ‹0›;have i0:aB (.tup [c.d,e.d]) (.int 0)=some c.d:=ox _ _;have i1:aB (.tup [c.d,e.d]) (.int 1)=some e.d:=rfl;have ap1:fE ((L.map (·.1)).map kf) [.tup [.str nm,c.d]]=some (((L++[((nm,c),(nm,e))]).map (·.1)).map kf):=by
   rw[lD (by rw[NW,NW];omega),OA,OA];rfl
  have ap2:fE ((L.map (·.2)).map kf) [.tup [.str nm,e.d]]=some (((L++[((nm,c),(nm,e))]).map (·.2)).map kf):=by
   rw[lD (by rw[NW,NW];omega),OA,OA];rfl
  refine⟨_,_,rfl,⟨y',L++[((nm,c),(nm,e))],y0',by omega,by rw[NV,N1];omega,λq hm=>?_,rfl⟩,?_⟩
  ·rcases List.mem_append.mp hm with z|z
   ·exact hq q z
   ·rw[List.mem_singleton.mp z];exact⟨rfl,mt,i,hi,hnm⟩
  ·generalize ((L++[((nm,c),(nm,e))]).map (·.1)).map kf=Y1 at ap1 ⊢;generalize ((L++[((nm,c),(nm,e))]).map (·.2)).map kf=Y2 at ap2 ⊢;generalize (L.map (·.1)).map kf=Z1 at ap1 ⊢;generalize (L.map (·.2)).map kf=Z2 at ap2 ⊢;have sm1:=λK:Ks=>lj 3 fE (af (bF (af (fR (bb bY 2 7) (af (ai 1) (af (ai 5) (av)))) (af (f2 aB (ai 6) (fC (.int 0))) (av)))) (av)) K [‹.int y'›,‹.int b›,‹.int m›,some (.own (.lst Z1)),some (.own (.lst Z2)),‹.int i›,‹.tup [c.d,e.d]›] (xs:=Z1) rfl;have sm2:=λK:Ks=>lj 4 fE (af (bF (af (fR (bb bY 2 7) (af (ai 1) (af (ai 5) (av)))) (af (f2 aB (ai 6) (fC (.int 1))) (av)))) (av)) K [‹.int y'›,‹.int b›,‹.int m›,some (.own (.lst Y1)),some (.own (.lst Z2)),‹.int i›,‹.tup [c.d,e.d]›] (xs:=Z2) rfl;simp! only[ey,ek,sm1,en,i0,qw,ap1,sm2,i1,ap2]
 ·rintro ρ' ⟨y,L,y0,y1,ll,hq,rfl⟩;rw[cX]at ll;refine⟨L,ll,hq,?_⟩;rw[hT];simp! only[qw]
theorem MY(a b c d e f g h:D)(i:Int)(h0:0<=i)(h1:i<8):∃x∈[a,b,c,d,e,f,g,h],aB (.lst [a,b,c,d,e,f,g,h]) (.int i)=some x:=by
 rcases(show i=0\/i=1\/i=2\/i=3\/i=4\/i=5\/i=6\/i=7 by omega)with z|z|z|z|z|z|z|z<;>subst z
 ·exact⟨a,by simp,rfl⟩
 ·exact⟨b,by simp,rfl⟩
 ·exact⟨c,by simp,rfl⟩
 ·exact⟨d,by simp,rfl⟩
 ·exact⟨e,by simp,rfl⟩
 ·exact⟨f,by simp,rfl⟩
 ·exact⟨g,by simp,rfl⟩
 ·exact⟨h,by simp,rfl⟩
theorem l2(a b:D):lJ [a,b]=some (.lst [a,b]):=nr rfl
theorem Lj(x e:Int)(e1:1<=e)(e8:e<=8):∃m:Nat,1<=m/\m<=8/\(m:Int)<=max 3 e/\aB (.lst [.int 1,.int 2,.int 1,.int 3,.int 2,.int 1,.int 2,.int e]) (.int (x%8))=some (.int (m:Int)):=by
 obtain⟨d,hd,ed⟩:=MY (.int 1) (.int 2) (.int 1) (.int 3) (.int 2) (.int 1) (.int 2) (.int e) (x%8) ‹0› ‹0›;obtain⟨m,rfl,h⟩:∃m:Nat,d=.int (m:Int)/\1<=m/\m<=8/\(m:Int)<=max 3 e:=by
  simp only[OM,PH,or_false]at hd;rcases hd with rfl|rfl|rfl|rfl|rfl|rfl|rfl|rfl
  ·exact⟨1,rfl,by omega⟩
  ·exact⟨2,rfl,by omega⟩
  ·exact⟨1,rfl,by omega⟩
  ·exact⟨3,rfl,by omega⟩
  ·exact⟨2,rfl,by omega⟩
  ·exact⟨1,rfl,by omega⟩
  ·exact⟨2,rfl,by omega⟩
  ·exact⟨e.toNat,by congr 1;omega,by omega⟩
 exact⟨m,h.1,h.2.1,h.2.2,ed⟩
theorem Iq(x:Int):∃dp:Nat,dp<=2/\aB (.lst [.int 0,.int 0,.int 1,.int 2]) (.int (x%4))=some (.int (dp:Int)):=by
 obtain⟨z,hz,ez⟩:=EI 0 0 1 2 (x%4) ‹0› ‹0›;rcases hz with rfl|rfl|rfl|rfl
 ·exact⟨0,by decide,ez⟩
 ·exact⟨0,by decide,ez⟩
 ·exact⟨1,by decide,ez⟩
 ·exact⟨2,by decide,ez⟩
theorem uz(dp:Nat)(hd:dp<=2)(x b st:Int)(r:Nat)(h0:0<=x)(h1:x<2147483700)(hb:0<=b)(hs:0<=st)(hr:r<=8):∃qs:List (Str×D),aU 20 [.int x,.int b,.int st,.int 0,.int r,.int dp]=.ok (.tup [.tup [],.tup (qs.map fld)])/\qs.length=r/\(∀q∈qs,KG dp q.2)/\∀(j:Nat)(w:Str),(qs.map (·.1))[j]?=some w->yp b (st+(j:Int)) w:=by
 obtain⟨ks,qs,e,k0,ql,_,hq,nm⟩:=Fo dp ‹0› x b st 0 r h0 h1 hb hs ‹0› hr
 have:=List.length_eq_zero_iff.mp k0
 subst this;exact⟨qs,e,ql,hq,nm⟩
theorem t0(a b:D):aB (.tup [a,b]) (.int 0)=some a:=rfl
theorem t1(a b:D):aB (.tup [a,b]) (.int 1)=some b:=rfl
theorem AD(ns:List Int):∃(L:List ZP)(r q:List (Str×D))(n:Nat),1<=L.length/\L.length<=8/\r.length+q.length<=8/\Ok L/\n<=2/\(∀f∈r,KG n f.2)/\(∀f∈q,KG n f.2)/\(∀w∈r.map (·.1),w∉q.map (·.1))/\bb cZ 1 8 [.lst (ns.map .int)]=.ok (.tup [fr (k1 L) r,fr (k2 L) q]):=by
 obtain⟨x,x0,x1,ex⟩:=vU ns 0 ‹0›;obtain⟨c1,e1⟩:=TD.J7 ns 1 (by decide);have ex:bb cQ 2 3 [.lst (ns.map .int),.int 0]=.ok (.int x):=ex;have mm:=λi=>qU (i:=i) (j:=48271) (by decide) (by decide);have gM:=gm 2147483647;have g4:=gm 4;have g8:=gm 8;have g9:=gm 9;have d8:=gd 8;have d32:=gd 32;have d64:=gd 64;have d512:=gd 512;have d2048:=gd 2048;obtain⟨b,hb,b0⟩:∃b:Int,c1*48271%2147483647=b/\0<=b:=⟨_,rfl,PD _ (by decide)⟩
 obtain⟨y,y0,y1,ey⟩:=ip x x0 ‹0›;obtain⟨m,m1,m8,_,em⟩:=Lj x (1+x/64%8) ‹0› ‹0›;obtain⟨L,ll,hq,ek⟩:=wQ y b m y0 ‹0› b0 m8;obtain⟨dp,dp2,ed⟩:=Iq (x/8);have l0:∀a b:D,aB (.lst [a,b]) (.int 0)=some a:=λ_ _=>rfl;have l1:∀a b:D,aB (.lst [a,b]) (.int 1)=some b:=λ_ _=>rfl;obtain⟨T,hT⟩:∃T:cG,T=(aH (bI 6 (f2 aB (fR (aU 20) (af (f2 bV (fR (bb aW 1 1) (af (ai 1) (av))) (fC (.int 1))) (af (ai 2) (af (fC (.int 8)) (af (fC (.int 0)) (af (f2 aB (ai 5) (fC (.int 0))) (af (ai 4) (av)))))))) (fC (.int 1)))) (aH (bI 7 (f2 aB (fR (aU 20) (af (f2 bV (fR (bb aW 1 1) (af (ai 1) (av))) (fC (.int 2))) (af (ai 2) (af (fC (.int 16)) (af (fC (.int 0)) (af (f2 aB (ai 5) (fC (.int 1))) (af (ai 4) (av)))))))) (fC (.int 1)))) (bP (bF (af (bF (af (f2 aB (ai 3) (fC (.int 0))) (af (ai 6) (av)))) (af (bF (af (f2 aB (ai 3) (fC (.int 1))) (af (ai 7) (av)))) (av))))))):=⟨_,rfl⟩
 have fin:∀(u v dp:Nat)(k5 k4:D),u+v<=8->dp<=2->k5=.lst [.int u,.int v]->k4=.int dp->∃(r q:List (Str×D)),r.length+q.length<=8/\(∀f∈r,KG dp f.2)/\(∀f∈q,KG dp f.2)/\(∀w∈r.map (·.1),w∉q.map (·.1))/\T K0 [‹.lst (ns.map .int)›,‹.int x›,‹.int b›,‹.tup [.tup ((L.map (·.1)).map kf),.tup ((L.map (·.2)).map kf)]›,‹k4›,‹k5›,none,none]=.ok (.tup [fr (k1 L) r,fr (k2 L) q]):=λu v dp k5 k4 h1 h2 e5 e4=>by
  subst e5 e4;obtain⟨r,er,rl,hr,n1⟩:=uz dp h2 (y+1) b 8 u ‹0› ‹0› b0 ‹0› ‹0›;obtain⟨q,eq,ql,hq',n2⟩:=uz dp h2 (y+2) b 16 v ‹0› ‹0› b0 ‹0› ‹0›;refine⟨r,q,by omega,hr,hq',λw h1 h2=>?_,?_⟩
  ·obtain⟨i,hi,ei⟩:=Ox h1;obtain⟨j,hj,ej⟩:=Ox h2;have a:=n1 i w (by rw[Oq hi,ei]);have c:=n2 j w (by rw[Oq hj,ej]);rw[NW]at hi hj
   have:=EW ‹0› ‹0› ‹0› ‹0› a c
   omega
  rw[hT];simp! only[ey,l0,l1,t0,t1,er,eq,qw]
 rw[pD];unfold cZ;rw[<-hT];simp only[K0]at fin;have ok:Ok L:=λz hz=>⟨(hq z hz).1,(hq z hz).2.1⟩
 cases h3:(x/32%8==3)with
 |true=>
  obtain⟨r,q,h1,h2,h4,h5,e⟩:=fin (x/512%9).toNat (8-x/512%9).toNat 0 (.lst [.int (x/512%9),.int (8-x/512%9)]) (.int 0) ‹0› (by decide) (by rw[PN ‹0›,PN ‹0›]) rfl;refine⟨L,r,q,0,by omega,by omega,h1,ok,by decide,h2,h4,h5,Eq.trans ?_ e⟩;simp! only[ex,e1,mm,gM,hb,ey,d64,g8,MN,em,ek,d8,g4,Ii,ed,d512,d2048,l2,d32,h3,g9]
 |false=>
  obtain⟨r,q,h1,h2,h4,h5,e⟩:=fin (x/512%4).toNat (x/2048%4).toNat dp (.lst [.int (x/512%4),.int (x/2048%4)]) (.int dp) ‹0› dp2 (by rw[PN ‹0›,PN ‹0›]) rfl;refine⟨L,r,q,dp,by omega,by omega,h1,ok,dp2,h2,h4,h5,Eq.trans ?_ e⟩;simp! only[ex,e1,mm,gM,hb,ey,d64,g8,MN,em,ek,d8,g4,Ii,ed,d512,d2048,l2,d32,h3]
section
open Classical
variable{τ:List Bool}{m:Nat}
theorem So.sub{L M:List (List D)}(h:So τ m M)(s:L.Sublist M):So τ m L:=
 ⟨h.t0,h.hm,λr hr=>h.sh r (s.subset hr),h.pw.sublist s,OH s.length_le h.ln⟩
noncomputable abbrev ak(m:Nat)(V:List (List D)):List (List Key×D):=V.map λr=>(kq (r.take m),D.tup r)
theorem C2{V:List (List D)}(h:So τ m V)(X:D)(hX:X=.lst (V.map .tup)\/X=.tup (V.map .tup)):bb gH 2 2 [.int m,X]=.ok (fh (ak m V)):=by
 have ln:=h.ln;have f2':jy [none,some 0] (bK (ai 1)) (gN 0) (dA) (bF (af (bD (ai 0) (bc) (ce (ai 1))) (af (ai 0) (av)))) [‹.int m›,‹X›]=.ok (.lst ((ak m V).map wy)):=by
  refine eO (ds:=V.map .tup) (by rcases hX with rfl|rfl<;>simp! only[]) (by rw[NW];omega) ?_;rw[Ph];refine iS D.tup _ V λr hr=>⟨[‹.tup r›,‹.int m›],rfl,rfl,?_⟩
  simp! only[gZ,qw];show _=Except.ok (D.tup [.tup ((kq (r.take m)).map bM),.tup r]);rw[wI (h.sh r hr)]
 have knd:((ak m V).map (·.1)).Nodup:=by
  rw[Ph];exact List.pairwise_map.mpr (List.Pairwise.imp_of_mem (λ{a b} ha hb ne e=>ne (y4 (h.sh a ha) (h.sh b hb) e)) h.pw)
 have gd:vx [.lst ((ak m V).map wy)]=some (fh (ak m V)):=by
  show(lw _).bind _=_;rw[xf];show(if small _ then _ else _)=_;rw[if_pos (dZ (by rw[NW];omega))];unfold CW;rw[zu _ [] knd];rfl
 rw[eG];unfold gH;generalize fh (ak m V)=Z at gd;simp! only[f2',gd]
theorem FQ{V:List (List D)}(h:So τ m V){f:List D}(zs:Sh τ f):jC (.tup f) (fh (ak m V))=some (.bl (!decide (f∈V.map λr=>r.take m))):=by
 show(nW (encK _) ((ak m V).map (·.2)) (.tup f)).bind xP=_;unfold nW;rw[oY];show((jT (.tup f)).bind λk=>some (D.bl ((ak m V).any λp=>decide (p.1=k)))).bind xP=_;have e:jT (.tup f)=some (kq f):=by
  conv=>lhs;rw[<-wI zs]
  exact cJ _
 rw[e];show some (D.bl (!((ak m V).any λp=>decide (p.1=kq f))))=_;congr 3;rw[Bool.eq_iff_iff,List.any_eq_true,decide_eq_true_iff];constructor
 ·rintro⟨p,hp,e⟩;obtain⟨a,ha,rfl⟩:=List.mem_map.mp hp;exact List.mem_map.mpr ⟨a,ha,y4 (h.sh a ha) zs (of_decide_eq_true e)⟩
 ·intro z;obtain⟨a,ha,e⟩:=List.mem_map.mp z;exact⟨_,List.mem_map.mpr ⟨a,ha,rfl⟩,decide_eq_true (by show kq (a.take m)=_;rw[show a.take m=f from e])⟩
theorem Iy{V:List (List D)}(h:So τ m V){f:List D}(zs:Sh τ f):yH (.tup f) (fh (ak m V))=some (.bl (decide (f∈V.map λr=>r.take m))):=by
 have:=FQ h zs
 have e:jC (.tup f) (fh (ak m V))=(yH (.tup f) (fh (ak m V))).bind xP:=rfl;rw[e]at this;cases hg:yH (.tup f) (fh (ak m V))with
 |none=>rw[hg]at this;cases this
 |some d=>
  rw[hg]at this;cases d with
  |bl b=>
   have this:some (D.bl (!b))=some (.bl (!decide (f∈V.map λr=>r.take m))):=this;injection this with this;injection this with this
   have:b=decide (f∈V.map λr=>r.take m):=by
    generalize decide (f∈V.map λr=>r.take m)=y at this;cases b<;>cases y<;>first|rfl|cases this
   rw[this]
  |_=>cases this
theorem Hu{V:List (List D)}(h:So τ m V){c:List D}(hc:c∈V):sF (fh (ak m V)) (.tup (c.take m))=some (.tup c):=by
 have knd:((ak m V).map (·.1)).Nodup:=by
  rw[Ph];exact List.pairwise_map.mpr (List.Pairwise.imp_of_mem (λ{a b} ha hb ne e=>ne (y4 (h.sh a ha) (h.sh b hb) e)) h.pw)
 have e:=C9 (ak m V) (kq (c.take m));rw[wI (h.sh c hc)]at e;rw[e];exact rT knd (List.mem_map.mpr ⟨c,hc,rfl⟩)
theorem JN:∀{V:List (List D)}{c:List D},V.Pairwise (λa b=>a.take m≠b.take m)->c∈V->V.filter (λx=>decide (x.take m=c.take m))=[c]
 |b::V,c,pw,hc=>by
  obtain⟨p1,p2⟩:=List.pairwise_cons.mp pw;rcases List.mem_cons.mp hc with e|e
  ·subst e;rw[O7 (by simp),List.filter_eq_nil_iff.mpr λx hx=>by simpa using(p1 x hx).symm]
  ·rw[O8 (by simpa using p1 c e),JN p2 e]
theorem J0{V T R F:List (List D)}(hF:F=T.filter λr=>!decide (r.take m∈V.map λr=>r.take m))(s:So τ m (V++F))(hT:∀r∈T,Sh τ (r.take m))(tl:T.length<64)(ri:Fk m R)(p:R.Perm (V++F))(Y:D)(hY:Y=.lst (T.map .tup)\/Y=.tup (T.map .tup)):bb fO 3 4 [.int m,.lst (V.map .tup),Y]=.ok (.tup (R.map .tup)):=by
 have hV:=s.sub (List.sublist_append_left V F);have b:=C2 hV (.lst (V.map .tup)) (.inl rfl);have ni:=λr (hr:r∈T)=>FQ hV (hT r hr);have sp:=s.prog ri p;have vl:=s.ln;rw[NV]at vl;generalize fh (ak m V)=Z at b ni;have lc3:jy [none,some 0,some 3] (bK (ai 2)) (gN 0) (fB (f2 jC (bD (ai 0) (bc) (ce (ai 1))) (ai 2))) (ai 0) [‹.int m›,‹.lst (V.map .tup)›,‹Y›,‹Z›]=.ok (.lst (F.map .tup)):=by
  refine eO (ds:=T.map .tup) (by rcases hY with rfl|rfl<;>simp! only[]) (by rw[NW];omega) ?_;rw[hF];refine vV (ρ:=[none,‹.int m›,‹Z›]) (g:=gN 0) (C:=fB (f2 jC (bD (ai 0) (bc) (ce (ai 1))) (ai 2))) (Fe:=ai 0) D.tup (λr=>!decide (r.take m∈V.map λr=>r.take m)) D.tup _ λr hr=>⟨[‹.tup r›,‹.int m›,‹Z›],rfl,?_,λ_=>rfl⟩
  have:=ni r hr
  simp! only[gZ,this]
 have ad:=B5 (V.map .tup) (F.map .tup) (by rw[NW,NW];omega);rw[<-OA]at ad;rw[n5];unfold fO;simp! only[b,lc3,Ht,ad,sp]
structure Tb(τ:List Bool)(m:Nat)(V:List (List D)):Prop where
 s:So τ m V
 ri:Fk m V
theorem Tb.of{V:List (List D)}(t0:τ≠[])(hm:m=τ.length)(sh:∀r∈V,Sh τ (r.take m))(ri:Fk m V)(ln:V.length<64):Tb τ m V:=⟨⟨t0,hm,sh,Hr sh ri,ln⟩,ri⟩
theorem Tb.map{V:List (List D)}(h:Tb τ m V)(g:List D->List D)(hg:∀r∈V,(g r).take m=r.take m):Tb τ m (V.map g):=
 Tb.of h.s.t0 h.s.hm (λr hr=>by
  obtain⟨a,ha,rfl⟩:=List.mem_map.mp hr;rw[hg a ha];exact h.s.sh a ha) (List.pairwise_map.mpr (List.Pairwise.imp_of_mem (λ{a b} ha hb e=>by rw[hg a ha,hg b hb];exact e) h.ri)) (by rw[NW];exact h.s.ln)
theorem Tb.nil{V:List (List D)}(h:Tb τ m V):Tb τ m []:=Tb.of h.s.t0 h.s.hm (λ_ h=>nomatch h) .nil (by decide)
theorem Jm{V:List (List D)}(h:Tb τ m V)(Y:D)(hY:Y=.lst []\/Y=.tup []):bb fO 3 4 [.int m,.lst (V.map .tup),Y]=.ok (.tup (V.map .tup)):=
 J0 (T:=[]) (F:=[]) rfl (by rw[NM];exact h.s) (λ_ h=>nomatch h) (by decide) h.ri (by rw[NM]) Y hY
theorem Jp{V:List (List D)}(h:Tb τ m V){e:Nat}(vl:∀r∈V,m<=r.length/\r.length<=100)(o q2:D){k:KL}{r:List (Str×D)}(hk:k.length=m)(he:m+r.length=e):
  bb fQ 4 10 [o,.tup [fr k r,q2],.tup [.tup [],.tup []],.tup (V.map .tup)]=.ok (.tup [.tup ((V.map (·.take e)).map .tup),.tup ((V.map λr=>r.take m++r.drop e).map .tup)]):=by
 have b:=C2 (h.nil).s (.tup []) (.inr rfl);have ln:=h.s.ln;have s1:=Jm (h.map (·.take e) λr _=>by rw[PP,Pq ‹0›]) (.lst []) (.inl rfl);have s2:=Jm (h.map (λr=>r.take m++r.drop e) λr hr=>by rw[PQ (by rw[NP];have:=vl r hr;omega),PP,Ot]) (.tup []) (.inr rfl);have he':(m:Int)+(r.length:Int)=((e:Nat):Int):=by omega
 have c8:∀a0 a1 a2 a4 a6 a7 a8 a9:Option S,jy [none,some 5] (bK (ai 3)) (gN 0) (dA) (bD (ai 0) (bc) (ce (ai 1))) [a0,a1,a2,‹.tup (V.map .tup)›,a4,‹.int e›,a6,a7,a8,a9]=.ok (.lst ((V.map (·.take e)).map .tup)):=λa0 a1 a2 a4 a6 a7 a8 a9=>by
  refine eO (ds:=V.map .tup) (by simp! only[]) (by rw[NW];omega) ?_;rw[Ph];refine iS D.tup _ V λr hr=>⟨[‹.tup r›,‹.int e›],rfl,rfl,?_⟩
  simp! only[gZ];rfl
 have c9:∀a0 a1 a2 a6 a7 a8 a9:Option S,jy [none,some 4,some 5] (bK (ai 3)) (gN 0) (dA) (f2 bV (bD (ai 0) (bc) (ce (ai 1))) (bD (ai 0) (ce (ai 2)) (bc))) [a0,a1,a2,‹.tup (V.map .tup)›,‹.int m›,‹.int e›,a6,a7,a8,a9]=.ok (.lst ((V.map λr=>r.take m++r.drop e).map .tup)):=λa0 a1 a2 a6 a7 a8 a9=>by
  refine eO (ds:=V.map .tup) (by simp! only[]) (by rw[NW];omega) ?_;rw[Ph];refine iS D.tup _ V λr hr=>⟨[‹.tup r›,‹.int m›,‹.int e›],rfl,rfl,?_⟩
  have ad:=fF (r.take m) (r.drop e) (by rw[NP,NY];have:=vl r hr;omega);simp! only[gZ,lR,ad];rfl
 rw[yG];unfold fQ;generalize fh (ak m [])=Z at b;have c7:∀a0 a1 a3 a4 a5 a7 a8 a9:Option S,jy [none,some 4,some 6] (bK (f2 aB (ai 2) (fC (.int 0)))) (gN 0) (fB (f2 jC (bD (ai 0) (bc) (ce (ai 1))) (ai 2))) (ai 0) [a0,a1,‹.tup [.tup [],.tup []]›,a3,a4,a5,‹Z›,a7,a8,a9]=.ok (.lst []):=λ_ _ _ _ _ _ _ _=>rfl;generalize (V.map λr=>r.take m++r.drop e).map D.tup=W2 at c9 s2 ⊢;generalize (V.map (·.take e)).map D.tup=W1 at c8 s1 ⊢;simp! only[t0,t1,NW,hk,he',b,c7,c8,s1,c9,s2,qw]
noncomputable def jr(m:Nat)(B:List (List D))(a:List D):List (List D):=(B.filter λc=>decide (c.take m=a.take m)).map λc=>a++c.drop m
noncomputable def jn(m:Nat)(A B:List (List D)):List (List D):=A.flatMap (jr m B)
theorem zT{B:List (List D)}(h:So τ m B){a:List D}{c:List D}(hc:c∈B)(e:c.take m=a.take m):jr m B a=[a++c.drop m]:=by
 unfold jr;rw[<-e,JN h.pw hc];rfl
theorem Ge{B:List (List D)}{a:List D}(e:a.take m∉B.map λr=>r.take m):jr m B a=[]:=by
 unfold jr;rw[List.filter_eq_nil_iff.mpr λc hc z=>e (List.mem_map.mpr ⟨c,hc,of_decide_eq_true z⟩)];rfl
theorem xr(f:List D->List (List D))(p:List D->Bool)(v:List D->D):∀A:List (List D),(∀a∈A,(p a=false/\f a=[])\/∃x,p a=true/\v a=.tup x/\f a=[x])->(A.filter p).map v=(A.flatMap f).map .tup
 |[],_=>rfl
 |a::A,h=>by
  have ih:=xr f p v A λx hx=>h x (Nv _ hx);rw[PR,OA,<-ih];rcases h a Nu with⟨e1,e2⟩|⟨x,e1,e2,e3⟩
  ·rw[O8 (by rw[e1];simp),e2];rfl
  ·rw[O7 e1,N3,e2,e3];rfl
theorem wg{A B:List (List D)}(hA:∀a∈A,Sh τ (a.take m))(al:A.length<64)(wa:∀a∈A,a.length<=100)(hB:So τ m B)(wb:∀c∈B,c.length<=100)(o q2:D){k:KL}{r:List (Str×D)}(hk:k.length=m):
  bb cy 3 5 [o,.tup [fr k r,q2],.tup [.tup (A.map .tup),.tup (B.map .tup)]]=.ok (.tup ((jn m A B).map .tup)):=by
 have b:=C2 hB (.tup (B.map .tup)) (.inr rfl);have ii:=λa (ha:a∈A)=>Iy hB (hA a ha);have dx:=λc (hc:c∈B)=>Hu hB hc;generalize fh (ak m B)=Z at b ii dx;have lc:∀a0 a1:Option S,jy [none,some 4,some 3] (bK (f2 aB (ai 2) (fC (.int 0)))) (gN 0) (fB (f2 yH (bD (ai 0) (bc) (ce (ai 2))) (ai 1))) (f2 bV (ai 0) (bD (f2 sF (ai 1) (bD (ai 0) (bc) (ce (ai 2)))) (ce (ai 2)) (bc))) [a0,a1,‹.tup [.tup (A.map .tup),.tup (B.map .tup)]›,‹.int m›,‹Z›]=.ok (.lst ((jn m A B).map .tup)):=λ_ _=>by
  refine eO (ds:=A.map .tup) (by simp! only[]) (by rw[NW];omega) ?_;have fo:=xr (jr m B) (λa=>decide (a.take m∈B.map λr=>r.take m)) (λa=>.tup ((jr m B a).headD [])) A λa ha=>by
   by_cases e:a.take m∈B.map λr=>r.take m
   ·obtain⟨c,hc,ec⟩:=List.mem_map.mp e;have ej:=zT hB hc (show c.take m=a.take m from ec);exact .inr ⟨a++c.drop m,decide_eq_true e,by rw[ej];rfl,ej⟩
   ·exact .inl ⟨decide_eq_false e,Ge e⟩
  unfold jn;rw[<-fo];refine vV (ρ:=[none,‹Z›,‹.int m›]) (g:=gN 0) (C:=fB (f2 yH (bD (ai 0) (bc) (ce (ai 2))) (ai 1))) (Fe:=f2 bV (ai 0) (bD (f2 sF (ai 1) (bD (ai 0) (bc) (ce (ai 2)))) (ce (ai 2)) (bc))) D.tup (λa=>decide (a.take m∈B.map λr=>r.take m)) (λa=>.tup ((jr m B a).headD [])) A λa ha=>⟨[‹.tup a›,‹Z›,‹.int m›],rfl,?_,λz=>?_⟩
  ·have:=ii a ha
   simp! only[gZ,this]
  ·obtain⟨c,hc,ec⟩:=List.mem_map.mp (of_decide_eq_true z);have ec:c.take m=a.take m:=ec;have dc:=dx c hc;rw[ec]at dc;have ad:=fF a (c.drop m) (by rw[NY];have:=wa a ha;have:=wb c hc;omega);rw[zT hB hc ec];simp! only[gZ,dc,lR,ad];rfl
 rw[n5];unfold cy;generalize (jn m A B).map D.tup=W at lc ⊢;simp! only[t0,t1,NW,hk,b,lc]
end
theorem Cu{i:Nat}{K:Ks}{ρ:aw}(h:Ia ρ=true):pV i K ρ=K.nx (ρ.set i (some (.nest (.lst [.lst [],.lst []])))):=by
 unfold pV;rw[if_pos h]
theorem Au{i c:Nat}{f:FX}{K:Ks}{ρ:aw}{xs ys:List D}{v:D}(h:ρ[i]?=some (some (.nest (.lst xs))))(hc:xs[c]?=some (.lst ys))(e:f ρ=.ok v)(l:ys.length<1000):qC i c f K ρ=K.nx (ρ.set i (some (.nest (.lst (xs.set c (.lst (ys++[v]))))))):=by
 unfold qC;rw[h];show(match xs[c]? with|some (.lst ys)=>_|_=>_)=_;rw[hc];show(Ds (f ρ)).bind _=_;rw[e];show(if small (ys.length+1)then _ else _)=_;rw[if_pos (dZ ‹0›)]
theorem M2(a b c d e:D):lJ [a,b,c,d,e]=some (.lst [a,b,c,d,e]):=nr rfl
section
variable{L:List ZP}{r q:List (Str×D)}{n:Nat}
theorem Ji(ok:Ok L)(x:Int):∃(K:KL)(b0 b1:Bool),K.length=L.length/\(∀p∈K,p.2.gd)/\K.map (·.2.b)=so L/\aB (.lst [.tup ((k1 L).map kf),.tup ((k2 L).map kf),.tup ((bk L).map kf),.tup ((bk L).map kf),.tup ((bk L).map kf)]) (.int (x%5))=some (.tup (K.map kf))/\Av (.int (x%5)) (.tup [.int 0,.int 2,.int 4])=some (.bl b0)/\Av (.int (x%5)) (.tup [.int 1,.int 3,.int 4])=some (.bl b1):=by
 have bl:(bk L).length=L.length:=by unfold bk;rw[NW]
 rcases(show x%5=0\/x%5=1\/x%5=2\/x%5=3\/x%5=4 by omega)with z|z|z|z|z<;>rw[z]
 ·exact⟨k1 L,true,false,NW _,Jx ok,Ni ok,rfl,by kernel_rfl,by kernel_rfl⟩
 ·exact⟨k2 L,false,true,NW _,IJ ok,Nc ok,rfl,by kernel_rfl,by kernel_rfl⟩
 ·exact⟨bk L,true,false,bl,wN ok,rfl,rfl,by kernel_rfl,by kernel_rfl⟩
 ·exact⟨bk L,false,true,bl,wN ok,rfl,rfl,by kernel_rfl,by kernel_rfl⟩
 ·exact⟨bk L,true,true,bl,wN ok,rfl,rfl,by kernel_rfl,by kernel_rfl⟩
def Rw(L:List ZP)(w:Nat)(a:List D):Prop:=a.length=L.length+w/\Sh (so L) (a.take L.length)/\∀v∈a,AL 4 v
structure Tw(L:List ZP)(w:Nat)(A:List (List D)):Prop where
 tb:Tb (so L) L.length A
 rw:∀a∈A,Rw L w a
theorem CO(l1:1<=L.length):so L≠[]:=λz=>by
 have:=congrArg List.length z
 rw[vQ,N7]at this;omega
theorem uC(l1:1<=L.length){w:Nat}(rows:List (List D))(h:∀a∈rows,Rw L w a)(hn:rows.length<64):∃A:List (List D),Tw L w A/\A.length<=rows.length/\bb bG 2 4 [.int L.length,.lst (rows.map .tup)]=.ok (.tup (A.map .tup)):=by
 obtain⟨t,et,ri,tm,tl⟩:=ub (σ:=so L) (kl:=L.length) (CO l1) (vQ L).symm rows (λa ha=>(h a ha).2.1) hn;exact⟨t,⟨Tb.of (CO l1) (vQ L).symm (λa ha=>(h a (tm a ha)).2.1) ri ‹0›,λa ha=>h a (tm a ha)⟩,tl,et⟩
theorem Br(ns:List Int)(l1:1<=L.length)(l8:L.length<=8)(r8:r.length<=8)(q8:q.length<=8)(ok:Ok L)(n2:n<=2)(hr:∀f∈r,KG n f.2)(hq:∀f∈q,KG n f.2)(M:Int)(M5:5<=M)(M50:M<=50):∃A B:List (List D),Tw L r.length A/\Tw L q.length B/\A.length<=M/\B.length<=M/\bb cR 5 12 [fr (k1 L) r,fr (k2 L) q,.lst (ns.map .int),.int 2,.int M]=.ok (.tup [.tup (A.map .tup),.tup (B.map .tup)]):=by
 have kb:=rH ok l8 [] (.tup (r.map fld)) (.tup (q.map fld));rw[NM]at kb;have kb:bb bB 2 5 [fr (k1 L) r,fr (k2 L) q]=.ok (.tup ((bk L).map kf)):=kb;obtain⟨N,hN,rn⟩:∃N:Nat,(N:Int)<=M/\∀e1 e2:Int,oV [.int (ns.length:Int),.int (2+5)]=some (.int e1)->rz [.int e1,.int (2+M)]=some (.int e2)->qT [.int 2,.int e2]=some (fN 2 N):=by
  refine⟨((if(2+M:Int)<(if(2+5:Int)>(ns.length:Int)then 2+5 else(ns.length:Int))then 2+M else(if(2+5:Int)>(ns.length:Int)then 2+5 else(ns.length:Int)))-2).toNat,?_,λe1 e2 h1 h2=>?_⟩
  ·split<;>split<;>omega
  ·rw[kZ]at h1;cases h1;rw[lV]at h2;cases h2;generalize he:(if(2+M:Int)<(if(2+5:Int)>(ns.length:Int)then 2+5 else(ns.length:Int))then 2+M else(if(2+5:Int)>(ns.length:Int)then 2+5 else(ns.length:Int)))=e;have e2:2<=e/\e<=60:=(by rw[<-he];split<;>split<;>omega);show(if okR 2&&okR e then some (fN 2 ((e-2).toNat))else none)=_;have o1:okR 2=true:=decide_eq_true ⟨by decide,by decide⟩;have o2:okR e=true:=decide_eq_true ⟨by omega,by omega⟩;rw[o1,o2];rfl
 have mx:=kZ (ns.length:Int) (2+5);have rn:=rn _ _ mx (lV _ _);have g5:=gm 5;have g7:=gm 7;have g2:=gm 2;have d5:=gd 5;have i0:aB (fr (k1 L) r) (.int 0)=some (.tup ((k1 L).map kf)):=rfl;have i1:aB (fr (k1 L) r) (.int 1)=some (.tup (r.map fld)):=rfl;have j0:aB (fr (k2 L) q) (.int 0)=some (.tup ((k2 L).map kf)):=rfl;have j1:aB (fr (k2 L) q) (.int 1)=some (.tup (q.map fld)):=rfl;have kL:(k1 L).length=L.length:=NW _;obtain⟨T,hT⟩:∃T:cG,T=(xo 6 (bP (bF (af (fR (bb bG 2 4) (af (fL iL (af (f2 aB (ai 0) (fC (.int 0))) (av))) (af (f2 aB (ai 6) (fC (.int 0))) (av)))) (af (fR (bb bG 2 4) (af (fL iL (af (f2 aB (ai 0) (fC (.int 0))) (av))) (af (f2 aB (ai 6) (fC (.int 1))) (av)))) (av)))))):=⟨_,rfl⟩
 rw[HH];unfold cR;rw[<-hT];generalize hF1:fr (k1 L) r=F1 at *;generalize hF2:fr (k2 L) q=F2 at *;have nw:=λK:Ks=>Cu (i:=6) (K:=K) (ρ:=[‹F1›,‹F2›,‹.lst (ns.map .int)›,‹.int 2›,‹.int M›,‹.tup ((bk L).map kf)›,none,none,none,none,none,none]) rfl;simp! only[kb,nw,NW,rn];refine eL (Q:=λz=>∃A B:List (List D),Tw L r.length A/\Tw L q.length B/\A.length<=M/\B.length<=M/\z=.ok (.tup [.tup (A.map .tup),.tup (B.map .tup)]))
  (λi ρ=>∃R0 R1:List (List D),R0.length<=i/\R1.length<=i/\(∀a∈R0,Rw L r.length a)/\(∀a∈R1,Rw L q.length a)/\ρ=[‹F1›,‹F2›,‹.lst (ns.map .int)›,‹.int 2›,‹.int M›,‹.tup ((bk L).map kf)›,some (.nest (.lst [.lst (R0.map .tup),.lst (R1.map .tup)])),none,none,none,none,none]) ?_ ⟨[],[],NB _,NB _,(λ_ h=>nomatch h),(λ_ h=>nomatch h),rfl⟩ ?_
 ·rintro i d ρ kk hd ⟨R0,R1,l0,l1',h0,h1,rfl⟩;have hi:=du hd;rw[cX]at hi;have hdi:d=.int ((2+i:Nat):Int):=by
   rw[ky,NT,OD hi]at hd;cases hd;simp
  subst hdi;obtain⟨x,x0,x1,ex⟩:=vU ns (2+i) ‹0›;obtain⟨y,y0,y1,ey⟩:=ip x x0 ‹0›;obtain⟨K,b0,b1,kl,kg,ks,ek,eb0,eb1⟩:=Ji ok x;obtain⟨h,hh0,hh1,eh⟩:∃h:Int,0<=h/\h<2147483700/\aB (.lst [.int y,.int (y%7)]) (.int (x/5%2))=some (.int h):=by
   rcases(show x/5%2=0\/x/5%2=1 by omega)with z|z<;>rw[z]
   ·exact⟨y,by omega,by omega,rfl⟩
   ·exact⟨y%7,by omega,by omega,rfl⟩
  obtain⟨vs,ev,v1,v2,v3⟩:=pN n n2 K [] ‹0› (by decide) kg (λ_ h=>nomatch h) (K.map kf) (by rw[NM,B2]) h hh0 hh1;have v1:vs.length=K.length+0:=v1;rw[Pm ‹0›]at v2;have vsh:=v2.sh;rw[ks]at vsh;obtain⟨us,eu,u1,_,u3⟩:=pN n n2 [] r (by decide) r8 (λ_ h=>nomatch h) hr (r.map fld) rfl (y+1) ‹0› ‹0›;have u1:us.length=0+r.length:=u1;obtain⟨ws,ew,w1,_,w3⟩:=pN n n2 [] q (by decide) q8 (λ_ h=>nomatch h) hq (q.map fld) rfl (y+2) ‹0› ‹0›;have w1:ws.length=0+q.length:=w1;have a1:=fF vs us ‹0›;have a2:=fF vs ws ‹0›;have rA:Rw L r.length (vs++us):=⟨by rw[NV];omega,by rw[List.take_left' ‹0›];exact vsh,λv hv=>(List.mem_append.mp hv).elim (v3 v) (u3 v)⟩
  have rB:Rw L q.length (vs++ws):=⟨by rw[NV];omega,by rw[List.take_left' ‹0›];exact vsh,λv hv=>(List.mem_append.mp hv).elim (v3 v) (w3 v)⟩
  have sn:∀{w:Nat}{R:List (List D)}{a:List D},(∀a∈R,Rw L w a)->Rw L w a->∀c∈R++[a],Rw L w c:=λh ha c hc=>by
   rcases List.mem_append.mp hc with z|z
   ·exact h c z
   ·rw[List.mem_singleton.mp z];exact ha
  have m0:(R0++[vs++us]).map D.tup=R0.map D.tup++[.tup (vs++us)]:=by rw[OA];rfl
  have m1:(R1++[vs++ws]).map D.tup=R1.map D.tup++[.tup (vs++ws)]:=by rw[OA];rfl
  have p0:=λ(K:Ks)(Y1:List D)=>Au (v:=.tup (vs++us)) (i:=6) (c:=0) (f:=f2 bV (ai 11) (fR (bb cO 2 2) (af (f2 aB (ai 0) (fC (.int 1))) (af (f2 bV (ai 10) (fC (.int 1))) (av))))) (K:=K) (ρ:=[‹F1›,‹F2›,‹.lst (ns.map .int)›,‹.int 2›,‹.int M›,‹.tup ((bk L).map kf)›,some (.nest (.lst [.lst (R0.map .tup),.lst Y1])),‹.int ((2+i:Nat):Int)›,‹.int x›,‹.int (x%5)›,‹.int y›,‹.tup vs›]) rfl rfl (by simp! only[i1,eu,a1]) (by rw[NW];omega);have p1:=λ(K:Ks)(Y0:List D)=>Au (v:=.tup (vs++ws)) (i:=6) (c:=1) (f:=f2 bV (ai 11) (fR (bb cO 2 2) (af (f2 aB (ai 1) (fC (.int 1))) (af (f2 bV (ai 10) (fC (.int 2))) (av))))) (K:=K) (ρ:=[‹F1›,‹F2›,‹.lst (ns.map .int)›,‹.int 2›,‹.int M›,‹.tup ((bk L).map kf)›,some (.nest (.lst [.lst Y0,.lst (R1.map .tup)])),‹.int ((2+i:Nat):Int)›,‹.int x›,‹.int (x%5)›,‹.int y›,‹.tup vs›]) rfl rfl (by simp! only[j1,ew,a2]) (by rw[NW];omega);rw[<-m0]at p0;rw[<-m1]at p1;refine⟨_,[‹F1›,‹F2›,‹.lst (ns.map .int)›,‹.int 2›,‹.int M›,‹.tup ((bk L).map kf)›,some (.nest (.lst [.lst ((if b0 then R0++[vs++us]else R0).map .tup),.lst ((if b1 then R1++[vs++ws]else R1).map .tup)])),none,none,none,none,none],rfl,⟨_,_,?_,?_,?_,?_,rfl⟩,?_⟩
  ·cases b0<;>simp<;>omega
  ·cases b1<;>simp<;>omega
  ·cases b0
   ·exact h0
   ·exact sn h0 rA
  ·cases b1
   ·exact h1
   ·exact sn h1 rB
  ·cases b0<;>cases b1<;>simp! only[ex,g5,ey,i0,j0,M2,ek,g7,l2,d5,g2,eh,ev,GP,eb0,eb1,p0,p1]
 ·rintro ρ' ⟨R0,R1,l0,l1',h0,h1,rfl⟩;rw[cX]at l0 l1';obtain⟨A,tA,la,ea⟩:=uC l1 R0 h0 ‹0›;obtain⟨B,tB,lb,eb⟩:=uC l1 R1 h1 ‹0›;refine⟨A,B,tA,tB,by omega,by omega,?_⟩;rw[hT];have fz:∀(G:cG)(K:Ks),xo 6 G K [‹F1›,‹F2›,‹.lst (ns.map .int)›,‹.int 2›,‹.int M›,‹.tup ((bk L).map kf)›,some (.nest (.lst [.lst (R0.map .tup),.lst (R1.map .tup)])),none,none,none,none,none]=G K [‹F1›,‹F2›,‹.lst (ns.map .int)›,‹.int 2›,‹.int M›,‹.tup ((bk L).map kf)›,‹.lst [.lst (R0.map .tup),.lst (R1.map .tup)]›,none,none,none,none,none]:=λ_ _=>rfl;simp! only[fz,i0,NW,ea,eb,qw]
end
abbrev jo:D:=.obj "Join" [] []
theorem mJ{w:Str}{g1 g2:List D->R D}{fo:FX}{fas:aw->R (List D)}{ρ:aw}{as:List D}(h:fo ρ=.ok jo)(ha:fas ρ=.ok as):eB w [("Pair",g1),("Join",g2)] fo fas ρ=g2 (jo::as):=by
 unfold eB;rw[h,eU];have h1:(("Join":Str)==("Pair":Str))=false:=by decide +kernel
 have hm:([]:List Str).contains w=false:=rfl
 have:List.lookup ("Join":Str) [(("Pair":Str),g1),(("Join":Str),g2)]=some g2:=by
  rw[Oc,h1,Oc,BEq.rfl]
 simp only[this,hm,ha,eU];rfl
section
open Classical
variable{L:List ZP}{r q:List (Str×D)}{n:Nat}
theorem Al(ok:Ok L)(l8:L.length<=8)(s8:r.length+q.length<=8)(dj:∀w∈r.map (·.1),w∉q.map (·.1))(o:D):bb bJ 3 5 [o,fr (k1 L) r,fr (k2 L) q]=.ok (fr (bk L) (r++q)):=by
 have sk:=Bg ok l8;have ad:=fF (r.map fld) (q.map fld) (by rw[NW,NW];omega);rw[<-OA]at ad;have n1:∀a0 a2 a3 a4:Option S,jy [none] (bK (f2 aB (ai 1) (fC (.int 1)))) (gN 0) (dA) (f2 aB (ai 0) (fC (.int 0))) [a0,‹fr (k1 L) r›,a2,a3,a4]=.ok (.lst ((r.map (·.1)).map .str)):=λ_ _ _ _=>by
  rw[Ph];exact Df fld _ r _ _ _ (by simp! only[]) ‹0› λ_ _=>rfl
 have n2:∀a0 a1 a3:Option S,jy [none,some 4] (bK (f2 aB (ai 2) (fC (.int 1)))) (gN 0) (dA) (f2 Av (f2 aB (ai 0) (fC (.int 0))) (ai 1)) [a0,a1,‹fr (k2 L) q›,a3,‹.lst ((r.map (·.1)).map .str)›]=.ok (.lst (q.map λ_=>.bl false)):=λ_ _ _=>by
  refine eO (ds:=q.map fld) (by simp! only[]) (by rw[NW];omega) ?_;refine iS (ρ:=[none,‹.lst ((r.map (·.1)).map .str)›]) (g:=gN 0) (C:=dA) fld _ q λz hz=>⟨[‹fld z›,‹.lst ((r.map (·.1)).map .str)›],rfl,rfl,?_⟩
  have ei:=Eu z.1 (r.map (·.1));have e:(r.map (·.1)).contains z.1=false:=by
   cases h:(r.map (·.1)).contains z.1 with
   |false=>rfl
   |true=>exact absurd (List.mem_map.mpr ⟨z,hz,rfl⟩) (dj z.1 (by simpa using h))
  have j0:aB (fld z) (.int 0)=some (.str z.1):=rfl;simp! only[j0,ei,e]
 have ga:BQ [.lst (q.map λ_=>.bl false)]=some (.bl false):=by
  have e:=Eh (q.map λ_=>false);rw[Ph,OZ,List.any_eq_false.mpr λ_ _=>by simp]at e;exact e
 have hs:decide ((r.length:Int)+(q.length:Int)>8)=false:=decide_eq_false ‹0›;have i0:aB (fr (k1 L) r) (.int 0)=some (.tup ((k1 L).map kf)):=rfl;have i1:aB (fr (k1 L) r) (.int 1)=some (.tup (r.map fld)):=rfl;have j0:aB (fr (k2 L) q) (.int 0)=some (.tup ((k2 L).map kf)):=rfl;have j1:aB (fr (k2 L) q) (.int 1)=some (.tup (q.map fld)):=rfl;generalize hF1:fr (k1 L) r=F1 at *;generalize hF2:fr (k2 L) q=F2 at *;rw[n5];unfold bJ;generalize (q.map λ_=>D.bl false)=W at *;simp! only[i0,j0,sk,n1,n2,ga,i1,j1,NW,hs,ad,qw]
theorem zL(ok:Ok L)(l8:L.length<=8)(s8:r.length+q.length<=8)(n2:n<=2)(hr:∀f∈r,KG n f.2)(hq:∀f∈q,KG n f.2):aG 20 [fr (bk L) (r++q),fr (bk L) (r++q)]=.ok (.bl true):=
 Ew 13 20 _ (by decide) (AB.le ‹0› (FZ (n:=4*n) (bk L) (r++q) (by unfold bk;rw[NW];exact l8) (by rw[NV];exact s8) (wN ok) λf hf=>FC n f.2 ((List.mem_append.mp hf).elim (hr f) (hq f))))
theorem v5{A:List (List D)}(al:A.length<=1000)(h:∀a∈A,a.length<=100/\∀v∈a,AL 4 v):AL 6 (.tup (A.map .tup)):=
 AL.tup (by rw[NW];omega) λy hy=>by
  obtain⟨a,ha,rfl⟩:=List.mem_map.mp hy;exact AL.tup (by have:=(h a ha).1;omega) (h a ha).2
theorem Hx{a b:D}(ha:AL 6 a)(hb:AL 6 b):AL 7 (.tup [a,b]):=
 AL.tup (by simp) λx hx=>by
  rcases List.mem_cons.mp hx with e|e
  ·rw[e];exact ha
  ·rw[List.mem_singleton.mp e];exact hb
theorem DM(m:Nat)(B:List (List D))(a:List D):(jr m B a).length<=B.length:=by
 unfold jr;rw[NW];exact PK _ _
theorem HL{m:Nat}{A B:List (List D)}{x:List D}(h:x∈jn m A B):∃a∈A,∃c∈B,x=a++c.drop m:=by
 obtain⟨a,ha,hx⟩:=List.mem_flatMap.mp h;obtain⟨c,hc,rfl⟩:=List.mem_map.mp hx;exact⟨a,ha,c,(List.mem_filter.mp hc).1,rfl⟩
theorem Ck{m:Nat}{B:List (List D)}:∀A:List (List D),(jn m A B).length<=A.length*B.length
 |[]=>NK _
 |a::A=>by
  have h1:=DM m B a;have h2:=Ck (m:=m) (B:=B) A;unfold jn at h2 ⊢;rw[PR,NV,N6,Nat.succ_mul];omega
theorem Dv{τ:List Bool}{m:Nat}{B P:List (List D)}{a:List D}(ha:Sh τ (a.take m))(al:a.length<=100)(hB:∀c∈B,Sh τ (c.take m)/\c.length<=100)(bl:B.length<64)(pl:P.length<=5000)(a0 a1 a2 a3 a8 a9:Option S):∃F:cG,F=(aH (jx (fB (f2 j8 (bD (ai 6) (bc) (ce (ai 4))) (bD (ai 7) (bc) (ce (ai 4))))) (ym 5 fE (af (f2 bV (ai 6) (bD (ai 7) (ce (ai 4)) (bc))) (av))) (cB)) (eP [7] cB))/\∀K:Ks,jX (gN 7) F K (B.map .tup) [a0,a1,a2,a3,‹.int m›,some (.own (.lst (P.map .tup))),‹.tup a›,none,a8,a9]=K.nx [a0,a1,a2,a3,‹.int m›,some (.own (.lst ((P++jr m B a).map .tup))),‹.tup a›,none,a8,a9]:=by
 refine⟨_,rfl,λK=>?_⟩;refine eL (Q:=λz=>z=K.nx [a0,a1,a2,a3,‹.int m›,some (.own (.lst ((P++jr m B a).map .tup))),‹.tup a›,none,a8,a9]) (λi ρ=>ρ=[a0,a1,a2,a3,‹.int m›,some (.own (.lst ((P++jr m (B.take i) a).map .tup))),‹.tup a›,none,a8,a9]) ?_ (by unfold jr;rw[Oh];simp) ?_
 ·rintro i d ρ kk hd rfl;have hi:=du hd;rw[NW]at hi;rw[NT,Oq hi]at hd;cases hd;obtain⟨hc,cl⟩:=hB B[i] (O9 hi);have eq:=Eg ha hc;have jl:=DM m (B.take i) a;rw[NP]at jl;have ad:=fF a (B[i].drop m) (by rw[NY];omega);by_cases e:a.take m=B[i].take m
  ·rw[decide_eq_true e]at eq;have st:P++jr m (B.take (i+1)) a=P++jr m (B.take i) a++[a++B[i].drop m]:=by
    unfold jr;rw[PJ hi,PV,O7 (by simpa using e.symm),OA,OI];rfl
   have ap:fE ((P++jr m (B.take i) a).map .tup) [.tup (a++B[i].drop m)]=some ((P++jr m (B.take (i+1)) a).map .tup):=by
    rw[lD (by rw[NW,NV];omega),st,OA (l₂:=[_])];rfl
   refine⟨[a0,a1,a2,a3,‹.int m›,some (.own (.lst ((P++jr m (B.take i) a).map .tup))),‹.tup a›,‹.tup B[i]›,a8,a9],_,rfl,rfl,?_⟩;have sm:=λK:Ks=>lj 5 fE (af (f2 bV (ai 6) (bD (ai 7) (ce (ai 4)) (bc))) (av)) K [a0,a1,a2,a3,‹.int m›,some (.own (.lst ((P++jr m (B.take i) a).map .tup))),‹.tup a›,‹.tup B[i]›,a8,a9] (xs:=(P++jr m (B.take i) a).map .tup) rfl;generalize (P++jr m (B.take (i+1)) a).map D.tup=Y1 at ap ⊢;generalize (P++jr m (B.take i) a).map D.tup=Y2 at ap sm ⊢;simp! only[gZ,eq,sm,lR,ad,ap]
  ·rw[decide_eq_false e]at eq;have st:jr m (B.take (i+1)) a=jr m (B.take i) a:=by
    unfold jr;rw[PJ hi,PV,O8 (by simpa using λz=>e z.symm),List.filter_nil,NM]
   rw[st];refine⟨[a0,a1,a2,a3,‹.int m›,some (.own (.lst ((P++jr m (B.take i) a).map .tup))),‹.tup a›,‹.tup B[i]›,a8,a9],_,rfl,rfl,?_⟩;generalize (P++jr m (B.take i) a).map D.tup=Y2;simp! only[gZ,eq]
 ·rintro ρ' rfl;rw[NW,Pm (NB _)]
theorem DG{τ:List Bool}{m:Nat}{A B:List (List D)}(hA:∀a∈A,Sh τ (a.take m)/\a.length<=100)(al:A.length<64)(hB:∀c∈B,Sh τ (c.take m)/\c.length<=100)(bl:B.length<64)(a0 a1 a2 a8 a9:Option S):∃F:cG,F=(aH (lu (bK (f2 aB (ai 3) (fC (.int 1)))) (gN 7) (aH (jx (fB (f2 j8 (bD (ai 6) (bc) (ce (ai 4))) (bD (ai 7) (bc) (ce (ai 4))))) (ym 5 fE (af (f2 bV (ai 6) (bD (ai 7) (ce (ai 4)) (bc))) (av))) (cB)) (eP [7] cB))) (eP [6,7] cB))/\∀K:Ks,jX (gN 6) F K (A.map .tup) [a0,a1,a2,‹.tup [.tup (A.map .tup),.tup (B.map .tup)]›,‹.int m›,some (.own (.lst [])),none,none,a8,a9]=K.nx [a0,a1,a2,‹.tup [.tup (A.map .tup),.tup (B.map .tup)]›,‹.int m›,some (.own (.lst ((jn m A B).map .tup))),none,none,a8,a9]:=by
 refine⟨_,rfl,λK=>?_⟩;refine eL (Q:=λz=>z=K.nx [a0,a1,a2,‹.tup [.tup (A.map .tup),.tup (B.map .tup)]›,‹.int m›,some (.own (.lst ((jn m A B).map .tup))),none,none,a8,a9]) (λi ρ=>ρ=[a0,a1,a2,‹.tup [.tup (A.map .tup),.tup (B.map .tup)]›,‹.int m›,some (.own (.lst ((jn m (A.take i) B).map .tup))),none,none,a8,a9]) ?_ (by unfold jn;rw[Oh];rfl) ?_
 ·rintro i d ρ kk hd rfl;have hi:=du hd;rw[NW]at hi;rw[NT,Oq hi]at hd;cases hd;obtain⟨ha,la⟩:=hA A[i] (O9 hi);have jl:=Ck (m:=m) (B:=B) (A.take i);rw[NP]at jl;have jl2:min i A.length*B.length<=63*63:=Nat.mul_le_mul ‹0› ‹0›;have st:jn m (A.take (i+1)) B=jn m (A.take i) B++jr m B A[i]:=by
   unfold jn;rw[PJ hi,List.flatMap_append];simp
  obtain⟨F,hF,inn⟩:=Dv (P:=jn m (A.take i) B) ha la hB bl ‹0› a0 a1 a2 (‹.tup [.tup (A.map .tup),.tup (B.map .tup)]›) a8 a9;rw[<-st]at inn;rw[<-hF];refine⟨_,_,rfl,rfl,?_⟩;generalize (jn m (A.take (i+1)) B).map D.tup=Y1 at inn ⊢;generalize (jn m (A.take i) B).map D.tup=Y2 at inn ⊢;simp! only[t1,inn]
 ·rintro ρ' rfl;rw[NW,Pm (NB _)]
end
abbrev VT:List (Str×(List D->R D)):=[("Pair",(bb cj 3 3)),("Join",(bb bJ 3 5))]
noncomputable abbrev PT:List (Str×(List D->R D)):=[("Pair",(bb ju 4 4)),("Join",(bb fQ 4 10))]
abbrev GT:List (Str×(List D->R D)):=[("Pair",(bb dB 3 3)),("Join",(bb cy 3 5))]
section
open Classical
variable{L:List ZP}{r q:List (Str×D)}{n:Nat}{τ:List Bool}{m:Nat}
theorem ut(f:List D->List (List D))(g:List D->List D):∀V:List (List D),(∀v∈V,f (g v)=[v])->(V.map g).flatMap f=V
 |[],_=>rfl
 |v::V,h=>by
  rw[N3,PR,h v Nu,ut f g V λx hx=>h x (Nv _ hx)];rfl
theorem za{v:List D}{e:Nat}(h:m<=v.length):(v.take m++v.drop e).take m=v.take m:=by
 rw[PQ (by rw[NP];omega),PP,Ot]
theorem D5{V:List (List D)}(h:Tb τ m V){e:Nat}(me:m<=e)(vl:∀v∈V,m<=v.length):jn m (V.map (·.take e)) (V.map λv=>v.take m++v.drop e)=V:=by
 have tB:=h.map (λv=>v.take m++v.drop e) λv hv=>za (vl v hv);unfold jn;refine ut (jr m _) (·.take e) V λv hv=>?_;rw[zT tB.s (List.mem_map.mpr ⟨v,hv,rfl⟩) (by rw[za (vl v hv),PP,Pq me]),List.drop_left' (by rw[NP];have:=vl v hv;omega),List.take_append_drop]
theorem B4(l1:1<=L.length)(l8:L.length<=8)(s8:r.length+q.length<=8)(ok:Ok L)(n2:n<=2)(hr:∀f∈r,KG n f.2)(hq:∀f∈q,KG n f.2)(dj:∀w∈r.map (·.1),w∉q.map (·.1))(x:Int)(x0:0<=x)(x1:x<2147483700):
  bb gJ 4 11 [jo,fr (k1 L) r,fr (k2 L) q,.int x]=.ok (.bl true):=by
 obtain⟨M,hM⟩:∃M,M=L.take 1:=⟨_,rfl⟩
 have ml:M.length=1:=by rw[hM,NP];omega
 have okM:Ok M:=λz hz=>ok z (PX (by rw[<-hM];exact hz));have hd:∀f∈q.drop 1,KG n f.2:=λf hf=>hq f (PY hf);have ql:(q.drop 1).length<=q.length:=by rw[NY];omega
 have djM:∀w∈(q.drop 1).map (·.1),w∉r.map (·.1):=λw h1 h2=>dj w h2 (by
  rw[List.map_drop]at h1;exact PY h1)
 have c1:cutD ((k1 L).map kf) none (some 1)=(k1 M).map kf:=by
  have:=gZ ((k1 L).map kf) 1
  rw[hM];unfold k1;rw[PZ,PZ];exact this
 have c3:cutD ((k2 L).map kf) none (some 1)=(k2 M).map kf:=by
  have:=gZ ((k2 L).map kf) 1
  rw[hM];unfold k2;rw[PZ,PZ];exact this
 have c2:cutD (q.map fld) (some 1) none=(q.drop 1).map fld:=by
  have:=lR (q.map fld) 1
  rw[List.map_drop];exact this
 have bl:(bk M).length=1:=by unfold bk;rw[NW,ml]
 have kb:=rH okM ‹0› [] (.tup ((q.drop 1).map fld)) (.tup (r.map fld));rw[NM]at kb;have ad:=fF ((q.drop 1).map fld) (r.map fld) (by rw[NW,NW];omega);rw[<-OA]at ad;obtain⟨V,ev,ri,vl,hv⟩:=zB n 17 (xD n 18 ‹0›) (bk M) (q.drop 1++r) ‹0› ‹0› (by rw[NV];omega) (wN okM) (λf hf=>(List.mem_append.mp hf).elim (hd f) (hr f)) x 4 x0 x1 (by decide);have ev:aJ 20 [fr (bk M) (q.drop 1++r),.int x,.int 4]=.ok (.tup (V.map .tup)):=ev;rw[bl]at ri hv;rw[NV]at hv;have tb:Tb (so M) 1 V:=Tb.of (CO ‹0›) (by rw[vQ,ml]) (λv h=>(hv v h).2.1.sh) ri ‹0›;have wl:∀v∈V,1<=v.length/\v.length<=100:=λv h=>by have:=(hv v h).1;omega
 obtain⟨e,he⟩:∃e,1+(q.drop 1).length=e:=⟨_,rfl⟩
 have kM:(k1 M).length=1:=by rw[NW,ml]
 have pt:=Jp tb wl jo (fr (k2 M) r) (k:=k1 M) (r:=q.drop 1) kM he;have vf:=Al okM ‹0› (show(q.drop 1).length+r.length<=8 by omega) djM jo;have al0:=zL okM ‹0› (show(q.drop 1).length+r.length<=8 by omega) n2 hd hr;have v4:∀v∈V,v.length<=100/\∀x∈v,AL 4 x:=λv h=>⟨(wl v h).2,λx hx=>AL.le ‹0› ((hv v h).2.2 x hx)⟩
 have aV:=v5 ‹0› v4;have a1:AL 6 (.tup ((V.map (·.take e)).map .tup)):=v5 (by rw[NW];omega) λa ha=>by
  obtain⟨v,h,rfl⟩:=List.mem_map.mp ha;exact⟨by rw[NP];have:=(v4 v h).1;omega,λx hx=>(v4 v h).2 x (PX hx)⟩
 have a2:AL 6 (.tup ((V.map λv=>v.take 1++v.drop e).map .tup)):=v5 (by rw[NW];omega) λa ha=>by
  obtain⟨v,h,rfl⟩:=List.mem_map.mp ha;refine⟨by rw[NV,NP,NY];have:=(v4 v h).1;omega,λx hx=>?_⟩;rcases List.mem_append.mp hx with z|z
  ·exact(v4 v h).2 x (PX z)
  ·exact(v4 v h).2 x (PY z)
 have al1:=kI 7 20 _ (by decide) (Hx a1 a2);have al2:=kI 6 20 _ (by decide) aV;have tA:=tb.map (·.take e) λv _=>by rw[PP,Pq ‹0›]
 have tB:=tb.map (λv=>v.take 1++v.drop e) λv h=>za (wl v h).1;have gt:=wg tA.s.sh tA.s.ln (λa ha=>by
  obtain⟨v,h,rfl⟩:=List.mem_map.mp ha;rw[NP];have:=(v4 v h).1;omega) tB.s (λa ha=>by
  obtain⟨v,h,rfl⟩:=List.mem_map.mp ha;rw[NV,NP,NY];have:=(v4 v h).1;omega) jo (fr (k2 M) r) (k:=k1 M) (r:=q.drop 1) kM
 rw[D5 tb ‹0› λv h=>(wl v h).1]at gt;have he':(1:Int)+((q.drop 1).length:Int)=((e:Nat):Int):=by omega
 have lc1:∀a0 a1 a2 a3 a4 a5 a6 a8 a10:Option S,jy [none,some 9] (bK (ai 7)) (gN 0) (dA) (bD (ai 0) (bc) (ce (ai 1))) [a0,a1,a2,a3,a4,a5,a6,‹.tup (V.map .tup)›,a8,‹.int e›,a10]=.ok (.lst ((V.map (·.take e)).map .tup)):=λ_ _ _ _ _ _ _ _ _=>by
  refine eO (ds:=V.map .tup) (by simp! only[]) (by rw[NW];omega) ?_;rw[Ph];refine iS D.tup _ V λv h=>⟨[‹.tup v›,‹.int e›],rfl,rfl,?_⟩
  simp! only[gZ];rfl
 have ct1:∀v:List D,cutD v none (some 1)=v.take 1:=λv=>gZ v 1;have lc2:∀a0 a1 a2 a3 a4 a5 a6 a8 a10:Option S,jy [none,some 9] (bK (ai 7)) (gN 0) (dA) (f2 bV (bD (ai 0) (bc) (ce (fC (.int 1)))) (bD (ai 0) (ce (ai 1)) (bc))) [a0,a1,a2,a3,a4,a5,a6,‹.tup (V.map .tup)›,a8,‹.int e›,a10]=.ok (.lst ((V.map λv=>v.take 1++v.drop e).map .tup)):=λ_ _ _ _ _ _ _ _ _=>by
  refine eO (ds:=V.map .tup) (by simp! only[]) (by rw[NW];omega) ?_;rw[Ph];refine iS D.tup _ V λv h=>⟨[‹.tup v›,‹.int e›],rfl,rfl,?_⟩
  have ad:=fF (v.take 1) (v.drop e) (by rw[NP,NY];have:=(wl v h).2;omega);simp! only[ct1,lR,ad];rfl
 have i0:aB (fr (k1 L) r) (.int 0)=some (.tup ((k1 L).map kf)):=rfl;have i1:aB (fr (k1 L) r) (.int 1)=some (.tup (r.map fld)):=rfl;have j0:aB (fr (k2 L) q) (.int 0)=some (.tup ((k2 L).map kf)):=rfl;have j1:aB (fr (k2 L) q) (.int 1)=some (.tup (q.map fld)):=rfl;have ql':((q.drop 1).map fld).length=(q.drop 1).length:=NW _;generalize fr (k1 L) r=F1 at i0 i1 ⊢;generalize fr (k2 L) q=F2 at j0 j1 ⊢;unfold fr at ev pt vf al0 gt;generalize (V.map λv=>v.take 1++v.drop e).map D.tup=W2 at *;generalize (V.map (·.take e)).map D.tup=W1 at *;generalize V.map D.tup=WV at *;generalize (q.drop 1++r).map fld=QR at *;generalize (q.drop 1).map fld=QD at *;generalize r.map fld=RD at *;generalize (bk M).map kf=BK at *;generalize (k1 M).map kf=K1 at *;generalize (k2 M).map kf=K2 at *;have m6:∀a1 a2 a3 a6 a7 a8 a9 a10:Option S,eB "view_form" VT (ai 0) (af (ai 4) (af (ai 5) (av))) [‹jo›,a1,a2,a3,‹.tup [.tup K1,.tup QD]›,‹.tup [.tup K2,.tup RD]›,a6,a7,a8,a9,a10]=.ok (.tup [.tup BK,.tup QR]):=λ_ _ _ _ _ _ _ _=>(mJ rfl (by simp! only[])).trans vf;have m8:∀a1 a2 a3 a6 a8 a9 a10:Option S,eB "put" PT (ai 0) (af (bF (af (ai 4) (af (ai 5) (av)))) (af (bF (af (bF (av)) (af (bF (av)) (av)))) (af (ai 7) (av)))) [‹jo›,a1,a2,a3,‹.tup [.tup K1,.tup QD]›,‹.tup [.tup K2,.tup RD]›,a6,‹.tup WV›,a8,a9,a10]=.ok (.tup [.tup W1,.tup W2]):=λ_ _ _ _ _ _ _=>(mJ rfl (by simp! only[qw,Jd])).trans pt;have m10:∀a1 a2 a3 a6 a7 a8 a9:Option S,eB "got" GT (ai 0) (af (bF (af (ai 4) (af (ai 5) (av)))) (af (ai 10) (av))) [‹jo›,a1,a2,a3,‹.tup [.tup K1,.tup QD]›,‹.tup [.tup K2,.tup RD]›,a6,a7,a8,a9,‹.tup [.tup W1,.tup W2]›]=.ok (.tup WV):=λ_ _ _ _ _ _ _=>(mJ rfl (by simp! only[qw])).trans gt;rw[yG];unfold gJ;simp! only[i0,c1,j1,c2,qw,j0,c3,i1,kb,t1,ad,ev,m6,al0,m8,ql',he',lc1,lc2,al1,m10,al2,Bool.and_self]
end
section
open Classical
variable{τ:List Bool}{m:Nat}
theorem HK{B:List (List D)}(h:So τ m B)(a:List D):(jr m B a).length<=1:=by
 by_cases e:a.take m∈B.map λr=>r.take m
 ·obtain⟨c,hc,ec⟩:=List.mem_map.mp e;rw[zT h hc (show c.take m=a.take m from ec)];exact NB _
 ·rw[Ge e];exact NK _
theorem Gi{B:List (List D)}(h:So τ m B):∀A:List (List D),(jn m A B).length<=A.length
 |[]=>NB _
 |a::A=>by
  have h1:=HK h a;have h2:=Gi h A;unfold jn at h2 ⊢;rw[PR,NV,N6];omega
theorem GN(A:List (List D)):jn m A []=[]:=by
 unfold jn;exact List.flatMap_eq_nil_iff.mpr λa _=>rfl
end
theorem math(ns:List Int)(hl:ns.length<=63):bb sG 1 10 [.lst (ns.map .int)]=.ok (.bl true):=by
 obtain⟨L,r,q,n,l1,l8,s8,ok,n2,hr,hq,dj,ej⟩:=AD ns;obtain⟨A,B,tA,tB,la,lb,et⟩:=Br ns l1 l8 ‹0› ‹0› ok n2 hr hq 50 (by decide) (by decide);have wA:∀a∈A,a.length<=100:=λa h=>by have:=(tA.rw a h).1;omega
 have wB:∀a∈B,a.length<=100:=λa h=>by have:=(tB.rw a h).1;omega
 have kb:=rH ok l8 [] (.tup (r.map fld)) (.tup (q.map fld));rw[NM]at kb;have kb:bb bB 2 5 [fr (k1 L) r,fr (k2 L) q]=.ok (.tup ((bk L).map kf)):=kb;have ad:=fF (r.map fld) (q.map fld) (by rw[NW,NW];omega);rw[<-OA]at ad;have vf:=Al ok l8 s8 dj jo;have al0:=zL ok l8 s8 n2 hr hq;have kL:(k1 L).length=L.length:=NW _;have g0:=wg tA.tb.s.sh tA.tb.s.ln wA tB.tb.s wB jo (fr (k2 L) q) (k:=k1 L) (r:=r) kL;have g1:=wg tA.tb.s.sh tA.tb.s.ln wA tB.tb.nil.s (λ_ h=>nomatch h) jo (fr (k2 L) q) (k:=k1 L) (r:=r) kL;have g2:=wg (A:=[]) (λ_ h=>nomatch h) (by decide) (λ_ h=>nomatch h) tB.tb.s wB jo (fr (k2 L) q) (k:=k1 L) (r:=r) kL;rw[GN]at g1;have g1:bb cy 3 5 [jo,.tup [fr (k1 L) r,fr (k2 L) q],.tup [.tup (A.map .tup),.tup []]]=.ok (.tup []):=g1;have g2:bb cy 3 5 [jo,.tup [fr (k1 L) r,fr (k2 L) q],.tup [.tup [],.tup (B.map .tup)]]=.ok (.tup []):=g2;have al1:=kI 6 20 _ (by decide) (v5 (A:=jn L.length A B) (by have:=Gi tB.tb.s A;have:=tA.tb.s.ln;omega) λx hx=>by
  obtain⟨a,ha,c,hc,rfl⟩:=HL hx;refine⟨by rw[NV,NY];have:=(tA.rw a ha).1;have:=(tB.rw c hc).1;omega,λv hv=>?_⟩;rcases List.mem_append.mp hv with z|z
  ·exact(tA.rw a ha).2.2 v z
  ·exact(tB.rw c hc).2.2 v (PY z))
 obtain⟨x,x0,x1,ex⟩:=vU ns 2 ‹0›;have ex:bb cQ 2 3 [.lst (ns.map .int),.int 2]=.ok (.int x):=ex;have ag:=B4 l1 l8 s8 ok n2 hr hq dj x x0 ‹0›;have wd:bb fm 1 1 [jo]=.ok (.tup [.str "join"]):=by kernel_rfl
 have al2:aG 20 [.tup [.str "join"],.tup [.str "join"]]=.ok (.bl true):=kI 1 20 _ (by decide) (AL.tup (by simp) λx hx=>by rw[List.mem_singleton.mp hx];exact .inr ⟨_,rfl⟩);have nn:wf (.tup []) (.tup [])=some (.bl false):=by kernel_rfl
 obtain⟨F,hF,lp⟩:=DG (A:=A) (B:=B) (m:=L.length) (τ:=so L) (λa h=>⟨tA.tb.s.sh a h,wA a h⟩) tA.tb.s.ln (λa h=>⟨tB.tb.s.sh a h,wB a h⟩) tB.tb.s.ln (‹.lst (ns.map .int)›) (‹fr (k1 L) r›) (‹fr (k2 L) q›) none none;have un2:∀(a b:D)(ρ:aw),gT 2 (oo [1,2]) (.tup [a,b]) ρ=some (setV 2 b (setV 1 a ρ)):=λ_ _ _=>rfl;have evU:∀(f:FX)(g:GF)(k:Ks)(ρ:aw),EF f g k ρ=tx (f ρ) k ρ λd=>(rO (g d ρ)).bind k.nx:=λ_ _ _ _=>rfl;have i0:aB (fr (k1 L) r) (.int 0)=some (.tup ((k1 L).map kf)):=rfl;have i1:aB (fr (k1 L) r) (.int 1)=some (.tup (r.map fld)):=rfl;have j1:aB (fr (k2 L) q) (.int 1)=some (.tup (q.map fld)):=rfl;rw[pD];unfold sG;rw[<-hF];generalize fr (k1 L) r=F1 at *;generalize fr (k2 L) q=F2 at *;unfold fr at vf al0;generalize (jn L.length A B).map D.tup=WJ at *;generalize A.map D.tup=WA at *;generalize B.map D.tup=WB at *;generalize (r++q).map fld=RQ at *;generalize (bk L).map kf=BK at *;have m1:∀a0 a3 a4 a5 a6 a7 a9:Option S,eB "view_form" VT (ai 8) (af (ai 1) (af (ai 2) (av))) [a0,‹F1›,‹F2›,a3,a4,a5,a6,a7,‹jo›,a9]=.ok (.tup [.tup BK,.tup RQ]):=λ_ _ _ _ _ _ _=>(mJ rfl (by simp! only[])).trans vf;have m2:∀a0 a1 a2 a3 a4 a5 a6 a7 a9:Option S,eB "words" [("Pair",(bb gx 1 1)),("Join",(bb fm 1 1))] (ai 8) av [a0,a1,a2,a3,a4,a5,a6,a7,‹jo›,a9]=.ok (.tup [.str "join"]):=λ_ _ _ _ _ _ _ _ _=>(mJ rfl rfl).trans wd;have m3:∀a0 a4 a5 a6 a7 a9:Option S,eB "got" GT (ai 8) (af (bF (af (ai 1) (af (ai 2) (av)))) (af (bF (af (f2 aB (ai 3) (fC (.int 0))) (af (bF (av)) (av)))) (av))) [a0,‹F1›,‹F2›,‹.tup [.tup WA,.tup WB]›,a4,a5,a6,a7,‹jo›,a9]=.ok (.tup []):=λ_ _ _ _ _ _=>(mJ rfl (by simp! only[t0,qw,Jd])).trans g1;have m4:∀a0 a4 a5 a6 a7 a9:Option S,eB "got" GT (ai 8) (af (bF (af (ai 1) (af (ai 2) (av)))) (af (bF (af (bF (av)) (af (f2 aB (ai 3) (fC (.int 1))) (av)))) (av))) [a0,‹F1›,‹F2›,‹.tup [.tup WA,.tup WB]›,a4,a5,a6,a7,‹jo›,a9]=.ok (.tup []):=λ_ _ _ _ _ _=>(mJ rfl (by simp! only[t1,qw,Jd])).trans g2;have m5:∀a0 a4 a5 a6 a7 a9:Option S,eB "got" GT (ai 8) (af (bF (af (ai 1) (af (ai 2) (av)))) (af (ai 3) (av))) [a0,‹F1›,‹F2›,‹.tup [.tup WA,.tup WB]›,a4,a5,a6,a7,‹jo›,a9]=.ok (.tup WJ):=λ_ _ _ _ _ _=>(mJ rfl (by simp! only[qw])).trans g0;simp! only[evU,ej,un2,et,i0,NW,kL,HZ,t0,lp,kb,i1,j1,ad,qw,m1,al0,m2,M0,al2,m3,Jd,nn,m4,m5,al1,ex,ag]
end Tk50
open PySem PySem.W PyProof.Rows
theorem PySem.W.Fast.tw466269206230473530 : True := trivial
theorem PySem.W.Fast.tw13805510078329192068 : True := trivial
theorem PySem.W.Fast.tw10116334228530756433 : True := trivial
theorem PySem.W.Fast.tw12597058914829733873 : True := trivial
theorem PySem.W.Fast.tw8785541869498158947 : True := trivial
theorem PySem.W.Fast.tw1779093083962881242 : True := trivial
theorem PySem.W.Fast.tw17505441013073546450 : True := trivial
theorem PySem.W.Fast.tw8818518369623676849 : True := trivial
theorem PySem.W.Fast.tw11002009963376261864 : True := trivial
theorem PySem.W.Fast.tw14640228739266511186 : True := trivial
theorem PySem.W.Fast.tw4302065962390295667 : True := trivial
theorem PySem.W.Fast.tw14715463732425223838 : True := trivial
theorem PySem.W.Fast.tw13114176816667053496 : True := trivial
theorem PySem.W.Fast.tw16504631360763373851 : True := trivial
theorem PySem.W.Fast.tw3366817567875459470 : True := trivial
theorem PySem.W.Fast.tw2174609320001921941 : True := trivial
theorem PySem.W.Fast.tw15126402385447565303 : True := trivial
theorem PySem.W.Fast.tw12886259517910434766 : True := trivial
theorem PySem.W.Fast.tw7664004301586887140 : True := trivial
theorem PySem.W.Fast.tw10857889555261155206 : True := trivial
theorem PySem.W.Fast.tw13641597665973349116 : True := trivial
theorem PySem.W.Fast.tw13643166642943155584 : True := trivial
theorem PySem.W.Fast.tw11006077784153993616 : True := trivial
theorem PySem.W.Fast.tw14024047612507319751 : True := trivial
theorem PySem.W.Fast.tw12056325738689584477 : True := trivial
theorem PySem.W.Fast.tw12955590416370299380 : True := trivial
theorem PySem.W.Fast.tw827007141945716409 : True := trivial
theorem PySem.W.Fast.tw15934668622324538786 : True := trivial
theorem PySem.W.Fast.tw14341078494887751159 : True := trivial
theorem PySem.W.Fast.tw2609758217488650947 : True := trivial
theorem PySem.W.Fast.tw6126996910350132642 : True := trivial
theorem PySem.W.Fast.tw4904076780508699606 : True := trivial
theorem PySem.W.Fast.tw15030868529616339383 : True := trivial
theorem PySem.W.Fast.tw15231081940701357889 : True := trivial
theorem PySem.W.Fast.tw3803524304120889579 : True := trivial
theorem PySem.W.Fast.tw3707735662485720957 : True := trivial
theorem PySem.W.Fast.tw4296029056435327130 : True := trivial
theorem PySem.W.Fast.tw10033095087236600461 : True := trivial
theorem PySem.W.Fast.tw1798989051149840382 : True := trivial
theorem PySem.W.Fast.tw14540827311074344506 : True := trivial
theorem PySem.W.Fast.tw11715704497447655804 : True := trivial
theorem PySem.W.Fast.tw8216414391506742313 : True := trivial
theorem PySem.W.Fast.tw1561791117303997729 : True := trivial
theorem PySem.W.Fast.tw3231465109930303089 : True := trivial
theorem PySem.W.Fast.tw14102647465989170771 : True := trivial
theorem PySem.W.Fast.tw13380139502311267749 : True := trivial
theorem PySem.W.Fast.tw13416954405344615813 : True := trivial
theorem PySem.W.Fast.tw10622324004040320703 : True := trivial
theorem PySem.W.Fast.tw9946227680789865162 : True := trivial
theorem PySem.W.Fast.tw11451755800647024509 : True := trivial
theorem PySem.W.Fast.tw5511503390803310393 : True := trivial
theorem PySem.W.Fast.tw2843665597506214487 : True := trivial
theorem PySem.W.Fast.tw14480278317606077521 : True := trivial
theorem PySem.W.Fast.tw13958252787858574569 : True := trivial
theorem PySem.W.Fast.tw16546303243295950136 : True := trivial
theorem PySem.W.Fast.tw8013445636193330550 : True := trivial
theorem PySem.W.Fast.tw10622636923930694508 : True := trivial
theorem PySem.W.Fast.tw664842105104226769 : True := trivial
theorem PySem.W.Fast.tw8873328677549179740 : True := trivial
theorem PySem.W.Fast.tw14999217620820402011 : True := trivial
theorem PySem.W.Fast.tw8414356979205753099 : True := trivial
theorem PySem.W.Fast.tw8237527214784502435 : True := trivial
theorem PySem.W.Fast.tw2078850779510357402 : True := trivial
theorem PySem.W.Fast.tw12418303616055560357 : True := trivial
theorem PySem.W.Fast.tw10284813946129959295 : True := trivial
theorem PySem.W.Fast.tw16919677236277790270 : True := trivial
theorem PySem.W.Fast.tw6588911504469730787 : True := trivial
theorem PySem.W.Fast.tw9346893046947137975 : True := trivial
theorem PySem.W.Fast.tw7184677372358564447 : True := trivial
theorem PySem.W.Fast.tw17470483219008301309 : True := trivial
theorem PySem.W.Fast.tw11671663347333312409 : True := trivial
theorem PySem.W.Fast.tw7247875876491534773 : True := trivial
theorem PySem.W.Fast.tw9687802986522330999 : True := trivial
theorem PySem.W.Fast.tw7620534602143011834 : True := trivial
theorem PySem.W.Fast.tw17269758985231963499 : True := trivial
theorem PySem.W.Fast.tw3510003369036710791 : True := trivial
theorem PySem.W.Fast.tw10519352947067782086 : True := trivial
theorem PySem.W.Fast.tw11668956421228506017 : True := trivial
theorem PySem.W.Fast.tw7564590671743882104 : True := trivial
theorem PySem.W.Fast.tw2704543324622046071 : True := trivial
theorem PySem.W.Fast.tw501072458929270546 : True := trivial
theorem PySem.W.Fast.tw11641128514299449706 : True := trivial
theorem PySem.W.Fast.tw4385297270678475078 : True := trivial
theorem PySem.W.Fast.tw1708808061392095529 : True := trivial
theorem PySem.W.Fast.tw10264466760569132094 : True := trivial
theorem PySem.W.Fast.tw3759015270594469077 : True := trivial
theorem PySem.W.Fast.tw4768333214175575742 : True := trivial
theorem PySem.W.Fast.tw6979837088636826434 : True := trivial
theorem PySem.W.Fast.tw5545730439292962837 : True := trivial
theorem PySem.W.Fast.tw6499016564549963948 : True := trivial
theorem PySem.W.Fast.tw3965194747629967352 : True := trivial
set_option maxRecDepth 100000 in
set_option maxHeartbeats 0 in
theorem PySem.Challenge.cw_twoglass_k50_joined_holds : PySem.Challenge.rw_twoglass_k50_joined.Holds := by
  w_on; o_law; k_head; (case hw => w_witness2)
  k_fill
  refine Tk50.walk (l := PySem.Challenge.rw_twoglass_k50_joined) rfl rfl (fun w h Y => ⟨PySem.W.km_in_of Y, PySem.W.km_tabs_of Y _ (List.Mem.head _)⟩) ?F Tk50.math
  case F =>
    intro w mg fa h KX G hmg
    refine' Tk50.all_mk KX G hmg ?ac0 ?ac1 ?a0 ?l0 ?c0 ?k0 ?a1 ?i1 ?l1 ?c1 ?k1 ?a2 ?l2 ?c2 ?k2 ?a3 ?i3 ?l3 ?c3 ?k3 ?a4 ?i4 ?l4 ?c4 ?k4 ?a5 ?l5 ?c5 ?k5 ?a6 ?l6 ?c6 ?k6 ?a7 ?l7 ?c7 ?k7 ?a8 ?l8 ?c8 ?k8 ?a9 ?i9 ?l9 ?c9 ?k9 ?a10 ?i10 ?l10 ?c10 ?k10 ?a11 ?l11 ?c11 ?k11 ?a12 ?l12 ?c12 ?k12 ?a13 ?i13 ?l13 ?c13 ?k13 ?a14 ?l14 ?c14 ?k14 ?a15 ?l15 ?c15 ?k15 ?a16 ?l16 ?c16 ?k16 ?a17 ?l17 ?c17 ?k17 ?a18 ?l18 ?c18 ?k18 ?a19 ?l19 ?c19 ?k19 ?a20 ?l20 ?c20 ?k20 ?a21 ?l21 ?c21 ?k21 ?a22 ?l22 ?c22 ?k22 ?a23 ?l23 ?c23 ?k23 ?a24 ?i24 ?l24 ?c24 ?k24 ?a25 ?i25 ?l25 ?c25 ?k25 ?a26 ?l26 ?c26 ?k26 ?a27 ?l27 ?c27 ?k27 ?a28 ?l28 ?c28 ?k28 ?a29 ?l29 ?c29 ?k29 ?a30 ?l30 ?c30 ?k30 ?a31 ?l31 ?c31 ?k31 ?a32 ?l32 ?c32 ?k32 ?a33 ?l33 ?c33 ?k33 ?a34 ?l34 ?c34 ?k34 ?a35 ?l35 ?c35 ?k35 ?a36 ?l36 ?c36 ?k36 ?p0 ?q0 ?r0 ?s0 ?p1 ?q1 ?r1 ?s1 ?o1 ?m1 ?kp1 ?z0 ?z1 ?z2 ?z3 ?z4 ?z5 ?z6 ?z7 ?z8 ?z9 ?z10 ?z11 ?z12 ?z13 ?z14 ?e0 ?lc ?lh ?lt
    case ac0|ac1|a0|l0|c0|k0|a1|i1|l1|c1|k1|a2|l2|c2|k2|a3|i3|l3|c3|k3|a4|i4|l4|c4|k4|a5|l5|c5|k5|a6|l6|c6|k6|a7|l7|c7|k7|a8|l8|c8|k8|a9|i9|l9|c9|k9|a10|i10|l10|c10|k10|a11|l11|c11|k11|a12|l12|c12|k12|a13|i13|l13|c13|k13|a14|l14|c14|k14|a15|l15|c15|k15|a16|l16|c16|k16|a17|l17|c17|k17|a18|l18|c18|k18|a19|l19|c19|k19|a20|l20|c20|k20|a21|l21|c21|k21|a22|l22|c22|k22|a23|l23|c23|k23|a24|i24|l24|c24|k24|a25|i25|l25|c25|k25|a26|l26|c26|k26|a27|l27|c27|k27|a28|l28|c28|k28|a29|l29|c29|k29|a30|l30|c30|k30|a31|l31|c31|k31|a32|l32|c32|k32|a33|l33|c33|k33|a34|l34|c34|k34|a35|l35|c35|k35|a36|l36|c36|k36|p0|q0|r0|s0|p1|q1|r1|s1|o1|m1|kp1|z0|z1|z2|z3|z4|z5|z6|z7|z8|z9|z10|z11|z12|z13|z14|e0 => first|delta TX.Lk;k_is|k_is
    case lc => rfl
    case lh|lt => kernel_rfl

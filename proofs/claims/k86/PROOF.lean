import PyProof.Rows.All
import KE.KDictList
import KE.KSortTup
import KE.KTreeD
import KE.KTreeN
import KE.KTryMore
import Wide.FinOn
import PySem.Challenge.RW_twoglass_k86_two_for_one
set_option Elab.async false
set_option linter.all false
set_option maxRecDepth 100000
local macro_rules|`(tactic|omega)=>`(tactic|first|lia|omega (config:={}))
open List renaming filterMap_cons→Rt,mem_cons_self→Ru,mem_cons_of_mem→Rv,mem_append_left→Rw,getElem?_set_self→Rx,getElem?_set_ne→Ry,mem_append_right→RC,size_toArray→RE,any_eq_false→RF,length_cons→RH,map_cons→RJ,length_map→RK,append_nil→RO,of_mem_zip→RQ,length_take→RT,getElem?_append_right→RU,getElem?_replicate→RV,getElem?_append_left→RW,getElem?_map→RX,take_sublist→RY,mem_of_getElem?→RZ,length_append→R0,length_drop→R3,length_singleton→R6,map_nil→R7,find?_cons→R8,any_cons→R9,length_nil→Sa,lookup_cons→Se,cons_append→Si,take_zero→Sj,take_succ_cons→Sl,drop_zero→Sn,drop_succ_cons→Sq,all_cons→Sr,range_succ_eq_map→Ss,getElem?_eq_getElem→Su,getElem_of_mem→Sz,nil_append→SA,map_congr_left→SD,map_append→SE,length_range→SG,getElem?_range→SJ,length_set→SL,drop_eq_getElem_cons→SM,append_assoc→SR,mem_cons→SU,not_mem_nil→SV,getElem?_cons_succ→SW,zip_cons_cons→SZ,contains_cons→S0,nodup_append→S4,replicate_zero→S6,any_map→S7,zip_nil_right→S8,replicate_succ→S9,foldl_cons→Tb,not_lt_nil→Td,nil_lt_cons→Te,cons_lt_cons_iff→Tf,filter_cons_of_pos→Tg,filter_cons_of_neg→Th,getElem_mem→Ti,pairwise_map→Tj,getD_eq_getElem?_getD→Tl,mem_nil_iff→Tq,map_map→Tr,getElem?_eq_none→Ts,take_of_length_le→Tt,drop_eq_nil_of_le→Tu,set_cons_zero→Tv,set_cons_succ→Tx,getElem_map→TF,map_take→TH,map_drop→TJ,contains_iff_mem→TK,length_filter_le→TL,mem_of_mem_take→TR,getElem?_of_mem→TU,ne_nil_of_mem→TV,take_append_drop→TY
open Int renaming fdiv_eq_ediv_of_nonneg→RD,toNat_natCast→R1,emod_nonneg→TB,emod_lt_of_pos→TC
open Nat renaming lt_of_lt_of_le→Rn,lt_irrefl→Ro,ne_of_lt→Rp,le_trans→Rq,le_of_lt→Rr,ne_of_gt→Rz,le_refl→RB,le_of_eq→RL,lt_succ_self→RM,zero_le→RN,le_succ→RP,lt_trans→Sd,lt_succ_of_lt→Sg,min_self→Sv,sub_zero→SH,lt_of_le_of_lt→SN,zero_add→SY,sub_self→S5,lt_or_gt_of_ne→Tn
open Bool renaming false_ne_true→RG,and_eq_true→R4,false_eq_true→Sf,and_true→Sw,and_false→Sx,or_eq_true→Sy,or_eq_false_iff→S3,not_true→Tc,or_true→To,not_eq_true'→Tp,not_false→Tz,and_self→TN,or_self→TQ
open Option renaming getD_none→R5,isSome_map→Sb
open PySem renaming Value→Vc,NameKind→Vd,Addr→Ve,Expr→Vf,Stmt→Vg,Shared→Vh,World→Vi,Program→Vj,Paired→Vk,Heap→Vl,sizeLine→Vm,mainGlobals→Vn,bootBuiltins→Vo,Around→Vp,Scope→Vq,Model→Vr,wpAny→Vs,starEach→Vt,wpAny_mono→Vu,CmpOp→Vv,compareOp→Vw,behindInMarks→Vx,wpAny_truthy_bool→Vy,wpAny_execs_nil→Vz,wpAny_pure→VA,wpAny_bind→VB,wpAny_pyIter_list→VC,PassesOwn→VD,foldedSetIterable→VE,wpAny_passesOwn→VF,binaryOp→VG,sizeLine_eq→VH,wpAny_loadPart→VI,wpAny_lookBehind→VJ,pastItsLine_dict→VL,Result→VM,codeAny→VN,attributeBase→VO,plainObj_wpAny_Assign_Attribute→VP,callWith→VQ,keywordEach→VR,cLine→VS,FuncData→VU,BindsTo→VW,wpAny_call→VX,codeAny_mono→VY,wpAny_Call_Name_kw→VZ,Keyword→V0,wpAny_standAt→V1,concat_meets→V2,noFill_tuple_add→V3,seq_tuple_add→V4,IsPart→V5,wpAny_field→V6,wpAny_holding→V7,wpAny_callSpecial?_slot→V8,wpAny_call_entry→V9,wpAny_typeOf→Wa,wpAny_newObj_type→Wb,tupleKind_room_in1→Wc,wpAny_comprehension_free→We,wpAny_rule→Wf,wpAny_getItem_str_slice→Wg,post_val_or_str→Wh,wpAny_seqItems→Wi,codeAny_call_builtin→Wj,codeAny_builtin→Wm,wpAny_tryCatch→Wo,wpAny_updateSeq→Wp,wpAny_letGo→Wq,plainId_quiet→Wr,ExcBaseFacts→Ws,wpAny_loadPart_at→Wt
open PySem.W renaming instObj→TZ,methodObj→T2,Frag→T3,lookIn→T5,plainGet→T6,hasDictIn→T7,findIn→T8,handedIn→T9,plainGet_of→Ua,isFn→Ub,plainOver→Uc,takerIn→Ud,any_some→Ue,makesIn→Ug,typeIn→Uh,InitBack→Ui,emptyDict→Uj,make_core→Uk,makes_of→Ul,looks_findIn→Um,Looks→Uo,keepIn→Uq,callWith_K→Ur,cellsFrom_some→Us,fnOf→Ut,codeIn→Uu,OpenLaw→Uv,nsIn→Uw,notCls→Ux,kitOne→Uy,kia_one→Uz,clsIn→UA,instIn→UB,subIn→UC,specialIn→UD,takesIn→UE,mroIn→UG,isIn→UH,BoolBack→UI,excIn→UJ,isNs_of_in→UK,tail_of_in→UL,exmOne→UM,callWith_K0→UN,mg_of→UO,any_some→Wk
open PySem.Heap renaming lt_size→UP,get?_none_of_le→UQ,SameBut→UR,get?_push_of_some→UT,get?_push_size→UU,size_push→UV,get?_update_other→UW,FlyingW→UX,get?_update_self→UY,get?_push_ne→UZ,get?_update_ne→U0,get?_push_at→U1,MadeExcOf→U2
open PyProof.Rows renaming callWith_type1→U3,slot_tuple_getitem→U4,envOfC→U5,IsTup→U6,boot_str→U7,listUpdate_at→Wn
open PySem.F renaming slot_tuple_add→U8,entry_tuple_add→U9,args_tuple_add_2→Va,excBase_ValueError→Vb
set_option maxHeartbeats 1000000
local macro_rules | `(‹2›)=>`(⟨rfl, rfl, rfl, by decide +kernel, rfl, by decide +kernel, by decide +kernel⟩)
local macro_rules | `(‹0›)=>`(by omega)
namespace L2
open PySem PySem.Spec PyProof.Rows
noncomputable abbrev gF:=List (Option Nat)
noncomputable abbrev cu:=Str->Option Vc
noncomputable abbrev qx:=List (Str×Vd)
noncomputable abbrev aS:=List (Ve×Obj)
noncomputable abbrev oo:=List (Str×Ve)
noncomputable abbrev bu:=List Vf
noncomputable abbrev eK:=List Vg
noncomputable abbrev aN:=List Vc
noncomputable abbrev aD:=List Ve
noncomputable abbrev dG:=Option Int
noncomputable abbrev bJ:=Vc->Vh->Prop
noncomputable abbrev df:=Vh->Prop
noncomputable abbrev au:=List Str
noncomputable abbrev Key:=Sum Int Str
noncomputable def oM:Key->Vc->Bool
 |.inl k,v=>Value.isInt k v
 |.inr x,v=>Value.isStrOf x v
noncomputable def MI(w:Vi):Key->Int
 |.inl k=>hashInt k
 |.inr x=>hashStr w x
theorem cH:∀{k:Key}{v:Vc},oM k v=true->(∃i t,k=Sum.inl i/\v=Value.int i t)\/(∃x t,k=Sum.inr x/\v=Value.str x t)
 |.inl i,v,h=>by
  obtain⟨t,e⟩:=Value.isInt_shape (k:=i) (v:=v) h;exact .inl ⟨i,t,rfl,e⟩
 |.inr x,v,h=>by
  obtain⟨t,e⟩:=Value.isStrOf_shape (x:=x) (v:=v) h;exact .inr ⟨x,t,rfl,e⟩
theorem Ag(i:Int)(t:Tok):oM (.inl i) (.int i t)=true:=by simp[oM,Value.isInt]
theorem zU(x:Str)(t:Tok):oM (.inr x) (.str x t)=true:=by simp[oM,Value.isStrOf]
theorem IL(a b:Int):decide ((Sum.inl a:Key)=Sum.inl b)=(a==b):=by
 by_cases e:a=b
 ·subst e;simp
 ·have h:¬(Sum.inl a:Key)=Sum.inl b:=λq=>e (Sum.inl.inj q);rw[decide_eq_false h];exact(beq_eq_false_iff_ne.mpr e).symm
theorem II(a b:Str):decide ((Sum.inr a:Key)=Sum.inr b)=decide (a=b):=by
 by_cases e:a=b
 ·subst e;simp
 ·have h:¬(Sum.inr a:Key)=Sum.inr b:=λq=>e (Sum.inr.inj q);rw[decide_eq_false h,decide_eq_false e]
theorem HC(a:Int)(b:Str):decide ((Sum.inl a:Key)=Sum.inr b)=false:=decide_eq_false (λq=>nomatch q)
theorem GJ(a:Str)(b:Int):decide ((Sum.inr a:Key)=Sum.inl b)=false:=decide_eq_false (λq=>nomatch q)
noncomputable def cD(prog:Vj)(w:Vi):PySem.KeyKind prog w Key where
 is:=oM
 hash:=MI w
 inj:=λv a b ha hb=>by
  rcases cH ha with⟨i,t,rfl,rfl⟩|⟨x,t,rfl,rfl⟩
  ·rcases cH hb with⟨j,u,rfl,e⟩|⟨y,u,rfl,e⟩
   ·injection e with e1 _;rw[e1]
   ·exact nomatch e
  ·rcases cH hb with⟨j,u,rfl,e⟩|⟨y,u,rfl,e⟩
   ·exact nomatch e
   ·injection e with e1 _;rw[e1]
 byValue:=λk v h=>by
  rcases cH h with⟨i,t,rfl,rfl⟩|⟨x,t,rfl,rfl⟩<;>rfl
 pyHash:=λhv h=>by
  rcases cH hv with⟨i,t,rfl,rfl⟩|⟨x,t,rfl,rfl⟩
  ·exact wpAny_pyHash_int h
  ·exact wpAny_pyHash_str h
 eqBool:=λhu hv h=>by
  rcases cH hu with⟨i,t,rfl,rfl⟩|⟨x,t,rfl,rfl⟩
  ·rcases cH hv with⟨j,u,rfl,rfl⟩|⟨y,u,rfl,rfl⟩
   ·rw[IL]at h;exact wpAny_eqBool_int h
   ·rw[HC]at h;exact SeqAt.EqAt.int_str i t y u _ _ _ _ h
  ·rcases cH hv with⟨j,u,rfl,rfl⟩|⟨y,u,rfl,rfl⟩
   ·rw[GJ]at h;exact SeqAt.EqAt.str_int x t j u _ _ _ _ h
   ·rw[II]at h;exact wpAny_eqBool_str h
 «strs»:=λk x t v h=>by
  rcases cH h with⟨i,u,rfl,e⟩|⟨y,u,rfl,e⟩
  ·exact nomatch e
  ·injection e with e1 _;subst e1;cases v<;>rfl
theorem xc(prog:Vj)(w:Vi)(k:Key)(v:Vc):(cD prog w).is k v=oM k v:=rfl
theorem vB(prog:Vj)(w:Vi)(i:Int)(t:Tok):(cD prog w).is (.inl i) (.int i t)=true:=Ag i t
theorem vz(prog:Vj)(w:Vi)(x:Str)(t:Tok):(cD prog w).is (.inr x) (.str x t)=true:=zU x t
inductive V where
 |non|bl (b:Bool)|int (i:Int)|str (x:Str)|byt (b:Array UInt8)|flt (b:UInt64)|ref (a:Ve)|ty (n:String)
 deriving DecidableEq
noncomputable abbrev aH:=List V
noncomputable def RelV:V->Vc->Prop
 |.non,u=>u=Value.none
 |.bl b,u=>u=Value.bool b
 |.int i,u=>∃t,u=Value.int i t
 |.str x,u=>∃t,u=Value.str x t
 |.byt b,u=>∃t,u=Value.bytes b t
 |.flt b,u=>∃t,u=Value.float b t
 |.ref a,u=>u=Value.ref a
 |.ty n,u=>u=Value.type n
noncomputable abbrev Vals:aH->aN->Prop:=Vk RelV
theorem Vals.length{xs:aH}{us:aN}(r:Vals xs us):xs.length=us.length:=Paired.length r
theorem Vals.get:∀{xs:aH}{us:aN}{i:Nat}{x:V},Vals xs us->xs[i]?=some x->∃u,us[i]?=some u/\RelV x u
 |_,_,_,_,.nil,e=>by simp at e
 |_,_,0,_,.cons r _,e=>by simp at e;subst e;exact⟨_,rfl,r⟩
 |_,_,i+1,x,.cons _ t,e=>by
  obtain⟨u,h1,h2⟩:=Vals.get (i:=i) (x:=x) t (by simpa using e);exact⟨u,by simpa using h1,h2⟩
theorem Vals.append:∀{xs ys:aH}{us ws:aN},Vals xs us->Vals ys ws->Vals (xs++ys) (us++ws)
 |_,_,_,_,.nil,s=>s
 |_,_,_,_,.cons r t,s=>.cons r (Vals.append t s)
theorem Vals.take:∀{xs:aH}{us:aN}(n:Nat),Vals xs us->Vals (xs.take n) (us.take n)
 |_,_,0,_=>.nil
 |_,_,_+1,.nil=>.nil
 |_,_,n+1,.cons r t=>.cons r (Vals.take n t)
theorem Vals.drop:∀{xs:aH}{us:aN}(n:Nat),Vals xs us->Vals (xs.drop n) (us.drop n)
 |_,_,0,r=>r
 |_,_,_+1,.nil=>.nil
 |_,_,n+1,.cons _ t=>Vals.drop n t
noncomputable def qE:Option V->Option Vc->Prop
 |some v,some u=>RelV v u
 |none,none=>True
 |_,_=>False
noncomputable def KV{κ:Type}:List (κ×V)->List (κ×Vc)->Prop:=Vk λ(p:κ×V)(q:κ×Vc)=>p.1=q.1/\RelV p.2 q.2
noncomputable def kV:Key->V
 |.inl i=>.int i
 |.inr x=>.str x
inductive HO where
  |lst (xs:aH)
  |tup (xs:aH)
  |dK (kvs:List (Key×V))|dT (kvs:List (List Key×V))
  |set (S:Int->Bool) (n:Nat)
  |ins (C dx:Ve) (fs:List (Str×V))
  |own (x:Ve)
  |xd (fs:List (Str×V))
  |met (f x:Ve)
  |rng (lo hi:Int)
  |frz (o:Obj) (u:HO)
  |tbl (ps:Array Vc)
  |ext (φ:(Ve->Prop)->Vl->Prop)
noncomputable abbrev Hp:=Ve->Option HO
noncomputable def upd(H:Hp)(a:Ve)(o:HO):Hp:=λb=>if b=a then some o else H b
theorem aA{H:Hp}{a:Ve}{o:HO}:upd H a o a=some o:=by unfold upd;rw[if_pos rfl]
theorem ay{H:Hp}{a b:Ve}{o:HO}(h:b≠a):upd H a o b=H b:=by unfold upd;rw[if_neg h]
theorem tI{H:Hp}{a:Ve}{o u:HO}:upd (upd H a o) a u=upd H a u:=by
 funext b;unfold upd;split<;>rfl
theorem Ki{H:Hp}{a b:Ve}{o u:HO}(h:H a=some o)(h':H b=some u)(d:o≠u):a≠b:=by
 intro e;subst e;rw[h]at h';exact d (Option.some.inj h')
theorem aQ{H:Hp}{a b:Ve}{o:HO}(h:H a=some o)(h':H b=none):a≠b:=by
 intro e;subst e;rw[h]at h';cases h'
section
variable(P:Vj)(w:Vi)
noncomputable def cy(H:Hp)(h:Vl)(a:Ve):HO->Prop
 |.lst xs=>xs.length<=Vm/\∃(its:aN)(n:Nat),Vals xs its/\h.get? a=some {cls:=.type "list",data:=.seq its.toArray n}
 |.tup xs=>xs.length<=Vm/\∃its:aN,Vals xs its/\IsTup h a its.toArray
 |.dK kvs=>kvs.length<=Vm/\(a==sysModules)=false/\∃vs,KV kvs vs/\h.DictOf (cD P w) a vs
 |.dT kvs=>kvs.length<=Vm/\(a==sysModules)=false/\∃xs:List (List Key×Ve×Vc),
   Vk (λ(p:List Key×V)(q:List Key×Ve×Vc)=>p.1=q.1/\H q.2.1=some (.tup (p.1.map kV))/\RelV p.2 q.2.2) kvs xs/\
   ∃o es ep,h.get? a=some o/\o.ExactDict/\o.data=.dict es ep/\es.toList=xs.map (entryOfKey (tupleKind (cD P w)))/\(xs.map (·.1)).Nodup
 |.set S n=>h.SetOf (intKind P w) a S n
 |.ins C dx fs=>H dx=some (.own a)/\fs.length<=1000/\dx≠a/\h.get? a=some (TZ C dx)/\
   ∃mA,h.Ns1 dx mA/\(∀f,qE (fs.lookup f) (mA f))/\PySem.Within mA (fs.map (·.1))
 |.own _=>∃o,h.get? a=some o
 |.xd fs=>∃mA,h.Ns1 a mA/\∀f,qE (fs.lookup f) (mA f)
 |.rng lo hi=>∃t u v,h.get? a=some {cls:=.type "range",data:=.fields #[.int lo t,.int hi u,.int 1 v]}
 |.frz o u=>h.get? a=some o/\cy H h a u
 |.tbl ps=>h.get? a=some {cls:=.none,data:=.fields ps}
 |.met f x=>h.get? a=some (T2 (.ref f) (.ref x))
 |.ext φ=>φ (λb=>H b=some (.own a)) h/\(∃o,h.get? a=some o)/\∀(S1 S2:Ve->Prop)(h1 h2:Vl),φ S1 h1->(∀b,S1 b->S2 b)->(∀b o,(b=a\/S1 b)->h1.get? b=some o->h2.get? b=some o)->φ S2 h2
noncomputable def nI(H:Hp)(h:Vl):Prop:=∀a o,H a=some o->cy P w H h a o
end
section
variable{P:Vj}{w:Vi}{H H':Hp}{h h':Vl}{a:Ve}{o:HO}
theorem cy.lt(x:cy P w H h a o):a<h.objs.size:=by
 cases o with
 |lst xs=>obtain⟨_,_,_,_,e⟩:=x;exact UP e
 |tup xs=>obtain⟨_,_,_,p⟩:=x;exact p.lt
 |dK kvs=>obtain⟨_,_,_,_,o,_,_,e,_⟩:=x;exact UP e
 |dT kvs=>obtain⟨_,_,_,_,o,_,_,e,_⟩:=x;exact UP e
 |set S n=>obtain⟨o,_,_,_,e,_⟩:=x;exact UP e
 |ins C dx fs=>obtain⟨_,_,_,e,_⟩:=x;exact UP e
 |own y=>obtain⟨_,e⟩:=x;exact UP e
 |xd fs=>obtain⟨_,⟨_,_,_,e,_⟩,_⟩:=x;exact UP e
 |rng lo hi=>obtain⟨_,_,_,e⟩:=x;exact UP e
 |frz ob u=>obtain⟨e,_⟩:=x;exact UP e
 |tbl ps=>exact UP (show h.get? a=some _ from x)
 |met f y=>exact UP (show h.get? a=some _ from x)
 |ext φ=>obtain⟨_,⟨_,e⟩,_⟩:=x;exact UP e
theorem Paired.mapP{α β:Type}{F G:α->β->Prop}:∀{l₁:List α}{l₂:List β},Vk F l₁ l₂->(∀a b,F a b->G a b)->Vk G l₁ l₂
 |_,_,.nil,_=>.nil
 |_,_,.cons r t,f=>.cons (f _ _ r) (Paired.mapP t f)
theorem cy.stay(x:cy P w H h a o)(k:∀b u,(b=a\/H b=some (.own a))->h.get? b=some u->h'.get? b=some u)
  (ho:∀b,H b=some (.own a)->H' b=some (.own a)) (ht:∀b xs,H b=some (.tup xs)->H' b=some (.tup xs)):cy P w H' h' a o:=by
 induction o with
 |lst xs=>obtain⟨z,its,n,r,e⟩:=x;exact⟨z,its,n,r,k _ _ (.inl rfl) e⟩
 |tup xs=>obtain⟨z,its,r,ob,e,c⟩:=x;exact⟨z,its,r,ob,k _ _ (.inl rfl) e,c⟩
 |dK kvs=>obtain⟨z,y,vs,r,ob,es,ep,e,c⟩:=x;exact⟨z,y,vs,r,ob,es,ep,k _ _ (.inl rfl) e,c⟩
 |dT kvs=>
  obtain⟨z,y,xs,r,ob,es,ep,e,c⟩:=x;exact⟨z,y,xs,Paired.mapP r λp q z=>⟨z.1,ht _ _ z.2.1,z.2.2⟩,ob,es,ep,k _ _ (.inl rfl) e,c⟩
 |set S n=>obtain⟨ob,es,ep,t,e,c⟩:=x;exact⟨ob,es,ep,t,k _ _ (.inl rfl) e,c⟩
 |ins C dx fs=>
  obtain⟨d,z,ne,e,mA,⟨od,es,ep,e2,c⟩,r⟩:=x;exact⟨ho _ d,z,ne,k _ _ (.inl rfl) e,mA,⟨od,es,ep,k _ _ (.inr d) e2,c⟩,r⟩
 |own y=>obtain⟨ob,e⟩:=x;exact⟨ob,k _ _ (.inl rfl) e⟩
 |xd fs=>obtain⟨mA,⟨od,es,ep,e,c⟩,r⟩:=x;exact⟨mA,⟨od,es,ep,k _ _ (.inl rfl) e,c⟩,r⟩
 |rng lo hi=>obtain⟨t,u,v,e⟩:=x;exact⟨t,u,v,k _ _ (.inl rfl) e⟩
 |frz ob u ih=>obtain⟨e,q⟩:=x;exact⟨k _ _ (.inl rfl) e,ih q⟩
 |tbl ps=>
  have e:h.get? a=some {cls:=.none,data:=.fields ps}:=x;show h'.get? a=some {cls:=.none,data:=.fields ps};exact k a _ (.inl rfl) e
 |met f y=>
  have e:h.get? a=some (T2 (.ref f) (.ref y)):=x;show h'.get? a=some (T2 (.ref f) (.ref y));exact k a _ (.inl rfl) e
 |ext φ=>obtain⟨p,⟨o,e⟩,st⟩:=x;exact⟨st _ _ _ _ p ho k,⟨o,k _ _ (.inl rfl) e⟩,st⟩
theorem nI.lt(x:nI P w H h)(e:H a=some o):a<h.objs.size:=(x a o e).lt
theorem nI.fresh(x:nI P w H h)(e:h.objs.size<=a):H a=none:=by
 cases q:H a with
 |none=>rfl
 |some u=>exact absurd (Rn (x.lt q) e) (Ro _)
theorem nI.kept(x:nI P w H h)(k:∀b u,h.get? b=some u->h'.get? b=some u):nI P w H h':=λa o e=>
 (x a o e).stay (λb u _ q=>k b u q) (λ_ q=>q) λ_ _ q=>q
theorem nI.laid(x:nI P w H h)(k:∀b u,h.get? b=some u->h'.get? b=some u)(hp:h.objs.size<=a)(new:cy P w (upd H a o) h' a o):nI P w (upd H a o) h':=λb u e=>by
 have hn:=x.fresh hp;by_cases hb:b=a
 ·subst hb;rw[aA]at e;cases e;exact new
 ·rw[ay hb]at e;exact(x b u e).stay (λc v _ q=>k c v q) (λc q=>by rw[ay (aQ q hn)];exact q) λc xs q=>by rw[ay (aQ q hn)];exact q
end
noncomputable def Rd(H:Hp)(a:Ve)(u:HO):Prop:=H a=some u\/∃o,H a=some (.frz o u)
theorem Rd.ok{P:Vj}{w:Vi}{H:Hp}{h:Vl}{a:Ve}{u:HO}(r:Rd H a u)(x:nI P w H h):cy P w H h a u:=by
 rcases r with r|⟨o,r⟩
 ·exact x a u r
 ·obtain⟨_,q⟩:=x a _ r;exact q
noncomputable def Kn:Option HO->Prop
 |some (.lst _)=>True
 |some (.dK _)=>True
 |some (.dT _)=>True
 |some (.set _ _)=>True
 |some (.ins _ _ _)=>True
 |some (.ext _)=>True
 |_=>False
section
variable{P:Vj}{w:Vi}{H:Hp}{h h':Vl}{x e:Ve}{o':HO}
theorem nI.write(ok:nI P w H h)(mu:Kn (H x))(he:e=x\/H e=some (.own x))(k:∀b u,b≠e->h.get? b=some u->h'.get? b=some u)(heo:∃u,h'.get? e=some u)
  (new:cy P w (upd H x o') h' x o'):nI P w (upd H x o') h':=λb u q=>by
 have nown:∀c y,H c=some (.own y)->c≠x:=λc y r z=>by subst z;rw[r]at mu;exact mu
 have ntup:∀c xs,H c=some (.tup xs)->c≠x:=λc xs r z=>by subst z;rw[r]at mu;exact mu
 by_cases hb:b=x
 ·subst hb;rw[aA]at q;cases q;exact new
 ·rw[ay hb]at q;by_cases hbe:b=e
  ·have q':H b=some (.own x):=by
    rcases he with z|z
    ·exact absurd (hbe.trans z) hb
    ·rw[hbe];exact z
   rw[q]at q';cases q';obtain⟨v,hv⟩:=heo;exact⟨v,by rw[hbe];exact hv⟩
  ·refine(ok b u q).stay (λc v hc r=>k c v ?_ r) (λc r=>by rw[ay (nown c b r)];exact r) λc xs r=>by rw[ay (ntup c xs r)];exact r
   rcases hc with rfl|hc
   ·exact hbe
   ·rintro rfl;rcases he with z|z
    ·exact nown c b hc z
    ·rw[hc]at z;cases z;exact hb rfl
end
structure Un(fs ex:aD)(H H':Hp)(h h':Vl):Prop where
 keep:∀b o,h.get? b=some o->H b=none->b∉fs->b∉ex->h'.get? b=some o
 slot:∀b o,h.get? b=some o->H b=none->b∈fs->b∉ex->∃sl,h'.get? b=some {o with slots:=sl}
 free:∀b o,h.get? b=some o->H b=none->b∉ex->H' b=none
 there:∀b o,h.get? b=some o->b∉ex->∃o',h'.get? b=some o'
 tups:∀b xs,H b=some (.tup xs)->H' b=some (.tup xs)
 frzs:∀b o u,H b=some (.frz o u)->H' b=some (.frz o u)
 tbls:∀b ps,H b=some (.tbl ps)->∃more,H' b=some (.tbl (ps++more))
section
variable{fs fs' ex ex':aD}{H H1 H2:Hp}{h h1 h2 h':Vl}{a x e:Ve}{o:HO}
theorem Un.any(u:Un fs ex H H1 h h1){b:Ve}{ob:Obj}(q:h.get? b=some ob)(n:H b=none)(hx:b∉ex):∃sl,h1.get? b=some {ob with slots:=sl}:=by
 by_cases hb:b∈fs
 ·exact u.slot b ob q n hb hx
 ·exact⟨ob.slots,u.keep b ob q n hb hx⟩
theorem Un.kept(k:∀b u,h.get? b=some u->h'.get? b=some u):Un fs ex H H h h':=
 ⟨λb ob q _ _ _=>k b ob q,λb ob q _ _ _=>⟨ob.slots,k b ob q⟩,λ_ _ _ n _=>n,λb ob q _=>⟨ob,k b ob q⟩,λ_ _ q=>q,λ_ _ _ q=>q,λ_ ps q=>⟨#[],by rw[q];simp⟩⟩
theorem Un.refl:Un fs ex H H h h:=Un.kept λ_ _ q=>q
theorem Un.laid(k:∀b u,h.get? b=some u->h'.get? b=some u)(hp:h.objs.size<=a)(hn:H a=none):Un fs ex H (upd H a o) h h' where
 keep:=λb u q _ _ _=>k b u q
 slot:=λb u q _ _ _=>⟨u.slots,k b u q⟩
 free:=λb u q n _=>by rw[ay (Rp (Rn (UP q) hp))];exact n
 there:=λb u q _=>⟨u,k b u q⟩
 tups:=λb xs q=>by rw[ay (aQ q hn)];exact q
 frzs:=λb u xs q=>by rw[ay (aQ q hn)];exact q
 tbls:=λb ps q=>⟨#[],by rw[ay (aQ q hn),q];simp⟩
theorem Un.write(mu:Kn (H x))(he:e=x\/H e=some (.own x))(k:∀b u,b≠e->h.get? b=some u->h'.get? b=some u)(heo:∃u,h'.get? e=some u):Un fs ex H (upd H x o) h h':=by
 have hx:∀b,H b=none->b≠x:=λb n z=>by subst z;rw[n]at mu;exact mu
 have hb:∀b,H b=none->b≠e:=λb n z=>by
  subst z;rcases he with r|r
  ·exact hx b n r
  ·rw[n]at r;cases r
 have hm:∀b u,H b=some u->¬Kn (some u)->b≠x:=λb u q nm z=>by subst z;rw[q]at mu;exact nm mu
 refine⟨λb u q n _ _=>k b u (hb b n) q,λb u q n _ _=>⟨u.slots,k b u (hb b n) q⟩,λb u q n _=>by rw[ay (hx b n)];exact n,λb u q _=>?_,
  λb xs q=>by rw[ay (hm b _ q λz=>z)];exact q,λb u xs q=>by rw[ay (hm b _ q λz=>z)];exact q,λb ps q=>⟨#[],by rw[ay (hm b _ q λz=>z),q];simp⟩⟩
 by_cases hbe:b=e
 ·subst hbe;exact heo
 ·exact⟨u,k b u hbe q⟩
end
noncomputable def Mt(h:Vl)(H:Hp):aD:=(List.range h.objs.size).filter λa=>(H a).isSome
noncomputable def lu(h:Vl)(H:Hp):Vl:=PySem.W.hideAll h (Mt h H)
theorem zq(h:Vl)(H:Hp):(lu h H).objs.size=h.objs.size:=PySem.W.hideAll_size _ _
theorem qi{h:Vl}{H:Hp}{b:Ve}{o:Obj}(e:h.get? b=some o)(n:H b=none):(lu h H).get? b=some o:=
 PySem.W.hideAll_get _ e λhm=>by
  have q:(H b).isSome=true:=(List.mem_filter.mp hm).2;rw[n]at q;simp at q
theorem mP{h:Vl}{H:Hp}{b:Ve}{o:Obj}(e:(lu h H).get? b=some o):h.get? b=some o/\H b=none:=by
 have e':h.get? b=some o:=PySem.W.of_hideAll (Mt h H) e;refine⟨e',?_⟩;cases q:H b with
 |none=>rfl
 |some x=>
  have hm:b∈Mt h H:=List.mem_filter.mpr ⟨List.mem_range.mpr (UP e'),by simp[q]⟩;have z:(lu h H).get? b=none:=PySem.W.hideAll_none (Mt h H) hm;rw[z]at e;cases e
noncomputable def EC(g h:Vl)(L:Ve):aS:=(List.range h.objs.size).filterMap λa=>if a=L\/(g.get? a).isSome=true then none else(h.get? a).map λo=>(a,o)
noncomputable def rest(g h:Vl)(L d:Ve):aS:=(EC g h L).filter λp=>decide (p.1≠d)
structure Mod(K:T3)(mg:cu)(base:Vl):Prop where
 kin:K.In base
 glob:base.Ns Vn mg
 blt:∃mb,base.Ns builtinsNs mb/\∀x:Str,x≠"__name__"->mb x=Vo x
 nolimit:base.NoLimit
structure Cx where
 prog:Vj
 w:Vi
 K:T3
 mg:cu
 base:Vl
 A:Vp
 N:au
 s₀:Vh
 H₀:Hp
 env:Env
 outer:List Env
 stack:List Env
 ex:aD
 fn:Str->Bool
 calm:Bool
 pn:aS
 xe:bJ
noncomputable def frs(l:List Env):aD:=l.filterMap (·.frame)
noncomputable abbrev Cx.fs(X:Cx):aD:=frs X.outer
noncomputable def Jv(sc:Vq)(x:Str):Prop:=sc.names.lookup x=some .local\/sc.names.lookup x=some .cell\/sc.names.lookup x=some .free
noncomputable def Loc(sc:Vq)(x:Str):Prop:=sc.names.lookup x=some .local\/sc.names.lookup x=some .cell
noncomputable def Look(env:Env)(h:Vl)(m:cu)(x:Str)(u:Vc):Prop:=
 (env.kindOf x=some .local/\m x=some u)\/((env.kindOf x=some .cell\/env.kindOf x=some .free)/\∃c,env.cells.lookup x=some c/\h.IsCell c (some u))
structure Cx.Ok(X:Cx):Prop where
 mod:Mod X.K X.mg X.base
 kind:X.env.scope.kind=.function
 glob:X.env.globals=Vn
 blt:X.env.builtins=builtinsNs
 above:X.s₀.heap.objs.size<=X.env.locals
 inj:∀x y c,X.env.cells.lookup x=some c->X.env.cells.lookup y=some c->x=y
 has:∀x,(X.env.kindOf x=some .cell\/X.env.kindOf x=some .free)->∃c,X.env.cells.lookup x=some c
 cab:∀x c,X.fn x=true->X.env.cells.lookup x=some c->X.s₀.heap.objs.size<=c
 hd:X.calm=true->X.A.handled=none
 frames:X.A.frames=some X.stack
 stk:X.stack=X.outer\/(X.stack=X.env::X.outer/\X.env.frame=some X.env.locals)
 exf:∀b∈X.ex,b≠X.env.locals/\∀x c,X.env.cells.lookup x=some c->c≠b
 bs:∀b o,X.base.get? b=some o->X.s₀.heap.get? b=some o/\X.H₀ b=none
 bsz:X.base.objs.size<=X.s₀.heap.objs.size
 noex:∀b o,X.base.get? b=some o->b∉X.ex
 exfs:∀b∈X.ex,b∉X.fs
 funs:X.s₀.heap.FunFrames X.base X.outer
 frf:∀b∈X.fs,X.H₀ b=none
structure Inv(X:Cx)(pins:aS)(σ:List (Option V))(H:Hp)(s:Vh):Prop where
 ok:X.Ok
 os:s.os=X.s₀.os
 bare:AllBare s.gens
 base:Un X.fs X.ex X.H₀ H X.s₀.heap s.heap
 loc:∃m,s.heap.Ns X.env.locals m/\∀(i:Nat)(x:Str)(v:V),X.N[i]?=some x->σ[i]?=some (some v)->Jv X.env.scope x->∃u,RelV v u/\Look X.env s.heap m x u
 cell:∀x c,X.env.cells.lookup x=some c->∃v,s.heap.IsCell c v
 free:H X.env.locals=none
 freeC:∀x c,X.env.cells.lookup x=some c->H c=none
 pin:∀p∈X.pn++pins,s.heap.get? p.1=some p.2/\H p.1=none/\p.1≠X.env.locals/\p.1∉X.fs/\∀v,p.2.data≠.cell v
 hok:nI X.prog X.w H s.heap
 len:σ.length=X.N.length
section
variable{X:Cx}{pins:aS}{σ:List (Option V)}{H H':Hp}{s:Vh}{h':Vl}
theorem Cx.Ok.nofr(ok:X.Ok){b:Ve}{o:Obj}(e:X.base.get? b=some o):b∉X.fs:=λhb=>by
 have:=(ok.funs.mem hb).1
 rw[e]at this;cases this
theorem Inv.bs(I:Inv X pins σ H s):∀b o,X.base.get? b=some o->s.heap.get? b=some o/\H b=none:=λb o e=>
 ⟨I.base.keep b o (I.ok.bs b o e).1 (I.ok.bs b o e).2 (I.ok.nofr e) (I.ok.noex b o e),I.base.free b o (I.ok.bs b o e).1 (I.ok.bs b o e).2 (I.ok.noex b o e)⟩
theorem Inv.bk(I:Inv X pins σ H s):∀b o,X.base.get? b=some o->s.heap.get? b=some o:=λb o e=>(I.bs b o e).1
theorem Inv.mod(I:Inv X pins σ H s):Mod X.K X.mg X.base:=I.ok.mod
theorem Inv.kIn(I:Inv X pins σ H s):X.K.In s.heap:=I.ok.mod.kin.keeps I.bk
theorem Inv.lt(I:Inv X pins σ H s):X.env.locals<s.heap.objs.size:=let ⟨_,hn,_⟩:=I.loc;hn.lt
theorem Inv.sz(I:Inv X pins σ H s):X.s₀.heap.objs.size<=s.heap.objs.size:=Rq I.ok.above (Rr I.lt)
theorem Inv.nofs(I:Inv X pins σ H s){a:Ve}(h:s.heap.objs.size<=a):a∉X.fs:=λhb=>by
 obtain⟨_,o,ho,_⟩:=I.ok.funs.mem hb;exact absurd (Rn (UP ho) (Rq I.sz h)) (Ro _)
theorem Inv.cne(I:Inv X pins σ H s):∀x c,X.env.cells.lookup x=some c->c≠X.env.locals:=λx c e z=>by
 obtain⟨v,o,ho,hd⟩:=I.cell x c e;obtain⟨m,⟨o',es,ep,ho',hd',_⟩,_⟩:=I.loc;rw[z,ho']at ho;cases ho;rw[hd']at hd;cases hd
theorem Inv.funs(I:Inv X pins σ H s):s.heap.FunFrames X.base X.outer:=by
 have all:∀(l:List Env),(∀b∈frs l,b∈X.fs)->X.s₀.heap.FunFrames X.base l->s.heap.FunFrames X.base l:=by
  intro l
  induction l with
  |nil=>intro _ _;trivial
  |cons env r ih=>
   intro hs hl;obtain⟨hk,⟨L,o,hf,hn,ho,hd⟩,hr⟩:=hl;have hL:L∈X.fs:=hs L (by unfold frs;rw[Rt,hf];exact Ru);obtain⟨sl,e⟩:=I.base.slot L o ho (I.ok.frf L hL) hL λz=>I.ok.exfs L z hL;exact⟨hk,⟨L,_,hf,hn,e,hd⟩,ih (λb hb=>hs b (by unfold frs;rw[Rt,hf];exact Rv _ hb)) hr⟩
 exact all X.outer (λ_ hb=>hb) I.ok.funs
theorem Inv.stack(I:Inv X pins σ H s):s.heap.FunFrames X.base X.stack:=by
 rcases I.ok.stk with e|⟨e,hf⟩
 ·rw[e];exact I.funs
 ·rw[e];obtain⟨m,hn,_⟩:=I.loc;refine .cons (by rw[I.ok.kind];decide) hf hn ?_ I.funs;exact UQ (Rq I.ok.bsz I.ok.above)
theorem Inv.stkSub(I:Inv X pins σ H s):∀b∈frs X.stack,b∈X.env.locals::X.fs:=λb hb=>by
 rcases I.ok.stk with e|⟨e,hf⟩
 ·rw[e]at hb;exact Rv _ hb
 ·rw[e]at hb;unfold frs at hb;rw[Rt,hf]at hb;exact hb
theorem Inv.stkFree(I:Inv X pins σ H s):∀b∈frs X.stack,H b=none:=λb hb=>by
 rcases List.mem_cons.mp (I.stkSub b hb)with e|hb
 ·rw[e];exact I.free
 ·obtain⟨_,o,ho,_⟩:=I.ok.funs.mem hb;exact I.base.free b o ho (I.ok.frf b hb) λz=>I.ok.exfs b z hb
theorem Inv.step{g':Array GenState}{t':Nat}{d':Drawn}{ch:aD}(I:Inv X pins σ H s)
  (hch:∀b∈ch,(b∈X.ex\/X.s₀.heap.objs.size<=b)/\b≠X.env.locals/\(∀x c,X.env.cells.lookup x=some c->c≠b)/\∀p∈X.pn++pins,p.1≠b)
  (keep:∀b o,b≠X.env.locals->b∉X.fs->b∉ch->s.heap.get? b=some o->H b=none->h'.get? b=some o)
  (slot:∀b o,b≠X.env.locals->b∈X.fs->b∉ch->s.heap.get? b=some o->H b=none->∃sl,h'.get? b=some {o with slots:=sl}) (free:∀b o,b∉ch->s.heap.get? b=some o->H b=none->H' b=none)
  (there:∀b o,b∉ch->s.heap.get? b=some o->∃o',h'.get? b=some o')
  (tups:∀b xs,H b=some (.tup xs)->H' b=some (.tup xs)) (frzs:∀b o u,H b=some (.frz o u)->H' b=some (.frz o u)) (tbls:∀b ps,H b=some (.tbl ps)->∃more,H' b=some (.tbl (ps++more)))
  (ns:∀m,s.heap.Ns X.env.locals m->h'.Ns X.env.locals m) (hok:nI X.prog X.w H' h') (hg:AllBare g'):
  Inv X pins σ H' {s with heap:=h',gens:=g',drawn:=d',toks:=t'}:=by
 have neL:∀b o,X.s₀.heap.get? b=some o->b≠X.env.locals:=λb o e=>Rp (Rn (UP e) I.ok.above);have neC:∀b o,X.s₀.heap.get? b=some o->b∉X.ex->b∉ch:=λb o e hx hb=>by
  rcases(hch b hb).1 with z|z
  ·exact hx z
  ·exact absurd (Rn (UP e) z) (Ro _)
 have cellK:∀x c,X.env.cells.lookup x=some c->∀v,s.heap.IsCell c v->h'.IsCell c v:=λx c e v ⟨o,ho,hd⟩=>by
  have nch:c∉ch:=λz=>(hch c z).2.2.1 x c e rfl;by_cases hc:c∈X.fs
  ·obtain⟨sl,q⟩:=slot c o (I.cne x c e) hc nch ho (I.freeC x c e);exact⟨_,q,hd⟩
  ·exact⟨o,keep c o (I.cne x c e) hc nch ho (I.freeC x c e),hd⟩
 refine⟨I.ok,I.os,hg,⟨λb o e n hb hx=>?_,λb o e n hb hx=>?_,λb o e n hx=>?_,λb o e hx=>?_,λb xs e=>tups b xs (I.base.tups b xs e),λb o xs e=>frzs b o xs (I.base.frzs b o xs e),λb ps e=>?_⟩,?_,λx c e=>?_,?_,λx c e=>?_,λp hp=>?_,hok,I.len⟩
 ·exact keep b o (neL b o e) hb (neC b o e hx) (I.base.keep b o e n hb hx) (I.base.free b o e n hx)
 ·obtain⟨sl,e1⟩:=I.base.slot b o e n hb hx;obtain⟨sl',e2⟩:=slot b _ (neL b o e) hb (neC b o e hx) e1 (I.base.free b o e n hx);exact⟨sl',e2⟩
 ·obtain⟨o',e1⟩:=I.base.there b o e hx;exact free b o' (neC b o e hx) e1 (I.base.free b o e n hx)
 ·obtain⟨o',e1⟩:=I.base.there b o e hx;exact there b o' (neC b o e hx) e1
 ·obtain⟨m1,e1⟩:=I.base.tbls b ps e;obtain⟨m2,e2⟩:=tbls b _ e1;exact⟨m1++m2,by rw[e2,Array.append_assoc]⟩
 ·obtain⟨m,hn,hl⟩:=I.loc;refine⟨m,ns m hn,λi x v e1 e2 e3=>?_⟩;obtain⟨u,r,l⟩:=hl i x v e1 e2 e3;refine⟨u,r,?_⟩;rcases l with l|⟨k,c,e,z⟩
  ·exact .inl l
  ·exact .inr ⟨k,c,e,cellK x c e _ z⟩
 ·obtain⟨v,z⟩:=I.cell x c e;exact⟨v,cellK x c e v z⟩
 ·obtain⟨m,⟨o,_,_,ho,_⟩,_⟩:=I.loc;exact free _ o (λz=>(hch _ z).2.1 rfl) ho I.free
 ·obtain⟨v,o,ho,hd⟩:=I.cell x c e;exact free c o (λz=>(hch c z).2.2.1 x c e rfl) ho (I.freeC x c e)
 ·obtain⟨e,n,ne,nf,d⟩:=I.pin p hp;have nch:p.1∉ch:=λz=>(hch p.1 z).2.2.2 p hp rfl;exact⟨keep p.1 p.2 ne nf nch e n,free p.1 p.2 nch e n,ne,nf,d⟩
theorem Inv.un{t':Nat}(I:Inv X pins σ H s)(u:Un X.fs [] H H' s.heap h')(hok:nI X.prog X.w H' h'):Inv X pins σ H' {s with heap:=h',toks:=t'}:=by
 obtain⟨m,⟨o,es,ep,ho,r⟩,_⟩:=id I.loc;obtain⟨sl,hL⟩:=u.any ho I.free (by simp);exact I.step (g':=s.gens) (d':=s.drawn) (ch:=[]) (λ_ z=>nomatch z) (λb o _ hb _ e n=>u.keep b o e n hb (by simp)) (λb o _ hb _ e n=>u.slot b o e n hb (by simp)) (λb o _ e n=>u.free b o e n (by simp)) (λb o _ e=>u.there b o e (by simp)) u.tups u.frzs u.tbls (λm' hm=>by
  obtain⟨o',es',ep',ho',r'⟩:=hm;rw[ho]at ho';cases ho';exact⟨_,es',ep',hL,r'⟩) hok I.bare
theorem Inv.call{g':Array GenState}{t':Nat}{d':Drawn}{ch:aD}(I:Inv X pins σ H s)(u:Un (frs X.stack) ch H H' s.heap h')(hok:nI X.prog X.w H' h')(hg:AllBare g')
  (hch:∀b∈ch,(b∈X.ex\/X.s₀.heap.objs.size<=b)/\b≠X.env.locals/\(∀x c,X.env.cells.lookup x=some c->c≠b)/\∀p∈X.pn++pins,p.1≠b):
  Inv X pins σ H' {s with heap:=h',gens:=g',drawn:=d',toks:=t'}:=by
 obtain⟨m,⟨o,es,ep,ho,r⟩,_⟩:=id I.loc;obtain⟨sl,hL⟩:=u.any ho I.free λz=>(hch _ z).2.1 rfl;exact I.step (ch:=ch) hch (λb o hL hb hc e n=>u.keep b o e n (λz=>(List.mem_cons.mp (I.stkSub b z)).elim hL hb) hc) (λb o _ _ hc e n=>u.any e n hc) (λb o hc e n=>u.free b o e n hc) (λb o hc e=>u.there b o e hc) u.tups u.frzs u.tbls (λm' hm=>by
  obtain⟨o',es',ep',ho',r'⟩:=hm;rw[ho]at ho';cases ho';exact⟨_,es',ep',hL,r'⟩) hok hg
theorem Inv.turned{t':Nat}{it:Ve}(I:Inv X pins σ H s)(k:∀b o,b≠it->s.heap.get? b=some o->h'.get? b=some o)(hn:H it=none)(hL:it≠X.env.locals)
  (h1:it∈X.ex\/X.s₀.heap.objs.size<=it) (h2:∀x c,X.env.cells.lookup x=some c->c≠it) (h3:∀p∈X.pn++pins,p.1≠it):Inv X pins σ H {s with heap:=h',toks:=t'}:=by
 have nit:∀b u,H b=some u->b≠it:=λb u e z=>by rw[z,hn]at e;cases e
 refine I.step (g':=s.gens) (d':=s.drawn) (ch:=[it]) (λb hb=>?_) (λb o _ _ hc e _=>k b o (λz=>hc (by simp[z])) e) (λb o _ _ hc e _=>⟨o.slots,k b o (λz=>hc (by simp[z])) e⟩) (λ_ _ _ _ n=>n)
  (λb o hc e=>⟨o,k b o (λz=>hc (by simp[z])) e⟩) (λ_ _ e=>e) (λ_ _ _ e=>e) (λb ps e=>⟨#[],by rw[e];simp⟩) (λm hm=>?_) (λb u e=>?_) I.bare
 ·have e:b=it:=by simpa using hb
  subst e;exact⟨h1,hL,h2,h3⟩
 ·obtain⟨o,es,ep,ho,r⟩:=hm;exact⟨o,es,ep,k _ o (Ne.symm hL) ho,r⟩
 ·refine(I.hok b u e).stay (λc v hc q=>k c v ?_ q) (λ_ q=>q) λ_ _ q=>q;rcases hc with z|z
  ·rw[z];exact nit b u e
  ·exact nit c _ z
theorem Inv.tok(I:Inv X pins σ H s)(t:Nat):Inv X pins σ H {s with toks:=t}:=I.un (h':=s.heap) (t':=t) Un.refl I.hok
theorem Inv.kept{t':Nat}(I:Inv X pins σ H s)(k:∀b u,s.heap.get? b=some u->h'.get? b=some u):Inv X pins σ H {s with heap:=h',toks:=t'}:=I.un (Un.kept k) (I.hok.kept k)
theorem Inv.laid{a:Ve}{o:HO}{t':Nat}(I:Inv X pins σ H s)(k:∀b u,s.heap.get? b=some u->h'.get? b=some u)(hp:s.heap.objs.size<=a)(new:cy X.prog X.w (upd H a o) h' a o):
  Inv X pins σ (upd H a o) {s with heap:=h',toks:=t'}:=I.un (Un.laid k hp (I.hok.fresh hp)) (I.hok.laid k hp new)
theorem Inv.write{x e:Ve}{o:HO}{t':Nat}(I:Inv X pins σ H s)(mu:Kn (H x))(he:e=x\/H e=some (.own x))(k:∀b u,b≠e->s.heap.get? b=some u->h'.get? b=some u)(heo:∃u,h'.get? e=some u)
  (new:cy X.prog X.w (upd H x o) h' x o):Inv X pins σ (upd H x o) {s with heap:=h',toks:=t'}:=I.un (Un.write mu he k heo) (I.hok.write mu he k heo new)
theorem Inv.pins_of{pins':aS}(I:Inv X pins σ H s)(h:∀p∈pins',s.heap.get? p.1=some p.2/\H p.1=none/\p.1≠X.env.locals/\p.1∉X.fs/\∀v,p.2.data≠.cell v):Inv X pins' σ H s:=
 ⟨I.ok,I.os,I.bare,I.base,I.loc,I.cell,I.free,I.freeC,λp hp=>(List.mem_append.mp hp).elim (λz=>I.pin p (Rw _ z)) (h p),I.hok,I.len⟩
theorem vd{N:au}(hN:N.Nodup){i j:Nat}{x:Str}(a:N[i]?=some x)(b:N[j]?=some x):i=j:=by
 obtain⟨h1,e1⟩:=List.getElem?_eq_some_iff.mp a;obtain⟨h2,e2⟩:=List.getElem?_eq_some_iff.mp b;exact(List.getElem_inj hN).mp (e1.trans e2.symm)
theorem tq{M:Vr}{A:Vp}{E:bJ}{i:Nat}{x:Str}{v:V}{u:Vc}{Q:Unit->df}(I:Inv X pins σ H s)(hN:X.N.Nodup)(hi:X.N[i]?=some x)(hx:Loc X.env.scope x)(r:RelV v u)
  (h:∀s',Inv X pins (σ.set i (some v)) H s'->(∃a,UR a s.heap s'.heap/\(a=X.env.locals\/X.env.cells.lookup x=some a))->Q () s') (hf:X.fn x=true\/X.env.scope.names.lookup x=some .local:=by first|exact .inl rfl|exact .inr rfl|assumption):Vs M A (storeName X.env x u) Q E s:=by
 obtain⟨m,hn,hl⟩:=id I.loc;have hcls:(X.env.scope.kind==.class||(X.env.scope.kind==.module&&X.env.locals !=X.env.globals))=false:=by rw[I.ok.kind];rfl
 have hiσ:i<σ.length:=by rw[I.len];exact(List.getElem?_eq_some_iff.mp hi).1
 have cne:=I.cne;have tracked:∀{a:Ve}{h':Vl},(∃o,s.heap.get? a=some o/\H a=none)->UR a s.heap h'->nI X.prog X.w H h':=λ{a h'} ha hs b ob e=>by
  obtain⟨_,_,hfree⟩:=ha;refine(I.hok b ob e).stay (λc w' hc q=>(hs.2 c ?_).trans q) (λ_ q=>q) λ_ _ q=>q;rintro rfl;rcases hc with rfl|hc
  ·rw[hfree]at e;cases e
  ·rw[hfree]at hc;cases hc
 rcases hx with hk|hk
 ·refine wpAny_storeName_local hk hn (λh' hn' hs=>?_) hcls;obtain⟨oL,_,_,hoL,_⟩:=id hn;refine h _ ⟨I.ok,I.os,I.bare,⟨λb o e n hb hx=>?_,λb o e n hb hx=>?_,I.base.free,λb o e hx=>?_,I.base.tups,I.base.frzs,I.base.tbls⟩,⟨_,hn',λj y v' e1 e2 e3=>?_⟩,λy c e=>?_,I.free,I.freeC,λp hp=>?_,tracked ⟨oL,hoL,I.free⟩ hs,by simpa using I.len⟩ ⟨_,hs,.inl rfl⟩
  ·exact(hs.2 b (Rp (Rn (UP e) I.ok.above))).trans (I.base.keep b o e n hb hx)
  ·obtain⟨sl,e1⟩:=I.base.slot b o e n hb hx;exact⟨sl,(hs.2 b (Rp (Rn (UP e) I.ok.above))).trans e1⟩
  ·obtain⟨o',e1⟩:=I.base.there b o e hx;exact⟨o',(hs.2 b (Rp (Rn (UP e) I.ok.above))).trans e1⟩
  ·by_cases hj:j=i
   ·subst hj;rw[hi]at e1;cases e1;rw[Rx hiσ]at e2;cases e2;exact⟨u,r,.inl ⟨hk,by simp⟩⟩
   ·rw[Ry (Ne.symm hj)]at e2;obtain⟨u',r',q⟩:=hl j y v' e1 e2 e3;refine⟨u',r',?_⟩;rcases q with⟨k,e⟩|⟨k,c,e,z⟩
    ·refine .inl ⟨k,?_⟩
     have:y≠x:=λe=>hj (vd hN e1 (e ▸ hi))
     simp[this,e]
    ·exact .inr ⟨k,c,e,z.sameBut hs (cne y c e)⟩
  ·obtain⟨w',z⟩:=I.cell y c e;exact⟨w',z.sameBut hs (cne y c e)⟩
  ·obtain⟨e,n,ne,nf,d⟩:=I.pin p hp;exact⟨(hs.2 p.1 ne).trans e,n,ne,nf,d⟩
 ·have hfn:X.fn x=true:=by
   rcases hf with z|z
   ·exact z
   ·rw[z]at hk;cases hk
  obtain⟨c,hc⟩:=I.ok.has x (.inl hk);obtain⟨w',z⟩:=I.cell x c hc;refine wpAny_storeName_cell I.ok.kind hk hc z (λh' hc' hs=>?_);obtain⟨oc,hoc,hocd⟩:=id z;refine h {s with heap:=h'} ⟨I.ok,I.os,I.bare,⟨λb o e n hb hx=>?_,λb o e n hb hx=>?_,I.base.free,λb o e hx=>?_,I.base.tups,I.base.frzs,I.base.tbls⟩,⟨m,hn.sameBut hs (Ne.symm (cne x c hc)),λj y v' e1 e2 e3=>?_⟩,λy c' e=>?_,I.free,I.freeC,λp hp=>?_,tracked ⟨oc,hoc,I.freeC x c hc⟩ hs,by simpa using I.len⟩ ⟨c,hs,.inr hc⟩
  ·exact(hs.2 b (Rp (Rn (UP e) (I.ok.cab x c hfn hc)))).trans (I.base.keep b o e n hb hx)
  ·obtain⟨sl,e1⟩:=I.base.slot b o e n hb hx;exact⟨sl,(hs.2 b (Rp (Rn (UP e) (I.ok.cab x c hfn hc)))).trans e1⟩
  ·obtain⟨o',e1⟩:=I.base.there b o e hx;exact⟨o',(hs.2 b (Rp (Rn (UP e) (I.ok.cab x c hfn hc)))).trans e1⟩
  ·by_cases hj:j=i
   ·subst hj;rw[hi]at e1;cases e1;rw[Rx hiσ]at e2;cases e2;exact⟨u,r,.inr ⟨.inl hk,c,hc,hc'⟩⟩
   ·rw[Ry (Ne.symm hj)]at e2;obtain⟨u',r',q⟩:=hl j y v' e1 e2 e3;refine⟨u',r',?_⟩;rcases q with q|⟨k,c',e,z'⟩
    ·exact .inl q
    ·refine .inr ⟨k,c',e,z'.sameBut hs ?_⟩;rintro rfl;exact hj (vd hN e1 (I.ok.inj _ _ _ e hc ▸ hi))
  ·by_cases hcc:c'=c
   ·subst hcc;exact⟨_,hc'⟩
   ·obtain⟨w2,z2⟩:=I.cell y c' e;exact⟨w2,z2.sameBut hs hcc⟩
  ·obtain⟨e,n,ne,nf,d⟩:=I.pin p hp;refine⟨(hs.2 p.1 ?_).trans e,n,ne,nf,d⟩;intro q;rw[q,hoc]at e;have q':oc=p.2:=Option.some.inj e;exact d w' (by rw[<-q'];exact hocd)
theorem vf{M:Vr}{A:Vp}{E:bJ}{i:Nat}{x:Str}{v:V}{u:Vc}{Q:Unit->df}(I:Inv X pins σ H s)(hN:X.N.Nodup)(hi:X.N[i]?=some x)(hx:Loc X.env.scope x)(r:RelV v u)
  (h:∀s',Inv X pins (σ.set i (some v)) H s'->Q () s') (hf:X.fn x=true\/X.env.scope.names.lookup x=some .local:=by first|exact .inl rfl|exact .inr rfl|assumption):Vs M A (storeName X.env x u) Q E s:=
 tq I hN hi hx r (λs' I' _=>h s' I') hf
theorem Inv.call'{s':Vh}{ch:aD}(I:Inv X pins σ H s)(ho:s'.os=s.os)(u:Un (frs X.stack) ch H H' s.heap s'.heap)(hok:nI X.prog X.w H' s'.heap)(hg:AllBare s'.gens)
  (hch:∀b∈ch,(b∈X.ex\/X.s₀.heap.objs.size<=b)/\b≠X.env.locals/\(∀x c,X.env.cells.lookup x=some c->c≠b)/\∀p∈X.pn++pins,p.1≠b):Inv X pins σ H' s':=by
 obtain⟨h',g',d',t',o'⟩:=s';have e:o'=s.os:=ho;subst e;exact I.call (g':=g') (t':=t') (d':=d') u hok hg hch
end
noncomputable abbrev XK:=Vc->Option Ve->Hp->Prop
noncomputable abbrev St:=List (Option V)
noncomputable abbrev VK:=V->Hp->Prop
noncomputable abbrev TE:=St->Hp->VK->Prop
noncomputable abbrev TT:=St->Hp->(Bool->Hp->Prop)->Prop
noncomputable abbrev TA:=St->Hp->(aH->Hp->Prop)->Prop
structure Ends where
 nx:St->Hp->Prop
 rt:VK
 bk:St->Hp->Prop:=λ_ _=>False
 ct:St->Hp->Prop:=λ_ _=>False
noncomputable abbrev TS:=Ends->St->Hp->Prop
noncomputable def EP(X:Cx)(pins:aS)(σ:St)(Q:VK)(u:Vc)(s':Vh):Prop:=∃v H',Inv X pins σ H' s'/\RelV v u/\Q v H'
noncomputable def TP(X:Cx)(pins:aS)(σ:St)(Q:Bool->Hp->Prop)(b:Bool)(s':Vh):Prop:=∃H',Inv X pins σ H' s'/\Q b H'
noncomputable def AP(X:Cx)(pins:aS)(σ:St)(Q:aH->Hp->Prop)(us:aN)(s':Vh):Prop:=∃vs H',Inv X pins σ H' s'/\Vals vs us/\Q vs H'
noncomputable def SP(X:Cx)(pins:aS)(D:Ends)(f:Flow)(s':Vh):Prop:=
 match f with
 |.next=>∃σ' H',Inv X pins σ' H' s'/\D.nx σ' H'
 |.brk=>∃σ' H',Inv X pins σ' H' s'/\D.bk σ' H'
 |.cont=>∃σ' H',Inv X pins σ' H' s'/\D.ct σ' H'
 |.ret u=>∃v σ' H',Inv X pins σ' H' s'/\RelV v u/\D.rt v H'
noncomputable def PE(X:Cx)(e:Vf)(t:TE):Prop:=
 ∀(pins:aS)(s:Vh)(σ:St)(H:Hp)(Q:VK),Inv X pins σ H s->t σ H Q->Vs (model X.prog X.w) X.A (eval e X.env) (EP X pins σ Q) X.xe s
noncomputable def PT(X:Cx)(e:Vf)(t:TT):Prop:=
 ∀(pins:aS)(s:Vh)(σ:St)(H:Hp)(Q:Bool->Hp->Prop),Inv X pins σ H s->t σ H Q->Vs (model X.prog X.w) X.A (isTrue e X.env (eval e X.env)) (TP X pins σ Q) X.xe s
noncomputable def PW(X:Cx)(e:Vf)(t:TT):Prop:=
 ∀(whole:Sem Vc)(pins:aS)(s:Vh)(σ:St)(H:Hp)(Q:Bool->Hp->Prop),Inv X pins σ H s->t σ H Q->Vs (model X.prog X.w) X.A (isTrue e X.env whole) (TP X pins σ Q) X.xe s
theorem PW.pt{X:Cx}{e:Vf}{t:TT}(h:PW X e t):PT X e t:=h _
noncomputable def PA(X:Cx)(es:bu)(t:TA):Prop:=
 ∀(pos:Pos)(pins:aS)(s:Vh)(σ:St)(H:Hp)(Q:aH->Hp->Prop),Inv X pins σ H s->t σ H Q->Vs (model X.prog X.w) X.A (spliced (backTo pos (Vt es X.env))) (AP X pins σ Q) X.xe s
noncomputable def PS(X:Cx)(st:Vg)(t:TS):Prop:=
 ∀(pins:aS)(s:Vh)(σ:St)(H:Hp)(D:Ends),Inv X pins σ H s->t D σ H->Vs (model X.prog X.w) X.A (exec st X.env) (SP X pins D) X.xe s
noncomputable def uG(X:Cx)(st:eK)(t:TS):Prop:=
 ∀(pins:aS)(s:Vh)(σ:St)(H:Hp)(D:Ends),Inv X pins σ H s->t D σ H->Vs (model X.prog X.w) X.A (execs st X.env) (SP X pins D) X.xe s
theorem cJ{α:Type}{t:Sem α}{Q Q':α->df}{M:Vr}{A:Vp}{E:bJ}{s:Vh}(h:Vs M A t Q E s)(hQ:∀a s,Q a s->Q' a s):Vs M A t Q' E s:=Vu h hQ λ_ _ x=>x
section
variable{X:Cx}
noncomputable def uk(i:Nat):TE:=λσ H Q=>∃v,σ[i]?=some (some v)/\Q v H
noncomputable def tC(v:V):TE:=λ_ H Q=>Q v H
theorem HD{i:Nat}{x:Str}{pos:Pos}(hN:X.N[i]?=some x)(hv:Jv X.env.scope x)(hd:(x==("__debug__":Str))=false:=by decide)(hcd:(x==("__classdict__":Str))=false:=by decide):PE X (.Name x pos) (uk i):=by
 intro pins s σ H Q I h;obtain⟨v,e,h⟩:=h;obtain⟨m,hn,hl⟩:=I.loc;obtain⟨u,r,l⟩:=hl i x v hN e hv;have fin:EP X pins σ Q u s:=⟨v,H,I,r,h⟩
 rcases l with⟨hk,hm⟩|⟨hk,c,hc,hcell⟩
 ·exact wpAny_Name (wpAny_loadName_local I.ok.kind hk hn hm fin) hd
 ·rcases hk with hk|hk
  ·exact wpAny_Name (wpAny_loadName_cell I.ok.kind hk hc hcell fin) hd
  ·exact wpAny_Name (wpAny_loadName_free I.ok.kind hk hc hcell fin hcd) hd
theorem BL{i j pos}:PE X (.Constant (.int i) j pos) (tC (.int i)):=λ_ _ _ H _ I h=>wpAny_Constant_int ⟨.int i,H,I.tok _,⟨_,rfl⟩,h⟩
theorem LD{b j pos}:PE X (.Constant (.bool b) j pos) (tC (.bl b)):=λ_ _ _ H _ I h=>Constant_bool ⟨.bl b,H,I,rfl,h⟩
theorem Jp{j pos}:PE X (.Constant .none j pos) (tC .non):=λ_ _ _ H _ I h=>Constant_none ⟨.non,H,I,rfl,h⟩
theorem Hu{x j pos}:PE X (.Constant (.str x) j pos) (tC (.str x)):=λ_ _ _ H _ I h=>Calls.Constant_str ⟨.str x,H,I.tok _,⟨_,rfl⟩,h⟩
noncomputable def Gl(X:Cx)(x:Str):Prop:=X.env.kindOf x=some .globalImplicit
theorem ju{E:bJ}{pins:aS}{s:Vh}{σ:St}{H:Hp}{x:Str}{u:Vc}{pos:Pos}{Q:bJ}(I:Inv X pins σ H s)(hg:Gl X x)(hm:X.mg x=some u)(h:Q u s)
  (hd:(x==("__debug__":Str))=false:=by decide):Vs (model X.prog X.w) X.A (eval (.Name x pos) X.env) Q E s:=
 Calls.Name_function_global I.ok.kind hg (Calls.loadGlobal_global (by rw[I.ok.glob];exact I.mod.glob.keeps I.bk) hm h) hd
theorem lM{E:bJ}{pins:aS}{s:Vh}{σ:St}{H:Hp}{x:Str}{u:Vc}{pos:Pos}{Q:bJ}(I:Inv X pins σ H s)(hg:Gl X x)(hm:X.mg x=none)(hv:Vo x=some u)(h:Q u s)
  (hn:x≠"__name__":=by decide) (hd:(x==("__debug__":Str))=false:=by decide):Vs (model X.prog X.w) X.A (eval (.Name x pos) X.env) Q E s:=by
 obtain⟨mb,h1,h2⟩:=I.mod.blt;exact Calls.Name_function_global I.ok.kind hg (Calls.loadGlobal_builtin (by rw[I.ok.glob];exact I.mod.glob.keeps I.bk) hm (by rw[I.ok.blt];exact h1.keeps I.bk) ((h2 x hn).trans hv) h) hd
theorem yz{x:Str}{v:V}{u:Vc}{pos:Pos}(hg:Gl X x)(hm:X.mg x=some u)(r:RelV v u)(hd:(x==("__debug__":Str))=false:=by decide):PE X (.Name x pos) (tC v):=
 λ_ _ _ H _ I h=>ju I hg hm ⟨v,H,I,r,h⟩ hd
theorem ED{x:Str}{v:V}{u:Vc}{pos:Pos}(hg:Gl X x)(hm:X.mg x=none)(hv:Vo x=some u)(r:RelV v u)(hn:x≠"__name__":=by decide)(hd:(x==("__debug__":Str))=false:=by decide):PE X (.Name x pos) (tC v):=
 λ_ _ _ H _ I h=>lM I hg hm hv ⟨v,H,I,r,h⟩ hn hd
variable{a b:Vf}{ta tb:TE}{pos:Pos}
noncomputable def PC(X:Cx)(op:Vv)(a b:Vf)(t:TE):Prop:=
 ∀(pins:aS)(s:Vh)(σ:St)(H:Hp)(Q:VK),Inv X pins σ H s->t σ H Q->
  Vs (model X.prog X.w) X.A (eval a X.env) (λv s₁=>Vs (model X.prog X.w) X.A (eval b X.env) (λu s₂=>Vs (model X.prog X.w) X.A (Vw op v u) (EP X pins σ Q) X.xe s₂) X.xe s₁) X.xe s
theorem vi(b:Vf){op:Vv}(h:op≠.In)(h2:op≠.NotIn):Vx op b=false:=by
 have e1:(op==CmpOp.In)=false:=by cases op<;>first|rfl|exact absurd rfl h
 have e2:(op==CmpOp.NotIn)=false:=by cases op<;>first|rfl|exact absurd rfl h2
 cases b<;>simp[Vx,e1,e2]
noncomputable def OM(ta:TE):TE:=λσ H Q=>ta σ H λx H1=>Q (.bl (decide (x=.non))) H1
theorem RelV.none_iff{x:V}{v:Vc}(r:RelV x v):(v==Value.none)=decide (x=.non):=by
 cases x with
 |non=>cases r;rfl
 |bl _=>cases r;rfl
 |int _=>obtain⟨t,rfl⟩:=r;rfl
 |str _=>obtain⟨t,rfl⟩:=r;rfl
 |byt _=>obtain⟨t,rfl⟩:=r;rfl
 |flt _=>obtain⟨t,rfl⟩:=r;rfl
 |ref _=>cases r;rfl
 |ty _=>cases r;rfl
theorem Cb{j pos'}(ha:PE X a ta):PC X .Is a (.Constant .none j pos') (OM ta):=by
 intro pins s σ H Q I h;refine cJ (ha pins s σ H _ I h) λv s1 ⟨x,H1,I1,r1,q1⟩=>?_;exact Constant_none (is_none_gen ⟨.bl _,H1,I1,by rw[r1.none_iff];rfl,q1⟩)
noncomputable def tB(t:TE):TT:=λσ H Q=>t σ H λx H1=>∃c,x=.bl c/\Q c H1
theorem HA{op:Vv}{t:TE}(h:PC X op a b t)(h1:Vx op b=false:=by first|exact vi _ (by decide) (by decide)|rfl):PE X (.Compare a [op] [b] pos) t:=λpins s σ H Q I hw=>wpAny_Compare1 (h pins s σ H Q I hw) h1
theorem Ht{op:Vv}{t:TE}(h:PC X op a b t)(h1:Vx op b=false:=by first|exact vi _ (by decide) (by decide)|rfl):PT X (.Compare a [op] [b] pos) (tB t):=by
 intro pins s σ H Q I hw;refine wpAny_isTrue_Compare1 (cJ (h pins s σ H _ I hw) λv s1 h1=>cJ h1 λu s2 h2=>cJ h2 λc s3 ⟨x,H1,I1,r1,q1⟩=>?_) h1;obtain⟨d,rfl,q⟩:=q1;cases r1;exact Vy ⟨H1,I1,q⟩
variable{tA tB':TT}{rest:bu}
noncomputable def MM(t u:TT):TT:=λσ H Q=>t σ H λc H1=>if c=true then u σ H1 Q else Q false H1
noncomputable def QA(t u:TT):TT:=λσ H Q=>t σ H λc H1=>if c=true then Q true H1 else u σ H1 Q
noncomputable def M9(t:TT):TT:=λσ H Q=>t σ H λc H1=>Q (!c) H1
theorem E6(ha:PT X a tA):PW X (.BoolOp .And [a] pos) tA:=by
 intro wh pins s σ H Q I h;refine isTrue_and (cJ (ha pins s σ H Q I h) λc s1 e=>?_);cases c with
 |true=>exact isTrue_and_nil e
 |false=>exact e
theorem G3(ha:PT X a tA):PW X (.BoolOp .Or [a] pos) tA:=by
 intro wh pins s σ H Q I h;refine isTrue_or (cJ (ha pins s σ H Q I h) λc s1 e=>?_);cases c with
 |false=>exact isTrue_or_nil e
 |true=>exact e
theorem G1(ha:PT X a tA)(hb:PW X (.BoolOp .And (b::rest) pos) tB'):PW X (.BoolOp .And (a::b::rest) pos) (MM tA tB'):=by
 intro wh pins s σ H Q I h;refine isTrue_and (cJ (ha pins s σ H _ I h) λc s1 ⟨H1,I1,q1⟩=>?_);cases c with
 |true=>exact hb wh pins s1 σ H1 Q I1 q1
 |false=>exact⟨H1,I1,q1⟩
theorem KR(ha:PT X a tA)(hb:PW X (.BoolOp .Or (b::rest) pos) tB'):PW X (.BoolOp .Or (a::b::rest) pos) (QA tA tB'):=by
 intro wh pins s σ H Q I h;refine isTrue_or (cJ (ha pins s σ H _ I h) λc s1 ⟨H1,I1,q1⟩=>?_);cases c with
 |true=>exact⟨H1,I1,q1⟩
 |false=>exact hb wh pins s1 σ H1 Q I1 q1
theorem Im(ha:PT X a tA):PT X (.UnaryOp .Not a pos) (M9 tA):=by
 intro pins s σ H Q I h;exact isTrue_not (ha pins s σ H (λc H1=>Q (!c) H1) I h)
noncomputable def Kh(ta tb:TE):TE:=λσ H Q=>ta σ H λx H1=>∃c,x=.bl c/\if c=true then tb σ H1 Q else Q (.bl false) H1
noncomputable def Oh(ta tb:TE):TE:=λσ H Q=>ta σ H λx H1=>∃c,x=.bl c/\if c=true then Q (.bl true) H1 else tb σ H1 Q
noncomputable def Ko(ta:TE):TE:=λσ H Q=>ta σ H λx H1=>∃c,x=.bl c/\Q (.bl (!c)) H1
theorem IH{op}{t:TE}(h:PE X a t):PE X (.BoolOp op [a] pos) t:=λpins s σ H Q I hw=>BoolOp_one (h pins s σ H Q I hw)
theorem GN(ha:PE X a ta)(hb:PE X (.BoolOp .And (b::rest) pos) tb):PE X (.BoolOp .And (a::b::rest) pos) (Kh ta tb):=by
 intro pins s σ H Q I h;refine BoolOp_and (cJ (ha pins s σ H _ I h) λv s1 ⟨x,H1,I1,r1,q1⟩=>?_);obtain⟨c,rfl,q1⟩:=q1;cases r1;refine Vy ?_;cases c with
 |true=>exact hb pins s1 σ H1 Q I1 q1
 |false=>exact⟨.bl false,H1,I1,rfl,q1⟩
theorem Li(ha:PE X a ta)(hb:PE X (.BoolOp .Or (b::rest) pos) tb):PE X (.BoolOp .Or (a::b::rest) pos) (Oh ta tb):=by
 intro pins s σ H Q I h;refine BoolOp_or (cJ (ha pins s σ H _ I h) λv s1 ⟨x,H1,I1,r1,q1⟩=>?_);obtain⟨c,rfl,q1⟩:=q1;cases r1;refine Vy ?_;cases c with
 |false=>exact hb pins s1 σ H1 Q I1 q1
 |true=>exact⟨.bl true,H1,I1,rfl,q1⟩
theorem Ij(ha:PE X a ta):PE X (.UnaryOp .Not a pos) (Ko ta):=by
 intro pins s σ H Q I h;refine UnaryOp_ (cJ (ha pins s σ H _ I h) λv s1 ⟨x,H1,I1,r1,q1⟩=>?_);obtain⟨c,rfl,q1⟩:=q1;cases r1;exact not_of (Vy ⟨.bl (!c),H1,I1,rfl,q1⟩)
noncomputable def PQ(t:TT)(ta tb:TE):TE:=λσ H Q=>t σ H λc H1=>if c=true then ta σ H1 Q else tb σ H1 Q
theorem Bg{c:Vf}(hc:PT X c tA)(ha:PE X a ta)(hb:PE X b tb):PE X (.IfExp c a b pos) (PQ tA ta tb):=by
 intro pins s σ H Q I h;refine wpAny_IfExp (cJ (hc pins s σ H _ I h) λd s1 ⟨H1,I1,q1⟩=>?_);cases d with
 |true=>exact ha pins s1 σ H1 Q I1 q1
 |false=>exact hb pins s1 σ H1 Q I1 q1
end
noncomputable def mL(K:T3)(H:Hp)(a:Ve)(xs:aH):Prop:=
 Rd H a (.lst xs) \/
  ∃(o:Obj)(its:Array Vc)(n:Nat),K.lookup a=some o/\o.cls=.type "list"/\o.dict=none/\o.data=.seq its n/\its.size<=Vm/\Vals xs its.toList
noncomputable def oJ(K:T3)(H:Hp)(a:Ve)(xs:aH):Prop:=
 Rd H a (.tup xs) \/
  ∃(o:Obj)(its:Array Vc)(n:Nat),K.lookup a=some o/\o.cls=.type "tuple"/\o.data=.seq its n/\its.size<=Vm/\Vals xs its.toList
noncomputable def OG:Vc->Option V
 |.none=>some .non
 |.bool b=>some (.bl b)
 |.int i _=>some (.int i)
 |.str x _=>some (.str x)
 |.bytes b _=>some (.byt b)
 |.float b _=>some (.flt b)
 |.ref a=>some (.ref a)
 |.type n=>some (.ty n)
 |_=>none
theorem RelV.abs{x:V}{u:Vc}(r:RelV x u):OG u=some x:=by
 cases x with
 |non=>cases r;rfl
 |bl _=>cases r;rfl
 |int _=>obtain⟨t,rfl⟩:=r;rfl
 |str _=>obtain⟨t,rfl⟩:=r;rfl
 |byt _=>obtain⟨t,rfl⟩:=r;rfl
 |flt _=>obtain⟨t,rfl⟩:=r;rfl
 |ref _=>cases r;rfl
 |ty _=>cases r;rfl
theorem RelV.inj{x y:V}{u:Vc}(r:RelV x u)(q:RelV y u):x=y:=Option.some.inj (r.abs.symm.trans q.abs)
theorem Vals.inj:∀{xs ys:aH}{us:aN},Vals xs us->Vals ys us->xs=ys
 |_,_,_,.nil,.nil=>rfl
 |_,_,_,.cons r t,.cons r' t'=>by rw[r.inj r',Vals.inj t t']
section
variable{X:Cx}{pins:aS}{σ:St}{H:Hp}{s:Vh}{a:Ve}{xs ys:aH}
theorem mL.of{K:T3}(h:H a=some (.lst xs)):mL K H a xs:=.inl (.inl h)
theorem oJ.of{K:T3}(h:H a=some (.tup xs)):oJ K H a xs:=.inl (.inl h)
theorem Inv.list(I:Inv X pins σ H s)(h:mL X.K H a xs):∃its:aN,Vals xs its/\PlainL s.heap a its.toArray/\xs.length<=Vm:=by
 rcases h with h|⟨o,its,n,hk,hc,hd,hs,hz,r⟩
 ·obtain⟨z,its,n,r,e⟩:=h.ok I.hok;exact⟨its,r,⟨_,n,e,rfl,rfl,rfl⟩,z⟩
 ·refine⟨its.toList,r,⟨o,n,I.kIn a o hk,hc,hd,by simpa using hs⟩,?_⟩;have e:=r.length;simp only[Array.length_toList]at e;omega
theorem Inv.tuple(I:Inv X pins σ H s)(h:oJ X.K H a xs):∃its:aN,Vals xs its/\IsTup s.heap a its.toArray/\xs.length<=Vm:=by
 rcases h with h|⟨o,its,n,hk,hc,hs,hz,r⟩
 ·obtain⟨z,its,r,p⟩:=h.ok I.hok;exact⟨its,r,p,z⟩
 ·refine⟨its.toList,r,⟨o,I.kIn a o hk,hc,n,by simpa using hs⟩,?_⟩;have e:=r.length;simp only[Array.length_toList]at e;omega
theorem Inv.list_inj(I:Inv X pins σ H s)(h:mL X.K H a xs)(h':mL X.K H a ys):xs=ys:=by
 obtain⟨its,r,⟨o,n,e,_,_,d⟩,_⟩:=I.list h;obtain⟨its',r',⟨o',n',e',_,_,d'⟩,_⟩:=I.list h';rw[e]at e';cases e';rw[d]at d';injection d' with d1 _
 have:its=its':=by simpa using congrArg Array.toList d1
 subst this;exact r.inj r'
theorem Inv.tuple_inj(I:Inv X pins σ H s)(h:oJ X.K H a xs)(h':oJ X.K H a ys):xs=ys:=by
 obtain⟨its,r,⟨o,e,_,n,d⟩,_⟩:=I.tuple h;obtain⟨its',r',⟨o',e',_,n',d'⟩,_⟩:=I.tuple h';rw[e]at e';cases e';rw[d]at d';injection d' with d1 _
 have:its=its':=by simpa using congrArg Array.toList d1
 subst this;exact r.inj r'
end
noncomputable abbrev Cx.wish(X:Cx)(E:bJ):Cx:={X with xe:=E}
noncomputable abbrev Cx.nox(X:Cx):Cx:=X.wish λ_ _=>False
theorem Cx.Ok.wish{X:Cx}(ok:X.Ok)(E:bJ):(X.wish E).Ok:=
 ⟨ok.mod,ok.kind,ok.glob,ok.blt,ok.above,ok.inj,ok.has,ok.cab,ok.hd,ok.frames,ok.stk,ok.exf,ok.bs,ok.bsz,ok.noex,ok.exfs,ok.funs,ok.frf⟩
theorem Cx.Ok.unwish{X:Cx}{E:bJ}(ok:(X.wish E).Ok):X.Ok:=
 ⟨ok.mod,ok.kind,ok.glob,ok.blt,ok.above,ok.inj,ok.has,ok.cab,ok.hd,ok.frames,ok.stk,ok.exf,ok.bs,ok.bsz,ok.noex,ok.exfs,ok.funs,ok.frf⟩
section
variable{X:Cx}{pins:aS}{σ:St}{H:Hp}{s:Vh}{E:bJ}
theorem Inv.wish(I:Inv X pins σ H s)(E:bJ):Inv (X.wish E) pins σ H s:=⟨I.ok.wish E,I.os,I.bare,I.base,I.loc,I.cell,I.free,I.freeC,I.pin,I.hok,I.len⟩
theorem Inv.unwish(I:Inv (X.wish E) pins σ H s):Inv X pins σ H s:=⟨I.ok.unwish,I.os,I.bare,I.base,I.loc,I.cell,I.free,I.freeC,I.pin,I.hok,I.len⟩
theorem SP.unwish{D:Ends}{f:Flow}{s':Vh}(h:SP (X.wish E) pins D f s'):SP X pins D f s':=by
 cases f with
 |next=>obtain⟨σ',H',I,q⟩:=h;exact⟨σ',H',I.unwish,q⟩
 |brk=>obtain⟨σ',H',I,q⟩:=h;exact⟨σ',H',I.unwish,q⟩
 |cont=>obtain⟨σ',H',I,q⟩:=h;exact⟨σ',H',I.unwish,q⟩
 |ret u=>obtain⟨v,σ',H',I,r,q⟩:=h;exact⟨v,σ',H',I.unwish,r,q⟩
theorem uG.nox{st:eK}{t:TS}(h:uG X.nox st t):uG X st t:=λpins s σ H D I hw=>
 Vu (h pins s σ H D (I.wish _) hw) (λ_ _ q=>q.unwish) λ_ _ z=>False.elim z
end
section
variable{X:Cx}{st:Vg}{rest:eK}{t u:TS}{e:Vf}{te:TE}{pos:Pos}
noncomputable def AX:TS:=λD σ H=>D.nx σ H
noncomputable def NE(t u:TS):TS:=λD σ H=>t {D with nx:=u D} σ H
theorem yn:uG X [] AX:=λ_ _ σ H _ I h=>Vz ⟨σ,H,I,h⟩
theorem uQ(h1:PS X st t)(h2:uG X rest u):uG X (st::rest) (NE t u):=by
 intro pins s σ H D I h;refine wpAny_execs_cons (cJ (h1 pins s σ H {D with nx:=u D} I h) λf s1 q=>?_);cases f with
 |next=>
  obtain⟨σ',H',I',q⟩:=q;exact h2 pins s1 σ' H' D I' q
 |ret v=>exact q
 |brk=>exact q
 |cont=>exact q
theorem t5(h1:PS X st t):uG X [st] t:=by
 intro pins s σ H D I h;refine wpAny_execs_cons (cJ (h1 pins s σ H D I h) λf s1 q=>?_);cases f with
 |next=>exact Vz q
 |ret v=>exact q
 |brk=>exact q
 |cont=>exact q
theorem EY:PS X (.Pass pos) AX:=λ_ _ σ H _ I h=>wpAny_Pass ⟨σ,H,I,h⟩
theorem Inv.quiet{pins:aS}{σ:St}{H:Hp}{s:Vh}(I:Inv X pins σ H s):interactive X.env=false:=by simp[interactive,I.ok.kind]
theorem Ig{x j pos pos'}:PS X (.Expr (.Constant (.str x) j pos) pos') AX:=λ_ s σ H _ I h=>wpAny_Expr (Calls.Constant_str (show SP X _ _ .next {s with toks:=s.toks+1}from⟨σ,H,I.tok _,h⟩)) I.quiet
noncomputable def Lb(te:TE):TS:=λD σ H=>te σ H λ_ H1=>D.nx σ H1
theorem xC(he:PE X e te)(hs:swapsWith e none pos.line X.env=pure false:=by rfl):PS X (.Expr e pos) (Lb te):=by
 intro pins s σ H D I h;exact wpAny_Expr_any (cJ (he pins s σ H _ I h) λv s1 ⟨x,H1,I1,r1,q1⟩=>⟨σ,H1,I1,q1⟩) I.quiet hs
noncomputable def O0(te:TE):TS:=λD σ H=>te σ H D.rt
theorem Ii(he:PE X e te):PS X (.Return (some e) pos) (O0 te):=by
 intro pins s σ H D I h;exact wpAny_Return_some (cJ (he pins s σ H _ I h) λv s1 ⟨x,H1,I1,r1,q1⟩=>⟨x,σ,H1,I1,r1,q1⟩)
noncomputable def OX(c:TT)(t u:TS):TS:=λD σ H=>c σ H λb H1=>if b=true then t D σ H1 else u D σ H1
theorem Ly{c:Vf}{a b:eK}{tc:TT}(hc:PT X c tc)(ha:uG X a t)(hb:uG X b u):PS X (.If c a b pos) (OX tc t u):=by
 intro pins s σ H D I h;refine wpAny_If (cJ (hc pins s σ H _ I h) λd s1 ⟨H1,I1,q1⟩=>?_);cases d with
 |true=>exact ha pins s1 σ H1 D I1 q1
 |false=>exact hb pins s1 σ H1 D I1 q1
end
noncomputable abbrev TG:=V->St->Hp->(St->Hp->Prop)->Prop
noncomputable abbrev FU:=List V->St->Hp->(St->Hp->Prop)->Prop
noncomputable def PG(X:Cx)(target:Vf)(t:TG):Prop:=
 ∀(pins:aS)(s:Vh)(σ:St)(H:Hp)(v:V)(u:Vc)(Q:St->Hp->Prop),Inv X pins σ H s->RelV v u->t v σ H Q->
  Vs (model X.prog X.w) X.A (assign target X.env u) (λ_ s'=>∃σ' H',Inv X pins σ' H' s'/\Q σ' H') X.xe s
noncomputable def Lp(X:Cx)(ts:bu)(t:FU):Prop:=
 ∀(pins:aS)(s:Vh)(σ:St)(H:Hp)(vs:aH)(us:aN)(Q:St->Hp->Prop),Inv X pins σ H s->Vals vs us->t vs σ H Q->
  Vs (model X.prog X.w) X.A (assignInOrder ((assignEach ts X.env).map (·.2)) us) (λ_ s'=>∃σ' H',Inv X pins σ' H' s'/\Q σ' H') X.xe s
section
variable{X:Cx}{pos:Pos}
noncomputable def sK(i:Nat):TG:=λv σ H Q=>Q (σ.set i (some v)) H
theorem EW{i:Nat}{x:Str}(hN:X.N.Nodup)(hi:X.N[i]?=some x)(hx:Loc X.env.scope x)(hf:X.fn x=true\/X.env.scope.names.lookup x=some .local:=by first|exact .inl rfl|exact .inr rfl|assumption):PG X (.Name x pos) (sK i):=by
 intro pins s σ H v u Q I r h;exact wpAny_assign_Name (vf I hN hi hx r (λs' I'=>⟨_,H,I',h⟩) hf)
noncomputable def MS:FU:=λvs σ H Q=>vs=[]/\Q σ H
noncomputable def LZ(t:TG)(u:FU):FU:=λvs σ H Q=>∃v r,vs=v::r/\t v σ H λσ' H'=>u r σ' H' Q
theorem El:Lp X [] MS:=by
 intro pins s σ H vs us Q I r h;obtain⟨e,h⟩:=h;subst e;cases r;exact assignInOrder_nil ⟨σ,H,I,h⟩
theorem Bo{e:Vf}{es:bu}{t:TG}{u:FU}(h1:PG X e t)(h2:Lp X es u)
  (hs:(assignEach (e::es) X.env).map (·.2)=assign e X.env::(assignEach es X.env).map (·.2):=by rfl):Lp X (e::es) (LZ t u):=by
 intro pins s σ H vs us Q I r h;obtain⟨v,vr,e1,h⟩:=h;subst e1;cases r with
 |cons r rr=>
  rw[hs];refine assignInOrder_cons (cJ (h1 pins s σ H _ _ _ I r h) λ_ s1 ⟨σ1,H1,I1,q1⟩=>?_);exact h2 pins s1 σ1 H1 _ _ Q I1 rr q1
noncomputable def OS(K:T3)(n:Nat)(t:FU):TG:=λv σ H Q=>∃a xs,v=.ref a/\oJ K H a xs/\xs.length=n/\t xs σ H Q
theorem GP{es:bu}{k:Nat}{t:FU}{n:Nat}(hc:X.calm=true)(h:Lp X es t)
  (hn:(assignEach es X.env).length=n:=by rfl) (hst:(assignEach es X.env).findIdx? (·.1)=none:=by rfl):PG X (.Tuple es k pos) (OS X.K n t):=by
 intro pins s σ H v u Q I r hw;obtain⟨a,xs,e1,hq,hl,hw⟩:=hw;subst e1;cases r;obtain⟨its,rv,ht,hz⟩:=I.tuple hq;refine assign_Tuple_tuple (I.ok.hd hc) ht (by simp[hn,<-hl,rv.length]) hst λh' hx=>?_;have I1:Inv X pins σ H {s with heap:=h'}:=I.kept (t':=s.toks) λb o e=>hx b o (Rp (UP e)) e;exact h pins _ σ H xs _ Q I1 (by simpa using rv) hw
noncomputable def Cm(te:TE)(g:TG):TS:=λD σ H=>te σ H λx H1=>g x σ H1 D.nx
theorem GQ{tg e:Vf}{te:TE}{g:TG}(he:PE X e te)(hg:PG X tg g)(hs:swapsWithSole [tg] e pos.line X.env=pure false:=by rfl)(hw:swappedStores [tg] e X.env=pure none:=by rfl)
  (h1:(assignEach [tg] X.env).map (·.2)=[assign tg X.env]:=by rfl):PS X (.Assign [tg] e pos) (Cm te g):=by
 intro pins s σ H D I h;refine wpAny_Assign_stores (cJ (he pins s σ H _ I h) λv s1 ⟨x,H1,I1,r1,q1⟩=>?_) hs hw;rw[h1];exact cJ (hg pins s1 σ H1 x v _ I1 r1 q1) λ_ s2 q=>q
theorem Cv{i:Nat}{x:Str}{e:Vf}{te:TE}{pos':Pos}(hN:X.N.Nodup)(hi:X.N[i]?=some x)(hx:Loc X.env.scope x)(he:PE X e te)(hs:swapsWith e (some (.Name x pos')) pos.line X.env=pure false:=by rfl)(hf:X.fn x=true\/X.env.scope.names.lookup x=some .local:=by first|exact .inl rfl|exact .inr rfl|assumption):
  PS X (.Assign [.Name x pos'] e pos) (Cm te (sK i)):=by
 intro pins s σ H D I h;refine wpAny_Assign_Name (cJ (he pins s σ H _ I h) λv s1 ⟨y,H1,I1,r1,q1⟩=>?_) hs;exact vf I1 hN hi hx r1 (λs2 I2=>⟨_,H1,I2,q1⟩) hf
end
structure It where
 go:Nat->Hp->Prop
 yld:Nat->Hp->V->Hp->Prop
 stop:Nat->Hp->Prop
noncomputable def qX(X:Cx)(pins:aS)(H:Hp)(b:Ve):Prop:=
 H b=none/\b≠X.env.locals/\b∉X.fs/\(b∈X.ex\/X.s₀.heap.objs.size<=b)/\(∀x c,X.env.cells.lookup x=some c->c≠b)/\∀p∈X.pn++pins,p.1≠b
theorem Inv.fpOk{X:Cx}{pins:aS}{σ:St}{H H':Hp}{s:Vh}{b:Ve}(I:Inv X pins σ H s)(hb:s.heap.objs.size<=b)(hn:H' b=none):qX X pins H' b:=by
 refine⟨hn,Rz (Rn I.lt hb),I.nofs hb,.inr (Rq I.sz hb),λx c e z=>?_,λp hp z=>?_⟩
 ·obtain⟨v,q⟩:=I.cell x c e;exact absurd (Rn q.lt (by rw[z];exact hb)) (Ro _)
 ·exact absurd (Rn (UP (I.pin p hp).1) (by rw[z];exact hb)) (Ro _)
structure Turn(P:Vj)(w:Vi)(K:T3)(tg:Vf)(J:It)(fp:aD)(it:Ve)(tn:Nat->Vl->Prop):Prop where
 mem:it∈fp
 obj:∀i h,tn i h->∀b∈fp,∃o,h.get? b=some o/\∀v,o.data≠.cell v
 keep:∀i h h',tn i h->(∀b∈fp,∀o,h.get? b=some o->h'.get? b=some o)->tn i h'
 item:∀(X:Cx),X.prog=P->X.w=w->X.K=K->X.calm=true->∀(i:Nat)(pins:aS)(s:Vh)(σ:St)(H:Hp)(E:bJ),Inv X pins σ H s->(∀b∈fp,qX X pins H b)->tn i s.heap->J.go i H->
  Vs (model P w) X.A (pyNext (.ref it)) (λr s1=>∃u,r=some u/\
   Vs (model P w) X.A (letOwnedTupleGo tg (.ref it) u) (λ_ s2=>∃x H',Inv X pins σ H' s2/\RelV x u/\J.yld i H x H'/\tn (i+1) s2.heap/\∀b∈fp,H' b=none) E s1) E s
 done:∀(X:Cx),X.prog=P->X.w=w->X.K=K->X.calm=true->∀(i:Nat)(pins:aS)(s:Vh)(σ:St)(H:Hp)(E:bJ),Inv X pins σ H s->(∀b∈fp,qX X pins H b)->tn i s.heap->J.stop i H->
  Vs (model P w) X.A (pyNext (.ref it)) (λr s1=>r=none/\Inv X pins σ H s1) E s
 self:∀(A:Vp)(i:Nat)(s:Vh)(Q:bJ)(E:bJ),tn i s.heap->Q (.ref it) s->Vs (model P w) A (pyIter (.ref it)) Q E s
noncomputable abbrev TI:=St->Hp->(It->Hp->Prop)->Prop
noncomputable def PIE(X:Cx)(pins:aS)(σ:St)(tg:Vf)(R:It->Hp->Prop)(itv:Vc)(s2:Vh):Prop:=
 ∃(it:Ve)(fp:aD)(tn:Nat->Vl->Prop)(J:It)(H':Hp),itv=.ref it/\Inv X pins σ H' s2/\Turn X.prog X.w X.K tg J fp it tn/\tn 0 s2.heap/\(∀b∈fp,qX X pins H' b)/\R J H'
noncomputable def PI(X:Cx)(tg iter:Vf)(wi:TI):Prop:=
 ∀(pins:aS)(s:Vh)(σ:St)(H:Hp)(R:It->Hp->Prop),Inv X pins σ H s->wi σ H R->
  Vs (model X.prog X.w) X.A (eval iter X.env) (λv s1=>Vs (model X.prog X.w) X.A (pyIter v) (PIE X pins σ tg R) X.xe s1) X.xe s
theorem BV{M:Vr}{A:Vp}{E:bJ}{s:Vh}{tg:Vf}{it:Ve}{u:Vc}{o:Obj}{n:String}{vs:Array Vc}{Q:Unit->df}(ho:s.heap.get? it=some o)(hc:o.cls=.type n)(hd:o.data=.fields vs)
    (hn:["enumerate","zip","dict_itemiterator","dict_reverseitemiterator","odict_iterator","itertools.zip_longest","itertools.pairwise"].contains n=false) (hQ:Q () s):Vs M A (letOwnedTupleGo tg (.ref it) u) Q E s:=by
  unfold letOwnedTupleGo;cases tg<;>first
    |exact VA hQ
    | (cases u <;> first
        |exact VA hQ
        | (refine VB (wpAny_load ho ?_)
           rw[hc,hd];show Vs M A (if(["enumerate","zip","dict_itemiterator","dict_reverseitemiterator","odict_iterator","itertools.zip_longest","itertools.pairwise"].contains n&&vs[0]?==some (rawInt _))=true then _ else _) Q E s;rw[if_neg (by intro h;rw[hn,Bool.false_and]at h;cases h)];exact VA hQ))
noncomputable def MJ(K:T3)(a:Ve):It:=
 ⟨λi H=>∃xs x,mL K H a xs/\xs[i]?=some x,λi H x H'=>H'=H/\∀xs,mL K H a xs->xs[i]?=some x,λi H=>∃xs,mL K H a xs/\xs.length<=i⟩
noncomputable def NK(K:T3)(a:Ve):It:=
 ⟨λi H=>∃xs x,oJ K H a xs/\xs[i]?=some x,λi H x H'=>H'=H/\∀xs,oJ K H a xs->xs[i]?=some x,λi H=>∃xs,oJ K H a xs/\xs.length<=i⟩
noncomputable def J9(lo:Int)(n:Nat):It:=⟨λi _=>i<n,λi H x H'=>H'=H/\x=.int (lo+i),λi _=>n<=i⟩
theorem yE{P:Vj}{w:Vi}{K:T3}{tg:Vf}(a it:Ve):Turn P w K tg (MJ K a) [it] it (λi h=>h.IsListIter it a i)where
 mem:=by simp
 obj:=λi h st b hb=>by
  have e:b=it:=by simpa using hb
  subst e;obtain⟨o,e,c,d⟩:=st;exact⟨o,e,λv z=>by rw[d]at z;cases z⟩
 keep:=λi h h' st k=>st.at λo e=>k it (by simp) o e
 item:=by
  intro X hP hw hK hc i pins s σ H E I hf st hg;subst hP hw hK;obtain⟨xs,x,hq,hx⟩:=hg;obtain⟨its,rv,p,hz⟩:=I.list hq;obtain⟨u,hu,ru⟩:=rv.get hx;obtain⟨f0,f1,f2,f3,f4,f5⟩:=hf it (by simp);refine wpAny_pyNext_list_item st p.isList (x:=u) (by simpa using hu) λh' st' sb=>?_;have I1:Inv X pins σ H {s with heap:=h'}:=I.turned (t':=s.toks) (λb o hb e=>(sb.2 b hb).trans e) f0 f1 f3 f4 f5;obtain⟨o,e,c,d⟩:=id st';exact⟨u,rfl,BV (s:={s with heap:=h'}) e c d (by decide) ⟨x,H,I1,ru,⟨rfl,λys hy=>by rw[I.list_inj hy hq];exact hx⟩,st',λb hb=>(hf b hb).1⟩⟩
 done:=by
  intro X hP hw hK hc i pins s σ H E I hf st hg;subst hP hw hK;obtain⟨xs,hq,hx⟩:=hg;obtain⟨its,rv,p,hz⟩:=I.list hq;obtain⟨f0,f1,f2,f3,f4,f5⟩:=hf it (by simp);have hl:=rv.length;exact wpAny_pyNext_list_end (I.ok.hd hc) st p.isList (by simp;omega) λh' eb=>⟨rfl,I.turned (t':=s.toks) (λb o hb e=>eb b o hb e) f0 f1 f3 f4 f5⟩
 self:=λ_ _ _ _ _ st h=>wpAny_pyIter_listiter st h
theorem xq{P:Vj}{w:Vi}{K:T3}{tg:Vf}(a it:Ve):Turn P w K tg (NK K a) [it] it (λi h=>h.IsTupleIter it a i)where
 mem:=by simp
 obj:=λi h st b hb=>by
  have e:b=it:=by simpa using hb
  subst e;obtain⟨o,e,c,d⟩:=st;exact⟨o,e,λv z=>by rw[d]at z;cases z⟩
 keep:=λi h h' st k=>st.at λo e=>k it (by simp) o e
 item:=by
  intro X hP hw hK hc i pins s σ H E I hf st hg;subst hP hw hK;obtain⟨xs,x,hq,hx⟩:=hg;obtain⟨its,rv,p,hz⟩:=I.tuple hq;obtain⟨u,hu,ru⟩:=rv.get hx;obtain⟨f0,f1,f2,f3,f4,f5⟩:=hf it (by simp);refine wpAny_pyNext_tuple_item st (show s.heap.IsTuple a its.toArray from p) (x:=u) (by simpa using hu) λh' st' sb=>?_;have I1:Inv X pins σ H {s with heap:=h'}:=I.turned (t':=s.toks) (λb o hb e=>(sb.2 b hb).trans e) f0 f1 f3 f4 f5;obtain⟨o,e,c,d⟩:=id st';exact⟨u,rfl,BV (s:={s with heap:=h'}) e c d (by decide) ⟨x,H,I1,ru,⟨rfl,λys hy=>by rw[I.tuple_inj hy hq];exact hx⟩,st',λb hb=>(hf b hb).1⟩⟩
 done:=by
  intro X hP hw hK hc i pins s σ H E I hf st hg;subst hP hw hK;obtain⟨xs,hq,hx⟩:=hg;obtain⟨its,rv,p,hz⟩:=I.tuple hq;obtain⟨f0,f1,f2,f3,f4,f5⟩:=hf it (by simp);have hl:=rv.length;exact wpAny_pyNext_tuple_end (I.ok.hd hc) st (show s.heap.IsTuple a its.toArray from p) (by simp;omega) λh' eb=>⟨rfl,I.turned (t':=s.toks) (λb o hb e=>eb b o hb e) f0 f1 f3 f4 f5⟩
 self:=λ_ _ _ _ _ st h=>wpAny_pyIter_tupleiter st h
theorem wm{P:Vj}{w:Vi}{K:T3}{tg:Vf}(it:Ve)(lo:Int)(n:Nat):Turn P w K tg (J9 lo n) [it] it (λi h=>IsRangeIter h it (lo+(i:Nat)*1) ((n:Int)-(i:Nat)) 1)where
 mem:=by simp
 obj:=λi h st b hb=>by
  have e:b=it:=by simpa using hb
  subst e;exact⟨_,st,λv z=>by
   have z':Data.fields _=Data.cell v:=z;cases z'⟩
 keep:=λi h h' st k=>k it (by simp) _ st
 item:=by
  intro X hP hw hK hc i pins s σ H E I hf st hg;subst hP hw hK;obtain⟨f0,f1,f2,f3,f4,f5⟩:=hf it (by simp);have W:=Walks.range (prog:=X.prog) (w:=X.w) (I.ok.hd hc) it lo 1 n;refine W.item i s _ _ hg st λv h' tk hv st' kk=>?_;obtain⟨t,rfl⟩:=hv;have I1:Inv X pins σ H {s with heap:=h',toks:=tk}:=I.turned (λb o hb e=>kk b o (by simpa using hb) e) f0 f1 f3 f4 f5;refine⟨_,rfl,BV (s:={s with heap:=h',toks:=tk}) (n:="range_iterator") st' rfl rfl (by decide) ⟨.int (lo+i),H,I1,⟨t,?_⟩,⟨rfl,rfl⟩,st',λb hb=>(hf b hb).1⟩⟩;rw[Int.mul_one]
 done:=by
  intro X hP hw hK hc i pins s σ H E I hf st hg;subst hP hw hK;obtain⟨f0,f1,f2,f3,f4,f5⟩:=hf it (by simp);exact wpAny_pyNext_range_end (I.ok.hd hc) st (by have:n<=i:=hg;omega) λh' eb=>⟨rfl,I.turned (t':=s.toks) (λb o hb e=>eb b o hb e) f0 f1 f3 f4 f5⟩
 self:=λ_ _ _ _ _ st h=>wpAny_pyIter_rangeiter st h
section
variable{X:Cx}{tg:Vf}
noncomputable def Lv(K:T3)(tl:TE):TI:=λσ H R=>tl σ H λx H1=>∃a,x=.ref a/\(∃xs,mL K H1 a xs)/\R (MJ K a) H1
noncomputable def Ol(K:T3)(tl:TE):TI:=λσ H R=>tl σ H λx H1=>∃a,x=.ref a/\(∃xs,oJ K H1 a xs)/\R (NK K a) H1
theorem xL{l:Vf}{tl:TE}(hl:PE X l tl):PI X tg l (Lv X.K tl):=by
 intro pins s σ H R I h;refine cJ (hl pins s σ H _ I h) λv s1 ⟨x,H1,I1,r1,q1⟩=>?_;obtain⟨a,e,⟨xs,hq⟩,q⟩:=q1;subst e;cases r1;obtain⟨its,rv,p,hz⟩:=I1.list hq;refine VC p.isList ?_;refine⟨s1.heap.objs.size,[s1.heap.objs.size],_,_,H1,rfl,I1.kept (t':=s1.toks) λb o e=>UT _ e,yE a _,⟨_,UU _ rfl,rfl,rfl⟩,λb hb=>?_,q⟩;have e:b=s1.heap.objs.size:=by simpa using hb
 subst e;exact I1.fpOk (RB _) (I1.hok.fresh (RB _))
theorem IZ{l:Vf}{tl:TE}(hl:PE X l tl):PI X tg l (Ol X.K tl):=by
 intro pins s σ H R I h;refine cJ (hl pins s σ H _ I h) λv s1 ⟨x,H1,I1,r1,q1⟩=>?_;obtain⟨a,e,⟨xs,hq⟩,q⟩:=q1;subst e;cases r1;obtain⟨its,rv,p,hz⟩:=I1.tuple hq;refine wpAny_pyIter_tuple (show s1.heap.IsTuple a its.toArray from p) ?_;refine⟨s1.heap.objs.size,[s1.heap.objs.size],_,_,H1,rfl,I1.kept (t':=s1.toks) λb o e=>UT _ e,xq a _,⟨_,UU _ rfl,rfl,rfl⟩,λb hb=>?_,q⟩;have e:b=s1.heap.objs.size:=by simpa using hb
 subst e;exact I1.fpOk (RB _) (I1.hok.fresh (RB _))
theorem uR{pins:aS}{σ:St}{H:Hp}{s:Vh}{R:It->Hp->Prop}{E:bJ}{lo hi:Int}{t u v:Tok}{tk:Nat}(I:Inv X pins σ H s)(h1:-(2^62)<=lo)(h2:lo<2^62)(h3:-(2^62)<=hi)(h4:hi<2^62)
  (q:R (J9 lo (hi-lo).toNat) H):Vs (model X.prog X.w) X.A (pyIter (.ref s.heap.objs.size)) (PIE X pins σ tg R) E {s with heap:=s.heap.push {cls:=.type "range",data:=.fields #[.int lo t,.int hi u,.int 1 v]},toks:=tk}:=by
 refine wpAny_pyIter_range (IsRange.new ..) (small_one h1 h2 h3 h4) ?_;have I1:Inv X pins σ H {s with heap:=s.heap.push {cls:=.type "range",data:=.fields #[.int lo t,.int hi u,.int 1 v]},toks:=tk}:=I.kept λb o e=>UT _ e;refine⟨(s.heap.push {cls:=.type "range",data:=.fields #[.int lo t,.int hi u,.int 1 v]}).objs.size,[(s.heap.push {cls:=.type "range",data:=.fields #[.int lo t,.int hi u,.int 1 v]}).objs.size],_,_,H,rfl,
  I1.kept (t':=tk) λb o e=>UT _ e,wm _ lo (hi-lo).toNat,?_,λb hb=>?_,q⟩
 ·have e1:lo+((0:Nat):Int)*1=lo:=by simp
  have e2:(((hi-lo).toNat:Nat):Int)-((0:Nat):Int)=Builtin.Range.rangeSize lo hi 1:=by rw[rangeSize_one];split<;>omega
  show IsRangeIter _ _ (lo+((0:Nat):Int)*1) ((((hi-lo).toNat:Nat):Int)-((0:Nat):Int)) 1;rw[e1,e2];exact UU _ rfl
 ·have e:b=(s.heap.push {cls:=.type "range",data:=.fields #[.int lo t,.int hi u,.int 1 v]}).objs.size:=by simpa using hb
  subst e;exact I1.fpOk (RB _) (I1.hok.fresh (RB _))
noncomputable def Lq(ta:TA):TI:=λσ H R=>ta σ H λvs H1=>∃j:Int,vs=[.int j]/\-(2^62)<=j/\j<2^62/\R (J9 0 j.toNat) H1
noncomputable def KN(ta:TA):TI:=λσ H R=>ta σ H λvs H1=>∃i j:Int,vs=[.int i,.int j]/\(-(2^62)<=i/\i<2^62/\-(2^62)<=j/\j<2^62)/\R (J9 i (j-i).toNat) H1
theorem zX{a:Vf}{ta:TA}{p pos:Pos}(hg:Gl X "range")(hm:X.mg "range"=none)(ha:PA X [a] ta)(hs:Vt [a] X.env=[(false,eval a X.env)]:=by rfl):PI X tg (.Call (.Name "range" p) [a] [] pos) (Lq ta):=by
 intro pins s σ H R I h;refine Call_ (lM I hg hm boot_range (U3 (cJ (ha pos pins s σ H _ I h) λus s1 ⟨vs,H1,I1,r1,q1⟩=>?_) hs rfl));obtain⟨j,e,q1,q2,q⟩:=q1;subst e;cases r1 with
 |cons r rr=>
  cases rr;obtain⟨t,rfl⟩:=r;exact call_range_1 (uR I1 ‹0› ‹0› q1 q2 (by simpa using q))
theorem Ah{a b:Vf}{ta:TA}{p pos:Pos}(hg:Gl X "range")(hm:X.mg "range"=none)(ha:PA X [a,b] ta)(hs:Vt [a,b] X.env=[(false,eval a X.env),(false,eval b X.env)]:=by rfl)(hs2:Vt [b] X.env=[(false,eval b X.env)]:=by rfl):
  PI X tg (.Call (.Name "range" p) [a,b] [] pos) (KN ta):=by
 intro pins s σ H R I h;refine Call_ (lM I hg hm boot_range (U3 (cJ (ha pos pins s σ H _ I h) λus s1 ⟨vs,H1,I1,r1,q1⟩=>?_) (by rw[hs,hs2]) (by rw[hs2];rfl)));obtain⟨i,j,e,⟨q1,q2,q3,q4⟩,q⟩:=q1;subst e;cases r1 with
 |cons r rr=>
  cases rr with
  |cons r' rr=>
   cases rr;obtain⟨t,rfl⟩:=r;obtain⟨t',rfl⟩:=r';exact call_range_2 (uR I1 q1 q2 q3 q4 q)
noncomputable def MQ(wi:TI)(g:TG)(tb:TS):TS:=λD σ H=>wi σ H λJ H1=>∃W:Nat->Nat->St->Hp->Prop,(∃m,W 0 m σ H1)/\∀i m σ H,W i m σ H->
 (J.stop i H/\D.nx σ H)\/(J.go i H/\∃N:St->Hp->Prop,(∀σ' H',N σ' H'->∃m',m'<m/\W (i+1) m' σ' H')/\∀x H',J.yld i H x H'->g x σ H' λσ2 H2=>tb {D with nx:=N,ct:=N,bk:=D.nx} σ2 H2)
noncomputable def qd(fp:aD)(h:Vl):aS:=fp.filterMap λb=>(h.get? b).map λo=>(b,o)
theorem jk{fp:aD}{h:Vl}{b:Ve}{o:Obj}(hb:b∈fp)(e:h.get? b=some o):(b,o)∈qd fp h:=List.mem_filterMap.mpr ⟨b,hb,by rw[e];rfl⟩
theorem Ap{fp:aD}{h:Vl}{p:Ve×Obj}(hp:p∈qd fp h):p.1∈fp/\h.get? p.1=some p.2:=by
 obtain⟨b,hb,e⟩:=List.mem_filterMap.mp hp;cases q:h.get? b with
 |none=>rw[q]at e;cases e
 |some o=>
  rw[q]at e;have e':(b,o)=p:=Option.some.inj e;subst e';exact⟨hb,q⟩
theorem Inv.pinned{pins:aS}{σ:St}{H:Hp}{s:Vh}{fp:aD}(I:Inv X pins σ H s)(hf:∀b∈fp,qX X pins H b)(ho:∀b∈fp,∃o,s.heap.get? b=some o/\∀v,o.data≠.cell v):Inv X (pins++qd fp s.heap) σ H s:=
 I.pins_of λp hp=>(List.mem_append.mp hp).elim (λz=>I.pin p (RC _ z)) λz=>by
  obtain⟨hb,e⟩:=Ap z;obtain⟨f0,f1,f2,_⟩:=hf p.1 hb;obtain⟨o,e',d⟩:=ho p.1 hb;rw[e]at e';cases e';exact⟨e,f0,f1,f2,d⟩
theorem Inv.unpinned{pins pl:aS}{σ:St}{H:Hp}{s:Vh}(I:Inv X (pins++pl) σ H s):Inv X pins σ H s:=I.pins_of λp hp=>I.pin p (RC _ (Rw _ hp))
theorem HR{iter:Vf}{body:eK}{wi:TI}{g:TG}{tb:TS}{pos:Pos}(hp:VD (model X.prog X.w) X.A X.env X.xe)(hc:X.calm=true)(hi:PI X tg iter wi)(hg:PG X tg g)(hb:uG X body tb)
  (hs:∀x,VE iter X.env x=pure x:=by intro _;rfl):PS X (.For tg iter body [] pos) (MQ wi g tb):=by
 intro pins s σ H D I h;refine wpAny_For (cJ (hi pins s σ H _ I h) λv s1 h1=>cJ h1 λitv s2 h2=>?_) hs;obtain⟨it,fp,tn,J,H2,e,I2,T,st2,f2,W,⟨m0,w0⟩,turn⟩:=h2;subst e;have stat:∀{H':Hp},(∀b∈fp,H' b=none)->∀b∈fp,qX X pins H' b:=λhn b hb=>⟨hn b hb,(f2 b hb).2⟩
 refine codeAny_forLoop_any (λn s'=>∃i σ' H',Inv X pins σ' H' s'/\tn i s'.heap/\(∀b∈fp,H' b=none)/\W i n σ' H') ?_ m0 ⟨0,σ,H2,I2,st2,λb hb=>(f2 b hb).1,w0⟩;rintro n s3 ⟨i,σ3,H3,I3,st3,fr3,w3⟩;rcases turn i n σ3 H3 w3 with⟨stop,qn⟩|⟨go,N,hN,step⟩
 ·refine VF hp (cJ (T.done X rfl rfl rfl hc i pins s3 σ3 H3 X.xe I3 (stat fr3) st3 stop) λr s4 ⟨hr,I4⟩=>?_);subst hr;exact Vz ⟨σ3,H3,I4,qn⟩
 ·refine VF hp (cJ (T.item X rfl rfl rfl hc i pins s3 σ3 H3 X.xe I3 (stat fr3) st3 go) λr s4 ⟨u,hr,h4⟩=>?_);subst hr;refine VF hp (cJ h4 λ_ s5 ⟨x,H5,I5,r5,y5,st5,fr5⟩=>?_);have I5':=I5.pinned (stat fr5) (T.obj _ _ st5);refine VF hp (cJ (hg _ s5 σ3 H5 x u _ I5' r5 (step x H5 y5)) λ_ s6 ⟨σ6,H6,I6,q6⟩=>?_);refine VF hp (cJ (hb _ s6 σ6 H6 _ I6 q6) λf s7 q7=>?_);have again:∀{σ7:St}{H7:Hp},Inv X (pins++qd fp s5.heap) σ7 H7 s7->N σ7 H7->∃m,m<n/\∃i σ' H',Inv X pins σ' H' s7/\tn i s7.heap/\(∀b∈fp,H' b=none)/\W i m σ' H':=λ{σ7 H7} I7 n7=>by
   obtain⟨m',hm,w7⟩:=hN σ7 H7 n7;refine⟨m',hm,i+1,σ7,H7,I7.unpinned,T.keep _ _ _ st5 λb hb o e=>(I7.pin (b,o) (RC _ (RC _ (jk hb e)))).1,λb hb=>?_,w7⟩;obtain⟨o,e,d⟩:=T.obj _ _ st5 b hb;exact(I7.pin (b,o) (RC _ (RC _ (jk hb e)))).2.1
  cases f with
  |next=>obtain⟨σ7,H7,I7,n7⟩:=q7;exact again I7 n7
  |cont=>obtain⟨σ7,H7,I7,n7⟩:=q7;exact again I7 n7
  |brk=>obtain⟨σ7,H7,I7,q7⟩:=q7;exact⟨σ7,H7,I7.unpinned,q7⟩
  |ret v=>obtain⟨x7,σ7,H7,I7,r7,q7⟩:=q7;exact⟨x7,σ7,H7,I7.unpinned,r7,q7⟩
end
noncomputable abbrev R2:=V->V->Hp->VK->Prop
noncomputable def iA(X:Cx)(f:Vc->Vc->Sem Vc)(r:R2):Prop:=
 ∀(pins:aS)(s:Vh)(σ:St)(H:Hp)(x y:V)(v u:Vc)(Q:VK),Inv X pins σ H s->RelV x v->RelV y u->r x y H Q->
  Vs (model X.prog X.w) X.A (f v u) (EP X pins σ Q) X.xe s
noncomputable def Np(X:Cx)(f:Vc->Sem Vc)(r:V->Hp->VK->Prop):Prop:=
 ∀(pins:aS)(s:Vh)(σ:St)(H:Hp)(x:V)(v:Vc)(Q:VK),Inv X pins σ H s->RelV x v->r x H Q->
  Vs (model X.prog X.w) X.A (f v) (EP X pins σ Q) X.xe s
noncomputable def eX(X:Cx)(f:Vc)(r:aH->Hp->VK->Prop):Prop:=
 ∀(pins:aS)(s:Vh)(σ:St)(H:Hp)(xs:aH)(us:aN)(Q:VK),Inv X pins σ H s->Vals xs us->r xs H Q->
  Vs (model X.prog X.w) X.A (call f us) (EP X pins σ Q) X.xe s
noncomputable def MG(X:Cx)(r:V->Hp->(Bool->Hp->Prop)->Prop):Prop:=
 ∀(pins:aS)(s:Vh)(σ:St)(H:Hp)(x:V)(v:Vc)(Q:Bool->Hp->Prop),Inv X pins σ H s->RelV x v->r x H Q->
  Vs (model X.prog X.w) X.A (truthy v) (TP X pins σ Q) X.xe s
noncomputable def LV(r:R2)(ta tb:TE):TE:=λσ H Q=>ta σ H λx H1=>tb σ H1 λy H2=>r x y H2 Q
noncomputable def Pj(r:V->Hp->VK->Prop)(ta:TE):TE:=λσ H Q=>ta σ H λx H1=>r x H1 Q
noncomputable def rI(C:Int->Int->Prop)(g:Int->Int->V):R2:=λx y H Q=>∃i j,x=.int i/\y=.int j/\C i j/\Q (g i j) H
noncomputable def zQ(g:Int->Int->V):R2:=λx y H Q=>∃i j,x=.int i/\y=.int j/\Q (g i j) H
noncomputable def rU(g:Int->V):V->Hp->VK->Prop:=λx H Q=>∃i,x=.int i/\Q (g i) H
section
variable{X:Cx}{a b c:Vf}{ta tb tc:TE}{pos:Pos}
theorem Hs(ha:PE X a ta)(hb:PE X b tb){pins:aS}{s:Vh}{σ:St}{H:Hp}{R:V->V->Hp->Prop}(I:Inv X pins σ H s)
  (h:ta σ H λx H1=>tb σ H1 λy H2=>R x y H2) {Q:bJ} {f:Vc->Vc->Sem Vc}
  (hf:∀v u s2 x y H2,Inv X pins σ H2 s2->RelV x v->RelV y u->R x y H2->Vs (model X.prog X.w) X.A (f v u) Q X.xe s2):
  Vs (model X.prog X.w) X.A (eval a X.env) (λv s₁=>Vs (model X.prog X.w) X.A (eval b X.env) (λu s₂=>Vs (model X.prog X.w) X.A (f v u) Q X.xe s₂) X.xe s₁) X.xe s:=by
 refine cJ (ha pins s σ H _ I h) λv s1 ⟨x,H1,I1,r1,q1⟩=>?_;refine cJ (hb pins s1 σ H1 _ I1 q1) λu s2 ⟨y,H2,I2,r2,q2⟩=>?_;exact hf v u s2 x y H2 I2 r1 r2 q2
theorem KW{op:Operator}{r:R2}(ho:iA X (VG op) r)(ha:PE X a ta)(hb:PE X b tb):PE X (.BinOp a op b pos) (LV r ta tb):=by
 intro pins s σ H Q I h;exact wpAny_BinOp (Hs ha hb I h λv u s2 x y H2 I2 rx ry q=>ho pins s2 σ H2 x y v u Q I2 rx ry q)
theorem KJ{op:UnaryOp}{r:V->Hp->VK->Prop}(ho:Np X (unaryOp op) r)(ha:PE X a ta):PE X (.UnaryOp op a pos) (Pj r ta):=by
 intro pins s σ H Q I h;exact UnaryOp_ (cJ (ha pins s σ H _ I h) λv s1 ⟨x,H1,I1,r1,q1⟩=>ho pins s1 σ H1 x v Q I1 r1 q1)
theorem Kp{f:Vc->Vc->Sem Vc}{C:Int->Int->Prop}{g:Int->Int->Int}
  (rule:∀(i j:Int)(t u:Tok)(s:Vh)(Q:bJ)(E:bJ),C i j->Q (.int (g i j) s.toks) {s with toks:=s.toks+1}->Vs (model X.prog X.w) X.A (f (.int i t) (.int j u)) Q E s):
  iA X f (rI C λi j=>.int (g i j)):=by
 intro pins s σ H x y v u Q I rx ry h;obtain⟨i,j,rfl,rfl,hc,q⟩:=h;obtain⟨t,rfl⟩:=rx;obtain⟨t',rfl⟩:=ry;exact rule i j t t' s _ _ hc ⟨.int (g i j),H,I.tok _,⟨_,rfl⟩,q⟩
theorem G0{f:Vc->Vc->Sem Vc}{g:Int->Int->Int}
  (rule:∀(i j:Int)(t u:Tok)(s:Vh)(Q:bJ)(E:bJ),Q (.int (g i j) s.toks) {s with toks:=s.toks+1}->Vs (model X.prog X.w) X.A (f (.int i t) (.int j u)) Q E s):
  iA X f (zQ λi j=>.int (g i j)):=by
 intro pins s σ H x y v u Q I rx ry h;obtain⟨i,j,rfl,rfl,q⟩:=h;obtain⟨t,rfl⟩:=rx;obtain⟨t',rfl⟩:=ry;exact rule i j t t' s _ _ ⟨.int (g i j),H,I.tok _,⟨_,rfl⟩,q⟩
theorem Ey{f:Vc->Vc->Sem Vc}{g:Int->Int->Bool}
  (rule:∀(i j:Int)(t u:Tok)(s:Vh)(Q:bJ)(E:bJ),Q (.bool (g i j)) s->Vs (model X.prog X.w) X.A (f (.int i t) (.int j u)) Q E s):
  iA X f (zQ λi j=>.bl (g i j)):=by
 intro pins s σ H x y v u Q I rx ry h;obtain⟨i,j,rfl,rfl,q⟩:=h;obtain⟨t,rfl⟩:=rx;obtain⟨t',rfl⟩:=ry;exact rule i j t t' s _ _ ⟨.bl (g i j),H,I,rfl,q⟩
noncomputable def K9(i j:Int):Prop:=0<=j/\j<=1000000/\i.natAbs<2^64
noncomputable def I0(i j:Int):Prop:=(-(2^64)<i/\i<2^64)\/(-(2^64)<j/\j<2^64)
theorem I0.ok{i j:Int}(h:I0 i j):IntMulOk i j:=by
 rcases h with⟨h1,h2⟩|⟨h1,h2⟩
 ·exact .of_left (intBits_le_64 h1 h2)
 ·exact .of_right (intBits_le_64 h1 h2)
theorem wf(k:Nat):(0:Int)<=2^k:=by
 rw[two_pow_cast];exact Int.natCast_nonneg _
theorem Hl:iA X (VG .Add) (zQ λi j=>.int (i+j)):=G0 λ_ _ _ _ _ _ _ q=>add_int q
theorem GI:iA X (VG .Sub) (zQ λi j=>.int (i-j)):=G0 λ_ _ _ _ _ _ _ q=>sub_int q
theorem AW:iA X (VG .Mult) (rI I0 λi j=>.int (i*j)):=Kp λ_ _ _ _ _ _ _ hc q=>mul_int q hc.ok
theorem HW:iA X (VG .Mod) (rI (λ_ j=>0<j) λi j=>.int (i%j)):=Kp λi j _ _ _ _ _ hc q=>by
 have h1:(0:Int)<j:=hc;exact mod_int' ‹0› (by rw[Int.fmod_eq_emod_of_nonneg i ‹0›];exact q)
theorem Iz:iA X (VG .Pow) (rI K9 λi j=>.int (i^j.toNat)):=Kp λ_ _ _ _ _ _ _ hc q=>pow_int_small hc.1 hc.2.1 hc.2.2 q
theorem HF:iA X (VG .RShift) (rI (λ_ j=>0<=j) λi j=>.int (i/2^j.toNat)):=Kp λi j _ _ _ _ _ hc q=>
 rshift_int hc (by rw[RD i (wf _)];exact q)
theorem G5:iA X (VG .BitAnd) (zQ λi j=>.int (Builtin.bitAnd i j)):=G0 λ_ _ _ _ _ _ _ q=>and_int q
theorem QF{f:Vc->Sem Vc}{g:Int->Int}
  (rule:∀(i:Int)(t:Tok)(s:Vh)(Q:bJ)(E:bJ),Q (.int (g i) s.toks) {s with toks:=s.toks+1}->Vs (model X.prog X.w) X.A (f (.int i t)) Q E s):
  Np X f (rU λi=>.int (g i)):=by
 intro pins s σ H x v Q I rx h;obtain⟨i,rfl,q⟩:=h;obtain⟨t,rfl⟩:=rx;exact rule i t s _ _ ⟨.int (g i),H,I.tok _,⟨_,rfl⟩,q⟩
theorem HV:Np X (unaryOp .USub) (rU λi=>.int (-i)):=QF λ_ _ _ _ _ q=>neg_int q
end
section
variable{X:Cx}{a b c:Vf}{ta tb tc:TE}{pos:Pos}
theorem Cq{pins:aS}{σ:St}{H:Hp}{s:Vh}{Q:VK}{k k':Bool}(I:Inv X pins σ H s)(q:Q (.bl k) H)(e:k=k'):EP X pins σ Q (.bool k') s:=by
 subst e;exact⟨.bl k,H,I,rfl,q⟩
theorem Kb:iA X (Vw .Lt) (zQ λi j=>.bl (decide (i<j))):=Ey λ_ _ _ _ _ _ _ q=>lt_int q
theorem oG:iA X (Vw .LtE) (zQ λi j=>.bl (decide (i<=j))):=Ey λ_ _ _ _ _ _ _ q=>le_int q
theorem Ga:iA X (Vw .Gt) (zQ λi j=>.bl (decide (j<i))):=Ey λ_ _ _ _ _ _ _ q=>gt_int q
theorem FY:iA X (Vw .GtE) (zQ λi j=>.bl (decide (j<=i))):=Ey λ_ _ _ _ _ _ _ q=>ge_int q
theorem yO:iA X (Vw .Lt) (λx y H Q=>∃i j,x=.str i/\y=.str j/\Q (.bl (decide (i.cps.toList<j.cps.toList))) H):=by
 intro pins s σ H x y v u Q I rx ry h;obtain⟨i,j,rfl,rfl,q⟩:=h;obtain⟨t,rfl⟩:=rx;obtain⟨t',rfl⟩:=ry;exact lt_str (Cq I q rfl)
theorem gD(b:Vf){op:Vv}(h:op≠.In:=by decide)(h2:op≠.NotIn:=by decide):Vx op b=false:=by
 have e1:(op==CmpOp.In)=false:=by cases op<;>first|rfl|exact absurd rfl h
 have e2:(op==CmpOp.NotIn)=false:=by cases op<;>first|rfl|exact absurd rfl h2
 cases b<;>simp[Vx,e1,e2]
theorem DJ{op:Vv}{r:R2}(ho:iA X (Vw op) r)(ha:PE X a ta)(hb:PE X b tb)(hm:Vx op b=false):PE X (.Compare a [op] [b] pos) (LV r ta tb):=by
 intro pins s σ H Q I h;exact wpAny_Compare1 (Hs ha hb I h λv u s2 x y H2 I2 rx ry q=>ho pins s2 σ H2 x y v u Q I2 rx ry q) hm
noncomputable def De(t:TE):TT:=λσ H Q=>t σ H λx H'=>∃k,x=.bl k/\Q k H'
theorem Ep{op:Vv}{r:R2}(ho:iA X (Vw op) r)(ha:PE X a ta)(hb:PE X b tb)(hm:Vx op b=false):PT X (.Compare a [op] [b] pos) (De (LV r ta tb)):=by
 intro pins s σ H Q I h;refine wpAny_isTrue_Compare1 (cJ (ha pins s σ H _ I h) λv s1 ⟨x,H1,I1,r1,q1⟩=>cJ (hb pins s1 σ H1 _ I1 q1) λu s2 ⟨y,H2,I2,r2,q2⟩=>
  cJ (ho pins s2 σ H2 x y v u _ I2 r1 r2 q2) λc s3 ⟨z,H3,I3,r3,k,e,q3⟩=>?_) hm
 subst e;cases r3;exact Vy ⟨H3,I3,q3⟩
noncomputable def wB(r r':R2)(ta tb tc:TE):TE:=λσ H Q=>ta σ H λx H1=>tb σ H1 λy H2=>r x y H2 λz H3=>∃k,z=.bl k/\
 (if k=true then tc σ H3 λw' H4=>r' y w' H4 Q else Q (.bl false) H3)
theorem Bk{op op':Vv}{r r':R2}(ho:iA X (Vw op) r)(ho':iA X (Vw op') r')(ha:PE X a ta)(hb:PE X b tb)(hc:PE X c tc)
  (hm:lastMarks [op,op'] [b,c]=false:=by with_unfolding_all rfl):PE X (.Compare a [op,op'] [b,c] pos) (wB r r' ta tb tc):=by
 intro pins s σ H Q I h;refine Compare_chain (cJ (ha pins s σ H _ I h) λv s1 ⟨x,H1,I1,r1,q1⟩=>chain_link (cJ (hb pins s1 σ H1 _ I1 q1) λu s2 ⟨y,H2,I2,r2,q2⟩=>
  cJ (ho pins s2 σ H2 x y v u _ I2 r1 r2 q2) λd s3 ⟨z,H3,I3,r3,k,e,q3⟩=>?_)) hm
 subst e;cases r3;refine Vy ?_;cases k with
 |false=>exact ite_ff ⟨.bl false,H3,I3,rfl,q3⟩
 |true=>exact ite_tt (chain_last (cJ (hc pins s3 σ H3 _ I3 q3) λw' s4 ⟨z',H4,I4,r4,q4⟩=>ho' pins s4 σ H4 y z' u w' Q I4 r2 r4 q4))
theorem B4{op op':Vv}{r r':R2}(ho:iA X (Vw op) r)(ho':iA X (Vw op') r')(ha:PE X a ta)(hb:PE X b tb)(hc:PE X c tc)
  (hm:lastMarks [op,op'] [b,c]=false:=by with_unfolding_all rfl):PT X (.Compare a [op,op'] [b,c] pos) (De (wB r r' ta tb tc)):=by
 intro pins s σ H Q I h;refine isTrue_chain (cJ (ha pins s σ H _ I h) λv s1 ⟨x,H1,I1,r1,q1⟩=>test_link (cJ (hb pins s1 σ H1 _ I1 q1) λu s2 ⟨y,H2,I2,r2,q2⟩=>
  cJ (ho pins s2 σ H2 x y v u _ I2 r1 r2 q2) λd s3 ⟨z,H3,I3,r3,k,e,q3⟩=>?_)) hm
 subst e;cases r3;refine Vy ?_;cases k with
 |false=>
  obtain⟨k',e',q'⟩:=q3;cases e';exact ite_ff ⟨H3,I3,q'⟩
 |true=>
  refine ite_tt (test_last (cJ (hc pins s3 σ H3 _ I3 q3) λw' s4 ⟨z',H4,I4,r4,q4⟩=>cJ (ho' pins s4 σ H4 y z' u w' _ I4 r2 r4 q4) λd' s5 ⟨z2,H5,I5,r5,k2,e2,q5⟩=>?_));subst e2;cases r5;exact Vy ⟨H5,I5,q5⟩
noncomputable def KY(K:T3)(x:V)(H:Hp)(k:Bool):Prop:=
 match x with
 |.non=>k=false
 |.bl b=>k=b
 |.int i=>k=(i !=0)
 |.str y=>y.length<=Vm/\k=((y.length:Int) !=0)
 |.byt y=>y.size<=Vm/\k=((y.size:Int) !=0)
 |.ref p=>(∃xs,mL K H p xs/\k=!xs.isEmpty)\/(∃xs,oJ K H p xs/\k=!xs.isEmpty)\/∃kvs,H p=some (.dK kvs)/\k=!kvs.isEmpty
 |_=>False
theorem wG{κ:Type}{kvs:List (κ×V)}{vs:List (κ×Vc)}(r:KV kvs vs):(!vs.isEmpty)=!kvs.isEmpty:=by
 cases r<;>rfl
theorem qA{xs:aH}{its:aN}(r:Vals xs its):(!its.toArray.isEmpty)=!xs.isEmpty:=by
 cases r<;>simp
theorem mU:(Vm:Nat)<2^63:=by rw[VH];decide
theorem IT:MG X (λx H Q=>∃k,KY X.K x H k/\Q k H):=by
 intro pins s σ H x v Q I rx h;obtain⟨k,e,q⟩:=h;have hl:=mU;have hs:Vm=16777216:=VH;cases x with
 |non=>
  cases rx;have e':k=false:=e;subst e';exact truthy_none ⟨H,I,q⟩
 |bl b=>
  cases rx;have e':k=b:=e;subst e';exact Vy ⟨H,I,q⟩
 |int i=>
  obtain⟨t,rfl⟩:=rx;have e':k=(i !=0):=e;subst e';exact PySem.P.truthy_int ⟨H,I,q⟩
 |str y=>
  obtain⟨t,rfl⟩:=rx;obtain⟨hy,e'⟩:y.length<=Vm/\k=((y.length:Int) !=0):=e;subst e';exact PySem.P.truthy_str ‹0› ⟨H,I.tok _,q⟩
 |byt y=>
  obtain⟨t,rfl⟩:=rx;obtain⟨hy,e'⟩:y.size<=Vm/\k=((y.size:Int) !=0):=e;subst e';exact PySem.W.truthy_bytes ‹0› ⟨H,I.tok _,q⟩
 |ref p=>
  cases rx;have e':(∃xs,mL X.K H p xs/\k=!xs.isEmpty)\/(∃xs,oJ X.K H p xs/\k=!xs.isEmpty)\/∃kvs,H p=some (.dK kvs)/\k=!kvs.isEmpty:=e;rcases e' with⟨xs,hx,e'⟩|⟨xs,hx,e'⟩|⟨kvs,hx,e'⟩
  ·subst e';obtain⟨its,r,pl,hz⟩:=I.list hx;have hlen:=r.length;exact wpAny_truthy_list pl.isList (by simp only[RE];omega) ⟨H,I.tok _,by rw[qA r];exact q⟩
  ·subst e';obtain⟨its,r,pl,hz⟩:=I.tuple hx;have hlen:=r.length;exact truthy_tuple pl (by simp only[RE];omega) ⟨H,I.tok _,by rw[qA r];exact q⟩
  ·subst e';obtain⟨hz,hS,vs,r,m⟩:kvs.length<=Vm/\(p==sysModules)=false/\∃vs,KV kvs vs/\s.heap.DictOf (cD X.prog X.w) p vs:=I.hok p _ hx;have hlen:kvs.length=vs.length:=Paired.length r;exact wpAny_truthy_dict hS m ‹0› ⟨H,I.tok _,by rw[wG r];exact q⟩
 |_=>exact(show False from e).elim
theorem BG(ha:PE X a ta)(he:∀whole,isTrue a X.env whole=(do let v<-whole;standAt a.pos;holding [v] (truthy v))):
  PT X a (λσ H Q=>ta σ H λx H'=>∃k,KY X.K x H' k/\Q k H'):=by
 intro pins s σ H Q I h;exact isTrue_plain (cJ (ha pins s σ H _ I h) λv s1 ⟨x,H1,I1,r1,q1⟩=>IT pins s1 σ H1 x v Q I1 r1 q1) (he _)
theorem wo:iA X (VG .Add) (λx y H Q=>∃i j,x=.str i/\y=.str j/\i.length+j.length<=Vm/\Q (.str (i++j)) H):=by
 intro pins s σ H x y v u Q I rx ry h;obtain⟨i,j,rfl,rfl,hz,q⟩:=h;obtain⟨t,rfl⟩:=rx;obtain⟨t',rfl⟩:=ry;exact add_str (λt' tk=>⟨.str (i++j),H,I.tok _,⟨_,rfl⟩,q⟩) hz
theorem vals1{x:V}{us:aN}(r:Vals [x] us):∃u,us=[u]/\RelV x u:=by
 cases r with
 |cons r1 r2=>cases r2;exact⟨_,rfl,r1⟩
theorem vals2{x y:V}{us:aN}(r:Vals [x,y] us):∃u w',us=[u,w']/\RelV x u/\RelV y w':=by
 cases r with
 |cons r1 r2=>
  cases r2 with
  |cons r3 r4=>cases r4;exact⟨_,_,rfl,r1,r3⟩
theorem zo(hc:X.calm=true):eX X (.builtin "max") (λxs H Q=>∃i j,xs=[.int i,.int j]/\Q (.int (if j>i then j else i)) H):=by
 intro pins s σ H xs us Q I r h;obtain⟨i,j,rfl,q⟩:=h;obtain⟨u,w',rfl,⟨t,rfl⟩,⟨t',rfl⟩⟩:=vals2 r;refine max_two_ints (I.ok.hd hc) λh' tk k=>⟨_,H,I.kept k,?_,q⟩
 by_cases hj:j>i
 ·rw[if_pos hj,if_pos hj];exact⟨_,rfl⟩
 ·rw[if_neg hj,if_neg hj];exact⟨_,rfl⟩
theorem yR(hc:X.calm=true):eX X (.builtin "min") (λxs H Q=>∃i j,xs=[.int i,.int j]/\Q (.int (if j<i then j else i)) H):=by
 intro pins s σ H xs us Q I r h;obtain⟨i,j,rfl,q⟩:=h;obtain⟨u,w',rfl,⟨t,rfl⟩,⟨t',rfl⟩⟩:=vals2 r;refine min_two_ints (I.ok.hd hc) λh' tk k=>⟨_,H,I.kept k,?_,q⟩
 by_cases hj:j<i
 ·rw[if_pos hj,if_pos hj];exact⟨_,rfl⟩
 ·rw[if_neg hj,if_neg hj];exact⟨_,rfl⟩
theorem ub:eX X (.type "str") (λxs H Q=>∃i,xs=[.int i]/\i.natAbs.log2<1920/\Q (.str (toString i)) H):=by
 intro pins s σ H xs us Q I r h;obtain⟨i,rfl,hz,q⟩:=h;obtain⟨u,rfl,t,rfl⟩:=vals1 r;exact PySem.P.str_of_int hz ⟨.str _,H,I.tok _,⟨_,rfl⟩,q⟩
end
structure yJ(h:Vl)(x dx C:Ve)(mA:cu):Prop where
 obj:h.get? x=some (TZ C dx)
 ns:h.Ns1 dx mA
 ne:dx≠x
theorem zp{h:Vl}{dx:Ve}{mA:cu}(n:h.Ns1 dx mA):∃od,h.get? dx=some od/\∀name,T5 name od=some (mA name):=by
 obtain⟨o,es,ep,ho,hd,hk,_,hm⟩:=n;refine⟨o,ho,λname=>?_⟩;have e:=hm name;unfold nsFind findBy at e;rw[<-Array.find?_toList]at e;unfold T5;rw[hd];dsimp only;split
 ·rename_i y q;rw[q]at e;exact congrArg some e
 ·rename_i q;rw[q]at e;have a:es.toList.any (·.refKey)=false:=by
   rw[RF];intro y hy;obtain⟨z,t,hkey⟩:=hk y (Array.mem_toList_iff.mp hy);simp[DictEntry.refKey,hkey]
  have a':¬es.toList.any (·.refKey)=true:=by rw[a];exact RG
  rw[if_neg a'];exact congrArg some e
theorem yJ.look{h:Vl}{x dx C:Ve}{mA:cu}(I:yJ h x dx C mA):∃od,PySem.W.InstAt h x (TZ C dx) C (some od)/\∀name,T5 name od=some (mA name):=
 let ⟨od,ho,hl⟩:=zp I.ns
 ⟨od,⟨I.obj,rfl,rfl,ho⟩,hl⟩
section
variable{prog:Vj}{w:Vi}{A:Vp}{E:bJ}{s:Vh}{K:T3}{x dx C f:Ve}{mA:cu}{name:Str}{v:Vc}
theorem D3{expr:Bool}{Q:bJ}(X:K.In s.heap)(I:yJ s.heap x dx C mA)(hg:T6 K C name=true)(hh:T7 K C=true)
  (ha:T8 K (.ref C) name=some none) (hv:mA name=some v) (hv':T9 v=true) (h:Q v {s with toks:=s.toks+1}):
  Vs (model prog w) A (getAttr (.ref x) name expr) Q E s:=by
 obtain⟨od,J,hl⟩:=I.look;exact PySem.W.get_value X J (Ua hg).1 (PySem.W.findObj_own hh ha rfl (by rw[hl,hv])) hv' h
theorem Bl{pl:Sem Bool}{Q:Vc×List Vc->df}(X:K.In s.heap)(I:yJ s.heap x dx C mA)(hg:T6 K C name=true)
  (hf:T8 K (.ref C) name=some (some (.ref f))) (ht:Ub K (.ref f)=true) (hv:mA name=none) (h:Q (.ref f,[.ref x]) s):
  Vs (model prog w) A (getMethod (.ref x) name pl) Q E s:=by
 obtain⟨od,J,hl⟩:=I.look;exact PySem.W.method_fn X J (Ua hg).1 (Ua hg).2 hf (beq_iff_eq.mp ht) (by show(T5 name od).map (·.isSome)=some false;rw[hl,hv];rfl) h
theorem Et{ns:au}{Q:Unit->df}(X:K.In s.heap)(I:yJ s.heap x dx C mA)
  (hs:T8 K (.ref C) "__setattr__"=some (some (.builtin "object.__setattr__"))) (hp:Uc K C=true) (ht:Ud K C name=some none) (hh:T7 K C=true)
  (hw:PySem.Within mA ns) (hsz:ns.length<=Vm)
  (h:∀h',yJ h' x dx C (λy=>if y=name then some v else mA y)->UR dx s.heap h'->Q () {s with heap:=h',toks:=s.toks+2}):
  Vs (model prog w) A (setAttr (.ref x) name v) Q E s:=by
 obtain⟨od,J,hl⟩:=I.look;refine PySem.W.set_plain X J hs (PySem.W.osa_open (s:={s with toks:=s.toks+1}) (r:=none) X J hp ht λb=>?_);obtain⟨cd,hc,hd'⟩:=Ue hh;have hx:s.heap.get? x=some ⟨.ref C,some dx,.plain,#[]⟩:=I.obj;refine VB (VA (VB (VB (VI hx (VB (PySem.W.Looks.here (s:={s with toks:=s.toks+1}) (PySem.W.looks_clsIn X hc) ?_))))));rw[hd'];refine VA (a:=some dx) (VB (VA (VB ?_)));refine wpAny_nsSet1 (s:={s with toks:=s.toks+1}) I.ns λh' hn2 hs2=>?_;obtain⟨oD,esD,epD,hoD,hdD,hcD⟩:=hn2.count (PySem.Within.cons name v hw);refine VB (VJ hoD (by rw[hdD];exact VL (Rq hcD (by rw[RH];omega))) ?_);exact VA (h _ ⟨(hs2.2 _ (Ne.symm I.ne)).trans I.obj,hn2,I.ne⟩ hs2)
theorem CW{R:VM->df}{vs:aN}{kw:List (Str×Vc)}(X:K.In s.heap)(hm:Ug K C=true)
  (hi:T8 K (.ref C) "__init__"=some (some (.ref f))) (hf:Uh K (.ref f)=some (.type "function"))
  (h:VN (model prog w) (A.under (.builtin "type.__call__" ⟨.ref C::vs,kw⟩)) (.call (.ref f) ⟨.ref (s.heap.objs.size+1)::vs,kw⟩) (Ui (s.heap.objs.size+1) R)
   {s with heap:=(s.heap.push Uj).push (TZ C s.heap.objs.size)}):
  VN (model prog w) A (.call (.ref C) ⟨vs,kw⟩) R s:=by
 obtain⟨hh,g,d,t,os⟩:=s;exact Uk (Ul X hm) (Um X hi) (λself=>PySem.W.bind_fn X self hf) (.inl rfl) h
theorem Ac{R:VM->df}(X:K.In s.heap)(hm:Ug K C=true)
  (hi:T8 K (.ref C) "__init__"=some (some (.builtin "object.__init__")))
  (hb:∀self,Uo (model prog w) s.heap (bindSpecial (.builtin "object.__init__") self) (.builtin "object.__init__",[self]))
  (h:VN (model prog w) (A.under (.builtin "type.__call__" ⟨[.ref C],[]⟩)) (.call (.builtin "object.__init__") ⟨[.ref (s.heap.objs.size+1)],[]⟩) (Ui (s.heap.objs.size+1) R)
   {s with heap:=(s.heap.push Uj).push (TZ C s.heap.objs.size)}):
  VN (model prog w) A (.call (.ref C) ⟨[],[]⟩) R s:=by
 obtain⟨hh,g,d,t,os⟩:=s;exact Uk (Ul X hm) (Um X hi) hb (.inr ⟨rfl,rfl⟩) h
end
noncomputable def jP(f:Str)(v:V):List (Str×V)->List (Str×V)
 |[]=>[(f,v)]
 |(g,x)::r=>if g=f then(g,v)::r else(g,x)::jP f v r
theorem oX(f g:Str)(v:V):∀fs:List (Str×V),(jP f v fs).lookup g=if g=f then some v else fs.lookup g
 |[]=>by
  show List.lookup g [(f,v)]=_;by_cases h:g=f
  ·have hb:(g==f)=true:=beq_iff_eq.mpr h;simp only[List.lookup,hb,if_pos h]
  ·have hb:(g==f)=false:=beq_eq_false_iff_ne.mpr h;simp only[List.lookup,hb,if_neg h]
 |(k,x)::r=>by
  have ih:=oX f g v r;rw[show jP f v ((k,x)::r)=(if k=f then(k,v)::r else(k,x)::jP f v r)from rfl];by_cases hk:k=f
  ·rw[if_pos hk];by_cases h:g=k
   ·have hb:(g==k)=true:=beq_iff_eq.mpr h;simp only[List.lookup,hb,if_pos (h.trans hk)]
   ·have hb:(g==k)=false:=beq_eq_false_iff_ne.mpr h;simp only[List.lookup,hb,if_neg (λe:g=f=>h (e.trans hk.symm))]
  ·rw[if_neg hk];by_cases h:g=k
   ·have hb:(g==k)=true:=beq_iff_eq.mpr h;simp only[List.lookup,hb,if_neg (λe:g=f=>hk (h.symm.trans e))]
   ·have hb:(g==k)=false:=beq_eq_false_iff_ne.mpr h;simp only[List.lookup,hb];exact ih
theorem ng(f:Str)(v:V):∀fs:List (Str×V),f∈(jP f v fs).map (·.1)/\∀g,g∈fs.map (·.1)->g∈(jP f v fs).map (·.1)
 |[]=>⟨by simp[jP],λg h=>by simp at h⟩
 |(k,x)::r=>by
  obtain⟨i1,i2⟩:=ng f v r;rw[show jP f v ((k,x)::r)=(if k=f then(k,v)::r else(k,x)::jP f v r)from rfl];by_cases hk:k=f
  ·rw[if_pos hk];subst hk;exact⟨by simp,λg h=>by simpa using h⟩
  ·rw[if_neg hk];refine⟨?_,λg h=>?_⟩
   ·rw[RJ];exact Rv _ i1
   ·rw[RJ]at h ⊢;rcases List.mem_cons.mp h with e|e
    ·exact List.mem_cons.mpr (.inl e)
    ·exact Rv _ (i2 g e)
theorem oZ(f:Str)(v:V):∀fs:List (Str×V),(jP f v fs).length<=fs.length+1
 |[]=>by simp[jP]
 |(k,x)::r=>by
  have ih:=oZ f v r;rw[show jP f v ((k,x)::r)=(if k=f then(k,v)::r else(k,x)::jP f v r)from rfl];by_cases hk:k=f
  ·rw[if_pos hk,RH,RH];omega
  ·rw[if_neg hk,RH,RH];omega
theorem qE.some_of{v:V}{o:Option Vc}(r:qE (some v) o):∃u,o=some u/\RelV v u:=by
 cases o with
 |none=>exact(show False from r).elim
 |some u=>exact⟨u,rfl,r⟩
theorem qE.none_of{o:Option Vc}(r:qE none o):o=none:=by
 cases o with
 |none=>rfl
 |some u=>exact(show False from r).elim
theorem Ay{v:V}{u:Vc}(r:RelV v u):T9 u=true:=by
 cases v with
 |non=>cases(show u=Value.none from r);rfl
 |bl b=>cases(show u=Value.bool b from r);rfl
 |int i=>obtain⟨t,e⟩:=(show∃t,u=Value.int i t from r);cases e;rfl
 |str x=>obtain⟨t,e⟩:=(show∃t,u=Value.str x t from r);cases e;rfl
 |byt b=>obtain⟨t,e⟩:=(show∃t,u=Value.bytes b t from r);cases e;rfl
 |flt b=>obtain⟨t,e⟩:=(show∃t,u=Value.float b t from r);cases e;rfl
 |ref a=>cases(show u=Value.ref a from r);rfl
 |ty n=>cases(show u=Value.type n from r);rfl
section
variable{P:Vj}{w:Vi}{H H':Hp}{h h':Vl}{a C dx:Ve}{fs fs':List (Str×V)}
theorem pA(hok:nI P w H h)(e:H a=some (.ins C dx fs)):∃mA,yJ h a dx C mA/\(∀f,qE (fs.lookup f) (mA f))/\PySem.Within mA (fs.map (·.1))/\fs.length<=1000/\H dx=some (.own a):=by
 obtain⟨d,z,ne,ob,mA,n,r,q⟩:=(show cy P w H h a (.ins C dx fs)from hok a _ e)
 exact⟨mA,⟨ob,n,ne⟩,r,q,z,d⟩
end
structure kN(K:T3)(C:Ve):Prop where
 pg:T6 K C Str.empty=true
 hd:T7 K C=true
 po:Uc K C=true
 sa:T8 K (.ref C) "__setattr__"=some (some (.builtin "object.__setattr__"))
theorem kN.get{K:T3}{C:Ve}(c:kN K C)(f:Str):T6 K C f=true:=c.pg
noncomputable def cM(K:T3)(C:Ve)(f:Str):Prop:=T8 K (.ref C) f=some none
theorem cM.taker{K:T3}{C:Ve}{f:Str}(n:cM K C f):Ud K C f=some none:=by
 unfold Ud;rw[show T8 K (.ref C) f=some none from n];rfl
structure Meth(K:T3)(C:Ve)(m:Str)(f:Ve):Prop where
 at_:T8 K (.ref C) m=some (some (.ref f))
 fn:Ub K (.ref f)=true
 kp:Uq K (.ref f)=true
section
variable{X:Cx}{pins:aS}{σ:St}{H:Hp}{s:Vh}{a C dx:Ve}{fs:List (Str×V)}{f:Str}{v:V}{A:Vp}{E:bJ}
theorem wx{b:Bool}{Q:bJ}(I:Inv X pins σ H s)(e:H a=some (.ins C dx fs))(c:kN X.K C)(n:cM X.K C f)(l:fs.lookup f=some v)
  (h:∀u s',Inv X pins σ H s'->RelV v u->Q u s'):Vs (model X.prog X.w) A (getAttr (.ref a) f b) Q E s:=by
 obtain⟨mA,O,r,_,_,_⟩:=pA I.hok e;obtain⟨u,hu,ru⟩:=qE.some_of (v:=v) (o:=mA f) (by rw[<-l];exact r f);exact D3 I.kIn O (c.get f) c.hd n hu (Ay ru) (h u _ (I.tok _) ru)
theorem wc{m:Str}{g:Ve}{pl:Sem Bool}{Q:Vc×List Vc->df}(I:Inv X pins σ H s)(e:H a=some (.ins C dx fs))(c:kN X.K C)(k:Meth X.K C m g)(l:fs.lookup m=none)
  (h:Q (.ref g,[.ref a]) s):Vs (model X.prog X.w) A (getMethod (.ref a) m pl) Q E s:=by
 obtain⟨mA,O,r,_,_,_⟩:=pA I.hok e;have hn:mA m=none:=qE.none_of (by rw[<-l];exact r m);exact Bl I.kIn O (c.get m) k.at_ k.fn hn h
theorem xt{y:V}{u:Vc}{Q:Unit->df}(I:Inv X pins σ H s)(e:H a=some (.ins C dx fs))(c:kN X.K C)(n:cM X.K C f)(hl:fs.length<1000)(ry:RelV y u)
  (h:∀s',Inv X pins σ (upd H a (.ins C dx (jP f y fs))) s'->Q () s'):Vs (model X.prog X.w) A (setAttr (.ref a) f u) Q E s:=by
 obtain⟨mA,O,r,wi,_,ho⟩:=pA I.hok e;have hz:(fs.map (·.1)).length<=Vm:=by rw[RK,VH];omega
 refine Et I.kIn O c.sa c.po n.taker c.hd wi hz λh' O' sb=>h _ ?_;have hd:∃o,h'.get? dx=some o:=let ⟨o,_,_,e',_⟩:=O'.ns;⟨o,e'⟩
 refine I.write (x:=a) (e:=dx) (by rw[e];exact True.intro) (.inr ho) (λb q hb z=>(sb.2 b hb).trans z) hd ?_;refine⟨by rw[ay O.ne];exact ho,?_,O.ne,O'.obj,_,O'.ns,λg=>?_,λg hg=>?_⟩
 ·have:=oZ f y fs;omega
 ·show qE ((jP f y fs).lookup g) (if g=f then some u else mA g);rw[oX];by_cases q:g=f
  ·rw[if_pos q,if_pos q];exact ry
  ·rw[if_neg q,if_neg q];exact r g
 ·by_cases q:g=f
  ·rw[q];exact(ng f y fs).1
  ·refine(ng f y fs).2 g (wi g λz=>hg ?_);show(if g=f then some u else mA g)=none;rw[if_neg q];exact z
theorem Inv.made(I:Inv X pins σ H s):Inv X pins σ (upd (upd H s.heap.objs.size (.own (s.heap.objs.size+1))) (s.heap.objs.size+1) (.ins C s.heap.objs.size []))
  {s with heap:=(s.heap.push Uj).push (TZ C s.heap.objs.size)}:=by
 have e1:(s.heap.push Uj).get? s.heap.objs.size=some Uj:=UU s.heap rfl;have e2:((s.heap.push Uj).push (TZ C s.heap.objs.size)).get? (s.heap.objs.size+1)=some (TZ C s.heap.objs.size):=by
  have:=UU (s.heap.push Uj) (o:=TZ C s.heap.objs.size) rfl
  rwa [UV]at this
 have e3:(s.heap.push Uj).Ns s.heap.objs.size (λ_=>none):=⟨Uj,#[],_,e1,rfl,(λe he=>absurd he (by simp)),λ_=>rfl⟩
 have I1:=I.laid (a:=s.heap.objs.size) (o:=.own (s.heap.objs.size+1)) (h':=s.heap.push Uj) (t':=s.toks) (λb u q=>UT _ q) (RB _) ⟨_,e1⟩;refine I1.laid (a:=s.heap.objs.size+1) (o:=.ins C s.heap.objs.size []) (t':=s.toks) (λb u q=>UT _ q) (RL (UV _ _)) ?_;have ne:s.heap.objs.size≠s.heap.objs.size+1:=Rp (RM _);refine⟨by rw[ay ne,aA],RN _,ne,e2,λ_=>none,(Heap.Ns1.of_empty e3).at λo q=>UT _ q,λ_=>True.intro,λy hy=>absurd rfl hy⟩
theorem FK{prog:Vj}{w:Vi}{env:Env}{e:Vf}{f:Str}{pos:Pos}{s:Vh}{Q:bJ}(hb:VO e f env (eval e env)=eval e env)
  (h:Vs (model prog w) A (eval e env) (λo s₁=>Vs (model prog w) A (getAttr o f true) Q E s₁) E s):Vs (model prog w) A (eval (.Attribute e f pos) env) Q E s:=
 Attribute_any_ h (by rw[arm_eval_Attribute,hb])
end
noncomputable def NB(K:T3)(ta:TE)(f:Str):TE:=λσ H Q=>ta σ H λx H1=>∃a C dx fs v,x=.ref a/\H1 a=some (.ins C dx fs)/\kN K C/\cM K C f/\fs.lookup f=some v/\Q v H1
noncomputable def OW(K:T3)(ta tv:TE)(f:Str):TS:=λD σ H=>tv σ H λy H1=>ta σ H1 λx H2=>∃a C dx fs,x=.ref a/\H2 a=some (.ins C dx fs)/\kN K C/\cM K C f/\fs.length<1000/\
 D.nx σ (upd H2 a (.ins C dx (jP f y fs)))
section
variable{X:Cx}{o e value:Vf}{f:Str}{pos pos' tpos:Pos}{ta tv:TE}
theorem Hg(he:PE X e ta)(hb:VO e f X.env (eval e X.env)=eval e X.env):PE X (.Attribute e f pos) (NB X.K ta f):=by
 intro pins s σ H Q I h;refine FK hb (cJ (he pins s σ H _ I h) λu s1 ⟨x,H1,I1,rx,a,C,dx,fs,v,ex,ea,c,n,l,q⟩=>?_);subst ex;obtain rfl:u=Value.ref a:=rx;exact wx I1 ea c n l λu' s2 I2 ru=>⟨v,H1,I2,ru,q⟩
theorem C1(ha:PE X o ta)(hv:PE X value tv)(hs:swapsWith value (some (.Attribute o f pos')) pos.line X.env=pure false):PS X (.Assign [.Attribute o f pos'] value pos) (OW X.K ta tv f):=by
 intro pins s σ H D I h;refine VP (cJ (hv pins s σ H _ I h) λu s1 ⟨y,H1,I1,ry,q⟩=>cJ (ha pins s1 σ H1 _ I1 q) λov s2 h2=>?_) hs;obtain⟨x,H2,I2,rx,a,C,dx,fs,ex,ea,c,n,l,q2⟩:=h2;subst ex;obtain rfl:ov=Value.ref a:=rx;exact xt I2 ea c n l ry λs3 I3=>⟨σ,_,I3,q2⟩
theorem vp{pl:Sem Bool}{m:Str}{apos:Pos}{args:bu}{pins:aS}{s:Vh}{σ:St}{H:Hp}{Q:bJ}{te:TE}(he:PE X e te)(I:Inv X pins σ H s)
  (h:te σ H fun x H1=>∃ a C dx fs g,x=.ref a/\H1 a=some (.ins C dx fs)/\kN X.K C/\Meth X.K C m g/\fs.lookup m=none /\
   ∀s1,Inv X pins σ H1 s1->Vs (model X.prog X.w) X.A (VQ pos (.ref g) [.ref a] (backTo pos (Vt args X.env)) (backToKw pos (VR [] X.env))) Q X.xe s1)
  (ht:eval (.Call (.Attribute e m apos) args [] pos) X.env=(do
   let ov<-eval e X.env
   standAt apos.atName
   let (f,first)<-holding [ov] (getMethod ov m pl)
   VQ pos f first (backTo pos (Vt args X.env)) (backToKw pos (VR [] X.env)))):
  Vs (model X.prog X.w) X.A (eval (.Call (.Attribute e m apos) args [] pos) X.env) Q X.xe s:=by
 refine PySem.W.methodCall_KW (pl:=pl) (cJ (he pins s σ H _ I h) λu s1 ⟨x,H1,I1,rx,a,C,dx,fs,g,ex,ea,c,k,l,q⟩=>?_) ht;subst ex;obtain rfl:u=Value.ref a:=rx;exact wc I1 ea c k l (q s1 I1)
end
structure gq(k:Nat)(A:Vp):Prop where
 hd:A.handled=none
 dp:A.depth+3*k+5<recursionLimit
 un:A.units+16*k+200<VS
theorem gq.mono{j k:Nat}{A:Vp}(r:gq k A)(h:j<=k):gq j A:=⟨r.hd,by have:=r.dp;omega,by have:=r.un;omega⟩
theorem gq.deeper{k:Nat}{A:Vp}(r:gq (k+1) A)(env:Env):gq k (A.deeper env):=
 ⟨r.hd,by have:=r.dp;show A.depth+1+3*k+5<_;omega,by have:=r.un;show A.units+3+16*k+200<_;omega⟩
theorem wI{A:Vp}{C:Ve}{us:aN}{kw:List (Str×Vc)}:(A.under (.builtin "type.__call__" ⟨.ref C::us,kw⟩)).depth=A.depth+1:=by
 first|rfl|simp[Around.under,Code.weight,Code.isCreation,Code.isGuard,Code.isCaller,Code.frames,Code.isFrame,guardIds]
theorem xm{A:Vp}{C:Ve}{us:aN}{kw:List (Str×Vc)}:(A.under (.builtin "type.__call__" ⟨.ref C::us,kw⟩)).units=A.units+1:=by
 first|rfl|simp[Around.under,Code.cUnits,Code.frames,Code.isFrame]
theorem gq.make{k:Nat}{A:Vp}(r:gq (k+1) A)(C:Ve)(us:aN)(kw:List (Str×Vc)):gq k (A.under (.builtin "type.__call__" ⟨.ref C::us,kw⟩)):=
 ⟨r.hd,by have:=r.dp;rw[wI];omega,by have:=r.un;rw[xm];omega⟩
theorem gq.depth{k:Nat}{A:Vp}(r:gq k A):A.depth<recursionLimit:=by have:=r.dp;omega
theorem gq.units{k:Nat}{A:Vp}(r:gq k A):A.units+64<VS:=by have:=r.un;omega
noncomputable def LO:TA:=λ_ H Q=>Q [] H
noncomputable def Gr(ta:TE)(tr:TA):TA:=λσ H Q=>ta σ H λx H1=>tr σ H1 λxs H2=>Q (x::xs) H2
section
variable{X:Cx}{e:Vf}{es:bu}{te:TE}{t:TA}{pos:Pos}
theorem uq:PA X [] LO:=λ_ _ _ _ H Q I h=>Calls.spliced_nil ⟨[],H,I,.nil,h⟩
theorem kA(ha:PE X e te)(hr:PA X es t)(hs:Vt (e::es) X.env=(false,eval e X.env)::Vt es X.env:=by rfl):PA X (e::es) (Gr te t):=by
 intro pos pins s σ H Q I h;rw[hs];show Vs _ _ (spliced ((false,eval e X.env)::backTo pos (Vt es X.env))) _ _ s;refine Calls.spliced_cons (cJ (ha pins s σ H _ I h) λu s1 ⟨x,H1,I1,r1,q1⟩=>?_);exact cJ (hr pos pins s1 σ H1 _ I1 q1) λus s2 ⟨xs,H2,I2,r2,q2⟩=>⟨x::xs,H2,I2,.cons r1 r2,q2⟩
noncomputable def O9(t:TA):TE:=λσ H Q=>t σ H λxs H1=>xs.length<=Vm/\∀p,H1 p=none->Q (.ref p) (upd H1 p (.tup xs))
noncomputable def NV(t:TA):TE:=λσ H Q=>t σ H λxs H1=>xs.length<=Vm/\∀p,H1 p=none->Q (.ref p) (upd H1 p (.lst xs))
theorem Hv{x1}(h:PA X es t):PE X (.Tuple es x1 pos) (O9 t):=by
 intro pins s σ H Q I hq;refine wpAny_Tuple_spliced (cJ (h pos pins s σ H _ I hq) λus s1 ⟨xs,H1,I1,r,z,q⟩=>⟨by rw[<-r.length];exact z,?_⟩);have hf:H1 s1.heap.objs.size=none:=I1.hok.fresh (RB _);refine⟨.ref s1.heap.objs.size,upd H1 s1.heap.objs.size (.tup xs),I1.laid (t':=s1.toks) (λb u e=>UT _ e) (RB _) ?_,rfl,q _ hf⟩;exact⟨z,us,r,⟨_,UU _ rfl,rfl,_,rfl⟩⟩
theorem CT(h:PA X es t):PE X (.List es pos) (NV t):=by
 intro pins s σ H Q I hq;refine wpAny_List_spliced (cJ (h pos pins s σ H _ I hq) λus s1 ⟨xs,H1,I1,r,z,q⟩=>⟨by rw[<-r.length];exact z,?_⟩);have hf:H1 s1.heap.objs.size=none:=I1.hok.fresh (RB _);refine⟨.ref s1.heap.objs.size,upd H1 s1.heap.objs.size (.lst xs),I1.laid (t':=s1.toks) (λb u e=>UT _ e) (RB _) ?_,rfl,q _ hf⟩;exact⟨z,us,0,r,UU _ rfl⟩
end
noncomputable abbrev Sp:=List V->Hp->VK->XK->Prop
noncomputable abbrev vV:=List Env->Hp->Vh->XK->bJ
structure yZ(P:Vj)(w:Vi)(K:T3)(mg:cu)(base:Vl)(A:Vp)(outer:List Env)(s:Vh)(H:Hp):Prop where
 frames:A.frames=some outer
 mod:Mod K mg base
 bs:∀b o,base.get? b=some o->s.heap.get? b=some o/\H b=none
 bsz:base.objs.size<=s.heap.objs.size
 funs:s.heap.FunFrames base outer
 frf:∀b∈frs outer,H b=none
 hok:nI P w H s.heap
 bare:AllBare s.gens
noncomputable def CE(outer:List Env)(P:Vj)(w:Vi)(H:Hp)(s:Vh)(Q:VK)(u:Vc)(s':Vh):Prop:=
 ∃v H',s'.os=s.os/\AllBare s'.gens/\Un (frs outer) [] H H' s.heap s'.heap/\nI P w H' s'.heap/\RelV v u/\Q v H'
noncomputable def CR(CX:vV)(outer:List Env)(P:Vj)(w:Vi)(H:Hp)(s:Vh)(Q:VK)(E:XK)(r:VM)(s':Vh):Prop:=
 match r with
 |.ok (.ret u)=>CE outer P w H s Q u s'
 |.ok _=>False
 |.error e=>CX outer H s E e s'
structure hJ(P:Vj)(w:Vi)(K:T3)(mg:cu)(base:Vl)(CX:vV)(k:Nat)(f:Ve)(fd:VU)(ps:au)(sp:Sp):Prop where
 len:∀vs H Q E,sp vs H Q E->vs.length=ps.length
 run:∀(A:Vp)(outer:List Env)(s:Vh)(H:Hp)(args:Args)(us:aN)(vs:aH)(Q:VK)(E:XK),gq k A->yZ P w K mg base A outer s H->VW s fd args (ps.zip us)->Vals vs us->sp vs H Q E->
  VN (model P w) A (.call (.ref f) args) (CR CX outer P w H s Q E) s
theorem hJ.mono{P:Vj}{w:Vi}{K:T3}{mg:cu}{base:Vl}{CX:vV}{j k:Nat}{f:Ve}{fd:VU}{ps:au}{sp:Sp}(F:hJ P w K mg base CX j f fd ps sp)(h:j<=k):
  hJ P w K mg base CX k f fd ps sp:=⟨F.len,λA outer s H args us vs Q E hr=>F.run A outer s H args us vs Q E (hr.mono h)⟩
theorem yZ.make{P:Vj}{w:Vi}{K:T3}{mg:cu}{base:Vl}{A:Vp}{outer:List Env}{s:Vh}{H:Hp}(e:yZ P w K mg base A outer s H)(C:Ve)(us:aN)(kw:List (Str×Vc)):
  yZ P w K mg base (A.under (.builtin "type.__call__" ⟨.ref C::us,kw⟩)) outer s H:=⟨by first|exact e.frames|(simpa [Around.under,Code.envs,Code.isFrame,pushEnvs]using e.frames),e.mod,e.bs,e.bsz,e.funs,e.frf,e.hok,e.bare⟩
section
variable{X:Cx}{pins:aS}{σ:St}{H:Hp}{s s':Vh}
theorem Inv.env0(I:Inv X pins σ H s):yZ X.prog X.w X.K X.mg X.base X.A X.stack s H:=
 ⟨I.ok.frames,I.ok.mod,I.bs,Rq I.ok.bsz I.sz,I.stack,I.stkFree,I.hok,I.bare⟩
theorem Inv.after{Q:VK}{u:Vc}(I:Inv X pins σ H s)(h:CE X.stack X.prog X.w H s Q u s'):EP X pins σ Q u s':=by
 obtain⟨v,H',os,bare,un,hok,r,q⟩:=h;obtain⟨hh,g,d,t,os'⟩:=s';obtain rfl:os'=s.os:=os;exact⟨v,H',I.call (h':=hh) (g':=g) (d':=d) (t':=t) (ch:=[]) un hok bare (λb z=>absurd z (by simp)),r,q⟩
end
noncomputable def Kv(C:Ve)(sp:Sp)(dvs:aH)(E:XK)(t:TA):TE:=λσ H Q=>t σ H λvs H1=>∀x dx,H1 x=none->H1 dx=none->dx≠x->
 sp (.ref x::(vs++dvs)) (upd (upd H1 dx (.own x)) x (.ins C dx [])) (λv H2=>v=.non/\Q (.ref x) H2) E
noncomputable def Binds(K:T3)(fd:VU)(ps:au)(ds:aN):Prop:=
 ∀(s:Vh)(us:aN),K.In s.heap->(us++ds).length=ps.length->VW s fd ⟨us,[]⟩ (ps.zip (us++ds))
theorem Binds.all{K:T3}{fd:VU}{ps:au}(h:∀us:aN,us.length=ps.length->bindArgs fd ⟨us,[]⟩=pure (ps.zip us)):Binds K fd ps []:=λs us _ hl=>by
 rw[RO]at hl ⊢;exact .of_eq (h us hl)
noncomputable def xo(CX:vV)(X:Cx)(E:XK):Prop:=∀(pins:aS)(σ:St)(H:Hp)(s:Vh)(e:Vc)(s':Vh),Inv X pins σ H s->CX X.stack H s E e s'->X.xe e s'
section
variable{X:Cx}{CX:vV}{k:Nat}{f C:Ve}{fd:VU}{ps:au}{sp:Sp}{dvs:aH}{ds:aN}{E:XK}{x m:Str}{p pos apos:Pos}{e o:Vf}{es:bu}{ta:TE}{t:TA}
structure Mk(K:T3)(C f:Ve):Prop where
 makes:Ug K C=true
 init:T8 K (.ref C) "__init__"=some (some (.ref f))
 fn:Ub K (.ref f)=true
 kp:Uq K (.ref C)=true
theorem B6{pins:aS}{σ:St}{H:Hp}{s:Vh}{Q:VK}{us:aN}{vs:aH}(M:Mk X.K C f)(F:hJ X.prog X.w X.K X.mg X.base CX k f fd ps sp)(hr:gq (k+1) X.A)(hb:Binds X.K fd ps ds)(hd:Vals dvs ds)
  (hx:xo CX X E) (I:Inv X pins σ H s) (r:Vals vs us)
  (h:∀x dx,H x=none->H dx=none->dx≠x->sp (.ref x::(vs++dvs)) (upd (upd H dx (.own x)) x (.ins C dx [])) (λv H2=>v=.non/\Q (.ref x) H2) E):
  Vs (model X.prog X.w) X.A (call (.ref C) us) (EP X pins σ Q) X.xe s:=by
 have hq:=h (s.heap.objs.size+1) s.heap.objs.size (I.hok.fresh (RP _)) (I.hok.fresh (RB _)) (Rp (RM _));have I2:=Inv.made (C:=C) I;have r2:Vals (V.ref (s.heap.objs.size+1)::(vs++dvs)) (Value.ref (s.heap.objs.size+1)::(us++ds)):=.cons rfl (r.append hd);have hl:(Value.ref (s.heap.objs.size+1)::us++ds).length=ps.length:=by
  have e:=r2.length;rw[F.len _ _ _ _ hq]at e;exact e.symm
 refine VX (CW (f:=f) I.kIn M.makes M.init (beq_iff_eq.mp M.fn) (VY (F.run _ X.stack _ _ ⟨Value.ref (s.heap.objs.size+1)::us,[]⟩ (Value.ref (s.heap.objs.size+1)::(us++ds)) _ _ E (hr.make C us [])
  (I2.env0.make C us []) (hb _ (Value.ref (s.heap.objs.size+1)::us) I2.kIn hl) r2 hq) λr s' hq'=>?_))
 cases r with
 |error e=>exact hx pins σ _ _ e s' I2 hq'
 |ok fl=>
  cases fl with
  |ret u=>
   obtain⟨v,H',I3,rv,ev,q3⟩:=I2.after hq';subst ev;exact⟨rv,⟨V.ref (s.heap.objs.size+1),H',I3,rfl,q3⟩⟩
  |next=>exact False.elim hq'
  |brk=>exact False.elim hq'
  |cont=>exact False.elim hq'
theorem FQ(M:Mk X.K C f)(F:hJ X.prog X.w X.K X.mg X.base CX k f fd ps sp)(hr:gq (k+1) X.A)(hg:Gl X x)(hm:X.mg x=some (.ref C))(hb:Binds X.K fd ps ds)(hd:Vals dvs ds)(hx:xo CX X E)
  (ha:PA X (e::es) t) (hdb:(x==("__debug__":Str))=false:=by decide) (he:Vt (e::es) X.env=(false,eval e X.env)::Vt es X.env:=by rfl) (hpl:(backTo pos (Vt es X.env)).any (·.1)=false:=by rfl):
  PE X (.Call (.Name x p) (e::es) [] pos) (Kv C sp dvs E t):=by
 intro pins s σ H Q I h;refine VZ (ju I hg hm ?_ hdb);refine Ur (h₀:=X.base) I.ok.mod.kin M.kp (cJ (ha pos pins s σ H _ I h) λus s1 ⟨vs,H1,I1,r,q⟩=>⟨I1.kIn,?_⟩) he hpl;exact B6 M F hr hb hd hx I1 r q
end
noncomputable def PK(X:Cx)(kws:List V0)(t:TA):Prop:=
 ∀(pos:Pos)(pins:aS)(s:Vh)(σ:St)(H:Hp)(Q:aH->Hp->Prop),Inv X pins σ H s->t σ H Q->Vs (model X.prog X.w) X.A (evalAll ((backToKw pos (VR kws X.env)).map (·.2))) (AP X pins σ Q) X.xe s
section
variable{X:Cx}{CX:vV}{k:Nat}{f C:Ve}{fd:VU}{ps ks:au}{sp:Sp}{E:XK}{x m:Str}{p pos apos kpos:Pos}{e o:Vf}{es:bu}{kws:List V0}{te ta:TE}{t tk:TA}{nm:Option Str}
theorem IQ:PK X [] LO:=λ_ _ _ _ H Q I h=>wpAny_evalAll_nil ⟨[],H,I,.nil,h⟩
theorem EJ(ha:PE X e te)(hr:PK X kws t):PK X (⟨nm,e,kpos⟩::kws) (Gr te t):=by
 intro pos pins s σ H Q I h;show Vs _ _ (evalAll ((do let v<-eval e X.env;standAt pos;pure v)::(backToKw pos (VR kws X.env)).map (·.2))) _ _ s;refine wpAny_evalAll_cons (VB (cJ (ha pins s σ H _ I h) λu s1 ⟨x,H1,I1,r1,q1⟩=>VB (V1 (VA ?_))));exact cJ (hr pos pins s1 σ H1 _ I1 q1) λus s2 ⟨xs,H2,I2,r2,q2⟩=>⟨x::xs,H2,I2,.cons r1 r2,q2⟩
variable{g:aN->aN->aN}{gV:aH->aH->aH}
end
structure b7(N P:au)(sc:Vq):Prop where
 kind:sc.kind=.function
 co:sc.isCoroutine=false
 gen:sc.isGenerator=false
 nd:N.Nodup
 pre:N.take P.length=P
 par:∀x∈P,sc.names.lookup x=some .local\/sc.names.lookup x=some .cell
 nofree:∀y∈sc.names,y.2≠.free
theorem rW{kindOf:Str->Option Vd}{x:Str}:∀{binds:List (Str×Vc)}{m:cu},(∀v,(x,v)∉binds)->bindL kindOf binds m x=m x
 |[],_,_=>rfl
 |(n,v)::r,m,h=>by
  unfold bindL;rw[rW λw hw=>h w (Rv _ hw)];split
  ·have:x≠n:=(by rintro rfl;exact h v Ru);simp[this]
  ·rfl
theorem si{kindOf:Str->Option Vd}{x:Str}:∀{binds:List (Str×Vc)}{m:cu},(∀v,(x,v)∉binds)->bindC kindOf binds m x=m x
 |[],_,_=>rfl
 |(n,v)::r,m,h=>by
  unfold bindC;rw[si λw hw=>h w (Rv _ hw)];split
  ·rfl
  ·have:x≠n:=(by rintro rfl;exact h v Ru);simp[this]
theorem tx{kindOf:Str->Option Vd}{x:Str}{v:Vc}:∀{P:au}{vs:aN}{i:Nat}{m:cu},P.Nodup->P[i]?=some x->vs[i]?=some v->kindOf x=some .local->
  bindL kindOf (P.zip vs) m x=some v
 |[],_,_,_,_,h,_,_=>by simp at h
 |_::_,[],_,_,_,_,h,_=>by simp at h
 |p::P,w::vs,0,m,nd,h1,h2,hk=>by
  simp at h1 h2;subst h1;subst h2;show bindL kindOf ((p,w)::P.zip vs) m p=_;unfold bindL;rw[rW λv hv=>(List.nodup_cons.mp nd).1 (RQ hv).1,if_pos hk];simp
 |p::P,w::vs,i+1,m,nd,h1,h2,hk=>by
  show bindL kindOf ((p,w)::P.zip vs) m x=_;unfold bindL;exact tx (i:=i) (List.nodup_cons.mp nd).2 (by simpa using h1) (by simpa using h2) hk
theorem sP{kindOf:Str->Option Vd}{x:Str}{v:Vc}:∀{P:au}{vs:aN}{i:Nat}{m:cu},P.Nodup->P[i]?=some x->vs[i]?=some v->kindOf x≠some .local->
  bindC kindOf (P.zip vs) m x=some v
 |[],_,_,_,_,h,_,_=>by simp at h
 |_::_,[],_,_,_,_,h,_=>by simp at h
 |p::P,w::vs,0,m,nd,h1,h2,hk=>by
  simp at h1 h2;subst h1;subst h2;show bindC kindOf ((p,w)::P.zip vs) m p=_;unfold bindC;rw[si λv hv=>(List.nodup_cons.mp nd).1 (RQ hv).1,if_neg hk];simp
 |p::P,w::vs,i+1,m,nd,h1,h2,hk=>by
  show bindC kindOf ((p,w)::P.zip vs) m x=_;unfold bindC;exact sP (i:=i) (List.nodup_cons.mp nd).2 (by simpa using h1) (by simpa using h2) hk
noncomputable def start(N:au)(vs:aH):St:=vs.map some++List.replicate (N.length-vs.length) none
noncomputable def jR(CX:vV)(P:Vj)(w:Vi)(K:T3)(mg:cu)(base:Vl)(N:au)(qual:Str)(scope:Vq)(f:Ve)(cd:Vc)(A:Vp)(outer:List Env)(s:Vh)(H:Hp)(E:XK):Cx where
 prog:=P
 w:=w
 K:=K
 mg:=mg
 base:=base
 A:=A.deeper (envOfC qual scope s.heap.objs.size f cd)
 N:=N
 s₀:=s
 H₀:=H
 env:=envOfC qual scope s.heap.objs.size f cd
 outer:=outer
 stack:=envOfC qual scope s.heap.objs.size f cd::outer
 ex:=[]
 calm:=true
 fn:=λ_=>true
 pn:=[]
 xe:=λe s'=>Vs (model P w) (A.deeper (envOfC qual scope s.heap.objs.size f cd)) (leaving (envOfC qual scope s.heap.objs.size f cd) e) (λ_ s''=>CX outer H s E e s'') (λe' s''=>CX outer H s E e' s'') s'
theorem vc{sc:Vq}{n:Nat}{x:Str}(h:sc.names.lookup x=some .cell):∃c,(cellsFrom n sc.names []).lookup x=some c:=by
 have q:=Us sc.names n [] (.inl h);exact Option.isSome_iff_exists.mp q
theorem za{CX:vV}{P:Vj}{w:Vi}{K:T3}{mg:cu}{base:Vl}{N ps:au}{qual:Str}{scope:Vq}{f:Ve}{cd:Vc}{A:Vp}{outer:List Env}{s s1:Vh}{H:Hp}{E:XK}{us:aN}{vs:aH}
  (S:b7 N ps scope) (hd:A.handled=none) (e0:yZ P w K mg base A outer s H) (hl:vs.length=ps.length) (r:Vals vs us)
  (x:InCallC s s.heap.objs.size (bindL (envOfC qual scope s.heap.objs.size f cd).kindOf (ps.zip us) λ_=>none) (cellsFrom (s.heap.objs.size+1) scope.names []) (bindC (envOfC qual scope s.heap.objs.size f cd).kindOf (ps.zip us) λ_=>none) s1):
  Inv (jR CX P w K mg base N qual scope f cd A outer s H E) [] (start N vs) H s1:=by
 have hpl:ps.length<=N.length:=by have:=congrArg List.length S.pre;rw[RT]at this;omega
 obtain⟨h1,tk,rfl,hk⟩:=x.done;have noA:∀b:Ve,b∉(jR CX P w K mg base N qual scope f cd A outer s H E).ex:=λb z=>absurd (show b∈([]:aD)from z) (by simp);refine⟨⟨e0.mod,S.kind,rfl,rfl,RB _,λy z c h1 h2=>?_,λy hy=>?_,λy c _ h=>?_,λ_=>hd,Around.frames_deeper e0.frames,.inr ⟨rfl,rfl⟩,λb z=>absurd z (noA b),e0.bs,e0.bsz,λb _ _=>noA b,λb z=>absurd z (noA b),e0.funs,e0.frf⟩,
  rfl,e0.bare,Un.kept hk,⟨_,x.toInCall.ns,λi y v h1 h2 h3=>?_⟩,λy c h=>⟨_,x.cell y c h⟩,e0.hok.fresh (RB _),λy c h=>?_,λp hp=>absurd (show p∈([]:aS)from hp) (by simp),e0.hok.kept hk,?_⟩
 ·exact name_of_addr x.apart (PySem.mem_of_lookup h1) (PySem.mem_of_lookup h2)
 ·have hy:scope.names.lookup y=some .cell\/scope.names.lookup y=some .free:=hy;rcases hy with hy|hy
  ·exact vc hy
  ·exact absurd rfl (S.nofree _ (PySem.mem_of_lookup hy))
 ·exact Rr (x.above y c (PySem.mem_of_lookup h))
 ·have hi:i<vs.length:=by
   unfold start at h2;by_cases hi:i<vs.length
   ·exact hi
   ·rw[RU (by simpa using hi)]at h2;rw[RV]at h2;split at h2<;>cases h2
  have ha:vs[i]?=some v:=by
   unfold start at h2;rw[RW (by simpa using hi),RX]at h2;cases e:vs[i]? with
   |none=>rw[e]at h2;cases h2
   |some a=>rw[e]at h2;cases h2;rfl
  obtain⟨u,hu,rv⟩:=r.get ha;have hp:ps[i]?=some y:=by
   rw[<-S.pre,List.getElem?_take_of_lt ‹0›];exact h1
  have ndP:ps.Nodup:=by rw[<-S.pre];exact S.nd.sublist (RY _ _)
  refine⟨u,rv,?_⟩;rcases S.par y (RZ hp)with k|k
  ·exact .inl ⟨k,tx ndP hp hu k⟩
  ·obtain⟨c,e⟩:=vc (n:=s.heap.objs.size+1) k;refine .inr ⟨.inl k,c,e,?_⟩;have q:=x.cell y c e;rw[sP ndP hp hu (by show scope.names.lookup y≠_;rw[k];decide)]at q;exact q
 ·exact e0.hok.fresh (Rr (x.above y c (PySem.mem_of_lookup h)))
 ·unfold start;show _=N.length;rw[R0,RK,List.length_replicate];omega
theorem Gp{CX:vV}{P:Vj}{w:Vi}{K:T3}{mg:cu}{base:Vl}{k:Nat}{f:Ve}{name qual:Str}{params:Arguments}{body:eK}{scope:Vq}{dV kV doc pm cdv ct oc:Vc}{an od:Option Ve}
  {osl:Array (Option Vc)} {N ps:au} {sp:Sp} (lk:K.lookup f=some ⟨oc,od,.func (Ut name qual params body scope dV kV doc pm an cdv ct),osl⟩) (hcd:Uu K cdv qual=true) (S:b7 N ps scope)
  (len:∀vs H Q E,sp vs H Q E->vs.length=ps.length)
  (hbody:∀ (A:Vp) (outer:List Env) (s:Vh) (H:Hp) (vs:aH) (Q:VK) (E:XK),gq k (A.deeper (envOfC qual scope s.heap.objs.size f cdv))->sp vs H Q E ->
   ∃t,uG (jR CX P w K mg base N qual scope f cdv A outer s H E) body t/\t {nx:=λ_ H'=>Q .non H',rt:=Q} (start N vs) H):
  hJ P w K mg base CX (k+1) f (Ut name qual params body scope dV kV doc pm an cdv ct) ps sp:=by
 refine⟨len,λA outer s H args us vs Q E hr e0 hb r hsp=>?_⟩;have hl:=len _ _ _ _ hsp;have KX:K.In s.heap:=e0.mod.kin.keeps λb o e=>(e0.bs b o e).1;have lim:s.heap.NoLimit:=e0.mod.nolimit.keeps λb o e=>(e0.bs b o e).1;have hkind:∀y∈ps.zip us,scope.names.lookup y.1=some .local\/(scope.names.lookup y.1=some .cell/\((cellsFrom (s.heap.objs.size+1) scope.names []).lookup y.1).isSome=true):=λ⟨n,v⟩ hy=>by
  rcases S.par n (RQ hy).1 with q|q
  ·exact .inl q
  ·exact .inr ⟨q,Us _ _ _ (.inl q)⟩
 refine codeAny_call_function hr.depth (KX _ _ lk) rfl S.co S.gen rfl (PySem.W.codeRec_of KX hcd) (hb _ _ _ _ ?_);refine wpAny_newFunctionEnv_cells S.kind hkind λenv he s1 x=>?_;subst he;refine⟨lim.keeps x.toInCall.keep,codeAny_func ?_⟩;obtain⟨t,ht,hq⟩:=hbody A outer s H vs Q E (hr.deeper _) hsp;have I:Inv (jR CX P w K mg base N qual scope f cdv A outer s H E) [] (start N vs) H s1:=za S hr.hd e0 hl r x;refine Vu (ht [] s1 (start N vs) H _ I hq) (λfl s' hs=>?_) λe s' hs=>hs;have fin:∀{σ':St}{H':Hp}{v:V}{u:Vc},Inv (jR CX P w K mg base N qual scope f cdv A outer s H E) [] σ' H' s'->RelV v u->Q v H'->CE outer P w H s Q u s':=
  λ{σ' H' v u} J rv q=>⟨v,H',J.os,J.bare,J.base,J.hok,rv,q⟩
 cases fl with
 |ret u=>
  obtain⟨v,σ',H',J,rv,q⟩:=hs;exact fin J rv q
 |next=>
  obtain⟨σ',H',J,q⟩:=hs;exact fin (v:=V.non) (u:=Value.none) J rfl q
 |brk=>
  obtain⟨_,_,_,q⟩:=hs;exact False.elim q
 |cont=>
  obtain⟨_,_,_,q⟩:=hs;exact False.elim q
section
variable{X:Cx}{x:Str}{p pos:Pos}{e:Vf}{es:bu}{t:TA}{id T:String}{r:aH->Hp->VK->Prop}
noncomputable def NI(r:aH->Hp->VK->Prop)(t:TA):TE:=λσ H Q=>t σ H λvs H1=>r vs H1 Q
theorem qv(hc:eX X (.builtin id) r)(hg:Gl X x)(hm:X.mg x=none)(hv:Vo x=some (.builtin id))(ha:PA X (e::es) t)(hn:x≠"__name__":=by decide)(hdb:(x==("__debug__":Str))=false:=by decide)
  (he:Vt (e::es) X.env=(false,eval e X.env)::Vt es X.env:=by rfl) (hpl:(backTo pos (Vt es X.env)).any (·.1)=false:=by rfl):PE X (.Call (.Name x p) (e::es) [] pos) (NI r t):=by
 intro pins s σ H Q I h;refine VZ (lM I hg hm hv ?_ hn hdb);exact PyProof.Rows.callWith_builtin1 (cJ (ha pos pins s σ H _ I h) λus s1 ⟨vs,H1,I1,r1,q1⟩=>hc pins s1 σ H1 vs us Q I1 r1 q1) he hpl
theorem yK(hc:eX X (.type T) r)(hg:Gl X x)(hm:X.mg x=none)(hv:Vo x=some (.type T))(ha:PA X (e::es) t)(hn:x≠"__name__":=by decide)(hdb:(x==("__debug__":Str))=false:=by decide)
  (he:Vt (e::es) X.env=(false,eval e X.env)::Vt es X.env:=by rfl) (hpl:(backTo pos (Vt es X.env)).any (·.1)=false:=by rfl):PE X (.Call (.Name x p) (e::es) [] pos) (NI r t):=by
 intro pins s σ H Q I h;refine VZ (lM I hg hm hv ?_ hn hdb);exact U3 (cJ (ha pos pins s σ H _ I h) λus s1 ⟨vs,H1,I1,r1,q1⟩=>hc pins s1 σ H1 vs us Q I1 r1 q1) he hpl
end
end L2
namespace HT
open PySem PyProof.Rows
theorem Kc(A:Vp)(s:Vh)(a:Int)(t:Tok)(c:Int)(u:Tok)(prog:Vj)(w:Vi)(E:Vc->Vh->Prop)(Q:Vc->Vh->Prop)(h:Q (.bool (decide (a<c))) s):
  Vs (model prog w) A (richCompare .Lt (.int a t) (.int c u)) Q E s:=
 (PyProof.Rows.lt_int h:Vs (model prog w) A (Vw .Lt (.int a t) (.int c u)) Q E s)
section
open PySem.SeqAt
open PySem.AutoSeq1 (wpAny_loadPart')
open PySem.MeetsSeq PySem.MeetsSeq2 PySem.MeetsSeq3
end
section
variable{prog:Vj}{w:Vi}{A:Vp}{E:Vc->Vh->Prop}{s:Vh}
theorem Mv{t b:Ve}{vs ws:List Vc}{Q:Vc->Vh->Prop}(ht:IsTup s.heap t vs.toArray)(hb:IsTup s.heap b ws.toArray)(hv:vs≠[])
  (h1:ws=[]->Q (.ref t) s) (h2:ws≠[]->Q (.ref s.heap.objs.size) {s with heap:=s.heap.push {cls:=.type "tuple",data:=.seq (vs++ws).toArray}})
  (hsz:vs.length+ws.length<=Vm):Vs (model prog w) A (VG .Add (.ref t) (.ref b)) Q E s:=by
 obtain⟨⟨cls,dd,data,sl⟩,ho,hc,n,hd⟩:=id ht;obtain⟨⟨cls2,dd2,data2,sl2⟩,ho2,hc2,n2,hd2⟩:=id hb;simp only at hc hd hc2 hd2;subst hc hd hc2 hd2;have e:vs.toArray++ws.toArray=(vs++ws).toArray:=by simp
 by_cases hw:ws=[]
 ·exact V2 ⟨_,ho,rfl⟩ ⟨_,ho2,rfl⟩ V3 V4 U8 U9 (Va _ _)
   (tuple_addW1 t b vs.toArray ws.toArray n n2 dd dd2 sl sl2 (by simpa using hv) (by simp[hw])) ⟨ho,ho2,h1 hw⟩
 ·refine V2 ⟨_,ho,rfl⟩ ⟨_,ho2,rfl⟩ V3 V4 U8 U9 (Va _ _)
   (tuple_addW2 t b vs.toArray ws.toArray n n2 dd dd2 sl sl2 (by simpa using hv) (by simpa using hw) (by rw[RE,RE];exact hsz)) ⟨ho,ho2,?_⟩
  rw[e];exact h2 hw
noncomputable def sIx(n d:Nat):Option Int->Nat
 |none=>d
 |some v=>if v<0 then(v+(n:Int)).toNat else min v.toNat n
theorem Lj(n d:Nat):sIx n d none=d:=rfl
theorem Mb(n d k:Nat):sIx n d (some (k:Int))=min k n:=by
 show(if(k:Int)<0 then((k:Int)+(n:Int)).toNat else min (k:Int).toNat n)=min k n;rw[if_neg ‹0›,R1]
theorem Jr(n d:Nat)(hd:d<=n)(o:Option Int):sIx n d o<=n:=by
 cases o with
 |none=>exact hd
 |some v=>
  show(if v<0 then(v+(n:Int)).toNat else min v.toNat n)<=n;by_cases hv:v<0
  ·rw[if_pos hv];omega
  ·rw[if_neg hv];exact Nat.min_le_right _ _
theorem yd(v:Int)(n d:Nat):(if v<0 then max (v+(n:Int)) 0 else min v (n:Int))=((sIx n d (some v):Nat):Int):=by
 show(if v<0 then max (v+(n:Int)) 0 else min v (n:Int))=(((if v<0 then(v+(n:Int)).toNat else min v.toNat n):Nat):Int)
 by_cases hv:v<0
 ·simp only[if_pos hv];omega
 ·simp only[if_neg hv];omega
theorem w8(lo hi:Option Int)(n:Nat):Builtin.Slice.sliceAdjust lo hi 1 (n:Int)=(((sIx n 0 lo:Nat):Int),((sIx n n hi:Nat):Int)):=by
 have h1:¬((1:Int)<0):=by omega
 unfold Builtin.Slice.sliceAdjust;simp only[h1,if_false];refine Prod.ext ?_ ?_
 ·cases lo with
  |none=>rfl
  |some v=>exact yd v n 0
 ·cases hi with
  |none=>rfl
  |some v=>exact yd v n n
theorem xu(i j:Nat):Builtin.Slice.slicePlaces (i:Int) (j:Int) 1=j-i:=by
 unfold Builtin.Slice.slicePlaces;have h1:(1:Int)>0:=by omega
 simp only[h1,if_true,Int.ediv_one];split<;>omega
theorem pR{v:Vc}{o:Option Int}{Q:Option Int->Vh->Prop}(p:V5 v o)(h:Q o s):Vs (model prog w) A (Builtin.Slice.slicePartIndex v) Q E s:=by
 cases p with
 |none=>exact slicePart_none h
 |int i t=>exact slicePart_int h
theorem nA{sl:Ve}{vl vu:Vc}{lo hi:Option Int}{n:Nat}{Q:Int×Int×Nat->Vh->Prop}(hs:s.heap.IsSliceOf sl vl vu .none)(pl:V5 vl lo)(pu:V5 vu hi)
  (h:Q (((sIx n 0 lo:Nat):Int),1,sIx n n hi-sIx n 0 lo) s):Vs (model prog w) A (Builtin.Slice.sliceApplied (.ref sl) (pure (n:Int))) Q E s:=by
 obtain⟨os,hos,hcs,hds⟩:=id hs;unfold Builtin.Slice.sliceApplied Builtin.Slice.sliceFields;refine VB (VB (V6 hos hds (x:=vl) rfl (VB (V6 hos hds (x:=vu) rfl (VB (V6 hos hds (x:=.none) rfl (VA ?_)))))));refine VB (slicePart_none ?_);show Vs _ _ (if((1:Int)==0)=true then _ else _) _ _ s;rw[if_neg (by decide)];refine VB (pR pl (VB (pR pu (VB (VA ?_)))));show Vs _ _ (match Builtin.Slice.sliceAdjust lo hi 1 (n:Int)with|(lo,hi)=>pure (lo,(1:Int),Builtin.Slice.slicePlaces lo hi 1)) _ _ s;rw[w8 lo hi n];show Vs _ _ (pure (((sIx n 0 lo:Nat):Int),(1:Int),Builtin.Slice.slicePlaces ((sIx n 0 lo:Nat):Int) ((sIx n n hi:Nat):Int) 1)) _ _ s;rw[xu];exact VA h
theorem A8(xs:Array Vc)(i k:Nat):((List.range k).filterMap λ(m:Nat)=>xs[((i:Int)+(m:Int)*1).toNat]?).toArray=((xs.toList.drop i).take k).toArray:=by
 have e:(λ(m:Nat)=>xs[((i:Int)+(m:Int)*1).toNat]?)=λm=>xs[i+m]?:=by
  funext m
  have:((i:Int)+(m:Int)*1).toNat=i+m:=by omega
  rw[this]
 rw[e]
 have:=pick_run xs i k
 rw[List.filterMap_map]at this;have e2:((λx=>xs[x]?)∘λx=>i+x)=λm=>xs[i+m]?:=rfl;rw[e2]at this;rw[this]
theorem xO{t sl:Ve}{items:Array Vc}{vl vu:Vc}{lo hi:Option Int}{Q:Vc->Vh->Prop}(ht:IsTup s.heap t items)(hs:s.heap.IsSliceOf sl vl vu .none)(pl:V5 vl lo)(pu:V5 vu hi)
  (hw:¬(sIx items.size 0 lo=0/\sIx items.size items.size hi=items.size))
  (h:Q (.ref s.heap.objs.size) {s with heap:=s.heap.push {cls:=.type "tuple",data:=.seq ((items.toList.drop (sIx items.size 0 lo)).take (sIx items.size items.size hi-sIx items.size 0 lo)).toArray}})
  (hsz:items.size<=Vm):Vs (model prog w) A (getItem (.ref t) (.ref sl)) Q E s:=by
 have htake:sizeOk (.seq ((items.toList.drop (sIx items.size 0 lo)).take (sIx items.size items.size hi-sIx items.size 0 lo)).toArray):=by
  show((items.toList.drop (sIx items.size 0 lo)).take (sIx items.size items.size hi-sIx items.size 0 lo)).toArray.size<=Vm;rw[RE,RT,R3,Array.length_toList];omega
 have hj:sIx items.size items.size hi<=items.size:=Jr _ _ (RB _) hi;obtain⟨os,hos,hcs,hds⟩:=id hs;have hTs:s.TypeIs (.ref sl) "slice":=⟨os,hos,hcs⟩
 unfold getItem
 try with_reducible refine V7 ?_
 first|refine VB (VA ?_)|skip
 refine VB (wpAny_sequenceKey ht.typeIs (by decide) ?_);refine VB (V8 (name:=Str.ofString "__getitem__") ht.typeIs U4
  (V9 U4 ht.typeIs entry_tuple_getitem ?_ (args_tuple_getitem _ _)))
 show Vs _ _ (Builtin.Tuple.tupleItemsOf (.ref t) >>= _) _ _ s;refine VB (tupleItemsOf_ ht ?_);refine VB (Wa hTs ?_);rw[if_pos (by decide)];refine VB (nA hs pl pu ?_);have hno:¬((((sIx items.size 0 lo:Nat):Int)==0&&(1:Int)==1&&(sIx items.size items.size hi-sIx items.size 0 lo)==items.size)=true):=by
  intro q;rw[R4,R4]at q;have q1:((sIx items.size 0 lo:Nat):Int)=0:=eq_of_beq q.1.1;have q2:sIx items.size items.size hi-sIx items.size 0 lo=items.size:=eq_of_beq q.2;exact hw ⟨by omega,by omega⟩
 show Vs _ _ (if(((sIx items.size 0 lo:Nat):Int)==0&&(1:Int)==1&&(sIx items.size items.size hi-sIx items.size 0 lo)==items.size)=true then _ else _) _ _ s;rw[if_neg hno,A8]
 first
  |exact VB (m:=Builtin.Tuple.tupleExact _) (Wb (VA ⟨_,rfl,VA h⟩) htake)
  |exact VB (m:=Builtin.Tuple.tupleExact _) (Wb (VB (VA (VA ⟨_,rfl,VA h⟩))) htake)
  |exact VB (VB (m:=Builtin.Tuple.tupleExact _) (Wb (VA (VA ⟨_,rfl,VA h⟩)) htake))
  |exact VB (VB (m:=Builtin.Tuple.tupleExact _) (Wb (VA ⟨_,rfl,VA h⟩) htake))
end
end HT
namespace L2
open PySem PySem.Spec PyProof.Rows
noncomputable abbrev TO:=St->Hp->(dG->Hp->Prop)->Prop
noncomputable def PO(X:Cx)(e:Option Vf)(t:TO):Prop:=
 ∀(pins:aS)(s:Vh)(σ:St)(H:Hp)(Q:dG->Hp->Prop),Inv X pins σ H s->t σ H Q->
  Vs (model X.prog X.w) X.A (evalPart e X.env) (λu s'=>∃o H',Inv X pins σ H' s'/\V5 u o/\Q o H') X.xe s
noncomputable def Dq:TO:=λ_ H Q=>Q none H
noncomputable def Lx(t:TE):TO:=λσ H Q=>t σ H λx H1=>∃i,x=.int i/\Q (some i) H1
section
variable{X:Cx}{e:Vf}{te:TE}{lo hi:Option Vf}{tl th:TO}{pos p2:Pos}
theorem EA:PO X none Dq:=by
 intro pins s σ H Q I h;rw[evalPart_none];exact VA ⟨none,H,I,.none,h⟩
theorem Dy(h:PE X e te):PO X (some e) (Lx te):=by
 intro pins s σ H Q I hw;rw[evalPart_some];refine cJ (h pins s σ H _ I hw) λu s1 ⟨x,H1,I1,r1,q1⟩=>?_;obtain⟨i,rfl,q⟩:=q1;obtain⟨t,rfl⟩:=r1;exact⟨some i,H1,I1,.int i t,q⟩
noncomputable def Mq(X:Cx)(r:V->dG->dG->Hp->VK->Prop):Prop:=
 ∀(pins:aS)(s:Vh)(σ:St)(H:Hp)(x:V)(v vl vu:Vc)(lo hi:dG)(sl:Ve)(Q:VK),Inv X pins σ H s->RelV x v->s.heap.IsSliceOf sl vl vu .none->V5 vl lo->V5 vu hi->r x lo hi H Q->
  ∃T id,typeLookup (.type T) "__getitem__"=pure (some (.builtin id))/\s.TypeIs v T/\Vs (model X.prog X.w) X.A (getItem v (.ref sl)) (EP X pins σ Q) X.xe s
noncomputable def Qv(r:V->dG->dG->Hp->VK->Prop)(te:TE)(tl th:TO):TE:=λσ H Q=>te σ H λx H1=>tl σ H1 λl H2=>th σ H2 λu H3=>r x l u H3 Q
theorem BE{r:V->dG->dG->Hp->VK->Prop}(hr:Mq X r)(he:PE X e te)(hl:PO X lo tl)(hu:PO X hi th):PE X (.Subscript e (.Slice lo hi none p2) pos) (Qv r te tl th):=by
 intro pins s σ H Q I h;refine Subscript_ (cJ (he pins s σ H _ I h) λv s1 ⟨x,H1,I1,r1,q1⟩=>?_);refine wpAny_Slice (cJ (hl pins s1 σ H1 _ I1 q1) λvl s2 ⟨l,H2,I2,pl,q2⟩=>cJ (hu pins s2 σ H2 _ I2 q2) λvu s3 ⟨u,H3,I3,pu,q3⟩=>?_);rw[evalPart_none];refine VA ?_;have I4:Inv X pins σ H3 {s3 with heap:=s3.heap.push {cls:=.type "slice",data:=.fields #[vl,vu,.none]}}:=I3.kept (t':=s3.toks) λb ob q=>UT _ q;obtain⟨T,id,hT,ht,hg⟩:=hr pins {s3 with heap:=s3.heap.push {cls:=.type "slice",data:=.fields #[vl,vu,.none]}} σ H3 x v vl vu l u s3.heap.objs.size Q I4 r1 (Heap.IsSliceOf.new ..) pl pu q3;show Vs (model X.prog X.w) X.A (subscriptTail e (.Slice lo hi none p2) v (.ref s3.heap.objs.size)) (EP X pins σ Q) X.xe {s3 with heap:=s3.heap.push {cls:=.type "slice",data:=.fields #[vl,vu,.none]}};exact tail_any (ops:=[.ref s3.heap.objs.size,v]) ht hT hg (by with_unfolding_all rfl)
noncomputable def uY(xs:aH)(lo hi:dG):aH:=(xs.drop (HT.sIx xs.length 0 lo)).take (HT.sIx xs.length xs.length hi-HT.sIx xs.length 0 lo)
theorem oH(xs:aH)(lo hi:dG):(uY xs lo hi).length<=xs.length:=by
 unfold uY;rw[RT,R3];omega
noncomputable def Oi(K:T3):V->dG->dG->Hp->VK->Prop:=λx lo hi H Q=>∃a xs,x=.ref a/\oJ K H a xs/\
 ¬(HT.sIx xs.length 0 lo=0/\HT.sIx xs.length xs.length hi=xs.length)/\∀p,H p=none->Q (.ref p) (upd H p (.tup (uY xs lo hi)))
theorem Ja:Mq X (Oi X.K):=by
 intro pins s σ H x v vl vu lo hi sl Q I rx hs pl pu h;obtain⟨a,xs,rfl,hx,hw,q⟩:=h;cases rx;obtain⟨its,r,ht,hz⟩:=I.tuple hx;have hlen:its.toArray.size=xs.length:=by rw[RE];exact r.length.symm
 refine⟨"tuple",_,PyProof.Rows.slot_tuple_getitem.lookup,ht.typeIs,?_⟩;refine HT.xO ht hs pl pu (by rw[hlen];exact hw) ?_ (by rw[hlen];exact hz);rw[hlen];refine⟨.ref s.heap.objs.size,_,I.laid (t':=s.toks) (o:=.tup (uY xs lo hi)) (λb ob q=>UT _ q) (RB _) ?_,rfl,q _ (I.hok.fresh (RB _))⟩;exact⟨Rq (oH xs lo hi) hz,_,(r.drop (HT.sIx xs.length 0 lo)).take (HT.sIx xs.length xs.length hi-HT.sIx xs.length 0 lo),IsTup.new _ _⟩
noncomputable def Ky(K:T3):R2:=λx y H Q=>∃a b xs ys,x=.ref a/\y=.ref b/\oJ K H a xs/\oJ K H b ys/\xs≠[]/\xs.length+ys.length<=Vm/\
 (ys=[]->Q (.ref a) H)/\(ys≠[]->∀p,H p=none->Q (.ref p) (upd H p (.tup (xs++ys))))
theorem Vals.nil_iff{xs:aH}{us:aN}(r:Vals xs us):us=[]↔xs=[]:=by
 cases r with
 |nil=>simp
 |cons _ _=>simp
theorem Du:iA X (VG .Add) (Ky X.K):=by
 intro pins s σ H x y v u Q I rx ry h;obtain⟨a,b,xs,ys,rfl,rfl,ha,hb,hx,hz,q1,q2⟩:=h;cases rx;cases ry;obtain⟨its,r1,p1,_⟩:=I.tuple ha;obtain⟨its2,r2,p2,_⟩:=I.tuple hb;refine HT.Mv p1 p2 (λz=>hx (r1.nil_iff.mp z)) (λz=>⟨.ref a,H,I,rfl,q1 (r2.nil_iff.mp z)⟩) (λz=>?_) (by rw[<-r1.length,<-r2.length];exact hz);refine⟨.ref s.heap.objs.size,_,I.laid (t':=s.toks) (o:=.tup (xs++ys)) (λb ob q=>UT _ q) (RB _) ?_,rfl,q2 (λw=>z (r2.nil_iff.mpr w)) _ (I.hok.fresh (RB _))⟩;exact⟨by rw[R0];exact hz,_,r1.append r2,IsTup.new _ _⟩
end
noncomputable def IE(n:Nat)(i:Int):Option Nat:=if 0<=i then(if i<n then some i.toNat else none)else if -(n:Int)<=i then some (i+n).toNat else none
noncomputable def ot{α:Type}(xs:List α)(i:Int):Option α:=(IE xs.length i).bind λj=>xs[j]?
theorem D8{n:Nat}{i:Int}{j:Nat}(h:IE n i=some j):seqIndex? i n=some j/\j<n/\-(n:Int)<=i/\i<n:=by
 unfold IE at h;by_cases h0:0<=i
 ·rw[if_pos h0]at h;by_cases h1:i<n
  ·rw[if_pos h1]at h;have e:i.toNat=j:=Option.some.inj h;exact⟨by rw[seqIndex_of h0 h1,e],by omega,by omega,h1⟩
  ·rw[if_neg h1]at h;cases h
 ·rw[if_neg h0]at h;by_cases h1:-(n:Int)<=i
  ·rw[if_pos h1]at h;have e:(i+n).toNat=j:=Option.some.inj h;exact⟨by rw[seqIndex_neg ‹0› h1,e],by omega,h1,by omega⟩
  ·rw[if_neg h1]at h;cases h
theorem ue{α:Type}{xs:List α}{i:Int}{v:α}(h:ot xs i=some v):∃j,seqIndex? i xs.length=some j/\xs[j]?=some v/\j<xs.length/\-(xs.length:Int)<=i/\i<xs.length:=by
 unfold ot at h;cases e:IE xs.length i with
 |none=>rw[e]at h;cases h
 |some j=>
  rw[e]at h;obtain⟨h1,h2,h3,h4⟩:=D8 e;exact⟨j,h1,h,h2,h3,h4⟩
noncomputable def tE(b:Vf):Prop:=∀o i,subscripted b false o i=operate [o,i] (getItem o i)
noncomputable def LU(X:Cx)(r:R2):Prop:=
 ∀(value slice:Vf)(pins:aS)(s:Vh)(σ:St)(H:Hp)(x y:V)(v u:Vc)(Q:VK),Inv X pins σ H s->RelV x v->RelV y u->r x y H Q->
  subscripted slice false v u=operate [v,u] (getItem v u)->Vs (model X.prog X.w) X.A (subscriptTail value slice v u) (EP X pins σ Q) X.xe s
noncomputable def QR(X:Cx)(id:String)(r:V->aH->Hp->VK->Prop):Prop:=
 ∀(pins:aS)(s:Vh)(σ:St)(H:Hp)(x:V)(xs:aH)(v:Vc)(us:aN)(Q:VK),Inv X pins σ H s->RelV x v->Vals xs us->r x xs H Q->
  Vs (model X.prog X.w) X.A (call (.builtin id) (v::us)) (EP X pins σ Q) X.xe s
section
variable{X:Cx}{a b:Vf}{ta tb:TE}{pos:Pos}
theorem Lh{r:R2}(hr:LU X r)(ha:PE X a ta)(hb:PE X b tb)(hs:tE b):PE X (.Subscript a b pos) (LV r ta tb):=by
 intro pins s σ H Q I h;exact Subscript_ (Hs ha hb I h λv u s2 x y H2 I2 rx ry q=>hr a b pins s2 σ H2 x y v u Q I2 rx ry q (hs _ _))
noncomputable def O2(K:T3):R2:=λx y H Q=>∃p xs i v,x=.ref p/\y=.int i/\mL K H p xs/\ot xs i=some v/\Q v H
noncomputable def MO(K:T3):R2:=λx y H Q=>∃p xs i v,x=.ref p/\y=.int i/\oJ K H p xs/\ot xs i=some v/\Q v H
noncomputable def MD:R2:=λx y H Q=>∃z i c,x=.str z/\y=.int i/\z.length<=Vm/\ot z.cps.toList i=some c/\Q (.str ⟨#[c]⟩) H
theorem DK:LU X (O2 X.K):=by
 intro value slice pins s σ H x y v u Q I rx ry h hs;obtain⟨p,xs,i,z,rfl,rfl,hq,he,q⟩:=h;cases rx;obtain⟨t,rfl⟩:=ry;obtain⟨its,r,pl,hz⟩:=I.list hq;obtain⟨j,h1,h2,h3,h4,h5⟩:=ue he;obtain⟨w,ew,rw'⟩:=r.get h2;have hl:=r.length;have hn:=mU;have fin:EP X pins σ Q w s:=⟨z,H,I,rw',q⟩
 by_cases h0:0<=i
 ·have hj:i.toNat=j:=by
   rw[seqIndex_of h0 h5]at h1;exact Option.some.inj h1
  exact item_listR pl.isList h0 ‹0› (by rw[hj];simpa using ew) fin hs
 ·have hj:(i+(its.toArray.size:Int)).toNat=j:=by
   rw[seqIndex_neg ‹0› h4]at h1;rw[RE,<-hl];exact Option.some.inj h1
  exact subscriptTail_builtinR (x:=w) pl.isList.typeIs slot_list_getitem.lookup
   (wpAny_getItem_list_neg (Q:=λr s'=>r=w/\EP X pins σ Q r s') pl.isList ‹0› (by rw[RE]<;>omega) ‹0› (by rw[hj];simpa using ew) ⟨rfl,fin⟩) hs
theorem G9:LU X (MO X.K):=by
 intro value slice pins s σ H x y v u Q I rx ry h hs;obtain⟨p,xs,i,z,rfl,rfl,hq,he,q⟩:=h;cases rx;obtain⟨t,rfl⟩:=ry;obtain⟨its,r,pl,hz⟩:=I.tuple hq;obtain⟨j,h1,h2,h3,h4,h5⟩:=ue he;obtain⟨w,ew,rw'⟩:=r.get h2;have hl:=r.length;have hn:=mU;have fin:EP X pins σ Q w s:=⟨z,H,I,rw',q⟩
 exact subscriptTail_builtinR (x:=w) pl.typeIs slot_tuple_getitem.lookup
  (getItem_tuple (j:=j) (Q:=λr s'=>r=w/\EP X pins σ Q r s') pl ‹0› ‹0› (by rw[RE,<-hl];exact h1) (by simpa using ew) ⟨rfl,fin⟩) hs
theorem Hm:LU X MD:=by
 intro value slice pins s σ H x y v u Q I rx ry h hs;obtain⟨z,i,c,rfl,rfl,hz,he,q⟩:=h;obtain⟨t,rfl⟩:=rx;obtain⟨t',rfl⟩:=ry;obtain⟨j,h1,h2,h3,h4,h5⟩:=ue he;have hl:z.cps.toList.length=z.length:=by simp[Str.length]
 rw[hl]at h1 h4 h5;have hn:=mU;exact tail_any (typeIs_str s z t) slot_str_getitem.lookup (getItem_str (c:=c) (by
  have e1:decide (i < -(2^63:Int))=false:=decide_eq_false ‹0›;have e2:decide (i>=2^63)=false:=decide_eq_false ‹0›;rw[e1,e2,Bool.or_false]) (by rw[h1];simpa using h2) ⟨.str ⟨#[c]⟩,H,I.tok _,⟨_,rfl⟩,q⟩) hs
theorem ui(lo hi:dG)(n:Nat):(sliceBounds lo hi none n).1=((HT.sIx n 0 lo:Nat):Int)/\(sliceBounds lo hi none n).2.1=((HT.sIx n n hi:Nat):Int)/\(sliceBounds lo hi none n).2.2=1:=by
 refine⟨?_,?_,rfl⟩
 ·cases lo with
  |none=>simp[sliceBounds,HT.sIx]
  |some i=>
   simp only[sliceBounds,HT.sIx,R5,show(1:Int)>0 by decide,if_true];by_cases h:i<0
   ·simp only[h,if_true]<;>omega
   ·simp only[h,if_false]<;>omega
 ·cases hi with
  |none=>simp[sliceBounds,HT.sIx]
  |some i=>
   simp only[sliceBounds,HT.sIx,R5,show(1:Int)>0 by decide,if_true];by_cases h:i<0
   ·simp only[h,if_true]<;>omega
   ·simp only[h,if_false]<;>omega
theorem rd(its:aN)(lo hi:dG):slicePick its.toArray lo hi none=((its.drop (HT.sIx its.length 0 lo)).take (HT.sIx its.length its.length hi-HT.sIx its.length 0 lo)).toArray:=by
 obtain⟨h1,h2,h3⟩:=ui lo hi its.toArray.size;unfold slicePick;rw[h1,h2,h3];simp only[sliceRange_one,pick_run,RE]<;>rfl
noncomputable def Nn(K:T3):V->dG->dG->Hp->VK->Prop:=λx lo hi H Q=>∃a xs,x=.ref a/\mL K H a xs/\∀p,H p=none->Q (.ref p) (upd H p (.lst (uY xs lo hi)))
theorem Ff:Mq X (Nn X.K):=by
 intro pins s σ H x v vl vu lo hi sl Q I rx hs pl pu h;obtain⟨a,xs,rfl,hx,q⟩:=h;cases rx;obtain⟨its,r,ht,hz⟩:=I.list hx;have hlen:=r.length;refine⟨"list",_,slot_list_getitem.lookup,ht.isList.typeIs,?_⟩;refine wpAny_getItem_list_slice ht.isList hs pl pu .none (by simp) ?_ (by rw[RE]<;>omega);rw[rd,<-hlen];refine⟨.ref s.heap.objs.size,_,I.laid (t':=s.toks) (o:=.lst (uY xs lo hi)) (λb ob q=>UT _ q) (RB _) ?_,rfl,q _ (I.hok.fresh (RB _))⟩;exact⟨Rq (oH xs lo hi) hz,_,0,(r.drop (HT.sIx xs.length 0 lo)).take (HT.sIx xs.length xs.length hi-HT.sIx xs.length 0 lo),UU _ rfl⟩
noncomputable def Cp:V->Bool
 |.non=>true
 |.bl _=>true
 |.int _=>true
 |.str _=>true
 |_=>false
noncomputable def Om:V->V->Bool
 |.non,.non=>true
 |.bl a,.bl b=>a==b
 |.bl a,.int b=>(if a then 1 else 0)==b
 |.int a,.bl b=>a==(if b then 1 else 0)
 |.int a,.int b=>a==b
 |.str a,.str b=>a==b
 |_,_=>false
theorem Ir{A:Vp}{s:Vh}{y x:V}{u v:Vc}(ry:RelV y u)(rx:RelV x v)(fy:Cp y=true)(fx:Cp x=true):SeqAt.EqAt A s u v (Om y x):=by
 cases y with
 |non=>
  cases ry;cases x with
  |non=>cases rx;exact SeqAt.EqAt.same _
  |bl b=>cases rx;exact SeqAt.EqAt.none_bool b
  |int b=>obtain⟨t,rfl⟩:=rx;exact SeqAt.EqAt.none_int b t
  |str b=>obtain⟨t,rfl⟩:=rx;exact SeqAt.EqAt.none_str b t
  |_=>exact absurd (show false=true from fx) RG
 |bl a=>
  cases ry;cases x with
  |non=>cases rx;exact SeqAt.EqAt.bool_none a
  |bl b=>cases rx;exact SeqAt.EqAt.bool_bool a b
  |int b=>obtain⟨t,rfl⟩:=rx;exact SeqAt.EqAt.bool_int a b t
  |str b=>obtain⟨t,rfl⟩:=rx;exact SeqAt.EqAt.bool_str a b t
  |_=>exact absurd (show false=true from fx) RG
 |int a=>
  obtain⟨t',rfl⟩:=ry;cases x with
  |non=>cases rx;exact SeqAt.EqAt.int_none a t'
  |bl b=>cases rx;exact SeqAt.EqAt.int_bool a t' b
  |int b=>obtain⟨t,rfl⟩:=rx;exact SeqAt.EqAt.int_int a t' b t
  |str b=>obtain⟨t,rfl⟩:=rx;exact SeqAt.EqAt.int_str a t' b t
  |_=>exact absurd (show false=true from fx) RG
 |str a=>
  obtain⟨t',rfl⟩:=ry;cases x with
  |non=>cases rx;exact SeqAt.EqAt.str_none a t'
  |bl b=>cases rx;exact SeqAt.EqAt.str_bool a t' b
  |int b=>obtain⟨t,rfl⟩:=rx;exact SeqAt.EqAt.str_int a t' b t
  |str b=>obtain⟨t,rfl⟩:=rx;exact SeqAt.EqAt.str_str a t' b t
  |_=>exact absurd (show false=true from fx) RG
 |_=>exact absurd (show false=true from fy) RG
theorem mF:eX X (.builtin "len") (λxs H Q=>∃p ys,xs=[.ref p]/\(mL X.K H p ys\/oJ X.K H p ys)/\Q (.int ys.length) H):=by
 intro pins s σ H xs us Q I r h;obtain⟨p,ys,rfl,hq,q⟩:=h;obtain⟨u,rfl,rx⟩:=vals1 r;cases rx;have hn:=mU;rcases hq with hq|hq
 ·obtain⟨its,r',pl,hz⟩:=I.list hq;have hlen:=r'.length;exact Calls.call_len_list pl.isList (by simp only[RE]<;>omega) ⟨.int ys.length,H,I.tok _,⟨s.toks+1,by rw[RE,hlen]⟩,q⟩
 ·obtain⟨its,r',pl,hz⟩:=I.tuple hq;have hlen:=r'.length;exact len_tuple pl (by simp only[RE]<;>omega) ⟨.int ys.length,H,I.tok _,⟨s.toks+1,by rw[RE,hlen]⟩,q⟩
theorem tN:eX X (.builtin "len") (λxs H Q=>∃z,xs=[.str z]/\z.length<=Vm/\Q (.int z.length) H):=by
 intro pins s σ H xs us Q I r h;obtain⟨z,rfl,hz,q⟩:=h;obtain⟨u,rfl,t,rfl⟩:=vals1 r;have hn:=mU;exact len_str ‹0› ⟨.int z.length,H,I.tok _,⟨_,rfl⟩,q⟩
theorem lB:eX X (.type "tuple") (λxs H Q=>∃p ys,xs=[.ref p]/\((mL X.K H p ys/\∀l,H l=none->Q (.ref l) (upd H l (.tup ys)))\/(oJ X.K H p ys/\Q (.ref p) H))):=by
 intro pins s σ H xs us Q I r h;obtain⟨p,ys,rfl,h⟩:=h;obtain⟨u,rfl,rx⟩:=vals1 r;cases rx;rcases h with⟨hq,q⟩|⟨hq,q⟩
 ·obtain⟨its,r',pl,hz⟩:=I.list hq;have hlen:=r'.length;refine call_tuple_list pl.isList (λh' kp=>?_) (by simp only[RE]<;>omega);have I1:Inv X pins σ H {s with heap:=h'}:=I.kept (t':=s.toks) kp;have I2:Inv X pins σ (upd H h'.objs.size (.tup ys)) {s with heap:=h'.push {cls:=.type "tuple",data:=.seq its.toArray}}:=
   I1.laid (t':=s.toks) (λb o e=>UT _ e) (RB _) (show cy X.prog X.w _ _ _ (.tup ys)from⟨hz,its,r',IsTup.new _ _⟩)
  exact⟨.ref h'.objs.size,_,I2,rfl,q _ (I1.hok.fresh (RB _))⟩
 ·obtain⟨its,r',pl,hz⟩:=I.tuple hq;exact call_tuple_same pl ⟨.ref p,H,I,rfl,q⟩
noncomputable def Ph(K:T3)(T:String)(x:V)(H:Hp):Prop:=match x with
 |.str _=>T="str"
 |.int _=>T="int"
 |.ref p=>(T="list"/\∃xs,mL K H p xs)\/(T="tuple"/\∃o,K.lookup p=some o/\o.cls=.type "tuple"/\o.dict=none) \/
   (T="dict"/\((∃kvs,H p=some (.dK kvs))\/∃kvs,H p=some (.dT kvs)))\/(T="set"/\∃S n,H p=some (.set S n))
 |_=>False
theorem HY{pins:aS}{σ:St}{H:Hp}{s:Vh}{T:String}{x:V}{v:Vc}(I:Inv X pins σ H s)(r:RelV x v)(ty:Ph X.K T x H):
  s.TypeIs v T/\∀a,v=.ref a->∃ob,s.heap.get? a=some ob/\ob.dict=none:=by
 cases x with
 |str z=>
  obtain⟨t,rfl⟩:=r;cases(show T="str"from ty);exact⟨typeIs_str s z t,λ_ e=>nomatch e⟩
 |int i=>
  obtain⟨t,rfl⟩:=r;cases(show T="int"from ty);exact⟨typeIs_int s i t,λ_ e=>nomatch e⟩
 |ref p=>
  cases r;rcases ty with⟨rfl,xs,hq⟩|⟨rfl,o,hk,hc,hd⟩|⟨rfl,hk⟩|⟨rfl,S,n,hk⟩
  ·obtain⟨its,_,pl,_⟩:=I.list hq;refine⟨pl.isList.typeIs,λa e=>?_⟩;cases e;obtain⟨o,n,e,c,hd,_⟩:=pl;exact⟨o,e,hd⟩
  ·refine⟨⟨o,I.kIn p o hk,hc⟩,λa e=>?_⟩;cases e;exact⟨o,I.kIn _ o hk,hd⟩
  ·have z:∃o,s.heap.get? p=some o/\o.ExactDict:=by
    rcases hk with⟨kvs,hk⟩|⟨kvs,hk⟩
    ·obtain⟨_,_,_,_,o,_,_,e,ex,_⟩:=I.hok p _ hk;exact⟨o,e,ex⟩
    ·obtain⟨_,_,_,_,o,_,_,e,ex,_⟩:=I.hok p _ hk;exact⟨o,e,ex⟩
   obtain⟨o,e,ex⟩:=z;refine⟨⟨o,e,ex.1⟩,λa e2=>?_⟩;cases e2;exact⟨o,e,ex.2.1⟩
  ·obtain⟨o,_,_,_,e,ex,_⟩:=I.hok p _ hk;refine⟨⟨o,e,ex.1⟩,λa e2=>?_⟩;cases e2;exact⟨o,e,ex.2.1⟩
 |_=>exact False.elim ty
noncomputable def P8(K:T3)(T:String)(r:V->aH->Hp->VK->Prop)(to:TE)(t:TA):TE:=λσ H Q=>to σ H λx H1=>Ph K T x H1/\t σ H1 λxs H2=>r x xs H2 Q
variable{o e:Vf}{es:bu}{to:TE}{t:TA}{name:Str}{apos cpos:Pos}{T id:String}{r:V->aH->Hp->VK->Prop}
theorem Le(pa:PlainAttrs T)(slot:Slot T name id)(hty:typeOf (.builtin id)=pure (.type "method_descriptor"))(hm:QR X id r)(ho:PE X o to)(ha:PA X (e::es) t)
  (hbase:VO o name X.env (eval o X.env)=eval o X.env:=by rfl)
  (hfew:((backTo cpos (Vt (e::es) X.env)).all (fun x=>!x.1) && (backToKw cpos (VR [] X.env)).all (fun x=>x.1.isSome)
   && decide ((e::es).length+([]:List V0).length+(if([]:List V0).isEmpty then 0 else 1)<30))=true:=by rfl)
  (hline:(apos.endLine==cpos.line)=true:=by rfl) (hs:Vt (e::es) X.env=(false,eval e X.env)::Vt es X.env:=by rfl) (hplain:(backTo cpos (Vt es X.env)).any (·.1)=false:=by rfl):
  PE X (.Call (.Attribute o name apos) (e::es) [] cpos) (P8 X.K T r to t):=by
 intro pins s σ H Q I h;refine wpAny_Call_method_late hbase hfew hline rfl (cJ (ho pins s σ H _ I h) λv s1 ⟨x,H1,I1,r1,ty,q1⟩=>?_);obtain⟨h1,h2⟩:=HY I1 r1 ty;refine⟨T,id,pa,slot,hty,h1,h2,?_⟩;have hA:=ha cpos pins s1 σ H1 _ I1 q1;rw[hs]at hA ⊢;refine Calls.callWith_builtin (by show(false||(backTo cpos (Vt es X.env)).any (·.1))=false;rw[hplain]<;>rfl) (Calls.evalArgs_plain ?_);exact cJ hA λus s2 ⟨vs,H2,I2,r2,q2⟩=>hm pins s2 σ H2 x vs v us Q I2 r1 r2 q2
end
noncomputable def Py(X:Cx)(id:String)(r:V->aH->Hp->VK->Prop):Prop:=
 ∀(pins:aS)(s:Vh)(σ:St)(H:Hp)(x:V)(xs:aH)(v:Vc)(us:aN)(Q:VK),Inv X pins σ H s->RelV x v->Vals xs us->r x xs H Q->
  Vs (model X.prog X.w) X.A (call (.builtin id) (v::us)) (EP X pins σ Q) X.xe s
theorem Vals.one:∀{x:V}{us:aN},Vals [x] us->∃u,us=[u]/\RelV x u
 |_,_,.cons r .nil=>⟨_,rfl,r⟩
section
variable{X:Cx}{pins:aS}{σ:St}{H:Hp}{s:Vh}{l b:Ve}{xs ys zs:aH}
theorem Inv.lset{its its':aN}{n:Nat}{f:Array Vc->Array Vc}{t':Nat}(I:Inv X pins σ H s)(hH:H l=some (.lst xs))
  (e:s.heap.get? l=some {cls:=.type "list",data:=.seq its.toArray n}) (hf:f its.toArray=its'.toArray) (hv:Vals ys its') (hz:ys.length<=Vm):
  Inv X pins σ (upd H l (.lst ys)) {s with heap:=s.heap.update l (Obj.mapSeq f),toks:=t'}:=by
 have q:=PySem.IsL.update e f;rw[hf]at q;refine I.write (x:=l) (e:=l) (by rw[hH];exact trivial) (.inl rfl) (λb' u hb hu=>(UW s.heap (Obj.mapSeq f) (Ne.symm hb)).trans hu) ⟨_,q⟩ ?_;exact⟨hz,its',_,hv,q⟩
theorem Inv.lnew{its:aN}{t':Nat}(I:Inv X pins σ H s)(hv:Vals ys its)(hz:ys.length<=Vm):
  Inv X pins σ (upd H s.heap.objs.size (.lst ys)) {s with heap:=s.heap.push {cls:=.type "list",data:=.seq its.toArray},toks:=t'}:=
 I.laid (λ_ _ q=>UT _ q) (RB _) ⟨hz,its,0,hv,UU _ rfl⟩
theorem Inv.fresh(I:Inv X pins σ H s):H s.heap.objs.size=none:=I.hok.fresh (RB _)
theorem Inv.lstM(I:Inv X pins σ H s)(hH:H l=some (.lst xs)):xs.length<=Vm/\∃(its:aN)(n:Nat),Vals xs its/\xs.length=its.length/\s.heap.get? l=some {cls:=.type "list",data:=.seq its.toArray n}:=by
 obtain⟨z,its,n,r,e⟩:=I.hok l _ hH;exact⟨z,its,n,r,r.length,e⟩
end
section
variable{X:Cx}
noncomputable def yg:V->aH->Hp->VK->Prop:=λx vs H Q=>∃l xs y,x=.ref l/\vs=[y]/\H l=some (.lst xs)/\xs.length<Vm/\Q .non (upd H l (.lst (xs++[y])))
theorem rE:Py X "list.append" yg:=by
 intro pins s σ H x vs v us Q I rx rv h;obtain⟨l,xs,y,rfl,rfl,hH,hz,q⟩:=h;cases rx;obtain⟨u,rfl,ru⟩:=rv.one;obtain⟨z,its,n,r,hl,e⟩:=I.lstM hH;refine call_meets F.slot_list_append ⟨_,e,rfl⟩ F.entry_list_append (F.args_list_append_2 _ _) (PySem.list_append l its.toArray n u (by rw[RE];omega)) ⟨e,?_⟩;refine⟨.non,_,I.lset (its':=its++[u]) hH e (by simp) (r.append (.cons ru .nil)) ?_,rfl,q⟩;rw[R0,R6];omega
end
end L2
namespace Att
open PySem PySem.W PySem.Calls PyProof.Rows
theorem o6{P:Params}{h:Vl}:∀(ns:List Int)(vs:List Vc),WellAll P h vs (ns.map WData.int)->IntsAre vs ns:=by
 intro ns
 induction ns with
 |nil=>
  intro vs w;rw[R7]at w;cases w;exact .nil
 |cons n ns ih=>
  intro vs w;rw[RJ]at w;cases w with
  |cons a b=>
   cases a;exact .cons _ _ (ih _ b)
theorem zI{l:OpenLaw}{n:Nat}(hn:l.most=some n){P:Params}{h:Vl}{args:List WData}{vals:List Vc}
  (hpre:l.row.toRowW.claim.pre args=true) (hwl:WellAll P h vals args):
  ∃a vs ns,vals=[Value.ref a]/\args=[WData.list (ns.map WData.int)]/\h.get? a=some {cls:=.type "list",data:=.seq vs.toArray}/\IntsAre vs ns/\ns.length<=n:=by
 have hsh:WShape.hasAll [] args [.list .int]=true:=(pre_splitW hpre).1;have hc:l.pre.holds [] {args:=args}=true:=(pre_splitW hpre).2;obtain⟨d,r,rfl,h1,h2⟩:=hasAllW_cons hsh;obtain rfl:=hasAllW_nil h2;obtain⟨xs,rfl,h3⟩:=hasW_list h1;obtain⟨ns,rfl⟩:=items_int h3;have hlen:ns.length<=n:=by
  unfold OpenLaw.pre at hc;have h4:(WTm.not (.lt (.lit (.int (n:Int))) (.len (.arg 0)))).holds [] {args:=[.list (ns.map .int)]}=true:=by
   have h4:=(holds_andW hc).1;rw[hn]at h4;exact h4
  have h5:=condW_of h4 (w_not (w_lt w_lit (w_len_list (w_arg rfl))));rw[RK]at h5;refine Nat.le_of_not_lt λq=>?_;have q':(n:Int)<((ns.length:Nat):Int):=by omega
  first
   |(rw[decide_eq_true q']at h5;exact absurd h5 (by decide))
   |(simp at h5;omega)
 cases hwl with
 |cons w1 w2=>
  cases w2;cases w1 with
  |list ho hall=>exact⟨_,_,ns,rfl,rfl,ho,o6 ns _ hall,hlen⟩
theorem Av(l:OpenLaw)(args:List WData):l.row.toRowW.claim.post args (.bool true) args=true:=
 postW_of (r:=l.row.toRowW) (X:=(true==true))
  (show WShape.has [] (.bool true) .bool=true by first|rfl|decide|simp[WShape.has,WShape.arms,WShape.armsAll])
  (show(WTm.eq .res (.lit (.bool true))).value [] {args:=args,res:=some (.bool true),after:=args}=some (.bool (true==true))from w_eq_bool (w_res rfl) w_lit) rfl
theorem Gx{l:OpenLaw}{n:Nat}{q:Vj}{loose:List Str}{XP:(Str->Option Vc)->Vl->Prop}{YP:Vi->Vl->Prop}{d:DefRec}
  (hn:l.most=some n) (hdf:d.params.defaults=[])
  (call:∀ (w:Vi) (s₀ s₁:Vh) (mg mb:Str->Option Vc) (fa:Ve) (o:Obj) (pm cd doc:Vc) (a:Ve) (vs:List Vc) (ns:List Int),
   Ground q loose [] XP w s₀ mg mb s₁.heap->YP w s₁.heap->
   s₁.heap.get? fa=some o->o.data=.func (docDef d.name d.params d.body d.scope pm cd doc)->s₁.heap.CodeRec cd d.name->mg d.name=some (.ref fa)->
   s₁.heap.get? a=some {cls:=.type "list",data:=.seq vs.toArray}->IntsAre vs ns->ns.length<=n->s₁.gens=#[]->
   VN (model l.prog w) callerA (.call (.ref fa) ⟨[.ref a],[]⟩) (λr s'=>r=.ok (.ret (.bool true))/\OldK s₁.heap s'.heap/\s'.os=s₁.os/\AllBare s'.gens) s₁):
  WalkO q loose XP YP l.row.toRowW d [] (λf vs=>PySem.call f vs):=by
 intro w s₀ s₁ mg mb G Y fa o pm cd doc dV kV ho hd hcd hD hmg hg args vals as hpre hlay hrd hwl hlo;obtain rfl:dV=.none:=Dflts.none hD hdf;obtain rfl:kV=.none:=Dflts.noKw hD;obtain⟨a,vs,ns,rfl,rfl,hobj,hints,hlen⟩:=zI hn hpre hwl;refine enter_call (VY (call w s₀ s₁ mg mb fa o pm cd doc a vs ns G Y ho (fd_plain hd) hcd hmg hobj hints hlen hg) λr s' hq=>?_);obtain⟨rfl,h2,h3,h4⟩:=hq;exact⟨.inl ⟨.bool true,.bool true,[],rfl,λ_=>rfl,.bool true,Av l _,λ_=>⟨List.Pairwise.nil,λ_ hm=>(nomatch hm)⟩⟩,h2,h3,h4⟩
section
variable{prog:Vj}{w:Vi}{A:Vp}{E:Vc->Vh->Prop}{s:Vh}{K:Frag}
end
end Att
namespace L2
open PySem PySem.Spec PyProof.Rows
theorem sd:∀{vs:aN}{ns:List Int},IntsAre vs ns->Vals (ns.map V.int) vs
 |_,_,.nil=>.nil
 |_,_,.cons n t h=>.cons ⟨t,rfl⟩ (sd h)
noncomputable def Only(H:Hp):Prop:=∀b,H b=none\/∃o xs,H b=some (.frz o (.lst xs))
theorem Cr{P:Vj}{w:Vi}{K:T3}{mg mb:cu}{CX:vV}{k:Nat}{fa a:Ve}{fd:VU}{x:Str}{sp:Sp}{s₁:Vh}{vs:aN}{ns:List Int}
  (KX:K.In s₁.heap) (hns:s₁.heap.Ns Vn mg) (hb:s₁.heap.Ns builtinsNs mb) (hbb:∀x:Str,x≠"__name__"->mb x=Vo x) (hlim:s₁.heap.NoLimit) (hg:s₁.gens=#[])
  (ha:s₁.heap.get? a=some {cls:=.type "list",data:=.seq vs.toArray}) (hi:IntsAre vs ns) (hl:ns.length<=Vm) (hr:gq k callerA)
  (F:∀base:Vl,K.In base->base.Ns Vn mg->hJ P w K mg base CX k fa fd [x] sp) (hbind:∀(s:Vh)(u:Vc),VW s fd ⟨[u],[]⟩ [(x,u)])
  (hsp:∀H:Hp,Only H->mL K H a (ns.map V.int)->sp [.ref a] H (λv _=>v=.bl true) λ_ _ _=>False)
  (hCX:∀H e s',CX [] H s₁ (λ_ _ _=>False) e s'->False):
  VN (model P w) callerA (.call (.ref fa) ⟨[.ref a],[]⟩) (λr s'=>r=.ok (.ret (.bool true))/\OldK s₁.heap s'.heap/\s'.os=s₁.os/\AllBare s'.gens) s₁:=by
 have rv:=sd hi;have lenV:=hi.length;have core:∀H:Hp,Only H->mL K H a (ns.map V.int)->nI P w H s₁.heap->(∀b,H b≠none->b=a)->(H a≠none->K.lookup a=none)->
   VN (model P w) callerA (.call (.ref fa) ⟨[.ref a],[]⟩) (λr s'=>r=.ok (.ret (.bool true))/\OldK s₁.heap s'.heap/\s'.os=s₁.os/\AllBare s'.gens) s₁:=by
  intro H hO hS hok hA hK;have base_of:∀{b:Ve}{o:Obj},s₁.heap.get? b=some o->H b=none->(lu s₁.heap H).get? b=some o:=λe n=>qi e n;have noA:∀{b:Ve}{o:Obj}{es:Array DictEntry}{ep:Nat},s₁.heap.get? b=some o->o.data=.dict es ep->H b=none:=λ{b o es ep} e d=>by
   cases q:H b with
   |none=>rfl
   |some u=>
    have e':b=a:=hA b (by rw[q];simp);subst e';rw[ha]at e;cases e;have d':Data.seq vs.toArray _=Data.dict es ep:=d;cases d'
  have nsK:∀{b:Ve}{m:cu},s₁.heap.Ns b m->(lu s₁.heap H).Ns b m:=λ{b m} ⟨o,es,ep,e,d,r⟩=>⟨o,es,ep,base_of e (noA e d),d,r⟩
  have hKb:K.In (lu s₁.heap H):=λb o e=>base_of (KX b o e) (by
   cases q:H b with
   |none=>rfl
   |some u=>
    have e':b=a:=hA b (by rw[q];simp);subst e';rw[hK (by rw[q];simp)]at e;cases e)
  have hM:Mod K mg (lu s₁.heap H):=⟨hKb,nsK hns,⟨mb,nsK hb,hbb⟩,let ⟨mc,h1,h2⟩:=hlim;⟨mc,nsK h1,h2⟩⟩
  have e0:yZ P w K mg (lu s₁.heap H) callerA [] s₁ H:=⟨rfl,hM,λb o e=>mP e,RL (zq _ _),trivial,λb hb=>absurd (show b∈([]:aD)from hb) (by simp),hok,.of_eq hg⟩
  refine VY ((F _ hKb (nsK hns)).run callerA [] s₁ H ⟨[.ref a],[]⟩ [.ref a] [.ref a] _ _ hr e0 (hbind s₁ (.ref a)) (.cons rfl .nil) (hsp H hO hS)) λr s' h=>?_;cases r with
  |error e=>exact(hCX H e s' h).elim
  |ok fl=>
   cases fl with
   |next=>exact False.elim h
   |brk=>exact False.elim h
   |cont=>exact False.elim h
   |ret u=>
    obtain⟨v,H',os,bare,un,hok',r',q⟩:=h;have q':v=.bl true:=q;subst q';obtain rfl:u=Value.bool true:=r';refine⟨rfl,OldK.of_keep λb o e=>?_,os,bare⟩;cases q:H b with
    |none=>exact un.keep b o e q (by intro z;exact absurd (show b∈([]:aD)from z) (by simp)) (by simp)
    |some u=>
     rcases hO b with z|⟨ob,xs,z⟩
     ·rw[q]at z;cases z
     ·have z2:=un.frzs b ob _ z;obtain⟨e1,_⟩:=hok b _ z;obtain⟨e2,_⟩:=hok' b _ z2;rw[e]at e1;cases e1;exact e2
 cases hk:K.lookup a with
 |some o=>
  have e:=KX a o hk;rw[ha]at e;cases e;refine core (λ_=>none) (λ_=>.inl rfl) (.inr ⟨_,vs.toArray,_,hk,rfl,rfl,rfl,by rw[RE,lenV];exact hl,by simpa using rv⟩) (λb u z=>by have z':(none:Option HO)=some u:=z;cases z') (λb z=>absurd rfl z) λz=>absurd rfl z
 |none=>
  refine core (λb=>if b=a then some (.frz {cls:=.type "list",data:=.seq vs.toArray} (.lst (ns.map V.int)))else none) (λb=>?_) (.inl (.inr ⟨{cls:=.type "list",data:=.seq vs.toArray},if_pos rfl⟩)) (λb u z=>?_) (λb z=>?_) λ_=>hk
  ·by_cases hb:b=a
   ·exact .inr ⟨_,_,if_pos hb⟩
   ·exact .inl (if_neg hb)
  ·by_cases hb:b=a
   ·have z':=(if_pos hb).symm.trans z;cases z';subst hb;exact⟨ha,by rw[RK];exact hl,vs,_,rv,ha⟩
   ·have z':=(if_neg hb).symm.trans z;cases z'
  ·by_cases hb:b=a
   ·exact hb
   ·exact absurd (if_neg hb) z
theorem MB{l:Uv}{n k:Nat}{q:Vj}{loose:au}{XP:(cu)->Vl->Prop}{YP:Vi->Vl->Prop}{d:DefRec}{K:Params->T3}{CX:Vi->vV}{sp:Vi->Sp}{x:Str}
  (hn:l.most=some n) (hn2:n<=Vm) (hdf:d.params.defaults=[]) (hr:gq k callerA)
  (hY:∀(w:Vi)(h:Vl),YP w h->(K w.params).In h)
  (F:∀ (w:Vi) (mg:cu) (fa:Ve) (h:Vl),(K w.params).In h->h.Ns Vn mg->mg d.name=some (.ref fa) ->
   ∃fd:VU,(∀(s:Vh)(u:Vc),VW s fd ⟨[u],[]⟩ [(x,u)])/\
    ∀base:Vl,(K w.params).In base->base.Ns Vn mg->hJ l.prog w (K w.params) mg base (CX w) k fa fd [x] (sp w))
  (hsp:∀(w:Vi)(H:Hp)(a:Ve)(ns:List Int),ns.length<=n->Only H->mL (K w.params) H a (ns.map V.int)->sp w [.ref a] H (λv _=>v=.bl true) λ_ _ _=>False)
  (hCX:∀(w:Vi)(H:Hp)(s:Vh)(e:Vc)(s':Vh),CX w [] H s (λ_ _ _=>False) e s'->False):
  PySem.W.WalkO q loose XP YP l.row.toRowW d [] (λf vs=>PySem.call f vs):=by
 refine Att.Gx hn hdf λw s₀ s₁ mg mb fa o pm cd doc a vs ns G Y ho hd hcd hmg hobj hints hlen hg=>?_;have KX:=hY w _ Y;obtain⟨fd,hb,hF⟩:=F w mg fa _ KX G.T.g hmg;exact Cr KX G.T.g G.T.b G.T.builtins G.T.nolimit hg hobj hints (Rq hlen hn2) hr hF hb (λH hO hS=>hsp w H a ns hlen hO hS) λH e s'=>hCX w H s₁ e s'
noncomputable def inClass(s:Vg)(j:Nat):Vg:=match s with
 |.ClassDef _ _ _ body _ _ _ _ _ _ _=>body.getD j (.Pass ⟨0,0,0,0⟩)
 |_=>.Pass ⟨0,0,0,0⟩
noncomputable def jr(s:Vg):Arguments:=match s with
 |.FunctionDef _ a _ _ _ _ _ _ _ _=>a
 |_=>{posonlyargs:=[],args:=[],vararg:=none,kwonlyargs:=[],kw_defaults:=[],kwarg:=none,defaults:=[]}
noncomputable def eA(s:Vg):eK:=match s with
 |.FunctionDef _ _ b _ _ _ _ _ _ _=>b
 |_=>[]
noncomputable def aB(s:Vg):Vq:=match s with
 |.FunctionDef _ _ _ _ _ _ sc _ _ _=>sc
 |_=>{kind:=.function,names:=[],isGenerator:=false,isCoroutine:=false}
noncomputable abbrev K5:vV:=λ_ _ _ _ _ _=>False
noncomputable abbrev E0:XK:=λ_ _ _=>False
structure pf(K:T3)(x qual:Str)(st:Vg)(f:Ve)(fd:VU):Prop where
 ex:∃(oc:Vc)(od:Option Ve)(kV doc pm:Vc)(an:Option Ve)(cdv ct:Vc)(osl:Array (Option Vc)),
  fd=Ut x qual (jr st) (eA st) (aB st) .none kV doc pm an cdv ct/\K.lookup f=some ⟨oc,od,.func fd,osl⟩/\Uu K cdv qual=true
 kp:Uq K (.ref f)=true
section
variable{P:Vj}{w:Vi}{K:T3}{mg:cu}{base:Vl}
theorem pf.ok{x qual:Str}{st:Vg}{f:Ve}{fd:VU}{N ps:au}{k:Nat}{sp:Sp}(F:pf K x qual st f fd)(S:b7 N ps (aB st))(len:∀vs H Q E,sp vs H Q E->vs.length=ps.length)
  (hbody:∀ (cdv:Vc) (A:Vp) (outer:List Env) (s:Vh) (H:Hp) (vs:aH) (Q:VK) (E:XK),gq k (A.deeper (envOfC qual (aB st) s.heap.objs.size f cdv))->sp vs H Q E ->
   ∃t,uG (jR K5 P w K mg base N qual (aB st) f cdv A outer s H E).nox (eA st) t/\t {nx:=λ_ H'=>Q .non H',rt:=Q} (start N vs) H):hJ P w K mg base K5 (k+1) f fd ps sp:=by
 obtain⟨oc,od,kV,doc,pm,an,cdv,ct,osl,rfl,lk,hcd⟩:=F.ex;refine Gp lk hcd S len λA outer s H vs Q E hr hsp=>?_;obtain⟨t,h,q⟩:=hbody cdv A outer s H vs Q E hr hsp;exact⟨t,h.nox,q⟩
theorem pf.binds{x qual:Str}{st:Vg}{f:Ve}{fd:VU}{ps:au}(F:pf K x qual st f fd)
  (h:∀(kV doc pm:Vc)(an:Option Ve)(cdv ct:Vc)(us:aN),us.length=ps.length->bindArgs (Ut x qual (jr st) (eA st) (aB st) .none kV doc pm an cdv ct) ⟨us,[]⟩=pure (ps.zip us)):Binds K fd ps []:=by
 obtain⟨oc,od,kV,doc,pm,an,cdv,ct,osl,rfl,lk,hcd⟩:=F.ex;exact .all (h kV doc pm an cdv ct)
theorem bp{x qual:Str}{st:Vg}{f:Ve}{oc:Vc}{od an:Option Ve}{osl:Array (Option Vc)}{kV doc pm cdv ct:Vc}(l:K.lookup f=some ⟨oc,od,.func (Ut x qual (jr st) (eA st) (aB st) .none kV doc pm an cdv ct),osl⟩)
  (c:Uu K cdv qual=true) (k:Uq K (.ref f)=true):pf K x qual st f (Ut x qual (jr st) (eA st) (aB st) .none kV doc pm an cdv ct):=⟨⟨oc,od,kV,doc,pm,an,cdv,ct,osl,rfl,l,c⟩,k⟩
end
section
variable{X:Cx}
theorem pv(i:Nat){x:Str}{pos:Pos}(hN:X.N[i]?=some x:=by rfl)(hv:Jv X.env.scope x:=by first|exact Or.inl rfl|exact Or.inr (Or.inl rfl)|exact Or.inr (Or.inr rfl))(hd:(x==("__debug__":Str))=false:=by decide)
  (hcd:(x==("__classdict__":Str))=false:=by decide):PE X (.Name x pos) (uk i):=HD hN hv hd hcd
end
theorem uT{A B:Prop}(h:B):if false=true then A else B:=by
 rw[if_neg RG];exact h
theorem vP{A B:Prop}(h:A):if true=true then A else B:=by
 rw[if_pos rfl];exact h
noncomputable def aT(H H':Hp):Prop:=∀b o,H b=some o->H' b=some o
theorem aT.refl(H:Hp):aT H H:=λ_ _ h=>h
theorem aT.trans{H H1 H2:Hp}(a:aT H H1)(b:aT H1 H2):aT H H2:=λc o h=>b c o (a c o h)
theorem aT.free{H H':Hp}(e:aT H H'){l:Ve}(h:H' l=Option.none):H l=Option.none:=by
 cases q:H l with
 |none=>rfl
 |some o=>
  rw[e l o q]at h;cases h
theorem aT.seq{K:T3}{H H':Hp}{a:Ve}{xs:aH}(e:aT H H')(h:mL K H a xs):mL K H' a xs:=by
 rcases h with(h|⟨o,h⟩)|h
 ·exact .inl (.inl (e _ _ h))
 ·exact .inl (.inr ⟨o,e _ _ h⟩)
 ·exact .inr h
section
variable{κ:Type}[DecidableEq κ]
noncomputable def lN(kvs:List (κ×V))(k:κ):Option V:=(kvs.find? λkv=>decide (kv.1=k)).map (·.2)
noncomputable def putK(kvs:List (κ×V))(k:κ)(v:V):List (κ×V):=
 if(kvs.any λkv=>decide (kv.1=k))=true then kvs.map (λkv=>if kv.1=k then(kv.1,v)else kv)else kvs++[(k,v)]
theorem mq{p:κ×V}{r:List (κ×V)}{k:κ}(e:p.1=k):lN (p::r) k=some p.2:=by simp[lN,R8,e]
theorem mI{p:κ×V}{r:List (κ×V)}{k:κ}(e:¬p.1=k):lN (p::r) k=lN r k:=by simp[lN,R8,e]
theorem uM(k:κ):∀kvs:List (κ×V),(kvs.any λkv=>decide (kv.1=k))=(lN kvs k).isSome
 |[]=>rfl
 |p::r=>by
  rw[R9];by_cases e:p.1=k
  ·simp only[mq e,decide_eq_true e,Bool.true_or,Option.isSome_some]
  ·rw[mI e,decide_eq_false e,Bool.false_or];exact uM k r
theorem j5(kvs:List (κ×V))(k:κ)(v:V):(putK kvs k v).length<=kvs.length+1:=by
 unfold putK;split
 ·rw[RK];omega
 ·rw[R0,RH,Sa];omega
theorem qE.isSome_eq{o:Option V}{u:Option Vc}(r:qE o u):o.isSome=u.isSome:=by
 cases o with
 |none=>cases u with
  |none=>rfl
  |some _=>exact(show False from r).elim
 |some _=>cases u with
  |none=>exact(show False from r).elim
  |some _=>rfl
theorem KV.val{kvs:List (κ×V)}{vs:List (κ×Vc)}(r:KV kvs vs)(k:κ):qE (lN kvs k) (valueAt vs k):=by
 unfold KV at r
 induction r with
 |nil=>exact True.intro
 |@cons p q ps qs h t ih=>
  obtain⟨h1,h2⟩:=h;by_cases e:p.1=k
  ·have e':q.1=k:=h1.symm.trans e;have b:valueAt (q::qs) k=some q.2:=(by simp[valueAt,R8,e']);rw[mq e,b];exact h2
  ·have e':¬q.1=k:=λz=>e (h1.trans z);have b:valueAt (q::qs) k=valueAt qs k:=(by simp[valueAt,R8,e']);rw[mI e,b];exact ih
theorem KV.any{kvs:List (κ×V)}{vs:List (κ×Vc)}(r:KV kvs vs)(k:κ):(kvs.any λkv=>decide (kv.1=k))=vs.any λkv=>decide (kv.1=k):=by
 unfold KV at r
 induction r with
 |nil=>rfl
 |cons h t ih=>rw[R9,R9,ih,h.1]
theorem KV.repl{kvs:List (κ×V)}{vs:List (κ×Vc)}(r:KV kvs vs)(k:κ){y:V}{u:Vc}(ry:RelV y u):
  KV (kvs.map λkv=>if kv.1=k then(kv.1,y)else kv) (vs.map λkv=>if kv.1=k then(kv.1,u)else kv):=by
 unfold KV at r ⊢
 induction r with
 |nil=>exact .nil
 |@cons p q ps qs h t ih=>
  rw[RJ,RJ];refine .cons ?_ ih;obtain⟨h1,h2⟩:=h;by_cases e:p.1=k
  ·rw[if_pos e,if_pos (h1.symm.trans e)];exact⟨h1,ry⟩
  ·rw[if_neg e,if_neg (λz=>e (h1.trans z))];exact⟨h1,h2⟩
theorem KV.put{kvs:List (κ×V)}{vs:List (κ×Vc)}(r:KV kvs vs)(k:κ){y:V}{u:Vc}(ry:RelV y u):KV (putK kvs k y) (stored vs k u):=by
 unfold putK stored;rw[r.any k];by_cases e:(vs.any λkv=>decide (kv.1=k))=true
 ·rw[if_pos e,if_pos e];exact r.repl k ry
 ·rw[if_neg e,if_neg e];exact Paired.snoc r ⟨rfl,ry⟩
theorem KV.keys{kvs:List (κ×V)}{vs:List (κ×Vc)}(r:KV kvs vs):kvs.map (·.1)=vs.map (·.1):=by
 unfold KV at r
 induction r with
 |nil=>rfl
 |cons h t ih=>rw[RJ,RJ,ih,h.1]
theorem KV.length{kvs:List (κ×V)}{vs:List (κ×Vc)}(r:KV kvs vs):kvs.length=vs.length:=Paired.length r
end
theorem vb{P:Vj}{w:Vi}{k:Key}{u:Vc}(r:RelV (kV k) u):(cD P w).is k u=true:=by
 cases k with
 |inl i=>obtain⟨t,e⟩:=(show∃t,u=Value.int i t from r);subst e;exact vB P w i t
 |inr x=>obtain⟨t,e⟩:=(show∃t,u=Value.str x t from r);subst e;exact vz P w x t
theorem rS{P:Vj}{w:Vi}:∀{ks:List Key}{us:aN},Vals (ks.map kV) us->ItemsAre (cD P w) ks us
 |[],_,r=>by rw[R7]at r;cases r;exact .nil
 |k::ks,_,r=>by
  rw[RJ]at r;cases r with
  |cons h t=>exact .cons (vb h) (rS t)
noncomputable abbrev KT(H:Hp):List (List Key×V)->List (List Key×Ve×Vc)->Prop:=Vk λp q=>p.1=q.1/\H q.2.1=some (.tup (p.1.map kV))/\RelV p.2 q.2.2
theorem KT.val{H:Hp}{kvs:List (List Key×V)}{xs:List (List Key×Ve×Vc)}(r:KT H kvs xs)(k:List Key):qE (lN kvs k) ((atKey xs k).map (·.2)):=by
 induction r with
 |nil=>exact True.intro
 |@cons p q ps qs h t ih=>
  obtain⟨h1,_,h2⟩:=h;by_cases e:p.1=k
  ·have e':q.1=k:=h1.symm.trans e;have b:atKey (q::qs) k=some q.2:=(by simp[atKey,R8,e']);rw[mq e,b];exact h2
  ·have e':¬q.1=k:=λz=>e (h1.trans z);have b:atKey (q::qs) k=atKey qs k:=(by simp[atKey,R8,e']);rw[mI e,b];exact ih
theorem KT.repl{H:Hp}{kvs:List (List Key×V)}{xs:List (List Key×Ve×Vc)}(r:KT H kvs xs)(k:List Key){y:V}{u:Vc}(ry:RelV y u):
  KT H (kvs.map λkv=>if kv.1=k then(kv.1,y)else kv) (xs.map (putAt k u)):=by
 induction r with
 |nil=>exact .nil
 |@cons p q ps qs h t ih=>
  rw[RJ,RJ];refine .cons ?_ ih;obtain⟨h1,h2,h3⟩:=h;unfold putAt;by_cases e:p.1=k
  ·rw[if_pos e,if_pos (h1.symm.trans e)];exact⟨h1,h2,ry⟩
  ·rw[if_neg e,if_neg (λz=>e (h1.trans z))];exact⟨h1,h2,h3⟩
theorem KT.put{H:Hp}{kvs:List (List Key×V)}{xs:List (List Key×Ve×Vc)}(r:KT H kvs xs)(k:List Key){b:Ve}{y:V}{u:Vc}(hb:H b=some (.tup (k.map kV)))(ry:RelV y u):
  KT H (putK kvs k y) (storedH xs k b u):=by
 have e:(kvs.any λkv=>decide (kv.1=k))=(atKey xs k).isSome:=by
  rw[uM,(r.val k).isSome_eq,Sb]
 unfold putK storedH;rw[e];by_cases q:(atKey xs k).isSome=true
 ·rw[if_pos q,if_pos q];exact r.repl k ry
 ·rw[if_neg q,if_neg q];exact Paired.snoc r ⟨rfl,hb,ry⟩
theorem KT.keeps{H H':Hp}{kvs:List (List Key×V)}{xs:List (List Key×Ve×Vc)}(r:KT H kvs xs)(ht:∀b ys,H b=some (.tup ys)->H' b=some (.tup ys)):KT H' kvs xs:=
 Paired.mapP r λ_ _ z=>⟨z.1,ht _ _ z.2.1,z.2.2⟩
section
variable{P:Vj}{w:Vi}{H:Hp}{h:Vl}{a:Ve}
theorem Gf{u:HO}(ok:nI P w H h)(e:Rd H a u):cy P w H h a u:=e.ok ok
theorem yA{kvs:List (Key×V)}(ok:nI P w H h)(e:Rd H a (.dK kvs)):kvs.length<=Vm/\(a==sysModules)=false/\∃vs,KV kvs vs/\h.DictOf (cD P w) a vs:=
 show cy P w H h a (.dK kvs)from Gf ok e
theorem CL{kvs:List (Key×V)}(ok:nI P w H h)(e:H a=some (.dK kvs)):kvs.length<=Vm/\(a==sysModules)=false/\∃vs,KV kvs vs/\h.DictOf (cD P w) a vs:=yA ok (.inl e)
theorem uz{ks:List Key}(ok:nI P w H h)(e:H a=some (.tup (ks.map kV))):(tupleKind (cD P w)).is h ks a:=by
 obtain⟨_,its,r,o,h1,h2,n,h3⟩:=(show cy P w H h a (.tup (ks.map kV))from ok a _ e)
 exact⟨o,its.toArray,n,h1,h2,h3,by simpa using rS r⟩
theorem yq{kvs:List (List Key×V)}(ok:nI P w H h)(e:Rd H a (.dT kvs)):kvs.length<=Vm/\(a==sysModules)=false/\
  ∃xs,KT H kvs xs/\h.DictOfH (tupleKind (cD P w)) a xs:=by
 obtain⟨z,y,xs,r,o,es,ep,h1,h2,h3,h4,h5⟩:=(show cy P w H h a (.dT kvs)from Gf ok e)
 refine⟨z,y,xs,r,o,es,ep,h1,h2,h3,h4,λx hx=>?_,h5⟩;have all:∀{l:List (List Key×V)}{m:List (List Key×Ve×Vc)},KT H l m->∀x∈m,(tupleKind (cD P w)).is h x.1 x.2.1:=by
  intro l m q
  induction q with
  |nil=>intro x hx;exact nomatch hx
  |@cons p q ps qs hq t ih=>
   intro x hx;rcases List.mem_cons.mp hx with e|hx
   ·subst e;exact uz ok (by rw[<-hq.1];exact hq.2.1)
   ·exact ih x hx
 exact all r x hx
theorem KC{kvs:List (List Key×V)}(ok:nI P w H h)(e:H a=some (.dT kvs)):kvs.length<=Vm/\(a==sysModules)=false/\
  ∃xs,KT H kvs xs/\h.DictOfH (tupleKind (cD P w)) a xs:=yq ok (.inl e)
end
noncomputable def zK(H:Hp)(a:Ve)(y:V)(r:Option V):Prop:=
 (∃kvs k,Rd H a (.dK kvs)/\y=kV k/\r=lN kvs k)\/∃kvs k b,Rd H a (.dT kvs)/\y=.ref b/\H b=some (.tup (k.map kV))/\r=lN kvs k
noncomputable def KA(H:Hp)(a:Ve)(y v:V)(H':Hp):Prop:=
 (∃kvs k,H a=some (.dK kvs)/\y=kV k/\kvs.length<Vm/\H'=upd H a (.dK (putK kvs k v))) \/
 ∃kvs k b,H a=some (.dT kvs)/\y=.ref b/\H b=some (.tup (k.map kV))/\kvs.length<Vm/\H'=upd H a (.dT (putK kvs k v))
theorem zK.k{H:Hp}{a:Ve}{kvs:List (Key×V)}{k:Key}(e:H a=some (.dK kvs)):zK H a (kV k) (lN kvs k):=.inl ⟨kvs,k,.inl e,rfl,rfl⟩
theorem KA.k{H:Hp}{a:Ve}{kvs:List (Key×V)}{k:Key}{v:V}(e:H a=some (.dK kvs))(hl:kvs.length<Vm):KA H a (kV k) v (upd H a (.dK (putK kvs k v))):=.inl ⟨kvs,k,e,rfl,hl,rfl⟩
section
variable{X:Cx}{pins:aS}{σ:St}{H:Hp}{s:Vh}{a:Ve}{y v:V}{u r:Vc}{o:Option V}{A:Vp}{E:bJ}
theorem Inv.big(I:Inv X pins σ H s):sysModules<s.heap.objs.size:=by
 have h:Vn<s.heap.objs.size:=(I.mod.glob.keeps I.bk).lt;exact Sd (by decide) h
theorem Am{Q:bJ}(hu:A.units+1<VS)(I:Inv X pins σ H s)(g:zK H a y (some v))(ry:RelV y u)(h:∀w' s',Inv X pins σ H s'->RelV v w'->Q w' s'):
  Vs (model X.prog X.w) A (getItem (.ref a) u) Q E s:=by
 rcases g with⟨kvs,k,e,ey,l⟩|⟨kvs,k,b,e,ey,eb,l⟩
 ·subst ey;obtain⟨z,hd,vs,rel,dd⟩:=yA I.hok e;obtain⟨w',hw,rw'⟩:=qE.some_of (v:=v) (o:=valueAt vs k) (by rw[l];exact rel.val k);exact wpAny_getItem_of (vb ry) dd.mapOf hw (h w' _ (I.tok _) rw')
 ·subst ey;cases(show u=Value.ref b from ry);obtain⟨z,hd,xs,rel,dd⟩:=yq I.hok e;obtain⟨w',hw,rw'⟩:=qE.some_of (v:=v) (o:=(atKey xs k).map (·.2)) (by rw[l];exact rel.val k);obtain⟨p,hp,hp2⟩:=Option.map_eq_some_iff.mp hw;refine wpAny_getItem_heap (Wc hu) (uz I.hok eb) dd hp ?_;rw[hp2];exact h w' _ (I.tok _) rw'
theorem DM{Q:bJ}(hu:A.units+1<VS)(I:Inv X pins σ H s)(g:zK H a y o)(ry:RelV y u)(h:∀s',Inv X pins σ H s'->Q (.bool (!o.isSome)) s'):
  Vs (model X.prog X.w) A (Vw .NotIn u (.ref a)) Q E s:=by
 rcases g with⟨kvs,k,e,ey,l⟩|⟨kvs,k,b,e,ey,eb,l⟩
 ·subst ey;obtain⟨z,hd,vs,rel,dd⟩:=yA I.hok e;refine wpAny_notIn_of (vb ry) hd dd.mapOf ?_;rw[<-(rel.val k).isSome_eq,<-l];exact h _ (I.tok _)
 ·subst ey;cases(show u=Value.ref b from ry);obtain⟨z,hd,xs,rel,dd⟩:=yq I.hok e;refine wpAny_notIn_heap (Wc hu) (uz I.hok eb) hd dd ?_;have q:=(rel.val k).isSome_eq;rw[Sb]at q;rw[<-q,<-l];exact h _ (I.tok _)
theorem lV{h':Vl}{t':Nat}{ob:HO}(I:Inv X pins σ H s)(mu:Kn (H a))(hs:UR a s.heap h')(he:∃q,h'.get? a=some q)(new:cy X.prog X.w (upd H a ob) h' a ob):
  Inv X pins σ (upd H a ob) {s with heap:=h',toks:=t'}:=
 I.write (x:=a) (e:=a) mu (.inl rfl) (λb q hb z=>(hs.2 b hb).trans z) he new
theorem CF{P:Vj}{w:Vi}{H':Hp}{h':Vl}{kvs:List (Key×V)}{vs:List (Key×Vc)}(z:kvs.length<=Vm)(hd:(a==sysModules)=false)(rel:KV kvs vs)(dd:h'.DictOf (cD P w) a vs):
  cy P w H' h' a (.dK kvs):=⟨z,hd,vs,rel,dd⟩
theorem sJ{H':Hp}{Q:Unit->df}(hu:A.units+1<VS)(I:Inv X pins σ H s)(g:KA H a y v H')(ry:RelV y u)(rv:RelV v r)(h:∀s',Inv X pins σ H' s'->Q () s'):
  Vs (model X.prog X.w) A (setItem (.ref a) u r) Q E s:=by
 rcases g with⟨kvs,k,e,ey,l,eH⟩|⟨kvs,k,b,e,ey,eb,l,eH⟩
 ·subst ey eH;obtain⟨z,hd,vs,rel,dd⟩:=CL I.hok e;have hz:vs.length<=Vm:=by rw[<-rel.length];exact z
  have hl:(putK kvs k v).length<=Vm:=by have:=j5 kvs k v;omega
  refine wpAny_setItem_pairs (hsz:=hz) (vb ry) dd λh' dd' hs=>h _ ?_;have he:∃q,h'.get? a=some q:=let ⟨q,_,_,hq,_⟩:=dd';⟨q,hq⟩
  exact lV I (by rw[e];exact True.intro) hs he (CF hl hd (rel.put k rv) dd')
 ·subst ey eH;cases(show u=Value.ref b from ry);obtain⟨z,hd,xs,rel,dd⟩:=KC I.hok e;have hz:xs.length<=Vm:=by rw[<-Paired.length rel];exact z
  have hl:(putK kvs k v).length<=Vm:=by have:=j5 kvs k v;omega
  refine wpAny_setItem_heap (hsz:=hz) (Wc hu) (uz I.hok eb) dd λh' dd' hs=>h _ ?_;obtain⟨q,es,ep,hq,h2,h3,h4,_,h5⟩:=dd';refine lV I (by rw[e];exact True.intro) hs ⟨q,hq⟩ ⟨hl,hd,_,(rel.put k eb rv).keeps λc ys ec=>?_,q,es,ep,hq,h2,h3,h4,h5⟩;rw[ay (Ki ec e (λz=>nomatch z))];exact ec
end
noncomputable def G2(i:Vf):Prop:=∀ov iv,subscripted i false ov iv=operate [ov,iv] (getItem ov iv)
theorem DF{prog:Vj}{w:Vi}{A:Vp}{E:bJ}{s:Vh}{env:Env}{value slice:Vf}{pos:Pos}{T id:String}{Q:bJ}
  (hl:typeLookup (.type T) "__getitem__"=pure (some (.builtin id))) (hs:G2 slice)
  (h:Vs (model prog w) A (eval value env) (λo s₁=>Vs (model prog w) A (eval slice env) (λi s₂=>s₂.TypeIs o T/\Vs (model prog w) A (getItem o i) Q E s₂) E s₁) E s):
  Vs (model prog w) A (eval (.Subscript value slice pos) env) Q E s:=by
 refine Subscript_ (Vu h (λo s₁ h₁=>Vu h₁ (λi s₂ h₂=>?_) λ_ _ x=>x) λ_ _ x=>x);obtain⟨hT,h₂⟩:=h₂;unfold subscriptTail;refine VB ?_;rw[getitemInPython_of_ne hT.not_modules];refine VB (wpAny_specialOf hT hl ?_);have fin:Vs (model prog w) A (subscripted slice false o i) (λr s₃=>Vs (model prog w) A (letTemporaryGo value o r >>= λ_=>pure r) Q E s₃) E s₂:=by
  rw[hs o i];exact wpAny_operating (Vu h₂ (λr s₃ h₃=>VB (wpAny_letTemporaryGo (VA h₃))) λ_ _ x=>x)
 first
  |exact VA (VB fin)
  |exact VB (VA (VB fin))
  |exact VB fin
theorem vk{X:Cx}{pins:aS}{σ:St}{H:Hp}{s:Vh}{a:Ve}{y:V}{o:Option V}(I:Inv X pins σ H s)(g:zK H a y o):s.TypeIs (.ref a) "dict":=by
 rcases g with⟨kvs,k,e,_,_⟩|⟨kvs,k,b,e,_,_,_⟩
 ·obtain⟨_,_,vs,_,dd⟩:=yA I.hok e;exact dd.typeIs
 ·obtain⟨_,_,xs,_,dd⟩:=yq I.hok e;exact dd.typeIs
noncomputable def Ku(td ty:TE):TE:=λσ H Q=>td σ H λx H1=>ty σ H1 λy H2=>∃a v,x=.ref a/\zK H2 a y (some v)/\Q v H2
section
variable{X:Cx}{o i e value:Vf}{pos pos' tpos:Pos}{td ty tv:TE}
theorem Dx(hu:X.A.units+1<VS)(ho:PE X o td)(hi:PE X i ty)(hs:G2 i):PE X (.Subscript o i pos) (Ku td ty):=by
 intro pins s σ H Q I h;refine DF PySem.F.slot_dict_getitem.lookup hs (cJ (ho pins s σ H _ I h) λu s1 ⟨x,H1,I1,rx,q1⟩=>cJ (hi pins s1 σ H1 _ I1 q1) λiv s2 ⟨y,H2,I2,ry,a,v,ex,g,q2⟩=>?_);subst ex;obtain rfl:u=Value.ref a:=rx;exact⟨vk I2 g,Am hu I2 g ry λw' s3 I3 rw'=>⟨v,H2,I3,rw',q2⟩⟩
end
theorem AQ{P:Vj}{w:Vi}{H:Hp}(h:Vl)(hb:sysModules<h.objs.size):cy P w H (h.push {cls:=.type "dict",data:=.dict #[]}) h.objs.size (.dK []):=
 ⟨RN _,beq_eq_false_iff_ne.mpr (Ne.symm (Rp hb)),[],.nil,Heap.DictOf.new h⟩
noncomputable def tL:List (TE×TE)->St->Hp->(List (V×V)->Hp->Prop)->Prop
 |[],_,H,Q=>Q [] H
 |(tk,tv)::r,σ,H,Q=>tk σ H λx H1=>tv σ H1 λy H2=>tL r σ H2 λps H3=>Q ((x,y)::ps) H3
noncomputable abbrev VV:List (V×V)->List (Vc×Vc)->Prop:=Vk λp q=>RelV p.1 q.1/\RelV p.2 q.2
noncomputable def JS(X:Cx)(pos:Pos)(keys:List (Option Vf))(values:bu)(trs:List (TE×TE)):Prop:=
 ∀(pins:aS)(s:Vh)(σ:St)(H:Hp)(Q:List (V×V)->Hp->Prop),Inv X pins σ H s->tL trs σ H Q->
  Vs (model X.prog X.w) X.A (evalPairs (pairTrees keys values X.env pos)) (λvs s'=>∃ps H',Inv X pins σ H' s'/\VV ps vs/\Q ps H') X.xe s
theorem pj{X:Cx}{pos:Pos}:JS X pos [] [] []:=λpins s σ H Q I h=>pairTrees_nil_walk ⟨[],H,I,.nil,h⟩
theorem gY{X:Cx}{pos:Pos}{k v:Vf}{ks:List (Option Vf)}{vs:bu}{tk tv:TE}{trs:List (TE×TE)}(hk:PE X k tk)(hv:PE X v tv)(hr:JS X pos ks vs trs):
  JS X pos (some k::ks) (v::vs) ((tk,tv)::trs):=λpins s σ H Q I h=>
 pairTrees_cons_walk (cJ (hk pins s σ H _ I h) λu s1 ⟨x,H1,I1,rx,q1⟩=>cJ (hv pins s1 σ H1 _ I1 q1) λw2 s2 ⟨y,H2,I2,ry,q2⟩=>
  cJ (hr pins s2 σ H2 _ I2 q2) λws s3 ⟨ps,H3,I3,rel,q3⟩=>⟨(x,y)::ps,H3,I3,.cons ⟨rx,ry⟩ rel,q3⟩)
noncomputable def js(kvs more:List (Key×V)):List (Key×V):=more.foldl (λacc kv=>putK acc kv.1 kv.2) kvs
theorem KV.merge:∀{more:List (Key×V)}{rs:List (Key×Vc)}{kvs:List (Key×V)}{vs:List (Key×Vc)},KV more rs->KV kvs vs->KV (js kvs more) (merged vs rs):=by
 intro more rs kvs vs r;unfold KV at r
 induction r generalizing kvs vs with
 |nil=>intro q;exact q
 |@cons p q ps qs h t ih=>
  intro r0;have e:KV (putK kvs p.1 p.2) (stored vs q.1 q.2):=by
   have:=r0.put p.1 h.2
   rw[<-h.1];exact this
  exact ih e
theorem lD:∀(more kvs:List (Key×V)),(js kvs more).length<=kvs.length+more.length
 |[],kvs=>by show kvs.length<=kvs.length+0;omega
 |p::r,kvs=>by
  have h1:=lD r (putK kvs p.1 p.2);have h2:=j5 kvs p.1 p.2;show(js (putK kvs p.1 p.2) r).length<=_;rw[RH];omega
theorem pZ{P:Vj}{w:Vi}:∀{kvs:List (Key×V)}{ws:List (Vc×Vc)},VV (kvs.map λkv=>(kV kv.1,kv.2)) ws->∃rs,Carries (cD P w) ws rs/\KV kvs rs
 |[],_,r=>by rw[R7]at r;cases r;exact⟨[],True.intro,.nil⟩
 |p::kvs,_,r=>by
  rw[RJ]at r;cases r with
  |@cons a b as bs h t=>
   obtain⟨rs,c,q⟩:=pZ (P:=P) (w:=w) t;obtain⟨b1,b2⟩:=b;exact⟨(p.1,b2)::rs,⟨vb h.1,rfl,c⟩,.cons ⟨rfl,h.2⟩ q⟩
noncomputable def Ke(trs:List (TE×TE)):TE:=λσ H Q=>∀p,H p=none->tL trs σ (upd H p (.dK [])) λps H2=>H2 p=some (.dK [])/\∃kvs:List (Key×V),ps=kvs.map (λkv=>(kV kv.1,kv.2))/\kvs.length<=15/\Q (.ref p) (upd H2 p (.dK (js [] kvs)))
theorem yc{X:Cx}{pos:Pos}{keys:List (Option Vf)}{values:bu}{trs:List (TE×TE)}(h:JS X pos keys values trs)(hall:keys.all (·.isSome)=true)(hl:keys.length=values.length)(h0:keys≠[])
  (h15:keys.length<=15):PE X (.Dict keys values pos) (Ke trs):=by
 intro pins s σ H Q I q;have hn:=I.hok.fresh (RB s.heap.objs.size);have I1:=I.laid (a:=s.heap.objs.size) (o:=.dK []) (h':=s.heap.push {cls:=.type "dict",data:=.dict #[]}) (t':=s.toks) (λ_ _ q=>UT _ q) (RB _) (AQ s.heap I.big);refine wpAny_Dict_walk (knd:=cD X.prog X.w) hall hl h0 h15 (cJ (h pins _ σ _ _ I1 (q _ hn)) λws s2 ⟨ps,H2,I2,rel,e,kvs,ep,lk,q2⟩=>?_);subst ep;obtain⟨rs,c,rk⟩:=pZ (P:=X.prog) (w:=X.w) rel;obtain⟨z,hd,vs0,r0,dd⟩:=CL I2.hok e;cases r0;refine⟨rs,c,dd,λh' dd' hs=>⟨.ref s.heap.objs.size,_,?_,rfl,q2⟩⟩;have hz:(js [] kvs).length<=Vm:=by
  have h1:=lD kvs [];rw[Sa]at h1;rw[VH];omega
 have he:∃q,h'.get? s.heap.objs.size=some q:=let ⟨q,_,_,hq,_⟩:=dd';⟨q,hq⟩
 exact lV I2 (by rw[e];exact True.intro) hs he (CF hz hd (rk.merge .nil) dd')
noncomputable def dh(cells:oo):qx->oo->oo
 |[],acc=>acc
 |(n,k)::r,acc=>if k=.free then(match cells.lookup n with|some c=>dh cells r ((n,c)::acc)|none=>dh cells r acc)else dh cells r acc
theorem ky{cells:oo}:∀(names:qx)(acc:oo),(∀x c,acc.lookup x=some c->cells.lookup x=some c)->
  ∀x c,(dh cells names acc).lookup x=some c->cells.lookup x=some c
 |[],acc,h=>h
 |(n,k)::r,acc,h=>by
  unfold dh;by_cases hk:k=.free
  ·rw[if_pos hk];cases e:cells.lookup n with
   |none=>exact ky r acc h
   |some c0=>
    refine ky r _ λx c q=>?_;rw[Se]at q;cases hx:x==n with
    |true=>
     rw[hx]at q;have e1:x=n:=(by simpa using hx);cases q;rw[e1];exact e
    |false=>rw[hx]at q;exact h x c q
  ·rw[if_neg hk];exact ky r acc h
theorem jB{cells:oo}:∀(names:qx)(acc:oo)(x:Str),(acc.lookup x).isSome=true->((dh cells names acc).lookup x).isSome=true
 |[],acc,x,h=>h
 |(n,k)::r,acc,x,h=>by
  unfold dh;by_cases hk:k=.free
  ·rw[if_pos hk];cases e:cells.lookup n with
   |none=>exact jB r acc x h
   |some c0=>
    refine jB r _ x ?_;rw[Se];cases hx:x==n with
    |true=>rfl
    |false=>exact h
  ·rw[if_neg hk];exact jB r acc x h
theorem iL{cells:oo}:∀(names:qx)(acc:oo)(x:Str),(x,NameKind.free)∈names->(∃c,cells.lookup x=some c)->((dh cells names acc).lookup x).isSome=true
 |[],acc,x,h,_=>absurd h (by simp)
 |(n,k)::r,acc,x,h,hc=>by
  unfold dh;rcases List.mem_cons.mp h with e|h
  ·cases e;rw[if_pos rfl];obtain⟨c,e⟩:=hc;rw[e];refine jB r _ _ ?_;rw[Se];simp
  ·by_cases hk:k=.free
   ·rw[if_pos hk];cases e:cells.lookup n with
    |none=>exact iL r acc x h hc
    |some c0=>exact iL r _ x h hc
   ·rw[if_neg hk];exact iL r acc x h hc
theorem md{scope:Vq}{env:Env}(h:∀p∈scope.names,p.2=.free->∃c,env.cells.lookup p.1=some c):closureFor scope env=pure (dh env.cells scope.names []):=by
 have go:∀(names:qx)(acc:oo),(∀p∈names,p.2=.free->∃c,env.cells.lookup p.1=some c)->
   (forIn names acc λx cs=>(match x with|(name,kind)=>if(kind==NameKind.free)=true then do let a<-cellOf env name;pure (ForInStep.yield ((name,a)::cs))else pure (ForInStep.yield cs):Sem (ForInStep oo)))=pure (dh env.cells names acc):=by
  intro names
  induction names with
  |nil=>intro acc _;rfl
  |cons p r ih=>
   intro acc hp;obtain⟨n,k⟩:=p;rw[List.forIn_cons];by_cases hk:k=.free
   ·obtain⟨c,e⟩:=hp (n,k) Ru hk;subst hk;have e2:cellOf env n=pure c:=(by unfold cellOf;rw[e]);simp only[beq_self_eq_true,if_true,e2,pure_bind];rw[ih _ λq hq=>hp q (Rv _ hq)]
    conv=>rhs;rw[dh]
    simp[e]
   ·have hb:(k==NameKind.free)=false:=(by simpa using hk);simp only[hb,Sf,if_false,pure_bind];rw[ih _ λq hq=>hp q (Rv _ hq)]
    conv=>rhs;rw[dh,if_neg hk]
 have:=go scope.names [] h
 unfold closureFor;simp only[];rw[this];rfl
noncomputable def cm(X:Cx)(scope:Vq)(N:au)(cl:oo)(C:Ve)(fp:aD)(s:Vh)(H:Hp)(E:bJ):Cx where
 prog:=X.prog
 w:=X.w
 K:=X.K
 mg:=X.mg
 base:=X.base
 A:=X.A
 N:=N
 s₀:=s
 H₀:=H
 env:=compEnvC scope cl C X.env
 outer:=X.stack
 stack:=X.stack
 ex:=fp
 fn:=λ_=>false
 calm:=X.calm
 pn:=[]
 xe:=E
noncomputable def uw(XN N:au)(names:qx)(ix:gF):Bool:=
 decide (ix.length=N.length)&&(N.zip ix).all λp=>match p.2 with
  |some i=>decide (XN[i]?=some p.1)&&decide (names.lookup p.1=some .free)
  |none=>true
noncomputable def inBlock(ix:gF)(σ:St):St:=ix.map λo=>match o with
 |some i=>(σ[i]?).getD none
 |none=>none
theorem uw.len{XN N:au}{names:qx}{ix:gF}(h:uw XN N names ix=true):ix.length=N.length:=by
 unfold uw at h;rw[R4]at h;exact of_decide_eq_true h.1
theorem uw.at_{XN N:au}{names:qx}{ix:gF}(h:uw XN N names ix=true){j i:Nat}{x:Str}(h1:N[j]?=some x)(h2:ix[j]?=some (some i)):XN[i]?=some x/\names.lookup x=some .free:=by
 unfold uw at h;rw[R4]at h;have hm:(x,some i)∈N.zip ix:=by
  have e:(N.zip ix)[j]?=some (x,some i):=by rw[List.getElem?_zip_eq_some];exact⟨h1,h2⟩
  exact RZ e
 have q:=List.all_eq_true.mp h.2 _ hm;simp only[R4]at q;exact⟨of_decide_eq_true q.1,of_decide_eq_true q.2⟩
theorem ku{env:Env}:∀{names:qx}{x:Str}{k:Vd},
  (names.map λ(n,k)=>if(k==NameKind.free&&env.scope.kind==.function&&env.kindOf n==some .cell)then(n,NameKind.cell)else(n,k)).lookup x=some k->
  names.lookup x=some k\/(names.lookup x=some .free/\k=.cell)
 |[],_,_,h=>by simp at h
 |(n,k0)::r,x,k,h=>by
  have ih:=@ku env r x k
  replace h:List.lookup x ((if(k0==NameKind.free&&env.scope.kind==.function&&env.kindOf n==some .cell)=true then(n,NameKind.cell)else(n,k0))::(r.map λ(n,k)=>if(k==NameKind.free&&env.scope.kind==.function&&env.kindOf n==some .cell)then(n,NameKind.cell)else(n,k)))=some k:=h
  by_cases hc:(k0==NameKind.free&&env.scope.kind==.function&&env.kindOf n==some .cell)=true
  ·rw[if_pos hc]at h;have hk0:k0=.free:=by
    simp only[R4]at hc
    simpa using hc.1.1
   cases hx:x==n with
   |true=>
    simp only[Se,hx]at h;simp only[Se,hx];cases h;exact .inr ⟨by rw[hk0],rfl⟩
   |false=>
    simp only[Se,hx]at h ⊢;exact ih h
  ·rw[if_neg hc]at h;cases hx:x==n with
   |true=>
    simp only[Se,hx]at h ⊢;exact .inl h
   |false=>
    simp only[Se,hx]at h ⊢;exact ih h
noncomputable def IB(X:Cx)(ifs:bu)(t:TT):Prop:=
 ∀(pins:aS)(s:Vh)(σ:St)(H:Hp)(Q:Bool->Hp->Prop),Inv X pins σ H s->t σ H Q->
  Vs (model X.prog X.w) X.A (forIn ifs true λc r=>if r=true then do let ok<-isTrue c X.env (eval c X.env);pure (ForInStep.yield ok)else pure (ForInStep.yield r)) (TP X pins σ Q) X.xe s
noncomputable def Lf:TT:=λ_ H Q=>Q true H
theorem DH{X:Cx}:IB X [] Lf:=λ_ _ _ H _ I h=>wpAny_tests_nil ⟨H,I,h⟩
theorem EG{X:Cx}{c:Vf}{t:TT}(h:PT X c t):IB X [c] t:=λpins s σ H Q I q=>wpAny_tests_one (h pins s σ H Q I q)
theorem kh{prog:Vj}{w:Vi}{A:Vp}{R:VM->df}{s:Vh}{elt target iter:Vf}{ifs:bu}{scope:Vq}{pos:Pos}{it acc:Vc}{env:Env}(I:Nat->df)
  (turn:∀ n s,I n s->Vs (model prog w) A (pyNext it) (fun r s₁=>match r with
   |none=>R (.ok .next) s₁
   |some v=>Vs (model prog w) A (letOwnedTupleGo target it v) (λ_ s₁'=>Vs (model prog w) A (assign target env v) (λ_ s₂=>
     Vs (model prog w) A (forIn ifs true λc r=>if r=true then do let ok<-isTrue c env (eval c env);pure (ForInStep.yield ok)else pure (ForInStep.yield r)) (λok s₃=>
      if ok=true then Vs (model prog w) A (eval elt env) (λx s₄=>
       Vs (model prog w) A (call (.builtin "list.append") [acc,x]) (λ_ s₅=>∃m,m<n/\I m s₅) (notedBy (model prog w) A env λe s'=>R (.error e) s') s₄) (notedBy (model prog w) A env λe s'=>R (.error e) s') s₃
      else∃m,m<n/\I m s₃) (notedBy (model prog w) A env λe s'=>R (.error e) s') s₂) (notedBy (model prog w) A env λe s'=>R (.error e) s') s₁') (notedBy (model prog w) A env λe s'=>R (.error e) s') s₁) (notedBy (model prog w) A env λe s'=>R (.error e) s') s)
  (n:Nat) (h:I n s):
  VN (model prog w) A (.compLoop (.ListComp elt [⟨target,iter,ifs,0⟩] scope pos) 0 it acc env) R s:=by
 refine codeAny_loop rfl I (λn s hI=>?_) n h;show Vs _ A ((compTurn (.ListComp elt [⟨target,iter,ifs,0⟩] scope pos) 0 it acc env).onRaise (λx=>do noteFrame x env;theTreesLotGoes x)) _ _ s;refine wpAny_noted ?_;rw[compTurn_list];refine VB (V1 (VB (Vu (turn n s hI) (λr s₁ h₁=>?_) λ_ _ h'=>h')));cases r with
 |none=>exact VA h₁
 |some v=>
  refine VB (Vu h₁ (λ_ s₁' h₁'=>?_) λ_ _ h'=>h');refine VB (Vu h₁' (λ_ s₂ h₂=>VB (Vu h₂ (λok s₃ h₃=>?_) λ_ _ h'=>h')) λ_ _ h'=>h');cases ok with
  |false=>exact VA ⟨rfl,h₃⟩
  |true=>
   exact VB (VB (Vu h₃ (λx s₄ h₄=>VB (Vu h₄ (λ_ s₅ h₅=>VA (VA ⟨rfl,h₅⟩)) λ_ _ h'=>h')) λ_ _ h'=>h'))
noncomputable def Mi(wi:TI)(g:TG)(tc:TT)(te:TE)(ix:gF):TE:=λσ H Q=>
 wi σ H λJ H1=>∀D,H1 D=none->∃W:Nat->Nat->St->Hp->Prop,(∃m,W 0 m (inBlock ix σ) (upd H1 D (.lst [])))/\
  ∀i m σ' H',W i m σ' H'->(J.stop i H'/\Q (.ref D) H') \/
   (J.go i H'/\∀ x H2,J.yld i H' x H2->g x σ' H2 fun σ3 H3=>tc σ3 H3 fun b H4 =>
    if b=true then te σ3 H4 λv H5=>∃acc,H5 D=some (.lst acc)/\acc.length<Vm/\∃m',m'<m/\W (i+1) m' σ3 (upd H5 D (.lst (acc++[v])))
    else∃m',m'<m/\W (i+1) m' σ3 H4)
section
variable{X:Cx}{elt tg iter:Vf}{ifs:bu}{scope:Vq}{pos:Pos}{N:au}{ix:gF}{wi:TI}{g:TG}{tc:TT}{te:TE}
theorem qy{pins:aS}{σ:St}{s2:Vh}{H2:Hp}{it:Ve}{fp:aD}{tn:Nat->Vl->Prop}{J:It}{Q:V->Hp->Prop}{E:bJ}{RR:Vc->Ve->VM->df}
    (hc:X.calm=true) (hcell:∀y∈scope.names,y.2≠.cell) (hkind:scope.kind=.function)
    (hfr:∀y∈scope.names,y.2=.free->X.env.scope.names.lookup y.1=some .cell\/X.env.scope.names.lookup y.1=some .free)
    (hix:uw X.N N scope.names ix=true)
    (hb:∀cl C fp s H E,PG (cm X scope N cl C fp s H E) tg g/\IB (cm X scope N cl C fp s H E) ifs tc/\PE (cm X scope N cl C fp s H E) elt te)
    (I2:Inv X pins σ H2 s2) (T:Turn X.prog X.w X.K tg J fp it tn) (st2:tn 0 s2.heap) (f2:∀b∈fp,qX X pins H2 b)
    (q:∀ D,H2 D=none->∃ W:Nat->Nat->St->Hp->Prop,(∃ m,W 0 m (inBlock ix σ) (upd H2 D (.lst []))) /\
      ∀i m σ' H',W i m σ' H'->(J.stop i H'/\Q (.ref D) H') \/
        (J.go i H'/\∀ x H3,J.yld i H' x H3->g x σ' H3 fun σ3 H3=>tc σ3 H3 fun b H4 =>
          if b=true then te σ3 H4 λv H5=>∃acc,H5 D=some (.lst acc)/\acc.length<Vm/\∃m',m'<m/\W (i+1) m' σ3 (upd H5 D (.lst (acc++[v])))
          else∃m',m'<m/\W (i+1) m' σ3 H4))
    (hRR:∀D C H' s' m,H2 D=none->s2.heap.objs.size<=C->H' C=none->s'.heap.Ns C m->(∀h',UR C s'.heap h'->Inv X pins σ H' {s' with heap:=h'})->Q (.ref D) H'->RR (.ref D) C (.ok .next) s'):
    Vs (model X.prog X.w) X.A (newList []) (λacc s₃=>Vs (model X.prog X.w) X.A (newFunctionEnv scope X.env.globals (dh X.env.cells scope.names []) [] X.env.qual none .none (some X.env)) (λcenv s₄=>
      VN (model X.prog X.w) X.A (.compStart (.ListComp elt [⟨tg,iter,ifs,0⟩] scope pos) 0 (.ref it) acc {cenv with scope:=relabel scope X.env}) (RR acc cenv.locals) s₄) E s₃) E s2:=by
  refine Wb (wpAny_newFunctionEnv hcell (by intro y hy;simp at hy) (λh₁ hns₁ hsb₁=>?_) hkind);dsimp only at hns₁ hsb₁ ⊢;have I3:Inv X pins σ (upd H2 s2.heap.objs.size (.lst [])) {s2 with heap:=s2.heap.push {cls:=.type "list",dict:=none,data:=.seq ([]:aN).toArray},toks:=s2.toks}:=I2.lnew (its:=[]) (t':=s2.toks) .nil (RN _);generalize hs3:({s2 with heap:=s2.heap.push {cls:=.type "list",dict:=none,data:=.seq ([]:aN).toArray},toks:=s2.toks}:Vh)=s3 at I3;have eh3:s2.heap.push {cls:=.type "list",dict:=none,data:=.seq ([]:aN).toArray}=s3.heap:=by rw[<-hs3]
  rw[eh3]at hns₁ hsb₁ ⊢;have hC3:s3.heap.objs.size=s2.heap.objs.size+1:=by rw[<-eh3,UV]
  have hD:H2 s2.heap.objs.size=none:=I2.fresh;obtain⟨W,⟨m0,w0⟩,turn⟩:=q s2.heap.objs.size hD;generalize hH3:upd H2 s2.heap.objs.size (.lst [])=H3 at I3 w0;have old:∀b o,s3.heap.get? b=some o->h₁.get? b=some o:=λb o e=>hsb₁.extBut b o (Rp (UP e)) (UT _ e);have fpH3:∀b∈fp,H3 b=none:=λb hb'=>by
    rw[<-hH3,ay]
    ·exact(f2 b hb').1
    · obtain⟨o,e,_⟩:=T.obj _ _ st2 b hb'
      exact Rp (UP e)
  have fpLt:∀b∈fp,b<s3.heap.objs.size:=λb hb'=>by
    obtain⟨o,e,_⟩:=T.obj _ _ st2 b hb';rw[hC3];exact Sg (UP e)
  have hfree:∀p∈scope.names,p.2=.free->∃c,X.env.cells.lookup p.1=some c:=λp hp hk=>I2.ok.has p.1 (hfr p hp hk);have csub:∀x c,(dh X.env.cells scope.names []).lookup x=some c->X.env.cells.lookup x=some c:=ky scope.names [] (λx c e=>by simp at e);have names':∀x k,(relabel scope X.env).names.lookup x=some k->scope.names.lookup x=some k\/(scope.names.lookup x=some .free/\k=.cell):=λx k h=>ku h;have ok:(cm X scope N (dh X.env.cells scope.names []) s3.heap.objs.size fp s3 H3 (notedBy (model X.prog X.w) X.A (compEnvC scope (dh X.env.cells scope.names []) s3.heap.objs.size X.env) λe s'=>RR (.ref s2.heap.objs.size) s3.heap.objs.size (.error e) s')).Ok:=
    { mod:=I3.ok.mod
      kind:=hkind
      glob:=I3.ok.glob
      blt:=I3.ok.blt
      above:=RB _
      inj:=λx y c h1 h2=>I3.ok.inj x y c (csub x c h1) (csub y c h2)
      has:=λx hx=>by
        have fr:scope.names.lookup x=some .free:=by
          rcases hx with hx|hx
          · rcases names' x .cell hx with h|⟨h,_⟩
            ·exact absurd rfl (hcell _ (PySem.mem_of_lookup h))
            ·exact h
          · rcases names' x .free hx with h|⟨_,h⟩
            ·exact h
            ·cases h
        have hm:=PySem.mem_of_lookup fr;exact Option.isSome_iff_exists.mp (iL scope.names [] x hm (hfree _ hm rfl))
      cab:=λx c h _=>by cases h
      hd:=I3.ok.hd
      frames:=I3.ok.frames
      stk:=.inl rfl
      exf:=λb hb'=>⟨Rp (fpLt b hb'),λx c e=>(f2 b hb').2.2.2.2.1 x c (csub x c e)⟩
      bs:=λb o e=>I3.bs b o e
      bsz:=Rq I3.ok.bsz I3.sz
      noex:=λb o e hb'=>by
        obtain⟨_,_,_,h4,_⟩:=f2 b hb';rcases h4 with h4|h4
        ·exact I3.ok.noex b o e h4
        ·exact absurd (Rn (UP (I3.ok.bs b o e).1) h4) (Ro _)
      exfs:=λb hb' hs=>by
        obtain⟨_,h2,h3,_⟩:=f2 b hb';rcases List.mem_cons.mp (I3.stkSub b hs)with e|e
        ·exact h2 e
        ·exact h3 e
      funs:=I3.stack
      frf:=λb hb'=>I3.stkFree b hb'}
  generalize hE:(notedBy (model X.prog X.w) X.A (compEnvC scope (dh X.env.cells scope.names []) s3.heap.objs.size X.env) λe s'=>RR (.ref s2.heap.objs.size) s3.heap.objs.size (.error e) s')=E' at ok;obtain⟨hg,htc,hel⟩:=hb (dh X.env.cells scope.names []) s3.heap.objs.size fp s3 H3 E';have Istart:∀tk,Inv (cm X scope N (dh X.env.cells scope.names []) s3.heap.objs.size fp s3 H3 E') [] (inBlock ix σ) H3 {s3 with heap:=h₁,toks:=tk}:=λtk=>by
    refine⟨ok,rfl,I3.bare,Un.kept old,⟨_,hns₁,λj x v e1 e2 _=>?_⟩,λx c e=>?_,I3.fresh,λx c e=>I3.freeC x c (csub x c e),λp hp=>absurd (show p∈([]:aS)from hp) (by simp),I3.hok.kept old,?_⟩
    ·
      unfold inBlock at e2;rw[RX]at e2;cases q1:ix[j]? with
      |none=>rw[q1]at e2;simp at e2
      |some o=>
        rw[q1]at e2;cases o with
        |none=>simp at e2
        |some i=>
          obtain⟨n1,n2⟩:=uw.at_ hix e1 q1;have e2':(σ[i]?).getD none=some v:=Option.some.inj e2;have e3:σ[i]?=some (some v):=by
            cases q2:σ[i]? with
            |none=>rw[q2]at e2';simp at e2'
            |some o2=>rw[q2]at e2';simpa using e2'
          obtain⟨m,hn,hl⟩:=I3.loc;have hm:=PySem.mem_of_lookup n2;have hk:=hfr _ hm rfl;have hv:Jv X.env.scope x:=by
            rcases hk with hk|hk
            ·exact .inr (.inl hk)
            ·exact .inr (.inr hk)
          obtain⟨u,r,l⟩:=hl i x v n1 e3 hv;refine⟨u,r,.inr ?_⟩;rcases l with⟨kl,_⟩|⟨_,c,hcx,hcell'⟩
          · have kl':X.env.scope.names.lookup x=some .local:=kl
            rcases hk with hk|hk
            ·rw[kl']at hk;cases hk
            ·rw[kl']at hk;cases hk
          · obtain⟨c',hc'⟩:=Option.isSome_iff_exists.mp (iL (cells:=X.env.cells) scope.names [] x hm ⟨c,hcx⟩)
            have ec:c'=c:=Option.some.inj ((csub x c' hc').symm.trans hcx);subst ec;refine⟨?_,c',hc',?_⟩
            ·
              show(relabel scope X.env).names.lookup x=some .cell\/(relabel scope X.env).names.lookup x=some .free;have gen:∀names:qx,names.lookup x=some .free->((names.map λ(n,k)=>if(k==NameKind.free&&X.env.scope.kind==.function&&X.env.kindOf n==some .cell)then(n,NameKind.cell)else(n,k)).lookup x=some .cell\/(names.map λ(n,k)=>if(k==NameKind.free&&X.env.scope.kind==.function&&X.env.kindOf n==some .cell)then(n,NameKind.cell)else(n,k)).lookup x=some .free):=by
                intro names
                induction names with
                |nil=>intro h;simp at h
                |cons p r ih=>
                  obtain⟨n,k⟩:=p;intro h;show List.lookup x ((if(k==NameKind.free&&X.env.scope.kind==.function&&X.env.kindOf n==some .cell)=true then(n,NameKind.cell)else(n,k))::_)=_\/List.lookup x ((if(k==NameKind.free&&X.env.scope.kind==.function&&X.env.kindOf n==some .cell)=true then(n,NameKind.cell)else(n,k))::_)=_;cases hx:x==n with
                  |true=>
                    simp only[Se,hx]at h;by_cases hcc:(k==NameKind.free&&X.env.scope.kind==.function&&X.env.kindOf n==some .cell)=true
                    ·rw[if_pos hcc];left;simp only[Se,hx]
                    ·rw[if_neg hcc];right;simp only[Se,hx];exact h
                  |false=>
                    simp only[Se,hx]at h;by_cases hcc:(k==NameKind.free&&X.env.scope.kind==.function&&X.env.kindOf n==some .cell)=true
                    ·rw[if_pos hcc];simp only[Se,hx];exact ih h
                    ·rw[if_neg hcc];simp only[Se,hx];exact ih h
              exact gen scope.names n2
            ·exact hcell'.keeps old
    · obtain⟨v,z⟩:=I3.cell x c (csub x c e)
      exact⟨v,z.keeps old⟩
    · show(inBlock ix σ).length=N.length
      unfold inBlock;rw[RK];exact uw.len hix
  have stat:∀{H':Hp},(∀b∈fp,H' b=none)->∀b∈fp,qX (cm X scope N (dh X.env.cells scope.names []) s3.heap.objs.size fp s3 H3 E') [] H' b:=λhn b hb'=>
    ⟨hn b hb',(ok.exf b hb').1,ok.exfs b hb',.inl hb',(ok.exf b hb').2,λp hp=>absurd (show p∈([]:aS)from hp) (by simp)⟩
  have tn1:tn 0 h₁:=T.keep _ _ _ st2 λb hb' o e=>old b o (by rw[<-eh3];exact UT _ e);have loop:∀tk,VN (model X.prog X.w) X.A (.compLoop (.ListComp elt [⟨tg,iter,ifs,0⟩] scope pos) 0 (.ref it) (.ref s2.heap.objs.size) (compEnvC scope (dh X.env.cells scope.names []) s3.heap.objs.size X.env))
      (RR (.ref s2.heap.objs.size) s3.heap.objs.size) {s3 with heap:=h₁,toks:=tk}:=by
    intro tk;refine kh (λn s'=>∃i σ' H',Inv (cm X scope N (dh X.env.cells scope.names []) s3.heap.objs.size fp s3 H3 E') [] σ' H' s'/\tn i s'.heap/\(∀b∈fp,H' b=none)/\W i n σ' H') ?_ m0 ⟨0,_,_,Istart tk,tn1,fpH3,w0⟩;rintro n s5 ⟨i,σ5,H5,I5,st5,fr5,w5⟩;rw[hE];rcases turn i n σ5 H5 w5 with⟨stop,qn⟩|⟨go,step⟩
    · refine cJ (T.done (cm X scope N (dh X.env.cells scope.names []) s3.heap.objs.size fp s3 H3 E') rfl rfl rfl hc i [] s5 σ5 H5 _ I5 (stat fr5) st5 stop) λr s6 ⟨hr,I6⟩=>?_
      subst hr;obtain⟨m6,hn6,_⟩:=I6.loc;refine hRR s2.heap.objs.size s3.heap.objs.size H5 s6 m6 hD (by rw[hC3];exact RP _) I6.free hn6 (λh' sb=>?_) qn;have ne:∀b o,s3.heap.get? b=some o->b≠s3.heap.objs.size:=λb o e=>Rp (UP e);refine I3.call' (s':={s6 with heap:=h'}) (H':=H5) (ch:=fp) I6.os ⟨λb o e n hb' hx=>?_,λb o e n hb' hx=>?_,λb o e n hx=>?_,λb o e hx=>?_,I6.base.tups,I6.base.frzs,I6.base.tbls⟩ ?_ I6.bare λb hb'=>?_
      ·exact(sb.2 b (ne b o e)).trans (I6.base.keep b o e n hb' hx)
      · obtain⟨sl,e1⟩:=I6.base.slot b o e n hb' hx
        exact⟨sl,(sb.2 b (ne b o e)).trans e1⟩
      ·exact I6.base.free b o e n hx
      · obtain⟨o',e1⟩:=I6.base.there b o e hx
        exact⟨o',(sb.2 b (ne b o e)).trans e1⟩
      · intro b ob e
        have hfreeC:H5 s3.heap.objs.size=none:=I6.free;refine(I6.hok b ob e).stay (λc v hcc q=>(sb.2 c ?_).trans q) (λ_ q=>q) λ_ _ q=>q;rintro rfl;rcases hcc with rfl|hcc
        ·rw[hfreeC]at e;cases e
        ·rw[hfreeC]at hcc;cases hcc
      · obtain⟨_,h2',_,h4',h5',h6'⟩:=f2 b hb'
        exact⟨h4',h2',h5',h6'⟩
    · refine cJ (T.item (cm X scope N (dh X.env.cells scope.names []) s3.heap.objs.size fp s3 H3 E') rfl rfl rfl hc i [] s5 σ5 H5 _ I5 (stat fr5) st5 go) λr s6 ⟨u,hr,h6⟩=>?_
      subst hr;refine cJ h6 λ_ s7 ⟨x,H7,I7,r7,y7,st7,fr7⟩=>?_;have I7':=I7.pinned (stat fr7) (T.obj _ _ st7);refine cJ (hg _ s7 σ5 H7 x u _ I7' r7 (step x H7 y7)) λ_ s8 ⟨σ8,H8,I8,q8⟩=>?_;refine cJ (htc _ s8 σ8 H8 _ I8 q8) λb s9 ⟨H9,I9,q9⟩=>?_;have again:∀{σ':St}{H':Hp}{s':Vh}{m':Nat},Inv (cm X scope N (dh X.env.cells scope.names []) s3.heap.objs.size fp s3 H3 E') ([]++qd fp s7.heap) σ' H' s'->m'<n->W (i+1) m' σ' H'->
          ∃m,m<n/\∃i σ' H',Inv (cm X scope N (dh X.env.cells scope.names []) s3.heap.objs.size fp s3 H3 E') [] σ' H' s'/\tn i s'.heap/\(∀b∈fp,H' b=none)/\W i m σ' H':=λ{σ' H' s' m'} I' hm w'=>by
        refine⟨m',hm,i+1,σ',H',I'.unpinned,T.keep _ _ _ st7 λb hb' o e=>(I'.pin (b,o) (RC _ (RC _ (jk hb' e)))).1,λb hb'=>?_,w'⟩;obtain⟨o,e,d⟩:=T.obj _ _ st7 b hb';exact(I'.pin (b,o) (RC _ (RC _ (jk hb' e)))).2.1
      cases b with
      |false=>
        rw[if_neg RG]at q9 ⊢;obtain⟨m',hm,w9⟩:=q9;exact again I9 hm w9
      |true=>
        rw[if_pos rfl]at q9 ⊢;refine cJ (hel _ s9 σ8 H9 _ I9 q9) λy s10 ⟨v,H10,I10,r10,q10⟩=>?_;obtain⟨acc,ha,hz,m',hm,w10⟩:=q10;refine cJ (rE _ s10 σ8 H10 (.ref s2.heap.objs.size) [v] (.ref s2.heap.objs.size) [y] (λ_ H'=>H'=upd H10 s2.heap.objs.size (.lst (acc++[v]))) I10 rfl (.cons r10 .nil) ⟨_,acc,v,rfl,rfl,ha,hz,rfl⟩) λ_ s11 ⟨_,H11,I11,_,Kr⟩=>?_;subst Kr;exact again I11 hm w10
  subst hs3;exact codeAny_compStart_list (loop _) (T.self _ 0 _ _ _ tn1 (loop _))
theorem Gu(hc:X.calm=true)(hcell:∀y∈scope.names,y.2≠.cell)(hkind:scope.kind=.function)(hnames:∀y∈scope.names,y.2=.local->scope.names.lookup y.1=some .local)
  (hfr:∀y∈scope.names,y.2=.free->X.env.scope.names.lookup y.1=some .cell\/X.env.scope.names.lookup y.1=some .free)
  (hix:uw X.N N scope.names ix=true) (hi:PI X tg iter wi)
  (hb:∀cl C fp s H E,PG (cm X scope N cl C fp s H E) tg g/\IB (cm X scope N cl C fp s H E) ifs tc/\PE (cm X scope N cl C fp s H E) elt te)
  (hs:∀x,VE iter X.env x=pure x:=by intro _;rfl):PE X (.ListComp elt [⟨tg,iter,ifs,0⟩] scope pos) (Mi wi g tc te ix):=by
 intro pins s σ H Q I h;rw[eval_ListComp];refine We (use:=none) rfl hs (md λp hp hk=>I.ok.has p.1 (hfr p hp hk)) hkind hnames (cJ (hi pins s σ H _ I h) λv s1 h1=>cJ h1 λitv s2 h2=>?_);obtain⟨it,fp,tn,J,H2,e,I2,T,st2,f2,q⟩:=h2;subst e;refine qy (Q:=Q) (RR:=λacc C=>compPost (model X.prog X.w) X.A X.xe none (EP X pins σ Q) acc C) hc hcell hkind hfr hix hb I2 T st2 f2 q ?_;intro D C H' s' m _ _ _ hn hI hq;exact⟨m,hn,λh' sb=>⟨.ref D,H',hI h' sb,rfl,hq⟩⟩
theorem Gn{i:Nat}{y:Str}{py spos:Pos}(hN:X.N.Nodup)(hi':X.N[i]?=some y)(hx:Loc X.env.scope y)
  (hc:X.calm=true) (hcell:∀y∈scope.names,y.2≠.cell) (hkind:scope.kind=.function) (hnames:∀y∈scope.names,y.2=.local->scope.names.lookup y.1=some .local)
  (hfr:∀y∈scope.names,y.2=.free->X.env.scope.names.lookup y.1=some .cell\/X.env.scope.names.lookup y.1=some .free)
  (hix:uw X.N N scope.names ix=true) (hi:PI X tg iter wi)
  (hb:∀cl C fp s H E,PG (cm X scope N cl C fp s H E) tg g/\IB (cm X scope N cl C fp s H E) ifs tc/\PE (cm X scope N cl C fp s H E) elt te)
  (hsw:swapsWith (.ListComp elt [⟨tg,iter,ifs,0⟩] scope pos) (some (.Name y py)) spos.line X.env=pure true:=by rfl)
  (hs:∀x,VE iter X.env x=pure x:=by intro _;rfl)
  (hf:X.fn y=true\/X.env.scope.names.lookup y=some .local:=by first|exact .inl rfl|exact .inr rfl|assumption):
  PS X (.Assign [.Name y py] (.ListComp elt [⟨tg,iter,ifs,0⟩] scope pos) spos) (Cm (Mi wi g tc te ix) (sK i)):=by
 intro pins s σ H D0 I h;rw[exec_Assign_Name_used _ _ _ _ hsw];refine VB (V1 (VB ?_));show Vs _ X.A (do let _<-comprehension (.ListComp elt [⟨tg,iter,ifs,0⟩] scope pos) scope X.env _ (newList []) false (eval iter X.env) (some (assign (.Name y py) X.env))) _ _ s;refine VB (cJ (We (use:=some (assign (.Name y py) X.env)) (Q:=λ_ s'=>SP X pins D0 .next s') rfl hs (md λp hp hk=>I.ok.has p.1 (hfr p hp hk)) hkind hnames
  (cJ (hi pins s σ H _ I h) λv s1 h1=>cJ h1 λitv s2 h2=>?_)) λ_ s' hq=>VA (VA hq))
 obtain⟨it,fp,tn,J,H2,e,I2,T,st2,f2,q⟩:=h2;subst e;refine qy (Q:=λv H'=>sK i v σ H' D0.nx) (RR:=λacc C=>compPost (model X.prog X.w) X.A X.xe (some (assign (.Name y py) X.env)) (λ_ s'=>SP X pins D0 .next s') acc C) hc hcell hkind hfr hix hb I2 T st2 f2 q ?_;intro D C H' s' m _ hC hfree hn hI hq;have I':Inv X pins σ H' s':=hI s'.heap (.refl ..);have nL:C≠X.env.locals:=Rz (Rn I2.lt hC);have nC:∀x c,X.env.cells.lookup x=some c->c≠C:=λx c e z=>by
  obtain⟨v,q⟩:=I2.cell x c e;exact absurd (Rn q.lt (by rw[z];exact hC)) (Ro _)
 have nP:∀p∈X.pn++pins,p.1≠C:=λp hp z=>absurd (Rn (UP (I2.pin p hp).1) (by rw[z];exact hC)) (Ro _);show Vs _ X.A (assign (.Name y py) X.env (.ref D)) _ _ _;refine wpAny_assign_Name (tq I' hN hi' hx (v:=.ref D) rfl (λs'' I'' ch=>?_) hf);obtain⟨a,sb,ha⟩:=ch;have hCa:C≠a:=by
  rcases ha with ha|ha
  ·rw[ha];exact nL
  ·exact Ne.symm (nC y a ha)
 refine⟨m,hn.sameBut sb hCa,λh' sb'=>⟨_,H',?_,hq⟩⟩;exact I''.turned (t':=s''.toks) (λb o hb' e=>(sb'.2 b hb').trans e) hfree nL (.inr (Rq I2.sz hC)) nC nP
end
end L2
namespace TG
open PySem PySem.Spec
noncomputable def DP{α:Type}:Sem α->Prop
 |.pure _=>True
 |.raise _=>True
 |.unsupported _=>True
 |.finish _=>True
 |.rule _ k=>DP (k ())
 |.at _ k=>DP (k ())
 |.load _ _ k=>∀o,DP (k o)
 |.update _ _ f k=>(∀o,(f o).dict=o.dict)/\DP (k ())
 |.loadIfAlive _ k=>∀o,DP (k o)
 |.point _ k=>DP (k ())
 |.alloc _ k=>∀a,DP (k a)
 |.fresh k=>∀a,DP (k a)
 |.ask k=>∀a,DP (k a)
 |.stack k=>∀a,DP (k a)
 |_=>False
theorem DP.bind{α β:Type}{f:α->Sem β}(hf:∀a,DP (f a)):∀{m:Sem α},DP m->DP (m >>= f):=λ{m} h=>by
 show DP (m.bind f)
 induction m with
 |pure a=>exact hf a
 |raise _=>trivial
 |unsupported _=>trivial
 |finish _=>trivial
 |rule _ k ih=>exact ih () h
 |«at» _ k ih=>exact ih () h
 |load _ _ k ih=>exact λo=>ih o (h o)
 |update _ _ g k ih=>exact⟨h.1,ih () h.2⟩
 |loadIfAlive _ k ih=>exact λo=>ih o (h o)
 |point _ k ih=>exact ih () h
 |alloc _ k ih=>exact λo=>ih o (h o)
 |fresh k ih=>exact λo=>ih o (h o)
 |ask k ih=>exact λo=>ih o (h o)
 |stack k ih=>exact λo=>ih o (h o)
 |_=>exact h.elim
noncomputable def DS(h h':Vl):Prop:=∀(a:Nat)(o:Obj),h.objs[a]?=some o->∃o',h'.objs[a]?=some o'/\o'.dict=o.dict
theorem DS.refl(h:Vl):DS h h:=λ_ o e=>⟨o,e,rfl⟩
theorem DS.trans{h1 h2 h3:Vl}(x:DS h1 h2)(y:DS h2 h3):DS h1 h3:=λa o e=>by
 obtain⟨o1,e1,d1⟩:=x a o e;obtain⟨o2,e2,d2⟩:=y a o1 e1;exact⟨o2,e2,d2.trans d1⟩
theorem vF{h:Vl}{a:Ve}{o:Obj}(e:h.get? a=some o):h.objs[a]?=some o:=by
 unfold Heap.get? at e;split at e
 ·cases e
 ·exact e
theorem DS.dict{h h':Vl}(x:DS h h'){a:Ve}{o o':Obj}(e:h.get? a=some o)(e':h'.get? a=some o'):o'.dict=o.dict:=by
 obtain⟨o1,e1,d1⟩:=x a o (vF e);rw[vF e']at e1;cases e1;exact d1
theorem DS.push(h:Vl)(o:Obj):DS h (h.push o):=λa u e=>⟨u,by
 show(h.objs.push o)[a]?=_
 have:=(Array.getElem?_eq_some_iff.mp e).1
 rw[Array.getElem?_push,if_neg ‹0›];exact e,rfl⟩
theorem DS.upd(h:Vl)(b:Ve){f:Obj->Obj}(hf:∀o,(f o).dict=o.dict):DS h (h.update b f):=λa u e=>by
 show∃o',(h.objs.modify b f)[a]?=some o'/\_;rw[Array.getElem?_modify,e];split
 ·exact⟨_,rfl,hf u⟩
 ·exact⟨_,rfl,rfl⟩
theorem DP.wp{α:Type}{M:Vr}{Γ:PySem.Ctx}{Q:α->Pos->Vh->Prop}{E:Vc->Pos->Vh->Prop}{t:Sem α}(d:DP t){p:Pos}{s:Vh}(h:Sem.wp M Γ t Q E p s):Sem.wp M Γ t (λa p' s'=>Q a p' s'/\DS s.heap s'.heap) (λa p' s'=>E a p' s'/\DS s.heap s'.heap) p s:=by
 have go:∀(h0:Vl)(p:Pos)(s:Vh),DS h0 s.heap->Sem.wp M Γ t Q E p s->Sem.wp M Γ t (λa p' s'=>Q a p' s'/\DS h0 s'.heap) (λa p' s'=>E a p' s'/\DS h0 s'.heap) p s:=by
  intro h0;clear h
  induction t with
  |pure a=>exact λp s z h=>⟨h,z⟩
  |raise a=>exact λp s z h=>⟨h,z⟩
  |unsupported _=>exact λp s z h=>h
  |finish _=>exact λp s z h=>h
  |rule _ k ih=>exact λp s z h=>ih () d p s z h
  |«at» q k ih=>exact λp s z h=>ih () d q s z h
  |load a _ k ih=>exact λp s z h=>let ⟨o,ho,h⟩:=h;⟨o,ho,ih o (d o) p s z h⟩
  |update a _ f k ih=>exact λp s z h=>⟨h.1,ih () d.2 p _ (z.trans (DS.upd _ a d.1)) h.2⟩
  |loadIfAlive a k ih=>exact λp s z h=>ih _ (d _) p s z h
  |point _ k ih=>exact λp s z h=>ih () d p s z h
  |alloc o k ih=>exact λp s z h=>ih _ (d _) p _ (z.trans (DS.push _ o)) h
  |fresh k ih=>exact λp s z h=>ih _ (d _) p _ z h
  |ask k ih=>exact λp s z h=>ih _ (d _) p _ z h
  |stack k ih=>exact λp s z h=>ih _ (d _) p _ z h
  |_=>exact d.elim
 exact go s.heap p s (DS.refl _) h
theorem DP.any{α:Type}{M:Vr}{A:Vp}{Q:α->Vh->Prop}{E:Vc->Vh->Prop}{t:Sem α}{s:Vh}(d:DP t)(h:Vs M A t Q E s):Vs M A t (λa s'=>Q a s'/\DS s.heap s'.heap) E s:=λΓ p hi=>Sem.wp_mono _ _ _ (λ_ _ _ x=>x) (λ_ _ _ x=>x.1) _ _ (d.wp (h Γ p hi))
theorem DP.go{M:Vr}{A:Vp}{Q:Unit->Vh->Prop}{E:Vc->Vh->Prop}{t:Sem Unit}{s:Vh}{P:Vl->Prop}(d:DP t)(h:Vs M A t (λ_ s'=>∃h',s'={s with heap:=h'}/\P h') E s)(k:∀h',P h'->DS s.heap h'->Q () {s with heap:=h'}):Vs M A t Q E s:=Vu (d.any h) (λ_ s' z=>by
 obtain⟨⟨h',rfl,p⟩,ds⟩:=z;exact k h' p ds) λ_ _ z=>z
theorem me(v:Vc)(i:Nat):DP (field v i):=by
 unfold field fieldsOf;cases v with
 |ref a=>
  refine DP.bind (λxs=>?_) ?_
  ·split<;>trivial
  ·refine DP.bind (λo=>?_) (λo=>trivial);split<;>trivial
 |_=>exact DP.bind (λxs=>by split<;>trivial) trivial
theorem xW(a:Ve):DP (load a):=λ_=>trivial
theorem Ie(f:Array Vc->Array Vc)(o:Obj):(Obj.mapFields f o).dict=o.dict:=by
 unfold Obj.mapFields;split<;>rfl
theorem wY(v:Vc)(i:Nat)(x:Vc):DP (setField v i x):=by
 unfold setField;cases v with
 |ref a=>
  unfold updateField;refine DP.bind (λo=>?_) (xW a);split
  ·split
   ·exact⟨Ie _,trivial⟩
   ·trivial
  ·trivial
 |_=>trivial
theorem nT(e:Vc)(f:Option Ve):DP (setFlight e f):=by
 unfold setFlight;refine DP.bind (λtb=>?_) (me _ _);split
 ·exact wY _ _ _
 ·trivial
theorem Bh:DP stack:=λ_=>trivial
theorem CC:DP underTheClaimsCaller:=by
 unfold underTheClaimsCaller;exact λ_=>trivial
theorem vT:∀l:List Env,DP (readyFrames l)
 |[]=>trivial
 |env::outer=>by
  unfold readyFrames;cases env.frame with
  |none=>trivial
  |some f=>
   refine DP.bind ?_ (xW f);intro o;split
   ·trivial
   ·refine DP.bind ?_ ?_
    ·intro b;refine DP.bind ?_ ?_
     ·intro b;refine DP.bind ?_ ?_
      ·intro _;exact vT outer
      ·exact⟨λ_=>rfl,trivial⟩
     ·unfold keptBack;split
      ·split
       ·trivial
       ·refine DP.bind ?_ CC;intro _;trivial
      ·trivial
    ·unfold behindIsImport;split
     ·trivial
     ·split
      ·trivial
      ·refine DP.bind ?_ (me _ _);intro _;trivial
theorem DW:DP frameEnvs:=λ_=>trivial
theorem wj(env:Env):DP (frameOf env):=by
 unfold frameOf;refine DP.bind ?_ DW;intro l;refine DP.bind ?_ ?_
 ·intro f;split<;>trivial
 ·unfold frameObject;split
  ·trivial
  ·refine DP.bind ?_ (vT _);intro _;trivial
theorem IJ(ty:String)(vs:List Vc):DP (newFields ty vs):=by
 unfold newFields newObj;dsimp only;split
 ·trivial
 ·exact λ_=>trivial
theorem Dh(f:Ve)(b:Bool):DP (entryPlaceOf f b):=by
 unfold entryPlaceOf;refine DP.bind ?_ Bh;intro l;split<;>trivial
theorem yB(e:Vc)(env:Env):DP (noteFrame e env):=by
 unfold noteFrame;cases env.frame with
 |none=>trivial
 |some f=>
  have tl:∀head:Vc,DP (do setField e 1 (<-EntryCells.newEntry head (<-frameOf env) .none (rawInt f) .none (<-entryPlaceOf f (head !=.none)))):=λhead=>by
   refine DP.bind ?_ (wj env);intro a;refine DP.bind ?_ (Dh _ _);intro b;refine DP.bind ?_ (IJ _ _);intro c;exact wY _ _ _
  refine DP.bind ?_ (me _ _);intro head;dsimp only;split
  ·refine DP.bind ?_ (me _ _);intro x;split
   ·trivial
   ·refine DP.bind ?_ (wY _ _ _);intro _;exact tl head
  ·exact tl head
theorem v8(env:Env)(e:Vc):DP (leaving env e):=by
 unfold leaving;refine DP.bind ?_ (yB _ _);intro _;exact nT _ _
open PySem PySem.Spec L2
inductive D where
 |non|bl (b:Bool)|int (i:Int)|str (x:Str)|tup (xs:List D)|lst (xs:List D)
 |dct (ks vs:List D)|obj (c:Str) (fs:au) (vs:List D)|exc (c:Str) (fs:au) (vs:List D)
noncomputable abbrev bE:=Option D
noncomputable def cI:Key->D
 |.inl i=>.int i
 |.inr x=>.str x
noncomputable def clsAt(K:T3)(c:Str)(C:Ve):Prop:=Uw K Vn c=some (some (.ref C))
noncomputable def Ho(C a:Ve)(dx:Option Ve):(Ve->Prop)->Vl->Prop:=λ_ h=>∃o,h.get? a=some o/\o.cls=.ref C/\o.dict=dx/\Ux o=true
mutual
noncomputable def cA(K:T3)(H:Hp):D->V->Prop
 |.non,v=>v=.non
 |.bl b,v=>v=.bl b
 |.int i,v=>v=.int i
 |.str x,v=>v=.str x
 |.tup xs,v=>∃a vs,v=.ref a/\H a=some (.tup vs)/\aL K H xs vs
 |.lst xs,v=>∃a vs,v=.ref a/\mL K H a vs/\aL K H xs vs
 |.dct ks ds,v=>∃a vs,v=.ref a/\aL K H ds vs/\((∃kvs:List (Key×V),H a=some (.dK kvs)/\ks=kvs.map (λp=>cI p.1)/\vs=kvs.map (·.2)) \/
   (∃kvs:List (List Key×V),H a=some (.dT kvs)/\ks=kvs.map (λp=>.tup (p.1.map cI))/\vs=kvs.map (·.2)) \/
   ∃(kvs:List (List Key×V))(o:Obj),H a=some (.frz o (.dT kvs))/\ks=.non::kvs.map (λp=>.tup (p.1.map cI))/\vs=kvs.map (·.2))
 |.obj c fs ds,v=>∃a vs,v=.ref a/\aL K H ds vs/\fs.length=vs.length/\∃C dx,clsAt K c C/\H a=some (.ins C dx (fs.zip vs))
 |.exc c fs ds,v=>∃a vs,v=.ref a/\aL K H ds vs/\fs.length=vs.length/\∃C dx,clsAt K c C/\H a=some (.ext (Ho C a dx))/\(fs=[]\/∃d,dx=some d/\H d=some (.xd (fs.zip vs)))
noncomputable def aL(K:T3)(H:Hp):List D->aH->Prop
 |[],vs=>vs=[]
 |x::xs,vs=>∃v r,vs=v::r/\cA K H x v/\aL K H xs r
end
theorem yN{K:T3}{H H':Hp}{a:Ve}{xs:aH}(e:aT H H')(h:oJ K H a xs):oJ K H' a xs:=by
 rcases h with(h|⟨o,h⟩)|h
 ·exact .inl (.inl (e _ _ h))
 ·exact .inl (.inr ⟨o,e _ _ h⟩)
 ·exact .inr h
theorem cj{K:T3}{H H':Hp}{a:Ve}{xs:aH}(e:aT H H')(h:H a=some (.tup xs)):oJ K H' a xs:=oJ.of (e _ _ h)
mutual
theorem cA.mono{K:T3}{H H':Hp}(e:aT H H'):∀{d:D}{v:V},cA K H d v->cA K H' d v
 |.non,_,h=>by unfold cA at h ⊢;exact h
 |.bl _,_,h=>by unfold cA at h ⊢;exact h
 |.int _,_,h=>by unfold cA at h ⊢;exact h
 |.str _,_,h=>by unfold cA at h ⊢;exact h
 |.tup xs,_,h=>by
  unfold cA at h ⊢;obtain⟨a,vs,e1,h1,h2⟩:=h;exact⟨a,vs,e1,e _ _ h1,aL.mono e h2⟩
 |.lst xs,_,h=>by
  unfold cA at h ⊢;obtain⟨a,vs,e1,h1,h2⟩:=h;exact⟨a,vs,e1,e.seq h1,aL.mono e h2⟩
 |.dct _ ds,_,h=>by
  unfold cA at h ⊢;obtain⟨a,vs,e1,h1,h2⟩:=h;refine⟨a,vs,e1,aL.mono e h1,?_⟩;rcases h2 with⟨kvs,h2,h3⟩|⟨kvs,h2,h3⟩|⟨kvs,o,h2,h3⟩
  ·exact .inl ⟨kvs,e _ _ h2,h3⟩
  ·exact .inr (.inl ⟨kvs,e _ _ h2,h3⟩)
  ·exact .inr (.inr ⟨kvs,o,e _ _ h2,h3⟩)
 |.obj _ _ ds,_,h=>by
  unfold cA at h ⊢;obtain⟨a,vs,e1,h1,h2,C,dx,h3,h4⟩:=h;exact⟨a,vs,e1,aL.mono e h1,h2,C,dx,h3,e _ _ h4⟩
 |.exc _ _ ds,_,h=>by
  unfold cA at h ⊢;obtain⟨a,vs,e1,h1,h2,C,dx,h3,h4,h5⟩:=h;exact⟨a,vs,e1,aL.mono e h1,h2,C,dx,h3,e _ _ h4,h5.imp id λ⟨d,q1,q2⟩=>⟨d,q1,e _ _ q2⟩⟩
theorem aL.mono{K:T3}{H H':Hp}(e:aT H H'):∀{ds:List D}{vs:aH},aL K H ds vs->aL K H' ds vs
 |[],_,h=>by unfold aL at h ⊢;exact h
 |x::xs,_,h=>by
  unfold aL at h ⊢;obtain⟨v,r,e1,h1,h2⟩:=h;exact⟨v,r,e1,cA.mono e h1,aL.mono e h2⟩
end
section
variable{K:T3}{H:Hp}
theorem jq{v:V}:cA K H .non v↔v=.non:=by unfold cA;rfl
theorem jC{b:Bool}{v:V}:cA K H (.bl b) v↔v=.bl b:=by unfold cA;rfl
theorem eO{i:Int}{v:V}:cA K H (.int i) v↔v=.int i:=by unfold cA;rfl
theorem eR{x:Str}{v:V}:cA K H (.str x) v↔v=.str x:=by unfold cA;rfl
theorem cv{xs:List D}{v:V}:cA K H (.tup xs) v↔∃a vs,v=.ref a/\H a=some (.tup vs)/\aL K H xs vs:=by unfold cA;rfl
theorem cx{xs:List D}{v:V}:cA K H (.lst xs) v↔∃a vs,v=.ref a/\mL K H a vs/\aL K H xs vs:=by unfold cA;rfl
theorem Mr{ks ds : List D}{v : V}: cA K H (.dct ks ds) v ↔ ∃ a vs, v = .ref a /\ aL K H ds vs /\ ((∃ kvs : List (Key × V), H a = some (.dK kvs) /\ ks = kvs.map (fun p => cI p.1) /\ vs = kvs.map (·.2)) \/
      (∃kvs:List (List Key×V),H a=some (.dT kvs)/\ks=kvs.map (λp=>.tup (p.1.map cI))/\vs=kvs.map (·.2)) \/
      ∃(kvs:List (List Key×V))(o:Obj),H a=some (.frz o (.dT kvs))/\ks=.non::kvs.map (λp=>.tup (p.1.map cI))/\vs=kvs.map (·.2)):=by unfold cA;rfl
theorem MC{c:Str}{fs:au}{ds:List D}{v:V}:cA K H (.obj c fs ds) v↔∃a vs,v=.ref a/\aL K H ds vs/\fs.length=vs.length/\∃C dx,clsAt K c C/\H a=some (.ins C dx (fs.zip vs)):=by unfold cA;rfl
theorem Mm{c:Str}{fs:au}{ds:List D}{v:V}:cA K H (.exc c fs ds) v↔∃a vs,v=.ref a/\aL K H ds vs/\fs.length=vs.length/\∃C dx,clsAt K c C/\H a=some (.ext (Ho C a dx))/\(fs=[]\/∃d,dx=some d/\H d=some (.xd (fs.zip vs))):=by unfold cA;rfl
theorem cB{vs:aH}:aL K H [] vs↔vs=[]:=by unfold aL;rfl
theorem aV{x:D}{xs:List D}{vs:aH}:aL K H (x::xs) vs↔∃v r,vs=v::r/\cA K H x v/\aL K H xs r:=by conv=>lhs;unfold aL
theorem aL.length:∀{ds:List D}{vs:aH},aL K H ds vs->ds.length=vs.length
 |[],_,h=>by rw[cB]at h;rw[h];rfl
 |_::xs,_,h=>by
  rw[aV]at h;obtain⟨v,r,e,_,h⟩:=h;rw[e,RH,RH,aL.length h]
theorem aL.get:∀{ds:List D}{vs:aH}{i:Nat}{d:D},aL K H ds vs->ds[i]?=some d->∃v,vs[i]?=some v/\cA K H d v
 |[],_,_,_,_,e=>by simp at e
 |x::xs,_,0,d,h,e=>by
  rw[aV]at h;obtain⟨v,r,rfl,h1,_⟩:=h;simp at e;subst e;exact⟨v,rfl,h1⟩
 |x::xs,_,i+1,d,h,e=>by
  rw[aV]at h;obtain⟨v,r,rfl,_,h2⟩:=h;obtain⟨w,e1,e2⟩:=aL.get (i:=i) h2 (by simpa using e);exact⟨w,by simpa using e1,e2⟩
theorem aL.append:∀{ds es:List D}{vs ws:aH},aL K H ds vs->aL K H es ws->aL K H (ds++es) (vs++ws)
 |[],_,_,_,h,h'=>by rw[cB]at h;subst h;exact h'
 |x::xs,_,_,_,h,h'=>by
  rw[aV]at h;obtain⟨v,r,rfl,h1,h2⟩:=h;rw[Si,aV];exact⟨v,_,rfl,h1,aL.append h2 h'⟩
theorem aL.take:∀{ds:List D}{vs:aH}(n:Nat),aL K H ds vs->aL K H (ds.take n) (vs.take n)
 |_,_,0,_=>by rw[Sj,Sj,cB]
 |[],_,_+1,h=>by rw[cB]at h;subst h;rw[List.take_nil,List.take_nil,cB]
 |x::xs,_,n+1,h=>by
  rw[aV]at h;obtain⟨v,r,rfl,h1,h2⟩:=h;rw[Sl,Sl,aV];exact⟨v,_,rfl,h1,aL.take n h2⟩
theorem aL.drop:∀{ds:List D}{vs:aH}(n:Nat),aL K H ds vs->aL K H (ds.drop n) (vs.drop n)
 |_,_,0,h=>by rw[Sn,Sn];exact h
 |[],_,_+1,h=>by rw[cB]at h;subst h;rw[List.drop_nil,List.drop_nil,cB]
 |x::xs,_,n+1,h=>by
  rw[aV]at h;obtain⟨v,r,rfl,h1,h2⟩:=h;rw[Sq,Sq];exact aL.drop n h2
theorem aL.snoc{ds:List D}{vs:aH}{d:D}{v:V}(h:aL K H ds vs)(h':cA K H d v):aL K H (ds++[d]) (vs++[v]):=
 h.append (aV.mpr ⟨v,[],rfl,h',cB.mpr rfl⟩)
theorem aL.one{d:D}{vs:aH}(h:aL K H [d] vs):∃v,vs=[v]/\cA K H d v:=by
 rw[aV]at h;obtain⟨v,r,rfl,h1,h2⟩:=h;rw[cB]at h2;subst h2;exact⟨v,rfl,h1⟩
theorem aL.two{d e:D}{vs:aH}(h:aL K H [d,e] vs):∃v w,vs=[v,w]/\cA K H d v/\cA K H e w:=by
 rw[aV]at h;obtain⟨v,r,rfl,h1,h2⟩:=h;obtain⟨w,rfl,h3⟩:=h2.one;exact⟨v,w,rfl,h1,h3⟩
theorem rj:∀ns:List Int,aL K H (ns.map D.int) (ns.map V.int)
 |[]=>cB.mpr rfl
 |n::ns=>aV.mpr ⟨_,_,rfl,eO.mpr rfl,rj ns⟩
end
noncomputable def hid(H:Hp)(O:aD):Hp:=λb=>if b∈O then none else H b
theorem aJ(H:Hp)(O:aD):aT (hid H O) H:=λb o h=>by
 unfold hid at h;split at h
 ·cases h
 ·exact h
theorem bV{H H':Hp}{O:aD}(e:aT H H'):aT (hid H O) (hid H' O):=λb o h=>by
 unfold hid at h ⊢;by_cases hb:b∈O
 ·rw[if_pos hb]at h;cases h
 ·rw[if_neg hb]at h ⊢;exact e b o h
theorem iM{H:Hp}{O O':aD}(s:∀a∈O,a∈O'):aT (hid H O') (hid H O):=λb o h=>by
 unfold hid at h ⊢;by_cases hb:b∈O'
 ·rw[if_pos hb]at h;cases h
 ·rw[if_neg hb]at h;rw[if_neg λz=>hb (s b z)];exact h
theorem Ft(H:Hp):hid H []=H:=by funext b;unfold hid;simp
theorem yp{H:Hp}{O:aD}{p:Ve}{o:HO}(h:H p=none):aT (hid H O) (hid (upd H p o) O):=λb u q=>by
 unfold hid at q ⊢;by_cases hb:b∈O
 ·rw[if_pos hb]at q;cases q
 ·rw[if_neg hb]at q ⊢;rw[ay (aQ q h)];exact q
theorem dr{H:Hp}{p:Ve}(h:H p=none)(o:HO):aT H (upd H p o):=λb u q=>by rw[ay (aQ q h)];exact q
theorem lH{H:Hp}{O:aD}{p:Ve}(h:p∉O):hid H O p=H p:=by unfold hid;rw[if_neg h]
theorem jl{H:Hp}{O:aD}{p:Ve}{o:HO}(h:p∈O):aT (hid H O) (hid (upd H p o) O):=λb u q=>by
 unfold hid at q ⊢;by_cases hb:b∈O
 ·rw[if_pos hb]at q;cases q
 ·rw[if_neg hb]at q ⊢;rw[ay (λz=>hb (by rw[z];exact h))];exact q
inductive S where
 |val (d:D)|own (d:D)|nest (d:D)
noncomputable abbrev aq:=List (Option S)
noncomputable def ux:HO->Prop
 |.lst _=>True
 |.dK _=>True
 |.dT _=>True
 |_=>False
class az where
 tab:Hp->Prop
 same:∀{H H':Hp},tab H->aT H H'->tab H'
 own:∀{H:Hp}{p:Ve}{o o':HO},tab H->H p=some o->ux o->tab (upd H p o')
variable[az]
noncomputable def dI(H:Hp)(O:aD):Prop:=az.tab H/\∀a∈O,∃o,H a=some o/\ux o
theorem dI.not{H:Hp}{O:aD}(h:dI H O){p:Ve}(n:H p=none):p∉O:=λz=>by
 obtain⟨vs,e,_⟩:=h.2 p z;rw[n]at e;cases e
theorem dI.same{H H':Hp}{O:aD}(h:dI H O)(e:aT H H'):dI H' O:=⟨az.same h.1 e,λa ha=>let ⟨vs,q,m⟩:=h.2 a ha;⟨vs,e _ _ q,m⟩⟩
theorem dI.upd{H:Hp}{O:aD}{p:Ve}{o:HO}(h:dI H O)(hp:p∈O)(m:ux o):dI (L2.upd H p o) O:=⟨let ⟨_,q,r⟩:=h.2 p hp;az.own h.1 q r,λa ha=>by
 by_cases z:a=p
 ·rw[z];exact⟨o,aA,m⟩
 ·obtain⟨u,q,r⟩:=h.2 a ha;exact⟨u,by rw[ay z];exact q,r⟩⟩
theorem dI.cons{H:Hp}{O:aD}{p:Ve}{o:HO}(h:dI H O)(hp:H p=some o)(m:ux o):dI H (p::O):=⟨h.1,λa ha=>by
 rcases List.mem_cons.mp ha with z|z
 ·rw[z];exact⟨o,hp,m⟩
 ·exact h.2 a z⟩
noncomputable def ig(K:T3)(H:Hp)(O:aD)(a:Ve)(d:D):Prop:=∃o vs,H a=some o/\match d with
 |.lst xs=>o=.lst vs/\aL K (hid H O) xs vs
 |.dct ks ds=>aL K (hid H O) ds vs/\((∃kvs:List (Key×V),o=.dK kvs/\ks=kvs.map (λp=>cI p.1)/\vs=kvs.map (·.2)) \/
   ∃kvs:List (List Key×V),o=.dT kvs/\ks=kvs.map (λp=>.tup (p.1.map cI))/\vs=kvs.map (·.2))
 |_=>False
theorem ig.mono{K:T3}{H H':Hp}{O O':aD}{a:Ve}{d:D}(h:ig K H O a d)(e:H a=H' a)(s:aT (hid H O) (hid H' O')):ig K H' O' a d:=by
 obtain⟨o,vs,h1,h2⟩:=h;refine⟨o,vs,by rw[<-e];exact h1,?_⟩;cases d with
 |lst xs=>exact⟨h2.1,h2.2.mono s⟩
 |dct ks ds=>exact⟨h2.1.mono s,h2.2⟩
 |_=>exact h2
theorem ig.some{K:T3}{H:Hp}{O:aD}{a:Ve}{d:D}(h:ig K H O a d):∃o,H a=some o:=let ⟨o,_,e,_⟩:=h;⟨o,e⟩
theorem ig.den{K:T3}{H:Hp}{O O':aD}{a:Ve}{d:D}(h:ig K H O a d)(s:aT (hid H O) (hid H O'))(ha:a∉O'):cA K (hid H O') d (.ref a):=by
 obtain⟨o,vs,h1,h2⟩:=h;have h1':hid H O' a=Option.some o:=by rw[lH ha];exact h1
 cases d with
 |lst xs=>
  obtain⟨e,g⟩:=h2;subst e;exact cx.mpr ⟨a,vs,rfl,mL.of h1',g.mono s⟩
 |dct ks ds=>
  obtain⟨g,q⟩:=h2;refine Mr.mpr ⟨a,vs,rfl,g.mono s,?_⟩;rcases q with⟨kvs,e,q⟩|⟨kvs,e,q⟩
  ·subst e;exact .inl ⟨kvs,h1',q⟩
  ·subst e;exact .inr (.inl ⟨kvs,h1',q⟩)
 |_=>exact h2.elim
structure dH(K:T3)(O:aD)(H:Hp)(ρ:aq)(σ:St):Prop where
 val:∀(i:Nat) d,ρ[i]?=some (some (.val d))->∃v,σ[i]?=some (some v)/\cA K (hid H O) d v
 own:∀(i:Nat) d,ρ[i]?=some (some (.own d))->∃a,σ[i]?=some (some (.ref a))/\a∈O/\ig K H O a d
 one:∀(i j:Nat) xs ys a,ρ[i]?=some (some (.own xs))->ρ[j]?=some (some (.own ys))->σ[i]?=some (some (.ref a))->σ[j]?=some (some (.ref a))->i=j
 all:dI H O
theorem tJ{H H':Hp}(e:aT H H'){a:Ve}{o:HO}(h:H a=some o):H a=H' a:=by rw[h,e _ _ h]
theorem dH.same{K:T3}{O:aD}{H H':Hp}{ρ:aq}{σ:St}(h:dH K O H ρ σ)(e:aT H H'):dH K O H' ρ σ:=
  ⟨fun i d q=>let ⟨v,a,b⟩:=h.val i d q; ⟨v,a,b.mono (bV e)⟩,
   λi xs q=>let ⟨a,q1,q2,q3⟩:=h.own i xs q;⟨a,q1,q2,q3.mono (let ⟨_,z⟩:=q3.some;tJ e z) (bV e)⟩,h.one,h.all.same e⟩
structure Ex where
 c:Str
 fs:au
 vs:List D
noncomputable abbrev R(α:Type):=Except (Option Ex) α
noncomputable abbrev aW:=aq->R (List D)
noncomputable abbrev b8:=aq->R Bool
noncomputable abbrev cg:=List D->R D
noncomputable abbrev un{α:Type}:R α:=.error none
noncomputable def rO{α:Type}:Option α->R α
 |some a=>.ok a
 |none=>.error none
noncomputable def KP(K:T3)(Hd:Hp)(x:Ex)(C:Ve)(dx:Option Ve):Prop:=clsAt K x.c C/\∃ws,aL K Hd x.vs ws/\x.fs.length=ws.length/\(x.fs=[]\/∃d,dx=some d/\Hd d=some (.xd (x.fs.zip ws)))
theorem KP.mono{K:T3}{H H':Hp}{x:Ex}{C:Ve}{dx:Option Ve}(h:KP K H x C dx)(e:aT H H'):KP K H' x C dx:=by
 obtain⟨h1,ws,h2,h3,h4⟩:=h;exact⟨h1,ws,h2.mono e,h3,h4.imp id λ⟨d,q1,q2⟩=>⟨d,q1,e _ _ q2⟩⟩
end TG
namespace TG
open PySem PySem.Spec L2
variable[az]
open PyProof.Rows (AllBare)
theorem vZ{P:Vj}{w:Vi}{H:Hp}{h:Vl}{a:Ve}{o:HO}(x:cy P w H h a o):∃u,h.get? a=some u:=by
 cases o with
 |lst xs=>obtain⟨_,_,_,_,e⟩:=x;exact⟨_,e⟩
 |tup xs=>obtain⟨_,_,_,o,e,_⟩:=x;exact⟨_,e⟩
 |dK kvs=>obtain⟨_,_,_,_,o,_,_,e,_⟩:=x;exact⟨_,e⟩
 |dT kvs=>obtain⟨_,_,_,_,o,_,_,e,_⟩:=x;exact⟨_,e⟩
 |set S n=>obtain⟨o,_,_,_,e,_⟩:=x;exact⟨_,e⟩
 |ins C dx fs=>obtain⟨_,_,_,e,_⟩:=x;exact⟨_,e⟩
 |own y=>exact x
 |xd fs=>obtain⟨_,⟨_,_,_,e,_⟩,_⟩:=x;exact⟨_,e⟩
 |rng lo hi=>obtain⟨_,_,_,e⟩:=x;exact⟨_,e⟩
 |frz ob u=>obtain⟨e,_⟩:=x;exact⟨_,e⟩
 |tbl ps=>exact⟨_,(show h.get? a=some _ from x)⟩
 |met f y=>exact⟨_,(show h.get? a=some _ from x)⟩
 |ext φ=>obtain⟨_,e,_⟩:=x;exact e
noncomputable def jt(X:Cx)(H:Hp)(b:Ve):Prop:=((∃o,X.s₀.heap.get? b=some o)/\b∉X.ex)\/H b≠none\/(∃o,(b,o)∈X.pn)\/∃x,X.env.cells.lookup x=some b
noncomputable def Qg(B:Vl)(e:Ve)(cls a0:Vc)(h:Vl):Prop:=h.TracedW B e cls a0\/∃oe vs,h.get? e=some oe/\oe.cls=cls/\oe.data=.fields vs/\vs[1]?=some .none/\vs[0]?=some a0
noncomputable def vm(X:Cx)(H:Hp)(s:Vh)(e C:Ve)(dx:Option Ve):Prop:=(∀oe,s.heap.get? e=some oe->oe.dict=dx)/\∃B a0,B.StaysIn s.heap/\B.get? e=none/\s.heap.FunFrames B X.stack/\Qg B e (.ref C) a0 s.heap/\∀b o,s.heap.get? b=some o->jt X H b->b∉frs X.stack->B.get? b=some o
noncomputable def Qy(X:Cx)(H:Hp)(O:aD)(s:Vh)(u:Vc)(x:Ex):Prop:=∃e C dx,u=.ref e/\KP X.K (hid H O) x C dx/\vm X H s e C dx
noncomputable def lX(P:Vj)(w:Vi):vV:=λouter H s E u s'=>∃e C dx H' B a0,u=.ref e/\(∀oe,s'.heap.get? e=some oe->oe.dict=dx)/\s'.os=s.os/\AllBare s'.gens/\Un (frs outer) [] H H' s.heap s'.heap/\nI P w H' s'.heap/\UX B outer e (.ref C) a0 s'.heap/\
 (∀b o,s'.heap.get? b=some o->((∃o',s.heap.get? b=some o')\/H' b≠none)->b∉frs outer->B.get? b=some o)/\E (.ref C) dx H'
noncomputable def Nb(K:T3)(H:Hp)(O:aD)(x:Ex)(E:XK):Prop:=∀C dx H',aT H H'->KP K (hid H' O) x C dx->E (.ref C) dx H'
noncomputable def HP(X:Cx)(σ:St)(O:aD)(H:Hp)(x:Ex):Prop:=∀pins s u H',Inv X pins σ H' s->aT H H'->Qy X H' O s u x->X.xe u s
theorem HP.mono{X:Cx}{σ:St}{O:aD}{H H':Hp}{x:Ex}(h:HP X σ O H x)(s:aT H H'):HP X σ O H' x:=λpins st u H2 I s2 f=>h pins st u H2 I (s.trans s2) f
noncomputable def xP(X:Cx)(O:aD)(H:Hp)(x:Ex):XK:=λu dx H'=>∃C,u=.ref C/\aT H H'/\KP X.K (hid H' O) x C dx
noncomputable def kg(CX:vV)(X:Cx)(σ:St)(E:XK):Prop:=∀(pins:aS)(H:Hp)(s:Vh)(e:Vc)(s':Vh),Inv X pins σ H s->CX X.stack H s E e s'->X.xe e s'
theorem xE{X:Cx}{σ:St}{O:aD}{H:Hp}{x:Ex}(h:HP X σ O H x):kg (lX X.prog X.w) X σ (xP X O H x):=by
 rintro pins H1 s u s' I ⟨e,C,dx,H',B,a0,rfl,hdx,os,bare,un,hok,⟨f1,f2,f3,f4⟩,kp,C',eC,sm,hd⟩;cases eC;have I':Inv X pins σ H' s':=I.call' os un hok bare (ch:=[]) λb z=>absurd z (by simp);refine h pins s' _ H' I' sm ⟨e,C,dx,rfl,hd,hdx,B,a0,f1,f2,f3,.inl f4,λb o eb hb nf=>kp b o eb ?_ nf⟩;rcases hb with⟨⟨o',hb⟩,nx⟩|hb|⟨o',hb⟩|⟨y,hb⟩
 ·exact .inl (I.base.there b o' hb nx)
 ·exact .inr hb
 ·exact .inl ⟨_,(I.pin _ (Rw _ hb)).1⟩
 ·obtain⟨v,o,q,_⟩:=I.cell y b hb;exact .inl ⟨o,q⟩
theorem yy{X:Cx}{σ:St}:kg (lX X.prog X.w) X σ E0:=λ_ _ _ _ _ _ h=>by
 obtain⟨_,_,_,_,_,_,_,_,_,_,_,_,_,_,z⟩:=h;exact z.elim
theorem vv{X:Cx}{O:aD}{H:Hp}{x:Ex}:Nb X.K H O x (xP X O H x):=λC dx H' s e=>⟨C,rfl,s,e⟩
section
variable{X:Cx}{pins:aS}{σ:St}{H:Hp}{s:Vh}{h':Vl}
theorem xY(I:Inv X pins σ H s)(k:∀b o,s.heap.get? b=some o->jt X H b->b∉frs X.stack->h'.get? b=some o):nI X.prog X.w H h':=λa ob ea=>
 (I.hok a ob ea).stay (λb u hb q=>by
  have hn:H b≠none:=by
   rcases hb with e|e
   ·rw[e,ea];intro z;cases z
   ·rw[e];intro z;cases z
  exact k b u q (.inr (.inl hn)) λhf=>hn (I.stkFree b hf)) (λ_ q=>q) λ_ _ q=>q
theorem rR(I:Inv X pins σ H s)(us:s.heap.UpToSlots h'){b:Ve}{o:Obj}(hb:b∈frs X.stack)(e:s.heap.get? b=some o):∃sl,h'.get? b=some {o with slots:=sl}:=by
 obtain⟨_,o',e',nf⟩:=I.stack.mem hb;rw[e]at e';cases e';exact us b o e nf
theorem Be(I:Inv X pins σ H s)(hx:X.ex=[])(hst:X.stack=X.env::X.outer)(hf:X.env.frame=some X.env.locals)(us:s.heap.UpToSlots h')(k:∀b o,s.heap.get? b=some o->jt X H b->b∉frs X.stack->h'.get? b=some o):
  Un (frs X.outer) [] X.H₀ H X.s₀.heap h':=by
 have U:=I.base;rw[hx]at U;have fr:frs X.stack=X.env.locals::frs X.outer:=by rw[hst];show List.filterMap _ (_::_)=_;rw[Rt,hf];rfl
 have nl:∀b o,X.s₀.heap.get? b=some o->b≠X.env.locals:=λb o q z=>by
  have h1:=UP q;have h2:=I.ok.above;rw[z]at h1;exact Ro _ (Rn h1 h2)
 have nfr:∀b o,X.s₀.heap.get? b=some o->b∉frs X.outer->b∉frs X.stack:=λb o q nb z=>by
  rw[fr]at z;rcases List.mem_cons.mp z with z|z
  ·exact nl b o q z
  ·exact nb z
 refine⟨λb o q n nb _=>k b o (U.keep b o q n nb (by simp)) (.inl ⟨⟨o,q⟩,by rw[hx];simp⟩) (nfr b o q nb),λb o q n hb _=>?_,λb o q n _=>U.free b o q n (by simp),λb o q _=>?_,U.tups,U.frzs,U.tbls⟩
 ·obtain⟨sl,e⟩:=U.slot b o q n hb (by simp);obtain⟨sl',e'⟩:=rR I us (by rw[fr];exact Rv _ hb) e;exact⟨sl',e'⟩
 ·obtain⟨o1,e1⟩:=U.there b o q (by simp);by_cases hb:b∈frs X.stack
  ·obtain⟨sl,e⟩:=rR I us hb e1;exact⟨_,e⟩
  ·exact⟨o1,k b o1 e1 (.inl ⟨⟨o,q⟩,by rw[hx];simp⟩) hb⟩
end
theorem GZ{P:Vj}{w:Vi}{K:T3}{mg:cu}{base:Vl}{N:au}{qual:Str}{scope:Vq}{f:Ve}{cd:Vc}{A:Vp}{outer:List Env}{s:Vh}{H:Hp}{E:XK}{σ:St}{O O':aD}{H':Hp}{x:Ex}
  (hx:Nb K H O x E) (sm:aT H H') (hs:∀a∈O,a∈O'):HP (jR (lX P w) P w K mg base N qual scope f cd A outer s H E) σ O' H' x:=by
 rintro pins s1 u H1 I s2 ⟨e,C,dx,rfl,hd,hdx,B,a0,b1,b2,b3,b4,b5⟩;have fin:∀h',UX B outer e (.ref C) a0 h'->s1.heap.UpToSlots h'->DS s1.heap h'->lX P w outer H s E (.ref e) {s1 with heap:=h'}:=λh' fl us ds=>by
  have k:∀b o,s1.heap.get? b=some o->jt (jR (lX P w) P w K mg base N qual scope f cd A outer s H E) H1 b->b∉frs (jR (lX P w) P w K mg base N qual scope f cd A outer s H E).stack->h'.get? b=some o:=λb o q kb nf=>fl.1 b o (b5 b o q kb nf);have un:=Be I rfl rfl rfl us k;have hok:=xY I k;refine⟨e,C,dx,H1,B,a0,rfl,λoe' q=>?_,I.os,I.bare,un,hok,fl,λb o q hb nf=>?_,hx C dx H1 (sm.trans s2) (hd.mono (iM hs))⟩
  ·obtain⟨oe,q1⟩:∃oe,s1.heap.get? e=some oe:=by
    rcases b4 with⟨oe,_,_,_,_,h1,_⟩|⟨oe,_,h1,_⟩
    ·exact⟨oe,h1⟩
    ·exact⟨oe,h1⟩
   exact(ds.dict q1 q).trans (hdx oe q1)
  have nf2:b∉frs (jR (lX P w) P w K mg base N qual scope f cd A outer s H E).stack:=λz=>by
   rcases List.mem_cons.mp (show b∈s.heap.objs.size::frs outer from z)with z|z
   ·rcases hb with hb|hb
    ·obtain⟨o',hb⟩:=hb
     have:=UP hb
     rw[z]at this;exact Ro _ this
    ·rw[z]at hb;exact hb I.free
   ·exact nf z
  have kb:jt (jR (lX P w) P w K mg base N qual scope f cd A outer s H E) H1 b:=hb.elim (λz=>.inl ⟨z,λy=>nomatch y⟩) λz=>.inr (.inl z);obtain⟨o1,e1⟩:∃o1,s1.heap.get? b=some o1:=by
   rcases hb with⟨o',hb⟩|hb
   ·exact I.base.there b o' hb (λz=>nomatch z)
   ·cases q0:H1 b with
    |none=>exact absurd q0 hb
    |some ob=>exact vZ (I.hok b ob q0)
  have:=k b o1 e1 kb nf2
  rw[q]at this;cases this;exact b5 b _ e1 kb nf2
 show Vs _ _ (leaving (U5 qual scope s.heap.objs.size f cd) (.ref e)) _ _ s1;refine DP.go (v8 _ _) (P:=λh'=>UX B outer e (.ref C) a0 h'/\s1.heap.UpToSlots h') ?_ λh' z ds=>fin h' z.1 z.2 ds;rcases b4 with b4|⟨oe,vs,c1,c2,c3,c4,c5⟩
 ·exact wpAny_leaves_onW I.ok.frames rfl ⟨b1,b2,b3,b4⟩ λh' fl us=>⟨h',rfl,fl,us⟩
 ·refine wpAny_leaving_firstW I.ok.frames b3 rfl c1 b1 b2 c3 c4 c5 λh' hL=>?_;obtain⟨k1,⟨_,_,k2⟩,k3,k4⟩:=hL;exact⟨h',rfl,⟨k1,b2,k2,c2 ▸ k3⟩,k4⟩
end TG
namespace TG
open PySem PySem.Spec L2
variable[az]
noncomputable def fA(X:Cx)(σ:St)(O:aD)(H:Hp){α:Type}(r:R α)(Q:α->Prop):Prop:=match r with
 |.ok a=>Q a
 |.error (some x)=>HP X σ O H x
 |.error none=>False
section
variable{X:Cx}{σ:St}{O:aD}{H H':Hp}{α β:Type}
theorem fA.bind{r:R α}{G:α->R β}{Q:β->Prop}(h:fA X σ O H (r.bind G) Q):fA X σ O H r λa=>fA X σ O H (G a) Q:=by
 match r,h with
 |.ok a,h=>exact h
 |.error (some x),h=>exact h
 |.error none,h=>exact h
theorem fA.imp{r:R α}{Q Q':α->Prop}(h:fA X σ O H r Q)(f:∀a,Q a->Q' a):fA X σ O H r Q':=by
 match r,h with
 |.ok a,h=>exact f a h
 |.error (some x),h=>exact h
 |.error none,h=>exact h
theorem fA.mono{r:R α}{Q:α->Prop}(h:fA X σ O H r Q)(s:aT H H'):fA X σ O H' r Q:=by
 match r,h with
 |.ok a,h=>exact h
 |.error (some x),h=>exact HP.mono h s
 |.error none,h=>exact h
theorem fA.rO{o:Option α}{Q:α->Prop}(h:fA X σ O H (rO o) Q):∃a,o=some a/\Q a:=by
 match o,h with
 |some a,h=>exact⟨a,rfl,h⟩
 |none,h=>exact h.elim
end
noncomputable abbrev FX:=aq->R D
noncomputable def tF(X:Cx)(F:FX):TE:=λσ H Q=>∃O ρ,dH X.K O H ρ σ/\fA X σ O H (F ρ) λd=>∀v H',aT H H'->cA X.K (hid H' O) d v->Q v H'
noncomputable def Mp(X:Cx)(F:b8):TT:=λσ H Q=>∃O ρ,dH X.K O H ρ σ/\fA X σ O H (F ρ) λb=>∀H',aT H H'->Q b H'
noncomputable def Og(X:Cx)(F:aW):TA:=λσ H Q=>∃O ρ,dH X.K O H ρ σ/\fA X σ O H (F ρ) λds=>∀vs H',aT H H'->aL X.K (hid H' O) ds vs->Q vs H'
noncomputable def FE(X:Cx)(e:Vf)(F:FX):Prop:=PE X e (tF X F)
noncomputable def FT(X:Cx)(e:Vf)(F:b8):Prop:=PT X e (Mp X F)
noncomputable def FW(X:Cx)(e:Vf)(F:b8):Prop:=PW X e (Mp X F)
noncomputable def FA(X:Cx)(es:bu)(F:aW):Prop:=PA X es (Og X F)
theorem PE.weak{X:Cx}{e:Vf}{t t':TE}(h:PE X e t)(w:∀σ H Q,t' σ H Q->t σ H Q):PE X e t':=λpins s σ H Q I q=>h pins s σ H Q I (w σ H Q q)
theorem PT.weak{X:Cx}{e:Vf}{t t':TT}(h:PT X e t)(w:∀σ H Q,t' σ H Q->t σ H Q):PT X e t':=λpins s σ H Q I q=>h pins s σ H Q I (w σ H Q q)
theorem PW.weak{X:Cx}{e:Vf}{t t':TT}(h:PW X e t)(w:∀σ H Q,t' σ H Q->t σ H Q):PW X e t':=λwhole pins s σ H Q I q=>h whole pins s σ H Q I (w σ H Q q)
theorem PA.weak{X:Cx}{es:bu}{t t':TA}(h:PA X es t)(w:∀σ H Q,t' σ H Q->t σ H Q):PA X es t':=λpos pins s σ H Q I q=>h pos pins s σ H Q I (w σ H Q q)
theorem PS.weak{X:Cx}{st:Vg}{t t':TS}(h:PS X st t)(w:∀D σ H,t' D σ H->t D σ H):PS X st t':=λpins s σ H Q I q=>h pins s σ H Q I (w Q σ H q)
theorem uG.weak{X:Cx}{st:eK}{t t':TS}(h:uG X st t)(w:∀D σ H,t' D σ H->t D σ H):uG X st t':=λpins s σ H Q I q=>h pins s σ H Q I (w Q σ H q)
noncomputable def rh(ρ:aq)(i:Nat):R D:=match ρ[i]? with
 |some (some (.val d))=>.ok d
 |_=>un
theorem FP{ρ:aq}{i:Nat}{d:D}(h:rh ρ i=.ok d):ρ[i]?=some (some (.val d)):=by
 unfold rh at h;split at h
 ·rename_i e;cases h;exact e
 ·cases h
noncomputable def af(i:Nat):FX:=λρ=>rh ρ i
noncomputable def fC(d:D):FX:=λ_=>.ok d
section
variable{X:Cx}
theorem zG{σ:St}{O:aD}{H:Hp}{ρ:aq}{i:Nat}{Q:D->Prop}(h:fA X σ O H (rh ρ i) Q):∃d,ρ[i]?=some (some (.val d))/\Q d:=by
 cases e:rh ρ i with
 |ok d=>rw[e]at h;exact⟨d,FP e,h⟩
 |error z=>
  rw[e]at h;cases z with
  |none=>exact h.elim
  |some x=>
   exfalso;unfold rh at e;split at e
   ·cases e
   ·have:=Except.error.inj e;cases this
theorem jS{e:Vf}{d:D}{v:V}(h:PE X e (tC v))(hd:∀K H,cA K H d v):FE X e (fC d):=
 PE.weak h λσ H Q ⟨O,ρ,E,q⟩=>q v H (aT.refl H) (hd _ _)
noncomputable def noStar:Vf->Bool
 |.Starred _ _=>false
 |_=>true
theorem cW{e:Vf}{es:bu}{env:Env}(h:noStar e=true):Vt (e::es) env=(false,eval e env)::Vt es env:=by
 cases e<;>first|rfl|cases h
theorem dL{pos:Pos}{env:Env}:∀{es:bu},es.all noStar=true->(backTo pos (Vt es env)).any (·.1)=false
 |[],_=>rfl
 |e::es,h=>by
  rw[Sr,R4]at h;rw[cW h.1];exact dL h.2
noncomputable def ah:aW:=λ_=>.ok []
noncomputable def aa(f:FX)(g:aW):aW:=λρ=>(f ρ).bind λx=>(g ρ).bind λxs=>.ok (x::xs)
theorem NM:FA X [] ah:=PA.weak uq λσ H Q ⟨O,ρ,E,q⟩=>q [] H (aT.refl H) (cB.mpr rfl)
theorem bind_some{α β:Type}{o:Option α}{f:α->Option β}{b:β}(h:o.bind f=some b):∃a,o=some a/\f a=some b:=by
 cases o with
 |none=>cases h
 |some a=>exact⟨a,rfl,h⟩
theorem pJ{ε α β:Type}{o:Except ε α}{f:α->Except ε β}{b:β}(h:o.bind f=.ok b):∃a,o=.ok a/\f a=.ok b:=by
 cases o with
 |error _=>cases h
 |ok a=>exact⟨a,rfl,h⟩
theorem MA{e:Vf}{es:bu}{f:FX}{g:aW}(he:FE X e f)(hs:FA X es g)(hns:noStar e=true:=by rfl):FA X (e::es) (aa f g):=
 PA.weak (kA he hs (cW hns)) λσ H Q ⟨O,ρ,E,h⟩=>
  ⟨O,ρ,E,(fA.bind h).imp λx h v H1 s1 d1=>⟨O,ρ,E.same s1,((fA.bind h).mono s1).imp λxs q vs H2 s2 d2=>q (v::vs) H2 (s1.trans s2) (aV.mpr ⟨v,vs,rfl,d1.mono (bV s2),d2⟩)⟩⟩
noncomputable def small(n:Nat):Bool:=decide (n<=100000)
theorem dq{n:Nat}(h:small n=true):n<=Vm:=Rq (of_decide_eq_true h) (by decide)
theorem gz{n:Nat}(h:n<=100000):small n=true:=decide_eq_true h
noncomputable def oW(xs:List D):bE:=if small xs.length then some (.tup xs)else none
noncomputable def jY(xs:List D):bE:=if small xs.length then some (.lst xs)else none
noncomputable def aP(g:aW):FX:=λρ=>(g ρ).bind λxs=>rO (oW xs)
noncomputable def fg(g:aW):FX:=λρ=>(g ρ).bind λxs=>rO (jY xs)
theorem bf{α:Type}{c:Bool}{a b:α}(h:(if c then some a else none)=some b):c=true/\a=b:=by
 cases c with
 |true=>exact⟨rfl,Option.some.inj h⟩
 |false=>cases h
theorem gu{K:T3}{H:Hp}{O:aD}{p:Ve}{ds:List D}{vs:aH}(hO:dI H O)(hp:H p=none)(d:aL K (hid H O) ds vs):cA K (hid (upd H p (.tup vs)) O) (.tup ds) (.ref p):=
 cv.mpr ⟨p,vs,rfl,by rw[lH (hO.not hp),aA],d.mono (yp hp)⟩
theorem gx{K:T3}{H:Hp}{O:aD}{p:Ve}{ds:List D}{vs:aH}(hO:dI H O)(hp:H p=none)(d:aL K (hid H O) ds vs):cA K (hid (upd H p (.lst vs)) O) (.lst ds) (.ref p):=
 cx.mpr ⟨p,vs,rfl,mL.of (by rw[lH (hO.not hp),aA]),d.mono (yp hp)⟩
noncomputable def Ej(K:T3)(r:V->Hp->VK->Prop)(g:D->bE):Prop:=
 ∀(a d:D)(x:V)(O:aD)(H:Hp)(Q:VK),dI H O->g a=some d->cA K (hid H O) a x->(∀v H',aT H H'->cA K (hid H' O) d v->Q v H')->r x H Q
noncomputable def f1(g:D->bE)(f:FX):FX:=λρ=>(f ρ).bind λa=>rO (g a)
noncomputable def cY(K:T3)(r:R2)(g:D->D->bE):Prop:=
 ∀(a b d:D)(x y:V)(O:aD)(H:Hp)(Q:VK),dI H O->g a b=some d->cA K (hid H O) a x->cA K (hid H O) b y->(∀v H',aT H H'->cA K (hid H' O) d v->Q v H')->r x y H Q
noncomputable def f2(g:D->D->bE)(f1 f2:FX):FX:=λρ=>(f1 ρ).bind λa=>(f2 ρ).bind λb=>rO (g a b)
theorem t6{r:R2}{g:D->D->bE}{fa fb:FX}(s:cY X.K r g):∀σ H Q,tF X (f2 g fa fb) σ H Q->LV r (tF X fa) (tF X fb) σ H Q:=λσ H Q ⟨O,ρ,E,hF⟩=>
 ⟨O,ρ,E,(fA.bind hF).imp fun a hF x H1 s1 d1=>⟨O,ρ,E.same s1,((fA.bind hF).mono s1).imp fun b hF y H2 s2 d2=>by
  obtain⟨d,e,q⟩:=fA.rO hF;exact s a b d x y O H2 Q (E.all.same (s1.trans s2)) e (d1.mono (bV s2)) d2 λv H3 s3 d3=>q v H3 ((s1.trans s2).trans s3) d3⟩⟩
noncomputable def MP:D->Option Bool
 |.bl b=>some b
 |_=>none
noncomputable def fB(f:FX):b8:=λρ=>(f ρ).bind λd=>rO (MP d)
theorem qm{t:TE}{f:FX}(h:∀σ H Q,tF X f σ H Q->t σ H Q):∀σ H Q,Mp X (fB f) σ H Q->De t σ H Q:=λσ H Q ⟨O,ρ,E,hF⟩=>
 h σ H _ ⟨O,ρ,E,(fA.bind hF).imp λd hF v H1 s1 d1=>by
  obtain⟨b,e,q⟩:=fA.rO hF;cases d with
  |bl b'=>
   cases e;exact⟨b,jC.mp d1,q H1 s1⟩
  |_=>cases e⟩
noncomputable def xV(K:T3)(r:aH->Hp->VK->Prop)(g:List D->bE):Prop:=
 ∀(ds:List D)(d:D)(xs:aH)(O:aD)(H:Hp)(Q:VK),dI H O->g ds=some d->aL K (hid H O) ds xs->(∀v H',aT H H'->cA K (hid H' O) d v->Q v H')->r xs H Q
noncomputable def fL(g:List D->bE)(f:aW):FX:=λρ=>(f ρ).bind λds=>rO (g ds)
noncomputable def fR(g:cg)(f:aW):FX:=λρ=>(f ρ).bind g
theorem Di{r:aH->Hp->VK->Prop}{g:List D->bE}{f:aW}(s:xV X.K r g):∀σ H Q,tF X (fL g f) σ H Q->NI r (Og X f) σ H Q:=λσ H Q ⟨O,ρ,E,hF⟩=>
 ⟨O,ρ,E,(fA.bind hF).imp fun ds hF vs H1 s1 d1=>by
  obtain⟨d,e,q⟩:=fA.rO hF;exact s ds d vs O H1 Q (E.all.same s1) e d1 λv H2 s2 d2=>q v H2 (s1.trans s2) d2⟩
noncomputable def gH(f:b8):b8:=λρ=>(f ρ).bind λb=>.ok (!b)
noncomputable def oz(f g:b8):b8:=λρ=>(f ρ).bind λb=>if b then g ρ else .ok false
noncomputable def sr(f g:b8):b8:=λρ=>(f ρ).bind λb=>if b then .ok true else g ρ
variable{a b c:Vf}{rest:bu}{pos:Pos}{f g:b8}
theorem FW.ft{e:Vf}(h:FW X e f):FT X e f:=PW.pt h
noncomputable def truth:D->Option Bool
 |.non=>some false
 |.bl b=>some b
 |.int i=>some (i !=0)
 |.str x=>if small x.length then some (x.length !=0)else none
 |.tup xs=>some (!xs.isEmpty)
 |.lst xs=>some (!xs.isEmpty)
 |_=>none
noncomputable def aK(f:FX):b8:=λρ=>(f ρ).bind λd=>rO (truth d)
noncomputable def xh(d:D)(k:R D):R D:=match d with
 |.bl true=>k
 |.bl false=>.ok (.bl false)
 |_=>un
noncomputable def LJ(d:D)(k:R D):R D:=match d with
 |.bl false=>k
 |.bl true=>.ok (.bl true)
 |_=>un
noncomputable def Jq:D->bE
 |.bl b=>some (.bl (!b))
 |_=>none
noncomputable def lE(f g:FX):FX:=λρ=>(f ρ).bind λd=>xh d (g ρ)
noncomputable def Ei(f g:FX):FX:=λρ=>(f ρ).bind λd=>LJ d (g ρ)
noncomputable def ya(f:FX):FX:=f1 Jq f
variable{fa fb:FX}
noncomputable def xG(t:b8)(f g:FX):FX:=λρ=>(t ρ).bind λc=>if c then f ρ else g ρ
end
end TG
namespace TG
open PySem PySem.Spec L2
variable[az]
open PySem.SeqAt (EqAt RcAt RcNeAt)
mutual
noncomputable def pyEq:D->D->Bool
 |.non,.non=>true
 |.bl a,.bl b=>a==b
 |.bl a,.int b=>(if a then 1 else 0)==b
 |.int a,.bl b=>a==(if b then 1 else 0)
 |.int a,.int b=>a==b
 |.str a,.str b=>a==b
 |.tup xs,.tup ys=>eG xs ys
 |.lst xs,.lst ys=>eG xs ys
 |.dct _ _,.dct _ _=>true
 |.obj _ _ _,.obj _ _ _=>true
 |.exc _ _ _,.exc _ _ _=>true
 |_,_=>false
noncomputable def eG:List D->List D->Bool
 |[],[]=>true
 |x::xs,y::ys=>pyEq x y&&eG xs ys
 |_,_=>false
end
mutual
theorem iW:∀d:D,pyEq d d=true
 |.non=>by unfold pyEq;rfl
 |.bl b=>by unfold pyEq;simp
 |.int i=>by unfold pyEq;simp
 |.str x=>by unfold pyEq;simp
 |.tup xs=>by unfold pyEq;exact lP xs
 |.lst xs=>by unfold pyEq;exact lP xs
 |.dct _ _=>by unfold pyEq;rfl
 |.obj _ _ _=>by unfold pyEq;rfl
 |.exc _ _ _=>by unfold pyEq;rfl
theorem lP:∀ds:List D,eG ds ds=true
 |[]=>by unfold eG;rfl
 |d::ds=>by unfold eG;rw[iW d,lP ds];rfl
end
noncomputable def we(xs ys:List D)(j:Nat):Bool:=match xs[j]?,ys[j]? with
 |some a,some b=>pyEq a b
 |_,_=>false
theorem fT:∀xs ys:List D,((List.range (min xs.length ys.length)).all (we xs ys)&&xs.length==ys.length)=eG xs ys
 |[],[]=>by unfold eG;rfl
 |[],_::_=>by unfold eG;simp
 |_::_,[]=>by unfold eG;simp
 |x::xs,y::ys=>by
  have ih:=fT xs ys
  conv=>rhs;unfold eG
  rw[<-ih];have e:min (x::xs).length (y::ys).length=min xs.length ys.length+1:=by simp only[RH];omega
  rw[e,Ss,Sr,List.all_map];have e2:((x::xs).length==(y::ys).length)=(xs.length==ys.length):=by simp
  rw[e2,Bool.and_assoc];have e3:(List.range (min xs.length ys.length)).all (we (x::xs) (y::ys)∘Nat.succ)=(List.range (min xs.length ys.length)).all (we xs ys):=by
   congr 1
  rw[e3];rfl
mutual
noncomputable def pl:D->Bool
 |.tup xs=>pI xs
 |.lst xs=>pI xs
 |.dct _ _=>false
 |.obj _ _ _=>false
 |.exc _ _ _=>false
 |_=>true
noncomputable def pI:List D->Bool
 |[]=>true
 |x::xs=>pl x&&pI xs
end
theorem fF{ks vs:List D}(h:pl (.dct ks vs)=true):False:=by unfold pl at h;cases h
theorem fE{c:Str}{fs:au}{vs:List D}(h:pl (.obj c fs vs)=true):False:=by unfold pl at h;cases h
theorem fO{c:Str}{fs:au}{vs:List D}(h:pl (.exc c fs vs)=true):False:=by unfold pl at h;cases h
theorem kO:∀{xs:List D},pI xs=true->∀x∈xs,pl x=true
 |[],_,_,h=>nomatch h
 |x::xs,h,y,hy=>by
  unfold pI at h;rw[R4]at h;rcases List.mem_cons.mp hy with z|z
  ·rw[z];exact h.1
  ·exact kO h.2 y z
theorem dP{xs:List D}:pl (.tup xs)=pI xs:=by rw[pl]
theorem eJ{xs:List D}:pl (.lst xs)=pI xs:=by rw[pl]
noncomputable def dB:Nat->D->Bool
 |n+1,.tup xs=>xs.all (dB n)
 |n+1,.lst xs=>xs.all (dB n)
 |0,.tup _=>false
 |0,.lst _=>false
 |_,.dct _ _=>false
 |_,.obj _ _ _=>false
 |_,.exc _ _ _=>false
 |_,_=>true
section
variable{X:Cx}{pins:aS}{σ:St}{H:Hp}{s:Vh}
theorem Inv.not_both(I:Inv X pins σ H s){a:Ve}{xs ys:aH}(h:oJ X.K H a xs)(h':mL X.K H a ys):False:=by
 obtain⟨its,_,ht,_⟩:=I.tuple h;obtain⟨its2,_,hl,_⟩:=I.list h';exact absurd rfl (SeqAt.ne_of_list_tuple hl.isList (show s.heap.IsTuple a its.toArray from ht))
mutual
theorem Inv.den_inj(I:Inv X pins σ H s):∀{a b:D}{v:V},pl a=true->pl b=true->cA X.K H a v->cA X.K H b v->a=b
 |.non,b,v,pa,pb,h,h'=>by
  rw[jq]at h;subst h;cases b with
  |non=>rfl
  |bl _=>rw[jC]at h';cases h'
  |int _=>rw[eO]at h';cases h'
  |str _=>rw[eR]at h';cases h'
  |tup _=>rw[cv]at h';obtain⟨_,_,e,_⟩:=h';cases e
  |lst _=>rw[cx]at h';obtain⟨_,_,e,_⟩:=h';cases e
  |dct _ _=>exact(fF pb).elim
  |obj _ _ _=>exact(fE pb).elim
  |exc _ _ _=>exact(fO pb).elim
 |.bl x,b,v,pa,pb,h,h'=>by
  rw[jC]at h;subst h;cases b with
  |non=>rw[jq]at h';cases h'
  |bl _=>rw[jC]at h';cases h';rfl
  |int _=>rw[eO]at h';cases h'
  |str _=>rw[eR]at h';cases h'
  |tup _=>rw[cv]at h';obtain⟨_,_,e,_⟩:=h';cases e
  |lst _=>rw[cx]at h';obtain⟨_,_,e,_⟩:=h';cases e
  |dct _ _=>exact(fF pb).elim
  |obj _ _ _=>exact(fE pb).elim
  |exc _ _ _=>exact(fO pb).elim
 |.int x,b,v,pa,pb,h,h'=>by
  rw[eO]at h;subst h;cases b with
  |non=>rw[jq]at h';cases h'
  |bl _=>rw[jC]at h';cases h'
  |int _=>rw[eO]at h';cases h';rfl
  |str _=>rw[eR]at h';cases h'
  |tup _=>rw[cv]at h';obtain⟨_,_,e,_⟩:=h';cases e
  |lst _=>rw[cx]at h';obtain⟨_,_,e,_⟩:=h';cases e
  |dct _ _=>exact(fF pb).elim
  |obj _ _ _=>exact(fE pb).elim
  |exc _ _ _=>exact(fO pb).elim
 |.str x,b,v,pa,pb,h,h'=>by
  rw[eR]at h;subst h;cases b with
  |non=>rw[jq]at h';cases h'
  |bl _=>rw[jC]at h';cases h'
  |int _=>rw[eO]at h';cases h'
  |str _=>rw[eR]at h';cases h';rfl
  |tup _=>rw[cv]at h';obtain⟨_,_,e,_⟩:=h';cases e
  |lst _=>rw[cx]at h';obtain⟨_,_,e,_⟩:=h';cases e
  |dct _ _=>exact(fF pb).elim
  |obj _ _ _=>exact(fE pb).elim
  |exc _ _ _=>exact(fO pb).elim
 |.tup xs,b,v,pa,pb,h,h'=>by
  rw[cv]at h;obtain⟨a,vs,e,h1,h2⟩:=h;subst e;cases b with
  |non=>rw[jq]at h';cases h'
  |bl _=>rw[jC]at h';cases h'
  |int _=>rw[eO]at h';cases h'
  |str _=>rw[eR]at h';cases h'
  |tup ys=>
   rw[cv]at h';obtain⟨a',vs',e,h1',h2'⟩:=h';cases e;have ev:=I.tuple_inj (oJ.of h1) (oJ.of h1');subst ev;rw[Inv.denL_inj I (by first|rw[<-dP];exact pa|rw[<-eJ];exact pa) (by first|rw[<-dP];exact pb|rw[<-eJ];exact pb) h2 h2']
  |lst _=>rw[cx]at h';obtain⟨_,_,e,h1',_⟩:=h';cases e;exact(Inv.not_both I (oJ.of h1) h1').elim
  |dct _ _=>exact(fF pb).elim
  |obj _ _ _=>exact(fE pb).elim
  |exc _ _ _=>exact(fO pb).elim
 |.lst xs,b,v,pa,pb,h,h'=>by
  rw[cx]at h;obtain⟨a,vs,e,h1,h2⟩:=h;subst e;cases b with
  |non=>rw[jq]at h';cases h'
  |bl _=>rw[jC]at h';cases h'
  |int _=>rw[eO]at h';cases h'
  |str _=>rw[eR]at h';cases h'
  |lst ys=>
   rw[cx]at h';obtain⟨a',vs',e,h1',h2'⟩:=h';cases e;have ev:=I.list_inj h1 h1';subst ev;rw[Inv.denL_inj I (by first|rw[<-dP];exact pa|rw[<-eJ];exact pa) (by first|rw[<-dP];exact pb|rw[<-eJ];exact pb) h2 h2']
  |tup _=>rw[cv]at h';obtain⟨_,_,e,h1',_⟩:=h';cases e;exact(Inv.not_both I (oJ.of h1') h1).elim
  |dct _ _=>exact(fF pb).elim
  |obj _ _ _=>exact(fE pb).elim
  |exc _ _ _=>exact(fO pb).elim
 |.dct _ _,_,_,pa,_,_,_=>(fF pa).elim
 |.obj _ _ _,_,_,pa,_,_,_=>(fE pa).elim
 |.exc _ _ _,_,_,pa,_,_,_=>(fO pa).elim
theorem Inv.denL_inj(I:Inv X pins σ H s):∀{as bs:List D}{vs:aH},pI as=true->pI bs=true->aL X.K H as vs->aL X.K H bs vs->as=bs
 |[],bs,vs,pa,pb,h,h'=>by
  rw[cB]at h;subst h;cases bs with
  |nil=>rfl
  |cons b bs=>rw[aV]at h';obtain⟨_,_,e,_⟩:=h';cases e
 |a::as,bs,vs,pa,pb,h,h'=>by
  rw[aV]at h;obtain⟨v,r,e,h1,h2⟩:=h;subst e;cases bs with
  |nil=>rw[cB]at h';cases h'
  |cons b bs=>
   rw[aV]at h';obtain⟨v',r',e,h1',h2'⟩:=h';cases e;unfold pI at pa pb;rw[R4]at pa pb;rw[Inv.den_inj I pa.1 pb.1 h1 h1',Inv.denL_inj I pa.2 pb.2 h2 h2']
end
noncomputable def lz:D->Option V
 |.non=>some .non
 |.bl b=>some (.bl b)
 |.int i=>some (.int i)
 |.str x=>some (.str x)
 |_=>none
theorem ow{K:T3}{d:D}{v x:V}(h:lz d=some x)(hd:cA K H d v):v=x/\Cp x=true:=by
 cases d with
 |non=>cases h;exact⟨jq.mp hd,rfl⟩
 |bl b=>cases h;exact⟨jC.mp hd,rfl⟩
 |int i=>cases h;exact⟨eO.mp hd,rfl⟩
 |str y=>cases h;exact⟨eR.mp hd,rfl⟩
 |_=>cases h
theorem DG{a b:D}{x y:V}(ha:lz a=some x)(hb:lz b=some y):Om x y=pyEq a b:=by
 cases a<;>cases ha<;>cases b<;>cases hb<;>(unfold pyEq Om;rfl)
theorem ve{a:D}{x:V}(n:Nat)(h:lz a=some x):dB n a=true:=by
 cases a with
 |tup _=>cases h
 |lst _=>cases h
 |dct _ _=>cases h
 |obj _ _ _=>cases h
 |exc _ _ _=>cases h
 |_=>cases n<;>rfl
theorem vO{a:D}(h:lz a=none):dB 0 a=false:=by
 cases a with
 |tup _=>rfl
 |lst _=>rfl
 |dct _ _=>rfl
 |obj _ _ _=>rfl
 |exc _ _ _=>rfl
 |_=>cases h
theorem in1_units(A:Vp):A.in1.units=A.units+1:=rfl
theorem mR{vs:aH}{us:aN}(r:Vals vs us){j:Nat}(h:j<us.toArray.size):∃x,vs[j]?=some x/\RelV x us.toArray[j]:=by
 have hj:j<us.length:=by simpa using h
 have hl:=r.length;have hv:j<vs.length:=by omega
 obtain⟨u,e,ru⟩:=r.get (i:=j) (x:=vs[j]) (by simp[hv]);refine⟨vs[j],by simp[hv],?_⟩;have e2:us.toArray[j]=u:=by
  rw[Su hj]at e
  simpa using Option.some.inj e
 rw[e2];exact ru
theorem mB{K:T3}{ds:List D}{vs:aH}(h:aL K H ds vs){j:Nat}{x:V}(e:vs[j]?=some x):∃d,ds[j]?=some d/\cA K H d x:=by
 have hj:j<vs.length:=(List.getElem?_eq_some_iff.mp e).1;have hl:=h.length;have hd:j<ds.length:=by omega
 obtain⟨v,e1,e2⟩:=h.get (i:=j) (d:=ds[j]) (by simp[hd]);rw[e]at e1;cases e1;exact⟨ds[j],by simp[hd],e2⟩
theorem Bc(I:Inv X pins σ H s):∀(n:Nat)(a b:D)(x y:V)(u v:Vc)(A:Vp),pl a=true->pl b=true->(dB n a=true\/dB n b=true)->cA X.K H a x->cA X.K H b y->RelV x u->RelV y v->A.units+n<VS->EqAt A s u v (pyEq a b):=by
 intro n
 induction n with
 |zero=>
  intro a b x y u v A pa pb hd ha hb ru rv hA;have hu:A.units<VS:=hA;cases ha':lz a with
  |some x'=>
   obtain⟨e,f⟩:=ow ha' ha;subst e;cases hb':lz b with
   |some y'=>
    obtain⟨e,f'⟩:=ow hb' hb;subst e;rw[<-DG ha' hb'];exact Ir ru rv f f'
   |none=>
    cases b with
    |tup ys=>
     rw[cv]at hb;obtain⟨p,vs,e,h1,h2⟩:=hb;subst e;cases rv;obtain⟨its,_,ht,_⟩:=I.tuple (oJ.of h1);have ht':s.heap.IsTuple p its.toArray:=ht;cases a with
     |non=>cases ha';cases ru;unfold pyEq;exact .none_tuple ht' hu
     |bl z=>cases ha';cases ru;unfold pyEq;exact .bool_tuple z ht' hu
     |int z=>cases ha';obtain⟨t,rfl⟩:=ru;unfold pyEq;exact .int_tuple z t ht' hu
     |str z=>cases ha';obtain⟨t,rfl⟩:=ru;unfold pyEq;exact .str_tuple z t ht' hu
     |_=>cases ha'
    |lst ys=>
     rw[cx]at hb;obtain⟨p,vs,e,h1,h2⟩:=hb;subst e;cases rv;obtain⟨its,_,ht,_⟩:=I.list h1;have ht':s.heap.IsList p its.toArray:=ht.isList;cases a with
     |non=>cases ha';cases ru;unfold pyEq;exact .none_list ht' hu
     |bl z=>cases ha';cases ru;unfold pyEq;exact .bool_list z ht' hu
     |int z=>cases ha';obtain⟨t,rfl⟩:=ru;unfold pyEq;exact .int_list z t ht' hu
     |str z=>cases ha';obtain⟨t,rfl⟩:=ru;unfold pyEq;exact .str_list z t ht' hu
     |_=>cases ha'
    |dct _ _=>exact(fF pb).elim
    |obj _ _ _=>exact(fE pb).elim
    |exc _ _ _=>exact(fO pb).elim
    |_=>cases hb'
  |none=>
   have hdb:dB 0 b=true:=by
    rcases hd with hd|hd
    ·rw[vO ha']at hd;cases hd
    ·exact hd
   cases hb':lz b with
   |none=>rw[vO hb']at hdb;cases hdb
   |some y'=>
    obtain⟨e,f'⟩:=ow hb' hb;subst e;cases a with
    |tup xs=>
     rw[cv]at ha;obtain⟨p,vs,e,h1,h2⟩:=ha;subst e;cases ru;obtain⟨its,_,ht,_⟩:=I.tuple (oJ.of h1);have ht':s.heap.IsTuple p its.toArray:=ht;cases b with
     |non=>cases hb';cases rv;unfold pyEq;exact .tuple_none ht' hu
     |bl z=>cases hb';cases rv;unfold pyEq;exact .tuple_bool z ht' hu
     |int z=>cases hb';obtain⟨t,rfl⟩:=rv;unfold pyEq;exact .tuple_int z t ht' hu
     |str z=>cases hb';obtain⟨t,rfl⟩:=rv;unfold pyEq;exact .tuple_str z t ht' hu
     |_=>cases hb'
    |lst xs=>
     rw[cx]at ha;obtain⟨p,vs,e,h1,h2⟩:=ha;subst e;cases ru;obtain⟨its,_,ht,_⟩:=I.list h1;have ht':s.heap.IsList p its.toArray:=ht.isList;cases b with
     |non=>cases hb';cases rv;unfold pyEq;exact .list_none ht' hu
     |bl z=>cases hb';cases rv;unfold pyEq;exact .list_bool z ht' hu
     |int z=>cases hb';obtain⟨t,rfl⟩:=rv;unfold pyEq;exact .list_int z t ht' hu
     |str z=>cases hb';obtain⟨t,rfl⟩:=rv;unfold pyEq;exact .list_str z t ht' hu
     |_=>cases hb'
    |dct _ _=>exact(fF pa).elim
    |obj _ _ _=>exact(fE pa).elim
    |exc _ _ _=>exact(fO pa).elim
    |_=>cases ha'
 |succ n ih=>
  intro a b x y u v A pa pb hd ha hb ru rv hA;have hu:A.units<VS:=by omega
  have flatWay:(∀xs ys,¬(a=.tup xs/\b=.tup ys))->(∀xs ys,¬(a=.lst xs/\b=.lst ys))->EqAt A s u v (pyEq a b):=by
   intro n1 n2;cases ha':lz a with
   |some x'=>exact ih a b x y u v A pa pb (.inl (ve n ha')) ha hb ru rv ‹0›
   |none=>
    cases hb':lz b with
    |some y'=>exact ih a b x y u v A pa pb (.inr (ve n hb')) ha hb ru rv ‹0›
    |none=>
     cases a with
     |tup xs=>
      cases b with
      |tup ys=>exact absurd ⟨rfl,rfl⟩ (n1 xs ys)
      |lst ys=>
       rw[cv]at ha;obtain⟨p,vs,e,h1,h2⟩:=ha;subst e;rw[cx]at hb;obtain⟨p',vs',e,h1',h2'⟩:=hb;subst e;cases ru;cases rv;obtain⟨its,_,ht,_⟩:=I.tuple (oJ.of h1);obtain⟨its2,_,ht2,_⟩:=I.list h1';unfold pyEq;exact .tuple_list (show s.heap.IsTuple p its.toArray from ht) ht2.isList hu
      |dct _ _=>exact(fF pb).elim
      |obj _ _ _=>exact(fE pb).elim
      |exc _ _ _=>exact(fO pb).elim
      |_=>cases hb'
     |lst xs=>
      cases b with
      |lst ys=>exact absurd ⟨rfl,rfl⟩ (n2 xs ys)
      |tup ys=>
       rw[cx]at ha;obtain⟨p,vs,e,h1,h2⟩:=ha;subst e;rw[cv]at hb;obtain⟨p',vs',e,h1',h2'⟩:=hb;subst e;cases ru;cases rv;obtain⟨its,_,ht,_⟩:=I.list h1;obtain⟨its2,_,ht2,_⟩:=I.tuple (oJ.of h1');unfold pyEq;exact .list_tuple ht.isList (show s.heap.IsTuple p' its2.toArray from ht2) hu
      |dct _ _=>exact(fF pb).elim
      |obj _ _ _=>exact(fE pb).elim
      |exc _ _ _=>exact(fO pb).elim
      |_=>cases hb'
     |dct _ _=>exact(fF pa).elim
     |obj _ _ _=>exact(fE pa).elim
     |exc _ _ _=>exact(fO pa).elim
     |_=>cases ha'
  have items:∀(xs ys:List D)(vs vs':aH)(its its':aN),pI xs=true->pI ys=true->(dB (n+1) (.tup xs)=true\/dB (n+1) (.tup ys)=true)->aL X.K H xs vs->aL X.K H ys vs'->Vals vs its->Vals vs' its'->
    ∀j (h1:j<its.toArray.size) (h2:j<its'.toArray.size),EqAt A.in1 s its.toArray[j] its'.toArray[j] (we xs ys j):=by
   intro xs ys vs vs' its its' px py hdd hx hy rx ry j h1 h2;obtain⟨w1,e1,r1⟩:=mR rx h1;obtain⟨w2,e2,r2⟩:=mR ry h2;obtain⟨d1,f1,g1⟩:=mB hx e1;obtain⟨d2,f2,g2⟩:=mB hy e2;have e3:we xs ys j=pyEq d1 d2:=(by unfold we;rw[f1,f2]);rw[e3];refine ih d1 d2 w1 w2 _ _ A.in1 (kO px _ (RZ f1)) (kO py _ (RZ f2)) ?_ g1 g2 r1 r2 (by rw[in1_units];omega);rcases hdd with hdd|hdd
   ·exact .inl (List.all_eq_true.mp hdd d1 (RZ f1))
   ·exact .inr (List.all_eq_true.mp hdd d2 (RZ f2))
  by_cases hT:∃xs ys,a=.tup xs/\b=.tup ys
  ·obtain⟨xs,ys,rfl,rfl⟩:=hT;have da:=ha;have db:=hb;rw[cv]at ha hb;obtain⟨p,vs,e,h1,h2⟩:=ha;subst e;obtain⟨p',vs',e,h1',h2'⟩:=hb;subst e;cases ru;cases rv;by_cases hp:p=p'
   ·subst hp;have e:=Inv.den_inj I pa pb da db;rw[e,iW];exact EqAt.same _
   ·obtain⟨its,rv1,ht,_⟩:=I.tuple (oJ.of h1);obtain⟨its2,rv2,ht2,_⟩:=I.tuple (oJ.of h1');refine EqAt.of_refs hp ?_;have q:=RcAt.tuples (e:=we xs ys) (show s.heap.IsTuple p its.toArray from ht) (show s.heap.IsTuple p' its2.toArray from ht2) hu (items xs ys vs vs' its its2 (by first|rw[<-dP];exact pa|rw[<-eJ];exact pa) (by first|rw[<-dP];exact pb|rw[<-eJ];exact pb) hd h2 h2' rv1 rv2);have z1:its.toArray.size=xs.length:=(by rw[RE,<-rv1.length,<-h2.length]);have z2:its2.toArray.size=ys.length:=(by rw[RE,<-rv2.length,<-h2'.length]);rw[z1,z2,fT]at q;unfold pyEq;exact q
  ·by_cases hL:∃xs ys,a=.lst xs/\b=.lst ys
   ·obtain⟨xs,ys,rfl,rfl⟩:=hL;have da:=ha;have db:=hb;rw[cx]at ha hb;obtain⟨p,vs,e,h1,h2⟩:=ha;subst e;obtain⟨p',vs',e,h1',h2'⟩:=hb;subst e;cases ru;cases rv;by_cases hp:p=p'
    ·subst hp;have e:=Inv.den_inj I pa pb da db;rw[e,iW];exact EqAt.same _
    ·obtain⟨its,rv1,ht,_⟩:=I.list h1;obtain⟨its2,rv2,ht2,_⟩:=I.list h1';refine EqAt.of_refs hp ?_;have z1:its.toArray.size=xs.length:=(by rw[RE,<-rv1.length,<-h2.length]);have z2:its2.toArray.size=ys.length:=(by rw[RE,<-rv2.length,<-h2'.length]);have er:=fT xs ys;by_cases hz:its.toArray.size=its2.toArray.size
     ·have q:=RcAt.lists (e:=we xs ys) ht.isList ht2.isList hz hu (items xs ys vs vs' its its2 (by first|rw[<-dP];exact pa|rw[<-eJ];exact pa) (by first|rw[<-dP];exact pb|rw[<-eJ];exact pb) hd h2 h2' rv1 rv2);rw[z1]at q;have hz':xs.length=ys.length:=(by omega);rw[<-hz',Sv]at er;simp only[beq_self_eq_true,Sw]at er;rw[er]at q;unfold pyEq;exact q
     ·have hne:(its.toArray.size !=its2.toArray.size)=true:=(by simpa using hz);have q:=RcAt.lists_lengths (A:=A) ht.isList ht2.isList hne hu;have hz':(xs.length==ys.length)=false:=by
       rw[z1,z2]at hz
       simpa using hz
      rw[hz',Sx]at er;unfold pyEq;rw[<-er];exact q
   ·exact flatWay (λxs ys z=>hT ⟨xs,ys,z⟩) λxs ys z=>hL ⟨xs,ys,z⟩
end
end TG
namespace TG
open PySem PySem.Spec L2
variable[az]
open PySem.SeqAt (EqAt RcAt RcNeAt)
section
variable{X:Cx}{pins:aS}{σ:St}{H:Hp}{s:Vh}
theorem pq(I:Inv X pins σ H s){n:Nat}{xs ys:List D}{vs vs':aH}{its its':aN}{A:Vp}(px:pI xs=true)(py:pI ys=true)(hdd:dB (n+1) (.tup xs)=true\/dB (n+1) (.tup ys)=true)(hx:aL X.K H xs vs)(hy:aL X.K H ys vs')(rx:Vals vs its)(ry:Vals vs' its')(hA:A.units+n<VS):
  ∀j (h1:j<its.toArray.size) (h2:j<its'.toArray.size),EqAt A s its.toArray[j] its'.toArray[j] (we xs ys j):=by
 intro j h1 h2;obtain⟨w1,e1,r1⟩:=mR rx h1;obtain⟨w2,e2,r2⟩:=mR ry h2;obtain⟨d1,f1,g1⟩:=mB hx e1;obtain⟨d2,f2,g2⟩:=mB hy e2;have e3:we xs ys j=pyEq d1 d2:=by unfold we;rw[f1,f2]
 rw[e3];refine Bc I n d1 d2 w1 w2 _ _ A (kO px _ (RZ f1)) (kO py _ (RZ f2)) ?_ g1 g2 r1 r2 hA;rcases hdd with hdd|hdd
 ·exact .inl (List.all_eq_true.mp hdd d1 (RZ f1))
 ·exact .inr (List.all_eq_true.mp hdd d2 (RZ f2))
inductive Way(I:Inv X pins σ H s):D->Vc->Prop where
 |non:Way I .non .none
 |bl (b:Bool):Way I (.bl b) (.bool b)
 |int (i:Int) (t:Tok):Way I (.int i) (.int i t)
 |str (x:Str) (t:Tok):Way I (.str x) (.str x t)
 |tup {xs:List D} {p:Ve} {vs:aH} {its:aN} (h:aL X.K H xs vs) (r:Vals vs its) (t:s.heap.IsTuple p its.toArray):Way I (.tup xs) (.ref p)
 |lst {xs:List D} {p:Ve} {vs:aH} {its:aN} (h:aL X.K H xs vs) (r:Vals vs its) (t:s.heap.IsList p its.toArray):Way I (.lst xs) (.ref p)
noncomputable def top:D->Bool
 |.dct _ _=>false
 |.obj _ _ _=>false
 |.exc _ _ _=>false
 |_=>true
theorem fh{d:D}(h:pl d=true):top d=true:=by
 cases d with
 |dct _ _=>exact(fF h).elim
 |obj _ _ _=>exact(fE h).elim
 |exc _ _ _=>exact(fO h).elim
 |_=>rfl
theorem eU(I:Inv X pins σ H s){d:D}{v:V}{u:Vc}(pd:top d=true)(h:cA X.K H d v)(r:RelV v u):Way I d u:=by
 cases d with
 |non=>rw[jq]at h;subst h;cases r;exact .non
 |bl b=>rw[jC]at h;subst h;cases r;exact .bl b
 |int i=>rw[eO]at h;subst h;obtain⟨t,rfl⟩:=r;exact .int i t
 |str x=>rw[eR]at h;subst h;obtain⟨t,rfl⟩:=r;exact .str x t
 |tup xs=>
  rw[cv]at h;obtain⟨p,vs,e,h1,h2⟩:=h;subst e;cases r;obtain⟨its,rv,ht,_⟩:=I.tuple (oJ.of h1);exact .tup h2 rv ht
 |lst xs=>
  rw[cx]at h;obtain⟨p,vs,e,h1,h2⟩:=h;subst e;cases r;obtain⟨its,rv,ht,_⟩:=I.list h1;exact .lst h2 rv ht.isList
 |dct _ _=>cases pd
 |obj _ _ _=>cases pd
 |exc _ _ _=>cases pd
theorem Jl(I:Inv X pins σ H s){n:Nat}{a b:D}{x y:V}{u v:Vc}{A:Vp}(pa:pl a=true)(pb:pl b=true)(hd:dB (n+1) a=true\/dB (n+1) b=true)(ha:cA X.K H a x)(hb:cA X.K H b y)(ru:RelV x u)(rv:RelV y v)(hA:A.units+n+1<VS):RcAt A s u v (pyEq a b):=by
 have hu:A.units<VS:=by omega
 cases eU I (fh pa) ha ru with
 |non=>cases eU I (fh pb) hb rv with
  |non=>unfold pyEq;exact .none_none
  |bl b=>unfold pyEq;exact .none_bool b
  |int i t=>unfold pyEq;exact .none_int i t
  |str x t=>unfold pyEq;exact .none_str x t
  |tup h r t=>unfold pyEq;exact .none_tuple t hu
  |lst h r t=>unfold pyEq;exact .none_list t hu
 |bl z=>cases eU I (fh pb) hb rv with
  |non=>unfold pyEq;exact .bool_none z
  |bl b=>unfold pyEq;exact .bool_bool z b
  |int i t=>unfold pyEq;exact .bool_int z i t
  |str x t=>unfold pyEq;exact .bool_str z x t
  |tup h r t=>unfold pyEq;exact .bool_tuple z t hu
  |lst h r t=>unfold pyEq;exact .bool_list z t hu
 |int z tz=>cases eU I (fh pb) hb rv with
  |non=>unfold pyEq;exact .int_none z tz
  |bl b=>unfold pyEq;exact .int_bool z tz b
  |int i t=>unfold pyEq;exact .int_int z tz i t
  |str x t=>unfold pyEq;exact .int_str z tz x t
  |tup h r t=>unfold pyEq;exact .int_tuple z tz t hu
  |lst h r t=>unfold pyEq;exact .int_list z tz t hu
 |str z tz=>cases eU I (fh pb) hb rv with
  |non=>unfold pyEq;exact .str_none z tz
  |bl b=>unfold pyEq;exact .str_bool z tz b
  |int i t=>unfold pyEq;exact .str_int z tz i t
  |str x t=>unfold pyEq;exact .str_str z tz x t
  |tup h r t=>unfold pyEq;exact .str_tuple z tz t hu
  |lst h r t=>unfold pyEq;exact .str_list z tz t hu
 |@tup xs p vs its h1 r1 t1=>cases eU I (fh pb) hb rv with
  |non=>unfold pyEq;exact .tuple_none t1 hu
  |bl b=>unfold pyEq;exact .tuple_bool b t1 hu
  |int i t=>unfold pyEq;exact .tuple_int i t t1 hu
  |str x t=>unfold pyEq;exact .tuple_str x t t1 hu
  |@tup ys p' vs' its' h2 r2 t2=>
   have q:=RcAt.tuples (e:=we xs ys) t1 t2 hu (pq (A:=A.in1) I (by first|rw[<-dP];exact pa|rw[<-eJ];exact pa) (by first|rw[<-dP];exact pb|rw[<-eJ];exact pb) hd h1 h2 r1 r2 (by rw[in1_units];omega));have z1:its.toArray.size=xs.length:=(by rw[RE,<-r1.length,<-h1.length]);have z2:its'.toArray.size=ys.length:=(by rw[RE,<-r2.length,<-h2.length]);rw[z1,z2,fT]at q;unfold pyEq;exact q
  |lst h r t=>unfold pyEq;exact .tuple_list t1 t hu
 |@lst xs p vs its h1 r1 t1=>cases eU I (fh pb) hb rv with
  |non=>unfold pyEq;exact .list_none t1 hu
  |bl b=>unfold pyEq;exact .list_bool b t1 hu
  |int i t=>unfold pyEq;exact .list_int i t t1 hu
  |str x t=>unfold pyEq;exact .list_str x t t1 hu
  |tup h r t=>unfold pyEq;exact .list_tuple t1 t hu
  |@lst ys p' vs' its' h2 r2 t2=>
   have z1:its.toArray.size=xs.length:=(by rw[RE,<-r1.length,<-h1.length]);have z2:its'.toArray.size=ys.length:=(by rw[RE,<-r2.length,<-h2.length]);have er:=fT xs ys;by_cases hz:its.toArray.size=its'.toArray.size
   ·have q:=RcAt.lists (e:=we xs ys) t1 t2 hz hu (pq (A:=A.in1) I (by first|rw[<-dP];exact pa|rw[<-eJ];exact pa) (by first|rw[<-dP];exact pb|rw[<-eJ];exact pb) hd h1 h2 r1 r2 (by rw[in1_units];omega));rw[z1]at q;have hz':xs.length=ys.length:=(by omega);rw[<-hz',Sv]at er;simp only[beq_self_eq_true,Sw]at er;rw[er]at q;unfold pyEq;exact q
   ·have q:=RcAt.lists_lengths (A:=A) t1 t2 (by simpa using hz) hu;have hz':(xs.length==ys.length)=false:=by
     rw[z1,z2]at hz
     simpa using hz
    rw[hz',Sx]at er;unfold pyEq;rw[<-er];exact q
theorem BM(I:Inv X pins σ H s){n:Nat}{a b:D}{x y:V}{u v:Vc}{A:Vp}(pa:pl a=true)(pb:pl b=true)(hd:dB (n+1) a=true\/dB (n+1) b=true)(ha:cA X.K H a x)(hb:cA X.K H b y)(ru:RelV x u)(rv:RelV y v)(hA:A.units+n+1<VS):RcNeAt A s u v (!pyEq a b):=by
 have hu:A.units<VS:=by omega
 cases eU I (fh pa) ha ru with
 |non=>cases eU I (fh pb) hb rv with
  |non=>unfold pyEq;exact .none_none
  |bl b=>unfold pyEq;exact .none_bool b
  |int i t=>unfold pyEq;exact .none_int i t
  |str x t=>unfold pyEq;exact .none_str x t
  |tup h r t=>unfold pyEq;exact .none_tuple t hu
  |lst h r t=>unfold pyEq;exact .none_list t hu
 |bl z=>cases eU I (fh pb) hb rv with
  |non=>unfold pyEq;exact .bool_none z
  |bl b=>unfold pyEq;exact .bool_bool z b
  |int i t=>unfold pyEq;exact .bool_int z i t
  |str x t=>unfold pyEq;exact .bool_str z x t
  |tup h r t=>unfold pyEq;exact .bool_tuple z t hu
  |lst h r t=>unfold pyEq;exact .bool_list z t hu
 |int z tz=>cases eU I (fh pb) hb rv with
  |non=>unfold pyEq;exact .int_none z tz
  |bl b=>unfold pyEq;exact .int_bool z tz b
  |int i t=>unfold pyEq;exact .int_int z tz i t
  |str x t=>unfold pyEq;exact .int_str z tz x t
  |tup h r t=>unfold pyEq;exact .int_tuple z tz t hu
  |lst h r t=>unfold pyEq;exact .int_list z tz t hu
 |str z tz=>cases eU I (fh pb) hb rv with
  |non=>unfold pyEq;exact .str_none z tz
  |bl b=>unfold pyEq;exact .str_bool z tz b
  |int i t=>unfold pyEq;exact .str_int z tz i t
  |str x t=>unfold pyEq;exact .str_str z tz x t
  |tup h r t=>unfold pyEq;exact .str_tuple z tz t hu
  |lst h r t=>unfold pyEq;exact .str_list z tz t hu
 |@tup xs p vs its h1 r1 t1=>cases eU I (fh pb) hb rv with
  |non=>unfold pyEq;exact .tuple_none t1 hu
  |bl b=>unfold pyEq;exact .tuple_bool b t1 hu
  |int i t=>unfold pyEq;exact .tuple_int i t t1 hu
  |str x t=>unfold pyEq;exact .tuple_str x t t1 hu
  |@tup ys p' vs' its' h2 r2 t2=>
   have q:=RcNeAt.tuples (e:=we xs ys) t1 t2 hu (pq (A:=A.in1) I (by first|rw[<-dP];exact pa|rw[<-eJ];exact pa) (by first|rw[<-dP];exact pb|rw[<-eJ];exact pb) hd h1 h2 r1 r2 (by rw[in1_units];omega));have z1:its.toArray.size=xs.length:=(by rw[RE,<-r1.length,<-h1.length]);have z2:its'.toArray.size=ys.length:=(by rw[RE,<-r2.length,<-h2.length]);rw[z1,z2,fT]at q;unfold pyEq;exact q
  |lst h r t=>unfold pyEq;exact .tuple_list t1 t hu
 |@lst xs p vs its h1 r1 t1=>cases eU I (fh pb) hb rv with
  |non=>unfold pyEq;exact .list_none t1 hu
  |bl b=>unfold pyEq;exact .list_bool b t1 hu
  |int i t=>unfold pyEq;exact .list_int i t t1 hu
  |str x t=>unfold pyEq;exact .list_str x t t1 hu
  |tup h r t=>unfold pyEq;exact .list_tuple t1 t hu
  |@lst ys p' vs' its' h2 r2 t2=>
   have z1:its.toArray.size=xs.length:=(by rw[RE,<-r1.length,<-h1.length]);have z2:its'.toArray.size=ys.length:=(by rw[RE,<-r2.length,<-h2.length]);have er:=fT xs ys;by_cases hz:its.toArray.size=its'.toArray.size
   ·have q:=RcNeAt.lists (e:=we xs ys) t1 t2 hz hu (pq (A:=A.in1) I (by first|rw[<-dP];exact pa|rw[<-eJ];exact pa) (by first|rw[<-dP];exact pb|rw[<-eJ];exact pb) hd h1 h2 r1 r2 (by rw[in1_units];omega));rw[z1]at q;have hz':xs.length=ys.length:=(by omega);rw[<-hz',Sv]at er;simp only[beq_self_eq_true,Sw]at er;rw[er]at q;unfold pyEq;exact q
   ·have q:=RcNeAt.lists_lengths (A:=A) t1 t2 (by simpa using hz) hu;have hz':(xs.length==ys.length)=false:=by
     rw[z1,z2]at hz
     simpa using hz
    rw[hz',Sx]at er;unfold pyEq;rw[<-er];exact q
end
section
variable{X:Cx}
noncomputable def rD(K:T3)(g:D->D->bE):R2:=λx y H Q=>∃O a b d,dI H O/\cA K (hid H O) a x/\cA K (hid H O) b y/\g a b=some d/\∀v H',aT H H'->cA K (hid H' O) d v->Q v H'
theorem bU{K:T3}{g:D->D->bE}:cY K (rD K g) g:=λa b d x y O H Q hO hg ha hb q=>⟨O,a,b,d,hO,ha,hb,hg,q⟩
theorem my{f : Vc -> Vc -> Sem Vc}{g : D -> D -> bE}(h : ∀ (pins : aS) (s : Vh) (σ : St) (H : Hp) (a b d : D) (x y : V) (u v : Vc), Inv X pins σ H s -> cA X.K H a x -> cA X.K H b y -> RelV x u -> RelV y v -> g a b = some d ->
      ∃c,d=.bl c/\∀(Q:bJ),Q (.bool c) s->Vs (model X.prog X.w) X.A (f u v) Q X.xe s):iA X f (rD X.K g):=by
  rintro pins s σ H x y u v Q I rx ry ⟨O,a,b,d,hO,ha,hb,hg,q⟩;obtain⟨c,rfl,hq⟩:=h pins s σ H a b d x y u v I (ha.mono (aJ H O)) (hb.mono (aJ H O)) rx ry hg;exact hq _ ⟨.bl c,H,I,rfl,q _ H (aT.refl H) (jC.mpr rfl)⟩
noncomputable def gEq(a b:D):bE:=if(pl a&&pl b)&&(dB 8 a||dB 8 b)then some (.bl (pyEq a b))else none
noncomputable def qJ(a b:D):bE:=if(pl a&&pl b)&&(dB 8 a||dB 8 b)then some (.bl (!pyEq a b))else none
theorem Dj(hu:X.A.units+64<VS):iA X (Vw .Eq) (rD X.K gEq):=my λpins s σ H a b d x y u v I ha hb ru rv hg=>by
 obtain⟨h1,h2⟩:=bf hg;subst h2;rw[R4,R4,Sy]at h1;exact⟨_,rfl,λQ q=>Jl (n:=7) (A:=X.A) I h1.1.1 h1.1.2 h1.2 ha hb ru rv ‹0› X.prog X.w X.xe Q q⟩
theorem By(hu:X.A.units+64<VS):iA X (Vw .NotEq) (rD X.K qJ):=my λpins s σ H a b d x y u v I ha hb ru rv hg=>by
 obtain⟨h1,h2⟩:=bf hg;subst h2;rw[R4,R4,Sy]at h1;exact⟨_,rfl,λQ q=>BM (n:=7) (A:=X.A) I h1.1.1 h1.1.2 h1.2 ha hb ru rv ‹0› X.prog X.w X.xe Q q⟩
noncomputable def inD(x:D)(ys:List D):Bool:=ys.any λy=>pyEq y x
noncomputable def uJ(x y:D):bE:=match y with
 |.tup ys=>if(pl x&&pI ys)&&dB 8 x then some (.bl (inD x ys))else none
 |.lst ys=>if(pl x&&pI ys)&&dB 8 x then some (.bl (inD x ys))else none
 |_=>none
noncomputable def iz(x y:D):bE:=match y with
 |.tup ys=>if(pl x&&pI ys)&&dB 8 x then some (.bl (!inD x ys))else none
 |.lst ys=>if(pl x&&pI ys)&&dB 8 x then some (.bl (!inD x ys))else none
 |_=>none
open Classical in
theorem yD{pins:aS}{σ:St}{H:Hp}{s:Vh}(I:Inv X pins σ H s){xd:D}{x:V}{u:Vc}{A:Vp}(px:pl xd=true)(hd:dB 8 xd=true)(hx:cA X.K H xd x)(ru:RelV x u)(hA:A.units+8<VS){ys:List D}{vs:aH}{its:aN}(py:pI ys=true)(hy:aL X.K H ys vs)(rv:Vals vs its):
  ∃e:Vc->Bool,(∀y,y∈its.toArray->EqAt A s y u (e y))/\its.toArray.any e=inD xd ys:=by
 let e:Vc->Bool:=λy=>decide (∃d w,pl d=true/\cA X.K H d w/\RelV w y/\pyEq d xd=true)
 have he:∀d w y,pl d=true->cA X.K H d w->RelV w y->e y=pyEq d xd:=λd w y h0 h1 h2=>by
  cases hq:pyEq d xd with
  |true=>exact decide_eq_true ⟨d,w,h0,h1,h2,hq⟩
  |false=>
   refine decide_eq_false ?_;rintro⟨d',w',g0,g1,g2,g3⟩;have ew:=RelV.inj h2 g2;subst ew;rw[Inv.den_inj I h0 g0 h1 g1,g3]at hq;cases hq
 refine⟨e,λy hy'=>?_,?_⟩
 ·have hm:y∈its:=by simpa using hy'
  obtain⟨j,hj,rfl⟩:=Sz hm;obtain⟨w,e1,r1⟩:=mR rv (j:=j) (by simpa using hj);obtain⟨d,f1,g1⟩:=mB hy e1;have r1':RelV w its[j]:=by simpa using r1
  have pd:=kO py _ (RZ f1);rw[he d w _ pd g1 r1'];exact Bc I 8 d xd w x _ u A pd px (.inr hd) g1 hx r1' ru hA
 ·unfold inD;have go:∀(ys:List D)(vs:aH)(its:aN),pI ys=true->aL X.K H ys vs->Vals vs its->its.any e=ys.any λy=>pyEq y xd:=by
   intro ys
   induction ys with
   |nil=>
    intro vs its py h r;rw[cB]at h;subst h;cases r;rfl
   |cons y ys ih=>
    intro vs its py h r;unfold pI at py;rw[R4]at py;rw[aV]at h;obtain⟨v,r',e1,h1,h2⟩:=h;subst e1;cases r with
    |cons q1 q2=>rw[R9,R9,he y v _ py.1 h1 q1,ih _ _ py.2 h2 q2]
  rw[List.any_toArray];exact go ys vs its py hy rv
theorem Bu(hu:X.A.units+64<VS):iA X (Vw .In) (rD X.K uJ):=my λpins s σ H a b d x y u v I ha hb ru rv hg=>by
 cases b with
 |tup ys=>
  obtain⟨h1,h2⟩:=bf hg;subst h2;rw[R4,R4]at h1;rw[cv]at hb;obtain⟨p,vs,e,g1,g2⟩:=hb;subst e;cases rv;obtain⟨its,r,t,_⟩:=I.tuple (oJ.of g1);obtain⟨e,he,ea⟩:=yD (A:=X.A.in1) I h1.1.1 h1.2 ha ru (by rw[in1_units];omega) h1.1.2 g2 r;exact⟨_,rfl,λQ q=>SeqAt.in_tupleAt e (show s.heap.IsTuple p its.toArray from t) he (by rw[ea];exact q)⟩
 |lst ys=>
  obtain⟨h1,h2⟩:=bf hg;subst h2;rw[R4,R4]at h1;rw[cx]at hb;obtain⟨p,vs,e,g1,g2⟩:=hb;subst e;cases rv;obtain⟨its,r,t,_⟩:=I.list g1;obtain⟨e,he,ea⟩:=yD (A:=X.A.in1) I h1.1.1 h1.2 ha ru (by rw[in1_units];omega) h1.1.2 g2 r;exact⟨_,rfl,λQ q=>SeqAt.in_listAt e t.isList he (by rw[ea];exact q)⟩
 |_=>cases hg
theorem sF(hu:X.A.units+64<VS):iA X (Vw .NotIn) (rD X.K iz):=my λpins s σ H a b d x y u v I ha hb ru rv hg=>by
 cases b with
 |tup ys=>
  obtain⟨h1,h2⟩:=bf hg;subst h2;rw[R4,R4]at h1;rw[cv]at hb;obtain⟨p,vs,e,g1,g2⟩:=hb;subst e;cases rv;obtain⟨its,r,t,_⟩:=I.tuple (oJ.of g1);obtain⟨e,he,ea⟩:=yD (A:=X.A.in1) I h1.1.1 h1.2 ha ru (by rw[in1_units];omega) h1.1.2 g2 r;exact⟨_,rfl,λQ q=>SeqAt.notIn_tupleAt e (show s.heap.IsTuple p its.toArray from t) he (by rw[ea];exact q)⟩
 |lst ys=>
  obtain⟨h1,h2⟩:=bf hg;subst h2;rw[R4,R4]at h1;rw[cx]at hb;obtain⟨p,vs,e,g1,g2⟩:=hb;subst e;cases rv;obtain⟨its,r,t,_⟩:=I.list g1;obtain⟨e,he,ea⟩:=yD (A:=X.A.in1) I h1.1.1 h1.2 ha ru (by rw[in1_units];omega) h1.1.2 g2 r;exact⟨_,rfl,λQ q=>SeqAt.notIn_listAt e t.isList he (by rw[ea];exact q)⟩
 |_=>cases hg
noncomputable def Gb(p:Int->Int->D)(a b:D):bE:=match a,b with
 |.int i,.int j=>some (p i j)
 |_,_=>none
noncomputable def P1:=Gb λi j=>.bl (decide (i<j))
noncomputable def wU:=Gb λi j=>.bl (decide (i<=j))
noncomputable def L9:=Gb λi j=>.bl (decide (j<i))
noncomputable def L5:=Gb λi j=>.bl (decide (j<=i))
theorem cS{K:T3}{g:Int->Int->Bool}:cY K (zQ λi j=>.bl (g i j)) (Gb λi j=>.bl (g i j)):=λa b d x y O H Q hO hg ha hb q=>by
 cases a with
 |int i=>
  cases b with
  |int j=>cases hg;exact⟨i,j,eO.mp ha,eO.mp hb,q _ H (aT.refl H) (jC.mpr rfl)⟩
  |_=>cases hg
 |_=>cases hg
theorem qb{K:T3}{g:Int->Int->Int}:cY K (zQ λi j=>.int (g i j)) (Gb λi j=>.int (g i j)):=λa b d x y O H Q hO hg ha hb q=>by
 cases a with
 |int i=>
  cases b with
  |int j=>cases hg;exact⟨i,j,eO.mp ha,eO.mp hb,q _ H (aT.refl H) (eO.mpr rfl)⟩
  |_=>cases hg
 |_=>cases hg
noncomputable def JT(c:Int->Int->Bool)(p:Int->Int->Int)(a b:D):bE:=match a,b with
 |.int i,.int j=>if c i j then some (.int (p i j))else none
 |_,_=>none
theorem jh{K:T3}{C:Int->Int->Prop}{c:Int->Int->Bool}{g:Int->Int->Int}(hc:∀i j,c i j=true->C i j):cY K (rI C λi j=>.int (g i j)) (JT c g):=λa b d x y O H Q hO hg ha hb q=>by
 cases a with
 |int i=>
  cases b with
  |int j=>
   obtain⟨h1,h2⟩:=bf hg;subst h2;exact⟨i,j,eO.mp ha,eO.mp hb,hc i j h1,q _ H (aT.refl H) (eO.mpr rfl)⟩
  |_=>cases hg
 |_=>cases hg
noncomputable def pS:=Gb λi j=>.int (i-j)
noncomputable def iE:=JT (λi j=>decide ((-(2^64)<i/\i<2^64)\/(-(2^64)<j/\j<2^64))) (·*·)
noncomputable def Gq(_ j:Int):Prop:=0<j/\j<10^200
theorem Ci:iA X (VG .FloorDiv) (rI Gq λi j=>.int (i/j)):=Kp λi j _ _ _ _ _ hc q=>by
 have h1:(0:Int)<j:=hc.1;have h2:j<10^200:=hc.2;refine PyProof.Rows.floordiv_int ‹0› (by rw[RD i ‹0›];exact q) (.inl (PyProof.noPylong_of_log2 ?_));have h3:j.natAbs<10^200:=by omega
 rw[Nat.log2_lt ‹0›];exact Sd h3 (by decide +kernel)
noncomputable def dE:=JT (λ_ j=>decide (0<j/\j<10^200)) (·/·)
noncomputable def cP:=JT (λ_ j=>decide (0<j)) (·%·)
noncomputable def qV:=JT (λi j=>decide (0<=j/\j<=1000000/\i.natAbs<2^64)) λi j=>i^j.toNat
theorem Hk{K:T3}:cY K (zQ λi j=>.int (i-j)) pS:=qb
theorem AR{K:T3}:cY K (rI I0 λi j=>.int (i*j)) iE:=jh λi j h=>by have q:=of_decide_eq_true h;exact q
theorem G4{K:T3}:cY K (rI Gq λi j=>.int (i/j)) dE:=jh λi j h=>by have q:=of_decide_eq_true h;exact q
theorem HL{K:T3}:cY K (rI (λ_ j=>0<j) λi j=>.int (i%j)) cP:=jh λ_ _ h=>of_decide_eq_true h
theorem HS{K:T3}:cY K (rI K9 λi j=>.int (i^j.toNat)) qV:=jh λi j h=>by have q:=of_decide_eq_true h;exact q
noncomputable def Lz(K:T3):R2:=λx y H Q=>∃l b xs zs,x=.ref l/\y=.ref b/\mL K H l xs/\mL K H b zs/\xs.length+zs.length<=Vm/\∀p,H p=none->Q (.ref p) (upd H p (.lst (xs++zs)))
theorem Ed:iA X (VG .Add) (Lz X.K):=by
 intro pins s σ H x y v u Q I rx ry h;obtain⟨l,b,xs,zs,rfl,rfl,hH,hB,hz,q⟩:=h;cases rx;cases ry;obtain⟨its,r,t1,_⟩:=I.list hH;obtain⟨its2,r2,t2,_⟩:=I.list hB;obtain⟨⟨c1,d1,dt1,sl1⟩,n1,ho,hc,hd,hdt⟩:=t1;obtain⟨⟨c2,d2,dt2,sl2⟩,n2,ho2,hc2,hd2,hdt2⟩:=t2;simp only at hc hd hdt hc2 hd2 hdt2;subst hc hd hdt hc2 hd2 hdt2;have z1:=r.length;have z2:=r2.length;refine V2 ⟨_,ho,rfl⟩ ⟨_,ho2,rfl⟩ noFill_list_add seq_list_add F.slot_list_add F.entry_list_add (F.args_list_add_2 _ _) (PyProof.Rows.list_addW l b its.toArray its2.toArray n1 n2 none none sl1 sl2 (by rw[RE,RE];omega)) ⟨ho,ho2,?_⟩;have ea:its.toArray++its2.toArray=(its++its2).toArray:=by simp
 rw[ea];exact⟨.ref _,_,I.lnew (t':=s.toks) (r.append r2) (by rw[R0];omega),rfl,q _ I.fresh⟩
noncomputable def IG(K:T3):R2:=λx y H Q=>∃a b xs ys,x=.ref a/\y=.ref b/\oJ K H a xs/\oJ K H b ys/\xs.length+ys.length<=Vm/\
 (xs=[]->Q (.ref b) H)/\(xs≠[]->ys=[]->Q (.ref a) H)/\(xs≠[]->ys≠[]->∀p,H p=none->Q (.ref p) (upd H p (.tup (xs++ys))))
theorem A4:iA X (VG .Add) (IG X.K):=by
 intro pins s σ H x y v u Q I rx ry h;obtain⟨a,b,xs,ys,ex,ey,ha,hb,hz,q0,q1,q2⟩:=h;by_cases hx:xs=[]
 ·subst ex ey;cases rx;cases ry;obtain⟨its,r1,p1,_⟩:=I.tuple ha;obtain⟨its2,r2,p2,_⟩:=I.tuple hb;obtain⟨⟨cls,dd,data,sl⟩,ho,hc,n,hd⟩:=id p1;obtain⟨⟨cls2,dd2,data2,sl2⟩,ho2,hc2,n2,hd2⟩:=id p2;simp only at hc hd hc2 hd2;subst hc hd hc2 hd2;have e:its=[]:=r1.nil_iff.mpr hx;exact V2 ⟨_,ho,rfl⟩ ⟨_,ho2,rfl⟩ V3 V4 F.slot_tuple_add F.entry_tuple_add (F.args_tuple_add_2 _ _)
   (PyProof.Rows.tuple_addW0 a b its.toArray its2.toArray n n2 dd dd2 sl sl2 (by rw[e];rfl)) ⟨ho,ho2,⟨.ref b,H,I,rfl,q0 hx⟩⟩
 ·exact Du pins s σ H x y v u Q I rx ry ⟨a,b,xs,ys,ex,ey,ha,hb,hx,hz,q1 hx,q2 hx⟩
noncomputable def bN(a b:D):bE:=match a,b with
 |.int i,.int j=>some (.int (i+j))
 |.str x,.str y=>if small (x.length+y.length)then some (.str (x++y))else none
 |.lst xs,.lst ys=>if small (xs.length+ys.length)then some (.lst (xs++ys))else none
 |.tup xs,.tup ys=>if small (xs.length+ys.length)then some (.tup (xs++ys))else none
 |_,_=>none
theorem DQ:iA X (VG .Add) (rD X.K bN):=by
 rintro pins s σ H x y u v Q I rx ry ⟨O,a,b,d,hO,ha,hb,hg,q⟩;cases a with
 |int i=>
  cases b with
  |int j=>
   cases hg;exact Hl pins s σ H x y u v Q I rx ry ⟨i,j,eO.mp ha,eO.mp hb,q _ H (aT.refl H) (eO.mpr rfl)⟩
  |_=>cases hg
 |str i=>
  cases b with
  |str j=>
   obtain⟨h1,h2⟩:=bf hg;subst h2;exact wo pins s σ H x y u v Q I rx ry ⟨i,j,eR.mp ha,eR.mp hb,dq h1,q _ H (aT.refl H) (eR.mpr rfl)⟩
  |_=>cases hg
 |lst xs=>
  cases b with
  |lst ys=>
   obtain⟨h1,h2⟩:=bf hg;subst h2;rw[cx]at ha hb;obtain⟨p,vs,ex,g1,g2⟩:=ha;obtain⟨p',vs',ey,g1',g2'⟩:=hb;refine Ed pins s σ H x y u v Q I rx ry ⟨p,p',vs,vs',ex,ey,(aJ H O).seq g1,(aJ H O).seq g1',?_,λr hr=>?_⟩
   ·rw[<-g2.length,<-g2'.length];exact dq h1
   ·exact q _ _ (dr hr _) (gx hO hr (g2.append g2'))
  |_=>cases hg
 |tup xs=>
  cases b with
  |tup ys=>
   obtain⟨h1,h2⟩:=bf hg;subst h2;have da:=ha;have db:=hb;rw[cv]at ha hb;obtain⟨p,vs,ex,g1,g2⟩:=ha;obtain⟨p',vs',ey,g1',g2'⟩:=hb;have l1:=g2.length;have l2:=g2'.length;refine A4 pins s σ H x y u v Q I rx ry ⟨p,p',vs,vs',ex,ey,cj (aJ H O) g1,cj (aJ H O) g1',?_,λz=>?_,λz z'=>?_,λz z' r hr=>?_⟩
   ·rw[<-l1,<-l2];exact dq h1
   ·have e:xs=[]:=List.length_eq_zero_iff.mp (by rw[l1,z];rfl);rw[<-ey];refine q _ H (aT.refl H) ?_;rw[e,SA];exact db
   ·have e:ys=[]:=List.length_eq_zero_iff.mp (by rw[l2,z'];rfl);rw[<-ex];refine q _ H (aT.refl H) ?_;rw[e,RO];exact da
   ·exact q _ _ (dr hr _) (gu hO hr (g2.append g2'))
  |_=>cases hg
 |_=>cases hg
noncomputable def ak(a b:D):bE:=match a,b with
 |.tup xs,.int i=>ot xs i
 |.lst xs,.int i=>ot xs i
 |.str x,.int i=>if small x.length then(ot x.cps.toList i).bind λc=>some (.str ⟨#[c]⟩)else none
 |_,_=>none
theorem yx{K:T3}{H:Hp}{ds:List D}{vs:aH}{i:Int}{d:D}(h:aL K H ds vs)(e:ot ds i=some d):∃v,ot vs i=some v/\cA K H d v:=by
 unfold ot at e ⊢;obtain⟨j,e1,e2⟩:=bind_some e;rw[<-h.length,e1];exact h.get e2
theorem Nz:LU X (rD X.K ak):=by
 rintro value slice pins s σ H x y u v Q I rx ry ⟨O,a,b,d,hO,ha,hb,hg,q⟩ hsub;cases a with
 |tup xs=>
  cases b with
  |int i=>
   rw[cv]at ha;obtain⟨p,vs,ex,g1,g2⟩:=ha;obtain⟨w,e1,e2⟩:=yx g2 hg;refine G9 value slice pins s σ H x y u v Q I rx ry ?_ hsub;exact⟨p,vs,i,w,ex,eO.mp hb,cj (aJ H O) g1,e1,q w H (aT.refl H) e2⟩
  |_=>cases hg
 |lst xs=>
  cases b with
  |int i=>
   rw[cx]at ha;obtain⟨p,vs,ex,g1,g2⟩:=ha;obtain⟨w,e1,e2⟩:=yx g2 hg;refine DK value slice pins s σ H x y u v Q I rx ry ?_ hsub;exact⟨p,vs,i,w,ex,eO.mp hb,(aJ H O).seq g1,e1,q w H (aT.refl H) e2⟩
  |_=>cases hg
 |str z=>
  cases b with
  |int i=>
   have hg':(if small z.length then(ot z.cps.toList i).bind λc=>some (D.str ⟨#[c]⟩)else none)=some d:=hg;cases hs:small z.length with
   |false=>rw[hs]at hg';cases hg'
   |true=>
    rw[hs]at hg';obtain⟨c,e1,e2⟩:=bind_some hg';cases e2;refine Hm value slice pins s σ H x y u v Q I rx ry ?_ hsub;exact⟨z,i,c,eR.mp ha,eO.mp hb,dq hs,e1,q _ H (aT.refl H) (eR.mpr rfl)⟩
  |_=>cases hg
 |_=>cases hg
noncomputable def cutD{α:Type}(xs:List α)(lo hi:dG):List α:=(xs.drop (HT.sIx xs.length 0 lo)).take (HT.sIx xs.length xs.length hi-HT.sIx xs.length 0 lo)
theorem qO{M:Vr}{A:Vp}{E:bJ}{s:Vh}{t:Ve}{items:Array Vc}{Q:Bool->df}(ht:U6 s.heap t items)(h:Q true s):Vs M A (Builtin.Tuple.tupleIsExact (.ref t)) Q E s:=by
 unfold Builtin.Tuple.tupleIsExact;refine VB (Wa ht.typeIs ?_);exact VA h
theorem lx{prog:Vj}{w:Vi}{A:Vp}{E:bJ}{s:Vh}{t sl:Ve}{items:Array Vc}{vl vu:Vc}{lo hi:dG}{Q:bJ}(ht:U6 s.heap t items)(hs:s.heap.IsSliceOf sl vl vu .none)(pl:V5 vl lo)(pu:V5 vu hi)
  (hw:HT.sIx items.size 0 lo=0/\HT.sIx items.size items.size hi=items.size) (h:Q (.ref t) s):Vs (model prog w) A (getItem (.ref t) (.ref sl)) Q E s:=by
 obtain⟨os,hos,hcs,hds⟩:=id hs;have hTs:s.TypeIs (.ref sl) "slice":=⟨os,hos,hcs⟩
 unfold getItem
 try with_reducible refine V7 ?_
 first|refine VB (VA ?_)|skip
 refine VB (wpAny_sequenceKey ht.typeIs (by decide) ?_);refine VB (V8 (name:=Str.ofString "__getitem__") ht.typeIs U4
  (V9 U4 ht.typeIs PyProof.Rows.entry_tuple_getitem ?_ (PyProof.Rows.args_tuple_getitem _ _)))
 show Vs _ _ (Builtin.Tuple.tupleItemsOf (.ref t) >>= _) _ _ s;refine VB (PyProof.Rows.tupleItemsOf_ ht ?_);refine VB (Wa hTs ?_);rw[if_pos (by decide)];refine VB (HT.nA hs pl pu ?_);have hyes:(((HT.sIx items.size 0 lo:Nat):Int)==0&&(1:Int)==1&&(HT.sIx items.size items.size hi-HT.sIx items.size 0 lo)==items.size)=true:=by
  rw[hw.1,hw.2];simp
 show Vs _ _ (if(((HT.sIx items.size 0 lo:Nat):Int)==0&&(1:Int)==1&&(HT.sIx items.size items.size hi-HT.sIx items.size 0 lo)==items.size)=true then _ else _) _ _ s;rw[if_pos hyes];refine VB (qO ht ?_);rw[if_pos rfl]
 first
  |exact VB (Wf (VA ⟨_,rfl,VA h⟩))
  |exact VB (Wf (VB (VA (VA ⟨_,rfl,VA h⟩))))
noncomputable def qj(a:D)(lo hi:dG):bE:=match a with
 |.lst xs=>some (.lst (cutD xs lo hi))
 |.tup xs=>some (.tup (cutD xs lo hi))
 |.str x=>if small x.length then some (.str ⟨(cutD x.cps.toList lo hi).toArray⟩)else none
 |_=>none
theorem FV(v:dG)(d n:Nat)(hd:d<=n):(match v with|none=>(d:Int)|some i=>if(1:Int)>0 then max 0 (min (if i<0 then i+(n:Int)else i) (n:Int))else max (-1) (min (if i<0 then i+(n:Int)else i) ((n:Int)-1)))=((HT.sIx n d v:Nat):Int):=by
 cases v with
 |none=>rfl
 |some i=>
  show(if(1:Int)>0 then max 0 (min (if i<0 then i+(n:Int)else i) (n:Int))else max (-1) (min (if i<0 then i+(n:Int)else i) ((n:Int)-1)))=(((if i<0 then(i+(n:Int)).toNat else min i.toNat n):Nat):Int)
  rw[if_pos (by decide)];by_cases h:i<0
  ·rw[if_pos h,if_pos h];omega
  ·rw[if_neg h,if_neg h];omega
theorem Bz(lo hi:dG)(n:Nat):Builtin.Str.strSliceIndices lo hi 1 n=(List.range (HT.sIx n n hi-HT.sIx n 0 lo)).map λk=>HT.sIx n 0 lo+k:=by
 have e1:=FV lo 0 n (RN _);have e2:=FV hi n n (RB _);have e:Builtin.Str.strSliceIndices lo hi 1 n=sliceRange ((HT.sIx n 0 lo:Nat):Int) ((HT.sIx n n hi:Nat):Int) 1:=by
  rw[<-e1,<-e2];cases lo<;>cases hi<;>rfl
 rw[e];unfold sliceRange;dsimp only;rw[if_pos (by decide:(1:Int)>0)];have e3:(if((HT.sIx n 0 lo:Nat):Int)<((HT.sIx n n hi:Nat):Int)then(((HT.sIx n n hi:Nat):Int)-((HT.sIx n 0 lo:Nat):Int)+1-1)/1 else 0:Int).toNat=HT.sIx n n hi-HT.sIx n 0 lo:=by
  rw[Int.ediv_one];split<;>omega
 rw[e3];refine SD λk _=>?_;omega
theorem AC{α:Type}(l:List α)(a:Nat):∀n:Nat,((List.range n).map λk=>a+k).filterMap (λi=>l[i]?)=(l.drop a).take n
 |0=>by simp
 |n+1=>by
  rw[List.range_succ,SE,List.filterMap_append,AC l a n,List.take_add_one,List.getElem?_drop];cases e:l[a+n]?<;>simp[e]
theorem Ai(x:Str)(lo hi:dG):Txt.slice x lo hi=⟨(cutD x.cps.toList lo hi).toArray⟩:=by
 have hl:x.cps.toList.length=x.length:=by simp[Str.length]
 have pick:(Builtin.Str.strSliceIndices lo hi 1 x.length).filterMap (x.cps[·]?)=cutD x.cps.toList lo hi:=by
  rw[Bz];have q:=AC x.cps.toList (HT.sIx x.length 0 lo) (HT.sIx x.length x.length hi-HT.sIx x.length 0 lo);unfold cutD;rw[hl,<-q];congr 1;funext i;simp
 unfold Txt.slice;split
 ·rename_i h;have h':(Builtin.Str.strSliceIndices lo hi 1 x.length).length=x.length:=by simpa using h
  rw[Bz,RK,SG]at h';have h1:=HT.Jr x.length x.length (RB _) hi;have z1:HT.sIx x.length 0 lo=0\/x.length=0:=by omega
  have e:cutD x.cps.toList lo hi=x.cps.toList:=by
   unfold cutD;rw[hl,h'];rcases z1 with z1|z1
   ·rw[z1,Sn,<-hl,List.take_length]
   ·have:x.cps.toList=[]:=List.length_eq_zero_iff.mp (by rw[hl];exact z1)
    rw[this];simp
  rw[e]
 ·rw[pick]
noncomputable def NR(K:T3):V->dG->dG->Hp->VK->Prop:=λx lo hi H Q=>∃O a d,dI H O/\cA K (hid H O) a x/\qj a lo hi=some d/\∀v H',aT H H'->cA K (hid H' O) d v->Q v H'
theorem aL.cut{K:T3}{H:Hp}{ds:List D}{vs:aH}(h:aL K H ds vs)(lo hi:dG):aL K H (cutD ds lo hi) (uY vs lo hi):=by
 unfold cutD uY;rw[h.length];exact(h.drop _).take _
theorem Nm:Mq X (NR X.K):=by
 rintro pins s σ H x v vl vu lo hi sl Q I rx hs pl pu ⟨O,a,d,hO,ha,hg,q⟩;cases a with
 |lst xs=>
  cases hg;rw[cx]at ha;obtain⟨p,vs,ex,g1,g2⟩:=ha;exact Ff pins s σ H x v vl vu lo hi sl Q I rx hs pl pu ⟨p,vs,ex,(aJ H O).seq g1,λr hr=>q _ _ (dr hr _) (gx hO hr (g2.cut lo hi))⟩
 |tup xs=>
  cases hg;have da:=ha;rw[cv]at ha;obtain⟨p,vs,ex,g1,g2⟩:=ha;by_cases hw:HT.sIx vs.length 0 lo=0/\HT.sIx vs.length vs.length hi=vs.length
  ·subst ex;cases rx;obtain⟨its,r,ht,hz⟩:=I.tuple (cj (aJ H O) g1);have hlen:its.toArray.size=vs.length:=(by rw[RE];exact r.length.symm);refine⟨"tuple",_,PyProof.Rows.slot_tuple_getitem.lookup,ht.typeIs,lx ht hs pl pu (by rw[hlen];exact hw) ⟨.ref p,H,I,rfl,q _ H (aT.refl H) ?_⟩⟩;have e:cutD xs lo hi=xs:=by
    unfold cutD;rw[g2.length,hw.1,hw.2,SH,Sn,<-g2.length,List.take_length]
   rw[e];exact da
  ·exact Ja pins s σ H x v vl vu lo hi sl Q I rx hs pl pu ⟨p,vs,ex,cj (aJ H O) g1,hw,λr hr=>q _ _ (dr hr _) (gu hO hr (g2.cut lo hi))⟩
 |str z=>
  obtain⟨h1,h2⟩:=bf hg;subst h2;rw[eR]at ha;subst ha;obtain⟨t,rfl⟩:=rx;have fin:∀t' tk,EP X pins σ Q (.str (Txt.slice z lo hi) t') {s with toks:=tk}:=λt' tk=>by
   rw[Ai];exact⟨.str _,H,I.tok _,⟨_,rfl⟩,q _ H (aT.refl H) (eR.mpr rfl)⟩
  obtain⟨os,hos,hcs,hds⟩:=id hs;have hz:=dq h1;refine⟨"str",_,F.slot_str_getitem.lookup,typeIs_str _ _ _,?_⟩;cases pl with
  |none=>
   cases pu with
   |none=>exact Wg (l:=none) (u:=none) (st:=none) ⟨os,hos,hcs,hds⟩ rfl (Wh ⟨Rq (Txt.slice_le z _ _) hz,λt' k=>fin t' k⟩)
   |int j tj=>exact Wg (l:=none) (u:=some (j,tj)) (st:=none) ⟨os,hos,hcs,hds⟩ rfl (Wh ⟨Rq (Txt.slice_le z _ _) hz,λt' k=>fin t' k⟩)
  |int i ti=>
   cases pu with
   |none=>exact Wg (l:=some (i,ti)) (u:=none) (st:=none) ⟨os,hos,hcs,hds⟩ rfl (Wh ⟨Rq (Txt.slice_le z _ _) hz,λt' k=>fin t' k⟩)
   |int j tj=>exact Wg (l:=some (i,ti)) (u:=some (j,tj)) (st:=none) ⟨os,hos,hcs,hds⟩ rfl (Wh ⟨Rq (Txt.slice_le z _ _) hz,λt' k=>fin t' k⟩)
 |_=>cases hg
noncomputable def fe:aq->R (dG):=λ_=>.ok none
noncomputable def v6:D->Option (dG)
 |.int i=>some (some i)
 |_=>none
noncomputable def j9(f:FX):aq->R (dG):=λρ=>(f ρ).bind λd=>rO (v6 d)
noncomputable def QM(X:Cx)(F:aq->R dG):TO:=λσ H Q=>∃O ρ,dH X.K O H ρ σ/\fA X σ O H (F ρ) λo=>∀H',aT H H'->Q o H'
noncomputable def FO(X:Cx)(e:Option Vf)(F:aq->R dG):Prop:=PO X e (QM X F)
noncomputable def gU(f:FX)(l h:aq->R dG):FX:=λρ=>(f ρ).bind λa=>(l ρ).bind λlo=>(h ρ).bind λhi=>rO (qj a lo hi)
end
end TG
namespace TG
open PySem PySem.Spec L2
variable[az]
noncomputable def CA(K:T3)(g:List D->bE):aH->Hp->VK->Prop:=λxs H Q=>∃O ds d,dI H O/\aL K (hid H O) ds xs/\g ds=some d/\∀v H',aT H H'->cA K (hid H' O) d v->Q v H'
theorem pY{K:T3}{g:List D->bE}:xV K (CA K g) g:=λds d xs O H Q hO hg hd q=>⟨O,ds,d,hO,hd,hg,q⟩
section
variable{X:Cx}{x:Str}{p pos:Pos}{e:Vf}{es:bu}{id T:String}{g:List D->bE}{f:aW}
noncomputable def gA:List D->bE
 |[.lst xs]=>some (.int xs.length)
 |[.tup xs]=>some (.int xs.length)
 |[.str x]=>if small x.length then some (.int x.length)else none
 |_=>none
theorem zO:eX X (.builtin "len") (CA X.K gA):=by
 rintro pins s σ H xs us Q I r ⟨O,ds,d,hO,hd,hg,q⟩;unfold gA at hg;split at hg
 ·rename_i ys;cases hg;obtain⟨v,ev,h1⟩:=hd.one;rw[cx]at h1;obtain⟨p,vs,ep,g1,g2⟩:=h1;exact mF pins s σ H xs us Q I r ⟨p,vs,by rw[ev,ep],.inl ((aJ H O).seq g1),q _ H (aT.refl H) (eO.mpr (by rw[g2.length]))⟩
 ·rename_i ys;cases hg;obtain⟨v,ev,h1⟩:=hd.one;rw[cv]at h1;obtain⟨p,vs,ep,g1,g2⟩:=h1;exact mF pins s σ H xs us Q I r ⟨p,vs,by rw[ev,ep],.inr (cj (aJ H O) g1),q _ H (aT.refl H) (eO.mpr (by rw[g2.length]))⟩
 ·rename_i z;obtain⟨h1,h2⟩:=bf hg;subst h2;obtain⟨v,ev,h1'⟩:=hd.one;exact tN pins s σ H xs us Q I r ⟨z,by rw[ev,eR.mp h1'],dq h1,q _ H (aT.refl H) (eO.mpr rfl)⟩
 ·cases hg
noncomputable def eI:List D->bE
 |[.lst xs]=>some (.tup xs)
 |[.tup xs]=>some (.tup xs)
 |_=>none
theorem vt:eX X (.type "tuple") (CA X.K eI):=by
 rintro pins s σ H xs us Q I r ⟨O,ds,d,hO,hd,hg,q⟩;unfold eI at hg;split at hg
 ·rename_i ys;cases hg;obtain⟨v,ev,h1⟩:=hd.one;rw[cx]at h1;obtain⟨p,vs,ep,g1,g2⟩:=h1;exact lB pins s σ H xs us Q I r ⟨p,vs,by rw[ev,ep],.inl ⟨(aJ H O).seq g1,λl hl=>q _ _ (dr hl _) (gu hO hl g2)⟩⟩
 ·rename_i ys;cases hg;obtain⟨v,ev,h1⟩:=hd.one;have h0:=h1;rw[cv]at h1;obtain⟨p,vs,ep,g1,g2⟩:=h1;rw[ep]at h0;exact lB pins s σ H xs us Q I r ⟨p,vs,by rw[ev,ep],.inr ⟨cj (aJ H O) g1,q _ H (aT.refl H) h0⟩⟩
 ·cases hg
noncomputable def mm:List D->bE
 |[.int i,.int j]=>some (.int (if j>i then j else i))
 |_=>none
noncomputable def mQ:List D->bE
 |[.int i,.int j]=>some (.int (if j<i then j else i))
 |_=>none
theorem wO(hc:X.calm=true):eX X (.builtin "max") (CA X.K mm):=by
 rintro pins s σ H xs us Q I r ⟨O,ds,d,hO,hd,hg,q⟩;unfold mm at hg;split at hg
 ·rename_i i j;cases hg;obtain⟨v,w,ev,h1,h2⟩:=hd.two;exact zo hc pins s σ H xs us Q I r ⟨i,j,by rw[ev,eO.mp h1,eO.mp h2],q _ H (aT.refl H) (eO.mpr rfl)⟩
 ·cases hg
theorem wq(hc:X.calm=true):eX X (.builtin "min") (CA X.K mQ):=by
 rintro pins s σ H xs us Q I r ⟨O,ds,d,hO,hd,hg,q⟩;unfold mQ at hg;split at hg
 ·rename_i i j;cases hg;obtain⟨v,w,ev,h1,h2⟩:=hd.two;exact yR hc pins s σ H xs us Q I r ⟨i,j,by rw[ev,eO.mp h1,eO.mp h2],q _ H (aT.refl H) (eO.mpr rfl)⟩
 ·cases hg
noncomputable def GW:D->String
 |.non=>"NoneType"
 |.bl _=>"bool"
 |.int _=>"int"
 |.str _=>"str"
 |.tup _=>"tuple"
 |.lst _=>"list"
 |.dct _ _=>"dict"
 |_=>""
noncomputable def Dw(T:String)(d:D):Bool:=match d with
 |.bl _=>T=="bool"||T=="int"
 |.non=>T=="NoneType"
 |.int _=>T=="int"
 |.str _=>T=="str"
 |.tup _=>T=="tuple"
 |.lst _=>T=="list"
 |.dct _ _=>T=="dict"
 |_=>false
noncomputable def y8(K:T3)(T:String):Prop:=∀d:D,top d=true->Uy K (.type (GW d)) (.type T)=some (Dw T d)
noncomputable def Nq(K:T3)(T:String):aH->Hp->VK->Prop:=λxs H Q=>∃O x d,xs=[x,.ty T]/\top d=true/\cA K (hid H O) d x/\Q (.bl (Dw T d)) H
theorem C6(ok:y8 X.K T):eX X (.builtin "isinstance") (Nq X.K T):=by
 rintro pins s σ H xs us Q I r ⟨O,x,d,ex,td,hd,q⟩;subst ex;obtain⟨u,w',rfl,rx,rt⟩:=vals2 r;cases rt;have e:=ok d td;have fin:∀tk,EP X pins σ Q (.bool (Dw T d)) {s with toks:=tk}:=λtk=>⟨.bl _,H,I.tok _,rfl,q⟩
 cases eU I td (hd.mono (aJ H O)) rx with
 |non=>exact Uz PySem.W.kitx_none I.kIn True.intro e (λz=>nomatch z) fin
 |bl b=>exact Uz PySem.W.kitx_bool I.kIn True.intro e (λz=>nomatch z) fin
 |int i t=>exact Uz PySem.W.kitx_int I.kIn True.intro e (λz=>nomatch z) fin
 |str y t=>exact Uz PySem.W.kitx_str I.kIn True.intro e (λz=>nomatch z) fin
 |tup h rv t=>
  obtain⟨o,h1,h2,_⟩:=t;exact Uz PySem.W.kitx_tuple I.kIn ⟨o,h1,h2⟩ e (λz=>nomatch z) fin
 |lst h rv t=>
  obtain⟨o,h1,h2,_⟩:=t;exact Uz PySem.W.kitx_list I.kIn ⟨o,h1,h2⟩ e (λz=>nomatch z) fin
theorem u6:Vo "isinstance"=some (.builtin "isinstance"):=by first|rfl|decide +kernel
noncomputable def Az(T:String)(d:D):bE:=if top d then some (.bl (Dw T d))else none
noncomputable def uS(T:String)(f:FX):FX:=f1 (Az T) f
end
section
variable{X:Cx}{a:Vf}{f:FX}{pos:Pos}
noncomputable def isNon:D->Bool
 |.non=>true
 |_=>false
theorem z7{K:T3}{H:Hp}{d:D}{v:V}(h:cA K H d v):decide (v=.non)=isNon d:=by
 cases d with
 |non=>rw[jq.mp h];rfl
 |bl b=>rw[jC.mp h];rfl
 |int i=>rw[eO.mp h];rfl
 |str x=>rw[eR.mp h];rfl
 |tup xs=>obtain⟨_,_,e,_⟩:=cv.mp h;rw[e];rfl
 |lst xs=>obtain⟨_,_,e,_⟩:=cx.mp h;rw[e];rfl
 |dct _ _=>obtain⟨_,_,e,_⟩:=Mr.mp h;rw[e];rfl
 |obj _ _ _=>obtain⟨_,_,e,_⟩:=MC.mp h;rw[e];rfl
 |exc _ _ _=>obtain⟨_,_,e,_⟩:=Mm.mp h;rw[e];rfl
noncomputable def Ov(d:D):bE:=some (.bl (isNon d))
noncomputable def K6(d:D):bE:=some (.bl (!isNon d))
noncomputable def uV(f:FX):FX:=f1 Ov f
noncomputable def LY(f:FX):FX:=f1 K6 f
theorem xZ:∀σ H Q,tF X (uV f) σ H Q->tF X f σ H λv H'=>Q (.bl (decide (v=.non))) H':=λσ H Q ⟨O,ρ,E,hF⟩=>⟨O,ρ,E,(fA.bind hF).imp λa hF v H1 s1 d1=>by
 obtain⟨d,e,q⟩:=fA.rO hF;cases e;rw[z7 d1];exact q _ H1 s1 (jC.mpr rfl)⟩
end
noncomputable def Walk(K:T3)(Hd:Hp)(J:It)(ds:List D):Prop:=
 ∀(Hn:Hp)(O':aD)(i:Nat),dI Hn O'->aT Hd (hid Hn O')->(∀d,ds[i]?=some d->J.go i Hn/\∀x H2,J.yld i Hn x H2->aT Hn H2/\cA K (hid H2 O') d x)/\(i=ds.length->J.stop i Hn)
noncomputable def M6(X:Cx)(G:aW):TI:=λσ H RR=>∃O ρ,dH X.K O H ρ σ/\fA X σ O H (G ρ) λds=>∀J H1,aT H H1->Walk X.K (hid H1 O) J ds->RR J H1
noncomputable def FI(X:Cx)(tg iter:Vf)(G:aW):Prop:=PI X tg iter (M6 X G)
noncomputable def qf:D->Option (List D)
 |.lst xs=>some xs
 |.tup xs=>some xs
 |_=>none
noncomputable def cE(f:FX):aW:=λρ=>(f ρ).bind λd=>rO (qf d)
section
variable{X:Cx}{tg:Vf}
theorem zk{K:T3}{Hd:Hp}{a:Ve}{ds:List D}{vs:aH}(h:mL K Hd a vs)(g:aL K Hd ds vs):Walk K Hd (MJ K a) ds:=λHn O' i hO s=>
  have s':aT Hd Hn:=s.trans (aJ Hn O')
  ⟨fun d e=>by
    obtain⟨v,ev,dv⟩:=g.get e;refine⟨⟨vs,v,s'.seq h,ev⟩,λx H2 ⟨e2,y⟩=>?_⟩;have q:=y vs (s'.seq h);rw[ev]at q;cases q;subst e2;exact⟨aT.refl _,dv.mono s⟩,
   λhl=>⟨vs,s'.seq h,by rw[<-g.length];exact RL hl.symm⟩⟩
theorem CK{K:T3}{Hd:Hp}{a:Ve}{ds:List D}{vs:aH}(h:Hd a=some (.tup vs))(g:aL K Hd ds vs):Walk K Hd (NK K a) ds:=λHn O' i hO s=>
  have s':aT Hd Hn:=s.trans (aJ Hn O')
  ⟨fun d e=>by
    obtain⟨v,ev,dv⟩:=g.get e;refine⟨⟨vs,v,cj s' h,ev⟩,λx H2 ⟨e2,y⟩=>?_⟩;have q:=y vs (cj s' h);rw[ev]at q;cases q;subst e2;exact⟨aT.refl _,dv.mono s⟩,
   λhl=>⟨vs,cj s' h,by rw[<-g.length];exact RL hl.symm⟩⟩
noncomputable def eV(lo:Int)(n:Nat):List D:=(List.range n).map λ(k:Nat)=>D.int (lo+(k:Int))
theorem qM(lo:Int)(n:Nat):(eV lo n).length=n:=by unfold eV;rw[RK,SG]
theorem qz{K:T3}{Hd:Hp}(lo:Int)(n:Nat):Walk K Hd (J9 lo n) (eV lo n):=λHn O' i hO s=>
  ⟨fun d e=>by
    unfold eV at e;rw[RX]at e;cases hi:(List.range n)[i]? with
    |none=>rw[hi]at e;cases e
    |some k=>
      rw[hi]at e;cases e;have hlt:i<n:=by
        have:=(List.getElem?_eq_some_iff.mp hi).1
        rwa [SG]at this
      have ek:k=i:=by
        rw[SJ hlt]at hi;exact(Option.some.inj hi).symm
      subst ek;exact⟨hlt,λx H2 ⟨e1,e2⟩=>by subst e1;exact⟨aT.refl _,eO.mpr e2⟩⟩,
   λhl=>by rw[qM]at hl;exact RL hl.symm⟩
noncomputable def okR(j:Int):Bool:=decide (-(2^62)<=j/\j<2^62)
noncomputable def mJ:List D->Option (List D)
 |[.int j]=>if okR j then some (eV 0 j.toNat)else none
 |_=>none
noncomputable def mx:List D->Option (List D)
 |[.int i,.int j]=>if okR i&&okR j then some (eV i (j-i).toNat)else none
 |_=>none
noncomputable def gL(f:aW):aW:=λρ=>(f ρ).bind λds=>rO (mJ ds)
noncomputable def mz(f:aW):aW:=λρ=>(f ρ).bind λds=>rO (mx ds)
end
noncomputable abbrev GF:=D->aq->Option aq
noncomputable def L6(K:T3)(g:GF):TG:=λv σ H Q=>∃O ρ d ρ',dH K O H ρ σ/\cA K (hid H O) d v/\g d ρ=some ρ'/\∀σ',dH K O H ρ' σ'->(∀(i:Nat) x,ρ'[i]?=some (some x)->(∀d,x≠.val d)->σ'[i]?=σ[i]?/\ρ[i]?=some (some x))->Q σ' H
noncomputable def FG(X:Cx)(tg:Vf)(g:GF):Prop:=PG X tg (L6 X.K g)
noncomputable def setV(i:Nat)(d:D)(ρ:aq):aq:=ρ.set i (some (.val d))
theorem aZ{α:Type}{l:List α}{i j:Nat}{a b:α}(h:(l.set i a)[j]?=some b):(j=i/\b=a)\/(j≠i/\l[j]?=some b):=by
 by_cases e:j=i
 ·subst e;left;have hj:j<(l.set j a).length:=(List.getElem?_eq_some_iff.mp h).1;rw[SL]at hj;rw[Rx hj]at h;exact⟨rfl,(Option.some.inj h).symm⟩
 ·right;rw[Ry (Ne.symm e)]at h;exact⟨e,h⟩
theorem dH.setV{K:T3}{O:aD}{H:Hp}{ρ:aq}{σ:St}(E:dH K O H ρ σ){i:Nat}{d:D}{v:V}(hi:i<σ.length)(hd:cA K (hid H O) d v):dH K O H (setV i d ρ) (σ.set i (some v)):=
  ⟨fun j d' e=>by
    rcases aZ e with⟨hj,eq⟩|⟨ne,eq⟩
    ·cases eq;rw[hj];exact⟨v,Rx hi,hd⟩
    · obtain⟨w,e1,e2⟩:=E.val j d' eq
      exact⟨w,by rw[Ry (Ne.symm ne)];exact e1,e2⟩,
   λj xs e=>by
    rcases aZ e with⟨_,eq⟩|⟨ne,eq⟩
    ·cases eq
    · obtain⟨a,e1,e2⟩:=E.own j xs eq
      exact⟨a,by rw[Ry (Ne.symm ne)];exact e1,e2⟩,
   λj k xs ys a e1 e2 e3 e4=>by
    rcases aZ e1 with⟨_,q1⟩|⟨ne1,q1⟩
    ·cases q1
    · rcases aZ e2 with⟨_,q2⟩|⟨ne2,q2⟩
      ·cases q2
      · rw[Ry (Ne.symm ne1)]at e3
        rw[Ry (Ne.symm ne2)]at e4;exact E.one j k xs ys a q1 q2 e3 e4,E.all⟩
section
variable{X:Cx}{pos:Pos}
noncomputable def gN(i:Nat):GF:=λd ρ=>some (setV i d ρ)
noncomputable abbrev Do:=List D->aq->Option aq
noncomputable def NN(K:T3)(g:Do):FU:=λvs σ H Q=>∃O ρ ds ρ',dH K O H ρ σ/\aL K (hid H O) ds vs/\g ds ρ=some ρ'/\∀σ',dH K O H ρ' σ'->(∀(i:Nat) x,ρ'[i]?=some (some x)->(∀d,x≠.val d)->σ'[i]?=σ[i]?/\ρ[i]?=some (some x))->Q σ' H
noncomputable def Qd(X:Cx)(ts:bu)(g:Do):Prop:=Lp X ts (NN X.K g)
noncomputable def Gm:Do:=λds ρ=>match ds with
 |[]=>some ρ
 |_=>none
noncomputable def BA(g:GF)(h:Do):Do:=λds ρ=>match ds with
 |d::r=>(g d ρ).bind λρ1=>h r ρ1
 |_=>none
noncomputable def gT(n:Nat)(g:Do):GF:=λd ρ=>match d with
 |.tup xs=>if xs.length=n then g xs ρ else none
 |_=>none
end
noncomputable def Dp{α:Type}(r:R α):R α:=match r with
 |.ok a=>.ok a
 |.error _=>un
theorem C3{α:Type}{r:R α}{a:α}(h:Dp r=.ok a):r=.ok a:=by
 cases r with
 |ok b=>exact h
 |error z=>cases h
noncomputable def inB(ix:gF)(ρ:aq):aq:=ix.map λo=>match o with
 |some i=>match ρ[i]? with
  |some (some (.val d))=>some (.val d)
  |_=>none
 |none=>none
noncomputable def xH(ρ:aq)(g:GF)(C:b8)(Fe:FX):List D->R (List D)
 |[]=>.ok []
 |d::ds=>(rO (g d ρ)).bind λρ1=>(Dp (C ρ1)).bind λc=>if c then(Dp (Fe ρ1)).bind λv=>(xH ρ g C Fe ds).bind λr=>.ok (v::r)else xH ρ g C Fe ds
theorem mh(ρ:aq)(g:GF)(C:b8)(Fe:FX)(d:D)(ds:List D):xH ρ g C Fe (d::ds)=(rO (g d ρ)).bind λρ1=>(Dp (C ρ1)).bind λc=>if c then(Dp (Fe ρ1)).bind λv=>(xH ρ g C Fe ds).bind λr=>.ok (v::r)else xH ρ g C Fe ds:=rfl
noncomputable def iF(ix:gF)(G:aW)(g:GF)(C:b8)(Fe:FX):FX:=λρ=>(G ρ).bind λds=>if small ds.length then Dp ((xH (inB ix ρ) g C Fe ds).bind λr=>.ok (.lst r))else un
noncomputable def Pz(X:Cx)(ifs:bu)(F:b8):Prop:=IB X ifs (Mp X F)
noncomputable def eD:b8:=λ_=>.ok true
theorem mG{ix:gF}{ρ:aq}{j:Nat}{x:S}(e:(inB ix ρ)[j]?=some (some x)):∃i d,ix[j]?=some (some i)/\ρ[i]?=some (some (.val d))/\x=.val d:=by
 unfold inB at e;rw[RX]at e;cases q:ix[j]? with
 |none=>rw[q]at e;cases e
 |some o=>
  rw[q]at e;cases o with
  |none=>cases e
  |some i=>
   have e':(match ρ[i]? with|some (some (.val d))=>some (S.val d)|_=>none)=some x:=Option.some.inj e;split at e'
   ·rename_i d hd;cases e';exact⟨i,d,rfl,hd,rfl⟩
   ·cases e'
theorem E8{K:T3}{O:aD}{H:Hp}{ρ:aq}{σ:St}(ix:gF)(E:dH K O H ρ σ):dH K O H (inB ix ρ) (inBlock ix σ):=by
 refine⟨λj d e=>?_,λj xs e=>?_,λj k xs ys a e=>?_,E.all⟩
 ·obtain⟨i,d',q1,q2,q3⟩:=mG e;cases q3;obtain⟨v,e1,e2⟩:=E.val i d q2;refine⟨v,?_,e2⟩;unfold inBlock;rw[RX,q1];show some ((σ[i]?).getD none)=some (some v);rw[e1];rfl
 ·obtain⟨_,_,_,_,q3⟩:=mG e;cases q3
 ·obtain⟨_,_,_,_,q3⟩:=mG e;cases q3
theorem vQ{H:Hp}{O:aD}{p:Ve}{o:HO}(hp:H p=none):aT (hid H O) (hid (upd H p o) (p::O)):=λb u h=>by
 unfold hid at h ⊢;by_cases hb:b∈O
 ·rw[if_pos hb]at h;cases h
 ·rw[if_neg hb]at h;have ne:=aQ h hp;rw[if_neg (by intro z;rcases List.mem_cons.mp z with z|z;exact ne z;exact hb z),ay ne];exact h
theorem dH.hideNew{K:T3}{O:aD}{H:Hp}{ρ:aq}{σ:St}{p:Ve}{o:HO}(m:ux o)(E:dH K O H ρ σ)(hp:H p=none):dH K (p::O) (upd H p o) ρ σ:=by
 have s:aT (hid H O) (hid (upd H p o) (p::O)):=vQ hp;refine⟨λi d e=>let ⟨v,a,b⟩:=E.val i d e;⟨v,a,b.mono s⟩,λi xs e=>?_,E.one,(E.all.same (dr hp o)).cons aA m⟩;obtain⟨a,e1,e2,e3⟩:=E.own i xs e;obtain⟨u,hu⟩:=e3.some;exact⟨a,e1,Rv _ e2,e3.mono (by rw[ay (aQ hu hp)]) s⟩
theorem dH.rewrite{K:T3}{O:aD}{H:Hp}{ρ:aq}{σ:St}{p:Ve}{o:HO}(m:ux o)(E:dH K O H ρ σ)(hp:p∈O)(hs:∀(i:Nat) xs,ρ[i]?=some (some (.own xs))->σ[i]?≠some (some (.ref p))):dH K O (upd H p o) ρ σ:=by
 have s:aT (hid H O) (hid (upd H p o) O):=jl hp;refine⟨λi d e=>let ⟨v,a,b⟩:=E.val i d e;⟨v,a,b.mono s⟩,λi xs e=>?_,E.one,E.all.upd hp m⟩;obtain⟨a,e1,e2,e3⟩:=E.own i xs e;have ne:a≠p:=λz=>hs i xs e (by rw[<-z];exact e1);exact⟨a,e1,e2,e3.mono (by rw[ay ne]) s⟩
theorem dH.forget{K:T3}{O:aD}{H:Hp}{ρ ρ':aq}{σ:St}(E:dH K O H ρ σ)(h:∀(i:Nat) x,ρ'[i]?=some (some x)->ρ[i]?=some (some x)):dH K O H ρ' σ:=
 ⟨λi d e=>E.val i d (h i _ e),λi xs e=>E.own i xs (h i _ e),λi j xs ys a e1 e2=>E.one i j xs ys a (h i _ e1) (h j _ e2),E.all⟩
noncomputable def Fills(ρ:aq)(g:GF):Prop:=∀d ρ1,g d ρ=some ρ1->∀(i:Nat) x,ρ[i]?=some (some x)->ρ1[i]?=some (some x)
theorem sX(ix:gF)(ρ:aq):∀(i:Nat) xs,(inB ix ρ)[i]?≠some (some (.own xs)):=by
 intro j xs e;obtain⟨_,_,_,_,q3⟩:=mG e;cases q3
theorem Kj{α:Type}{o:Option α}{a:α}(h:rO o=.ok a):o=some a:=by
 cases o with
 |none=>cases h
 |some b=>cases h;rfl
end TG
namespace TG
open PySem PySem.Spec L2
variable[az]
section
variable{X:Cx}{elt tg iter:Vf}{ifs:bu}{scope:Vq}{pos:Pos}{N:au}{ix:gF}{G:aW}{g:GF}{C:b8}{Fe:FX}
structure o8(ix:gF)(g:GF):Prop where
 fill:∀ρ,Fills (inB ix ρ) g
 own:∀ρ d ρ1,g d (inB ix ρ)=some ρ1->∀(i:Nat) xs,ρ1[i]?≠some (some (.own xs))
theorem vM{ρ:aq}{i:Nat}(h:ix[i]?=some none):∀x,(inB ix ρ)[i]?≠some (some x):=λx e=>by
 obtain⟨_,_,q,_⟩:=mG e;rw[h]at q;cases q
theorem kU{i:Nat}(h:ix[i]?=some none):o8 ix (gN i):=
  ⟨fun ρ d ρ1 e j x q=>by
    cases e;by_cases z:j=i
    ·subst z;exact absurd q (vM h x)
    ·unfold setV;rw[Ry (Ne.symm z)];exact q,
   λρ d ρ1 e j xs q=>by
    cases e;rcases aZ q with⟨_,z⟩|⟨_,z⟩
    ·cases z
    ·exact sX ix ρ j xs z⟩
noncomputable def E9(ix:gF)(is:List Nat):Bool:=is.all λi=>match ix[i]? with
 |some none=>true
 |_=>false
noncomputable def uH:List Nat->Do
 |[]=>Gm
 |i::is=>BA (gN i) (uH is)
theorem ye:∀(is:List Nat)(ds:List D)(ρ ρ1:aq),uH is ds ρ=some ρ1->∀(k:Nat)(x:S),ρ1[k]?=some (some x)->(k∈is/\∃d,x=.val d)\/ρ[k]?=some (some x)
 |[],ds,ρ,ρ1,h,k,x,e=>by
  cases ds with
  |nil=>cases h;exact .inr e
  |cons _ _=>cases h
 |i::is,ds,ρ,ρ1,h,k,x,e=>by
  cases ds with
  |nil=>cases h
  |cons d ds=>
   rcases ye is ds (setV i d ρ) ρ1 h k x e with⟨a,b⟩|q
   ·exact .inl ⟨Rv _ a,b⟩
   ·rcases aZ q with⟨z,w⟩|⟨_,w⟩
    ·exact .inl ⟨by rw[z];exact Ru,d,Option.some.inj w⟩
    ·exact .inr w
theorem vh:∀(is:List Nat)(ds:List D)(ρ ρ1:aq),uH is ds ρ=some ρ1->∀(k:Nat)(x:S),k∉is->ρ[k]?=some (some x)->ρ1[k]?=some (some x)
 |[],ds,ρ,ρ1,h,k,x,_,e=>by
  cases ds with
  |nil=>cases h;exact e
  |cons _ _=>cases h
 |i::is,ds,ρ,ρ1,h,k,x,n,e=>by
  cases ds with
  |nil=>cases h
  |cons d ds=>
   refine vh is ds (setV i d ρ) ρ1 h k x (λz=>n (Rv _ z)) ?_;unfold setV;rw[Ry (λz=>n (by rw[z];exact Ru))];exact e
theorem jy{is:List Nat}{n:Nat}(h:E9 ix is=true):o8 ix (gT n (uH is)):=by
 have hn:∀i∈is,ix[i]?=some none:=λi hi=>by
  have:=List.all_eq_true.mp h i hi
  cases e:ix[i]? with
  |none=>rw[e]at this;cases this
  |some o=>cases o with
   |none=>rfl
   |some _=>rw[e]at this;cases this
 have shape:∀ρ d ρ1,gT n (uH is) d ρ=some ρ1->∃ds,uH is ds ρ=some ρ1:=λρ d ρ1 e=>by
  cases d with
  |tup xs=>
   have e':(if xs.length=n then uH is xs ρ else none)=some ρ1:=e;by_cases hl:xs.length=n
   ·rw[if_pos hl]at e';exact⟨xs,e'⟩
   ·rw[if_neg hl]at e';cases e'
  |_=>cases e
 refine⟨λρ d ρ1 e k x q=>?_,λρ d ρ1 e k xs q=>?_⟩
 ·obtain⟨ds,e⟩:=shape _ d ρ1 e;exact vh is ds _ ρ1 e k x (λz=>vM (hn k z) x q) q
 ·obtain⟨ds,e⟩:=shape _ d ρ1 e;rcases ye is ds _ ρ1 e k _ q with⟨_,d,z⟩|z
  ·cases z
  ·exact sX ix ρ k xs z
structure lZ(X:Cx)(scope:Vq)(N:au)(ix:gF):Prop where
 cell:∀y∈scope.names,y.2≠.cell
 kind:scope.kind=.function
 names:∀y∈scope.names,y.2=.local->scope.names.lookup y.1=some .local
 free:∀y∈scope.names,y.2=.free->X.env.scope.names.lookup y.1=some .cell\/X.env.scope.names.lookup y.1=some .free
 ix:uw X.N N scope.names ix=true
noncomputable def kH(XS:qx)(XN:au)(scope:Vq)(N:au)(ix:gF):Bool:=
 scope.names.all (λy=>decide (y.2≠.cell))&&decide (scope.kind=.function)&&scope.names.all (λy=>decide (y.2≠.local)||decide (scope.names.lookup y.1=some .local)) &&
  scope.names.all (λy=>decide (y.2≠.free)||(decide (XS.lookup y.1=some .cell)||decide (XS.lookup y.1=some .free)))&&uw XN N scope.names ix
theorem lZ.of(h:kH X.env.scope.names X.N scope N ix=true):lZ X scope N ix:=by
 unfold kH at h;simp only[R4]at h;obtain⟨⟨⟨⟨h1,h2⟩,h3⟩,h4⟩,h5⟩:=h;refine⟨λy hy=>of_decide_eq_true (List.all_eq_true.mp h1 y hy),of_decide_eq_true h2,λy hy e=>?_,λy hy e=>?_,h5⟩
 ·rcases Sy _ _ ▸ List.all_eq_true.mp h3 y hy with q|q
  ·exact absurd e (of_decide_eq_true q)
  ·exact of_decide_eq_true q
 ·rcases Sy _ _ ▸ List.all_eq_true.mp h4 y hy with q|q
  ·exact absurd e (of_decide_eq_true q)
  ·rcases Sy _ _ ▸ q with q|q
   ·exact .inl (of_decide_eq_true q)
   ·exact .inr (of_decide_eq_true q)
noncomputable def PB(X:Cx)(scope:Vq)(N:au)(tg elt:Vf)(ifs:bu)(g:GF)(C:b8)(Fe:FX):Prop:=
 ∀cl C' fp s H E,FG (cm X scope N cl C' fp s H E) tg g/\Pz (cm X scope N cl C' fp s H E) ifs C/\FE (cm X scope N cl C' fp s H E) elt Fe
noncomputable def H0(K:T3)(F:b8):TT:=λσ H Q=>∃O ρ b,dH K O H ρ σ/\F ρ=.ok b/\∀H',aT H H'->Q b H'
noncomputable def Oe(K:T3)(F:FX):TE:=λσ H Q=>∃O ρ d,dH K O H ρ σ/\F ρ=.ok d/\∀v H',aT H H'->cA K (hid H' O) d v->Q v H'
theorem PB.k(hb:PB X scope N tg elt ifs g C Fe):∀cl C' fp s H E,PG (cm X scope N cl C' fp s H E) tg (L6 X.K g)/\IB (cm X scope N cl C' fp s H E) ifs (H0 X.K C)/\PE (cm X scope N cl C' fp s H E) elt (Oe X.K Fe):=λcl C' fp s H E=>by
 obtain⟨h1,h2,h3⟩:=hb cl C' fp s H E;refine⟨h1,λpins s σ H Q I ⟨O,ρ,b,e1,e2,q⟩=>h2 pins s σ H Q I ⟨O,ρ,e1,by rw[e2];exact q⟩,λpins s σ H Q I ⟨O,ρ,d,e1,e2,q⟩=>h3 pins s σ H Q I ⟨O,ρ,e1,by rw[e2];exact q⟩⟩
noncomputable def MX(X:Cx)(F:FX):TE:=λσ H Q=>∃O ρ,dH X.K O H ρ σ/\fA X σ O H (F ρ) λd=>∀D H' total acc,d=.lst total->aT H H'->H D=none->H' D=some (.lst acc)->aL X.K (hid H' (D::O)) total acc->Q (.ref D) H'
theorem OO{F:FX}:∀σ H Q,tF X F σ H Q->MX X F σ H Q:=λσ H Q ⟨O,ρ,E,hF⟩=>⟨O,ρ,E,hF.imp λd q D H' total acc e sm hD hD' dn=>by
 subst e;have DO:D∉O:=E.all.not hD;exact q _ H' sm (cx.mpr ⟨D,acc,rfl,mL.of (by rw[lH DO];exact hD'),dn.mono (iM λa ha=>Rv _ ha)⟩)⟩
theorem B1(tk:o8 ix g):∀σ H Q,MX X (iF ix G g C Fe) σ H Q->Mi (M6 X G) (L6 X.K g) (H0 X.K C) (Oe X.K Fe) ix σ H Q:=λσ H Q ⟨O,ρ,E,hF⟩=>by
 refine⟨O,ρ,E,(fA.bind hF).imp λds hF=>?_⟩;have hz:small ds.length=true:=by
  cases e:small ds.length with
  |true=>rfl
  |false=>rw[e]at hF;exact hF.elim
 rw[hz,if_pos rfl]at hF;cases hL:xH (inB ix ρ) g C Fe ds with
 |error z=>rw[hL]at hF;exact hF.elim
 |ok total=>
 rw[hL]at hF;have q:∀D H' total' acc,TG.D.lst total=.lst total'->aT H H'->H D=none->H' D=some (.lst acc)->aL X.K (hid H' (D::O)) total' acc->Q (.ref D) H':=hF;have e2:=hL;have hfill:=tk.fill;have hown:=tk.own;refine λJ H1 s1 wk D hD=>?_;have E1:dH X.K (D::O) (upd H1 D (.lst [])) (inB ix ρ) (inBlock ix σ):=((E8 ix E).same s1).hideNew trivial hD;have DO:D∉O:=(E.all.same s1).not hD;refine⟨λi m σ' H'=>m=ds.length-i/\i<=ds.length/\aT H1 H'/\dH X.K (D::O) H' (inB ix ρ) σ'/\∃acc dn rest,H' D=some (.lst acc)/\acc.length<=i/\aL X.K (hid H' (D::O)) dn acc/\xH (inB ix ρ) g C Fe (ds.drop i)=.ok rest/\dn++rest=total,
  ⟨ds.length,by rw[SH],RN _,dr hD _,E1,[],[],total,aA,RB _,cB.mpr rfl,by rw[Sn];exact e2,rfl⟩,?_⟩
 rintro i m σ' H' ⟨rfl,hi,sm,E',acc,dn,rest,hacc,hlen,hdn,hrest,htot⟩;have sH:aT (hid H1 O) (hid H' (D::O)):=λb o h=>by
  have h2:=sm b o (aJ H1 O b o h);unfold hid at h ⊢;by_cases hb:b∈O
  ·rw[if_pos hb]at h;cases h
  ·rw[if_neg hb]at h;have ne:b≠D:=aQ h hD;rw[if_neg (by intro z;rcases List.mem_cons.mp z with z|z;exact ne z;exact hb z)];exact h2
 by_cases hlt:i<ds.length
 ·right;obtain⟨go,yl⟩:=(wk H' (D::O) i E'.all sH).1 ds[i] (by simp[hlt]);refine⟨go,λx H2 y=>?_⟩;obtain⟨s2,dx'⟩:=yl x H2 y;have E':=E'.same s2;have sm:=sm.trans s2;have hacc:=s2 _ _ hacc;have hdn:=hdn.mono (bV s2);rw[SM hlt,mh]at hrest;obtain⟨ρ1,g1,hrest⟩:=pJ hrest;have g1:=Kj g1;obtain⟨c,c1,hrest⟩:=pJ hrest;have c1:=C3 c1;refine⟨D::O,inB ix ρ,ds[i],ρ1,E',dx',g1,λσ3 E3 _=>?_⟩;refine⟨D::O,ρ1,c,E3,c1,λH4 s4=>?_⟩;have E4:=E3.same s4;have back:∀{H5:Hp},dH X.K (D::O) H5 ρ1 σ3->dH X.K (D::O) H5 (inB ix ρ) σ3:=λz=>z.forget λj x e=>hfill ρ _ _ g1 j x e;cases c with
  |true=>
   refine vP ?_;rw[if_pos rfl]at hrest;obtain⟨v,v1,hrest⟩:=pJ hrest;have v1:=C3 v1;obtain⟨r,r1,hrest⟩:=pJ hrest;cases hrest;refine⟨D::O,ρ1,v,E4,v1,λw H5 s5 dw=>?_⟩;have s45:=s4.trans s5;have ha5:H5 D=some (.lst acc):=s45 _ _ hacc;have hzl:ds.length<Vm:=SN (of_decide_eq_true hz) (by decide);refine⟨acc,ha5,by omega,ds.length-(i+1),by omega,rfl,hlt,?_,?_,acc++[w],dn++[v],r,aA,by rw[R0,R6];omega,?_,r1,by rw[SR];exact htot⟩
   ·intro b o h;rw[ay (aQ h hD)];exact s45 _ _ (sm _ _ h)
   ·exact back ((E3.same s45).rewrite trivial Ru λj xs e=>absurd e (hown ρ _ _ g1 j xs))
   ·have s6:aT (hid H5 (D::O)) (hid (upd H5 D (.lst (acc++[w]))) (D::O)):=jl Ru;exact(hdn.mono ((bV s45).trans s6)).snoc (dw.mono s6)
  |false=>
   refine uT ?_;rw[if_neg RG]at hrest;exact⟨ds.length-(i+1),by omega,rfl,hlt,sm.trans s4,back E4,acc,dn,rest,s4 _ _ hacc,by omega,hdn.mono (bV s4),hrest,htot⟩
 ·left;have ei:i=ds.length:=by omega
  subst ei;refine⟨(wk H' (D::O) ds.length E'.all sH).2 rfl,?_⟩;rw[List.drop_length]at hrest;cases hrest;rw[RO]at htot;subst htot;exact q D H' _ acc rfl (s1.trans sm) (s1.free hD) hacc hdn
theorem FR(tk:o8 ix g):∀σ H Q,tF X (iF ix G g C Fe) σ H Q->Mi (M6 X G) (L6 X.K g) (H0 X.K C) (Oe X.K Fe) ix σ H Q:=λσ H Q h=>B1 tk σ H Q (OO σ H Q h)
end
structure Ks where
 nx:aq->R D
 bk:aq->R D:=λ_=>un
 ct:aq->R D:=λ_=>un
 ex:Ex->aq->R D:=λx _=>.error (some x)
noncomputable abbrev bK:=Ks->aq->R D
noncomputable def o7{α:Type}(r:R α)(k:Ks)(ρ:aq)(f:α->R D):R D:=match r with
 |.ok a=>f a
 |.error (some x)=>k.ex x ρ
 |.error none=>un
structure Base(Hb:Hp)(Ob:aD)(H:Hp)(O:aD):Prop where
 same:aT Hb H
 sub:∀a∈Ob,a∈O
 new:∀a∈O,a∈Ob\/Hb a=none
noncomputable def A0(K:T3)(H:Hp)(O:aD):aD->List D->Prop
 |[],[]=>True
 |b::bs,x::xs=>ig K H O b x/\A0 K H O bs xs
 |_,_=>False
noncomputable def yC(K:T3)(H:Hp)(O:aD)(a:Ve)(bs:aD)(d:D):Prop:=
 ∃xs,A0 K H O bs xs/\((d=.lst xs/\H a=some (.lst (bs.map .ref)))\/(∃kvs:List (List Key×V),d=.dct (kvs.map λp=>.tup (p.1.map cI)) xs/\H a=some (.dT kvs)/\kvs.map (·.2)=bs.map .ref)\/(d=.dct [] xs/\bs=[]/\H a=some (.dK [])))
noncomputable def CV(K:T3)(Hb:Hp)(Ob O:aD)(H:Hp)(ρ:aq)(σ:St)(i:Nat)(d:D):Prop:=
 ∃a bs,σ[i]?=some (some (.ref a))/\yC K H O a bs d/\(a::bs).Nodup/\(∀b∈a::bs,b∈O/\Hb b=none/\b∉Ob/\∀(j:Nat) d',ρ[j]?=some (some (.own d'))->σ[j]?≠some (some (.ref b)))/\∀(j:Nat) d',ρ[j]?=some (some (.nest d'))->j=i
theorem A0.mono{K:T3}{H H':Hp}{O O':aD}(s:aT (hid H O) (hid H' O')):∀{bs:aD}{xs:List D},A0 K H O bs xs->(∀b∈bs,(∃o,H b=some o)->H' b=H b)->A0 K H' O' bs xs
 |[],[],_,_=>trivial
 |b::bs,x::xs,h,e=>⟨h.1.mono (e b Ru h.1.some).symm s,A0.mono s h.2 λb' hb=>e b' (Rv _ hb)⟩
 |[],_::_,h,_=>h.elim
 |_::_,[],h,_=>h.elim
theorem A0.some{K:T3}{H:Hp}{O:aD}:∀{bs:aD}{xs:List D},A0 K H O bs xs->∀b∈bs,∃o,H b=some o
 |[],_,_,_,hb=>nomatch hb
 |b::bs,x::xs,h,b',hb=>by
  rcases List.mem_cons.mp hb with z|z
  ·rw[z];exact h.1.some
  ·exact A0.some h.2 b' z
 |_::_,[],h,_,_=>h.elim
theorem yC.some{K:T3}{H:Hp}{O:aD}{a:Ve}{bs:aD}{d:D}(h:yC K H O a bs d):∀b∈a::bs,∃o,H b=some o:=λb hb=>by
 obtain⟨xs,h1,h2⟩:=h;rcases List.mem_cons.mp hb with z|z
 ·rw[z];rcases h2 with⟨_,q⟩|⟨_,_,q,_⟩|⟨_,_,q⟩<;>exact⟨_,q⟩
 ·exact h1.some b z
theorem yC.mono{K:T3}{H H':Hp}{O O':aD}{a:Ve}{bs:aD}{d:D}(h:yC K H O a bs d)(s:aT (hid H O) (hid H' O'))(e:∀b∈a::bs,(∃o,H b=Option.some o)->H' b=H b):yC K H' O' a bs d:=by
 have ea:=e a Ru (h.some a Ru);obtain⟨xs,h1,h2⟩:=h;refine⟨xs,h1.mono s λb hb=>e b (Rv _ hb),?_⟩;rw[ea];exact h2
theorem CV.to{K:T3}{Hb Hb':Hp}{Ob O O':aD}{H H':Hp}{ρ ρ':aq}{σ σ':St}{i:Nat}{d:D}(h:CV K Hb Ob O H ρ σ i d)(hσ:σ'[i]?=σ[i]?)(s:aT (hid H O) (hid H' O'))
  (k:∀b,b∈O->Hb b=none->b∉Ob->(∀(j:Nat) d',ρ[j]?=some (some (.own d'))->σ[j]?≠some (some (.ref b)))->(∃o,H b=some o)->H' b=H b/\b∈O'/\Hb' b=none/\∀(j:Nat) d',ρ'[j]?=some (some (.own d'))->σ'[j]?≠some (some (.ref b)))
  (n:∀(j:Nat) d',ρ'[j]?=some (some (.nest d'))->∃d2,ρ[j]?=some (some (.nest d2))):CV K Hb' Ob O' H' ρ' σ' i d:=by
 obtain⟨a,bs,h1,h2,h3,h4,h5⟩:=h;refine⟨a,bs,hσ.trans h1,h2.mono s λb hb ho=>?_,h3,λb hb=>?_,λj d' q=>?_⟩
 ·obtain⟨q1,q2,q3,q4⟩:=h4 b hb;exact(k b q1 q2 q3 q4 ho).1
 ·obtain⟨q1,q2,q3,q4⟩:=h4 b hb;obtain⟨_,w2,w3,w4⟩:=k b q1 q2 q3 q4 (h2.some b hb);exact⟨w2,w3,q3,w4⟩
 ·obtain⟨d2,q⟩:=n j d' q;exact h5 j d2 q
structure eY(K:T3)(Hb:Hp)(Ob O:aD)(H:Hp)(ρ:aq)(σ:St):Prop where
 env:dH K O H ρ σ
 base:Base Hb Ob H O
 mine:∀(i:Nat) xs a,ρ[i]?=some (some (.own xs))->σ[i]?=some (some (.ref a))->Hb a=none/\a∉Ob
 nst:∀(i:Nat) d,ρ[i]?=some (some (.nest d))->CV K Hb Ob O H ρ σ i d
theorem Base.same'{Hb:Hp}{Ob:aD}{H H':Hp}{O:aD}(b:Base Hb Ob H O)(s:aT H H'):Base Hb Ob H' O:=⟨b.same.trans s,b.sub,b.new⟩
theorem eY.same{K:T3}{Hb:Hp}{Ob O:aD}{H H':Hp}{ρ:aq}{σ:St}(h:eY K Hb Ob O H ρ σ)(s:aT H H'):eY K Hb Ob O H' ρ σ:=⟨h.env.same s,h.base.same' s,h.mine,λi d q=>(h.nst i d q).to rfl (bV s) (λb q1 q2 q3 q4 ⟨o,ho⟩=>⟨by rw[ho,s _ _ ho],q1,q2,q4⟩) λj d' z=>⟨d',z⟩⟩
theorem eY.after{K:T3}{Hb:Hp}{Ob O:aD}{H:Hp}{ρ ρ':aq}{σ σ':St}(S:eY K Hb Ob O H ρ σ)(E':dH K O H ρ' σ')(own:∀(i:Nat) x,ρ'[i]?=some (some x)->(∀d,x≠.val d)->σ'[i]?=σ[i]?/\ρ[i]?=some (some x)):eY K Hb Ob O H ρ' σ':=
 ⟨E',S.base,fun i xs a q1 q2=>by
  obtain⟨w1,w2⟩:=own i _ q1 (λ_ z=>nomatch z);rw[w1]at q2;exact S.mine i xs a w2 q2,λi d q=>by
  obtain⟨w1,w2⟩:=own i _ q (λ_ z=>nomatch z);refine(S.nst i d w2).to w1 (λ_ _ z=>z) (λb q1 q2 q3 q4 _=>⟨rfl,q1,q2,λl d' w=>?_⟩) λl d' w=>⟨d',(own l _ w (λ_ z=>nomatch z)).2⟩
  obtain⟨z1,z2⟩:=own l _ w (λ_ z=>nomatch z);rw[z1];exact q4 l d' z2⟩
structure Mx(X:Cx)(Hb:Hp)(Ob:aD)(E:Ends)(k:Ks)(r:R D):Prop where
 ne:r≠un
 nx:∀O ρ σ H,eY X.K Hb Ob O H ρ σ->k.nx ρ=r->E.nx σ H
 bk:∀O ρ σ H,eY X.K Hb Ob O H ρ σ->k.bk ρ=r->E.bk σ H
 ct:∀O ρ σ H,eY X.K Hb Ob O H ρ σ->k.ct ρ=r->E.ct σ H
 rt:∀d O v H,r=.ok d->Base Hb Ob H O->cA X.K (hid H O) d v->E.rt v H
 ex:∀O ρ σ H x,eY X.K Hb Ob O H ρ σ->k.ex x ρ=r->HP X σ O H x
noncomputable def Nv(X:Cx)(Hb:Hp)(Ob:aD)(F:bK):TS:=λE σ H=>∃O ρ k r,eY X.K Hb Ob O H ρ σ/\F k ρ=r/\Mx X Hb Ob E k r
noncomputable def FS(X:Cx)(st:Vg)(F:bK):Prop:=∀Hb Ob,PS X st (Nv X Hb Ob F)
noncomputable def Ml(X:Cx)(st:eK)(F:bK):Prop:=∀Hb Ob,uG X st (Nv X Hb Ob F)
theorem fA.on{X:Cx}{Hb:Hp}{Ob O:aD}{H:Hp}{ρ:aq}{σ:St}{E:Ends}{k:Ks}{r:R D}{α:Type}{fr:R α}{G:α->R D}{Q:α->Prop}(h:o7 fr k ρ G=r)(hk:Mx X Hb Ob E k r)(S:eY X.K Hb Ob O H ρ σ)(q:∀a,G a=r->Q a):fA X σ O H fr Q:=by
 match fr,h with
 |.ok a,h=>exact q a h
 |.error (some x),h=>exact hk.ex O ρ σ H x S h
 |.error none,h=>exact absurd h.symm hk.ne
section
variable{X:Cx}{st:Vg}{rest body:eK}{pos:Pos}
noncomputable def bi:bK:=λk ρ=>k.nx ρ
noncomputable def av(F1 F2:bK):bK:=λk ρ=>F1 {k with nx:=F2 k} ρ
noncomputable def aI(f:FX):bK:=λk ρ=>o7 (f ρ) k ρ .ok
noncomputable def KG:bK:=λ_ _=>.ok .non
noncomputable def qt(f:FX):bK:=λk ρ=>o7 (f ρ) k ρ λ_=>k.nx ρ
noncomputable def eN(c:b8)(A B:bK):bK:=λk ρ=>o7 (c ρ) k ρ λb=>if b then A k ρ else B k ρ
noncomputable def aO(i:Nat)(f:FX):bK:=λk ρ=>o7 (f ρ) k ρ λd=>k.nx (setV i d ρ)
theorem eY.setV{K:T3}{Hb:Hp}{Ob O:aD}{H:Hp}{ρ:aq}{σ:St}(E:eY K Hb Ob O H ρ σ){i:Nat}{d:D}{v:V}(hi:i<σ.length)(hd:cA K (hid H O) d v):eY K Hb Ob O H (setV i d ρ) (σ.set i (some v)):=
  ⟨E.env.setV hi hd,E.base,fun j xs a e1 e2=>by
    rcases aZ e1 with⟨_,q⟩|⟨ne,q⟩
    ·cases q
    · rw[Ry (Ne.symm ne)]at e2
      exact E.mine j xs a q e2,
   λj dn e=>by
    rcases aZ e with⟨_,q⟩|⟨ne,q⟩
    ·cases q
    · refine(E.nst j dn q).to (Ry (Ne.symm ne)) (λ_ _ z=>z) (λb q1 q2 q3 q4 _=>⟨rfl,q1,q2,λl d' w=>?_⟩) λl d' w=>?_
      · rcases aZ w with⟨_,z⟩|⟨nl,z⟩
        ·cases z
        ·rw[Ry (Ne.symm nl)];exact q4 l d' z
      · rcases aZ w with⟨_,z⟩|⟨_,z⟩
        ·cases z
        ·exact⟨d',z⟩⟩
theorem sO{f:FX}{i:Nat}(hi:i<X.N.length)(h:PS X st (Cm (tF X f) (sK i))):FS X st (aO i f):=λHb Ob pins s σ H E I ⟨O,ρ,k,r,S,hF,hk⟩=>
 h pins s σ H E I ⟨O,ρ,S.env,fA.on hF hk S λd e v H1 s1 d1=>hk.nx O _ _ H1 ((S.same s1).setV (by rw[I.len];exact hi) d1) e⟩
noncomputable def DN(f:FX)(g:GF):bK:=λk ρ=>o7 (f ρ) k ρ λd=>(rO (g d ρ)).bind k.nx
noncomputable def kill(is:List Nat)(ρ:aq):aq:=is.foldl (λρ i=>ρ.set i none) ρ
theorem jc:∀(is:List Nat)(ρ:aq)(i:Nat)(x:S),(kill is ρ)[i]?=some (some x)->ρ[i]?=some (some x)
 |[],ρ,i,x,e=>e
 |j::is,ρ,i,x,e=>by
  rcases aZ (jc is (ρ.set j none) i x e)with⟨_,q⟩|⟨_,q⟩
  ·cases q
  ·exact q
theorem eY.kill{K:T3}{Hb:Hp}{Ob O:aD}{H:Hp}{ρ:aq}{σ:St}(E:eY K Hb Ob O H ρ σ)(is:List Nat):eY K Hb Ob O H (kill is ρ) σ:=
 ⟨E.env.forget (jc is ρ),E.base,λi xs a e1 e2=>E.mine i xs a (jc is ρ i _ e1) e2,λi d q=>(E.nst i d (jc is ρ i _ q)).to rfl (λ_ _ z=>z) (λb q1 q2 q3 q4 _=>⟨rfl,q1,q2,λl d' w=>q4 l d' (jc is ρ l _ w)⟩) λl d' w=>⟨d',jc is ρ l _ w⟩⟩
noncomputable def g7(is:List Nat)(F:bK):bK:=λk ρ=>F k (kill is ρ)
end
noncomputable def eT(g:GF)(B:bK)(k:Ks):List D->aq->R D
 |[],ρ=>k.nx ρ
 |d::ds,ρ=>(rO (g d ρ)).bind λρ1=>B ⟨eT g B k ds,k.nx,eT g B k ds,k.ex⟩ ρ1
noncomputable def qc(G:aW)(g:GF)(B:bK):bK:=λk ρ=>o7 (G ρ) k ρ λds=>eT g B k ds ρ
noncomputable def lb(H:Hp)(O Ob:aD):Hp:=λb=>if b∈O/\b∉Ob then none else H b
theorem tQ{H:Hp}{O Ob:aD}{b:Ve}(h1:b∈O)(h2:b∉Ob):lb H O Ob b=none:=by unfold lb;rw[if_pos ⟨h1,h2⟩]
theorem DC{H:Hp}{O Ob:aD}{b:Ve}{o:HO}(h:lb H O Ob b=some o):H b=some o/\¬(b∈O/\b∉Ob):=by
 unfold lb at h;split at h
 ·cases h
 ·rename_i n;exact⟨h,n⟩
theorem AH{H:Hp}{O Ob:aD}{b:Ve}{o:HO}(h:H b=some o)(n:¬(b∈O/\b∉Ob)):lb H O Ob b=some o:=by unfold lb;rw[if_neg n];exact h
theorem Base.loop{Hb:Hp}{Ob:aD}{H:Hp}{O:aD}(b:Base Hb Ob H O):Base (lb H O Ob) Ob H O:=
 ⟨fun c o h=>(DC h).1,b.sub,fun a ha=>by
  by_cases h:a∈Ob
  ·exact .inl h
  ·exact .inr (tQ ha h)⟩
theorem Base.back{Hb:Hp}{Ob:aD}{H H':Hp}{O O':aD}(b:Base Hb Ob H O)(b':Base (lb H O Ob) Ob H' O'):Base Hb Ob H' O':=by
 have up:aT Hb (lb H O Ob):=λc o h=>AH (b.same c o h) λ⟨z1,z2⟩=>by
  rcases b.new c z1 with z|z
  ·exact z2 z
  ·rw[z]at h;cases h
 exact⟨up.trans b'.same,b'.sub,λa ha=>(b'.new a ha).imp id up.free⟩
theorem eY.loop{K:T3}{Hb:Hp}{Ob O:aD}{H:Hp}{ρ:aq}{σ:St}(E:eY K Hb Ob O H ρ σ):eY K (lb H O Ob) Ob O H ρ σ:=
 ⟨E.env,E.base.loop,fun i xs a e1 e2=>by
  obtain⟨_,n⟩:=E.mine i xs a e1 e2;obtain⟨a',e3,e4,_⟩:=E.env.own i xs e1;rw[e2]at e3;cases e3;exact⟨tQ e4 n,n⟩,λi d q=>(E.nst i d q).to rfl (λ_ _ z=>z) (λb q1 q2 q3 q4 _=>⟨rfl,q1,tQ q1 q3,q4⟩) λl d' w=>⟨d',w⟩⟩
theorem eY.back{K:T3}{Hb:Hp}{Ob O O':aD}{H H':Hp}{ρ':aq}{σ':St}(b:Base Hb Ob H O)(E:eY K (lb H O Ob) Ob O' H' ρ' σ'):eY K Hb Ob O' H' ρ' σ':=
 have up:aT Hb (lb H O Ob):=λc o h=>AH (b.same c o h) λ⟨z1,z2⟩=>by
  rcases b.new c z1 with z|z
  ·exact z2 z
  ·rw[z]at h;cases h
 ⟨E.env,b.back E.base,fun i xs a e1 e2=>by
  obtain⟨z,n⟩:=E.mine i xs a e1 e2;exact⟨up.free z,n⟩,λi d q=>(E.nst i d q).to rfl (λ_ _ z=>z) (λb q1 q2 q3 q4 _=>⟨rfl,q1,up.free q2,q4⟩) λl d' w=>⟨d',w⟩⟩
theorem C5{Hb:Hp}{Ob O O':aD}{H H':Hp}(b:Base Hb Ob H O)(b':Base (lb H O Ob) Ob H' O'):aT (hid H O) (hid H' O'):=λc o h=>by
 unfold hid at h ⊢;by_cases hc:c∈O
 ·rw[if_pos hc]at h;cases h
 ·rw[if_neg hc]at h;have h1:lb H O Ob c=some o:=AH h λz=>hc z.1;rw[if_neg]
  ·exact b'.same _ _ h1
  ·intro z;rcases b'.new c z with z|z
   ·exact hc (b.sub c z)
   ·rw[h1]at z;cases z
theorem Mx.loop{X:Cx}{Hb:Hp}{Ob O:aD}{H:Hp}{E E':Ends}{k k':Ks}{r:R D}(hk:Mx X Hb Ob E k r)(b:Base Hb Ob H O)(hn:∀O' ρ' σ' H',eY X.K (lb H O Ob) Ob O' H' ρ' σ'->k'.nx ρ'=r->E'.nx σ' H')(hc:∀O' ρ' σ' H',eY X.K (lb H O Ob) Ob O' H' ρ' σ'->k'.ct ρ'=r->E'.ct σ' H')
    (eb:k'.bk=k.nx) (ee:k'.ex=k.ex) (Eb:E'.bk=E.nx) (Er:E'.rt=E.rt):Mx X (lb H O Ob) Ob E' k' r:=
  ⟨hk.ne,hn,fun O' ρ' σ' H' S e=>by rw [Eb]; exact hk.nx O' ρ' σ' H' (S.back b) (by rw [<- eb]; exact e),hc,fun d O' v H' e b' dv=>by rw [Er]; exact hk.rt d O' v H' e (b.back b') dv,
   λO' ρ' σ' H' x S e=>hk.ex O' ρ' σ' H' x (S.back b) (by rw[<-ee];exact e)⟩
section
variable{X:Cx}{st:Vg}{rest body:eK}{pos:Pos}
end
end TG
namespace TG
open PySem PySem.Spec L2
variable[az]
theorem eY.setO{K:T3}{Hb:Hp}{Ob O:aD}{H:Hp}{ρ:aq}{σ:St}(E:eY K Hb Ob O H ρ σ){i:Nat}{d d':D}{a:Ve}{o:HO}(hi:ρ[i]?=some (some (.own d)))(ha:σ[i]?=some (some (.ref a)))(m:ux o)(new:ig K (upd H a o) O a d'):
  eY K Hb Ob O (upd H a o) (ρ.set i (some (.own d'))) σ:=by
 obtain⟨a',ha',haO,hat⟩:=E.env.own i d hi;rw[ha]at ha';cases ha';obtain⟨m1,m2⟩:=E.mine i d a hi ha;have s:aT (hid H O) (hid (upd H a o) O):=jl haO;have own:∀(j:Nat) ys,(ρ.set i (some (.own d')))[j]?=some (some (.own ys))->∃ys',ρ[j]?=some (some (.own ys')):=λj ys q=>by
  rcases aZ q with⟨hj,_⟩|⟨_,q⟩
  ·rw[hj];exact⟨d,hi⟩
  ·exact⟨ys,q⟩
 refine⟨⟨λj d1 e=>?_,λj ys e=>?_,λj l ys zs b q1 q2 q3 q4=>?_,E.env.all.upd haO m⟩,⟨λb u h=>?_,E.base.sub,E.base.new⟩,λj ys b q1 q2=>?_,λj dn q=>?_⟩
 ·rcases aZ e with⟨_,q⟩|⟨ne,q⟩
  ·cases q
  ·obtain⟨w,q1,q2⟩:=E.env.val j d1 q;exact⟨w,q1,q2.mono s⟩
 ·rcases aZ e with⟨hj,q⟩|⟨ne,q⟩
  ·cases q;rw[hj];exact⟨a,ha,haO,new⟩
  ·obtain⟨b,q1,q2,q3⟩:=E.env.own j ys q;have nb:b≠a:=λz=>ne (E.env.one j i ys d a q hi (by rw[<-z];exact q1) ha);exact⟨b,q1,q2,q3.mono (by rw[ay nb]) s⟩
 ·obtain⟨_,q1'⟩:=own j ys q1;obtain⟨_,q2'⟩:=own l zs q2;exact E.env.one j l _ _ b q1' q2' q3 q4
 ·have nb:b≠a:=λz=>by rw[z,m1]at h;cases h
  rw[ay nb];exact E.base.same b u h
 ·obtain⟨ys',q⟩:=own j ys q1;exact E.mine j ys' b q q2
 ·have q:ρ[j]?=some (some (.nest dn)):=by
   rcases aZ q with⟨_,z⟩|⟨_,z⟩
   ·cases z
   ·exact z
  refine(E.nst j dn q).to rfl s (λb q1 q2 q3 q4 _=>⟨ay λz=>q4 i d hi (by rw[z];exact ha),q1,q2,λl d1 w=>?_⟩) λl d1 w=>?_
  ·obtain⟨_,w'⟩:=own l d1 w;exact q4 l _ w'
  ·rcases aZ w with⟨_,z⟩|⟨_,z⟩
   ·cases z
   ·exact⟨d1,z⟩
theorem eY.setNew{K:T3}{Hb:Hp}{Ob O:aD}{H H':Hp}{ρ:aq}{σ:St}(E:eY K Hb Ob O H ρ σ){i:Nat}{d:D}{p:Ve}(hi:i<σ.length)(sm:aT H H')(hp:H p=none)(m:∃o,H' p=some o/\ux o)(new:ig K H' (p::O) p d):
  eY K Hb Ob (p::O) H' (ρ.set i (some (.own d))) (σ.set i (some (.ref p))):=by
 have hpO:p∉O:=E.env.all.not hp;have s:aT (hid H O) (hid H' (p::O)):=λb o h=>by
  unfold hid at h ⊢;by_cases hb:b∈O
  ·rw[if_pos hb]at h;cases h
  ·rw[if_neg hb]at h;have ne:=aQ h hp;rw[if_neg (by intro z;rcases List.mem_cons.mp z with z|z;exact ne z;exact hb z)];exact sm _ _ h
 have other:∀(j:Nat) xs,ρ[j]?=some (some (.own xs))->σ[j]?≠some (some (.ref p)):=λj xs e z=>by
  obtain⟨a,e1,e2,e3⟩:=E.env.own j xs e;rw[z]at e1;cases e1;obtain⟨o,e3⟩:=e3.some;rw[hp]at e3;cases e3
 refine⟨⟨λj d' e=>?_,λj xs e=>?_,λj k xs ys a e1 e2 e3 e4=>?_,⟨(E.env.all.same sm).1,λa ha=>?_⟩⟩,⟨E.base.same.trans sm,λa ha=>Rv _ (E.base.sub a ha),λa ha=>?_⟩,λj xs a e1 e2=>?_,λj dn e=>?_⟩
 ·rcases aZ e with⟨_,q⟩|⟨ne,q⟩
  ·cases q
  ·obtain⟨v,q1,q2⟩:=E.env.val j d' q;exact⟨v,by rw[Ry (Ne.symm ne)];exact q1,q2.mono s⟩
 ·rcases aZ e with⟨hj,q⟩|⟨ne,q⟩
  ·cases q;rw[hj];exact⟨p,Rx hi,Ru,new⟩
  ·obtain⟨a,q1,q2,q3⟩:=E.env.own j xs q;obtain⟨o,ho⟩:=q3.some;exact⟨a,by rw[Ry (Ne.symm ne)];exact q1,Rv _ q2,q3.mono (tJ sm ho) s⟩
 ·rcases aZ e1 with⟨hj,q1⟩|⟨nj,q1⟩
  ·rcases aZ e2 with⟨hk,q2⟩|⟨nk,q2⟩
   ·exact hj.trans hk.symm
   ·rw[hj,Rx hi]at e3;cases e3;rw[Ry (Ne.symm nk)]at e4;exact absurd e4 (other k ys q2)
  ·rcases aZ e2 with⟨hk,q2⟩|⟨nk,q2⟩
   ·rw[hk,Rx hi]at e4;cases e4;rw[Ry (Ne.symm nj)]at e3;exact absurd e3 (other j xs q1)
   ·rw[Ry (Ne.symm nj)]at e3;rw[Ry (Ne.symm nk)]at e4;exact E.env.one j k xs ys a q1 q2 e3 e4
 ·rcases List.mem_cons.mp ha with rfl|ha
  ·exact m
  ·exact(E.env.all.same sm).2 a ha
 ·rcases List.mem_cons.mp ha with rfl|ha
  ·exact .inr (E.base.same.free hp)
  ·exact E.base.new a ha
 ·rcases aZ e1 with⟨hj,q1⟩|⟨nj,q1⟩
  ·rw[hj,Rx hi]at e2;cases e2;exact⟨E.base.same.free hp,λz=>hpO (E.base.sub p z)⟩
  ·rw[Ry (Ne.symm nj)]at e2;exact E.mine j xs a q1 e2
 ·rcases aZ e with⟨_,q⟩|⟨ne,q⟩
  ·cases q
  ·refine(E.nst j dn q).to (Ry (Ne.symm ne)) s (λb q1 q2 q3 q4 ⟨o,ho⟩=>⟨by rw[ho,sm _ _ ho],Rv _ q1,q2,λl d1 w=>?_⟩) λl d1 w=>?_
   ·rcases aZ w with⟨hl,z⟩|⟨nl,z⟩
    ·rw[hl,Rx hi];intro z;cases z;rw[hp]at ho;cases ho
    ·rw[Ry (Ne.symm nl)];exact q4 l d1 z
   ·rcases aZ w with⟨_,z⟩|⟨_,z⟩
    ·cases z
    ·exact⟨d1,z⟩
noncomputable def Nk(X:Cx)(F:FX):TE:=λσ H Q=>∃O ρ,dH X.K O H ρ σ/\fA X σ O H (F ρ) λd=>∀p H',aT H H'->H p=none->(∃o,H' p=some o/\ux o)->ig X.K H' (p::O) p d->Q (.ref p) H'
noncomputable def FN(X:Cx)(e:Vf)(F:FX):Prop:=PE X e (Nk X F)
section
variable{X:Cx}{pos:Pos}
theorem vx{K:T3}{H:Hp}{O:aD}{p:Ve}{ds:List D}{vs:aH}(hp:H p=none)(d:aL K (hid H O) ds vs):ig K (upd H p (.lst vs)) (p::O) p (.lst ds):=⟨_,vs,aA,rfl,d.mono (vQ hp)⟩
noncomputable def tG(i:Nat)(f:FX):bK:=λk ρ=>o7 (f ρ) k ρ λd=>k.nx (ρ.set i (some (.own d)))
theorem rQ{st:Vg}{f:FX}{i:Nat}(hi:i<X.N.length)(h:PS X st (Cm (Nk X f) (sK i))):FS X st (tG i f):=λHb Ob pins s σ H E I ⟨O,ρ,k,r,S,hF,hk⟩=>
 h pins s σ H E I ⟨O,ρ,S.env,fA.on hF hk S λd e p H1 s1 hp m o=>hk.nx _ _ _ H1 (S.setNew (by rw[I.len];exact hi) s1 hp m o) e⟩
end
theorem Gc{X:Cx}{F:FX}:∀σ H Q,Nk X F σ H Q->MX X F σ H Q:=λσ H Q ⟨O,ρ,E,hF⟩=>⟨O,ρ,E,hF.imp λd q D H' total acc e sm hD hD' dn=>by
 subst e;exact q D H' sm hD ⟨_,hD',trivial⟩ ⟨_,acc,hD',rfl,dn⟩⟩
noncomputable def Iq(i:Nat)(u:List D->List D->Option (List D))(f:aW):bK:=λk ρ=>match ρ[i]? with
 |some (some (.own (.lst xs)))=>o7 (f ρ) k ρ λds=>(rO (u xs ds)).bind λys=>k.nx (ρ.set i (some (.own (.lst ys))))
 |_=>un
noncomputable def Gw(K:T3)(r:V->aH->Hp->VK->Prop)(u:List D->List D->Option (List D)):Prop:=
 ∀(H:Hp)(O:aD)(a:Ve)(xs ys as:List D)(ws vs:aH)(Q:VK),dI H O->a∈O->H a=some (.lst ws)->aL K (hid H O) xs ws->aL K (hid H O) as vs->u xs as=some ys->(∀ws' v,aL K (hid H O) ys ws'->Q v (upd H a (.lst ws')))->r (.ref a) vs H Q
theorem vo{K:T3}{H:Hp}{O:aD}{a:Ve}{ys:List D}{ws:aH}(ha:a∈O)(h:aL K (hid H O) ys ws):ig K (upd H a (.lst ws)) O a (.lst ys):=⟨_,ws,aA,rfl,h.mono (jl ha)⟩
noncomputable def vn(xs:List D)(ds:List D):Option (List D):=match ds with
 |[y]=>if small (xs.length+1)then some (xs++[y])else none
 |_=>none
theorem yW{K:T3}:Gw K yg vn:=λH O a xs ys as ws vs Q hO haO ha dx da hu q=>by
 unfold vn at hu;split at hu
 ·rename_i y;obtain⟨h1,h2⟩:=bf hu;subst h2;obtain⟨v,rfl,dv⟩:=da.one
  have:=dq h1
  rw[dx.length]at this;exact⟨a,ws,v,rfl,rfl,ha,by omega,q _ _ (dx.snoc dv)⟩
 ·cases hu
noncomputable def frz(i:Nat)(ρ:aq):aq:=match ρ[i]? with
 |some (some (.own d))=>setV i d ρ
 |_=>ρ
theorem dH.frz{K:T3}{O:aD}{H:Hp}{ρ:aq}{σ:St}(E:dH K O H ρ σ)(i:Nat):∃O',dH K O' H (frz i ρ) σ/\(∀b∈O',b∈O)/\∀b∈O,b∉O'->∃d,ρ[i]?=some (some (.own d))/\σ[i]?=some (some (.ref b)):=by
 unfold TG.frz;split
 ·rename_i d hd;obtain⟨a,ha,haO,hat⟩:=E.own i d hd;have sub:∀b∈O.filter (λb=>decide (b≠a)),b∈O:=λb hb=>(List.mem_filter.mp hb).1;have s:aT (hid H O) (hid H (O.filter λb=>decide (b≠a))):=iM sub;have na:a∉O.filter λb=>decide (b≠a):=λz=>absurd rfl (of_decide_eq_true (List.mem_filter.mp z).2);refine⟨O.filter λb=>decide (b≠a),⟨λj d' e=>?_,λj ys e=>?_,λj l ys zs b q1 q2 q3 q4=>?_,⟨E.all.1,λb hb=>E.all.2 b (sub b hb)⟩⟩,sub,λb hb nb=>?_⟩
  ·rcases aZ e with⟨hj,q⟩|⟨ne,q⟩
   ·cases q;rw[hj];exact⟨.ref a,ha,hat.den s na⟩
   ·obtain⟨w,q1,q2⟩:=E.val j d' q;exact⟨w,q1,q2.mono s⟩
  ·rcases aZ e with⟨_,q⟩|⟨ne,q⟩
   ·cases q
   ·obtain⟨b,q1,q2,q3⟩:=E.own j ys q;have nb:b≠a:=λz=>ne (E.one j i ys d a q hd (by rw[<-z];exact q1) ha);exact⟨b,q1,List.mem_filter.mpr ⟨q2,decide_eq_true nb⟩,q3.mono rfl s⟩
  ·rcases aZ q1 with⟨_,q⟩|⟨_,q⟩
   ·cases q
   ·rcases aZ q2 with⟨_,q'⟩|⟨_,q'⟩
    ·cases q'
    ·exact E.one j l ys zs b q q' q3 q4
  ·by_cases z:b=a
   ·exact⟨d,hd,by rw[z];exact ha⟩
   ·exact absurd (List.mem_filter.mpr ⟨hb,decide_eq_true z⟩) nb
 ·exact⟨O,E,λ_ z=>z,λb hb nb=>absurd hb nb⟩
theorem eY.frz{K:T3}{Hb:Hp}{Ob O:aD}{H:Hp}{ρ:aq}{σ:St}(E:eY K Hb Ob O H ρ σ)(i:Nat):∃O',eY K Hb Ob O' H (frz i ρ) σ:=by
 obtain⟨O',E',sub,gone⟩:=E.env.frz i;refine⟨O',E',⟨E.base.same,λa ha=>?_,λa ha=>E.base.new a (sub a ha)⟩,λj xs a q1 q2=>?_,λj dn q1=>?_⟩
 ·by_cases z:a∈O'
  ·exact z
  ·obtain⟨d,e1,e2⟩:=gone a (E.base.sub a ha) z;exact absurd ha (E.mine i d a e1 e2).2
 ·have q:ρ[j]?=some (some (.own xs)):=by
   unfold TG.frz at q1;split at q1
   ·rcases aZ q1 with⟨_,q⟩|⟨_,q⟩
    ·cases q
    ·exact q
   ·exact q1
  exact E.mine j xs a q q2
 ·have bk:∀(l:Nat) x,(TG.frz i ρ)[l]?=some (some x)->(∀d,x≠.val d)->ρ[l]?=some (some x):=λl x e nv=>by
   unfold TG.frz at e;split at e
   ·rcases aZ e with⟨_,q⟩|⟨_,q⟩
    ·cases q;exact absurd rfl (nv _)
    ·exact q
   ·exact e
  refine(E.nst j dn (bk j _ q1 (λ_ z=>nomatch z))).to rfl (iM sub) (λb w1 w2 w3 w4 _=>⟨rfl,?_,w2,λl d1 w=>w4 l d1 (bk l _ w (λ_ z=>nomatch z))⟩) λl d1 w=>⟨d1,bk l _ w (λ_ z=>nomatch z)⟩
  by_cases z:b∈O'
  ·exact z
  ·obtain⟨d,e1,e2⟩:=gone b w1 z;exact absurd e2 (w4 i d e1)
noncomputable def C9(i:Nat)(F:bK):bK:=λk ρ=>F k (frz i ρ)
mutual
noncomputable def lf:D->Bool
 |.tup xs=>MZ xs
 |.lst _=>false
 |.dct _ _=>false
 |.obj _ _ vs=>MZ vs
 |.exc _ _ _=>false
 |_=>true
noncomputable def MZ:List D->Bool
 |[]=>true
 |x::xs=>lf x&&MZ xs
end
noncomputable def frzs(is:List Nat)(ρ:aq):aq:=is.foldl (λρ i=>frz i ρ) ρ
end TG
namespace TG
open PySem PySem.Spec L2
variable[az]
noncomputable def Ae(K:T3)(n:Nat)(g:cg):Sp:=λvs H Q E=>∃O ds,vs.length=n/\dI H O/\aL K (hid H O) ds vs/\match g ds with
 |.ok d=>∀v H',aT H H'->cA K (hid H' O) d v->Q v H'
 |.error (some x)=>Nb K H O x E
 |.error none=>False
section
variable{X:Cx}{k:Nat}{f C:Ve}{fd:VU}{ps:au}{sp:Sp}{x m:Str}{p pos apos:Pos}{e o:Vf}{es:bu}{ta:TE}{t:TA}
theorem tR{pins:aS}{σ:St}{H:Hp}{s:Vh}{Q:VK}{E:XK}{us:aN}{vs:aH}(F:hJ X.prog X.w X.K X.mg X.base (lX X.prog X.w) k f fd ps sp)(hr:gq k X.A)(hb:Binds X.K fd ps [])(hx:kg (lX X.prog X.w) X σ E)
  (I:Inv X pins σ H s) (r:Vals vs us) (h:sp vs H Q E):Vs (model X.prog X.w) X.A (call (.ref f) us) (EP X pins σ Q) X.xe s:=by
 have hl:(us++[]).length=ps.length:=by rw[RO,<-r.length];exact F.len _ _ _ _ h
 have hb':=hb s us I.kIn hl;rw[RO]at hb';refine VX (VY (F.run X.A X.stack s H ⟨us,[]⟩ us vs Q E hr I.env0 hb' r h) λr s' hq=>?_);cases r with
 |error e=>exact hx pins H s e s' I hq
 |ok fl=>
  cases fl with
  |ret u=>exact I.after hq
  |next=>exact False.elim hq
  |brk=>exact False.elim hq
  |cont=>exact False.elim hq
noncomputable def AI(X:Cx)(sp:Sp)(t:TA):TE:=λσ H Q=>t σ H λvs H1=>∃E,kg (lX X.prog X.w) X σ E/\sp vs H1 Q E
theorem Dg(F:hJ X.prog X.w X.K X.mg X.base (lX X.prog X.w) k f fd ps sp)(hr:gq k X.A)(hg:Gl X x)(hm:X.mg x=some (.ref f))(hk:Uq X.K (.ref f)=true)(hb:Binds X.K fd ps [])
  (ha:PA X (e::es) t) (hdb:(x==("__debug__":Str))=false:=by decide) (he:Vt (e::es) X.env=(false,eval e X.env)::Vt es X.env:=by rfl) (hpl:(backTo pos (Vt es X.env)).any (·.1)=false:=by rfl):
  PE X (.Call (.Name x p) (e::es) [] pos) (AI X sp t):=by
 intro pins s σ H Q I h;refine VZ (ju I hg hm ?_ hdb);refine Ur (h₀:=X.base) I.ok.mod.kin hk (cJ (ha pos pins s σ H _ I h) λus s1 ⟨vs,H1,I1,r,E,hx,q⟩=>⟨I1.kIn,?_⟩) he hpl;exact tR F hr hb hx I1 r q
theorem zZ{n:Nat}{g:cg}{f:aW}(hn:∀ds,g ds≠un->ds.length=n):∀σ H Q,tF X (fR g f) σ H Q->AI X (Ae X.K n g) (Og X f) σ H Q:=λσ H Q ⟨O,ρ,E,hF⟩=>
 ⟨O,ρ,E,(fA.bind hF).imp fun ds hF vs H1 s1 d1=>by
  cases hg:g ds with
  |ok d=>
   rw[hg]at hF;refine⟨E0,yy,O,ds,by rw[<-d1.length];exact hn ds (by rw[hg];intro z;cases z),E.all.same s1,d1,?_⟩;rw[hg];exact λv H2 s2 d2=>hF v H2 (s1.trans s2) d2
  |error z=>
   rw[hg]at hF;cases z with
   |none=>exact hF.elim
   |some x=>
    refine⟨xP X O H1 x,xE (HP.mono hF s1),O,ds,by rw[<-d1.length];exact hn ds (by rw[hg];intro z;cases z),E.all.same s1,d1,?_⟩;rw[hg];exact vv⟩
end
noncomputable def Callee(P:Vj)(w:Vi)(K:T3)(mg:cu)(base:Vl)(k:Nat)(x:Str)(ps:au)(g:cg):Prop:=
 ∃f fd,hJ P w K mg base (lX P w) k f fd ps (Ae K ps.length g)/\Binds K fd ps []/\Uq K (.ref f)=true/\mg x=some (.ref f)
noncomputable def Ar(n:Nat)(g:cg):Prop:=∀ds,g ds≠un->ds.length=n
noncomputable def K0:Ks:={nx:=λ_=>.ok .non}
noncomputable def env0(n:Nat)(ds:List D):aq:=ds.map (λd=>some (.val d))++List.replicate (n-ds.length) none
noncomputable def aj(B:bK)(np n:Nat):cg:=λds=>if ds.length=np then B K0 (env0 n ds)else un
theorem iB{B:bK}{np n:Nat}:Ar np (aj B np n):=λds h=>by
 unfold aj at h;split at h
 ·assumption
 ·exact absurd rfl h
theorem kr{n:Nat}{ds:List D}(i:Nat)(x:S)(e:(env0 n ds)[i]?=some (some x)):∃d,ds[i]?=some d/\x=.val d:=by
 unfold env0 at e;by_cases hi:i<ds.length
 ·rw[RW (by rw[RK];exact hi),RX,Su hi]at e;have e':some (S.val ds[i])=some x:=Option.some.inj e;exact⟨ds[i],by rw[Su hi],(Option.some.inj e').symm⟩
 ·rw[RU (by rw[RK];omega),RK,RV]at e;split at e
  ·cases e
  ·cases e
theorem vY{K:T3}{O:aD}{H:Hp}{N:au}{ds:List D}{vs:aH}(hO:dI H O)(h:aL K (hid H O) ds vs):dH K O H (env0 N.length ds) (L2.start N vs):=by
 refine⟨λi d e=>?_,λi xs e=>?_,λi j xs ys a e=>?_,hO⟩
 ·obtain⟨d',e1,e2⟩:=kr i _ e;cases e2;obtain⟨v,e3,e4⟩:=h.get e1;refine⟨v,?_,e4⟩;unfold L2.start;have hi:i<vs.length:=(List.getElem?_eq_some_iff.mp e3).1;rw[RW (by rw[RK];exact hi),RX,e3];rfl
 ·obtain⟨d',_,e2⟩:=kr i _ e;cases e2
 ·obtain⟨d',_,e2⟩:=kr i _ e;cases e2
section
variable{P:Vj}{w:Vi}{K:T3}{mg:cu}{base:Vl}
structure BodyOk(P:Vj)(w:Vi)(K:T3)(mg:cu)(base:Vl)(k:Nat)(N:au)(qual:Str)(st:Vg)(f:Ve)(B:bK):Prop where
 h:∀(cdv:Vc)(A:Vp)(outer:List Env)(s:Vh)(H:Hp)(E:XK),gq k (A.deeper (U5 qual (aB st) s.heap.objs.size f cdv))->VD (model P w) (A.deeper (U5 qual (aB st) s.heap.objs.size f cdv)) (U5 qual (aB st) s.heap.objs.size f cdv) (jR (lX P w) P w K mg base N qual (aB st) f cdv A outer s H E).xe->
  Ml (jR (lX P w) P w K mg base N qual (aB st) f cdv A outer s H E) (eA st) B
theorem Ni{x qual:Str}{st:Vg}{f:Ve}{fd:VU}{N ps:au}{k:Nat}{sp:Sp}{CX:vV}(F:pf K x qual st f fd)(S:b7 N ps (aB st))(len:∀vs H Q E,sp vs H Q E->vs.length=ps.length)
  (hbody:∀ (cdv:Vc) (A:Vp) (outer:List Env) (s:Vh) (H:Hp) (vs:aH) (Q:VK) (E:XK),gq k (A.deeper (U5 qual (aB st) s.heap.objs.size f cdv))->sp vs H Q E ->
   ∃t,uG (jR CX P w K mg base N qual (aB st) f cdv A outer s H E) (eA st) t/\t {nx:=λ_ H'=>Q .non H',rt:=Q} (L2.start N vs) H):hJ P w K mg base CX (k+1) f fd ps sp:=by
 obtain⟨oc,od,kV,doc,pm,an,cdv,ct,osl,rfl,lk,hcd⟩:=F.ex;exact Gp lk hcd S len λA outer s H vs Q E hr hsp=>hbody cdv A outer s H vs Q E hr hsp
theorem hJ.any{CX:vV}{k:Nat}{f:Ve}{fd:VU}{ps:au}{sp:Sp}(F:hJ P w K mg base K5 k f fd ps sp):hJ P w K mg base CX k f fd ps sp:=
 ⟨F.len,fun A outer s H args us vs Q E hr he hb hv hs=>VY (F.run A outer s H args us vs Q E hr he hb hv hs) fun r s' h=>by
  cases r with
  |error e=>exact False.elim h
  |ok fl=>cases fl<;>exact h⟩
theorem tX{x qual:Str}{st:Vg}{f:Ve}{fd:VU}{N ps:au}{k:Nat}{B:bK}(F:pf K x qual st f fd)(SC:b7 N ps (aB st))(hb:BodyOk P w K mg base k N qual st f B):
  hJ P w K mg base (lX P w) (k+1) f fd ps (Ae K ps.length (aj B ps.length N.length)):=by
 refine Ni F SC (λvs H Q E h=>?_) λcdv A outer s H vs Q E hr h=>?_
 ·obtain⟨O,ds,h1,_⟩:=h;exact h1
 ·obtain⟨O,ds,h1,h2,h3,h4⟩:=h;have hl:ds.length=ps.length:=h3.length.trans h1;have e4:aj B ps.length N.length ds=B K0 (env0 N.length ds):=by unfold aj;rw[if_pos hl]
  rw[e4]at h4;refine⟨_,hb.h cdv A outer s H E hr PassesOwn.leaving H O,O,env0 N.length ds,K0,_,⟨vY h2 h3,⟨aT.refl H,λ_ z=>z,λa z=>.inl z⟩,λi xs a e=>?_,λi d e=>by obtain⟨d',_,e2⟩:=kr i _ e;cases e2⟩,rfl,?_⟩
  ·obtain⟨d',_,e2⟩:=kr i _ e;cases e2
  ·generalize B K0 (env0 N.length ds)=r at h4;refine⟨λz=>by rw[z]at h4;exact h4,λO' ρ' σ' H' S e=>?_,λO' ρ' σ' H' S e=>?_,λO' ρ' σ' H' S e=>?_,λd O' v H' e b dv=>?_,λO' ρ' σ' H' x S e=>?_⟩
   ·have e:(.ok .non:R D)=r:=e;subst e;exact h4 .non H' S.base.same (jq.mpr rfl)
   ·have e:(un:R D)=r:=e;subst e;exact h4.elim
   ·have e:(un:R D)=r:=e;subst e;exact h4.elim
   ·subst e;exact h4 v H' b.same (dv.mono (iM b.sub))
   ·have e:(.error (some x):R D)=r:=e;subst e;exact GZ h4 S.base.same S.base.sub
theorem Ab{x qual:Str}{st:Vg}{f:Ve}{fd:VU}{N ps:au}{k:Nat}{B:bK}(F:pf K x qual st f fd)(b:Binds K fd ps [])(m:mg x=some (.ref f))(SC:b7 N ps (aB st))(hb:BodyOk P w K mg base k N qual st f B):
  Callee P w K mg base (k+1) x ps (aj B ps.length N.length):=⟨f,fd,tX F SC hb,b,F.kp,m⟩
theorem vS{x qual:Str}{st:Vg}{f:Ve}{fd:VU}{ps:au}(k:Nat)(F:pf K x qual st f fd)(b:Binds K fd ps [])(m:mg x=some (.ref f)):Callee P w K mg base k x ps (λ_=>un):=by
 have no:∀vs H Q E,¬Ae K ps.length (λ_=>un) vs H Q E:=λvs H Q E ⟨O,ds,_,_,_,e⟩=>e;exact⟨f,fd,⟨λvs H Q E h=>absurd h (no vs H Q E),λA outer s H args us vs Q E _ _ _ _ h=>absurd h (no vs H Q E)⟩,b,F.kp,m⟩
end
theorem uh{K:T3}{T:String}(h1:Uy K (.type "NoneType") (.type T)=some (T=="NoneType"))(h2:Uy K (.type "bool") (.type T)=some (T=="bool"||T=="int"))(h3:Uy K (.type "int") (.type T)=some (T=="int"))(h4:Uy K (.type "str") (.type T)=some (T=="str"))
  (h5:Uy K (.type "tuple") (.type T)=some (T=="tuple")) (h6:Uy K (.type "list") (.type T)=some (T=="list")):y8 K T:=λd hd=>by
 cases d with
 |dct _ _=>cases hd
 |obj _ _ _=>cases hd
 |exc _ _ _=>cases hd
 |non=>exact h1
 |bl _=>exact h2
 |int _=>exact h3
 |str _=>exact h4
 |tup _=>exact h5
 |lst _=>exact h6
theorem CN{K:T3}:y8 K "int":=uh rfl rfl rfl rfl rfl rfl
theorem yT{K:T3}:y8 K "bool":=uh rfl rfl rfl rfl rfl rfl
theorem AV{K:T3}:y8 K "str":=uh rfl rfl rfl rfl rfl rfl
end TG
namespace TG
open PySem PySem.Spec L2
variable[az]
section
variable{X:Cx}{a b c:Vf}{fa fb fc:FX}{pos:Pos}
theorem Hw{r:V->Hp->VK->Prop}{g:D->bE}(s:Ej X.K r g):∀σ H Q,tF X (f1 g fa) σ H Q->Pj r (tF X fa) σ H Q:=λσ H Q ⟨O,ρ,E,hF⟩=>⟨O,ρ,E,(fA.bind hF).imp λa hF x H1 s1 d1=>by
 obtain⟨d,e,q⟩:=fA.rO hF;exact s a d x O H1 Q (E.all.same s1) e d1 λv H2 s2 d2=>q v H2 (s1.trans s2) d2⟩
noncomputable def gW(g g':D->D->bE)(fa fb fc:FX):FX:=λρ=>(fa ρ).bind λx=>(fb ρ).bind λy=>(rO (g x y)).bind λz=>xh z ((fc ρ).bind λw=>rO (g' y w))
theorem sE{r r':R2}{g g':D->D->bE}(s:cY X.K r g)(s':cY X.K r' g'):∀σ H Q,tF X (gW g g' fa fb fc) σ H Q->wB r r' (tF X fa) (tF X fb) (tF X fc) σ H Q:=λσ H Q ⟨O,ρ,E,hF⟩=>
 ⟨O,ρ,E,(fA.bind hF).imp fun x hF v1 H1 s1 d1=>⟨O,ρ,E.same s1,((fA.bind hF).mono s1).imp fun y hF v2 H2 s2 d2=>by
  obtain⟨z,e3,hF⟩:=fA.rO (fA.bind hF);refine s x y z v1 v2 O H2 _ (E.all.same (s1.trans s2)) e3 (d1.mono (bV s2)) d2 λv3 H3 s3 d3=>?_;cases z with
  |bl k=>
   refine⟨k,jC.mp d3,?_⟩;cases k with
   |false=>exact uT (hF _ H3 ((s1.trans s2).trans s3) (jC.mpr rfl))
   |true=>
    refine vP ⟨O,ρ,E.same ((s1.trans s2).trans s3),((fA.bind (show fA X σ O H ((fc ρ).bind λw=>rO (g' y w)) _ from hF)).mono ((s1.trans s2).trans s3)).imp λw hF v4 H4 s4 d4=>?_⟩;obtain⟨d,e5,q⟩:=fA.rO hF;exact s' y w d v2 v4 O H4 Q (E.all.same (((s1.trans s2).trans s3).trans s4)) e5 (d2.mono (bV (s3.trans s4))) d4 λv5 H5 s5 d5=>q v5 H5 ((((s1.trans s2).trans s3).trans s4).trans s5) d5
  |_=>exact hF.elim⟩⟩
noncomputable def Ji:D->bE
 |.int i=>some (.int (-i))
 |_=>none
noncomputable def EB(f:FX):FX:=f1 Ji f
noncomputable def Bf:List D->bE
 |[.int i]=>if decide (i.natAbs.log2<1920)then some (.str (toString i))else none
 |_=>none
theorem zW:eX X (.type "str") (CA X.K Bf):=by
 rintro pins s σ H xs us Q I r ⟨O,ds,d,hO,hd,hg,q⟩;unfold Bf at hg;split at hg
 ·rename_i i;obtain⟨h1,h2⟩:=bf hg;subst h2;obtain⟨v,ev,h1'⟩:=hd.one;exact ub pins s σ H xs us Q I r ⟨i,by rw[ev,eO.mp h1'],of_decide_eq_true h1,q _ H (aT.refl H) (eR.mpr rfl)⟩
 ·cases hg
noncomputable def CP:D->bE
 |.str x=>if small x.length then some (.str (Txt.upper x))else none
 |_=>none
noncomputable def IX(f:FX):FX:=f1 CP f
noncomputable def Ib:D->bE
 |.lst xs=>some (.lst xs.reverse)
 |.tup xs=>some (.tup xs.reverse)
 |_=>none
noncomputable def M1(f:FX):FX:=f1 Ib f
theorem pM{K:T3}{H:Hp}:∀{bs:List Bool}{vs:aH}{us:aN},aL K H (bs.map .bl) vs->Vals vs us->us=bs.map Value.bool
 |[],vs,us,h,r=>by
  rw[R7,cB]at h;subst h;cases r;rfl
 |b::bs,vs,us,h,r=>by
  rw[RJ,aV]at h;obtain⟨v,r',e,h1,h2⟩:=h;subst e;cases r with
  |cons q1 q2=>
   rw[jC]at h1;subst h1;cases q1;rw[RJ,pM h2 q2]
end
end TG
namespace ZI
open PySem PySem.Spec PyProof.Rows
section
variable{prog:Vj}{w:Vi}{A:Vp}{E:Vc->Vh->Prop}{s:Vh}
theorem wn{it t:Ve}{i:Nat}{its:Array Vc}{x:Vc}{Q:Vc->Vh->Prop}(hit:s.heap.IsTupleIter it t i)(ht:s.heap.IsTuple t its)(hx:its[i]?=some x)
  (hQ:∀g,g.IsTupleIter it t (i+1)->UR it s.heap g->Q x {s with heap:=g}):Vs (model prog w) A (Builtin.SmallTypes.nextOf (.ref it)) Q E s:=by
 obtain⟨ob,h1,h2,h3⟩:=id hit;obtain⟨ol,g1,_,n,g2⟩:=ht;unfold Builtin.SmallTypes.nextOf;refine VB (V8 (name:=Str.ofString "__next__") hit.typeIs F.slot_tuple_iterator_next (V9 F.slot_tuple_iterator_next hit.typeIs F.entry_tuple_iterator_next ?_ (F.args_tuple_iterator_next_1 _)));show Vs _ _ (field (.ref it) 0 >>= _) _ _ s;refine VB (V6 h1 h3 (x:=.ref t) rfl ?_);show Vs _ _ (if(Value.ref t==Value.none)=true then _ else _) _ _ s;rw[if_neg (show¬((Value.ref t==Value.none)=true)from λz=>RG z)];show Vs _ _ (field (.ref it) 1 >>= _) _ _ s;refine VB (V6 h1 h3 (x:=.int i 0) rfl ?_);show Vs _ _ (seqItems? (.ref t) >>= _) _ _ s;refine VB (Wi g1 g2 ?_);simp only[R1,hx];refine VB (wpAny_setField h1 h3 (by simp) (VA ⟨x,rfl,VA (hQ _ ⟨_,UY _ h1 (Obj.isFreed_of_fields (Obj.data_mapFields h3 _)),(Obj.cls_mapFields ..).trans h2,by rw[Obj.data_mapFields h3];simp[rawInt]⟩ (Heap.SameBut.update ..))⟩))
theorem zN{it t:Ve}{i:Nat}{its:Array Vc}{Q:Vc->Vh->Prop}(hh:A.handled=none)(hit:s.heap.IsTupleIter it t i)(ht:s.heap.IsTuple t its)(hx:its[i]?=none)
  (hE:∀g e,Heap.ExtBut it s.heap g->(∃o,g.get? e=some o/\o.cls=.type "StopIteration")->E (.ref e) {s with heap:=g}):Vs (model prog w) A (Builtin.SmallTypes.nextOf (.ref it)) Q E s:=by
 obtain⟨ob,h1,h2,h3⟩:=id hit;obtain⟨ol,g1,_,n,g2⟩:=ht;unfold Builtin.SmallTypes.nextOf;refine VB (V8 (name:=Str.ofString "__next__") hit.typeIs F.slot_tuple_iterator_next (V9 F.slot_tuple_iterator_next hit.typeIs F.entry_tuple_iterator_next ?_ (F.args_tuple_iterator_next_1 _)));show Vs _ _ (field (.ref it) 0 >>= _) _ _ s;refine VB (V6 h1 h3 (x:=.ref t) rfl ?_);show Vs _ _ (if(Value.ref t==Value.none)=true then _ else _) _ _ s;rw[if_neg (show¬((Value.ref t==Value.none)=true)from λz=>RG z)];show Vs _ _ (field (.ref it) 1 >>= _) _ _ s;refine VB (V6 h1 h3 (x:=.int i 0) rfl ?_);show Vs _ _ (seqItems? (.ref t) >>= _) _ _ s;refine VB (Wi g1 g2 ?_);simp only[R1,hx];refine VB (Wf (VB (wpAny_setField h1 h3 (by simp) ?_)));show Vs _ _ (newExc (.type "StopIteration") [] >>= _) _ _ _;refine VB ?_;simp only[newExc,newTuple];refine VB (Wb ?_ (by size_fits));refine VB (m:=firstArgMember _ _) (wpAny_of_eq (a:=Value.none) (by first|rfl|(simp only[firstArgMember];rfl)) ?_);refine Wb ?_ (by size_fits);simp only[raiseNew];refine VB (wpAny_handled ?_)
 first|rw[show A.in1.handled=none from hh]|rw[hh]
 refine VB (VA (wpAny_throw ?_));exact hE _ _ (((Heap.SameBut.update ..).extBut.push _).push _) ⟨_,UU _ rfl,rfl⟩
end
theorem Ip{prog:Vj}{w:Vi}{A:Vp}(hh:A.handled=none)(it t:Ve)(hne:t≠it)(its:Array Vc):Draws prog w A it [it,t] its.size (λi v=>its[i]?=some v) (λi h=>h.IsTupleIter it t i/\h.IsTuple t its)where
 live:=λi h ⟨⟨o,e,_⟩,_⟩=>⟨o,e⟩
 frame:=λi h h' ⟨x,y⟩ k=>⟨x.at λo e=>k it (by simp) o e,let ⟨o,e,r⟩:=y;⟨o,k t (by simp) o e,r⟩⟩
 item:=λi s Q E hi ⟨x,y⟩ hQ=>wn x y (Array.getElem?_eq_getElem hi) λg hg hs=>hQ _ g s.toks (Array.getElem?_eq_getElem hi) ⟨hg,let ⟨o,e,r⟩:=y;⟨o,(hs.2 t hne).trans e,r⟩⟩ hs
 done:=λs Q E ⟨x,y⟩ hE=>zN hh x y (by simp) hE
noncomputable def SQ(b:Bool)(h:Vl)(l:Ve)(xs:Array Vc):Prop:=if b then h.IsList l xs else h.IsTuple l xs
noncomputable def SI(b:Bool)(h:Vl)(i l:Ve)(k:Nat):Prop:=if b then h.IsListIter i l k else h.IsTupleIter i l k
noncomputable def NZ(b:Bool):String:=if b then"list_iterator"else"tuple_iterator"
theorem SI.keep{b:Bool}{h h':Vl}{i l:Ve}{n:Nat}(x:SI b h i l n)(k:∀o,h.get? i=some o->h'.get? i=some o):SI b h' i l n:=by
 cases b with
 |true=>exact Heap.IsListIter.at x k
 |false=>exact Heap.IsTupleIter.at x k
theorem SQ.lt{b:Bool}{h:Vl}{l:Ve}{xs:Array Vc}(x:SQ b h l xs):l<h.objs.size:=by
 cases b with
 |true=>obtain⟨o,e,_⟩:=(show h.IsList l xs from x);exact UP e
 |false=>obtain⟨o,e,_⟩:=(show h.IsTuple l xs from x);exact UP e
theorem SI.get{b:Bool}{h:Vl}{i l:Ve}{n:Nat}(x:SI b h i l n):∃o,h.get? i=some o/\∀v,o.data≠.cell v:=by
 cases b with
 |true=>obtain⟨o,e,_,d⟩:=(show h.IsListIter i l n from x);exact⟨o,e,λv z=>by rw[d]at z;cases z⟩
 |false=>obtain⟨o,e,_,d⟩:=(show h.IsTupleIter i l n from x);exact⟨o,e,λv z=>by rw[d]at z;cases z⟩
theorem SI.new{b:Bool}{h:Vl}{l:Ve}:SI b (h.push {cls:=.type (NZ b),data:=.fields #[.ref l,.int 0 0]}) h.objs.size l 0:=by
 cases b with
 |true=>exact⟨_,UU _ rfl,rfl,rfl⟩
 |false=>exact⟨_,UU _ rfl,rfl,rfl⟩
theorem wL{b:Bool}{prog:Vj}{w:Vi}{A:Vp}{E:Vc->Vh->Prop}{s:Vh}{l:Ve}{xs:Array Vc}{Q:Vc->Vh->Prop}(h:SQ b s.heap l xs)
  (hQ:Q (.ref s.heap.objs.size) {s with heap:=s.heap.push {cls:=.type (NZ b),data:=.fields #[.ref l,.int 0 0]}}):Vs (model prog w) A (pyIter (.ref l)) Q E s:=by
 cases b with
 |true=>exact VC h hQ
 |false=>exact wpAny_pyIter_tuple h hQ
theorem xQ{prog:Vj}{w:Vi}{A:Vp}(b:Bool)(hh:A.handled=none)(it l:Ve)(hne:l≠it)(its:Array Vc):Draws prog w A it [it,l] its.size (λi v=>its[i]?=some v) (λi h=>SI b h it l i/\SQ b h l its):=by
 cases b with
 |true=>exact Draws.list hh it l hne its
 |false=>exact Ip hh it l hne its
noncomputable abbrev Lr(b1:Bool)(h:Vl)(l1:Ve):Vl:=h.push {cls:=.type (NZ b1),data:=.fields #[.ref l1,.int 0 0]}
theorem zH(b : Bool)(l : Ve)(xs : Array Vc): Meets (Builtin.«enumerate.__new__» ⟨[.type "enumerate", .ref l], []⟩) (fun _ R s => SQ b s.heap l xs /\
      R (.ok (.ret (.ref (Lr b s.heap l).objs.size))) {s with heap:=(Lr b s.heap l).push {cls:=.type "enumerate",data:=.fields #[.none,.bool false,.ref s.heap.objs.size,rawInt 0,.none,.none]}}):=
  .of_wp λprog w A R s h=>by
    obtain⟨hp,g,d,tk,os⟩:=s;obtain⟨q1,h⟩:=h;have hsub:=sub_enumerate;have e1:SQ b (Shared.heap ⟨hp,g,d,tk,os⟩) l xs:=q1
    wp_walk using wL e1
    refine wpAny_stack_any λst=>VA ?_;split
    · rename_i c _ _ _ _ _
      cases(c==Value.type "enumerate")<;>(wp_walk using wL e1;exact⟨_,rfl,h⟩)
    · wp_walk using wL e1
      exact⟨_,rfl,h⟩
end ZI
namespace TG
open PySem PySem.Spec L2 ZI
variable[az]
section
variable{X:Cx}{pins:aS}{σ:St}{H:Hp}{s:Vh}{h':Vl}
theorem Inv.turnedL{ch:aD}{p:Ve}{o:HO}{t':Nat}(I:Inv X pins σ H s)(hf:∀b∈ch,qX X pins H b)(k:∀b u,b∉ch->s.heap.get? b=some u->h'.get? b=some u)(hp:s.heap.objs.size<=p)(new:cy X.prog X.w (upd H p o) h' p o):
  Inv X pins σ (upd H p o) {s with heap:=h',toks:=t'}:=by
 have hn:=I.hok.fresh hp;have nch:∀b u,H b=some u->b∉ch:=λb u e z=>by rw[(hf b z).1]at e;cases e
 refine I.step (g':=s.gens) (d':=s.drawn) (ch:=ch) (λb hb=>?_) (λb o _ _ hc e _=>k b o hc e) (λb o _ _ hc e _=>⟨o.slots,k b o hc e⟩) (λb u _ q n=>by rw[ay (Rp (Rn (UP q) hp))];exact n)
  (λb o hc e=>⟨o,k b o hc e⟩) (λb xs q=>by rw[ay (aQ q hn)];exact q) (λb u xs q=>by rw[ay (aQ q hn)];exact q) (λb ps q=>⟨#[],by rw[ay (aQ q hn),q];simp⟩) (λm hm=>?_) (λb u e=>?_) I.bare
 ·obtain⟨_,f1,_,f3,f4,f5⟩:=hf b hb;exact⟨f3,f1,f4,f5⟩
 ·obtain⟨o,es,ep,ho,r⟩:=hm;exact⟨o,es,ep,k _ o (λz=>(hf _ z).2.1 rfl) ho,r⟩
 ·by_cases hb:b=p
  ·subst hb;rw[aA]at e;cases e;exact new
  ·rw[ay hb]at e;refine(I.hok b u e).stay (λc v hc q=>k c v ?_ q) (λc q=>by rw[ay (aQ q hn)];exact q) λc xs q=>by rw[ay (aQ q hn)];exact q
   rcases hc with z|z
   ·rw[z];exact nch b u e
   ·exact nch c _ z
theorem Inv.turned0{ch:aD}{t':Nat}(I:Inv X pins σ H s)(hf:∀b∈ch,qX X pins H b)(k:∀b u,b∉ch->s.heap.get? b=some u->h'.get? b=some u):Inv X pins σ H {s with heap:=h',toks:=t'}:=by
 have nch:∀b u,H b=some u->b∉ch:=λb u e z=>by rw[(hf b z).1]at e;cases e
 refine I.step (g':=s.gens) (d':=s.drawn) (ch:=ch) (λb hb=>?_) (λb o _ _ hc e _=>k b o hc e) (λb o _ _ hc e _=>⟨o.slots,k b o hc e⟩) (λ_ _ _ _ n=>n)
  (λb o hc e=>⟨o,k b o hc e⟩) (λ_ _ e=>e) (λ_ _ _ e=>e) (λb ps e=>⟨#[],by rw[e];simp⟩) (λm hm=>?_) (λb u e=>?_) I.bare
 ·obtain⟨_,f1,_,f3,f4,f5⟩:=hf b hb;exact⟨f3,f1,f4,f5⟩
 ·obtain⟨o,es,ep,ho,r⟩:=hm;exact⟨o,es,ep,k _ o (λz=>(hf _ z).2.1 rfl) ho,r⟩
 ·refine(I.hok b u e).stay (λc v hc q=>k c v ?_ q) (λ_ q=>q) λ_ _ q=>q;rcases hc with z|z
  ·rw[z];exact nch b u e
  ·exact nch c _ z
end
noncomputable def SX(K:T3)(b:Bool)(H:Hp)(a:Ve)(xs:aH):Prop:=if b then mL K H a xs else oJ K H a xs
theorem SX.same{K:T3}{b:Bool}{H H':Hp}{a:Ve}{xs:aH}(e:aT H H')(h:SX K b H a xs):SX K b H' a xs:=by
 cases b with
 |true=>exact e.seq (show mL K H a xs from h)
 |false=>exact yN e (show oJ K H a xs from h)
section
variable{X:Cx}{pins:aS}{σ:St}{H:Hp}{s:Vh}
theorem Inv.sx(I:Inv X pins σ H s){b:Bool}{a:Ve}{xs:aH}(h:SX X.K b H a xs):∃its:aN,Vals xs its/\SQ b s.heap a its.toArray/\xs.length<=Vm:=by
 cases b with
 |true=>obtain⟨its,r,p,z⟩:=I.list (show mL X.K H a xs from h);exact⟨its,r,p.isList,z⟩
 |false=>obtain⟨its,r,p,z⟩:=I.tuple (show oJ X.K H a xs from h);exact⟨its,r,p,z⟩
theorem Inv.sx_inj(I:Inv X pins σ H s){b:Bool}{a:Ve}{xs ys:aH}(h:SX X.K b H a xs)(h':SX X.K b H a ys):xs=ys:=by
 cases b with
 |true=>exact I.list_inj h h'
 |false=>exact I.tuple_inj h h'
end
noncomputable def EX:D->Option (Bool×List D)
 |.lst xs=>some (true,xs)
 |.tup xs=>some (false,xs)
 |_=>none
theorem B2{K:T3}{H:Hp}{d:D}{b:Bool}{xs:List D}{v:V}(e:EX d=some (b,xs))(h:cA K H d v):∃a vs,v=.ref a/\SX K b H a vs/\aL K H xs vs:=by
 cases d with
 |lst ys=>cases e;exact cx.mp h
 |tup ys=>cases e;obtain⟨a,vs,e1,e2,e3⟩:=cv.mp h;exact⟨a,vs,e1,oJ.of e2,e3⟩
 |_=>cases e
noncomputable def KO:List D->List D->List D
 |x::xs,y::ys=>.tup [x,y]::KO xs ys
 |_,_=>[]
noncomputable def Lg:List D->Option (List D)
 |[a,b]=>(EX a).bind λx=>(EX b).bind λy=>some (KO x.2 y.2)
 |_=>none
noncomputable def Ow(f:aW):aW:=λρ=>(f ρ).bind λds=>rO (Lg ds)
section
variable{X:Cx}
theorem PY{a b c:Ve}(h1:a≠b)(h2:a≠c):a∉[b,c]:=λh=>by
 rcases List.mem_cons.mp h with z|z
 ·exact h1 z
 ·exact h2 (List.mem_singleton.mp z)
end
noncomputable def Pm(K:T3)(b:Bool)(a:Ve):It:=
  ⟨fun i H=>∃ xs,SX K b H a xs/\i < xs.length,
   λi H v H'=>∃p x,v=.ref p/\H p=none/\H'=upd H p (.tup [.int i,x])/\∀xs,SX K b H a xs->xs[i]?=some x,
   λi H=>∃xs,SX K b H a xs/\i=xs.length⟩
theorem yI{P:Vj}{w:Vi}{K:T3}{es:bu}{k:Nat}{pos:Pos}{b:Bool}{a e it:Ve}(n1:a≠it)(n2:e≠it)(n3:e≠a):Turn P w K (.Tuple es k pos) (Pm K b a) [e,it] e (λi h=>(∃old,IsEnum h e it i old)/\SI b h it a i)where
 mem:=by simp
 obj:=λi h ⟨⟨old,he⟩,s1⟩ c hc=>by
  simp only[SU,SV,or_false]at hc;rcases hc with rfl|rfl
  ·exact⟨_,he,λv q=>by cases q⟩
  ·exact s1.get
 keep:=λi h h' ⟨⟨old,he⟩,s1⟩ kp=>⟨⟨old,kp e (by simp) _ he⟩,s1.keep λo q=>kp it (by simp) o q⟩
 item:=by
  rintro X hP hw hK hc i pins s σ H E I hf ⟨⟨old,he⟩,s1⟩ hg;subst hP hw hK;obtain⟨xs,g1,l1⟩:=hg;obtain⟨its,r1,q1,z1⟩:=Inv.sx I g1;have hh:X.A.in1.handled=none:=I.ok.hd hc;refine wpAny_pyNext_enum_itemD (xQ (A:=X.A.in1) b hh it a n1 its.toArray) he ⟨s1,q1⟩ (by rw[RE,<-r1.length];exact l1) n2 (PY n2 n3) λu g tk p1 ho t1 hp sz kp=>?_;have e1:its[i]?=some u:=by simpa using p1
  obtain⟨u',hu,ru⟩:=r1.get (i:=i) (x:=xs[i]) (by simp[l1]);rw[e1]at hu;cases hu;refine⟨_,rfl,wpAny_letOwnedTupleGo_enum ho λg' he' sb=>?_⟩;have hpe:s.heap.objs.size≠e:=Rz (UP he);have hp':=sb.extBut _ _ hpe hp;have I':Inv X pins σ (upd H s.heap.objs.size (.tup [.int i,xs[i]])) {s with heap:=g',toks:=tk+1}:=Inv.turnedL (ch:=[e,it]) I hf (λc o hc q=>by
   simp only[SU,SV,or_false,not_or]at hc;exact sb.extBut _ _ hc.1 (kp c o hc.1 hc.2 q)) (RB _) ⟨by show 2<=Vm;decide,[.int i tk,u],.cons ⟨_,rfl⟩ (.cons ru .nil),_,hp',rfl,_,rfl⟩
  have ne:∀c∈[e,it],c≠s.heap.objs.size:=λc hc q=>by
   simp only[SU,SV,or_false]at hc;rcases hc with rfl|rfl
   ·exact hpe q.symm
   ·obtain⟨o,q',_⟩:=s1.get;exact absurd (UP q') (by rw[q];exact Ro _)
  refine⟨.ref s.heap.objs.size,_,I',rfl,⟨_,xs[i],rfl,I.fresh,rfl,λxs' h=>by rw[Inv.sx_inj I h g1];simp[l1]⟩,⟨⟨u,?_⟩,t1.1.keep λo q=>sb.extBut _ _ n2.symm q⟩,λc hc=>by rw[ay (ne c hc)];exact(hf c hc).1⟩;have ei:((i+1:Nat):Int)=(i:Int)+1:=by omega
  rw[ei];exact he'
 done:=by
  rintro X hP hw hK hc i pins s σ H E I hf ⟨⟨old,he⟩,s1⟩ hg;subst hP hw hK;obtain⟨xs,g1,l1⟩:=hg;obtain⟨its,r1,q1,z1⟩:=Inv.sx I g1;have hh:X.A.in1.handled=none:=I.ok.hd hc;have el:i=its.toArray.size:=by rw[RE,<-r1.length];exact l1
  refine wpAny_pyNext_enum_endD (xQ (A:=X.A.in1) b hh it a n1 its.toArray) he ⟨by rw[<-el];exact s1,q1⟩ λg kp=>⟨rfl,Inv.turned0 (ch:=[e,it]) I hf λc o hc q=>?_⟩
  simp only[SU,SV,or_false,not_or]at hc;exact kp c o hc.2 q
 self:=λ_ _ _ _ _ ⟨⟨old,he⟩,_⟩ h=>wpAny_pyIter_enum he h
noncomputable def eZ(i:Nat):List D->List D
 |[]=>[]
 |x::xs=>.tup [.int i,x]::eZ (i+1) xs
theorem dZ:∀(i:Nat)(xs:List D),(eZ i xs).length=xs.length
 |_,[]=>rfl
 |i,x::xs=>by rw[eZ,RH,dZ (i+1) xs,RH]
theorem se:∀{xs:List D}{k i:Nat}{d:D},(eZ k xs)[i]?=some d->∃x,xs[i]?=some x/\d=.tup [.int ((k+i:Nat):Int),x]
 |[],k,i,d,h=>by simp[eZ]at h
 |x::xs,k,0,d,h=>by
  rw[eZ,List.getElem?_cons_zero]at h;cases h;exact⟨x,rfl,rfl⟩
 |x::xs,k,i+1,d,h=>by
  rw[eZ,SW]at h;obtain⟨y,h1,h2⟩:=se h;refine⟨y,by rw[SW];exact h1,?_⟩;rw[h2];congr 4;omega
theorem y9{K:T3}{Hd:Hp}{b:Bool}{a:Ve}{ds:List D}{vs:aH}(h1:SX K b Hd a vs)(g1:aL K Hd ds vs):Walk K Hd (Pm K b a) (eZ 0 ds):=λHn O' i hO sm=>
  have s':aT Hd Hn:=sm.trans (aJ Hn O')
  ⟨fun d e=>by
    obtain⟨x,e1,rfl⟩:=se e;have l1:i<ds.length:=(List.getElem?_eq_some_iff.mp e1).1;obtain⟨v,ev,dv⟩:=g1.get e1;refine⟨⟨vs,h1.same s',by rw[<-g1.length];exact l1⟩,λu H2 ⟨p,x',eu,hp,eH,q1⟩=>?_⟩;have z1:=q1 vs (h1.same s');rw[ev]at z1;cases z1;subst eH eu;rw[SY];exact⟨dr hp _,gu hO hp (aV.mpr ⟨.int i,_,rfl,eO.mpr rfl,aV.mpr ⟨v,_,rfl,dv.mono sm,cB.mpr rfl⟩⟩)⟩,
   λhl=>by
    rw[dZ]at hl;exact⟨vs,h1.same s',by rw[<-g1.length];exact hl⟩⟩
noncomputable def qC:List D->Option (List D)
 |[a]=>(EX a).bind λx=>some (eZ 0 x.2)
 |_=>none
noncomputable def dy(f:aW):aW:=λρ=>(f ρ).bind λds=>rO (qC ds)
section
variable{X:Cx}
theorem zV{prog:Vj}{w:Vi}{A:Vp}{E:bJ}{s:Vh}{b:Bool}{l:Ve}{xs:Array Vc}{Q:bJ}(h1:SQ b s.heap l xs)
  (h:∀g,IsEnum g (s.heap.objs.size+1) s.heap.objs.size 0 .none->SI b g s.heap.objs.size l 0->(∀c o,s.heap.get? c=some o->g.get? c=some o)->Q (.ref (s.heap.objs.size+1)) {s with heap:=g}):Vs (model prog w) A (call (.type "enumerate") [.ref l]) Q E s:=by
 refine callType_new F.called_enumerate (by decide) (F.typeCall_enumerate_1 _) (F.newCall_enumerate_1 _) (λobj=>F.args_object_init_2 obj _) F.entry_enumerate_new (zH b l xs) ⟨h1,?_⟩;have z1:(Lr b s.heap l).objs.size=s.heap.objs.size+1:=UV ..
 have g2:=UU (Lr b s.heap l) (o:={cls:=.type "enumerate",data:=.fields #[.none,.bool false,.ref s.heap.objs.size,rawInt 0,.none,.none]}) rfl;have g1:SI b ((Lr b s.heap l).push {cls:=.type "enumerate",data:=.fields #[.none,.bool false,.ref s.heap.objs.size,rawInt 0,.none,.none]}) s.heap.objs.size l 0:=SI.keep SI.new λo e=>UT _ e;show _/\_;rw[z1]at g2 ⊢;exact⟨⟨_,g2,rfl⟩,h _ g2 g1 λc o e=>UT _ (UT _ e)⟩
theorem Eg{pins:aS}{s:Vh}{σ:St}{H:Hp}{O:aD}{es:bu}{k:Nat}{tpos:Pos}{ds r:List D}{vs:aH}{us:aN}{RR:It->Hp->Prop}(I:Inv X pins σ H s)(hc:qC ds=some r)(d1:aL X.K (hid H O) ds vs)(rv:Vals vs us)(q:∀J,Walk X.K (hid H O) J r->RR J H):
  Vs (model X.prog X.w) X.A (call (.type "enumerate") us) (λv s1=>Vs (model X.prog X.w) X.A (pyIter v) (PIE X pins σ (.Tuple es k tpos) RR) X.xe s1) X.xe s:=by
 unfold qC at hc;split at hc
 ·rename_i a;obtain⟨⟨b1,xs⟩,e1,hc⟩:=bind_some hc;cases hc;obtain⟨va,rfl,da⟩:=d1.one;obtain⟨u1,rfl,r1⟩:=vals1 rv;obtain⟨a1,ws1,rfl,x1,y1⟩:=B2 e1 da;cases r1;obtain⟨its1,rr1,q1,_⟩:=Inv.sx I (x1.same (aJ H O));refine zV q1 λg he s1 kp=>wpAny_pyIter_enum he ?_;refine⟨_,_,_,_,H,rfl,I.kept (t':=s.toks) kp,yI (b:=b1) (Rp q1.lt) (Rz (Nat.lt_add_of_pos_right (by decide))) (Rz (Rn q1.lt (Nat.le_add_right _ 1))),⟨⟨_,he⟩,s1⟩,λb hb=>?_,q _ (y9 x1 y1)⟩;have le:s.heap.objs.size<=b:=by
   simp only[SU,SV,or_false]at hb;rcases hb with rfl|rfl
   ·exact Nat.le_add_right _ _
   ·exact RB _
  exact I.fpOk le (I.hok.fresh le)
 ·cases hc
end
end TG
namespace TG
open PySem PySem.Spec L2
variable[az]
theorem ai{K:T3}{c:Str}{C C':Ve}(h:clsAt K c C)(h':clsAt K c C'):C=C':=by
 unfold clsAt at h h';rw[h]at h';cases h';rfl
theorem qg{K:T3}{H:Hp}{f:Str}:∀{fs:au}{ds:List D}{vs:aH}{d:D},aL K H ds vs->(fs.zip ds).lookup f=some d->∃v,(fs.zip vs).lookup f=some v/\cA K H d v
 |[],_,_,_,_,e=>by simp at e
 |_::_,[],_,_,_,e=>by simp at e
 |g::fs,x::ds,vs,d,h,e=>by
  rw[aV]at h;obtain⟨v,r,rfl,h1,h2⟩:=h;rw[SZ,Se]at e ⊢;cases hg:f==g with
  |true=>rw[hg]at e;cases e;exact⟨v,rfl,h1⟩
  |false=>rw[hg]at e;exact qg h2 e
theorem sU{f:Str}:∀{fs:au}{vs:aH},fs.contains f=false->(fs.zip vs).lookup f=none
 |[],_,_=>by simp
 |_::_,[],_=>by simp
 |g::fs,x::vs,h=>by
  rw[S0,S3]at h;rw[SZ,Se,h.1];exact sU h.2
noncomputable def aw(f:Str)(cs:au)(d:D):bE:=match d with
 |.obj c fs vs=>if cs.contains c then(fs.zip vs).lookup f else none
 |_=>none
noncomputable def bj(K:T3)(f:Str)(cs:au):Prop:=∀c∈cs,∀C,clsAt K c C->kN K C/\cM K C f
section
variable{X:Cx}{a o e:Vf}{es:bu}{fa fo:FX}{fas:aW}{f m x:Str}{cs:au}{pos apos p:Pos}{k k':Nat}{ps:au}
noncomputable def MethAt(P:Vj)(w:Vi)(K:T3)(mg:cu)(base:Vl)(k:Nat)(c m:Str)(ps:au)(g:cg):Prop:=
 ∃C f fd,clsAt K c C/\kN K C/\Meth K C m f/\hJ P w K mg base (lX P w) k f fd ps (Ae K ps.length g)/\Binds K fd ps []
noncomputable def cQ(m:Str)(tbl:List (Str×(cg)))(fo:FX)(fas:aW):FX:=λρ=>(fo ρ).bind λo=>match o with
 |.obj c fs vs=>match tbl.lookup c with
  |some g=>if fs.contains m then un else(fas ρ).bind λas=>g (o::as)
  |none=>un
 |_=>un
noncomputable def ql(P:Vj)(w:Vi)(K:T3)(mg:cu)(base:Vl)(k:Nat)(m:Str)(ps:au)(tbl:List (Str×(cg))):Prop:=
 ∀c g,tbl.lookup c=some g->MethAt P w K mg base k c m ps g/\Ar ps.length g
theorem Fq{P:Vj}{w:Vi}{K:T3}{mg:cu}{base:Vl}:ql P w K mg base k m ps []:=λ_ _ h=>nomatch h
theorem BI{P:Vj}{w:Vi}{K:T3}{mg:cu}{base:Vl}{c:Str}{g:cg}{tbl:List (Str×(cg))}(h:MethAt P w K mg base k c m ps g)(hn:Ar ps.length g)(t:ql P w K mg base k m ps tbl):ql P w K mg base k m ps ((c,g)::tbl):=λc' g' e=>by
 rw[Se]at e;cases hc:c'==c with
 |true=>
  rw[hc]at e;cases e
  have:c'=c:=by simpa using hc
  subst this;exact⟨h,hn⟩
 |false=>rw[hc]at e;exact t c' g' e
theorem MethAt.mono{P:Vj}{w:Vi}{K:T3}{mg:cu}{base:Vl}{c:Str}{g:cg}(h:MethAt P w K mg base k c m ps g)(hk:k<=k'):MethAt P w K mg base k' c m ps g:=by
 obtain⟨C,f,fd,h1,h2,h3,h4,h5⟩:=h;exact⟨C,f,fd,h1,h2,h3,h4.mono hk,h5⟩
theorem uL{tbl:List (Str×(cg))}{args:bu}{pl:Sem Bool}(tb:ql X.prog X.w X.K X.mg X.base k m ps tbl)(hr:gq k X.A)(ho:FE X o fo)
  (hc:∀ (pins:aS) (s1:Vh) (σ:St) (H1:Hp) (O:aD) (ρ:aq) (a f:Ve) (od:D) (Q:VK) (g:cg) (fd:VU) (w0:V),Uq X.K (.ref f)=true->hJ X.prog X.w X.K X.mg X.base (lX X.prog X.w) k f fd ps (Ae X.K ps.length g)->Binds X.K fd ps []->Ar ps.length g->Inv X pins σ H1 s1->dH X.K O H1 ρ σ->cA X.K (hid H1 O) od (.ref a) ->
   (fA X σ O H1 ((fas ρ).bind λas=>g (od::as)) λd=>∀v H',aT H1 H'->cA X.K (hid H' O) d v->Q v H')->
   Vs (model X.prog X.w) X.A (VQ pos (.ref f) [.ref a] (backTo pos (Vt args X.env)) (backToKw pos (VR [] X.env))) (EP X pins σ Q) X.xe s1)
  (ht:eval (.Call (.Attribute o m apos) args [] pos) X.env=(do
   let ov<-eval o X.env
   standAt apos.atName
   let (f,first)<-holding [ov] (getMethod ov m pl)
   VQ pos f first (backTo pos (Vt args X.env)) (backToKw pos (VR [] X.env)))):
  FE X (.Call (.Attribute o m apos) args [] pos) (cQ m tbl fo fas):=by
 rintro pins s σ H Q I ⟨O,ρ,E,hF⟩;refine vp ho I ?_ ht;refine⟨O,ρ,E,(fA.bind hF).imp λd hF v H1 s1 d1=>?_⟩;cases d with
 |obj c fs vs=>
  have hF':fA X σ O H (match tbl.lookup c with|some g=>if fs.contains m then un else(fas ρ).bind λas=>g (.obj c fs vs::as)|none=>un) _:=hF;cases hg:tbl.lookup c with
  |none=>rw[hg]at hF';exact hF'.elim
  |some g=>
   rw[hg]at hF';have hF2:fA X σ O H (if fs.contains m then un else(fas ρ).bind λas=>g (.obj c fs vs::as)) _:=hF';cases hm:fs.contains m with
   |true=>rw[hm]at hF2;exact hF2.elim
   |false=>
    rw[hm]at hF2;have hF3:fA X σ O H ((fas ρ).bind λas=>g (.obj c fs vs::as)) _:=hF2;have d0:=d1;obtain⟨a,ws,ev,g1,g2,C,dx,g3,g4⟩:=MC.mp d1;obtain⟨⟨C',f,fd,m1,m2,m3,m4,m5⟩,ar⟩:=tb c g hg;have eC:=ai g3 m1;subst eC;subst ev;refine⟨a,C,dx,_,f,rfl,aJ H1 O _ _ g4,m2,m3,sU hm,λs2 I2=>?_⟩;exact hc pins s2 σ H1 O ρ a f _ Q g fd (.ref a) m3.kp m4 m5 ar I2 (E.same s1) d0 ((hF3.mono s1).imp λd q v H2 s2 d2=>q v H2 (s1.trans s2) d2)
 |_=>exact hF.elim
theorem qD{σ:St}{O:aD}{H:Hp}{g:cg}{ds:List D}{vs:aH}{Q:VK}{n:Nat}(ar:Ar n g)(hO:dI H O)(d1:aL X.K (hid H O) ds vs)(h:fA X σ O H (g ds) λd=>∀v H',aT H H'->cA X.K (hid H' O) d v->Q v H'):∃E,kg (lX X.prog X.w) X σ E/\Ae X.K n g vs H Q E:=by
 cases hg:g ds with
 |ok d=>
  rw[hg]at h;refine⟨E0,yy,O,ds,by rw[<-d1.length];exact ar ds (by rw[hg];intro z;cases z),hO,d1,?_⟩;rw[hg];exact h
 |error z=>
  rw[hg]at h;cases z with
  |none=>exact h.elim
  |some x=>
   refine⟨xP X O H x,xE h,O,ds,by rw[<-d1.length];exact ar ds (by rw[hg];intro z;cases z),hO,d1,?_⟩;rw[hg];exact vv
theorem Aq{P:Vj}{w:Vi}{K:T3}{mg:cu}{base:Vl}{c y qual:Str}{C f:Ve}{fd:VU}{st:Vg}{N:au}{B:bK}(h1:clsAt K c C)(h2:kN K C)(h3:Meth K C m f)(F:pf K y qual st f fd)(b:Binds K fd ps [])(SC:b7 N ps (aB st))(hb:BodyOk P w K mg base k N qual st f B):
  MethAt P w K mg base (k+1) c m ps (aj B ps.length N.length):=⟨C,f,fd,h1,h2,h3,tX F SC hb,b⟩
noncomputable def Qa(C:Ve)(fs:au):Sp:=λvs H Q _=>∃x dx as,vs=.ref x::as/\as.length=fs.length/\H x=some (.ins C dx [])/\Q .non (upd H x (.ins C dx (fs.zip as)))
noncomputable def dj(P:Vj)(w:Vi)(K:T3)(mg:cu)(base:Vl)(k:Nat)(c:Str)(ps fs:au):Prop:=
 ∃C f fd,clsAt K c C/\Mk K C f/\hJ P w K mg base (lX P w) k f fd ps (Qa C fs)/\Binds K fd ps []/\mg c=some (.ref C)
noncomputable def fNew(c:Str)(fs:au)(fas:aW):FX:=λρ=>(fas ρ).bind λas=>if as.length=fs.length then .ok (.obj c fs as)else un
theorem oE{K:T3}{H1:Hp}{O:aD}{c:Str}{fs:au}{as:List D}{vs:aH}{C x dx:Ve}(hc:clsAt K c C)(hl:as.length=fs.length)(d1:aL K (hid H1 O) as vs)(hO:dI H1 O)(hx:H1 x=none)(hd:H1 dx=none)(ne:dx≠x):
  aT H1 (upd (upd (upd H1 dx (.own x)) x (.ins C dx [])) x (.ins C dx (fs.zip vs)))/\cA K (hid (upd (upd (upd H1 dx (.own x)) x (.ins C dx [])) x (.ins C dx (fs.zip vs))) O) (.obj c fs as) (.ref x):=by
 have sm:aT H1 (upd (upd (upd H1 dx (.own x)) x (.ins C dx [])) x (.ins C dx (fs.zip vs))):=λb o h=>by
  have n1:=aQ h hx;have n2:=aQ h hd;rw[ay n1,ay n1,ay n2];exact h
 exact⟨sm,MC.mpr ⟨x,vs,rfl,d1.mono (bV sm),by rw[<-d1.length,hl],C,dx,hc,by rw[lH (hO.not hx),aA]⟩⟩
theorem Gk{X:Cx}:xo (lX X.prog X.w) X E0:=λ_ _ _ _ _ _ _ h=>by
 obtain⟨_,_,_,_,_,_,_,_,_,_,_,_,_,_,z⟩:=h;exact z.elim
theorem qI(f:Str)(v:V):∀{fs:List (Str×V)},(fs.map (·.1)).contains f=false->jP f v fs=fs++[(f,v)]
 |[],_=>rfl
 |(g,w)::fs,h=>by
  rw[RJ,S0,S3]at h;have ne:¬g=f:=λz=>by
   have:=h.1
   rw[z]at this;simp at this
  have:=qI f v (fs:=fs) h.2
  unfold jP;simp only[ne,if_false,this,Si]
noncomputable def yk(X:Cx)(cs:au)(body:eK)(fs:au)(i:Nat):Prop:=
 ∃t,uG X body t/\∀(D:Ends)(σ:St)(H:Hp)(x dx C:Ve)(done:List (Str×V))(as:aH),σ[0]?=some (some (.ref x))->(∀j v,as[j]?=some v->σ[i+j]?=some (some v))->as.length=fs.length->kN X.K C->(∀f∈fs,cM X.K C f)->done.length+fs.length<1000->(done.map (·.1)++fs).Nodup->H x=some (.ins C dx done)->
  D.nx σ (upd H x (.ins C dx (done++fs.zip as)))->t D σ H
theorem dX{st:Vg}{f:Str}{i:Nat}{o v:Vf}{p1 p2:Pos}(hst:st=.Assign [.Attribute o f p1] v p2)(ho:PE X o (uk 0))(hv:PE X v (uk i))(hs:swapsWith v (some (.Attribute o f p1)) p2.line X.env=pure false):yk X cs [st] [f] i:=by
 subst hst;refine⟨_,t5 (C1 ho hv hs),λD σ H x dx C done as h0 ha hl cl na hz nd hx q=>?_⟩;obtain⟨a,rfl⟩:∃a,as=[a]:=by
  match as,hl with
  |[a],_=>exact⟨a,rfl⟩
 refine⟨a,ha 0 a rfl,.ref x,h0,x,C,dx,done,rfl,hx,cl,na f (List.mem_singleton.mpr rfl),by simp at hz;omega,?_⟩;rw[qI f a (by
  have:=nd
  rw[S4]at this;have h3:=this.2.2;cases hc:(done.map (·.1)).contains f with
  |false=>rfl
  |true=>exact absurd rfl (h3 f (List.contains_iff_mem.mp hc) f (List.mem_singleton.mpr rfl)))]
 exact q
theorem cz{st:Vg}{rest:eK}{f:Str}{fs:au}{i:Nat}{o v:Vf}{p1 p2:Pos}(hst:st=.Assign [.Attribute o f p1] v p2)(ho:PE X o (uk 0))(hv:PE X v (uk i))(hs:swapsWith v (some (.Attribute o f p1)) p2.line X.env=pure false)(hr:yk X cs rest fs (i+1)):yk X cs (st::rest) (f::fs) i:=by
 subst hst;obtain⟨t,ht,hq⟩:=hr;refine⟨_,uQ (C1 ho hv hs) ht,λD σ H x dx C done as h0 ha hl cl na hz nd hx q=>?_⟩;obtain⟨a,as,rfl⟩:∃a r,as=a::r:=by
  match as,hl with
  |a::r,_=>exact⟨a,r,rfl⟩
 have hno:(done.map (·.1)).contains f=false:=by
  have:=nd
  rw[S4]at this;have h3:=this.2.2;cases hc:(done.map (·.1)).contains f with
  |false=>rfl
  |true=>exact absurd rfl (h3 f (List.contains_iff_mem.mp hc) f Ru)
 refine⟨a,ha 0 a rfl,.ref x,h0,x,C,dx,done,rfl,hx,cl,na f Ru,by simp at hz;omega,?_⟩;rw[qI f a hno];refine hq D σ _ x dx C (done++[(f,a)]) as h0 (λj v e=>?_) (by simpa using hl) cl (λg hg=>na g (Rv _ hg)) (by simp at hz ⊢;omega) (by simpa [SR]using nd) (by rw[aA]) ?_
 ·have:=ha (j+1) v (by simpa using e)
  rw[show i+1+j=i+(j+1)by omega];exact this
 ·rw[tI,SR];exact q
theorem dU{P:Vj}{w:Vi}{K:T3}{mg:cu}{base:Vl}{c qual:Str}{C f:Ve}{fd:VU}{st:Vg}{fs:au}(h1:clsAt K c C)(hM:Mk K C f)(cl:kN K C)(na:∀g∈fs,cM K C g)(F:pf K "__init__" qual st f fd)(b:Binds K fd ps [])(hmg:mg c=some (.ref C))(SC:b7 ps ps (aB st))(hps:ps.length=fs.length+1)(hnd:fs.Nodup)(hlen:fs.length<1000)
  (hb:∀(cdv:Vc)(A:Vp)(outer:List Env)(s:Vh)(H:Hp)(E:XK),yk (jR K5 P w K mg base ps qual (aB st) f cdv A outer s H E).nox [] (eA st) fs 1):dj P w K mg base (k+1) c ps fs:=by
 refine⟨C,f,fd,h1,hM,?_,b,hmg⟩;refine hJ.any (F.ok SC (λvs H Q E h=>?_) λcdv A outer s H vs Q E hr h=>?_)
 ·obtain⟨x,dx,as,rfl,hl,_⟩:=h;rw[RH,hl,hps]
 ·obtain⟨t,ht,hq⟩:=hb cdv A outer s H E;obtain⟨x,dx,as,rfl,hl,hx,q⟩:=h;have hst:L2.start ps (.ref x::as)=(.ref x::as).map some:=by
   unfold L2.start;rw[RH,hl,hps,S5,S6,RO]
  refine⟨t,ht,hq _ _ H x dx C [] as (by rw[hst];rfl) (λj v e=>?_) hl cl na (by simpa using hlen) (by simpa using hnd) hx q⟩;rw[hst,Nat.add_comm,RJ,SW,RX,e];rfl
end
end TG
namespace TG
open PySem PySem.Spec L2
variable[az]
section
variable{X:Cx}
noncomputable def GH:List D->Option (au)
 |[]=>some []
 |.str x::r=>(GH r).bind λys=>some (x::ys)
 |_=>none
noncomputable def Qm:D->Option Str
 |.str z=>some z
 |_=>none
noncomputable def Pq(z:Str)(as:List D):bE:=match as with
 |[.lst xs]=>(GH xs).bind λys=>if small ((ys.map (λy=>y.length)).sum+ys.length*z.length)then some (.str (Txt.join z ys))else none
 |_=>none
noncomputable def Oz(a b:D):bE:=match a,b with
 |.bl c,.bl d=>some (.bl (c==d))
 |_,_=>none
noncomputable def EH(a b:D):bE:=match a,b with
 |.bl c,.bl d=>some (.bl (!(c==d)))
 |_,_=>none
end
structure Pg(K:T3)(C:Ve):Prop where
 makes:Ug K C=true
 init:T8 K (.ref C) "__init__"=some (some (.builtin "object.__init__"))
 kp:Uq K (.ref C)=true
section
variable{X:Cx}{C:Ve}{pins:aS}{σ:St}{H:Hp}{s:Vh}{Q:VK}
theorem run_plain(M:Pg X.K C)(I:Inv X pins σ H s)(h:∀x dx,H x=none->H dx=none->dx≠x->Q (.ref x) (upd (upd H dx (.own x)) x (.ins C dx []))):
  Vs (model X.prog X.w) X.A (call (.ref C) []) (EP X pins σ Q) X.xe s:=by
 have hq:=h (s.heap.objs.size+1) s.heap.objs.size (I.hok.fresh (RP _)) (I.hok.fresh (RB _)) (Rp (RM _));have I2:=Inv.made (C:=C) I;have e1:((s.heap.push Uj).push (TZ C s.heap.objs.size)).get? (s.heap.objs.size+1)=some (TZ C s.heap.objs.size):=by
  have:=UU (s.heap.push Uj) (o:=TZ C s.heap.objs.size) rfl
  rwa [UV]at this
 have hb:∀self,Uo (model X.prog X.w) s.heap (bindSpecial (.builtin "object.__init__") self) (.builtin "object.__init__",[self]):=λself=>PySem.W.Looks.of_pure (PySem.W.oi_bind self);refine VX (Ac I.kIn M.makes M.init hb ?_);have h3:Uo (model X.prog X.w) ((s.heap.push Uj).push (TZ C s.heap.objs.size)) (isInstance (.ref (s.heap.objs.size+1)) (.type "object")) true:=by
  have h4:Uo (model X.prog X.w) ((s.heap.push Uj).push (TZ C s.heap.objs.size)) (typeOf (.ref (s.heap.objs.size+1))) (.ref C):=PySem.W.Looks.andThen (PySem.W.Looks.ld e1) PySem.W.Looks.now;exact PySem.W.Looks.andThen h4 (((Ul I.kIn M.makes).top).keeps λb o q=>UT _ (UT _ q))
 refine Wj (b:=Builtin.«object.__init__») PySem.W.oi_plain PySem.W.entry_oi ?_;have ha:argsOk "object.__init__" {pos:=[Value.ref (s.heap.objs.size+1)],kw:=[]}:=PySem.W.oi_args _;refine PySem.W.check_slot (i:="object.__init__") (owner:="object") (n:="__init__") (self:=Value.ref (s.heap.objs.size+1)) (rest:=[]) (kw:=[]) PySem.W.oi_kind PySem.W.oi_split h3 ha ?_;rw[PySem.W.oi_run];exact VA ⟨rfl,V.ref (s.heap.objs.size+1),_,I2,rfl,hq⟩
noncomputable def AF(K:T3)(mg:cu)(c:Str):Prop:=∃C,clsAt K c C/\Pg K C/\mg c=some (.ref C)
noncomputable def anyB:List D->Option Bool
 |[]=>some false
 |.bl b::r=>(anyB r).bind λc=>some (b||c)
 |_=>none
noncomputable def vj:List D->bE
 |[.lst xs]=>(anyB xs).bind λb=>some (.bl b)
 |_=>none
theorem vC:∀{xs:List D}{b:Bool},anyB xs=some b->∃bs:List Bool,xs=bs.map .bl/\b=bs.any id
 |[],b,h=>by cases h;exact⟨[],rfl,rfl⟩
 |d::r,b,h=>by
  cases d with
  |bl x=>
   obtain⟨c,e1,e2⟩:=bind_some (show((anyB r).bind λc=>some (x||c))=some b from h);cases e2;obtain⟨bs,e3,e4⟩:=vC e1;exact⟨x::bs,by rw[RJ,e3],by rw[R9,e4];rfl⟩
  |_=>cases h
theorem range_any(bs:List Bool):((List.range bs.length).any λi=>(bs[i]?).getD false)=bs.any id:=by
 induction bs with
 |nil=>rfl
 |cons b bs ih=>
  rw[RH,Ss,R9,S7,R9,<-ih];rfl
theorem zJ(hc:X.calm=true):eX X (.builtin "any") (CA X.K vj):=by
 rintro pins s σ H xs us Q I r ⟨O,ds,d,hO,hd,hg,q⟩;unfold vj at hg;split at hg
 ·rename_i ys;obtain⟨bv,e1,e2⟩:=bind_some hg;cases e2;obtain⟨bs,eb,ev⟩:=vC e1;subst eb ev;obtain⟨v,evv,h1⟩:=hd.one;subst evv;obtain⟨p,vs,ep,g1,g2⟩:=cx.mp h1;subst ep;obtain⟨u,eu,ru⟩:=vals1 r;subst eu;cases ru;obtain⟨its,rv,pl,hz⟩:=I.list ((aJ H O).seq g1);have ei:=pM g2 rv;have hl:=pl.isList;have hlt:p<s.heap.objs.size:=by obtain⟨_,e,_⟩:=hl;exact UP e
  refine call_any_walk (VC hl ?_);refine⟨s.heap.objs.size,[s.heap.objs.size,p],[s.heap.objs.size],its.toArray.size,_,_,λi=>(bs[i]?).getD false,rfl,Walks.list (A:=X.A.in1) (I.ok.hd hc) _ p (Rp hlt) its.toArray,
   ⟨⟨_,UU _ rfl,rfl,rfl⟩,hl.push _⟩,λi v s' Q' E' hP hQ=>?_,λh' tk hk=>?_⟩
  ·have e:bs[i]?.map Value.bool=some v:=by
    rw[<-RX,<-ei]
    simpa using hP
   cases eb:bs[i]? with
   |none=>rw[eb]at e;cases e
   |some b=>
    rw[eb]at e;cases e;simp only[eb,Option.getD_some]at hQ;exact Vy hQ
  ·have e:((List.range its.toArray.size).any λi=>(bs[i]?).getD false)=bs.any id:=by
    have:its.toArray.size=bs.length:=(by rw[RE,ei,RK]);rw[this];exact range_any bs
   rw[e];have k:∀b x,s.heap.get? b=some x->h'.get? b=some x:=λb x e=>hk b x (λhm=>by rw[List.mem_singleton.mp hm]at e;exact Ro _ (UP e)) (UT _ e);exact⟨.bl _,H,I.kept k,rfl,q _ H (aT.refl H) (jC.mpr rfl)⟩
 ·cases hg
end
end TG
namespace TG
open PySem PySem.Spec PyProof.Rows L2
variable[az]
noncomputable def eM:List D->List D->Option Bool
 |[],[]=>some false
 |[],_::_=>some true
 |_::_,[]=>some false
 |a::as,b::bs=>match a,b with
  |.int i,.int j=>if i=j then eM as bs else some (decide (i<j))
  |.str x,.str y=>if x=y then eM as bs else some (decide (x.cps.toList<y.cps.toList))
  |_,_=>none
inductive gh:aN->List D->Prop where
 |nil:gh [] []
 |int (i:Int) (t:Tok) {vs:aN} {ds:List D} (h:gh vs ds):gh (.int i t::vs) (.int i::ds)
 |str (x:Str) (t:Tok) {vs:aN} {ds:List D} (h:gh vs ds):gh (.str x t::vs) (.str x::ds)
theorem gh.length:∀{vs:aN}{ds:List D},gh vs ds->vs.length=ds.length
 |_,_,.nil=>rfl
 |_,_,.int _ _ h=>by rw[RH,RH,h.length]
 |_,_,.str _ _ h=>by rw[RH,RH,h.length]
theorem Ge(A:Vp)(s:Vh)(a:Int)(t:Tok)(c:Int)(u:Tok):∃e,SeqAt.EqAt A s (.int a t) (.int c u) e/\(e=true↔a=c):=
 ⟨(a==c),SeqAt.EqAt.int_int a t c u,by simp⟩
theorem Gv(A:Vp)(s:Vh)(a:Str)(t:Tok)(c:Str)(u:Tok):∃e,SeqAt.EqAt A s (.str a t) (.str c u) e/\(e=true↔a=c):=
 ⟨(a==c),SeqAt.EqAt.str_str a t c u,by simp⟩
theorem KS(A:Vp)(s:Vh)(a:Str)(t:Tok)(c:Str)(u:Tok)(prog:Vj)(w:Vi)(E:bJ)(Q:bJ)(h:Q (.bool (decide (a.cps.toList<c.cps.toList))) s):
  Vs (model prog w) A (richCompare .Lt (.str a t) (.str c u)) Q E s:=
 (PySem.P.lt_str h:Vs (model prog w) A (Vw .Lt (.str a t) (.str c u)) Q E s)
section
open PySem.SeqAt
open PySem.AutoSeq1 (wpAny_loadPart')
open PySem.MeetsSeq PySem.MeetsSeq2 PySem.MeetsSeq3
set_option maxHeartbeats 1000000 in
theorem qU(l b:Ve)(items items2:Array Vc)(n n2:Nat)(dd dd2:Option Ve)(sl sl2:Array (Option Vc))(ns ms:List D)(r:Bool)(hi:gh items.toList ns)(hj:gh items2.toList ms)(hr:eM ns ms=some r):
  Meets (Builtin.«tuple.__lt__» ⟨[.ref l,.ref b],[]⟩)
   (fun _ R s=>s.heap.get? l=some { cls:=.type "tuple",dict:=dd,data:=.seq items n,slots:=sl }/\s.heap.get? b=some { cls:=.type "tuple",dict:=dd2,data:=.seq items2 n2,slots:=sl2 } /\
    R (.ok (.ret (.bool r))) s):=
 .of_wp λprog w A R s h=>by
  obtain⟨hp,g,d,tk,os⟩:=s;obtain⟨hl,hb,h⟩:=h;have f2:=AutoSeq1.sub_tuple_tuple;have z1:items.size=ns.length:=by rw[<-hi.length];simp
  have z2:items2.size=ms.length:=by rw[<-hj.length];simp
  wp_walk using wpAny_loadPart' hl,wpAny_loadPart' hb,wpAny_forIn_list _ (λrest b s'=>b.1=none/\s'=⟨hp,g,d,tk,os⟩/\∃(vs ws:aN)(ns' ms':List D),rest=vs.zip ws/\
   gh vs ns'/\gh ws ms'/\ns'.length+items2.size=ms'.length+items.size/\eM ns' ms'=some r/\R (.ok (.ret (.bool r))) ⟨hp,g,d,tk,os⟩) _
  case turn=>
   rintro⟨y,x⟩ rest b s' ⟨hb',rfl,vs,ws,ns',ms',hz,hvi,hwi,hlen,hL,hR⟩;cases hvi with
   |nil=>rw[List.zip_nil_left]at hz;cases hz
   |int a t hvi'=>
    cases hwi with
    |nil=>rw[S8]at hz;cases hz
    |str c u hwi'=>cases hL
    |int c u hwi'=>
     rw[SZ]at hz;injection hz with hyx hrest;injection hyx with hy hx;subst hy hx;have hL':(if a=c then eM _ _ else some (decide (a<c)))=some r:=hL;simp only[RH]at hlen;obtain⟨e,he,hiff⟩:=Ge A.in1 ⟨hp,g,d,tk,os⟩ a t c u;refine VB (he prog w _ _ ?_);cases e with
     |true=>
      rw[if_pos (hiff.mp rfl)]at hL'
      wp_walk
      exact⟨rfl,rfl,_,_,_,_,hrest,hvi',hwi',by omega,hL',hR⟩
     |false=>
      rw[if_neg (λq=>absurd (hiff.mpr q) RG)]at hL';cases hL';have hri:=HT.Kc A.in1 ⟨hp,g,d,tk,os⟩ a t c u prog w
      wp_walk using hri
      exact⟨_,rfl,by simpa using hR⟩
   |str a t hvi'=>
    cases hwi with
    |nil=>rw[S8]at hz;cases hz
    |int c u hwi'=>cases hL
    |str c u hwi'=>
     rw[SZ]at hz;injection hz with hyx hrest;injection hyx with hy hx;subst hy hx;have hL':(if a=c then eM _ _ else some (decide (a.cps.toList<c.cps.toList)))=some r:=hL;simp only[RH]at hlen;obtain⟨e,he,hiff⟩:=Gv A.in1 ⟨hp,g,d,tk,os⟩ a t c u;refine VB (he prog w _ _ ?_);cases e with
     |true=>
      rw[if_pos (hiff.mp rfl)]at hL'
      wp_walk
      exact⟨rfl,rfl,_,_,_,_,hrest,hvi',hwi',by omega,hL',hR⟩
     |false=>
      rw[if_neg (λq=>absurd (hiff.mpr q) RG)]at hL';cases hL';have hri:=KS A.in1 ⟨hp,g,d,tk,os⟩ a t c u prog w
      wp_walk using hri
      exact⟨_,rfl,by simpa using hR⟩
  case fin=>
   rintro⟨b1,b2⟩ s' ⟨hb',rfl,vs,ws,ns',ms',hz,hvi,hwi,hlen,hL,hR⟩;simp only at hb';subst hb';have hv:r=decide (items.size<items2.size):=by
    have l1:=hvi.length;have l2:=hwi.length;cases ns' with
    |nil=>
     cases ms' with
     |nil=>
      simp only[Sa]at hlen;cases hL;exact(decide_eq_false ‹0›).symm
     |cons c u=>
      simp only[Sa,RH]at hlen;cases hL;exact(decide_eq_true ‹0›).symm
    |cons a t=>
     cases ms' with
     |nil=>
      simp only[Sa,RH]at hlen;cases hL;exact(decide_eq_false ‹0›).symm
     |cons c u=>
      have:=congrArg List.length hz
      simp only[Sa,List.length_zip,l1,l2,RH]at this;omega
   rw[hv]at hR
   wp_walk
   exact⟨_,rfl,by simpa [Builtin.Tuple.tupleCompareSizes]using hR⟩
  case h=>
   exact⟨rfl,rfl,items.toList,items2.toList,ns,ms,rfl,hi,hj,by omega,hr,h⟩
end
section
variable{X:Cx}
theorem Ax{α:Type}{c:Bool}{o:Option α}{a:α}(h:(if c then o else none)=some a):c=true/\o=some a:=by
 cases c with
 |true=>exact⟨rfl,h⟩
 |false=>cases h
theorem wZ{prog:Vj}{w:Vi}{A:Vp}{E:bJ}{s:Vh}{l b:Ve}{items items2:Array Vc}{ns ms:List D}{r:Bool}{Q:bJ}(hl:IsTup s.heap l items)(hb:IsTup s.heap b items2)(hi:gh items.toList ns)(hj:gh items2.toList ms)(hr:eM ns ms=some r)
  (hu:A.units<VS) (h:Q (.bool r) s):Vs (model prog w) A (Vw .Lt (.ref l) (.ref b)) Q E s:=by
 obtain⟨⟨cls,dd,data,sl⟩,ho,hc,n,hd⟩:=id hl;obtain⟨⟨cls2,dd2,data2,sl2⟩,ho2,hc2,n2,hd2⟩:=id hb;simp only at hc hd hc2 hd2;subst hc hd hc2 hd2;exact richCompare_meets_room (op:=.Lt) ⟨_,ho,rfl⟩ ⟨_,ho2,rfl⟩ PySem.F.slot_tuple_lt PySem.F.entry_tuple_lt (PySem.F.args_tuple_lt_2 _ _) (qU l b items items2 n n2 dd dd2 sl sl2 ns ms r hi hj hr)
  ⟨ho,ho2,show Value.bool r≠Value.notImplemented/\Q (.bool r) s from⟨(λx=>nomatch x),h⟩⟩ hu
noncomputable def oO:List D->Bool
 |[]=>true
 |.int _::r=>oO r
 |.str _::r=>oO r
 |_=>false
theorem kt{K:T3}{H:Hp}:∀{ds:List D}{vs:aH}{us:aN},oO ds=true->aL K H ds vs->Vals vs us->gh us ds
 |[],vs,us,_,h,r=>by
  rw[cB]at h;subst h;cases r;exact .nil
 |d::ds,vs,us,hf,h,r=>by
  obtain⟨v,r',e,h1,h2⟩:=aV.mp h;subst e;cases r with
  |cons q1 q2=>
   cases d with
   |int i=>
    rw[eO]at h1;subst h1;obtain⟨t,rfl⟩:=q1;exact .int i t (kt hf h2 q2)
   |str x=>
    rw[eR]at h1;subst h1;obtain⟨t,rfl⟩:=q1;exact .str x t (kt hf h2 q2)
   |_=>cases hf
noncomputable def o5(a b:D):bE:=match a,b with
 |.int i,.int j=>some (.bl (decide (i<j)))
 |.str x,.str y=>some (.bl (decide (x.cps.toList<y.cps.toList)))
 |.tup xs,.tup ys=>if oO xs&&oO ys then(eM xs ys).bind λr=>some (.bl r)else none
 |_,_=>none
theorem ua(hu:X.A.units+64<VS):iA X (Vw .Lt) (rD X.K o5):=by
 rintro pins s σ H x y u v Q I rx ry ⟨O,a,b,d,hO,ha,hb,hg,q⟩;cases a with
 |int i=>
  cases b with
  |int j=>
   cases hg;exact Kb pins s σ H x y u v Q I rx ry ⟨i,j,eO.mp ha,eO.mp hb,q _ H (aT.refl H) (jC.mpr rfl)⟩
  |_=>cases hg
 |str i=>
  cases b with
  |str j=>
   cases hg;exact yO pins s σ H x y u v Q I rx ry ⟨i,j,eR.mp ha,eR.mp hb,q _ H (aT.refl H) (jC.mpr rfl)⟩
  |_=>cases hg
 |tup xs=>
  cases b with
  |tup ys=>
   obtain⟨h1,h2⟩:=Ax hg;obtain⟨r,e1,e2⟩:=bind_some h2;cases e2;rw[R4]at h1;obtain⟨p,vs,ex,g1,g2⟩:=cv.mp ha;obtain⟨p',vs',ey,g1',g2'⟩:=cv.mp hb;subst ex ey;cases rx;cases ry;obtain⟨its,r1,t1,_⟩:=I.tuple (cj (aJ H O) g1);obtain⟨its2,r2,t2,_⟩:=I.tuple (cj (aJ H O) g1');exact wZ t1 t2 (kt h1.1 g2 r1) (kt h1.2 g2' r2) e1 ‹0› (Cq I (q _ H (aT.refl H) (jC.mpr rfl)) rfl)
  |_=>cases hg
 |_=>cases hg
end
end TG
namespace TG
open PySem PySem.Spec L2
variable[az]
noncomputable def hV(x:Str)(n:Int):Str:=if(n==1||x.length==0)=true then x else⟨(List.replicate n.toNat x.cps).foldl (·++·) #[]⟩
theorem foldl_size:∀(n:Nat)(c a:Array Nat),((List.replicate n c).foldl (·++·) a).size=a.size+n*c.size
 |0,_,a=>by simp
 |n+1,c,a=>by
  rw[S9,Tb,foldl_size n c,Array.size_append,Nat.succ_mul];omega
theorem lW{x:Str}{n:Int}(h:1<=n):(hV x n).length=n.toNat*x.length:=by
 unfold hV;split
 ·rename_i q;rw[Sy]at q;rcases q with q|q
  ·have:n=1:=(by simpa using q);rw[this];simp
  ·have:x.length=0:=(by simpa using q);rw[this];simp
 ·show((List.replicate n.toNat x.cps).foldl (·++·) #[]).size=n.toNat*x.cps.size;rw[foldl_size];simp
noncomputable def rp(a b:D):bE:=match a,b with
 |.int i,.int j=>iE (.int i) (.int j)
 |.str x,.int n=>if decide (1<=n/\n<=1000/\x.length<=1000)then some (.str (hV x n))else none
 |_,_=>none
section
variable{X:Cx}
theorem Fv:iA X (VG .Mult) (rD X.K rp):=by
 rintro pins s σ H x y u v Q I rx ry ⟨O,a,b,d,hO,ha,hb,hg,q⟩;cases a with
 |int i=>
  cases b with
  |int j=>exact AW pins s σ H x y u v Q I rx ry (AR (.int i) (.int j) d x y O H Q hO hg ha hb q)
  |_=>cases hg
 |str z=>
  cases b with
  |int n=>
   obtain⟨h1,h2⟩:=bf hg;subst h2;obtain⟨n1,n2,zl⟩:=of_decide_eq_true h1;rw[eR]at ha;rw[eO]at hb;subst ha hb;obtain⟨t,rfl⟩:=rx;obtain⟨t',rfl⟩:=ry;have zn:z.length*n.toNat<=1000*1000:=Nat.mul_le_mul zl ‹0›;refine P.mul_str (by rw[decide_eq_false ‹0›,decide_eq_false ‹0›];rfl) (λ_ _=>?_) (λ_ _=>?_) ?_
   ·have:(2^63-1:Int)/n>=(2^63-1)/1000:=by
     rw[ge_iff_le,Int.le_ediv_iff_mul_le ‹0›];have h3:(2^63-1:Int)/1000*n<=(2^63-1)/1000*1000:=Int.mul_le_mul_of_nonneg_left n2 (by decide);have h4:(2^63-1:Int)/1000*1000<=2^63-1:=(by decide);omega
    have h5:(2^63-1:Int)/1000=9223372036854775:=(by decide);omega
   ·unfold Builtin.Str.tooLong;rw[decide_eq_false];rw[VH];omega
   ·rw[if_neg ‹0›];have fin:∀tk,EP X pins σ Q (.str (hV z n) tk) {s with toks:=s.toks+1}/\EP X pins σ Q (.str (hV z n) tk) s:=λtk=>⟨⟨.str (hV z n),H,I.tok _,⟨_,rfl⟩,q _ H (aT.refl H) (eR.mpr rfl)⟩,⟨.str (hV z n),H,I,⟨_,rfl⟩,q _ H (aT.refl H) (eR.mpr rfl)⟩⟩
    by_cases e:(n==1||z.length==0)=true
    ·rw[if_pos e]
     have:hV z n=z:=(by unfold hV;rw[if_pos e]);rw[this]at fin;exact(fin t).2
    ·rw[if_neg e];have e2:hV z n=⟨(List.replicate n.toNat z.cps).foldl (·++·) #[]⟩:=(by unfold hV;rw[if_neg e]);rw[e2]at fin;refine⟨?_,(fin _).1⟩;have rl:=lW (x:=z) (n:=n) ‹0›;rw[e2]at rl;rw[rl,VH,Nat.mul_comm];omega
  |_=>cases hg
 |_=>cases hg
end
structure NotIn(K:T3)(D C:Ve):Prop where
 ne:D≠C
 cls:(UA K C).isSome=true
 ty:Uh K (.ref C)=some (.type "type")
 ins:UB K (.ref C) (.type "type")=some true
 sub:UC K (.ref D) (.ref C)=some false
 fc:T8 K (.ref D) "__class__"=some (some (.builtin "object.__class__"))
 sg:UD K (.builtin "object.__class__") "__get__"=some (some (.builtin "getset_descriptor.__get__"))
 tk:UE K (.builtin "object.__class__")=some true
 mo:UG K D (.type "object")=some true
section
open PySem.W PySem.Calls PyProof.Rows
variable{prog:Vj}{w:Vi}{A:Vp}{E:bJ}{s:Vh}{K:T3}{x D C:Ve}{ox od:Obj}
theorem w6{Q:Option Vc->df}(X:K.In s.heap)(I:InstAt s.heap x ox D (some od))(cl:L2.kN K D)(n:NotIn K D C)(h:Q (some (.ref D)) {s with toks:=s.toks+1}):Vs (model prog w) A (getAttr? (.ref x) "__class__") Q E s:=by
 obtain⟨hga,hk⟩:=plainGet_of (cl.get "__class__");have hf:=findObj_data (od:=od) (name:="__class__") (by obtain⟨cd,hc,_⟩:=Wk cl.hd;rw[hc];rfl) n.fc n.sg n.tk;obtain⟨hh,g,d,t,os⟩:=s;have L0:=I.type (M:=model prog w);have L1:=looks_findIn (M:=model prog w) X hga;have L2:=looks_find (M:=model prog w) X I hf;have L3:=looks_findIn (M:=model prog w) X hk;unfold getAttr? getAttrBy? getAttrBy;refine VB (wpAny_mkText (VB (wpAny_attempt (V7 (VB (L0.at (VB (L1.at ?_))))))));show Vs _ _ (getAttrEveryday _ _ _) _ _ _;refine VB (wpAny_onRaise (wpAny_runValue (Wm PySem.F.plainObj_entry_getattr_hooked ?_)));refine VB (VA (VB (L0.at (VB (L2.at (VB (L3.at ?_)))))));show Vs _ _ (holding [_] (call _ [_,.ref x,.ref D]) >>= ret) _ _ _;refine VB (V7 (VX (class_get (s:=⟨hh,g,d,t+1,os⟩) (ox:=ox) (od:=some od) X I n.mo ?_)));refine VA ?_;show Vs _ _ (handedOut (.ref D)) _ _ _;exact handed_on rfl (VA h)
theorem uU{dep:Int}{tk:Tok}{Q:PySem.Fin->df}(X:K.In s.heap)(I:InstAt s.heap x ox D (some od))(cl:L2.kN K D)(n:NotIn K D C)(h:Q (.done (.ret (.bool false))) {s with toks:=s.toks+1}):
  Vs (model prog w) A (Builtin.«isinstance.nested» ⟨[.ref x,.ref C,.int dep tk],[]⟩) Q E s:=by
 have ca:=λ{A E}{Q:Option Vc->df}(h:Q (some (.ref D)) {s with toks:=s.toks+1})=>w6 (prog:=prog) (w:=w) (A:=A) (E:=E) X I cl n h;obtain⟨hh,g,d,tt,os⟩:=s;have ht:=I.type (M:=model prog w);unfold Builtin.«isinstance.nested»;refine VB (ht.at ?_);rw[if_neg (λq=>n.ne (by have:=beq_iff_eq.mp q;cases this;rfl))];have L1:=looks_typeIn (M:=model prog w) X n.ty;have L2:=looks_instIn (M:=model prog w) X n.ins;have L4:Looks (model prog w) hh (isSubtype (.ref D) (.ref C)) false:=looks_subIn X n.sub;have L3:Looks (model prog w) hh (isInstance (.ref x) (.ref C)) false:=ht.andThen L4;refine VB (L1.at ?_);rw[if_pos (by decide)]
 k_delta "plainIsInstance"
 unfold isType
 repeat lk
 have e0:=n.cls;unfold clsIn at e0;split at e0
 ·rename_i ho;refine nd_load (X _ _ ho) (nd_pure (VA ?_));simp only[Tc,Sf,if_false];refine VB (L3.at ?_);simp only[Sf,if_false];refine VB (ca ?_);have e1:(clsIn K D).isSome=true:=by obtain⟨cd,hc,_⟩:=Wk cl.hd;rw[hc];rfl
  unfold clsIn at e1;split at e1
  ·rename_i ho2;refine VB (nd_load (X _ _ ho2) (VA ?_));simp only[Tc,Sf,if_false];refine VB (Wf ?_);refine L4.at ?_;exact VA h
  ·cases e1
 ·cases e0
theorem yG{Q:bJ}(X:K.In s.heap)(I:InstAt s.heap x ox D (some od))(cl:L2.kN K D)(n:NotIn K D C)(h:Q (.bool false) {s with toks:=s.toks+1}):
  Vs (model prog w) A (call (.builtin "isinstance") [.ref x,.ref C]) Q E s:=
 call_isinstance (S:=λ_ R s=>(K.In s.heap/\InstAt s.heap x ox D (some od))/\R (.ok (.ret (.bool false))) {s with toks:=s.toks+1})
  (λ_ _ _ _ _ hs=>isinstance_outer (uU hs.1.1 hs.1.2 cl n hs.2) (λz=>nomatch z)) ⟨⟨X,I⟩,h⟩
end
noncomputable def fj(K:T3)(mg:cu)(x:Str)(yes no:au):Prop:=∃C,mg x=some (.ref C)/\(∀c∈yes,∀D,clsAt K c D->UH K (.ref D) C=true)/\∀c∈no,∀D,clsAt K c D->kN K D/\NotIn K D C
noncomputable def bF(yes no:au)(d:D):bE:=match d with
 |.obj c _ _=>if yes.contains c then some (.bl true)else if no.contains c then some (.bl false)else none
 |_=>none
noncomputable def MN(K:T3)(C:Ve):aH->Hp->VK->Prop:=λxs H Q=>∃p D dx fs,xs=[.ref p,.ref C]/\H p=some (.ins D dx fs)/\((UH K (.ref D) C=true/\Q (.bl true) H)\/(kN K D/\NotIn K D C/\Q (.bl false) H))
section
variable{X:Cx}{p pos:Pos}{e:Vf}{C:Ve}
theorem CG:eX X (.builtin "isinstance") (MN X.K C):=by
 rintro pins s σ H xs us Q I r ⟨p,D,dx,fs,ex,hp,hq⟩;subst ex;obtain⟨u,w',rfl,rx,rt⟩:=vals2 r;cases rx;cases rt;obtain⟨mA,om,_⟩:=pA I.hok hp;obtain⟨od,ia,_⟩:=om.look;rcases hq with⟨hi,q⟩|⟨cl,n,q⟩
 ·exact PySem.W.isi_call I.kIn (λM=>ia.type) hi (λz=>nomatch z) ⟨.bl true,H,I,rfl,q⟩
 ·exact yG I.kIn ia cl n ⟨.bl false,H,I.tok _,rfl,q⟩
end
end TG
namespace TG
open PySem PySem.Spec PyProof.Rows PySem.W L2
variable[az]
theorem qa:∀a:List Nat,¬a<a
 |[]=>Td _
 |x::xs=>λh=>by
  rcases List.cons_lt_cons_iff.mp h with h|⟨_,h⟩
  ·omega
  ·exact qa xs h
theorem jV:∀{a b c:List Nat},a<b->b<c->a<c
 |_,_,[],_,h=>absurd h (Td _)
 |_,[],_::_,h,_=>absurd h (Td _)
 |[],_::_,_::_,_,_=>Te _ _
 |x::xs,y::ys,z::zs,h,h'=>by
  rw[Tf]at h h' ⊢;rcases h with h|⟨e,h⟩<;>rcases h' with h'|⟨e',h'⟩
  ·exact .inl ‹0›
  ·exact .inl ‹0›
  ·exact .inl ‹0›
  ·exact .inr ⟨by omega,jV h h'⟩
theorem CI:∀a b:List Nat,a<b\/a=b\/b<a
 |[],[]=>.inr (.inl rfl)
 |[],_::_=>.inl (Te _ _)
 |_::_,[]=>.inr (.inr (Te _ _))
 |x::xs,y::ys=>by
  rw[Tf,Tf];rcases Nat.lt_trichotomy x y with h|h|h
  ·exact .inl (.inl h)
  ·rcases CI xs ys with q|q|q
   ·exact .inl (.inr ⟨h,q⟩)
   ·exact .inr (.inl (by rw[h,q]))
   ·exact .inr (.inr (.inr ⟨h.symm,q⟩))
  ·exact .inr (.inr (.inl h))
theorem Cu{x y:Str}(h:x.cps.toList=y.cps.toList):x=y:=by
 cases x;cases y;congr 1;exact Array.toList_inj.mp h
inductive Sh:List Bool->List D->Prop where
 |nil:Sh [] []
 |int (i:Int) {bs:List Bool} {ds:List D} (h:Sh bs ds):Sh (true::bs) (.int i::ds)
 |str (x:Str) {bs:List Bool} {ds:List D} (h:Sh bs ds):Sh (false::bs) (.str x::ds)
theorem Sh.length:∀{σ:List Bool}{a:List D},Sh σ a->a.length=σ.length
 |_,_,.nil=>rfl
 |_,_,.int _ h=>by rw[RH,RH,h.length]
 |_,_,.str _ h=>by rw[RH,RH,h.length]
theorem tM:∀{σ:List Bool}{a:List D},Sh σ a->oO a=true
 |_,_,.nil=>rfl
 |_,_,.int i h=>by
  unfold oO;exact tM h
 |_,_,.str i h=>by
  unfold oO;exact tM h
theorem qu(i j:Int)(as bs:List D):eM (.int i::as) (.int j::bs)=if i=j then eM as bs else some (decide (i<j)):=by rw[eM]
theorem qo(x y:Str)(as bs:List D):eM (.str x::as) (.str y::bs)=if x=y then eM as bs else some (decide (x.cps.toList<y.cps.toList)):=by rw[eM]
theorem Dc:eM [] []=some false:=by rw[eM]
theorem mD:∀{σ:List Bool}{a:List D},Sh σ a->eM a a=some false
 |_,_,.nil=>Dc
 |_,_,.int i h=>by rw[qu,if_pos rfl];exact mD h
 |_,_,.str x h=>by rw[qo,if_pos rfl];exact mD h
theorem pD{σ:List Bool}{a b:List D}(h1:Sh σ a)(h2:Sh σ b):(eM a b=some true/\eM b a=some false/\a≠b)\/a=b\/(eM b a=some true/\eM a b=some false/\a≠b):=by
 induction h1 generalizing b with
 |nil=>cases h2;exact .inr (.inl rfl)
 |int i h ih=>
  cases h2 with|int j h'=>
  rw[qu,qu];by_cases e:i=j
  ·subst e;rw[if_pos rfl,if_pos rfl];rcases ih h' with⟨q1,q2,q3⟩|q|⟨q1,q2,q3⟩
   ·exact .inl ⟨q1,q2,λz=>q3 (by injection z)⟩
   ·exact .inr (.inl (by rw[q]))
   ·exact .inr (.inr ⟨q1,q2,λz=>q3 (by injection z)⟩)
  ·rw[if_neg e,if_neg (λz=>e z.symm)];rcases Int.lt_or_gt_of_ne e with q|q
   ·exact .inl ⟨by rw[decide_eq_true q],by rw[decide_eq_false ‹0›],λz=>e (by injection z with z1;injection z1)⟩
   ·exact .inr (.inr ⟨by rw[decide_eq_true q],by rw[decide_eq_false ‹0›],λz=>e (by injection z with z1;injection z1)⟩)
 |str x h ih=>
  cases h2 with|str y h'=>
  rw[qo,qo];by_cases e:x=y
  ·subst e;rw[if_pos rfl,if_pos rfl];rcases ih h' with⟨q1,q2,q3⟩|q|⟨q1,q2,q3⟩
   ·exact .inl ⟨q1,q2,λz=>q3 (by injection z)⟩
   ·exact .inr (.inl (by rw[q]))
   ·exact .inr (.inr ⟨q1,q2,λz=>q3 (by injection z)⟩)
  ·rw[if_neg e,if_neg (λz=>e z.symm)];rcases CI x.cps.toList y.cps.toList with q|q|q
   ·exact .inl ⟨by rw[decide_eq_true q],by rw[decide_eq_false λz=>qa _ (jV q z)],λz=>e (by injection z with z1;injection z1)⟩
   ·exact absurd (Cu q) e
   ·exact .inr (.inr ⟨by rw[decide_eq_true q],by rw[decide_eq_false λz=>qa _ (jV q z)],λz=>e (by injection z with z1;injection z1)⟩)
theorem rP{σ:List Bool}{a b c:List D}(h1:Sh σ a)(h2:Sh σ b)(h3:Sh σ c)(q:eM a b=some true)(q':eM b c=some true):eM a c=some true:=by
 induction h1 generalizing b c with
 |nil=>cases h2;rw[Dc]at q;cases q
 |int i h ih=>
  cases h2 with|int j h'=>
  cases h3 with|int k h''=>
  rw[qu]at q q' ⊢;by_cases e:i=j
  ·subst e;rw[if_pos rfl]at q;by_cases e':i=k
   ·subst e';rw[if_pos rfl]at q' ⊢;exact ih h' h'' q q'
   ·rw[if_neg e']at q' ⊢;exact q'
  ·rw[if_neg e]at q;have q1:=of_decide_eq_true (Option.some.inj q);by_cases e':j=k
   ·subst e';rw[if_neg e,decide_eq_true q1]
   ·rw[if_neg e']at q';have q2:=of_decide_eq_true (Option.some.inj q');rw[if_neg ‹0›,decide_eq_true ‹0›]
 |str i h ih=>
  cases h2 with|str j h'=>
  cases h3 with|str k h''=>
  rw[qo]at q q' ⊢;by_cases e:i=j
  ·subst e;rw[if_pos rfl]at q;by_cases e':i=k
   ·subst e';rw[if_pos rfl]at q' ⊢;exact ih h' h'' q q'
   ·rw[if_neg e']at q' ⊢;exact q'
  ·rw[if_neg e]at q;have q1:=of_decide_eq_true (Option.some.inj q);by_cases e':j=k
   ·subst e';rw[if_neg e,decide_eq_true q1]
   ·rw[if_neg e']at q';have q2:=of_decide_eq_true (Option.some.inj q');rw[if_neg (show¬i=k from λz=>by rw[z]at q1;exact qa _ (jV q1 q2)),decide_eq_true (jV q1 q2)]
theorem Cg{σ:List Bool}{a b:List D}(h:Sh σ a)(h':Sh σ b)(q:eM a b=some true):eM b a=some false:=by
 rcases pD h h' with⟨_,q2,_⟩|e|⟨_,q2,_⟩
 ·exact q2
 ·subst e;rw[mD h]at q;cases q
 ·rw[q2]at q;cases q
noncomputable def kLt(a b:List D):Bool:=eM a b==some true
theorem DU{a b:List D}:kLt a b=true↔eM a b=some true:=by unfold kLt;simp
section
variable{α:Type}
noncomputable def zv(key:α->List D)(x:α):List α->List α
 |[]=>[x]
 |y::ys=>if kLt (key x) (key y)then x::y::ys else y::zv key x ys
noncomputable def oK(key:α->List D):List α->List α
 |[]=>[]
 |x::xs=>zv key x (oK key xs)
theorem oB(key:α->List D)(x:α):∀ys:List α,(zv key x ys).Perm (x::ys)
 |[]=>.refl _
 |y::ys=>by
  unfold zv;split
  ·exact .refl _
  ·exact(List.Perm.cons y (oB key x ys)).trans (.swap x y ys)
theorem fW(key:α->List D):∀xs:List α,(oK key xs).Perm xs
 |[]=>.refl _
 |x::xs=>(oB key x _).trans (.cons x (fW key xs))
noncomputable def wa(key:α->List D)(xs:List α):Prop:=xs.Pairwise λx y=>eM (key x) (key y)=some true
theorem vq{key:α->List D}{σ:List Bool}{x:α}(hx:Sh σ (key x)):∀{ys:List α},(∀y∈ys,Sh σ (key y)/\key x≠key y)->wa key ys->wa key (zv key x ys)
 |[],_,_=>List.pairwise_singleton _ _
 |y::ys,h,p=>by
  have p':=List.pairwise_cons.mp p;obtain⟨hy,ne⟩:=h y Ru;unfold zv;split
  ·rename_i q;have q:=DU.mp q;refine List.pairwise_cons.mpr ⟨λz hz=>?_,p⟩;rcases List.mem_cons.mp hz with rfl|hz
   ·exact q
   ·exact rP hx hy (h z (Rv _ hz)).1 q (p'.1 z hz)
  ·rename_i q;have q:eM (key y) (key x)=some true:=by
    rcases pD hx hy with⟨z,_⟩|z|⟨z,_⟩
    ·exact absurd (DU.mpr z) q
    ·exact absurd z ne
    ·exact z
   refine List.pairwise_cons.mpr ⟨λz hz=>?_,vq hx (λz hz=>h z (Rv _ hz)) p'.2⟩;rcases List.mem_cons.mp ((oB key x ys).mem_iff.mp hz)with rfl|hz
   ·exact q
   ·exact p'.1 z hz
theorem rM{key:α->List D}{σ:List Bool}:∀{xs:List α},(∀x∈xs,Sh σ (key x))->xs.Pairwise (λx y=>key x≠key y)->wa key (oK key xs)
 |[],_,_=>List.Pairwise.nil
 |x::xs,h,p=>by
  have p':=List.pairwise_cons.mp p;refine vq (h x Ru) (λy hy=>?_) (rM (λy hy=>h y (Rv _ hy)) p'.2);have hy:=(fW key xs).mem_iff.mp hy;exact⟨h y (Rv _ hy),p'.1 y hy⟩
theorem yu{key:α->List D}{σ:List Bool}:∀{xs ys:List α},(∀x∈xs,Sh σ (key x))->wa key xs->wa key ys->xs.Perm ys->xs=ys
 |[],ys,_,_,_,e=>(List.perm_nil.mp e.symm).symm
 |x::xs,[],_,_,_,e=>List.perm_nil.mp e
 |x::xs,y::ys,h,p,q,e=>by
  have p':=List.pairwise_cons.mp p;have q':=List.pairwise_cons.mp q;have exy:x=y:=by
   rcases List.mem_cons.mp (e.mem_iff.mp Ru)with z|z
   ·exact z
   ·have w1:=q'.1 x z;rcases List.mem_cons.mp (e.symm.mem_iff.mp Ru)with z'|z'
    ·exact z'.symm
    ·have w2:=p'.1 y z'
     have:=Cg (h x Ru) (h y (Rv _ z')) w2
     rw[w1]at this;cases this
  subst exy;rw[yu (λz hz=>h z (Rv _ hz)) p'.2 q'.2 (List.Perm.cons_inv e)]
theorem BK{key:α->List D}{σ:List Bool}{xs ys:List α}(h:∀x∈xs,Sh σ (key x))(p:xs.Pairwise λx y=>key x≠key y)(q:wa key ys)(e:ys.Perm xs):oK key xs=ys:=
 yu (λx hx=>h x ((fW key xs).mem_iff.mp hx)) (rM h p) q ((fW key xs).trans e.symm)
noncomputable def rank(ks:List (List D))(i:Nat):Nat:=(ks.filter λk=>kLt k (ks.getD i [])).length
theorem tP{ks:List (List D)}{σ:List Bool}(h:∀k∈ks,Sh σ k){i j:Nat}(hi:i<ks.length)(hj:j<ks.length):decide (rank ks i<rank ks j)=kLt (ks.getD i []) (ks.getD j []):=by
 have gi:ks.getD i []=ks[i]:=by simp[hi]
 have gj:ks.getD j []=ks[j]:=by simp[hj]
 have mono:∀a b:List D,Sh σ a->Sh σ b->eM a b=some true->∀l:List (List D),(∀k∈l,Sh σ k)->(l.filter λk=>kLt k a).length<=(l.filter λk=>kLt k b).length/\(a∈l->(l.filter λk=>kLt k a).length<(l.filter λk=>kLt k b).length):=by
  intro a b ha hb hab l
  induction l with
  |nil=>exact λ_=>⟨RB _,λz=>nomatch z⟩
  |cons k l ih=>
   intro hl;obtain⟨i1,i2⟩:=ih λz hz=>hl z (Rv _ hz);have hk:=hl k Ru;by_cases q:kLt k a=true
   ·have q':kLt k b=true:=DU.mpr (rP hk ha hb (DU.mp q) hab);rw[Tg (p:=λk=>kLt k a) q,Tg (p:=λk=>kLt k b) q',RH,RH];refine⟨by omega,λz=>?_⟩;rcases List.mem_cons.mp z with rfl|z
    ·rw[DU,mD ha]at q;cases q
    ·have:=i2 z;omega
   ·rw[Th (p:=λk=>kLt k a) q];by_cases q':kLt k b=true
    ·rw[Tg (p:=λk=>kLt k b) q',RH];exact⟨by omega,λ_=>by omega⟩
    ·rw[Th (p:=λk=>kLt k b) q'];refine⟨i1,λz=>?_⟩;rcases List.mem_cons.mp z with rfl|z
     ·exact absurd (DU.mpr hab) q'
     ·exact i2 z
 unfold rank;rw[gi,gj];have hi':=h _ (Ti hi);have hj':=h _ (Ti hj);rcases pD hi' hj' with⟨z,_⟩|z|⟨z,z',_⟩
 ·rw[DU.mpr z];exact decide_eq_true ((mono _ _ hi' hj' z ks h).2 (Ti hi))
 ·rw[z]
  have:kLt ks[j] ks[j]=false:=by unfold kLt;rw[mD hj'];rfl
  rw[this];exact decide_eq_false (Ro _)
 ·have e:kLt ks[i] ks[j]=false:=by unfold kLt;rw[z'];rfl
  rw[e];exact decide_eq_false (Nat.not_lt.mpr (mono _ _ hj' hi' z ks h).1)
end
section
variable{cmp:Nat->Nat->(Bool->df)->df}{r:Nat->Nat}{N:Nat}
noncomputable def lA(cmp:Nat->Nat->(Bool->df)->df)(r:Nat->Nat)(N:Nat)(s:Vh):Prop:=∀(i j:Nat)(C:Bool->df),i<N->j<N->C (decide (r i<r j)) s->cmp i j C s
noncomputable def PM(N:Nat)(p:Array Nat):Prop:=p.Perm (List.toArray (List.range N))
theorem PM.size{p:Array Nat}(h:PM N p):p.size=N:=by
 have:=h.size_eq;simpa using this
theorem PM.lt{p:Array Nat}(h:PM N p){i:Nat}(hi:i<N):p.getD i 0<N:=by
 have hs:=h.size;have e:p.getD i 0=p[i]'‹0›:=by simp[Array.getD,hs,hi]
 rw[e];have m:p[i]'‹0›∈p:=Array.getElem_mem _
 have:=(h.mem_iff (a:=p[i]'‹0›)).mp m
 simpa using this
theorem PM.rev{p:Array Nat}(h:PM N p)(i j:Nat):PM N (kas_rev p i j):=(mirror_perm p i j _).trans h
noncomputable abbrev Rk(r:Nat->Nat)(p:Array Nat)(i:Nat):Nat:=r (p.getD i 0)
theorem tU{p:Array Nat}{i j:Nat}(hj:j<=p.size)(k:Nat):Rk r (kas_rev p i j) k=if i<=k/\k<j then Rk r p (i+j-1-k)else Rk r p k:=by
 have e:=getElem?_mirror_all (xs:=p) (i:=i) (j:=j) hj k;have g:∀(q:Array Nat)(k:Nat),q.getD k 0=(q[k]?).getD 0:=λq k=>by simp
 show r ((kas_rev p i j).getD k 0)=_;rw[g];show r (((mirror p i j ((j-i)/2))[k]?).getD 0)=_;rw[e];split
 ·show _=r (p.getD _ 0);rw[g]
 ·show _=r (p.getD _ 0);rw[g]
theorem BU{p:Array Nat}{src d:Nat}(hs:src<p.size)(hd:d<=src)(k:Nat):Rk r (bubble p src d) k=if k=src-d then Rk r p src else if src-d<k/\k<=src then Rk r p (k-1)else Rk r p k:=by
 have e:=getElem?_bubble (xs:=p) hs d hd k;have g:∀(q:Array Nat)(k:Nat),q.getD k 0=(q[k]?).getD 0:=λq k=>by simp
 show r ((bubble p src d).getD k 0)=_;rw[g,e];split
 ·show _=r (p.getD _ 0);rw[g]
 ·split
  ·show _=r (p.getD _ 0);rw[g]
  ·show _=r (p.getD _ 0);rw[g]
noncomputable def Up(r:Nat->Nat)(p:Array Nat)(k:Nat):Prop:=∀i j,i<=j->j<k->Rk r p i<=Rk r p j
noncomputable def Dn(r:Nat->Nat)(p:Array Nat)(k:Nat):Prop:=∀i j,i<=j->j<k->Rk r p j<=Rk r p i
variable{s:Vh}
theorem wH(hc:lA cmp r N s){p:Array Nat}(hp:PM N p){G:Nat->df}:∀(f n:Nat),1<=n->n+f<=N->Up r p n->(∀m,n<=m->m<=n+f->Up r p m->(m=n+f\/Rk r p m<Rk r p (m-1))->G m s)->(kas_asc p f n).kasWp cmp G s
 |0,n,_,_,u,h=>h n (RB _) (RB _) u (.inl rfl)
 |f+1,n,h1,h2,u,h=>by
  refine hc _ _ _ (hp.lt ‹0›) (hp.lt ‹0›) ?_;by_cases q:Rk r p n<Rk r p (n-1)
  ·rw[decide_eq_true q];dsimp only;rw[if_pos rfl];exact h n (RB _) ‹0› u (.inr q)
  ·rw[decide_eq_false q];dsimp only;rw[if_neg RG];refine wH hc hp f (n+1) ‹0› ‹0› (λi j hij hj=>?_) λm a b=>?_
   ·by_cases hjn:j<n
    ·exact u i j hij hjn
    ·have ej:j=n:=(by omega);subst ej;by_cases ei:i=j
     ·subst ei;exact RB _
     ·have:=u i (j-1) ‹0› ‹0›
      omega
   ·intro um hm;exact h m ‹0› ‹0› um (by rcases hm with z|z;exact .inl ‹0›;exact .inr z)
theorem Br{p:Array Nat}{n q:Nat}(hn:n<=p.size)(hq:q+1<=n)(he:∀i,n-(q+1)<=i->i<n->Rk r p i=Rk r p (n-1))(k:Nat):Rk r (kas_rev p (n-(q+1)) n) k=Rk r p k:=by
 rw[tU hn];split
 ·rename_i h;rw[he _ ‹0› ‹0›,he k h.1 h.2]
 ·rfl
theorem pH(hc:lA cmp r N s){G:Array Nat×Nat×Nat->df}:∀(f:Nat)(p:Array Nat)(n q:Nat),PM N p->1<=n->n+f<=N->Dn r p n->q+1<=n->(∀i,n-(q+1)<=i->i<n->Rk r p i=Rk r p (n-1))->
  (∀p' m q',PM N p'->n<=m->m<=n+f->Dn r p' m->q'+1<=m->(∀i,m-(q'+1)<=i->i<m->Rk r p' i=Rk r p' (m-1))->G (p',m,q') s)->(kas_desc f p n q).kasWp cmp G s
 |0,p,n,q,hp,_,_,d,hq,he,h=>h p n q hp (RB _) (RB _) d hq he
 |f+1,p,n,q,hp,h1,h2,d,hq,he,h=>by
  have hs:=hp.size;have step:∀p',(∀k,Rk r p' k=Rk r p k)->Rk r p n<=Rk r p (n-1)->Dn r p' (n+1):=λp' hk hl i j hij hj=>by
   rw[hk,hk];by_cases hjn:j<n
   ·exact d i j hij hjn
   ·have ej:j=n:=(by omega);subst ej;by_cases ei:i=j
    ·subst ei;exact RB _
    ·have:=d i (j-1) ‹0› ‹0›
     omega
  refine hc _ _ _ (hp.lt ‹0›) (hp.lt ‹0›) ?_;by_cases q1:Rk r p n<Rk r p (n-1)
  ·rw[decide_eq_true q1];dsimp only;rw[if_pos rfl];by_cases hq0:q>0
   ·rw[if_pos hq0];refine pH hc f _ (n+1) 0 (hp.rev _ _) ‹0› ‹0› (step _ (Br ‹0› hq he) ‹0›) ‹0› (λi a b=>by rw[show i=n+1-1 by omega]) λp' m q' a b c=>h p' m q' a ‹0› ‹0›
   ·rw[if_neg hq0];refine pH hc f _ (n+1) 0 hp ‹0› ‹0› (step _ (λ_=>rfl) ‹0›) ‹0› (λi a b=>by rw[show i=n+1-1 by omega]) λp' m q' a b c=>h p' m q' a ‹0› ‹0›
  ·rw[decide_eq_false q1];dsimp only;rw[if_neg RG];refine hc _ _ _ (hp.lt ‹0›) (hp.lt ‹0›) ?_;by_cases q2:Rk r p (n-1)<Rk r p n
   ·rw[decide_eq_true q2];dsimp only;rw[if_pos rfl];exact h p n q hp (RB _) ‹0› d hq he
   ·rw[decide_eq_false q2];dsimp only;rw[if_neg RG];refine pH hc f _ (n+1) (q+1) hp ‹0› ‹0› (step _ (λ_=>rfl) ‹0›) ‹0› (λi a b=>?_) λp' m q' a b c=>h p' m q' a ‹0› ‹0›;rw[show n+1-1=n by omega];by_cases ei:i=n
    ·subst ei;rfl
    ·have:=he i ‹0› ‹0›
     omega
theorem uO(hc:lA cmp r N s){p:Array Nat}(hp:PM N p){n:Nat}(h1:1<=n)(hn:n<=N)(d:Dn r p n){G:Nat×Array Nat->df}(h:∀m p',PM N p'->1<=m->m<=N->Up r p' m->G (m,p') s):(kas_tail3 n N p).kasWp cmp G s:=by
 unfold kas_tail3;rw[KasT.kasWp_bind];have hs:=hp.size;refine wH hc (hp.rev 0 n) _ _ h1 ‹0› (λi j hij hj=>?_) λm a b u _=>h m _ (hp.rev 0 n) ‹0› ‹0› u;rw[tU ‹0›,tU ‹0›,if_pos ‹0›,if_pos ‹0›];exact d _ _ ‹0› ‹0›
theorem oQ(hc:lA cmp r N s){p:Array Nat}(hp:PM N p){n:Nat}(hn:n+1<=N)(d:Dn r p (n+1)){G:Nat×Array Nat->df}(h:∀m p',PM N p'->1<=m->m<=N->Up r p' m->G (m,p') s):(kas_descPart n N p).kasWp cmp G s:=by
 unfold kas_descPart;rw[KasT.kasWp_bind];refine pH hc _ _ _ _ hp ‹0› ‹0› d ‹0› (λi a b=>by rw[show i=n+1-1 by omega]) λp' m q' hp' a b d' hq he=>?_;have hs:=hp'.size;dsimp only;by_cases hq0:q'>0
 ·rw[if_pos hq0];refine uO hc (hp'.rev _ _) ‹0› ‹0› (λi j hij hj=>?_) h;rw[Br ‹0› hq he,Br ‹0› hq he];exact d' i j hij hj
 ·rw[if_neg hq0];exact uO hc hp' ‹0› ‹0› d' h
theorem Bw(hc:lA cmp r N s)(h1:1<=N){p:Array Nat}(hp:PM N p){G:Nat×Array Nat->df}(h:∀m p',PM N p'->1<=m->m<=N->Up r p' m->G (m,p') s):(kas_count N p).kasWp cmp G s:=by
 unfold kas_count;rw[KasT.kasWp_bind];have hs:=hp.size;refine wH hc hp _ _ (RB _) ‹0› (λi j hij hj=>by rw[show i=j by omega];exact RB _) λn a b u hor=>?_;by_cases hn:n=N
 ·rw[if_pos (by simpa using hn)];exact h n p hp a ‹0› u
 ·rw[if_neg (by simpa using hn)];have hlt:Rk r p n<Rk r p (n-1):=by
   rcases hor with z|z
   ·omega
   ·exact z
  by_cases hg:n>1
  ·rw[if_pos hg];refine hc _ _ _ (hp.lt ‹0›) (hp.lt ‹0›) ?_;by_cases q:Rk r p 0<Rk r p (n-1)
   ·rw[decide_eq_true q];dsimp only;rw[if_pos rfl];exact h n p hp a ‹0› u
   ·rw[decide_eq_false q];dsimp only;rw[if_neg RG];have hall:∀k,k<n->Rk r p k=Rk r p (n-1):=λk hk=>by
     have a1:=u 0 k ‹0› hk;have a2:=u k (n-1) ‹0› ‹0›;omega
    have hr:∀k,Rk r (kas_rev p 0 n) k=Rk r p k:=λk=>by
     rw[tU ‹0›];split
     ·rename_i z;rw[hall _ ‹0›,hall k z.2]
     ·rfl
    refine oQ hc (hp.rev _ _) ‹0› (λi j hij hj=>?_) h;rw[hr,hr];by_cases hjn:j<n
    ·rw[hall i ‹0›,hall j hjn];exact RB _
    ·have ej:j=n:=(by omega);subst ej;by_cases ei:i=j
     ·subst ei;exact RB _
     ·rw[hall i ‹0›];omega
  ·rw[if_neg hg];have en:n=1:=(by omega);subst en;refine oQ hc hp ‹0› (λi j hij hj=>?_) h;by_cases ei:i=j
   ·subst ei;exact RB _
   ·have e0:i=0:=(by omega);have e1:j=1:=(by omega);subst e0 e1;exact Rr hlt
theorem pV(hc:lA cmp r N s){p:Array Nat}(hp:PM N p){k:Nat}(hk:k<N)(u:Up r p k){G:Nat->df}(h:∀l,l<=k->(∀i,i<l->Rk r p i<=Rk r p k)->(∀i,l<=i->i<k->Rk r p k<Rk r p i)->G l s):
  ∀(f l t:Nat),t-l<=f->l<=t->t<=k->(∀i,i<l->Rk r p i<=Rk r p k)->(∀i,t<=i->i<k->Rk r p k<Rk r p i)->(kas_place p k f l t).kasWp cmp G s
 |0,l,t,a,b,c,d,e=>h l ‹0› d λi x y=>e i ‹0› y
 |f+1,l,t,a,b,c,d,e=>by
  unfold kas_place;by_cases hl:l>=t
  ·rw[if_pos hl];exact h l ‹0› d λi x y=>e i ‹0› y
  ·rw[if_neg hl];refine hc _ _ _ (hp.lt hk) (hp.lt ‹0›) ?_;by_cases q:Rk r p k<Rk r p ((l+t)/2)
   ·rw[decide_eq_true q];dsimp only;rw[if_pos rfl];refine pV hc hp hk u h f l ((l+t)/2) ‹0› ‹0› ‹0› d λi x y=>?_
    have:=u ((l+t)/2) i x y
    omega
   ·rw[decide_eq_false q];dsimp only;rw[if_neg RG];refine pV hc hp hk u h f ((l+t)/2+1) t ‹0› ‹0› ‹0› (λi x=>?_) e
    have:=u i ((l+t)/2) ‹0› ‹0›
    omega
theorem AD(hc:lA cmp r N s){G:Array Nat->df}(h:∀p,PM N p->Up r p N->G p s):∀(f:Nat)(p:Array Nat)(k:Nat),PM N p->k+f=N->Up r p k->(kas_bin f p k).kasWp cmp G s
 |0,p,k,hp,e,u=>h p hp (by rw[<-e];exact u)
 |f+1,p,k,hp,e,u=>by
  unfold kas_bin;rw[KasT.kasWp_bind];have hs:=hp.size;refine pV hc hp ‹0› u (λl hl d e'=>?_) k 0 k ‹0› (RN _) (RB _) (λi x=>by omega) λi x y=>by omega
  refine AD hc h f _ (k+1) ((bubble_perm p k _).trans hp) ‹0› λi j hij hj=>?_;rw[BU ‹0› ‹0›,BU ‹0› ‹0›,show k-(k-l)=l by omega];have U:=u;by_cases i1:i=l
  ·rw[if_pos i1];by_cases j1:j=l
   ·rw[if_pos j1];exact RB _
   ·rw[if_neg j1,if_pos ‹0›];exact Rr (e' (j-1) ‹0› ‹0›)
  ·rw[if_neg i1];by_cases i2:l<i/\i<=k
   ·rw[if_pos i2,if_neg ‹0›,if_pos ‹0›];exact U _ _ ‹0› ‹0›
   ·rw[if_neg i2];by_cases j1:j=l
    ·rw[if_pos j1];exact d i ‹0›
    ·rw[if_neg j1];by_cases j2:l<j/\j<=k
     ·rw[if_pos j2];exact U _ _ ‹0› ‹0›
     ·rw[if_neg j2];exact U _ _ hij ‹0›
theorem Ec(hc:lA cmp r N s)(h2:1<=N){G:Array Nat->df}(h:∀p,PM N p->Up r p N->G p s):(kas_sort N).kasWp cmp G s:=by
 unfold kas_sort;rw[KasT.kasWp_bind];refine Bw hc h2 (Array.Perm.refl _) λm p' hp a b u=>?_;dsimp only;by_cases hm:m<N
 ·rw[if_pos hm,show max m 1=m by omega];exact AD hc h _ p' m hp ‹0› u
 ·rw[if_neg hm];exact h p' hp (by rw[show N=m by omega];exact u)
end
section
variable{prog:Vj}{w:Vi}{A:Vp}{E:bJ}{s:Vh}
theorem qW{a:Ve}{vs:aN}{n:Nat}{P:PySem.Fin->df}{κ:SortKind}{r:Nat->Nat}(ho:s.heap.get? a=some (seqObj "list" vs.toArray n))(h64:vs.length<64)
  (hk:2<=vs.length->∀h':Vl,(∀b o,b≠a->s.heap.get? b=some o->h'.get? b=some o)->∀(Q:SortKind->df),Q κ {s with heap:=h'}->Vs (model prog w) A (keyKind' vs.toArray) Q E {s with heap:=h'})
  (hr:2<=vs.length->∀h':Vl,(∀b o,b≠a->s.heap.get? b=some o->h'.get? b=some o)->lA (kas_ask prog w A κ vs) r vs.length {s with heap:=h'})
  (h:∀p:Array Nat,PM vs.length p->Up r p vs.length->P (.done (.ret .none)) {s with heap:=sortedHeap s.heap a vs (List.toArray (p.toList.map λi=>vs.getD i Value.none))}):
  Vs (model prog w) A (Builtin.«list.sort» ⟨[.ref a],[]⟩) P E s:=by
 rw[list_sort_plain];have ha:a<s.heap.objs.size:=UP ho;refine VB (listItems_at ho rfl ?_);refine VB (Wn ho rfl ?_ (by rw[RE,VH];omega) (RN _));obtain⟨e1,ho1⟩:∃e1,(s.heap.update a (Obj.mapSeq λ_=>(#[]:Array Vc))).get? a=some (seqObj "list" #[] e1):=⟨_,get?_update_seq ho (λ_=>#[])⟩
 refine VB (seqEpoch_at ho1 rfl ?_);refine VB (wpAny_newTuple ?_ (by show vs.length<=_;rw[VH];omega));refine VB (wpAny_newList ?_ (RN _));refine V7 ?_;have ho6:(((s.heap.update a (Obj.mapSeq λ_=>(#[]:Array Vc))).push (seqObj "tuple" vs.toArray 0)).push (seqObj "list" #[] 0)).get? a=some (seqObj "list" #[] e1):=by
  rw[UZ _ _ _ (by rw[size_push',Heap.size_update];exact Rp (Sg ha)),UZ _ _ _ (by rw[Heap.size_update];exact Rp ha)];exact ho1
 have kept:∀b o,b≠a->s.heap.get? b=some o->(((s.heap.update a (Obj.mapSeq λ_=>(#[]:Array Vc))).push (seqObj "tuple" vs.toArray 0)).push (seqObj "list" #[] 0)).get? b=some o:=λb o hb e=>
  UT _ (UT _ (by rw[U0 _ _ _ _ hb];exact e))
 show Vs (model prog w) A _ P E {s with heap:=((s.heap.update a (Obj.mapSeq λ_=>(#[]:Array Vc))).push (seqObj "tuple" vs.toArray 0)).push (seqObj "list" #[] 0)};dsimp only;have hsz:vs.toArray.size=vs.length:=by simp
 by_cases h2:vs.toArray.size<2
 ·rw[if_pos h2,if_pos h2];refine VB (VA ?_);rw[StateT.run_pure];refine VB (VA ?_);dsimp only;refine VB (seqEpoch_at ho6 rfl ?_);have hout:(arrOf (SortSt.mk' general' (vs.toArray.zip vs.toArray) #[] 7 none)).map (·.2)=List.toArray ((List.toArray (List.range vs.length)).toList.map λi=>vs.getD i Value.none):=by
   refine kat_snds rfl ?_;show vs.toArray.zip vs.toArray=_;have e:=kas_range (vs.toArray.zip vs.toArray);rw[show(vs.toArray.zip vs.toArray).size=vs.length by simp]at e;exact e.symm
  rw[hout];refine VB (Wn ho6 rfl ?_ (RN _) (by rw[RE,RK,VH];simp;omega));simp only[bne_self_eq_false,Sf,if_false];refine VA (h _ (Array.Perm.refl _) λi j hij hj=>?_)
  have:i=j:=by omega
  subst this;exact RB _
 ·rw[if_neg h2,if_neg h2];have h2':2<=vs.length:=by omega
  refine VB (hk h2' _ kept _ ?_);refine VB (Vu (kat_run (Q:=λst' s'=>∃p:Array Nat,arrOf st'=p.map (kas_item (vs.toArray.zip vs.toArray))/\failedOf st'=none/\PM vs.length p/\Up r p vs.length/\s'={s with heap:=((s.heap.update a (Obj.mapSeq λ_=>(#[]:Array Vc))).push (seqObj "tuple" vs.toArray 0)).push (seqObj "list" #[] 0)})
   (G:=λp s'=>PM vs.length p/\Up r p vs.length/\s'={s with heap:=((s.heap.update a (Obj.mapSeq λ_=>(#[]:Array Vc))).push (seqObj "tuple" vs.toArray 0)).push (seqObj "list" #[] 0)})
   rfl h2' h64 (λp' st' s' a1 a2 a3 a4=>⟨p',a2,a3,a4.1,a4.2.1,a4.2.2⟩) (Ec (hr h2' _ kept) ‹0› λp hp hu=>⟨hp,hu,rfl⟩)) ?_ λ_ _ e=>e)
  rintro⟨⟨⟩,st'⟩ s' ⟨p,har,hf,hp,hu,rfl⟩;dsimp only;refine VB (seqEpoch_at ho6 rfl ?_);have hout:=kat_snds rfl har;rw[hout];refine VB (Wn ho6 rfl ?_ (RN _) (by rw[RE,RK,Array.length_toList,hp.size,VH];omega));rw[hf];simp only[bne_self_eq_false,Sf,if_false];exact VA (h p hp hu)
theorem qe{src:Vc}{vs:aN}{Q:bJ}{κ:SortKind}{r:Nat->Nat}(h64:vs.length<64)
  (hcol:∀(Q':aN->df),(∀h' tk,(∀b o,s.heap.get? b=some o->h'.get? b=some o)->Q' vs {s with heap:=h',toks:=tk})->Vs (model prog w) A.in1 (collect src) Q' E s)
  (hk:2<=vs.length->∀(h':Vl)(tk:Nat),(∀b o,s.heap.get? b=some o->h'.get? b=some o)->∀(Q:SortKind->df),Q κ {s with heap:=h',toks:=tk}->Vs (model prog w) A.in1.in1 (keyKind' vs.toArray) Q E {s with heap:=h',toks:=tk})
  (hr:2<=vs.length->∀(h':Vl)(tk:Nat),(∀b o,s.heap.get? b=some o->h'.get? b=some o)->lA (kas_ask prog w A.in1.in1 κ vs) r vs.length {s with heap:=h',toks:=tk})
  (h:∀(p:Array Nat)(h1 h':Vl)(l:Ve)(e tk:Nat),PM vs.length p->Up r p vs.length->(∀b o,s.heap.get? b=some o->h1.get? b=some o)->(∀b o,h1.get? b=some o->h'.get? b=some o)->h1.objs.size<=l->h'.get? l=some (seqObj "list" (List.toArray (p.toList.map λi=>vs.getD i Value.none)) e)->Q (.ref l) {s with heap:=h',toks:=tk}):
  Vs (model prog w) A (call (.builtin "sorted") [src]) Q E s:=by
 refine Calls.call_function_entry kind_sorted plain_sorted entry_sorted (args_sorted1 _) ?_;unfold Builtin.«sorted»;refine VB (m:=checkCount "sorted" 1 1 _) (VA ?_);refine VB (hcol _ λh1 tk k1=>?_);refine VB (wpAny_newList ?_ (by rw[VH];omega));have hoL:(h1.push (seqObj "list" vs.toArray 0)).get? h1.objs.size=some (seqObj "list" vs.toArray 0):=UU _ rfl;have k2:∀b o,s.heap.get? b=some o->(h1.push (seqObj "list" vs.toArray 0)).get? b=some o:=λb o e=>UT _ (k1 b o e);have ne:∀b o,s.heap.get? b=some o->b≠h1.objs.size:=λb o e=>Rp (UP (k1 b o e));refine VB (V7 (V9 slot_list_sort ⟨_,hoL,rfl⟩ entry_list_sort (qW (s:={s with heap:=h1.push (seqObj "list" vs.toArray 0),toks:=tk}) (r:=r) (κ:=κ) hoL h64
  (λh2 h' k=>hk h2 h' tk λb o e=>k b o (ne b o e) (k2 b o e)) (λh2 h' k=>hr h2 h' tk λb o e=>k b o (ne b o e) (k2 b o e)) λp hp hu=>⟨_,rfl,?_⟩) (args_list_sort _)))
 refine VA ⟨_,rfl,?_⟩;obtain⟨e,he⟩:=sortedHeap_at (vs:=vs) (out:=List.toArray (p.toList.map λi=>vs.getD i Value.none)) hoL;exact h p h1 _ h1.objs.size e tk hp hu k1 (λb o q=>by rw[sortedHeap_old (Rp (UP q)) (by rw[size_push'];exact Sg (UP q))];exact UT _ q) (RB _) he
end
noncomputable def gk:D->List D
 |.tup ks=>ks
 |_=>[]
noncomputable def oneOf(d:D):List D:=[d]
noncomputable def K1(xs:List D):Prop:=xs.length<64/\∃σ:List Bool,σ≠[]/\(∀x∈xs,∃k,x=.tup k/\Sh σ k)/\xs.Pairwise λx y=>gk x≠gk y
noncomputable def LA(xs:List D):Prop:=xs.length<64/\∃b:Bool,(∀x∈xs,Sh [b] [x])/\xs.Pairwise λx y=>oneOf x≠oneOf y
open Classical in
noncomputable def rY(xs:List D):bE:=if K1 xs then some (.lst (oK gk xs))else if LA xs then some (.lst (oK oneOf xs))else none
noncomputable def mH:List D->bE
 |[.lst xs]=>rY xs
 |[.tup xs]=>rY xs
 |_=>none
theorem u9{prog:Vj}{w:Vi}{A:Vp}{s:Vh}{Q:Bool->df}{fin:Bool}(hf:fin=false){σ:List Bool}{ns ms:List D}{xs ys:aN}{i:Nat}(h1:Sh σ ns)(h2:Sh σ ms)(f1:gh xs ns)(f2:gh ys ms)(h:Q (kLt ns ms) s):KatLex prog w A true fin Q (xs.zip ys) i s:=by
 induction h1 generalizing ms xs ys i with
 |nil=>
  cases h2;cases f1;cases f2;subst hf;exact kat_nil (by simpa [kLt,eM]using h)
 |int a h1 ih=>
  cases h2 with|int c h2=>
  cases f1 with|int _ t f1=>
  cases f2 with|int _ u f2=>
  rw[SZ];obtain⟨e,he,hiff⟩:=Ge A s a t c u;refine kat_cons (he prog w _ _ ?_);cases e with
  |true=>
   have ac:=hiff.mp rfl;refine kat_yes (ih h2 f1 f2 ?_);unfold kLt at h ⊢;rw[qu,if_pos ac]at h;exact h
  |false=>
   have ac:¬a=c:=λq=>absurd (hiff.mpr q) RG;have h':Q (decide (a<c)) s:=by
    unfold kLt at h;rw[qu,if_neg ac]at h;cases hd:decide (a<c)<;>rw[hd]at h<;>exact h
   refine kat_no ?_;cases hi:(i==0)with
   |true=>exact oneLt_int h'
   |false=>exact kat_one _ _ (PySem.P.lt_int (show UI Q (.bool _) s from h'))
 |str a h1 ih=>
  cases h2 with|str c h2=>
  cases f1 with|str _ t f1=>
  cases f2 with|str _ u f2=>
  rw[SZ];obtain⟨e,he,hiff⟩:=Gv A s a t c u;refine kat_cons (he prog w _ _ ?_);cases e with
  |true=>
   have ac:=hiff.mp rfl;refine kat_yes (ih h2 f1 f2 ?_);unfold kLt at h ⊢;rw[qo,if_pos ac]at h;exact h
  |false=>
   have ac:¬a=c:=λq=>absurd (hiff.mpr q) RG;have h':Q (decide (a.cps.toList<c.cps.toList)) s:=by
    unfold kLt at h;rw[qo,if_neg ac]at h;cases hd:decide (a.cps.toList<c.cps.toList)<;>rw[hd]at h<;>exact h
   refine kat_no ?_;cases hi:(i==0)with
   |true=>exact oneLt_str h'
   |false=>exact kat_one _ _ (PySem.P.lt_str (show UI Q (.bool _) s from h'))
theorem qH{h:Vl}{PT:Vc->Prop}:∀{its:aN},(∀v∈its,∃a o xs n f,v=.ref a/\h.get? a=some o/\o.cls=.type "tuple"/\o.data=.seq xs n/\xs[0]?=some f/\PT f)->∃fs,KatTups h its fs/\fs.length=its.length/\∀f∈fs,PT f
 |[],_=>⟨[],.nil,rfl,λ_ h=>nomatch h⟩
 |v::its,hh=>by
  obtain⟨a,o,xs,n,f,rfl,h1,h2,h3,h4,h5⟩:=hh v Ru;obtain⟨fs,k1,k2,k3⟩:=qH (its:=its) λu hu=>hh u (Rv _ hu);refine⟨f::fs,.cons h1 h2 h3 h4 k1,by rw[RH,RH,k2],λg hg=>?_⟩;rcases List.mem_cons.mp hg with rfl|z
  ·exact h5
  ·exact k3 g z
theorem gh.first{σ:List Bool}{b:Bool}{xs:aN}{ns:List D}(f:gh xs ns)(h:Sh (b::σ) ns):∃v,xs[0]?=some v/\typeOf v=pure (.type (if b then"int"else"str")):=by
 cases f with
 |nil=>cases h
 |int i t f=>cases h;exact⟨_,rfl,rfl⟩
 |str i t f=>cases h;exact⟨_,rfl,rfl⟩
theorem uK{key:D->List D}{σ:List Bool}{ds:List D}(h:∀x∈ds,Sh σ (key x))(pw:ds.Pairwise λx y=>key x≠key y){p:Array Nat}(hp:PM ds.length p)(hu:Up (rank (ds.map key)) p ds.length):p.toList.map (λi=>ds.getD i .non)=oK key ds:=by
 have hr:p.toList.Perm (List.range ds.length):=by
  have:=Array.perm_iff_toList_perm.mp hp
  simpa using this
 have hmap:(List.range ds.length).map (λi=>ds.getD i .non)=ds:=by
  apply List.ext_getElem
  ·simp
  ·intro i h1 h2;simp at h1;simp[h1]
 have hperm:(p.toList.map λi=>ds.getD i .non).Perm ds:=by
  have:=hr.map (λi=>ds.getD i .non)
  rwa [hmap]at this
 have hn:p.toList.Nodup:=hr.nodup_iff.mpr List.nodup_range;refine(BK h pw ?_ hperm).symm;have hl:p.toList.length=ds.length:=by rw[hr.length_eq,SG]
 have kd:∀i,i<ds.length->(ds.map key).getD i []=key (ds.getD i .non):=λi hi=>by simp[hi]
 have hsh:∀k∈ds.map key,Sh σ k:=λk hk=>by
  obtain⟨x,hx,rfl⟩:=List.mem_map.mp hk;exact h x hx
 unfold wa;rw[Tj,List.pairwise_iff_getElem];intro i j hi hj hij;have hi':p.toList[i]<ds.length:=by simpa using hr.mem_iff.mp (Ti hi)
 have hj':p.toList[j]<ds.length:=by simpa using hr.mem_iff.mp (Ti hj)
 have ne:p.toList[i]≠p.toList[j]:=List.pairwise_iff_getElem.mp hn i j hi hj hij;have up:=hu i j ‹0› ‹0›;have gi:p.getD i 0=p.toList[i]:=by
  have:i<p.size:=by rw[<-Array.length_toList];exact hi
  simp[Array.getD,this]
 have gj:p.getD j 0=p.toList[j]:=by
  have:j<p.size:=by rw[<-Array.length_toList];exact hj
  simp[Array.getD,this]
 unfold Rk at up;rw[gi,gj]at up;have rl:=tP hsh (i:=p.toList[j]) (j:=p.toList[i]) (by rw[RK];exact hj') (by rw[RK];exact hi');rw[kd _ hj',kd _ hi',decide_eq_false ‹0›]at rl;have ei:ds.getD p.toList[i] .non=ds[p.toList[i]]:=by rw[Tl,Su hi'];rfl
 have ej:ds.getD p.toList[j] .non=ds[p.toList[j]]:=by rw[Tl,Su hj'];rfl
 have s1:=h _ (show ds.getD p.toList[i] .non∈ds by rw[ei];exact Ti hi');have s2:=h _ (show ds.getD p.toList[j] .non∈ds by rw[ej];exact Ti hj');rcases pD s1 s2 with⟨z,_⟩|z|⟨z,_⟩
 ·exact z
 ·exfalso;have pw':=List.pairwise_iff_getElem.mp pw;rw[ei,ej]at z;rcases Tn ne with q|q
  ·exact pw' _ _ hi' hj' q z
  ·exact pw' _ _ hj' hi' q z.symm
 ·rw[DU.mpr z]at rl;cases rl
theorem sW{vs:aH}{us:aN}(r:Vals vs us):∀l:List Nat,(∀i∈l,i<vs.length)->Vals (l.map λi=>vs.getD i .non) (l.map λi=>us.getD i Value.none)
 |[],_=>.nil
 |i::l,h=>by
  have hi:=h i Ru;obtain⟨u,e,q⟩:=r.get (i:=i) (x:=vs[i]) (by simp[hi]);refine .cons ?_ (sW r l λj hj=>h j (Rv _ hj));have e1:vs.getD i .non=vs[i]:=by simp[hi]
  have e2:us.getD i Value.none=u:=by simp[Tl,e]
  show L2.RelV (vs.getD i .non) (us.getD i Value.none);rw[e1,e2];exact q
theorem tm{K:T3}{H:Hp}{ds:List D}{vs:aH}(g:aL K H ds vs):∀l:List Nat,(∀i∈l,i<ds.length)->aL K H (l.map λi=>ds.getD i .non) (l.map λi=>vs.getD i .non)
 |[],_=>cB.mpr rfl
 |i::l,h=>by
  have hi:=h i Ru;obtain⟨v,e,q⟩:=g.get (i:=i) (d:=ds[i]) (by simp[hi]);refine aV.mpr ⟨_,_,rfl,?_,tm g l λj hj=>h j (Rv _ hj)⟩;have e1:ds.getD i .non=ds[i]:=by simp[hi]
  have e2:vs.getD i .non=v:=by simp[Tl,e]
  show cA K H (ds.getD i .non) (vs.getD i .non);rw[e1,e2];exact q
section
variable{X:Cx}{pins:aS}{s:Vh}{σ:L2.St}{H:Hp}{O:aD}
theorem sZ{u:Vc}{ds:List D}{vs:aH}{its:aN}{d:D}{Q:VK}(I:Inv X pins σ H s)(hO:dI H O)(dn:aL X.K (hid H O) ds vs)(rv:Vals vs its)(hs:rY ds=some d)
  (hcol:∀(Q':aN->df),(∀h' tk,(∀b o,s.heap.get? b=some o->h'.get? b=some o)->Q' its {s with heap:=h',toks:=tk})->Vs (model X.prog X.w) X.A.in1 (collect u) Q' X.xe s)
  (q:∀v H',aT H H'->cA X.K (hid H' O) d v->Q v H'):Vs (model X.prog X.w) X.A (call (.builtin "sorted") [u]) (EP X pins σ Q) X.xe s:=by
 have l1:=dn.length;have l2:=rv.length;have fin:∀(key:D->List D)(σ':List Bool),(∀x∈ds,Sh σ' (key x))->ds.Pairwise (λx y=>key x≠key y)->ds.length<64->d=.lst (oK key ds)->∀(p:Array Nat)(h1 h':Vl)(l:Ve)(e tk:Nat),PM its.length p->Up (rank (ds.map key)) p its.length->(∀b o,s.heap.get? b=some o->h1.get? b=some o)->(∀b o,h1.get? b=some o->h'.get? b=some o)->h1.objs.size<=l->
   h'.get? l=some (seqObj "list" (List.toArray (p.toList.map λi=>its.getD i Value.none)) e)->EP X pins σ Q (.ref l) {s with heap:=h',toks:=tk}:=by
  intro key σ' hsh pw h64 ed p h1 h' l e tk hp hu k1 k2 hl he;have el:its.length=ds.length:=by omega
  rw[el]at hp hu;have ps:=uK hsh pw hp hu;have hr:p.toList.Perm (List.range ds.length):=by
   have:=Array.perm_iff_toList_perm.mp hp
   simpa using this
  have hlt:∀i∈p.toList,i<ds.length:=λi hi=>by simpa using hr.mem_iff.mp hi
  have I1:Inv X pins σ H {s with heap:=h1,toks:=tk}:=I.kept k1;have hn:H l=none:=I1.hok.fresh hl;have rv':=sW rv p.toList λi hi=>by have:=hlt i hi;omega
  have dn':=tm dn p.toList hlt;have hlen:p.toList.length=ds.length:=by rw[hr.length_eq,SG]
  refine⟨.ref l,_,Inv.laid (s:={s with heap:=h1,toks:=tk}) (t':=tk) I1 k2 hl (show cy X.prog X.w _ h' _ (.lst (p.toList.map λi=>vs.getD i .non))from⟨by rw[RK,hlen,VH];omega,_,e,rv',he⟩),rfl,?_⟩;refine q _ _ (dr hn _) ?_;rw[ed,<-ps];exact gx hO hn dn'
 unfold rY at hs;split at hs
 ·rename_i h;cases hs;obtain⟨h64,σ',hσ,hsh,pw⟩:=h;obtain⟨b,σ1,rfl⟩:∃b σ1,σ'=b::σ1:=by
   cases σ' with
   |nil=>exact absurd rfl hσ
   |cons b σ1=>exact⟨b,σ1,rfl⟩
  have hsh':∀x∈ds,Sh (b::σ1) (gk x):=λx hx=>by
   obtain⟨k,rfl,hk⟩:=hsh x hx;exact hk
  have at':∀i (hi:i<ds.length),∃a o xs n,its[i]?=some (.ref a)/\s.heap.get? a=some o/\o.cls=.type "tuple"/\o.data=.seq xs n/\gh xs.toList (gk ds[i]):=λi hi=>by
   obtain⟨v,e1,dv⟩:=dn.get (i:=i) (d:=ds[i]) (by simp[hi]);obtain⟨w,e2,rw'⟩:=rv.get e1;obtain⟨k,ek,hk⟩:=hsh _ (Ti hi);rw[ek]at dv ⊢;obtain⟨a,ws,rfl,ha,dk⟩:=cv.mp dv;cases rw';obtain⟨it2,r2,⟨o,ho,hc,n,hd⟩,_⟩:=I.tuple (cj (aJ H O) ha);exact⟨a,o,_,n,e2,ho,hc,hd,by simpa [gk]using kt (tM hk) dk r2⟩
  refine qe (κ:=tuples' true) (r:=rank (ds.map gk)) ‹0› hcol (λh2 h' tk kp Q' hQ=>?_) (λh2 h' tk kp i j C hi hj hC=>?_) (fin gk _ hsh' pw h64 rfl)
  ·obtain⟨fs,t1,t2,t3⟩:=qH (h:=h') (PT:=λf=>typeOf f=pure (.type (if b then"int"else"str"))) (its:=its) λv hv=>by
    obtain⟨i,hi,rfl⟩:=Sz hv;obtain⟨a,o,xs,n,e1,ho,hc,hd,ff⟩:=at' i ‹0›;obtain⟨f,ef,tf⟩:=ff.first (hsh' _ (Ti _));refine⟨a,o,xs,n,f,?_,kp _ _ ho,hc,hd,by simpa using ef,tf⟩
    have:=Su hi
    rw[e1]at this;exact(Option.some.inj this).symm
   refine kat_kind (T:=.type (if b then"int"else"str")) t1 ‹0› (λf hf=>Looks.of_pure (t3 f hf)) (by cases b<;>rfl) ?_
   have:(Value.type (if b then"int"else"str") !=Value.type "tuple")=true:=(by cases b<;>rfl);rw[this];exact hQ
  ·obtain⟨a,o,xs,n,e1,ho,hc,hd,ff⟩:=at' i ‹0›;obtain⟨a2,o2,xs2,n2,e2,ho2,hc2,hd2,ff2⟩:=at' j ‹0›;unfold kas_ask;have g1:its.getD i Value.none=.ref a:=(by simp[Tl,e1]);have g2:its.getD j Value.none=.ref a2:=(by simp[Tl,e2]);rw[g1,g2];have hi':i<ds.length:=(by omega);have hj':j<ds.length:=(by omega);have sh1:=hsh' _ (Ti hi');have sh2:=hsh' _ (Ti hj');have rl:=tP (ks:=ds.map gk) (σ:=b::σ1) (λk hk=>by obtain⟨x,hx,rfl⟩:=List.mem_map.mp hk;exact hsh' x hx) (i:=i) (j:=j) (by rw[RK];exact hi') (by rw[RK];exact hj');have k1:(ds.map gk).getD i []=gk ds[i]:=(by simp[hi']);have k2:(ds.map gk).getD j []=gk ds[j]:=(by simp[hj']);rw[k1,k2]at rl;rw[rl]at hC;refine kat_lt (kp _ _ ho) hd (kp _ _ ho2) hd2 (u9 ?_ sh1 sh2 ff ff2 hC);have z1:xs.size=(gk ds[i]).length:=(by have:=ff.length;simpa using this);have z2:xs2.size=(gk ds[j]).length:=(by have:=ff2.length;simpa using this);have z3:(gk ds[i]).length=(gk ds[j]).length:=(by rw[Sh.length sh1,Sh.length sh2]);exact decide_eq_false ‹0›
 ·split at hs
  ·rename_i _ h;cases hs;obtain⟨h64,b,hsh,pw⟩:=h;have at':∀i (hi:i<ds.length),(∃(n:Int)(t:Tok),b=true/\its[i]?=some (.int n t)/\ds[i]=.int n)\/∃(x:Str)(t:Tok),b=false/\its[i]?=some (.str x t)/\ds[i]=.str x:=λi hi=>by
    obtain⟨v,e1,dv⟩:=dn.get (i:=i) (d:=ds[i]) (by simp[hi]);obtain⟨w,e2,rw'⟩:=rv.get e1;have hk:=hsh _ (Ti hi);generalize ds[i]=di at dv hk;cases hk with
    |int n _=>
     rw[eO]at dv;subst dv;obtain⟨t,rfl⟩:=rw';exact .inl ⟨n,t,rfl,e2,rfl⟩
    |str x _=>
     rw[eR]at dv;subst dv;obtain⟨t,rfl⟩:=rw';exact .inr ⟨x,t,rfl,e2,rfl⟩
   refine qe (κ:=oneType') (r:=rank (ds.map oneOf)) ‹0› hcol (λh2 h' tk kp Q' hQ=>?_) (λh2 h' tk kp i j C hi hj hC=>?_) (fin oneOf [b] hsh pw h64 rfl)
   ·refine kas_kind (T:=.type (if b then"int"else"str")) h2 (λv hv=>?_) (by cases b<;>rfl) (by cases b<;>rfl) hQ;obtain⟨i,hi,rfl⟩:=Sz hv;have hg:=Su hi;rcases at' i ‹0›with⟨n,t,rfl,e,_⟩|⟨x,t,rfl,e,_⟩
    ·rw[hg]at e;rw[Option.some.inj e];exact Looks.of_pure rfl
    ·rw[hg]at e;rw[Option.some.inj e];exact Looks.of_pure rfl
   ·have hi':i<ds.length:=(by omega);have hj':j<ds.length:=(by omega);unfold kas_ask;have rl:=tP (ks:=ds.map oneOf) (σ:=[b]) (λk hk=>by obtain⟨x,hx,rfl⟩:=List.mem_map.mp hk;exact hsh x hx) (i:=i) (j:=j) (by rw[RK];exact hi') (by rw[RK];exact hj');have k1:(ds.map oneOf).getD i []=[ds[i]]:=(by simp[hi',oneOf]);have k2:(ds.map oneOf).getD j []=[ds[j]]:=(by simp[hj',oneOf]);rw[k1,k2]at rl;rw[rl]at hC;rcases at' i hi' with⟨n,t,hb,e1,q1⟩|⟨x,t,hb,e1,q1⟩
    ·rcases at' j hj' with⟨n2,t2,hb2,e2,q2⟩|⟨x2,t2,hb2,e2,q2⟩
     ·have g1:its.getD i Value.none=.int n t:=(by simp[Tl,e1]);have g2:its.getD j Value.none=.int n2 t2:=(by simp[Tl,e2]);rw[g1,g2,keyLt'_oneType];refine oneLt_int ?_;rw[q1,q2]at hC;unfold kLt at hC;rw[qu]at hC;by_cases z:n=n2
      ·rw[if_pos z]at hC;rw[decide_eq_false ‹0›];exact hC
      ·rw[if_neg z]at hC;cases hd:decide (n<n2)<;>rw[hd]at hC<;>exact hC
     ·rw[hb]at hb2;cases hb2
    ·rcases at' j hj' with⟨n2,t2,hb2,e2,q2⟩|⟨x2,t2,hb2,e2,q2⟩
     ·rw[hb]at hb2;cases hb2
     ·have g1:its.getD i Value.none=.str x t:=(by simp[Tl,e1]);have g2:its.getD j Value.none=.str x2 t2:=(by simp[Tl,e2]);rw[g1,g2,keyLt'_oneType];refine oneLt_str ?_;rw[q1,q2]at hC;unfold kLt at hC;rw[qo]at hC;by_cases z:x=x2
      ·rw[if_pos z]at hC;rw[decide_eq_false (by rw[z];exact qa _)];exact hC
      ·rw[if_neg z]at hC;cases hd:decide (x.cps.toList<x2.cps.toList)<;>rw[hd]at hC<;>exact hC
  ·cases hs
theorem tT:eX X (.builtin "sorted") (CA X.K mH):=by
 rintro pins s σ H xs us Q I r ⟨O,ds,d,hO,hd,hg,q⟩;unfold mH at hg;split at hg
 ·obtain⟨v,rfl,h1⟩:=hd.one;obtain⟨p,ws,rfl,g1,g2⟩:=cx.mp h1;obtain⟨u,rfl,ru⟩:=vals1 r;cases ru;obtain⟨its,rv,pl,hz⟩:=I.list ((aJ H O).seq g1);have hlen:=rv.length;obtain⟨o,ho,hc,n,hd'⟩:=pl.isList;exact sZ I hO g2 rv hg (λQ' hQ=>wpAny_collect_seq p (.inl rfl) ho hc hd' (λh' k=>by simpa using hQ h' s.toks k) (by simp only[RE]<;>omega)) q
 ·obtain⟨v,rfl,h1⟩:=hd.one;obtain⟨p,ws,rfl,g1,g2⟩:=cv.mp h1;obtain⟨u,rfl,ru⟩:=vals1 r;cases ru;obtain⟨its,rv,⟨o,ho,hc,n,hd'⟩,hz⟩:=I.tuple (cj (aJ H O) g1);have hlen:=rv.length;exact sZ I hO g2 rv hg (λQ' hQ=>wpAny_collect_seq p (.inr rfl) ho hc hd' (λh' k=>by simpa using hQ h' s.toks k) (by simp only[RE]<;>omega)) q
 ·cases hg
end
end TG
namespace TG
open PySem PySem.Spec L2
variable[az]
section
variable{X:Cx}{tg:Vf}
end
end TG
namespace TG
open PySem PySem.Spec L2
variable[az]
end TG
namespace TG
open PySem PySem.Spec L2
variable[az]
end TG
namespace TG
open PySem PySem.Spec L2
variable[az]
noncomputable def keyOf:D->Option Key
 |.int i=>some (.inl i)
 |.str x=>some (.inr x)
 |_=>none
noncomputable def keysOf:List D->Option (List Key)
 |[]=>some []
 |d::r=>(keyOf d).bind λk=>(keysOf r).map (k::·)
theorem jU{d:D}{k:Key}(h:keyOf d=some k):d=cI k:=by
 cases d with
 |int i=>cases h;rfl
 |str x=>cases h;rfl
 |_=>cases h
theorem nD:∀{ds:List D}{ks:List Key},keysOf ds=some ks->ds=ks.map cI
 |[],_,h=>by cases h;rfl
 |d::r,ks,h=>by
  unfold keysOf at h;cases e1:keyOf d with
  |none=>rw[e1]at h;cases h
  |some k=>
   rw[e1]at h;cases e2:keysOf r with
   |none=>rw[e2]at h;cases h
   |some ks'=>rw[e2]at h;cases h;rw[jU e1,nD e2];rfl
theorem h7:∀ks:List Key,keysOf (ks.map cI)=some ks
 |[]=>rfl
 |k::r=>by
  show(keyOf (cI k)).bind _=_;have e:keyOf (cI k)=some k:=by cases k<;>rfl
  rw[e];show(keysOf (r.map cI)).map (k::·)=_;rw[h7 r];rfl
theorem jW{K:T3}{H:Hp}{k:Key}{v:V}(h:cA K H (cI k) v):v=kV k:=by
 cases k with
 |inl i=>exact eO.mp h
 |inr x=>exact eR.mp h
section
variable{P:Vj}{w:Vi}{H H':Hp}{h:Vl}{a:Ve}
theorem Bv(x:cy P w H h a (.dK [])):cy P w H' h a (.dT []):=by
 obtain⟨z,hd,vs,rel,o,es,ep,h1,h2,h3,h4,h5,h6⟩:=x;have e:vs=[]:=by have:=rel.length;simpa using this.symm
 subst e;refine⟨RN _,hd,[],.nil,o,es,ep,h1,h2,h3,?_,by simp⟩
 have:=h5.length
 simpa using this
theorem uP(x:cy P w H h a (.dT [])):cy P w H' h a (.dK []):=by
 obtain⟨z,hd,xs,rel,o,es,ep,h1,h2,h3,h4,h5⟩:=x;have e:xs=[]:=by have:=rel.length;simpa using this.symm
 subst e;have e2:es=#[]:=by simpa using h4
 subst e2;exact⟨RN _,hd,[],.nil,o,#[],ep,h1,h2,h3,λe he=>by simp at he,.nil,by simp⟩
end
section
variable{X:Cx}{pins:aS}{σ:St}{H:Hp}{s:Vh}{a:Ve}
theorem OI(I:Inv X pins σ H s)(h1:H a=some (.dK [])):Inv X pins σ (upd H a (.dT [])) s:=by
 have hx:=I.hok a _ h1;have hq:∃q,s.heap.get? a=some q:=by obtain⟨_,_,_,_,o,_,_,e,_⟩:=id hx;exact⟨o,e⟩
 exact lV (ob:=.dT []) (h':=s.heap) (t':=s.toks) I (by rw[h1];exact trivial) ⟨rfl,λ_ _=>rfl⟩ hq (Bv hx)
theorem KL(I:Inv X pins σ H s)(h1:H a=some (.dT [])):Inv X pins σ (upd H a (.dK [])) s:=by
 have hx:=I.hok a _ h1;have hq:∃q,s.heap.get? a=some q:=by obtain⟨_,_,_,_,o,_,_,e,_⟩:=id hx;exact⟨o,e⟩
 exact lV (ob:=.dK []) (h':=s.heap) (t':=s.toks) I (by rw[h1];exact trivial) ⟨rfl,λ_ _=>rfl⟩ hq (uP hx)
end
theorem Ce{H:Hp}{a:Ve}{o1 o2:HO}(h:H a=some o1):upd (upd H a o2) a o1=H:=by
 funext b;by_cases e:b=a
 ·subst e;rw[aA,h]
 ·rw[ay e,ay e]
theorem Bt{H:Hp}{a:Ve}{o1 o2:HO}:upd (upd H a o1) a o2=upd H a o2:=by
 funext b;by_cases e:b=a
 ·subst e;rw[aA,aA]
 ·rw[ay e,ay e,ay e]
end TG
namespace TG
open PySem PySem.Spec L2
variable[az]
end TG
namespace TG
open PySem PySem.Spec PySem.W PySem.Calls PyProof.Rows Builtin Builtin.ObjectAttr Builtin.Getset_descriptor
variable[az]
section
variable{prog:Vj}{w:Vi}{A:Vp}{E:Vc->Vh->Prop}{s:Vh}{K:Frag}{x D:Ve}{ox:Obj}{R:VM->Vh->Prop}
structure vg(K:Frag)(D:Ve):Prop where
 ga:findIn K (.ref D) "__getattribute__"=some (some (.builtin "BaseException.__getattribute__"))
 gn:findIn K (.ref D) "__getattr__"=some none
 fc:findIn K (.ref D) "__class__"=some (some (.builtin "object.__class__"))
 sg:specialIn K (.builtin "object.__class__") "__get__"=some (some (.builtin "getset_descriptor.__get__"))
 tk:takesIn K (.builtin "object.__class__")=some true
 ob:mroIn K D (.type "object")=some true
 be:mroIn K D (.type "BaseException")=some true
end
end TG
namespace TG
open PySem PySem.Spec PySem.W PySem.Calls PyProof.Rows Builtin Builtin.ObjectAttr Builtin.Getset_descriptor
noncomputable def v7:List Vc->Bool
 |.ref _::r=>v7 r
 |l=>l==[.type "ValueError",.type "Exception",.type "BaseException",.type "object"]
noncomputable def v9(K:Frag)(D:Ve):Bool:=(clsIn K D).any λcd=>v7 cd.mro
theorem rH(self:Vc):∀{l:List Vc},v7 l=true->refuseLoop self "__setattr__" l=pure ()/\l.contains (.type "object")=true/\l.isEmpty=false
 |[],h=>by cases h
 |c::r,h=>by
  cases c with
  |ref C=>
   obtain⟨h1,h2,_⟩:=rH self (l:=r) h;exact⟨by rw[refuseLoop_ref];exact h1,by rw[S0,h2,To],rfl⟩
  |_=>
   have e:=eq_of_beq (show(_==_)=true from h);rw[e];exact⟨PySem.F.store_ValueError.passes self,by decide +kernel,rfl⟩
section
variable{prog:Vj}{w:Vi}{A:Vp}{E:Vc->Vh->Prop}{s:Vh}{K:Frag}{x D:Ve}{ox:Obj}{od:Option Obj}{name:Str}{v:Vc}{tk:Tok}{R:VM->Vh->Prop}
theorem xJ(X:K.In s.heap)(I:InstAt s.heap x ox D od)(hp:v9 K D=true)(ha:findIn K (.ref D) name=some none)
  (h:Vs (model prog w) A.in1 (storeInOwnDict (.ref x) (.ref D) (.str name tk) name v false) (λfin s'=>match fin with|.done f=>R (.ok f) s'|.again c'=>c'.quiet=true/\VN (model prog w) A c' R s') (λe s'=>R (.error e) s') s):
  VN (model prog w) A (.call (.builtin "object.__setattr__") ⟨[.ref x,.str name tk,v],[]⟩) R s:=by
 have SF:=PySem.F.store_object;obtain⟨cd,hc,ho⟩:=Wk hp;obtain⟨v1,v2,v3⟩:=rH (.ref x) ho;have k1:Looks (model prog w) s.heap (isInstance (.ref x) (.type "object")) true:=I.type.andThen (looks_mroIn X (by unfold mroIn;rw[hc,Option.bind_some,if_neg (by rw[v3];decide),v2]));have k2:Looks (model prog w) s.heap (mroOf (.ref D)) cd.mro:=(looks_clsIn X hc).andThen .now;refine Wj SF.slot.plain SF.entry (@check_slot (model prog w) _ _ s "object.__setattr__" "object" "__setattr__" (.ref x) [.str name tk,v] [] _ SF.kind SF.split k1 (SF.args (.ref x) (.str name tk) v) ?_);rw[osa_eq,refuse_eq];refine VB (VB (I.type.here (VB (k2.here ?_))));rw[v1];refine VA (VB (I.type.here (VB ((looks_findIn X ha).here (VB (VA ?_))))));exact h
end
section
variable{prog:Vj}{w:Vi}{A:Vp}{E:Vc->Vh->Prop}{s:Vh}{K:Frag}{x D dx:Ve}{ox:Obj}{od:Option Obj}{name:Str}{v:Vc}{tk:Tok}{R:VM->Vh->Prop}{mA:Str->Option Vc}{ns:List Str}{Q:Unit->Vh->Prop}
structure Gz(K:Frag)(D:Ve):Prop where
 sa:findIn K (.ref D) "__setattr__"=some (some (.builtin "object.__setattr__"))
 ov:v9 K D=true
 hd:hasDictIn K D=true
theorem BD(Z:Gz K D)(X:K.In s.heap)(hx:s.heap.get? x=some ox)(hc:ox.cls=.ref D)(hn:notCls ox=true)(hd:ox.dict=some dx)(hns:s.heap.Ns1 dx mA)(ha:findIn K (.ref D) name=some none)(hw:PySem.Within mA ns)(hsz:ns.length<=Vm)
  (h:∀h',h'.Ns1 dx (λy=>if y=name then some v else mA y)->UR dx s.heap h'->Q () {s with heap:=h',toks:=s.toks+2}):Vs (model prog w) A (setAttr (.ref x) name v) Q E s:=by
 obtain⟨oD0,ho0,hl0⟩:=L2.zp hns;have I:InstAt s.heap x ox D (some oD0):=⟨hx,hc,hn,by rw[hd];exact ho0⟩
 refine set_plain X I Z.sa (xJ (s:={s with toks:=s.toks+1}) X I Z.ov ha ?_);obtain⟨cd,c1,c2⟩:=Wk Z.hd;obtain⟨oc,odi,oda,osl⟩:=ox;dsimp only at hc hd;subst hc hd;refine VB (VA (VB (VB (VI hx (VB (Looks.here (s:={s with toks:=s.toks+1}) (looks_clsIn X c1) ?_))))));rw[c2];refine VA (a:=some dx) (VB (VA (VB ?_)));refine wpAny_nsSet1 (s:={s with toks:=s.toks+1}) hns λh' n2 s2=>?_;obtain⟨o3,es3,ep3,q1,q2,q3⟩:=n2.count (PySem.Within.cons name v hw);refine VB (VJ q1 (by rw[q2];exact VL (Rq q3 (by rw[RH];omega))) ?_);exact VA (h _ n2 s2)
theorem B5{vs:Array Vc}(Z:Gz K D)(X:K.In s.heap)(hx:s.heap.get? x=some ox)(hc:ox.cls=.ref D)(hdat:ox.data=.fields vs)(hd:ox.dict=none)(ha:findIn K (.ref D) name=some none)
  (h:∀h',h'.Ns1 s.heap.objs.size (λy=>if y=name then some v else none)->UR s.heap.objs.size ((s.heap.push {cls:=.type "dict",data:=.dict #[]}).update x λo=>{o with dict:=some s.heap.objs.size}) h'->Q () {s with heap:=h',toks:=s.toks+2}):Vs (model prog w) A (setAttr (.ref x) name v) Q E s:=by
 obtain⟨oc,odi,oda,osl⟩:=ox;dsimp only at hc hd hdat;subst hc hd hdat;have I:InstAt s.heap x ⟨.ref D,none,.fields vs,osl⟩ D none:=⟨hx,rfl,rfl,trivial⟩
 refine set_plain X I Z.sa (xJ (s:={s with toks:=s.toks+1}) X I Z.ov ha ?_);obtain⟨cd,c1,c2⟩:=Wk Z.hd;refine VB (VA (VB (VB (VI hx (VB (Looks.here (s:={s with toks:=s.toks+1}) (looks_clsIn X c1) ?_))))));rw[c2];have hx1:(s.heap.push {cls:=.type "dict",data:=.dict #[]}).get? x=some ⟨.ref D,none,.fields vs,osl⟩:=UT _ hx;have ne:x≠s.heap.objs.size:=Rp (UP hx);rw[if_neg (by decide)];dsimp only;rw[if_neg (by simp[typeHasDict])];refine VB (wpAny_alloc' (VB (wpAny_update' hx1 (VA ?_))));have g1:((s.heap.push {cls:=.type "dict",data:=.dict #[]}).update x λo=>{o with dict:=some s.heap.objs.size}).get? s.heap.objs.size=some {cls:=.type "dict",data:=.dict #[]}:=(U0 _ _ _ _ ne.symm).trans (U1 rfl rfl);have g3:((s.heap.push {cls:=.type "dict",data:=.dict #[]}).update x λo=>{o with dict:=some s.heap.objs.size}).Ns s.heap.objs.size (λ_=>none):=⟨_,#[],_,g1,rfl,λe he=>absurd he (by simp),λ_=>rfl⟩
 show Vs _ _ (storeInDict s.heap.objs.size (.str name s.toks) name v) _ _ _;unfold storeInDict newKeyGuard;refine VB (VA (VB (wpAny_nsSet1 (Heap.Ns1.of_empty g3) λh' n2 s2=>?_)));obtain⟨o3,es3,ep3,q1,q2,q3⟩:=n2.count (PySem.Within.cons name v PySem.Within.nil);refine VB (VJ q1 (by rw[q2];exact VL (Rq q3 (by rw[RH,Sa,VH];omega))) ?_);exact VA (h h' n2 s2)
end
end TG
namespace TG
open PySem PySem.Spec L2
variable[az]
open PyProof.Rows (AllBare OwnCls)
section
variable{X:Cx}{pins:aS}{σ:St}{H:Hp}{s:Vh}{h':Vl}
theorem yi(I:Inv X pins σ H s)(hx:X.ex=[])(hst:X.stack=X.env::X.outer)(hf:X.env.frame=some X.env.locals)(hfn:∀x,X.fn x=true)(us:s.heap.UpToSlots h')(k:∀b o,s.heap.get? b=some o->jt X H b->b∉frs X.stack->h'.get? b=some o):
  Inv X [] σ H {s with heap:=h'}:=by
 have un:=Be I hx hst hf us k;have cellF:∀x c,X.env.cells.lookup x=some c->c∉frs X.stack:=λx c e z=>by
  obtain⟨v,o,q,d⟩:=I.cell x c e;rw[hst]at z;have z':c∈X.env.locals::frs X.outer:=by
   have:frs (X.env::X.outer)=X.env.locals::frs X.outer:=(by show List.filterMap _ (_::_)=_;rw[Rt,hf];rfl);rw[this]at z;exact z
  rcases List.mem_cons.mp z' with z|z
  ·obtain⟨m,⟨o2,es,ep,e2,d2,_⟩,_⟩:=I.loc;rw[<-z,q]at e2;cases e2;rw[d]at d2;cases d2
  ·obtain⟨_,o2,e2,_⟩:=I.ok.funs.mem z;exact Ro _ (Rn (UP e2) (I.ok.cab x c (hfn x) e))
 have cellK:∀x c v,X.env.cells.lookup x=some c->s.heap.IsCell c v->h'.IsCell c v:=λx c v e ⟨o,q,d⟩=>⟨o,k c o q (.inr (.inr (.inr ⟨x,e⟩))) (cellF x c e),d⟩
 obtain⟨m,hn,hl⟩:=I.loc;refine⟨I.ok,I.os,I.bare,by rw[hx];exact un,⟨m,us.ns hn,λi x v e1 e2 e3=>?_⟩,λx c e=>?_,I.free,I.freeC,λp hp=>?_,xY I k,I.len⟩
 ·obtain⟨u,r,q⟩:=hl i x v e1 e2 e3;refine⟨u,r,?_⟩;rcases q with q|⟨q1,c,q2,q3⟩
  ·exact .inl q
  ·exact .inr ⟨q1,c,q2,cellK x c _ q2 q3⟩
 ·obtain⟨v,q⟩:=I.cell x c e;exact⟨v,cellK x c v e q⟩
 ·rw[RO]at hp;obtain⟨e,n,ne,nf,d⟩:=I.pin p (Rw _ hp);have nfs:p.1∉frs X.stack:=λz=>by
   have:frs X.stack=X.env.locals::frs X.outer:=(by rw[hst];show List.filterMap _ (_::_)=_;rw[Rt,hf];rfl);rw[this]at z;rcases List.mem_cons.mp z with z|z
   ·exact ne z
   ·exact nf z
  exact⟨k _ _ e (.inr (.inr (.inl ⟨p.2,hp⟩))) nfs,n,ne,nf,d⟩
end
abbrev Dl:aN:=[.type "ValueError",.type "Exception",.type "BaseException",.type "object"]
theorem Dr{K:T3}{h:Vl}{C:Ve}{bmB:aN}{newId:String}(X:K.In h)(q:UJ K C bmB newId=true)(x:Str):OwnCls x C bmB newId (λ_=>some (.ref C)) h:=by
 constructor
 ·rfl
 ·unfold UJ at q;split at q
  ·rename_i od data slots look;split at q
   ·rename_i C0 tl s0 s1 s2 s3 nid s5 e1 e2;simp only[R4,beq_iff_eq,Tp]at q;obtain⟨⟨⟨⟨⟨y1,y2⟩,y3⟩,y4⟩,y5⟩,y6⟩:=q;subst y1 y2;obtain⟨d1,d2,d3,d4,d5,d6,d7,d8,d9,d10,d11⟩:=data;dsimp only at e1 y3 y5 y6;subst e1 y3;have hs:slots=#[s0,s1,s2,s3,some (.builtin nid),s5]:=by
     cases slots with
     |mk l=>rw[show l=_ from e2]
    subst hs;exact⟨tl,d4,d1,d5,d2,d6,d7,d8,d9,d10,od,s0,s1,s2,s3,s5,_,X _ _ look,.of_isNs (UK X y5),PySem.W.nsMap_none_of_in X y5 y6,UL X y4⟩
   ·cases q
  ·cases q
noncomputable def ExcAt(K:T3)(mg:cu)(x:Str):Prop:=∃C,clsAt K x C/\mg x=some (.ref C)/\UJ K C Dl "ValueError.__new__"=true
noncomputable def cR(c:Str)(f:aW):bK:=λk ρ=>o7 (f ρ) k ρ λds=>if small ds.length then k.ex ⟨c,[],[]⟩ ρ else un
theorem jn{base B h h':Vl}(k:∀b o,h.get? b=some o->h'.get? b=some o):∀{l:List Env},(∀b∈frs l,B.get? b=none)->h.FunFrames base l->h'.FunFrames B l
 |[],_,_=>trivial
 |env::l,hb,⟨h1,⟨L,o,h2,_,h3,h4⟩,h5⟩=>by
  have mem:L∈frs (env::l):=by show L∈List.filterMap _ (_::_);rw[Rt,h2];exact Ru
  refine⟨h1,⟨L,o,h2,hb L mem,k _ _ h3,h4⟩,jn k (λb z=>hb b ?_) h5⟩;show b∈List.filterMap _ (_::_);rw[Rt,h2];exact Rv _ z
section
variable{X:Cx}{pos:Pos}
theorem A7{pins:aS}{σ:St}{H:Hp}{s:Vh}{h':Vl}{e C:Ve}{us:aN}(I:Inv X pins σ H s)(m:U2 s.heap h' e (.ref C) us):vm X H {s with heap:=h'} e C none:=by
 have hd:∀b o,(lu s.heap (λb=>if b∈frs X.stack then some (.tup [])else none)).get? b=some o->s.heap.get? b=some o/\b∉frs X.stack:=λb o q=>by
  obtain⟨q1,q2⟩:=mP q;refine⟨q1,λz=>?_⟩;rw[if_pos z]at q2;cases q2
 obtain⟨t,m1,m2,m3⟩:=m.there;refine⟨λoe q=>by rw[m1]at q;cases q;rfl,lu s.heap (λb=>if b∈frs X.stack then some (.tup [])else none),.ref t,λb o q=>m.keeps b o (hd b o q).1,?_,jn m.keeps (λb hb=>?_) I.stack,.inr ⟨_,_,m1,rfl,rfl,rfl,rfl⟩,λb o q kb nf=>?_⟩
 ·cases q:(lu s.heap (λb=>if b∈frs X.stack then some (.tup [])else none)).get? e with
  |none=>rfl
  |some o=>have:=(hd e o q).1;rw[m.new]at this;cases this
 ·cases q:(lu s.heap (λb=>if b∈frs X.stack then some (.tup [])else none)).get? b with
  |none=>rfl
  |some o=>exact absurd hb (hd b o q).2
 ·obtain⟨o1,e1⟩:∃o1,s.heap.get? b=some o1:=by
   rcases kb with⟨⟨o0,z⟩,nx⟩|z|⟨o0,z⟩|⟨y,z⟩
   ·exact I.base.there b o0 z nx
   ·cases q0:H b with
    |none=>exact absurd q0 z
    |some ob=>exact vZ (I.hok b ob q0)
   ·exact⟨_,(I.pin _ (Rw _ z)).1⟩
   ·obtain⟨v,o0,z0,_⟩:=I.cell y b z;exact⟨o0,z0⟩
  have:=m.keeps b o1 e1
  rw[show h'.get? b=some o from q]at this;cases this;exact qi e1 (if_neg nf)
end
end TG
namespace TG
open PySem PySem.Spec L2
variable[az]
noncomputable abbrev wW(X:Cx)(E:bJ)(pn:aS):Cx:={X with xe:=E,pn:=pn}
noncomputable abbrev vJ(X:Cx)(A:Vp)(pn:aS):Cx:={X with A:=A,xe:=λ_ _=>False,calm:=false,pn:=pn}
section
variable{X:Cx}{pins:aS}{σ:St}{H:Hp}{s:Vh}{E:bJ}{A:Vp}
theorem DY(I:L2.Inv X pins σ H s)(E:bJ):L2.Inv (wW X E (X.pn++pins)) [] σ H s:=
 ⟨⟨I.ok.mod,I.ok.kind,I.ok.glob,I.ok.blt,I.ok.above,I.ok.inj,I.ok.has,I.ok.cab,I.ok.hd,I.ok.frames,I.ok.stk,I.ok.exf,I.ok.bs,I.ok.bsz,I.ok.noex,I.ok.exfs,I.ok.funs,I.ok.frf⟩,
  I.os,I.bare,I.base,I.loc,I.cell,I.free,I.freeC,λp hp=>I.pin p (by simpa using hp),I.hok,I.len⟩
theorem gB{E':bJ}{A':Vp}{c':Bool}(ok:X.Ok)(I:L2.Inv {X with A:=A',xe:=E',calm:=c',pn:=X.pn++pins} [] σ H s):L2.Inv X pins σ H s:=
 ⟨ok,I.os,I.bare,I.base,I.loc,I.cell,I.free,I.freeC,λp hp=>I.pin p (by simpa using hp),I.hok,I.len⟩
theorem vD{pn:aS}{ps:aS}(I:L2.Inv (wW X E pn) ps σ H s)(hA:A.frames=X.A.frames):L2.Inv (vJ X A pn) ps σ H s:=
 ⟨⟨I.ok.mod,I.ok.kind,I.ok.glob,I.ok.blt,I.ok.above,I.ok.inj,I.ok.has,I.ok.cab,(fun z=>nomatch z),by rw [show (vJ X A pn).A=A from rfl,hA]; exact I.ok.frames,I.ok.stk,I.ok.exf,I.ok.bs,I.ok.bsz,I.ok.noex,I.ok.exfs,I.ok.funs,I.ok.frf⟩,
  I.os,I.bare,I.base,I.loc,I.cell,I.free,I.freeC,I.pin,I.hok,I.len⟩
theorem zF{e C:Ve}{dx:Option Ve}(fl:vm X H s e C dx):∃oe vs,s.heap.get? e=some oe/\oe.cls=.ref C/\oe.data=.fields vs:=by
 obtain⟨_,B,a0,_,_,_,b4,_⟩:=fl;rcases b4 with⟨oe,vs,T,oT,ts,h1,h2,h3,_⟩|⟨oe,vs,h1,h2,h3,_⟩
 ·exact⟨oe,vs,h1,h2.1,h3⟩
 ·exact⟨oe,vs,h1,h2,h3⟩
theorem CH{M:Vr}{e C:Ve}{dx:Option Ve}{Q:Unit->df}(hfr:A.frames=some X.stack)(hst:X.stack=X.env::X.outer)(hf:X.env.frame=some X.env.locals)(fl:vm X H s e C dx)
  (hQ:∀B a0 h',Heap.HeldW B X.stack e (.ref C) a0 X.env.locals h'->s.heap.UpToSlots h'->(∀b o,s.heap.get? b=some o->jt X H b->b∉frs X.stack->B.get? b=some o)->DS s.heap h'->Q () {s with heap:=h'}):
  Vs M A (noteFrame (.ref e) X.env) Q E s:=by
 obtain⟨_,B,a0,b1,b2,b3,b4,b5⟩:=fl;rw[hst]at hfr b3;refine DP.go (yB _ _) (P:=λh'=>Heap.HeldW B X.stack e (.ref C) a0 X.env.locals h'/\s.heap.UpToSlots h') ?_ λh' z ds=>hQ B a0 h' z.1 z.2 b5 ds;rcases b4 with b4|⟨oe,vs,c1,c2,c3,c4,c5⟩
 ·exact wpAny_looks_onW hfr hf ⟨b1,b2,b3,b4⟩ λh' hd us=>⟨h',rfl,by rw[hst];exact hd,us⟩
 ·unfold noteFrame;simp only[hf];refine VB (V6 c1 c3 c4 ?_);rw[if_neg (by decide)];refine wpAny_entryW hfr b3 hf c1 b1 b2 c3 (Array.getElem?_eq_some_iff.mp c4).1 c5 λh' hN=>?_;obtain⟨k1,k2,k3,k4⟩:=hN;exact⟨h',rfl,⟨k1,b2,by rw[hst];exact k2,c2 ▸ k3⟩,k4⟩
end
noncomputable def uW(K:T3)(mg:cu)(g:Str)(cs:au):Prop:=∃G,mg g=some (.ref G)/\∀c∈cs,∀C,clsAt K c C->UM K (.ref C) (.ref G)=some true
end TG
namespace TG
open PySem PySem.Spec L2
variable[az]
theorem AK{K:T3}{C:Ve}{v:Vc}(h:UG K C v=some true):(UA K C).isSome=true:=by
 unfold UG at h;cases e:UA K C with
 |none=>rw[e]at h;cases h
 |some c=>rfl
theorem iq{K:T3}{C G:Ve}(hb:UC K (.ref G) (.type "BaseException")=some true)(hs:UC K (.ref C) (.ref G)=some true)(ho:UG K G (.type "object")=some true)(ht:Uh K (.ref G)=some (.type "type")):UM K (.ref C) (.ref G)=some true:=by
 unfold UM;rw[if_pos (by rw[hb];rfl)];unfold PySem.W.kitCls;dsimp only;rw[if_pos (by rw[AK ho,ht];rfl)];exact hs
theorem B3{K:T3}{mg:cu}{g:Str}{G:Ve}{cs:au}(hm:mg g=some (.ref G))(h:∀c∈cs,∃C,clsAt K c C/\UM K (.ref C) (.ref G)=some true):uW K mg g cs:=⟨G,hm,λc hc C hC=>by
 obtain⟨C',h1,h2⟩:=h c hc;cases ai hC h1;exact h2⟩
noncomputable def uF(val:Nat->Int):Nat->Int
 |0=>0
 |1=>val 0
 |n+2=>if val (n+1)>uF val (n+1)then val (n+1)else uF val (n+1)
noncomputable def lY:List D->Option (List Int)
 |[]=>some []
 |.int i::r=>(lY r).map (i::·)
 |_=>none
theorem sf:∀{xs:List D}{ns:List Int},lY xs=some ns->xs=ns.map .int
 |[],_,h=>by cases h;rfl
 |d::r,ns,h=>by
  cases d with
  |int i=>
   cases e:lY r with
   |none=>rw[show lY (.int i::r)=(lY r).map (i::·)from rfl,e]at h;cases h
   |some ms=>rw[show lY (.int i::r)=(lY r).map (i::·)from rfl,e]at h;cases h;rw[sf e];rfl
  |_=>cases h
noncomputable def sj(i:Int)(d:D):bE:=match d with
 |.lst xs=>(lY xs).map λns=>.int (if ns.length=0 then i else uF (λk=>ns.getD k 0) ns.length)
 |_=>none
section
variable{prog:Vj}{w:Vi}{A:Vp}{R:VM->df}{I:Ve}{fp wr:aD}{n:Nat}{P:Nat->Vc->Prop}{St:Nat->Vl->Prop}
theorem zD(W:Walks prog w A.in1 I fp wr n P St)(val:Nat->Int)(hv:∀i v,P i v->∃t,v=.int (val i) t)(dv:Vc)(Z:Ve)(hZ:Z∉fp):
  ∀(k j:Nat)(s:Vh)(cs:Array Vc)(c:Nat),n-j=k->j<=n->St j s.heap->(cs=#[]/\j=0\/0<j/\∃t,cs=#[.int (uF val j) t,.int (uF val j) t])->
   s.heap.get? Z=some {cls:=.type "list",dict:=none,data:=.seq cs c,slots:=#[]}->
   (∀v h' tk,(n=0/\v=dv\/0<n/\∃t,v=.int (uF val n) t)->(∀b o,b∉wr->b≠Z->s.heap.get? b=some o->h'.get? b=some o)->R (.ok (.ret v)) {s with heap:=h',toks:=tk})->
   VN (model prog w) A (.builtin "max.loop" ⟨[.ref I,.none,.ref Z],[(Str.ofString "default",dv)]⟩) R s:=by
 have zw:Z∉wr:=λh=>hZ (W.sub _ h);have nm:(toString "max"++toString ".loop":String)="max.loop":=by
  decide
 intro k
 induction k with
 |zero=>
  intro j s cs c hk hj hst hcs hl hR;have en:j=n:=by omega
  subst en;refine Wm F.entry_max_loop ?_;rw[Around.under_plainId F.plain_max_loop _];refine VB (m:=seqItems? (.ref Z)) (Wi hl rfl ?_);refine VB (m:=tryCatch (pyNext (.ref I)) _)
   (Wo (W.done s _ _ hst λh' tk hk'=>?_))
  have hl':=hk' Z _ zw hl;rcases hcs with⟨rfl,rfl⟩|⟨hp,t,rfl⟩
  ·refine VB (Wf ?_);exact VA (hR dv h' tk (.inl ⟨rfl,rfl⟩) λb o hb _ e=>hk' b o hb e)
  ·refine VB (m:=updateSeq Z λ_=>#[]) (Wp hl' rfl
    (VB (Wq (VA (hR _ _ tk (.inr ⟨hp,t,rfl⟩) λb o hb hz e=>?_)))))
   exact(UW _ _ hz.symm).trans (hk' b o hb e)
 |succ k ih=>
  intro j s cs c hk hj hst hcs hl hR;have hlt:j<n:=by omega
  refine Wm F.entry_max_loop ?_;rw[Around.under_plainId F.plain_max_loop _];refine VB (m:=seqItems? (.ref Z)) (Wi hl rfl ?_);refine VB (m:=tryCatch (pyNext (.ref I)) _)
   (Wo (W.item j s _ _ hlt hst λv h' tk hP hst' hk'=>?_))
  have hl':=hk' Z _ zw hl;obtain⟨tv,rfl⟩:=hv j v hP;have next:∀(h2:Vl)(cs2:Array Vc)(c2:Nat),(∀b o,b≠Z->h'.get? b=some o->h2.get? b=some o)->h2.get? Z=some {cls:=.type "list",dict:=none,data:=.seq cs2 c2,slots:=#[]}->(∃t,cs2=#[.int (uF val (j+1)) t,.int (uF val (j+1)) t])->
    VN (model prog w) A (.builtin "max.loop" ⟨[.ref I,.none,.ref Z],[(Str.ofString "default",dv)]⟩) R {s with heap:=h2,toks:=tk}:=λh2 cs2 c2 k2 l2 hc2=>by
   refine ih (j+1) _ cs2 c2 ‹0› hlt (W.frame _ _ _ hst' λb hb o e=>k2 b o (λz=>hZ (z ▸ hb)) e) (.inr ⟨by omega,hc2⟩) l2 λv' h'' tk'' hv' hk''=>?_;exact hR v' h'' tk'' hv' λb o hb hz e=>hk'' b o hb hz (k2 b o hz (hk' b o hb e))
  rcases hcs with⟨rfl,rfl⟩|⟨hp,t,rfl⟩
  ·refine VB (VA ?_);refine VB (m:=updateSeq Z λ_=>#[.int (val 0) tv,.int (val 0) tv]) (Wp hl' rfl ?_);rw[nm];exact VA ⟨Wr F.plain_max_loop _,next _ _ _ (λb o hz e=>(UW _ _ hz.symm).trans e) (UY _ hl' rfl) ⟨tv,rfl⟩⟩
  ·obtain⟨m,rfl⟩:∃m,j=m+1:=⟨j-1,by omega⟩
   refine VB (VA ?_);refine VB (m:=tryCatch _ _) (Wo (V7
    (VB (CmpOf.ints_gt (P:=λi v=>∃t,v=.int (if i=0 then val (m+1)else uF val (m+1)) t) (λi=>if i=0 then val (m+1)else uF val (m+1)) (λi v h=>h) 0 1 _ _ _ _ _ ⟨tv,rfl⟩ ⟨t,rfl⟩ ?_))))
   refine VB (V7 (Vy ?_));refine VB (Wq
    (VA ?_))
   split
   ·rename_i hz;have hb:val (m+1)>uF val (m+1):=of_decide_eq_true (show decide (val (m+1)>uF val (m+1))=true from hz);refine VB (m:=updateSeq Z λ_=>#[.int (val (m+1)) tv,.int (val (m+1)) tv])
     (Wp hl' rfl (VB (Wq ?_)))
    rw[nm];exact VA ⟨Wr F.plain_max_loop _,next _ _ _ (λb o hz e=>(UW _ _ hz.symm).trans e) (UY _ hl' rfl) ⟨tv,by rw[uF,if_pos hb]⟩⟩
   ·rename_i hz;have hb:¬val (m+1)>uF val (m+1):=λz=>hz (show decide (val (m+1)>uF val (m+1))=true from decide_eq_true z);refine VB (Wq ?_);rw[nm];exact VA ⟨Wr F.plain_max_loop _,next _ _ _ (λb o _ e=>e) hl' ⟨t,by rw[uF,if_neg hb]⟩⟩
theorem yM(a v:Vc):argsOk "max" ⟨[a],[(Str.ofString "default",v)]⟩:=by
 unfold argsOk
 kernel_rfl
theorem zS:Vo "max"=some (.builtin "max"):=by first|rfl|decide +kernel
theorem Aw{E:bJ}{s:Vh}{l:Ve}{its:aN}{ns:List Int}{dv:Vc}{Q:bJ}(hh:A.handled=none)(hl:s.heap.IsList l its.toArray)(hi:∀(i:Nat)(v:Vc),its[i]?=some v->∃t,v=.int (ns.getD i 0) t)(hn:its.length=ns.length)
  (hQ:∀v h' tk,(ns.length=0/\v=dv\/0<ns.length/\∃t,v=.int (uF (λk=>ns.getD k 0) ns.length) t)->(∀b o,s.heap.get? b=some o->h'.get? b=some o)->Q v {s with heap:=h',toks:=tk}):
  Vs (model prog w) A (call (.builtin "max") [.ref l] [(Str.ofString "default",dv)]) Q E s:=by
 have nm:(toString "max"++toString ".loop":String)="max.loop":=by
  decide
 have hlt:l<s.heap.objs.size:=by obtain⟨_,e,_⟩:=hl;exact UP e
 refine VX (Wj F.plain_max F.entry_max ?_);have go:Vs (model prog w) A.in1 (Builtin.«max» ⟨[.ref l],[(Str.ofString "default",dv)]⟩) (λfin s'=>match fin with
   |.done f=>(match(Except.ok f:VM)with|.ok (.ret v)=>Q v s'|.ok _=>False|.error e=>E e s')
   |.again c'=>c'.quiet=true/\VN (model prog w) A c' (λr s'=>match r with|.ok (.ret v)=>Q v s'|.ok _=>False|.error e=>E e s') s') E s:=by
  show Vs _ A.in1 (Builtin.Builtins.bindParams "max" ["key","default"] 0 ⟨[],[(Str.ofString "default",dv)]⟩ >>= _) _ _ s;refine VB (wpAny_of_eq (show Builtin.Builtins.bindParams "max" ["key","default"] 0 ⟨[],[(Str.ofString "default",dv)]⟩=pure [none,some dv]from rfl) ?_);refine VB (VA ?_);refine VB (VC hl ?_);refine VB (Wb ?_);rw[nm];have hne:l≠s.heap.objs.size:=Rp hlt;refine VA ⟨Wr F.plain_max_loop _,zD (Walks.list (A:=A.in1) hh s.heap.objs.size l hne its.toArray) (λk=>ns.getD k 0) (λi v h=>hi i v (by simpa using h)) dv _ (λhm=>?_) _ 0 _ #[] _ rfl (RN _) ⟨⟨_,UT _ (UU _ rfl),rfl,rfl⟩,(hl.push _).push _⟩ (.inl ⟨rfl,rfl⟩) (UU _ rfl) λv h' tk hv hk=>?_⟩
  ·simp only[UV,SU,Tq,or_false]at hm;rcases hm with hm|hm
   ·exact Nat.succ_ne_self _ hm
   ·rw[<-hm]at hlt;exact Ro _ (Nat.lt_of_succ_lt hlt)
  ·have e:its.toArray.size=ns.length:=(by rw[RE,hn]);rw[e]at hv;refine hQ v h' tk hv λb o q=>hk b o (λz=>?_) (λz=>?_) (UT _ (UT _ q))
   ·have h1:=UP q;simp only[SU,Tq,or_false]at z;rw[z]at h1;exact Ro _ h1
   ·have h1:=UP q;rw[z,UV]at h1;exact Ro _ (Nat.lt_of_succ_lt h1)
 simp only[checkBuiltinCall,F.kind_max];cases hsig:Manifest.signature? "max"with
 |none=>exact VA go
 |some sig=>
  have ha:Bind.checkArgs "max" sig ⟨[.ref l],[(Str.ofString "default",dv)]⟩=pure ():=by
   have:=yM (.ref l) dv
   unfold argsOk at this;rw[hsig]at this;exact this
  simp only[ha];exact VA go
end
section
variable{X:Cx}{p pos kp:Pos}{e:Vf}
theorem xR{K:T3}{H:Hp}:∀{ns:List Int}{ys:aH}{its:aN},aL K H (ns.map .int) ys->Vals ys its->∀(k:Nat)(v:Vc),its[k]?=some v->∃t,v=.int (ns.getD k 0) t
 |[],ys,its,h,r,k,v,e=>by
  rw[R7,cB]at h;subst h;cases r;simp at e
 |n::ns,ys,its,h,r,k,v,e=>by
  rw[RJ,aV]at h;obtain⟨y,ys',rfl,h1,h2⟩:=h;cases r with
  |cons r1 r2=>
   cases k with
   |zero=>
    rw[eO]at h1;subst h1;obtain⟨t,rfl⟩:=r1;simp at e;exact⟨t,e.symm⟩
   |succ k=>
    simp only[SW]at e;exact xR h2 r2 k v e
end
end TG
namespace TG
open PySem PySem.Spec L2
variable[az]
end TG
namespace TG
open PySem PySem.Spec L2
open PySem PySem.Spec PyProof.Rows PySem.W L2
variable[az]
end TG
namespace TG
open PySem PySem.Spec PyProof.Rows PySem.W L2
variable[az]
end TG
namespace TG
open PySem PySem.Spec PyProof.Rows PySem.W L2
variable[az]
theorem ug:Vo "sorted"=some (.builtin "sorted"):=by first|rfl|decide +kernel
end TG
namespace TG
open PySem PySem.Spec PyProof.Rows PySem.W L2
end TG
namespace TG
open PySem PySem.Spec PySem.Calls L2
open PySem.SeqAt (EqAt list_indexAt)
variable[az]
section
variable{X:Cx}{p pos:Pos}{e:Vf}
end
end TG
namespace TG
open PySem PySem.Spec L2
variable[az]
end TG
namespace TG
open PySem PySem.Spec PySem.Calls L2
open PySem.SeqAt (EqAt list_countAt)
variable[az]
noncomputable def yS:=JT (λ_ j=>decide (0<=j)) λi j=>i/2^j.toNat
theorem Ia{K:T3}:cY K (rI (λ_ j=>0<=j) λi j=>.int (i/2^j.toNat)) yS:=jh λ_ _ h=>of_decide_eq_true h
noncomputable def rm:=Gb λi j=>.int (Builtin.bitAnd i j)
theorem Jm{K:T3}:cY K (zQ λi j=>.int (Builtin.bitAnd i j)) rm:=qb
noncomputable def j8:List D->List D->Option (List (Key×D))
 |[],[]=>some []
 |k::ks,d::ds=>(keyOf k).bind λk=>(j8 ks ds).map ((k,d)::·)
 |_,_=>none
noncomputable abbrev fu(al:List (Key×D)):List D:=al.map λp=>cI p.1
noncomputable abbrev lT(al:List (Key×D)):D:=.dct (fu al) (al.map (·.2))
theorem jw(k:Key):keyOf (cI k)=some k:=by cases k<;>rfl
theorem BH{a b:Key}(h:cI a=cI b):a=b:=by
 have e:=congrArg keyOf h;rw[jw,jw]at e;exact Option.some.inj e
theorem pX:∀{ks ds:List D}{al:List (Key×D)},j8 ks ds=some al->ks=fu al/\ds=al.map (·.2)
 |[],[],_,h=>by cases h;exact⟨rfl,rfl⟩
 |k::ks,d::ds,al,h=>by
  unfold j8 at h;cases e1:keyOf k with
  |none=>rw[e1]at h;cases h
  |some k'=>
   rw[e1]at h;cases e2:j8 ks ds with
   |none=>rw[e2]at h;cases h
   |some al'=>
    rw[e2]at h;cases h;obtain⟨h1,h2⟩:=pX e2;rw[jU e1,h1,h2];exact⟨rfl,rfl⟩
 |[],_::_,_,h=>by cases h
 |_::_,[],_,h=>by cases h
theorem n9:∀al:List (Key×D),j8 (fu al) (al.map (·.2))=some al
 |[]=>rfl
 |p::r=>by
  show(keyOf (cI p.1)).bind _=_;rw[jw];show(j8 (fu r) (r.map (·.2))).map ((p.1,p.2)::·)=_;rw[n9 r];rfl
theorem oj:∀{al:List (Key×D)}{ks:List Key},fu al=ks.map cI->al.map (·.1)=ks
 |[],[],_=>rfl
 |p::r,k::ks,h=>by
  have h:cI p.1::fu r=cI k::ks.map cI:=h;injection h with h1 h2;rw[RJ,BH h1,oj h2]
 |[],_::_,h=>by cases h
 |_::_,[],h=>by cases h
theorem NT{K:T3}{H:Hp}{O:aD}{a:Ve}{al:List (Key×D)}(h:ig K H O a (lT al)):
  (∃kvs:List (Key×V),H a=some (.dK kvs)/\kvs.map (·.1)=al.map (·.1)/\aL K (hid H O) (al.map (·.2)) (kvs.map (·.2)))\/(H a=some (.dT [])/\al=[]):=by
 obtain⟨o,vs,h1,h2,h3⟩:=h;rcases h3 with⟨kvs,e,e1,e2⟩|⟨kvs,e,e1,e2⟩
 ·subst e;refine .inl ⟨kvs,h1,?_,by rw[<-e2];exact h2⟩;exact(oj (ks:=kvs.map (·.1)) (by rw[Tr];exact e1)).symm
 ·subst e;cases kvs with
  |nil=>
   refine .inr ⟨h1,?_⟩
   simpa using e1
  |cons p r=>
   cases al with
   |nil=>cases e1
   |cons q r'=>
    have e1:cI q.1::fu r'=D.tup (p.1.map cI)::r.map (λp=>D.tup (p.1.map cI)):=e1;injection e1 with e1 _;rcases q with⟨k,v⟩
    cases k<;>cases e1
section
variable{κ:Type}[DecidableEq κ]
noncomputable def lO(al:List (κ×D))(k:κ)(v:D):List (κ×D):=if(al.any λp=>decide (p.1=k))=true then al.map (λp=>if p.1=k then(p.1,v)else p)else al++[(k,v)]
theorem sN{kvs:List (κ×V)}{al:List (κ×D)}(e:kvs.map (·.1)=al.map (·.1))(k:κ)(w:V)(d:D):(putK kvs k w).map (·.1)=(lO al k d).map (·.1):=by
 have e2:(kvs.any λp=>decide (p.1=k))=(al.any λp=>decide (p.1=k)):=by
  have:=congrArg (λl=>l.any λq=>decide (q=k)) e
  simpa [S7,Function.comp_def]using this
 unfold putK lO;rw[e2];split
 ·have e3:∀(l:List (κ×V)),(l.map λkv=>if kv.1=k then(kv.1,w)else kv).map (·.1)=l.map (·.1):=λl=>by
   rw[Tr];refine SD λp _=>?_;show(if p.1=k then(p.1,w)else p).1=p.1;split<;>rfl
  have e4:∀(l:List (κ×D)),(l.map λkv=>if kv.1=k then(kv.1,d)else kv).map (·.1)=l.map (·.1):=λl=>by
   rw[Tr];refine SD λp _=>?_;show(if p.1=k then(p.1,d)else p).1=p.1;split<;>rfl
  rw[e3,e4,e]
 ·rw[SE,SE,e];rfl
theorem sV{K:T3}{H:Hp}{k:κ}{w:V}{d:D}(hw:cA K H d w):∀{kvs:List (κ×V)}{al:List (κ×D)},kvs.map (·.1)=al.map (·.1)->aL K H (al.map (·.2)) (kvs.map (·.2))->
  aL K H ((al.map λp=>if p.1=k then(p.1,d)else p).map (·.2)) ((kvs.map λp=>if p.1=k then(p.1,w)else p).map (·.2))
 |[],[],_,h=>h
 |p::r,q::r',e,h=>by
  rw[RJ,RJ]at e;injection e with e1 e2;rw[RJ,RJ,aV]at h;obtain⟨v,ws,h0,h1,h2⟩:=h;injection h0 with h0 h0';subst h0 h0';have ih:=sV (k:=k) hw e2 h2;rw[RJ,RJ,RJ,RJ,aV];refine⟨_,_,rfl,?_,ih⟩;rw[e1];split
  ·exact hw
  ·exact h1
 |[],_::_,e,_=>by cases e
 |_::_,[],e,_=>by cases e
theorem uZ{K:T3}{H:Hp}{k:κ}{w:V}{d:D}(hw:cA K H d w){kvs:List (κ×V)}{al:List (κ×D)}(e:kvs.map (·.1)=al.map (·.1))(h:aL K H (al.map (·.2)) (kvs.map (·.2))):
  aL K H ((lO al k d).map (·.2)) ((putK kvs k w).map (·.2)):=by
 have e2:(kvs.any λp=>decide (p.1=k))=(al.any λp=>decide (p.1=k)):=by
  have:=congrArg (λl=>l.any λq=>decide (q=k)) e
  simpa [S7,Function.comp_def]using this
 unfold putK lO;rw[e2];split
 ·exact sV hw e h
 ·rw[SE,SE];exact h.append (aV.mpr ⟨w,[],rfl,hw,cB.mpr rfl⟩)
end
noncomputable def rC(ks ds:List D)(k v:D):Option (List (Key×D)):=(j8 ks ds).bind λal=>(keyOf k).bind λk=>if small al.length then some (lO al k v)else none
noncomputable def sA(i:Nat)(fk fv:FX):bK:=λk ρ=>match ρ[i]? with
 |some (some (.own (.dct ks ds)))=>o7 ((fv ρ).bind λv=>(fk ρ).bind λq=>rO (rC ks ds q v)) k ρ λal=>k.nx (ρ.set i (some (.own (lT al))))
 |_=>un
theorem xr{ks ds:List D}{k v:D}{al':List (Key×D)}(h:rC ks ds k v=some al'):∃al q,ks=fu al/\ds=al.map (·.2)/\k=cI q/\small al.length=true/\al'=lO al q v:=by
 unfold rC at h;cases e1:j8 ks ds with
 |none=>rw[e1]at h;cases h
 |some al=>
  rw[e1]at h;cases e2:keyOf k with
  |none=>rw[e2]at h;cases h
  |some q=>
   rw[e2]at h;obtain⟨h3,h4⟩:=bf (show(if small al.length then some (lO al q v)else none)=some al' from h);obtain⟨h1,h2⟩:=pX e1;exact⟨al,q,h1,h2,jU e2,h3,h4.symm⟩
theorem tY{kvs:List (Key×V)}{al:List (Key×D)}(e:kvs.map (·.1)=al.map (·.1)):fu al=kvs.map λp=>cI p.1:=by
 have:=congrArg (List.map cI) e
 rw[Tr,Tr]at this;exact this.symm
noncomputable def Hh(td ty tv:TE):TS:=λD σ H=>tv σ H λv H1=>td σ H1 λx H2=>ty σ H2 λy H3=>∃a k kvs,x=.ref a/\y=kV k/\(H3 a=some (.dK kvs)\/(H3 a=some (.dT [])/\kvs=[]))/\kvs.length<Vm/\D.nx σ (upd H3 a (.dK (putK kvs k v)))
section
variable{X:Cx}{o idx value:Vf}{pos pos':Pos}{td ty tv:TE}
theorem A2(hu:X.A.units+1<VS)(ho:PE X o td)(hi:PE X idx ty)(hv:PE X value tv)(hs:swapsWith value (some (.Subscript o idx pos')) pos.line X.env=pure false):PS X (.Assign [.Subscript o idx pos'] value pos) (Hh td ty tv):=by
 intro pins s σ H D I h;refine wpAny_Assign_Subscript (cJ (hv pins s σ H _ I h) λr s1 ⟨v,H1,I1,rv,q1⟩=>cJ (ho pins s1 σ H1 _ I1 q1) λu s2 ⟨x,H2,I2,rx,q2⟩=>cJ (hi pins s2 σ H2 _ I2 q2) λiv s3 h3=>?_) hs;obtain⟨y,H3,I3,ry,a,k,kvs,ex,ey,ha,hl,q3⟩:=h3;subst ex ey;obtain rfl:u=Value.ref a:=rx;rcases ha with ha|⟨ha,rfl⟩
 ·exact sJ hu I3 (KA.k ha hl) ry rv λs4 I4=>⟨σ,_,I4,q3⟩
 ·refine sJ hu (KL I3 ha) (KA.k aA hl) ry rv λs4 I4=>⟨σ,_,I4,?_⟩
  rw[Bt];exact q3
end
section
variable{X:Cx}
theorem OV{pins:aS}{σ:St}{H:Hp}{s:Vh}{O:aD}{ks ds:List D}{v:V}{qs:List Key}(I:Inv X pins σ H s)(h:cA X.K (hid H O) (.dct ks ds) v)(hk:keysOf ks=some qs):
  ∃a vs,v=.ref a/\qs.length<=Vm/\(a==sysModules)=false/\s.heap.DictOf (cD X.prog X.w) a vs/\vs.map (·.1)=qs:=by
 obtain⟨a,vs,e,_,h2⟩:=Mr.mp h;have ek:=nD hk;rcases h2 with⟨kvs,h3,h4,_⟩|⟨kvs,h3,h4,_⟩|⟨kvs,o,h3,h4,_⟩
 rotate_left 2
 ·rw[h4]at hk;cases hk
 ·obtain⟨z,hd,us,rel,dd⟩:=CL I.hok ((aJ H O) _ _ h3);have e1:kvs.map (·.1)=qs:=by
   have:(kvs.map (·.1)).map cI=qs.map cI:=(by rw[Tr,<-ek,h4];rfl);have e2:=congrArg keysOf this;rw[h7,h7]at e2;exact Option.some.inj e2
  refine⟨a,us,e,?_,hd,dd,?_⟩
  ·have:=congrArg List.length e1
   rw[RK]at this;omega
  ·rw[<-rel.keys,e1]
 ·cases kvs with
  |nil=>
   rw[h4]at hk;cases hk;obtain⟨z,hd,us,rel,dd⟩:=(show cy X.prog X.w H s.heap a (.dK [])from uP (I.hok a _ ((aJ H O) _ _ h3)))
   refine⟨a,us,e,RN _,hd,dd,?_⟩;rw[<-rel.keys];rfl
  |cons p r=>
   rw[h4]at hk;cases hk
theorem zM{k:Key}{v:Vc}(h:oM k v=true):RelV (kV k) v:=by
 rcases cH h with⟨i,t,rfl,rfl⟩|⟨x,t,rfl,rfl⟩
 ·exact⟨_,rfl⟩
 ·exact⟨_,rfl⟩
theorem rX{P:Vj}{w:Vi}:∀{vs:List (Key×Vc)}{its:aN},its.length=vs.length->(∀(j:Nat)(v:Vc),its[j]?=some v->∃(k:Key)(x:Vc),vs[j]?=some (k,x)/\(cD P w).is k v=true)->Vals (vs.map λp=>kV p.1) its
 |[],[],_,_=>.nil
 |p::r,u::us,hl,h=>by
  obtain⟨k,x,e,hk⟩:=h 0 u rfl;cases e;exact .cons (zM (by rw[xc]at hk;exact hk)) (rX (by simpa using hl) λj v e=>h (j+1) v (by simpa using e))
 |[],_::_,hl,_=>by cases hl
 |_::_,[],hl,_=>by cases hl
theorem sG{K:T3}{H:Hp}:∀qs:List Key,aL K H (qs.map cI) (qs.map kV)
 |[]=>cB.mpr rfl
 |k::r=>aV.mpr ⟨kV k,_,rfl,by cases k with
  |inl i=>exact eO.mpr rfl
  |inr x=>exact eR.mpr rfl,sG r⟩
noncomputable def pP:List D->bE
 |[.dct ks _]=>(keysOf ks).bind λ_=>some (.lst ks)
 |_=>none
theorem wz(hc:X.calm=true):eX X (.type "list") (CA X.K pP):=by
 rintro pins s σ H xs us Q I r ⟨O,ds,d,hO,hd,hg,q⟩;unfold pP at hg;split at hg
 ·rename_i ks vs0;cases hk:keysOf ks with
  |none=>rw[hk]at hg;cases hg
  |some qs=>
   rw[hk]at hg;cases hg;obtain⟨v,ev,h1⟩:=hd.one;obtain⟨a,vs,e,z,hs,dd,e1⟩:=OV I h1 hk;subst ev e;obtain⟨u,rfl,ru⟩:=vals1 r;cases ru;have hl:vs.length=qs.length:=(by have:=congrArg List.length e1;simpa using this);obtain⟨ep,da⟩:=dd.dictAt;refine PySem.W.kdl_call (PySem.W.kdl_dict hs) (I.ok.hd hc) da ‹0› λh' tk acc' c' kp e2 it=>?_;have rv:Vals (qs.map kV) acc'.toList:=by
    have:=rX (P:=X.prog) (w:=X.w) (vs:=vs) (its:=acc'.toList) (by rw[Array.length_toList];exact it.1) λj v e=>it.2 j v (by rw[<-Array.getElem?_toList];exact e)
    rw[<-e1,Tr];exact this
   refine⟨.ref s.heap.objs.size,_,I.laid (t':=tk) kp (RB _) (show cy X.prog X.w _ h' _ (.lst (qs.map kV))from⟨by rw[RK];exact z,acc'.toList,c',rv,by simpa using e2⟩),rfl,?_⟩;have hf:=I.hok.fresh (RB s.heap.objs.size);refine q _ _ (dr hf _) ?_;rw[nD hk];exact gx hO hf (sG qs)
 ·cases hg
end
end TG
namespace TG
open PySem PySem.Spec L2
variable[az]
end TG
namespace TG
open PySem PySem.Spec PySem.Calls L2
variable[az]
end TG
namespace TG
open PySem PySem.Spec L2
variable[az]
end TG
namespace TG
open PySem PySem.Spec L2
variable[az]
end TG
namespace TG
open PySem PySem.Spec L2
variable[az]
end TG
namespace TG
open PySem PySem.Spec PySem.Calls L2
variable[az]
end TG
namespace TG
open PySem PySem.Spec L2
variable[az]
end TG
namespace TG
open PySem PySem.Spec L2
variable[az]
end TG
namespace TG
open PySem PySem.Spec L2
variable[az]
end TG
namespace TG
open PySem PySem.Spec L2
variable[az]
end TG
namespace TG
open PySem PySem.Spec PySem.Calls L2
variable[az]
end TG
namespace L2
open PySem PySem.Spec PyProof.Rows
end L2
namespace TG
open PySem PySem.Spec L2
variable[az]
end TG
namespace TG
open PySem PySem.Spec L2
variable[az]
end TG
namespace TG
open PySem PySem.Spec L2
section
variable{prog:Vj}{w:Vi}{A:Vp}{E:bJ}{h:Vl}{g:Array GenState}{d:Drawn}{t:Nat}{os:OsState}
variable{nm q:Str}{C N:Ve}{bs bm bmB:aN}{hdct:Bool}{sn:au}{sub:aN}{ab:Bool}{col:Option Bool}{dd:Option Ve}{k0 k1 k2 k3 k5:Option Vc}{B Bn newId nid initId inN:String}{bmN:aN}{mN:cu}{us:aN}{fI:Ve}{oI:Obj}
theorem vE{Q:PySem.Fin->df}(Fn:Ws Bn newId inN bmN)(hb:bmB.contains (.type Bn)=true)(F:Ws B nid initId bmB)(T:OwnTail h bmB bm)
  (hC:h.get? C=some (excClassObj nm q C N bs bm hdct sn sub ab col dd k0 k1 k2 k3 k5 newId)) (hn:h.Ns N mN) (hi:mN "__init__"=some (.ref fI)) (hf:h.get? fI=some oI) (hc:oI.cls=.type "function")
  (hq:∀h' e,U2 h h' e (.ref C) us->Vs (model prog w) A (call (.ref fI) (.ref e::us)) (λr s'=>r=.none/\Q (.done (.ret (.ref e))) s') E ⟨h',g,d,t,os⟩) (hl:us.length<=Vm):
  Vs (model prog w) A (Builtin.«type.__call__» ⟨.ref C::us,[]⟩) Q E ⟨h,g,d,t,os⟩:=by
 repeat (first|with_reducible refine Wt hC ?_|with_reducible refine wpAny_madeBy_exc hC ?_|wp_step)
 refine codeAny_call_builtin_code (Code.quiet_builtin _ Fn.quiet) (wpAny_check_new_subU Fn hb T hC (codeAny_exc_new_subU Fn hb F T hC ?_ hl));show Vs _ _ _ _ _ _;obtain⟨o1,e1⟩:∃o:Obj,o={cls:=.type "tuple",data:=.seq us.toArray}:=⟨_,rfl⟩
 obtain⟨o2,e2⟩:∃o:Obj,o={cls:=.ref C,data:=.fields #[.ref h.objs.size,.none,.none,.none,.bool false,.none]}:=⟨_,rfl⟩
 rw[<-e1,<-e2];have up:∀b o,h.get? b=some o->((h.push o1).push o2).get? b=some o:=λb o z=>UT _ (UT _ z);have hC1:=up _ _ hC;have hf1:=up _ _ hf;have hn1:((h.push o1).push o2).Ns N mN:=let ⟨o,es,ep,z,r⟩:=hn;⟨o,es,ep,up _ _ z,r⟩
 have hg:((h.push o1).push o2).get? (h.objs.size+1)=some o2:=U1 (by simp only[UV]) (by rw[e2];rfl);have hg1:((h.push o1).push o2).get? h.objs.size=some o1:=UT _ (U1 rfl (by rw[e1];rfl));have cc:(Value.ref C::bm).contains (.ref C)=true:=by simp
 have T1:=T.keeps (h':=(h.push o1).push o2) up;subst e2;unfold isInstance
 repeat (first|with_reducible refine Wt hg ?_|(with_reducible refine wpAny_isSubtype_exc hC1 ?_;rw[cc])|wp_step)
 show Vs _ _ (typeLookup (.ref C) _) _ _ _;refine wpAny_typeLookup_tail hC1 hn1 T1 F.mroIs F.init.lookup ?_;rw[hi];refine V7 (VB ?_);unfold bindSpecial;refine VB (Wa (T:="function") ⟨_,hf1,hc⟩ ?_);rw[if_pos (by decide)];subst e1;refine VA (VB (Vu (hq _ (h.objs.size+1) ⟨up,UQ (RP _),h.objs.size,hg,UQ (RB _),hg1⟩) (λr s' hr=>?_) λ_ _ x=>x));obtain⟨rfl,hQ⟩:=hr
 wp_walk
 exact hQ
theorem qQ{Q:bJ}(Fn:Ws Bn newId inN bmN)(hb:bmB.contains (.type Bn)=true)(F:Ws B nid initId bmB)(T:OwnTail h bmB bm)
  (hC:h.get? C=some (excClassObj nm q C N bs bm hdct sn sub ab col dd k0 k1 k2 k3 k5 newId)) (hn:h.Ns N mN) (hi:mN "__init__"=some (.ref fI)) (hf:h.get? fI=some oI) (hc:oI.cls=.type "function")
  (hq:∀h' e,U2 h h' e (.ref C) us->Vs (model prog w) (A.under (.builtin "type.__call__" ⟨.ref C::us,[]⟩)) (call (.ref fI) (.ref e::us)) (λr s'=>r=.none/\Q (.ref e) s') E ⟨h',g,d,t,os⟩) (hl:us.length<=Vm):
  Vs (model prog w) A (call (.ref C) us) Q E ⟨h,g,d,t,os⟩:=by
 have f1:=tc_lookup;have f2:=tc_bind (.ref C);have hT:(⟨h,g,d,t,os⟩:Vh).TypeIs (.ref C) "type":=⟨_,hC,rfl⟩
 refine VX (codeAny_of_tree ?_);show Vs _ _ (callAny (.ref C) _) _ _ _
 repeat (any_goals (first|assumption|with_reducible refine Wt hC ?_|wp_step))
 exact⟨rfl,codeAny_call_builtin_at (Code.quiet_builtin _ (by decide +kernel)) entry_typeCall (wpAny_check_type_call_sub hC (vE Fn hb F T hC hn hi hf hc (λh' e hm=>hq h' e hm) hl))⟩
end
variable[az]
noncomputable abbrev Mh(a0:Ve):Data:=.fields #[.ref a0,.none,.none,.none,.bool false,.none]
noncomputable def qY(C e a0:Ve):(Ve->Prop)->Vl->Prop:=λ_ h=>∃o,h.get? e=some o/\o.cls=.ref C/\o.data=Mh a0/\o.dict=none
noncomputable def iD(C e a0 d:Ve)(fs:List (Str×V)):(Ve->Prop)->Vl->Prop:=λS h=>∃o mA,h.get? e=some o/\o.cls=.ref C/\o.data=Mh a0/\o.dict=some d/\S d/\d≠e/\h.Ns1 d mA/\∀f,qE (fs.lookup f) (mA f)
theorem GR{h h':Vl}{d:Ve}{mA:cu}(n:h.Ns1 d mA)(k:∀o,h.get? d=some o->h'.get? d=some o):h'.Ns1 d mA:=n.at k
theorem Ek{P:Vj}{w:Vi}{H:Hp}{h:Vl}{C e a0:Ve}(x:qY C e a0 (λb=>H b=some (.own e)) h):cy P w H h e (.ext (qY C e a0)):=by
 refine⟨x,let ⟨o,q,_⟩:=x;⟨o,q⟩,λS1 S2 h1 h2 z s12 k=>?_⟩;obtain⟨o,q1,q2⟩:=z;exact⟨o,k _ _ (.inl rfl) q1,q2⟩
theorem xB{P:Vj}{w:Vi}{H:Hp}{h:Vl}{C e a0 d:Ve}{fs:List (Str×V)}(x:iD C e a0 d fs (λb=>H b=some (.own e)) h):cy P w H h e (.ext (iD C e a0 d fs)):=by
 refine⟨x,let ⟨o,_,q,_⟩:=x;⟨o,q⟩,λS1 S2 h1 h2 z s12 k=>?_⟩;obtain⟨o,mA,q1,q2,q3,q4,q5,q6,q7,q8⟩:=z;exact⟨o,mA,k _ _ (.inl rfl) q1,q2,q3,q4,s12 _ q5,q6,GR q7 λo e=>k _ _ (.inr q5) e,q8⟩
section
variable{X:Cx}{pins:aS}{σ:St}{H:Hp}{s:Vh}{A:Vp}{E:bJ}{C e a0:Ve}{fs:List (Str×V)}{f:Str}{y:V}{u:Vc}{Q:Unit->df}
theorem u5{fs:List (Str×V)}{f:Str}(y:V)(h:(fs.map (·.1)).contains f=false)(g:Str):(fs++[(f,y)]).lookup g=if g=f then some y else fs.lookup g:=by
 induction fs with
 |nil=>
  show List.lookup g [(f,y)]=_;rw[Se];by_cases z:g=f
  ·rw[if_pos z,z,beq_self_eq_true]
  ·rw[if_neg z,beq_eq_false_iff_ne.mpr z]
 |cons p r ih=>
  rw[RJ,S0,S3]at h;rw[Si,Se,Se,ih h.2];have ne:f≠p.1:=by simpa using h.1
  cases q:(g==p.1)with
  |false=>rfl
  |true=>
   have:=beq_iff_eq.mp q
   have nf:¬g=f:=λz=>ne (z.symm.trans this);show some p.2=if g=f then some y else some p.2
   rw[if_neg nf]
theorem lookup_mem{fs:List (Str×V)}{g:Str}{v:V}(h:fs.lookup g=some v):g∈fs.map (·.1):=by
 induction fs with
 |nil=>cases h
 |cons p r ih=>
  rw[Se]at h;cases q:(g==p.1)with
  |true=>rw[RJ,beq_iff_eq.mp q];exact Ru
  |false=>rw[q]at h;exact Rv _ (ih h)
theorem ur(I:Inv X pins σ H s)(e1:H e=some (.ext (qY C e a0)))(Z:Gz X.K C)(n:cM X.K C f)(ry:RelV y u)
  (h0:∀d s',H d=none->d≠e->Inv X pins σ (upd (upd H d (.own e)) e (.ext (iD C e a0 d [(f,y)]))) s'->Q () s'):Vs (model X.prog X.w) A (setAttr (.ref e) f u) Q E s:=by
 obtain⟨⟨o,q1,q2,q3,q6⟩,_,_⟩:=(show cy X.prog X.w H s.heap e (.ext (qY C e a0))from I.hok e _ e1)
 refine B5 Z I.kIn q1 q2 q3 q6 n λh' n2 s2=>h0 s.heap.objs.size _ (I.hok.fresh (RB _)) (Ne.symm (Rp (UP q1))) ?_;have ne:e≠s.heap.objs.size:=Rp (UP q1);have I1:=I.laid (a:=s.heap.objs.size) (o:=.own e) (h':=s.heap.push {cls:=.type "dict",data:=.dict #[]}) (t':=s.toks) (λb o z=>UT _ z) (RB _) ⟨_,UU s.heap rfl⟩;have g1:(s.heap.push {cls:=.type "dict",data:=.dict #[]}).get? e=some o:=UT _ q1;have g2:((s.heap.push {cls:=.type "dict",data:=.dict #[]}).update e λo=>{o with dict:=some s.heap.objs.size}).get? e=some {o with dict:=some s.heap.objs.size}:=UY (λo=>{o with dict:=some s.heap.objs.size}) g1 (Obj.isFreed_of_fields (o:={o with dict:=some s.heap.objs.size}) q3);have I2:=I1.write (x:=e) (e:=e) (o:=.ext (Ho C e (some s.heap.objs.size))) (t':=s.toks) (h':=(s.heap.push {cls:=.type "dict",data:=.dict #[]}).update e λo=>{o with dict:=some s.heap.objs.size}) (by rw[ay ne,e1];trivial) (.inl rfl) (λb u nb z=>(U0 _ _ _ _ nb).trans z) ⟨_,g2⟩
  ⟨⟨_,g2,q2,rfl,by unfold Ux;rw[q3]⟩,⟨_,g2⟩,λ_ _ h1 h2 ⟨o,z1,z2⟩ _ k=>⟨o,k _ o (.inl rfl) z1,z2⟩⟩
 have g3:h'.get? e=some {o with dict:=some s.heap.objs.size}:=(s2.2 e ne).trans g2;have I3:=I2.write (x:=e) (e:=s.heap.objs.size) (o:=.ext (iD C e a0 s.heap.objs.size [(f,y)])) (t':=s.toks+2) (h':=h') (by rw[aA];trivial) (.inr (by rw[ay ne.symm,aA])) (λb u nb z=>(s2.2 b nb).trans z) (let ⟨o,_,_,z,_⟩:=n2;⟨o,z⟩)
  (xB ⟨_,_,g3,q2,q3,rfl,by dsimp only;rw[ay ne.symm,ay ne.symm,aA],ne.symm,n2,λg=>?_⟩)
 ·rw[tI]at I3;exact I3
 ·rw[Se];by_cases z:g=f
  ·rw[if_pos z,z];simpa [qE]using ry
  ·rw[if_neg z,beq_eq_false_iff_ne.mpr z];trivial
theorem uE{d:Ve}(I:Inv X pins σ H s)(e1:H e=some (.ext (iD C e a0 d fs)))(Z:Gz X.K C)(n:cM X.K C f)(hl:fs.length<1000)(hc:(fs.map (·.1)).contains f=false)(ry:RelV y u)
  (h1:∀s',Inv X pins σ (upd H e (.ext (iD C e a0 d (fs++[(f,y)])))) s'->Q () s'):Vs (model X.prog X.w) A (setAttr (.ref e) f u) Q E s:=by
 obtain⟨⟨o,mA,q1,q2,q3,p1,p2,p3,p4,p5⟩,_,_⟩:=(show cy X.prog X.w H s.heap e (.ext (iD C e a0 d fs))from I.hok e _ e1)
 have wi:PySem.Within mA (fs.map (·.1)):=λg hg=>by
  cases z:fs.lookup g with
  |none=>have:=p5 g;rw[z]at this;exact absurd (qE.none_of this) hg
  |some v=>exact lookup_mem z
 refine BD Z I.kIn q1 q2 (by unfold Ux;rw[q3]) p1 p4 n wi (by rw[RK,VH];omega) λh' n2 s2=>h1 _ ?_;refine I.write (x:=e) (e:=d) (t':=s.toks+2) (by rw[e1];trivial) (.inr p2) (λb u nb z=>(s2.2 b nb).trans z) (let ⟨o,_,_,z,_⟩:=n2;⟨o,z⟩) (xB ⟨o,_,(s2.2 e p3.symm).trans q1,q2,q3,p1,by dsimp only;rw[ay p3];exact p2,p3,n2,λg=>?_⟩);rw[u5 y hc];by_cases z:g=f
 ·rw[if_pos z,if_pos z];exact ry
 ·rw[if_neg z,if_neg z];exact p5 g
end
noncomputable def LK(K:T3)(ta tv:TE)(f:Str):TS:=λD σ H=>tv σ H λy H1=>ta σ H1 λx H2=>∃e C a0,x=.ref e/\Gz K C/\cM K C f/\
  ((H2 e=some (.ext (qY C e a0))/\∀ d,H2 d=none->d≠e->D.nx σ (upd (upd H2 d (.own e)) e (.ext (iD C e a0 d [(f,y)])))) \/
   ∃d fs,H2 e=some (.ext (iD C e a0 d fs))/\fs.length<1000/\(fs.map (·.1)).contains f=false/\D.nx σ (upd H2 e (.ext (iD C e a0 d (fs++[(f,y)])))))
section
variable{X:Cx}
theorem Fa{o value:Vf}{f:Str}{pos pos':Pos}{ta tv:TE}(ha:PE X o ta)(hv:PE X value tv)(hs:swapsWith value (some (.Attribute o f pos')) pos.line X.env=pure false):PS X (.Assign [.Attribute o f pos'] value pos) (LK X.K ta tv f):=by
 intro pins s σ H D I h;refine VP (cJ (hv pins s σ H _ I h) λu s1 h1=>?_) hs;obtain⟨y,H1,I1,ry,q⟩:=h1;refine cJ (ha pins s1 σ H1 _ I1 q) λov s2 h2=>?_;obtain⟨x,H2,I2,rx,e,C,a0,ex,Z,n,q⟩:=h2;subst ex;obtain rfl:ov=Value.ref e:=rx;rcases q with⟨ea,q⟩|⟨d,fs,ea,l,nc,q⟩
 ·exact ur I2 ea Z n ry λd s3 hd ne I3=>⟨σ,_,I3,q d hd ne⟩
 ·exact uE I2 ea Z n l nc ry λs3 I3=>⟨σ,_,I3,q⟩
noncomputable def Gi(X:Cx)(body:eK)(fs:au)(i:Nat):Prop:=
 ∃t,uG X body t/\∀(D:Ends)(σ:St)(H:Hp)(e C a0:Ve)(as:aH),σ[0]?=some (some (.ref e))->(∀j v,as[j]?=some v->σ[i+j]?=some (some v))->as.length=fs.length->Gz X.K C->(∀f∈fs,cM X.K C f)->
  (fs.length<1000->fs.Nodup->H e=some (.ext (qY C e a0))->(∀d,H d=none->d≠e->D.nx σ (upd (upd H d (.own e)) e (.ext (iD C e a0 d (fs.zip as)))))->t D σ H)/\
  ∀d done,done.length+fs.length<1000->(done.map (·.1)++fs).Nodup->H e=some (.ext (iD C e a0 d done))->D.nx σ (upd H e (.ext (iD C e a0 d (done++fs.zip as))))->t D σ H
theorem Kq{done:List (Str×V)}{f:Str}{fs:au}(nd:(done.map (·.1)++f::fs).Nodup):(done.map (·.1)).contains f=false:=by
 rw[S4]at nd;cases hc:(done.map (·.1)).contains f with
 |false=>rfl
 |true=>exact absurd rfl (nd.2.2 f (List.contains_iff_mem.mp hc) f Ru)
theorem zr{st:Vg}{f:Str}{i:Nat}{o v:Vf}{p1 p2:Pos}(hst:st=.Assign [.Attribute o f p1] v p2)(ho:PE X o (uk 0))(hv:PE X v (uk i))(hs:swapsWith v (some (.Attribute o f p1)) p2.line X.env=pure false):Gi X [st] [f] i:=by
 subst hst;refine⟨_,t5 (Fa ho hv hs),λD σ H e C a0 as h0 ha hl Z na=>?_⟩;obtain⟨a,rfl⟩:=List.length_eq_one_iff.mp hl;exact⟨λ_ _ hx q=>⟨a,ha 0 a rfl,.ref e,h0,e,C,a0,rfl,Z,na f Ru,.inl ⟨hx,q⟩⟩,λd done hz nd hx q=>⟨a,ha 0 a rfl,.ref e,h0,e,C,a0,rfl,Z,na f Ru,.inr ⟨d,done,hx,by simp at hz;omega,Kq nd,q⟩⟩⟩
end
noncomputable def Pw(C:Ve)(fs:au):Sp:=λvs H Q _=>∃e a0 as,vs=.ref e::as/\as.length=fs.length/\H e=some (.ext (qY C e a0))/\∀d,H d=none->d≠e->Q .non (upd (upd H d (.own e)) e (.ext (iD C e a0 d (fs.zip as))))
structure My(K:T3)(C f:Ve):Prop where
 cls:∃nm q N bs bm hdct sn sub ab col dd k0 k1 k2 k3 k5,∀h,K.In h->h.get? C=some (excClassObj nm q C N bs bm hdct sn sub ab col dd k0 k1 k2 k3 k5 "ValueError.__new__")/\(∃mN,h.Ns N mN/\mN "__init__"=some (.ref f))/\OwnTail h Dl bm
 fn:Uh K (.ref f)=some (.type "function")
 st:Gz K C
 kp:Uq K (.ref C)=true
noncomputable def xj(K:T3)(C:Ve)(f:Ve):Bool:=match K.lookup C with
 |some ⟨.type "type",_,.cls k,slots⟩=>(match k.mro,slots.toList with
  |.ref c0::tl,[_,_,_,_,some (.builtin j),_]=>c0==C&&(j=="ValueError.__new__"&&(!k.hasDel&&(PySem.W.tailIn K Dl tl&&(PySem.W.nsOkIn K k.ns&&Uw K k.ns "__init__"==some (some (.ref f))))))
  |_,_=>false)
 |_=>false
theorem Kl{K:T3}{h:Vl}{N:Ve}{m:cu}{n:Str}{v:Vc}(X:K.In h)(G:h.Ns N m)(e:Uw K N n=some (some v)):m n=some v:=by
 obtain⟨o,es,ep,g1,g2,_,g3⟩:=G;unfold Uw at e;split at e
 ·rename_i look;have z:=X _ _ look;rw[g1]at z;cases z;cases g2;rw[<-g3];unfold nsFind findBy;rw[<-Array.find?_toList];split at e
  ·rename_i y;rw[y];cases e;rfl
  ·split at e<;>cases e
 ·cases e
theorem Hx{K:T3}{C f:Ve}(q:xj K C f=true)(fn:Uh K (.ref f)=some (.type "function"))(st:Gz K C)(kp:Uq K (.ref C)=true):My K C f:=by
 refine⟨?_,fn,st,kp⟩;unfold xj at q;split at q
 ·rename_i od data slots look;split at q
  ·rename_i C0 tl s0 s1 s2 s3 nid s5 e1 e2;simp only[R4,beq_iff_eq,Tp]at q;obtain⟨y1,y2,y3,y4,y5,y6⟩:=q;subst y1 y2;obtain⟨d1,d2,d3,d4,d5,d6,d7,d8,d9,d10,d11⟩:=data;dsimp only at e1 y3 y5 y6;subst e1 y3;have hs:slots=#[s0,s1,s2,s3,some (.builtin "ValueError.__new__"),s5]:=by
    cases slots with
    |mk l=>rw[show l=_ from e2]
   subst hs;exact⟨d1,d5,d4,d2,tl,d6,d7,d8,d9,d10,od,s0,s1,s2,s3,s5,λh X=>⟨X _ _ look,⟨_,.of_isNs (UK X y5),Kl X (.of_isNs (UK X y5)) y6⟩,UL X y4⟩⟩
  ·cases q
 ·cases q
noncomputable def pC(P:Vj)(w:Vi)(K:T3)(mg:cu)(base:Vl)(k:Nat)(c:Str)(ps fs:au):Prop:=
 ∃C f fd,clsAt K c C/\My K C f/\hJ P w K mg base (lX P w) k f fd ps (Pw C fs)/\Binds K fd ps []/\mg c=some (.ref C)
theorem wX{P:Vj}{w:Vi}{K:T3}{mg:cu}{base:Vl}{k:Nat}{ps:au}{c qual:Str}{C f:Ve}{fd:VU}{st:Vg}{fs:au}(h1:clsAt K c C)(hM:My K C f)(na:∀g∈fs,cM K C g)(F:pf K "__init__" qual st f fd)(b:Binds K fd ps [])(hmg:mg c=some (.ref C))(SC:b7 ps ps (aB st))(hps:ps.length=fs.length+1)(hnd:fs.Nodup)(hlen:fs.length<1000)
  (hb:∀(cdv:Vc)(A:Vp)(outer:List Env)(s:Vh)(H:Hp)(E:XK),Gi (jR K5 P w K mg base ps qual (aB st) f cdv A outer s H E).nox (eA st) fs 1):pC P w K mg base (k+1) c ps fs:=by
 refine⟨C,f,fd,h1,hM,?_,b,hmg⟩;refine hJ.any (F.ok SC (λvs H Q E h=>?_) λcdv A outer s H vs Q E hr h=>?_)
 ·obtain⟨e,a0,as,rfl,hl,_⟩:=h;rw[RH,hl,hps]
 ·obtain⟨t,ht,hq⟩:=hb cdv A outer s H E;obtain⟨e,a0,as,rfl,hl,hx,q⟩:=h;have hst:L2.start ps (.ref e::as)=(.ref e::as).map some:=by
   unfold L2.start;rw[RH,hl,hps,S5,S6,RO]
  refine⟨t,ht,(hq _ _ H e C a0 as (by rw[hst];rfl) (λj v z=>?_) hl hM.st na).1 hlen hnd hx q⟩;rw[hst,Nat.add_comm,RJ,SW,RX,z];rfl
theorem wC{M:Vr}{A:Vp}{E:bJ}{env:Env}{nm q:Str}{C N:Ve}{bs bm:aN}{hdct:Bool}{sn:au}{sub:aN}{ab:Bool}{col:Option Bool}{dd:Option Ve}{k0 k1 k2 k3 k5:Option Vc}{newId:String}{s:Vh}{x:Sem Vc}{Q:Flow->df}(hb:bm.contains (.type "BaseException")=true)(hh:A.handled=none)
  (h:Vs M A x (λv s₁=>∃e t dx sl,v=.ref e/\s₁.heap.get? C=some (excClassObj nm q C N bs bm hdct sn sub ab col dd k0 k1 k2 k3 k5 newId)/\s₁.heap.get? e=some ⟨.ref C,dx,Mh t,sl⟩/\E (.ref e) s₁) E s):Vs M A (raiseStmt env (some x) none) Q E s:=by
 have hc:(Value.ref C::bm).contains (.type "BaseException")=true:=by rw[S0,hb,To]
 unfold raiseStmt;refine VB (Vu h (λv s₁ h₁=>?_) λ_ _ x=>x);obtain⟨e,t,dx,sl,rfl,hC,he,hE⟩:=h₁;obtain⟨hp,g,d,tk,os⟩:=s₁
 repeat (first|with_reducible refine Wt he ?_|with_reducible refine Wt hC ?_|(with_reducible refine wpAny_isSubtype_exc hC ?_;rw[hc])|wp_step)
 exact wpAny_raiseNew_none hh hE
section
variable{X:Cx}{pins:aS}{σ:St}{H:Hp}{s:Vh}
theorem adopt{e:Ve}{ob:HO}(I:Inv X pins σ H s)(hn:H e=none)(h0:X.s₀.heap.get? e=none)(hL:e≠X.env.locals)(hcl:∀x,X.env.cells.lookup x≠some e)(hp:∀p∈X.pn++pins,p.1≠e)(new:cy X.prog X.w (upd H e ob) s.heap e ob):Inv X pins σ (upd H e ob) s:=by
 have ne:∀b u,H b=some u->b≠e:=λb u q z=>by rw[z,hn]at q;cases q
 have U:=I.base;refine⟨I.ok,I.os,I.bare,⟨U.keep,U.slot,λb o q n nx=>?_,U.there,λb xs q=>?_,λb o u q=>?_,λb ps q=>?_⟩,I.loc,I.cell,?_,λx c q=>?_,λp q=>?_,λa o q=>?_,I.len⟩
 ·rw[ay λz=>by rw[z,h0]at q;cases q];exact U.free b o q n nx
 ·have:=U.tups b xs q;rw[ay (ne _ _ this)];exact this
 ·have:=U.frzs b o u q;rw[ay (ne _ _ this)];exact this
 ·obtain⟨more,z⟩:=U.tbls b ps q;exact⟨more,by rw[ay (ne _ _ z)];exact z⟩
 ·rw[ay hL.symm];exact I.free
 ·rw[ay λz=>hcl x (by rw[<-z];exact q)];exact I.freeC x c q
 ·obtain⟨a1,a2,a3⟩:=I.pin p q;exact⟨a1,by rw[ay (hp p q)];exact a2,a3⟩
 ·by_cases z:a=e
  ·subst z;rw[aA]at q;cases q;exact new
  ·rw[ay z]at q;exact(I.hok a o q).stay (λb u _ q=>q) (λb q=>by rw[ay (ne _ _ q)];exact q) λb xs q=>by rw[ay (ne _ _ q)];exact q
theorem rN{e:Ve}(I:Inv X pins σ H s)(hx:X.ex=[])(n:s.heap.get? e=none):H e=none/\X.s₀.heap.get? e=none/\e≠X.env.locals/\(∀x,X.env.cells.lookup x≠some e)/\∀p∈X.pn++pins,p.1≠e:=by
 refine⟨?_,?_,λz=>?_,λx q=>?_,λp hp z=>?_⟩
 ·cases q:H e with
  |none=>rfl
  |some ob=>obtain⟨o,z⟩:=vZ (I.hok e ob q);rw[n]at z;cases z
 ·cases q:X.s₀.heap.get? e with
  |none=>rfl
  |some o=>obtain⟨o',z⟩:=I.base.there e o q (by rw[hx];simp);rw[n]at z;cases z
 ·obtain⟨m,⟨o,es,ep,e2,_⟩,_⟩:=I.loc;rw[<-z,n]at e2;cases e2
 ·obtain⟨v,o,z,_⟩:=I.cell x e q;rw[n]at z;cases z
 ·have:=(I.pin p hp).1
  rw[z,n]at this;cases this
theorem EQ{s3:Vh}{C e a0 d:Ve}{fs:List (Str×V)}(I:Inv X pins σ H s)(hx:X.ex=[])(n:s.heap.get? e=none)(hd:H d=none)(I3:Inv X pins σ (upd (upd H d (.own e)) e (.ext (iD C e a0 d fs))) s3):
  Inv X pins σ (upd H d (.xd fs)) s3/\vm X (upd H d (.xd fs)) s3 e C (some d)/\∃sl,s3.heap.get? e=some ⟨.ref C,some d,Mh a0,sl⟩:=by
 obtain⟨hn,h0,hL,hcl,hp⟩:=rN I hx n;obtain⟨⟨o,mA,q1,q2,q3,q4,q5,q6,q7,q8⟩,_,_⟩:=(show cy X.prog X.w _ s3.heap e (.ext (iD C e a0 d fs))from I3.hok e _ aA)
 have He:upd H d (.xd fs) e=none:=by rw[ay q6.symm];exact hn
 have d3:upd (upd H d (.own e)) e (.ext (iD C e a0 d fs)) d=some (.own e):=by rw[ay q6,aA]
 have away:∀b,b≠e->b≠d->upd H d (.xd fs) b=upd (upd H d (.own e)) e (.ext (iD C e a0 d fs)) b:=λb n1 n2=>by rw[ay n2,ay n1,ay n2]
 have none3:∀b,upd (upd H d (.own e)) e (.ext (iD C e a0 d fs)) b=none->b≠e/\b≠d:=λb z=>⟨λw=>(by rw[w,aA]at z;cases z),λw=>(by rw[w,d3]at z;cases z)⟩
 have some3:∀b u,upd (upd H d (.own e)) e (.ext (iD C e a0 d fs)) b=some u->(∀φ,u≠.ext φ)->(∀y,u≠.own y)->upd H d (.xd fs) b=some u:=λb u z n1 n2=>by
  rw[away b (λw=>by rw[w,aA]at z;cases z;exact n1 _ rfl) λw=>by rw[w,d3]at z;cases z;exact n2 _ rfl];exact z
 have U:=I3.base;have I4:Inv X pins σ (upd H d (.xd fs)) s3:=by
  refine⟨I3.ok,I3.os,I3.bare,⟨U.keep,U.slot,λb o q n nx=>?_,U.there,λb xs q=>?_,λb o u q=>?_,λb ps q=>?_⟩,I3.loc,I3.cell,?_,λx c q=>?_,λp q=>?_,λa o q=>?_,I3.len⟩
  ·have z:=U.free b o q n nx;obtain⟨n1,n2⟩:=none3 b z;rw[away b n1 n2];exact z
  ·exact some3 _ _ (U.tups b xs q) (λ_ z=>nomatch z) λ_ z=>nomatch z
  ·exact some3 _ _ (U.frzs b o u q) (λ_ z=>nomatch z) λ_ z=>nomatch z
  ·obtain⟨more,z⟩:=U.tbls b ps q;exact⟨more,some3 _ _ z (λ_ z=>nomatch z) λ_ z=>nomatch z⟩
  ·obtain⟨n1,n2⟩:=none3 _ I3.free;rw[away _ n1 n2];exact I3.free
  ·obtain⟨n1,n2⟩:=none3 _ (I3.freeC x c q);rw[away _ n1 n2];exact I3.freeC x c q
  ·obtain⟨a1,a2,a3⟩:=I3.pin p q;obtain⟨n1,n2⟩:=none3 _ a2;exact⟨a1,by rw[away _ n1 n2];exact a2,a3⟩
  ·by_cases z:a=d
   ·subst z;rw[aA]at q;cases q;exact⟨mA,q7,q8⟩
   ·have ae:a≠e:=λw=>by rw[w,He]at q;cases q
    rw[away a ae z]at q;refine(I3.hok a o q).stay (λb u _ q=>q) (λb w=>?_) λb xs w=>some3 _ _ w (λ_ z=>nomatch z) λ_ z=>nomatch z;rw[away b (λy=>by rw[y,aA]at w;cases w) λy=>by rw[y,d3]at w;cases w;exact ae rfl];exact w
 obtain⟨oc,odi,oda,osl⟩:=o;dsimp only at q2 q3 q4;subst q2 q3 q4;have nk:¬jt X (upd H d (.xd fs)) e:=λz=>by
  rcases z with⟨⟨o,z⟩,_⟩|z|⟨o,z⟩|⟨x,z⟩
  ·rw[h0]at z;cases z
  ·exact z He
  ·exact hp _ (Rw _ z) rfl
  ·exact hcl x z
 refine⟨I4,⟨λoe z=>by rw[q1]at z;cases z;rfl,lu s3.heap (λb=>if b∈frs X.stack\/b=e then some (.tup [])else none),.ref a0,λb o z=>(mP z).1,?_,jn (λ_ _ z=>z) (λb hb=>?_) I4.stack,.inr ⟨_,_,q1,rfl,rfl,rfl,rfl⟩,λb o z kb nf=>qi z (if_neg ?_)⟩,osl,q1⟩
 ·cases z:(lu s3.heap (λb=>if b∈frs X.stack\/b=e then some (.tup [])else none)).get? e with
  |none=>rfl
  |some o=>have:=(mP z).2;rw[if_pos (.inr rfl)]at this;cases this
 ·cases z:(lu s3.heap (λb=>if b∈frs X.stack\/b=e then some (.tup [])else none)).get? b with
  |none=>rfl
  |some o=>have:=(mP z).2;rw[if_pos (.inl hb)]at this;cases this
 ·rintro(w|w)
  ·exact nf w
  ·exact nk (w ▸ kb)
end
noncomputable def pp(c:Str)(fs:au)(f:aW):bK:=λk ρ=>o7 (f ρ) k ρ λds=>if small ds.length&&ds.length==fs.length then k.ex ⟨c,fs,ds⟩ ρ else un
end TG
namespace TG
open PySem PySem.Spec L2
variable[az]
end TG
namespace TG
open PySem PySem.Spec L2
variable[az]
noncomputable def hK0(k:Ks):Ks:=⟨k.nx,k.bk,k.ct,λ_ _=>un⟩
noncomputable def vK(cs:au)(F Fh:bK):bK:=λk ρ=>F {k with ex:=λx ρ1=>if cs.contains x.c=true then Fh (hK0 k) ρ1 else un} ρ
section
variable{X:Cx}{pos:Pos}
theorem Mo{body suite:eK}{b₀:Vg}{g:Str}{gp hpos:Pos}{F Fh:bK}{cs:au}(hx:X.ex=[])(hst:X.stack=X.env::X.outer)(hf:X.env.frame=some X.env.locals)(hfn:∀x,X.fn x=true)
  (hT:uW X.K X.mg g cs) (hg:Gl X g)
  (hb:∀E pn,VD (model X.prog X.w) X.A X.env E->Ml (wW X E pn) body F) (hs:∀A pn,A.depth=X.A.depth->A.units=X.A.units->Ml (vJ X A pn) (b₀::suite) Fh) (hdb:(g==("__debug__":Str))=false:=by decide):
  FS X (.Try body [.ExceptHandler (some (.Name g gp)) none (b₀::suite) hpos] [] [] pos) (vK cs F Fh):=λHb Ob pins s σ H E I ⟨O,ρ,k,r,S,hF,hk⟩=>by
 obtain⟨G,hG,hcs⟩:=hT;refine wpAny_Try_except ?_;have land:∀O1 ρ1 σ1 H1 x,eY X.K Hb Ob O1 H1 ρ1 σ1->(if cs.contains x.c=true then Fh (hK0 k) ρ1 else un)=r->
   HP (wW X (λe s₁=>Vs (model X.prog X.w) X.A (noteFrame e X.env) (λ_ s₂=>Vs (model X.prog X.w) X.A (setFlight e none) (λ_ s₃=>Vs (model X.prog X.w) X.A (handleBy e X.env [.ExceptHandler (some (.Name g gp)) none (b₀::suite) hpos]) (SP X pins E) X.xe s₃) X.xe s₂) X.xe s₁) (X.pn++pins)) σ1 O1 H1 x:=by
  rintro O1 ρ1 σ1 H1 x S1 ex pins' s1 u H2 I1 sm ⟨e,C,dx,rfl,hd,fl⟩;have cond:cs.contains x.c=true:=by
   cases z:cs.contains x.c with
   |true=>rfl
   |false=>rw[z]at ex;exact absurd ex.symm hk.ne
  rw[if_pos cond]at ex;obtain⟨oe1,vs1,he1,hc1,hd1⟩:=zF fl;have nfr:e∉frs X.stack:=λz=>by
   obtain⟨_,o,q,nf⟩:=I1.stack.mem z;rw[he1]at q;cases q;exact nf _ hd1
  refine CH (X:=wW X _ (X.pn++pins)) I1.ok.frames hst hf fl λB a0 h4 held us4 kb ds4=>?_;have nk:¬jt (wW X _ (X.pn++pins)) H2 e:=λz=>by
   have:=kb e oe1 he1 z nfr
   rw[held.2.1]at this;cases this
  refine DP.go (nT _ _) (P:=λh'=>UX B X.stack e (.ref C) a0 h'/\h4.UpToSlots h') (wpAny_landsW held λh' x y=>⟨h',rfl,x,y⟩) λh5 z5 ds5=>?_;obtain⟨fl5,us5⟩:=z5;have I5:=yi I1 hx hst hf hfn (us4.trans us5) λb o q kb' nf=>fl5.1 b o (kb b o q kb' nf);obtain⟨oe5,he5,hc5⟩:=fl5.there;have I5h:=vD (A:=X.A.mark (some (.ref e))) I5 rfl;refine wpAny_handleBy_cons (codeAny_handlers_test (ju (X:=vJ X (X.A.mark (some (.ref e))) (X.pn++pins)) I5h hg hG ?_ hdb)) (by intro z;cases z);refine(PySem.W.exm_one I5.kIn (show Uo _ h5 (typeOf (.ref e)) (.ref C)from hc5 ▸ (PySem.W.Looks.ld he5).andThen .now) (hcs x.c (by simpa using cond) C hd.1)).at ?_;refine codeAny_handlers_suite ?_;refine DP.go (nT _ _) (P:=λh'=>UX B X.stack e (.ref C) a0 h'/\h5.UpToSlots h') (PyProof.Rows.lands_againW fl5 λh' x y=>⟨h',rfl,x,y⟩) λh6 z6 ds6=>?_;obtain⟨fl6,us6⟩:=z6;have I6:=yi I1 hx hst hf hfn ((us4.trans us5).trans us6) λb o q kb' nf=>fl6.1 b o (kb b o q kb' nf);have I6h:=vD (A:=X.A.mark (some (.ref e))) I6 rfl;refine Vu (hs (X.A.mark (some (.ref e))) (X.pn++pins) rfl rfl Hb Ob [] _ _ _ E I6h
   ⟨O1,_,hK0 k,r,S1.same sm,ex,hk.ne,hk.nx,hk.bk,hk.ct,hk.rt,λO' ρ' σ' H' y S' q=>absurd q.symm hk.ne⟩) (λf s8 h8=>?_) λ_ _ z=>z.elim
  cases f with
  |next=>obtain⟨σ',H',I8,q⟩:=h8;exact⟨σ',H',gB I.ok I8,q⟩
  |brk=>obtain⟨σ',H',I8,q⟩:=h8;exact⟨σ',H',gB I.ok I8,q⟩
  |cont=>obtain⟨σ',H',I8,q⟩:=h8;exact⟨σ',H',gB I.ok I8,q⟩
  |ret u=>obtain⟨v,σ',H',I8,rv,q⟩:=h8;exact⟨v,σ',H',gB I.ok I8,rv,q⟩
 refine Vu (hb _ (X.pn++pins) PassesOwn.looking Hb Ob [] s σ H E (DY I _) ⟨O,ρ,_,r,S,hF,hk.ne,hk.nx,hk.bk,hk.ct,hk.rt,land⟩) (λf s1 h1=>?_) λ_ _ z=>z;cases f with
 |next=>obtain⟨σ',H',I1,q⟩:=h1;exact yn pins s1 σ' H' E (gB I.ok I1) q
 |brk=>obtain⟨σ',H',I1,q⟩:=h1;exact⟨σ',H',gB I.ok I1,q⟩
 |cont=>obtain⟨σ',H',I1,q⟩:=h1;exact⟨σ',H',gB I.ok I1,q⟩
 |ret u=>obtain⟨v,σ',H',I1,rv,q⟩:=h1;exact⟨v,σ',H',gB I.ok I1,rv,q⟩
end
end TG
namespace L2
open PySem PySem.Spec PyProof.Rows
end L2
namespace TG
open PySem PySem.Spec L2
variable[az]
end TG
namespace TG
open PySem PySem.Spec PySem.Calls L2
variable[az]
theorem vN{K:T3}{H:Hp}{v:V}{al:List (Key×D)}(h:cA K H (lT al) v):
  ∃a,v=.ref a/\((∃kvs:List (Key×V),H a=some (.dK kvs)/\kvs.map (·.1)=al.map (·.1)/\aL K H (al.map (·.2)) (kvs.map (·.2)))\/(H a=some (.dT [])/\al=[])):=by
 obtain⟨a,vs,e0,h2,h3⟩:=Mr.mp h;refine⟨a,e0,?_⟩;rcases h3 with⟨kvs,e,e1,e2⟩|⟨kvs,e,e1,e2⟩|⟨kvs,o,e,e1,e2⟩
 ·refine .inl ⟨kvs,e,?_,by rw[<-e2];exact h2⟩;exact(oj (ks:=kvs.map (·.1)) (by rw[Tr];exact e1)).symm
 ·cases kvs with
  |nil=>exact .inr ⟨e,by simpa using e1⟩
  |cons p r=>
   cases al with
   |nil=>cases e1
   |cons q r'=>
    have e1:cI q.1::fu r'=D.tup (p.1.map cI)::r.map (λp=>D.tup (p.1.map cI)):=e1;injection e1 with e1 _;rcases q with⟨k,v⟩
    cases k<;>cases e1
 ·cases al with
  |nil=>cases e1
  |cons q r=>
   have e1:cI q.1::fu r=D.non::kvs.map (λp=>D.tup (p.1.map cI)):=e1;injection e1 with e1 _;rcases q with⟨k,v⟩
   cases k<;>cases e1
noncomputable def nV(al:List (Key×D))(q:Key):bE:=(al.find? λp=>decide (p.1=q)).map (·.2)
theorem pU{K:T3}{H:Hp}(q:Key):∀{kvs:List (Key×V)}{al:List (Key×D)},kvs.map (·.1)=al.map (·.1)->aL K H (al.map (·.2)) (kvs.map (·.2))->(lN kvs q=none/\nV al q=none)\/∃v d,lN kvs q=some v/\nV al q=some d/\cA K H d v
 |[],[],_,_=>.inl ⟨rfl,rfl⟩
 |p::r,a::al,e,h=>by
  rw[RJ,RJ]at e;injection e with e1 e2;rw[RJ,RJ,aV]at h;obtain⟨v,ws,h0,h1,h2⟩:=h;injection h0 with h0 h0';subst h0 h0';by_cases z:p.1=q
  ·refine .inr ⟨p.2,a.2,mq z,?_,h1⟩;unfold nV;rw[List.find?_cons_of_pos (by rw[<-e1];simpa using z)];rfl
  ·have ih:=pU q e2 h2;have g:nV (a::al) q=nV al q:=by
    unfold nV;rw[List.find?_cons_of_neg (by rw[<-e1];simpa using z)]
   rw[mI z,g];exact ih
 |[],_::_,e,_=>by cases e
 |_::_,[],e,_=>by cases e
noncomputable def GA(dd k:D):Option (bE):=match dd with
 |.dct ks ds=>(j8 ks ds).bind λal=>(keyOf k).map λq=>nV al q
 |_=>none
noncomputable def sB(dd k:D):bE:=(GA dd k).bind id
noncomputable def jp(x y:D):bE:=(GA y x).map λo=>.bl (!o.isSome)
theorem uN{dd k:D}{o:bE}(h:GA dd k=some o):∃al q,dd=lT al/\k=cI q/\o=nV al q:=by
 unfold GA at h;split at h
 ·rename_i ks ds;cases e1:j8 ks ds with
  |none=>rw[e1]at h;cases h
  |some al=>
   rw[e1]at h;cases e2:keyOf k with
   |none=>rw[e2]at h;cases h
   |some q=>
    rw[e2]at h;cases h;obtain⟨h1,h2⟩:=pX e1;exact⟨al,q,by rw[h1,h2],jU e2,rfl⟩
 ·cases h
theorem IP{X:Cx}{pins:aS}{σ:St}{H:Hp}{s:Vh}{O:aD}{al:List (Key×D)}{q:Key}{x y:V}(I:Inv X pins σ H s)(hb:cA X.K (hid H O) (lT al) y)(ha:cA X.K (hid H O) (cI q) x):
  ∃(a:Ve)(o:Option V)(H':Hp),y=.ref a/\Inv X pins σ H' s/\zK H' a x o/\(∀s',Inv X pins σ H' s'->Inv X pins σ H s')/\((o=none/\nV al q=none)\/∃v d,o=some v/\nV al q=some d/\cA X.K (hid H O) d v):=by
 obtain⟨a,ey,hh⟩:=vN hb;have ex:=jW ha;subst ex;rcases hh with⟨kvs,k1,k2,k3⟩|⟨k1,rfl⟩
 ·exact⟨a,lN kvs q,H,ey,I,zK.k ((aJ H O) _ _ k1),λs' z=>z,pU q k2 k3⟩
 ·have k1':=(aJ H O) _ _ k1;refine⟨a,lN [] q,upd H a (.dK []),ey,KL I k1',zK.k aA,λs' I4=>?_,.inl ⟨rfl,rfl⟩⟩;have I5:=OI I4 aA;rw[Ce k1']at I5;exact I5
section
variable{X:Cx}
theorem rG(hu:X.A.units+64<VS):iA X (Vw .NotIn) (rD X.K jp):=by
 rintro pins s σ H x y u v Q I rx ry ⟨O,a,b,d,hO,ha,hb,hg,q⟩;unfold jp at hg;cases e:GA b a with
 |none=>rw[e]at hg;cases hg
 |some o=>
  rw[e]at hg;cases hg;obtain⟨al,qk,rfl,rfl,rfl⟩:=uN e;obtain⟨p,o,H',ey,I',g,bk,z⟩:=IP I hb ha;subst ey;cases ry;refine DM ‹0› I' g rx λs3 I3=>⟨.bl (!o.isSome),H,bk s3 I3,rfl,q _ H (aT.refl H) (jC.mpr ?_)⟩
  rcases z with⟨z1,z2⟩|⟨v,d,z1,z2,_⟩<;>rw[z1,z2]<;>rfl
end
noncomputable def z4:List (FX×FX)->aq->R (List (D×D))
 |[],_=>.ok []
 |(fk,fv)::r,ρ=>(fk ρ).bind λk=>(fv ρ).bind λv=>(z4 r ρ).bind λps=>.ok ((k,v)::ps)
noncomputable def j7:List (D×D)->Option (List (Key×D))
 |[]=>some []
 |(k,v)::r=>(keyOf k).bind λk=>(j7 r).map ((k,v)::·)
noncomputable def B9(al:List (Key×D)):List (Key×D):=al.foldl (λm p=>lO m p.1 p.2) []
noncomputable def mj(ps:List (D×D)):bE:=(j7 ps).bind λal=>if decide (al.length<=15)then some (lT (B9 al))else none
noncomputable def g5(fs:List (FX×FX)):FX:=λρ=>(Dp (z4 fs ρ)).bind λps=>rO (mj ps)
theorem nF:∀{ps:List (D×D)}{al:List (Key×D)},j7 ps=some al->ps=al.map λp=>(cI p.1,p.2)
 |[],_,h=>by cases h;rfl
 |(k,v)::r,al,h=>by
  unfold j7 at h;cases e1:keyOf k with
  |none=>rw[e1]at h;cases h
  |some k'=>
   rw[e1]at h;cases e2:j7 r with
   |none=>rw[e2]at h;cases h
   |some al'=>
    rw[e2]at h;cases h;rw[RJ,nF e2,jU e1]
section
variable{X:Cx}
theorem wu{σ:St}{O:aD}{ρ:aq}:∀{fs:List (FX×FX)}{ps:List (D×D)}{H:Hp}{Q:List (V×V)->Hp->Prop},z4 fs ρ=.ok ps->dH X.K O H ρ σ->
  (∀(vs:List (V×V)) H',aT H H'->aL X.K (hid H' O) (ps.map (·.1)) (vs.map (·.1))->aL X.K (hid H' O) (ps.map (·.2)) (vs.map (·.2))->Q vs H')->tL (fs.map λp=>(tF X p.1,tF X p.2)) σ H Q
 |[],ps,H,Q,e,E,q=>by
  cases e;exact q [] H (aT.refl H) (cB.mpr rfl) (cB.mpr rfl)
 |(fk,fv)::r,ps,H,Q,e,E,q=>by
  unfold z4 at e;cases e1:fk ρ with
  |error z=>rw[e1]at e;cases e
  |ok k=>
   rw[e1]at e;have e:(fv ρ).bind (λv=>(z4 r ρ).bind λps=>.ok ((k,v)::ps))=.ok ps:=e;cases e2:fv ρ with
   |error z=>rw[e2]at e;cases e
   |ok v=>
    rw[e2]at e;have e:(z4 r ρ).bind (λps=>(.ok ((k,v)::ps):R (List (D×D))))=.ok ps:=e;cases e3:z4 r ρ with
    |error z=>rw[e3]at e;cases e
    |ok ps'=>
     rw[e3]at e;cases e;refine⟨O,ρ,E,?_⟩;show fA X σ O H (fk ρ) _;rw[e1];intro x H1 s1 d1;refine⟨O,ρ,E.same s1,?_⟩;show fA X σ O H1 (fv ρ) _;rw[e2];intro y H2 s2 d2;refine wu e3 ((E.same s1).same s2) λvs H3 s3 d3 d4=>q ((x,y)::vs) H3 ((s1.trans s2).trans s3) ?_ ?_
     ·exact aV.mpr ⟨x,_,rfl,d1.mono (bV (s2.trans s3)),d3⟩
     ·exact aV.mpr ⟨y,_,rfl,d2.mono (bV s3),d4⟩
theorem j3{K:T3}{H:Hp}:∀{al:List (Key×D)}{vs:List (V×V)},aL K H ((al.map λp=>(cI p.1,p.2)).map (·.1)) (vs.map (·.1))->aL K H ((al.map λp=>(cI p.1,p.2)).map (·.2)) (vs.map (·.2))->
  ∃kvs:List (Key×V),vs=kvs.map (λkv=>(kV kv.1,kv.2))/\kvs.map (·.1)=al.map (·.1)/\aL K H (al.map (·.2)) (kvs.map (·.2))
 |[],[],_,_=>⟨[],rfl,rfl,cB.mpr rfl⟩
 |[],_::_,h,_=>by rw[R7,R7,cB]at h;cases h
 |_::_,[],h,_=>by
  rw[RJ,RJ,aV]at h;obtain⟨_,_,e,_⟩:=h;cases e
 |p::al,w::vs,h1,h2=>by
  rw[RJ,RJ,RJ,aV]at h1 h2;obtain⟨a,as,ea,ha,has⟩:=h1;obtain⟨b,bs,eb,hb,hbs⟩:=h2;injection ea with ea eas;injection eb with eb ebs;subst ea eas eb ebs;obtain⟨kvs,e1,e2,e3⟩:=j3 has hbs;refine⟨(p.1,w.2)::kvs,?_,by rw[RJ,RJ,e2],aV.mpr ⟨w.2,_,rfl,hb,e3⟩⟩;rw[RJ,e1,<-jW ha]
theorem qq{K:T3}{H:Hp}:∀{al:List (Key×D)}{kvs:List (Key×V)}{al0:List (Key×D)}{kvs0:List (Key×V)},kvs.map (·.1)=al.map (·.1)->aL K H (al.map (·.2)) (kvs.map (·.2))->kvs0.map (·.1)=al0.map (·.1)->aL K H (al0.map (·.2)) (kvs0.map (·.2))->
  (kvs.foldl (λacc kv=>putK acc kv.1 kv.2) kvs0).map (·.1)=(al.foldl (λm p=>lO m p.1 p.2) al0).map (·.1)/\aL K H ((al.foldl (λm p=>lO m p.1 p.2) al0).map (·.2)) ((kvs.foldl (λacc kv=>putK acc kv.1 kv.2) kvs0).map (·.2))
 |[],[],_,_,_,_,e0,h0=>⟨e0,h0⟩
 |p::al,kv::kvs,al0,kvs0,e,h,e0,h0=>by
  rw[RJ,RJ]at e;injection e with e1 e2;rw[RJ,RJ,aV]at h;obtain⟨v,ws,h1,h2,h3⟩:=h;injection h1 with h1 h1';subst h1 h1';rw[Tb,Tb];rw[e1];exact qq e2 h3 (sN e0 p.1 kv.2 p.2) (uZ h2 e0 h0)
 |[],_::_,_,_,e,_,_,_=>by cases e
 |_::_,[],_,_,e,_,_,_=>by cases e
theorem qF{pos:Pos}{keys:List (Option Vf)}{values:bu}{fs:List (FX×FX)}(h:JS X pos keys values (fs.map λp=>(tF X p.1,tF X p.2)))(hall:keys.all (·.isSome)=true)(hl:keys.length=values.length)(h0:keys≠[])(h15:keys.length<=15):
  FE X (.Dict keys values pos) (g5 fs):=PE.weak (yc h hall hl h0 h15) λσ H Q ⟨O,ρ,E,hF⟩ p hp=>by
 unfold g5 at hF;cases e:z4 fs ρ with
 |error z=>rw[e]at hF;exact hF.elim
 |ok ps=>
  rw[e]at hF;obtain⟨d,hg,q⟩:=fA.rO (show fA X σ O H (rO (mj ps)) _ from hF);unfold mj at hg;cases ek:j7 ps with
  |none=>rw[ek]at hg;cases hg
  |some al=>
   rw[ek]at hg;obtain⟨z15,hd⟩:=bf (show(if decide (al.length<=15)then some (lT (B9 al))else none)=some d from hg);have z15:=of_decide_eq_true z15;subst hd;have e0:=nF ek;subst e0;refine wu e (E.hideNew (o:=.dK []) trivial hp) λvs H2 s2 d1 d2=>?_;obtain⟨kvs,e1,e2,e3⟩:=j3 d1 d2;have hp2:H2 p=some (.dK []):=s2 _ _ aA;have pO:p∉O:=E.all.not hp;refine⟨hp2,kvs,e1,?_,q _ _ ?_ ?_⟩
   ·have:=congrArg List.length e2
    rw[RK,RK]at this;omega
   ·intro b u hb;have ne:=aQ hb hp;rw[ay ne];exact s2 b u (by rw[ay ne];exact hb)
   ·have sm:aT (hid H2 (p::O)) (hid (upd H2 p (.dK (js [] kvs))) O):=(jl Ru).trans (iM λa ha=>Rv _ ha);obtain⟨f1,f2⟩:=qq (al0:=[]) (kvs0:=[]) e2 (e3.mono sm) rfl (cB.mpr rfl);refine Mr.mpr ⟨p,_,rfl,f2,.inl ⟨js [] kvs,by rw[lH pO];exact aA,?_,rfl⟩⟩;exact tY f1
end
end TG
namespace TG
open PySem PySem.Spec PySem.Calls L2
variable[az]
end TG
namespace TG
open PySem PySem.Spec L2
variable[az]
noncomputable def Ba:FX:=λ_=>un
end TG
namespace TG
open PySem PySem.Spec PySem.Calls L2
variable[az]
section
variable{X:Cx}{pos:Pos}
theorem Aa{pos:Pos}{keys:List (Option Vf)}{values:bu}{fs:List (FX×FX)}(h:JS X pos keys values (fs.map λp=>(tF X p.1,tF X p.2)))(hall:keys.all (·.isSome)=true)(hl:keys.length=values.length)(h0:keys≠[])(h15:keys.length<=15):
  FN X (.Dict keys values pos) (g5 fs):=PE.weak (yc h hall hl h0 h15) λσ H Q ⟨O,ρ,E,hF⟩ p hp=>by
 unfold g5 at hF;cases e:z4 fs ρ with
 |error z=>rw[e]at hF;exact hF.elim
 |ok ps=>
  rw[e]at hF;obtain⟨d,hg,q⟩:=fA.rO (show fA X σ O H (rO (mj ps)) _ from hF);unfold mj at hg;cases ek:j7 ps with
  |none=>rw[ek]at hg;cases hg
  |some al=>
   rw[ek]at hg;obtain⟨z15,hd⟩:=bf (show(if decide (al.length<=15)then some (lT (B9 al))else none)=some d from hg);have z15:=of_decide_eq_true z15;subst hd;have e0:=nF ek;subst e0;refine wu e (E.hideNew (o:=.dK []) trivial hp) λvs H2 s2 d1 d2=>?_;obtain⟨kvs,e1,e2,e3⟩:=j3 d1 d2;have hp2:H2 p=some (.dK []):=s2 _ _ aA;refine⟨hp2,kvs,e1,?_,q p _ ?_ hp ⟨_,aA,trivial⟩ ?_⟩
   ·have:=congrArg List.length e2
    rw[RK,RK]at this;omega
   ·intro b u hb;have ne:=aQ hb hp;rw[ay ne];exact s2 b u (by rw[ay ne];exact hb)
   ·have sm:aT (hid H2 (p::O)) (hid (upd H2 p (.dK (js [] kvs))) (p::O)):=jl Ru;obtain⟨f1,f2⟩:=qq (al0:=[]) (kvs0:=[]) e2 (e3.mono sm) rfl (cB.mpr rfl);exact⟨_,_,aA,f2,.inl ⟨js [] kvs,rfl,tY f1,rfl⟩⟩
end
end TG
namespace TX
open PySem PySem.Spec L2 TG
variable[az]
structure XE(X:Cx)(e:Vf)(F:FX):Prop where h:FE X e F
structure XT(X:Cx)(e:Vf)(F:b8):Prop where h:FT X e F
structure XW(X:Cx)(e:Vf)(F:b8):Prop where h:FW X e F
structure XA(X:Cx)(e:bu)(F:aW):Prop where h:FA X e F
structure XS(X:Cx)(e:Vg)(F:bK):Prop where h:FS X e F
structure tO(X:Cx)(e:eK)(F:bK):Prop where h:Ml X e F
structure XI(X:Cx)(t e:Vf)(F:aW):Prop where h:FI X t e F
structure XG(X:Cx)(e:Vf)(F:GF):Prop where h:FG X e F
structure GV(X:Cx)(e:bu)(F:Do):Prop where h:Qd X e F
structure XO(X:Cx)(e:Option Vf)(F:aq->R dG):Prop where h:FO X e F
structure XN(X:Cx)(e:Vf)(F:FX):Prop where h:FN X e F
structure KZ(X:Cx)(e:bu)(F:b8):Prop where h:Pz X e F
structure XV(X:Cx)(e:Vf)(i:Nat):Prop where h:PE X e (uk i)
structure XB(X:Cx)(scope:Vq)(N:au)(tg elt:Vf)(ifs:bu)(g:GF)(C:b8)(Fe:FX)(cl:oo)(C':Ve)(fp:aD)(s:Vh)(H:Hp)(E:bJ):Prop where
 a:XG (cm X scope N cl C' fp s H E) tg g
 b:KZ (cm X scope N cl C' fp s H E) ifs C
 c:XE (cm X scope N cl C' fp s H E) elt Fe
structure qT(X:Cx)(scope:Vq)(N:au)(tg elt:Vf)(ifs:bu)(g:GF)(C:b8)(Fe:FX):Prop where
 q:∀cl C' fp s H E,XB X scope N tg elt ifs g C Fe cl C' fp s H E
theorem qT.h{X:Cx}{scope:Vq}{N:au}{tg elt:Vf}{ifs:bu}{g:GF}{C:b8}{Fe:FX}(x:qT X scope N tg elt ifs g C Fe):PB X scope N tg elt ifs g C Fe:=λcl C' fp s H E=>⟨(x.q cl C' fp s H E).a.h,(x.q cl C' fp s H E).b.h,(x.q cl C' fp s H E).c.h⟩
theorem xv{X:Cx}(i:Nat){x:Str}{pos:Pos}(hN:X.N[i]?=some x:=by rfl)(hv:Jv X.env.scope x:=by first|exact Or.inl rfl|exact Or.inr (Or.inl rfl)|exact Or.inr (Or.inr rfl))(hd:(x==("__debug__":Str))=false:=by decide)
  (hcd:(x==("__classdict__":Str))=false:=by decide):XV X (.Name x pos) i:=⟨pv i hN hv hd hcd⟩
theorem Pb{X:Cx}{e:Vf}{f:b8}(h:XW X e f):XT X e f:=⟨FW.ft h.h⟩
section
variable[az]{X:Cx}
theorem D2{i:Nat}{x:Str}{pos:Pos}(h:XV X (.Name x pos) i):XE X (.Name x pos) (af i):=⟨PE.weak h.h λσ H Q ⟨O,ρ,E,hF⟩=>by
  obtain⟨d,e,q⟩:=zG hF;obtain⟨v,e,dv⟩:=E.val i d e;exact⟨v,e,q v H (aT.refl H) dv⟩⟩
theorem Dz{i j pos}:XE X (.Constant (.int i) j pos) (fC (.int i)):=⟨jS BL λ_ _=>eO.mpr rfl⟩
theorem Iw{b j pos}:XE X (.Constant (.bool b) j pos) (fC (.bl b)):=⟨jS LD λ_ _=>jC.mpr rfl⟩
theorem D5{j pos}:XE X (.Constant .none j pos) (fC .non):=⟨jS Jp λ_ _=>jq.mpr rfl⟩
theorem Fu{x j pos}:XE X (.Constant (.str x) j pos) (fC (.str x)):=⟨jS Hu λ_ _=>eR.mpr rfl⟩
theorem xM:XA X [] ah:=⟨TG.NM ⟩
theorem pW{e:Vf}{es:bu}{f:FX}{g:aW}(he:XE X e f)(hs:XA X es g)(hns:noStar e=true:=by rfl):XA X (e::es) (aa f g):=⟨TG.MA he.h hs.h hns⟩
theorem DT{es:bu}{g:aW}{k pos}(h:XA X es g):XE X (.Tuple es k pos) (aP g):=⟨PE.weak (Hv h.h) λσ H Q ⟨O,ρ,E,hF⟩=>⟨O,ρ,E,(fA.bind hF).imp λxs hF vs H1 s1 d1=>by
  obtain⟨d,e,q⟩:=fA.rO hF;obtain⟨hz,e⟩:=bf e;subst e;refine⟨by rw[<-d1.length];exact dq hz,λp hp=>?_⟩;exact q _ _ (s1.trans (dr hp _)) (gu (E.all.same s1) hp d1)⟩⟩
theorem DZ{es:bu}{g:aW}{pos}(h:XA X es g):XE X (.List es pos) (fg g):=⟨PE.weak (CT h.h) λσ H Q ⟨O,ρ,E,hF⟩=>⟨O,ρ,E,(fA.bind hF).imp λxs hF vs H1 s1 d1=>by
  obtain⟨d,e,q⟩:=fA.rO hF;obtain⟨hz,e⟩:=bf e;subst e;refine⟨by rw[<-d1.length];exact dq hz,λp hp=>?_⟩;exact q _ _ (s1.trans (dr hp _)) (gx (E.all.same s1) hp d1)⟩⟩
theorem gI{a b:Vf}{op:Operator}{r:R2}{g:D->D->bE}{fa fb:FX}{pos:Pos}(ho:iA X (VG op) r)(s:cY X.K r g)(ha:XE X a fa)(hb:XE X b fb):XE X (.BinOp a op b pos) (f2 g fa fb):=⟨PE.weak (KW ho ha.h hb.h) (t6 s)⟩
theorem gJ{a b:Vf}{op:Vv}{r:R2}{g:D->D->bE}{fa fb:FX}{pos:Pos}(ho:iA X (Vw op) r)(s:cY X.K r g)(ha:XE X a fa)(hb:XE X b fb)(hm:Vx op b=false):XE X (.Compare a [op] [b] pos) (f2 g fa fb):=⟨PE.weak (DJ ho ha.h hb.h hm) (t6 s)⟩
theorem gK{a b:Vf}{op:Vv}{r:R2}{g:D->D->bE}{fa fb:FX}{pos:Pos}(ho:iA X (Vw op) r)(s:cY X.K r g)(ha:XE X a fa)(hb:XE X b fb)(hm:Vx op b=false):XT X (.Compare a [op] [b] pos) (fB (f2 g fa fb)):=⟨PT.weak (Ep ho ha.h hb.h hm) (qm (t6 s))⟩
end
section
variable[az]{X:Cx}{a b c:Vf}{rest:bu}{pos:Pos}{f g:b8}
theorem Es(h:XT X a f):XT X (.UnaryOp .Not a pos) (gH f):=⟨PT.weak (Im h.h) λσ H Q ⟨O,ρ,E,hF⟩=>⟨O,ρ,E,(fA.bind hF).imp λb q H1 s1=>q H1 s1⟩⟩
theorem Bx(h:XT X a f):XW X (.BoolOp .And [a] pos) f:=⟨E6 h.h⟩
theorem E5(h:XT X a f):XW X (.BoolOp .Or [a] pos) f:=⟨G3 h.h⟩
theorem Fw(ha:XT X a f)(hb:XW X (.BoolOp .And (b::rest) pos) g):XW X (.BoolOp .And (a::b::rest) pos) (oz f g):=⟨PW.weak (G1 ha.h hb.h) λσ H Q ⟨O,ρ,E,hF⟩=>⟨O,ρ,E,(fA.bind hF).imp λc hF H1 s1=>by
 cases c with
 |true=>exact vP ⟨O,ρ,E.same s1,(hF.mono s1).imp λb q H2 s2=>q H2 (s1.trans s2)⟩
 |false=>exact uT (hF H1 s1)⟩⟩
theorem Ih(ha:XT X a f)(hb:XW X (.BoolOp .Or (b::rest) pos) g):XW X (.BoolOp .Or (a::b::rest) pos) (sr f g):=⟨PW.weak (KR ha.h hb.h) λσ H Q ⟨O,ρ,E,hF⟩=>⟨O,ρ,E,(fA.bind hF).imp λc hF H1 s1=>by
 cases c with
 |false=>exact uT ⟨O,ρ,E.same s1,(hF.mono s1).imp λb q H2 s2=>q H2 (s1.trans s2)⟩
 |true=>exact vP (hF H1 s1)⟩⟩
end
section
variable[az]{X:Cx}{a b c:Vf}{rest:bu}{pos:Pos}{f g:b8}{fa fb:FX}
theorem FC{op}(h:XE X a fa):XE X (.BoolOp op [a] pos) fa:=⟨IH h.h⟩
theorem EK(ha:XE X a fa)(hb:XE X (.BoolOp .And (b::rest) pos) fb):XE X (.BoolOp .And (a::b::rest) pos) (lE fa fb):=⟨PE.weak (GN ha.h hb.h) λσ H Q ⟨O,ρ,E,hF⟩=>⟨O,ρ,E,(fA.bind hF).imp λd hF x H1 s1 d1=>by
 cases d with
 |bl c=>
  refine⟨c,jC.mp d1,?_⟩;cases c with
  |true=>exact vP ⟨O,ρ,E.same s1,(hF.mono s1).imp λd q v H2 s2 d2=>q v H2 (s1.trans s2) d2⟩
  |false=>exact uT (hF _ H1 s1 (jC.mpr rfl))
 |_=>exact hF.elim⟩⟩
theorem GK(ha:XE X a fa)(hb:XE X (.BoolOp .Or (b::rest) pos) fb):XE X (.BoolOp .Or (a::b::rest) pos) (Ei fa fb):=⟨PE.weak (Li ha.h hb.h) λσ H Q ⟨O,ρ,E,hF⟩=>⟨O,ρ,E,(fA.bind hF).imp λd hF x H1 s1 d1=>by
 cases d with
 |bl c=>
  refine⟨c,jC.mp d1,?_⟩;cases c with
  |false=>exact uT ⟨O,ρ,E.same s1,(hF.mono s1).imp λd q v H2 s2 d2=>q v H2 (s1.trans s2) d2⟩
  |true=>exact vP (hF _ H1 s1 (jC.mpr rfl))
 |_=>exact hF.elim⟩⟩
theorem Fl(ha:XE X a fa):XE X (.UnaryOp .Not a pos) (ya fa):=⟨PE.weak (Ij ha.h) λσ H Q ⟨O,ρ,E,hF⟩=>⟨O,ρ,E,(fA.bind hF).imp λd hF x H1 s1 d1=>by
 obtain⟨d',e,q⟩:=fA.rO hF;cases d with
 |bl c=>
  cases e;exact⟨c,jC.mp d1,q _ H1 s1 (jC.mpr rfl)⟩
 |_=>cases e⟩⟩
theorem Hy(hc:XT X c f)(ha:XE X a fa)(hb:XE X b fb):XE X (.IfExp c a b pos) (xG f fa fb):=⟨PE.weak (Bg hc.h ha.h hb.h) λσ H Q ⟨O,ρ,E,hF⟩=>⟨O,ρ,E,(fA.bind hF).imp λd hF H1 s1=>by
 cases d with
 |true=>exact vP ⟨O,ρ,E.same s1,(hF.mono s1).imp λd q v H2 s2 d2=>q v H2 (s1.trans s2) d2⟩
 |false=>exact uT ⟨O,ρ,E.same s1,(hF.mono s1).imp λd q v H2 s2 d2=>q v H2 (s1.trans s2) d2⟩⟩⟩
end
section
variable[az]{X:Cx}
theorem Hc{a b:Vf}{fa fb:FX}{pos:Pos}(ha:XE X a fa)(hb:XE X b fb)(hs:tE b):XE X (.Subscript a b pos) (f2 ak fa fb):=⟨PE.weak (Lh Nz ha.h hb.h hs) (t6 bU)⟩
theorem Dk:XO X none fe:=⟨λpins s σ H Q I ⟨O,ρ,E,q⟩=>EA pins s σ H Q I (q H (aT.refl H))⟩
theorem BJ{e:Vf}{f:FX}(h:XE X e f):XO X (some e) (j9 f):=⟨λpins s σ H Q I ⟨O,ρ,E,hF⟩=>
 Dy h.h pins s σ H Q I ⟨O,ρ,E,(fA.bind hF).imp λd hF v H1 s1 d1=>by
  obtain⟨o,e,q⟩:=fA.rO hF;cases d with
  |int i=>
   cases e;exact⟨i,eO.mp d1,q H1 s1⟩
  |_=>cases e⟩⟩
theorem As{e:Vf}{f:FX}{l h:aq->R dG}{lo hi:Option Vf}{p2 pos:Pos}(he:XE X e f)(hl:XO X lo l)(hh:XO X hi h):XE X (.Subscript e (.Slice lo hi none p2) pos) (gU f l h):=⟨PE.weak (BE Nm he.h hl.h hh.h) λσ H Q ⟨O,ρ,E,hF⟩=>⟨O,ρ,E,(fA.bind hF).imp λa hF x H1 s1 d1=>⟨O,ρ,E.same s1,((fA.bind hF).mono s1).imp λlo' hF H2 s2=>⟨O,ρ,E.same (s1.trans s2),((fA.bind hF).mono (s1.trans s2)).imp λhi' hF H3 s3=>by
  obtain⟨d,e,q⟩:=fA.rO hF;exact⟨O,a,d,E.all.same ((s1.trans s2).trans s3),d1.mono (bV (s2.trans s3)),e,λv H4 s4 d4=>q v H4 (((s1.trans s2).trans s3).trans s4) d4⟩⟩⟩⟩⟩
end
section
variable[az]{X:Cx}{x:Str}{p pos:Pos}{e:Vf}{es:bu}{id T:String}{g:List D->bE}{f:aW}
theorem iG(hc:eX X (.builtin id) (CA X.K g))(hg:Gl X x)(hm:X.mg x=none)(hv:Vo x=some (.builtin id))(ha:XA X (e::es) f)(hn:x≠"__name__":=by decide)(hdb:(x==("__debug__":Str))=false:=by decide)(hns:(e::es).all noStar=true:=by rfl):XE X (.Call (.Name x p) (e::es) [] pos) (fL g f):=⟨PE.weak (qv hc hg hm hv ha.h hn hdb (cW (R4 _ _ ▸ hns).1) (dL (R4 _ _ ▸ hns).2)) (Di pY)⟩
theorem lJ(hc:eX X (.type T) (CA X.K g))(hg:Gl X x)(hm:X.mg x=none)(hv:Vo x=some (.type T))(ha:XA X (e::es) f)(hn:x≠"__name__":=by decide)(hdb:(x==("__debug__":Str))=false:=by decide)(hns:(e::es).all noStar=true:=by rfl):XE X (.Call (.Name x p) (e::es) [] pos) (fL g f):=⟨PE.weak (yK hc hg hm hv ha.h hn hdb (cW (R4 _ _ ▸ hns).1) (dL (R4 _ _ ▸ hns).2)) (Di pY)⟩
theorem tK{f:FX}{xT:Str}{p2:Pos}(ok:y8 X.K T)(hg:Gl X "isinstance")(hm:X.mg "isinstance"=none)(hgT:Gl X xT)(hmT:X.mg xT=none)(hvT:Vo xT=some (.type T))(he:XE X e f)(hn2:xT≠"__name__":=by decide)(hd2:(xT==("__debug__":Str))=false:=by decide)(hns:noStar e=true:=by rfl):XE X (.Call (.Name "isinstance" p) [e,.Name xT p2] [] pos) (uS T f):=⟨PE.weak (qv (C6 ok) hg hm u6 (kA he.h (kA (ED (v:=.ty T) hgT hmT hvT rfl hn2 hd2) uq (cW rfl)) (cW hns)) (by decide) (by decide) (cW hns) (dL rfl)) λσ H Q ⟨O,ρ,E,hF⟩=>⟨O,ρ,E,(fA.bind hF).imp λa hF v H1 s1 d1=>by
  obtain⟨d,e,q⟩:=fA.rO hF;obtain⟨h1,h2⟩:=bf e;subst h2;exact⟨O,v,a,rfl,h1,d1,q _ H1 s1 (jC.mpr rfl)⟩⟩⟩
end
section
variable[az]{X:Cx}{a:Vf}{f:FX}{pos:Pos}
theorem Ew{j pos'}(h:XE X a f):XE X (.Compare a [.Is] [.Constant .none j pos'] pos) (uV f):=⟨PE.weak (HA (Cb h.h)) λσ H Q q=>xZ σ H Q q⟩
theorem E7{j pos'}(h:XE X a f):XT X (.Compare a [.Is] [.Constant .none j pos'] pos) (fB (uV f)):=⟨PT.weak (Ht (Cb h.h)) λσ H Q q=>qm (t:=λσ H Q=>tF X f σ H λv H'=>Q (.bl (decide (v=.non))) H') xZ σ H Q q⟩
theorem zB(h:XE X a f)(he:∀whole,isTrue a X.env whole=(do let v<-whole;standAt a.pos;holding [v] (truthy v)):=by intro _;rfl):XT X a (aK f):=⟨PT.weak (BG h.h he) λσ H Q ⟨O,ρ,E,hF⟩=>⟨O,ρ,E,(fA.bind hF).imp λd hF x H1 s1 d1=>by
 obtain⟨r,hF,q⟩:=fA.rO hF;refine⟨r,?_,q H1 s1⟩;cases d with
 |non=>cases hF;rw[jq.mp d1];rfl
 |bl b=>cases hF;rw[jC.mp d1];rfl
 |int i=>cases hF;rw[eO.mp d1];rfl
 |str y=>
  obtain⟨hz,e⟩:=bf hF;subst e;rw[eR.mp d1];refine⟨dq hz,?_⟩;show(y.length !=0)=((y.length:Int) !=0)
  cases y.length<;>rfl
 |tup xs=>
  cases hF;obtain⟨p,vs,e,g1,g2⟩:=cv.mp d1;rw[e];refine .inr (.inl ⟨vs,cj (aJ H1 O) g1,?_⟩);have l:=g2.length;cases xs<;>cases vs<;>first|rfl|(simp at l)
 |lst xs=>
  cases hF;obtain⟨p,vs,e,g1,g2⟩:=cx.mp d1;rw[e];refine .inl ⟨vs,(aJ H1 O).seq g1,?_⟩;have l:=g2.length;cases xs<;>cases vs<;>first|rfl|(simp at l)
 |_=>cases hF⟩⟩
end
section
variable[az]{X:Cx}{tg:Vf}
theorem FL{e:Vf}{f:FX}(h:XE X e f):XI X tg e (cE f):=by
 refine⟨?_⟩;rintro pins s σ H R I ⟨O,ρ,E,hG⟩;have hG':=fA.bind hG;cases hf:f ρ with
 |error z=>exact xL h.h pins s σ H R I ⟨O,ρ,E,by rw[hf]at hG' ⊢;cases z with|none=>exact hG'.elim|some x=>exact hG'⟩
 |ok d=>
  rw[hf]at hG';obtain⟨ds,e1,q⟩:=fA.rO (α:=List D) (o:=qf d) hG';cases d with
  |lst xs=>
   cases e1;refine xL h.h pins s σ H R I ⟨O,ρ,E,?_⟩;rw[hf];refine λv H1 s1 d1=>?_;obtain⟨p,vs,ev,g1,g2⟩:=cx.mp d1;exact⟨p,ev,⟨vs,(aJ H1 O).seq g1⟩,q _ H1 s1 (zk g1 g2)⟩
  |tup xs=>
   cases e1;refine IZ h.h pins s σ H R I ⟨O,ρ,E,?_⟩;rw[hf];refine λv H1 s1 d1=>?_;obtain⟨p,vs,ev,g1,g2⟩:=cv.mp d1;exact⟨p,ev,⟨vs,cj (aJ H1 O) g1⟩,q _ H1 s1 (CK g1 g2)⟩
  |_=>cases e1
theorem wV{a:Vf}{f:aW}{p pos:Pos}(hg:Gl X "range")(hm:X.mg "range"=none)(ha:XA X [a] f)(hs:Vt [a] X.env=[(false,eval a X.env)]:=by rfl):XI X tg (.Call (.Name "range" p) [a] [] pos) (gL f):=by
 refine⟨?_⟩;rintro pins s σ H R I ⟨O,ρ,E,hG⟩;refine zX hg hm ha.h hs pins s σ H R I ⟨O,ρ,E,(fA.bind hG).imp λes hG' vs H1 s1 d1=>?_⟩;clear hG;obtain⟨ds,hG,q⟩:=fA.rO hG';clear hG';unfold mJ at hG;split at hG
 ·rename_i j;obtain⟨h1,h2⟩:=bf hG;subst h2;obtain⟨j1,j2⟩:=of_decide_eq_true h1;obtain⟨v,ev,dv⟩:=d1.one;exact⟨j,by rw[ev,eO.mp dv],j1,j2,q _ H1 s1 (qz 0 _)⟩
 ·cases hG
theorem vX{a b:Vf}{f:aW}{p pos:Pos}(hg:Gl X "range")(hm:X.mg "range"=none)(ha:XA X [a,b] f)(hs:Vt [a,b] X.env=[(false,eval a X.env),(false,eval b X.env)]:=by rfl)(hs2:Vt [b] X.env=[(false,eval b X.env)]:=by rfl):XI X tg (.Call (.Name "range" p) [a,b] [] pos) (mz f):=by
 refine⟨?_⟩;rintro pins s σ H R I ⟨O,ρ,E,hG⟩;refine Ah hg hm ha.h hs hs2 pins s σ H R I ⟨O,ρ,E,(fA.bind hG).imp λes hG' vs H1 s1 d1=>?_⟩;clear hG;obtain⟨ds,hG,q⟩:=fA.rO hG';clear hG';unfold mx at hG;split at hG
 ·rename_i i j;obtain⟨h1,h2⟩:=bf hG;subst h2;rw[R4]at h1;obtain⟨i1,i2⟩:=of_decide_eq_true h1.1;obtain⟨j1,j2⟩:=of_decide_eq_true h1.2;obtain⟨v,w,ev,dv,dw⟩:=d1.two;exact⟨i,j,by rw[ev,eO.mp dv,eO.mp dw],⟨i1,i2,j1,j2⟩,q _ H1 s1 (qz i _)⟩
 ·cases hG
end
section
variable[az]{X:Cx}{pos:Pos}
theorem Ct{i:Nat}{x:Str}(hN:X.N.Nodup)(hi:X.N[i]?=some x)(hx:Loc X.env.scope x)(hf:X.fn x=true\/X.env.scope.names.lookup x=some .local:=by first|exact .inl rfl|exact .inr rfl|assumption):XG X (.Name x pos) (gN i):=by
 refine⟨?_⟩;rintro pins s σ H v u Q I r ⟨O,ρ,d,ρ',E,hd,hg,q⟩;cases hg;have hiσ:i<σ.length:=by rw[I.len];exact(List.getElem?_eq_some_iff.mp hi).1
 refine EW hN hi hx hf pins s σ H v u Q I r (q _ (E.setV hiσ hd) λj x e nv=>?_);rcases aZ e with⟨_,eq⟩|⟨ne,eq⟩
 ·cases eq;exact absurd rfl (nv _)
 ·exact⟨Ry (Ne.symm ne),eq⟩
theorem AU:GV X [] Gm:=by
 refine⟨?_⟩;rintro pins s σ H vs us Q I r ⟨O,ρ,ds,ρ',E,hd,hg,q⟩;cases ds with
 |nil=>
  cases hg;rw[cB]at hd;exact El pins s σ H vs us Q I r ⟨hd,q _ E λi x e _=>⟨rfl,e⟩⟩
 |cons _ _=>cases hg
theorem Af{e:Vf}{es:bu}{g:GF}{h:Do}(h1:XG X e g)(h2:GV X es h)(hs:(assignEach (e::es) X.env).map (·.2)=assign e X.env::(assignEach es X.env).map (·.2):=by rfl):GV X (e::es) (BA g h):=by
 refine⟨?_⟩;rintro pins s σ H vs us Q I r ⟨O,ρ,ds,ρ',E,hd,hg,q⟩;cases ds with
 |nil=>cases hg
 |cons d ds=>
  obtain⟨ρ1,e1,e2⟩:=bind_some hg;rw[aV]at hd;obtain⟨v,vr,ev,d1,d2⟩:=hd;exact Bo h1.h h2.h hs pins s σ H vs us Q I r ⟨v,vr,ev,O,ρ,d,ρ1,E,d1,e1,λσ1 E1 k1=>⟨O,ρ1,ds,ρ',E1,d2,e2,λσ2 E2 k2=>q σ2 E2 λi x e nv=>by
   obtain⟨a1,a2⟩:=k2 i x e nv;obtain⟨b1,b2⟩:=k1 i x a2 nv;exact⟨a1.trans b1,b2⟩⟩⟩
theorem Fg{es:bu}{k:Nat}{g:Do}{n:Nat}(hc:X.calm=true)(h:GV X es g)(hn:(assignEach es X.env).length=n:=by rfl)(hst:(assignEach es X.env).findIdx? (·.1)=none:=by rfl):XG X (.Tuple es k pos) (gT n g):=by
 refine⟨?_⟩;rintro pins s σ H v u Q I r ⟨O,ρ,d,ρ',E,hd,hg,q⟩;cases d with
 |tup xs=>
  obtain⟨p,vs,ev,g1,g2⟩:=cv.mp hd;have hg':(if xs.length=n then g xs ρ else none)=some ρ':=hg;by_cases hl:xs.length=n
  ·rw[if_pos hl]at hg';exact GP hc h.h hn hst pins s σ H v u Q I r ⟨p,vs,ev,cj (aJ H O) g1,by rw[<-g2.length];exact hl,O,ρ,xs,ρ',E,g2,hg',q⟩
  ·rw[if_neg hl]at hg';cases hg'
 |_=>cases hg
end
section
variable[az]
theorem CZ{X:Cx}:KZ X [] eD:=⟨λpins s σ H Q I ⟨O,ρ,E,q⟩=>DH pins s σ H Q I (q H (aT.refl H))⟩
theorem CB{X:Cx}{c:Vf}{F:b8}(h:XT X c F):KZ X [c] F:=⟨EG h.h⟩
end
section
variable[az]{X:Cx}{elt tg iter:Vf}{ifs:bu}{scope:Vq}{pos:Pos}{N:au}{ix:gF}{G:aW}{g:GF}{C:b8}{Fe:FX}
theorem Jj(hc:X.calm=true)(ok:lZ X scope N ix)(tk:o8 ix g)(hi:XI X tg iter G)(hb:qT X scope N tg elt ifs g C Fe)(hs:∀x,VE iter X.env x=pure x:=by intro _;rfl):XE X (.ListComp elt [⟨tg,iter,ifs,0⟩] scope pos) (iF ix G g C Fe):=⟨PE.weak (Gu hc ok.cell ok.kind ok.names ok.free ok.ix hi.h hb.h.k hs) (FR tk)⟩
end
section
variable[az]{X:Cx}{st:Vg}{rest body:eK}{pos:Pos}
theorem A9:tO X [] bi:=⟨λHb Ob=>uG.weak yn λE σ H ⟨O,ρ,k,r,S,hF,hk⟩=>hk.nx O ρ σ H S hF⟩
theorem yH{F1 F2:bK}(h1:XS X st F1)(h2:tO X rest F2):tO X (st::rest) (av F1 F2):=⟨λHb Ob=>uG.weak (uQ (h1.h Hb Ob) (h2.h Hb Ob)) λE σ H ⟨O,ρ,k,r,S,hF,hk⟩=>
 ⟨O,ρ,{k with nx:=F2 k},r,S,hF,hk.ne,λO' ρ' σ' H' S' e=>⟨O',ρ',k,r,S',e,hk⟩,hk.bk,hk.ct,hk.rt,hk.ex⟩⟩
theorem A6{F1:bK}(h1:XS X st F1):tO X [st] F1:=⟨λHb Ob=>t5 (h1.h Hb Ob)⟩
theorem Fo{e:Vf}{f:FX}(h:XE X e f):XS X (.Return (some e) pos) (aI f):=⟨λHb Ob=>PS.weak (Ii h.h) λE σ H ⟨O,ρ,k,r,S,hF,hk⟩=>
 ⟨O,ρ,S.env,fA.on hF hk S λd e v H' s' d'=>hk.rt d O v H' e.symm (S.base.same' s') d'⟩⟩
theorem BW:XS X (.Pass pos) bi:=⟨λHb Ob=>PS.weak EY λE σ H ⟨O,ρ,k,r,S,hF,hk⟩=>hk.nx O ρ σ H S hF⟩
theorem D6{x j pos'}:XS X (.Expr (.Constant (.str x) j pos) pos') bi:=⟨λHb Ob=>PS.weak Ig λE σ H ⟨O,ρ,k,r,S,hF,hk⟩=>hk.nx O ρ σ H S hF⟩
theorem BX{e:Vf}{f:FX}(h:XE X e f)(hs:swapsWith e none pos.line X.env=pure false:=by rfl):XS X (.Expr e pos) (qt f):=⟨λHb Ob=>PS.weak (xC h.h hs) λE σ H ⟨O,ρ,k,r,S,hF,hk⟩=>
 ⟨O,ρ,S.env,fA.on hF hk S λd e v H' s' d'=>hk.nx O ρ σ H' (S.same s') e⟩⟩
theorem Jh{c:Vf}{a b:eK}{tc:b8}{A B:bK}(hc:XT X c tc)(ha:tO X a A)(hb:tO X b B):XS X (.If c a b pos) (eN tc A B):=⟨λHb Ob=>PS.weak (Ly hc.h (ha.h Hb Ob) (hb.h Hb Ob)) λE σ H ⟨O,ρ,k,r,S,hF,hk⟩=>
 ⟨O,ρ,S.env,fA.on hF hk S fun z e H1 s1=>by
  cases z with
  |true=>exact vP ⟨O,ρ,k,r,S.same s1,e,hk⟩
  |false=>exact uT ⟨O,ρ,k,r,S.same s1,e,hk⟩⟩⟩
theorem D4{i:Nat}{x:Str}{e:Vf}{f:FX}{pos':Pos}(hN:X.N.Nodup)(hi:X.N[i]?=some x)(hx:Loc X.env.scope x)(he:XE X e f)(hs:swapsWith e (some (.Name x pos')) pos.line X.env=pure false:=by rfl)(hf:X.fn x=true\/X.env.scope.names.lookup x=some .local:=by first|exact .inl rfl|exact .inr rfl|assumption):XS X (.Assign [.Name x pos'] e pos) (aO i f):=⟨sO (List.getElem?_eq_some_iff.mp hi).1 (Cv hN hi hx he.h hs hf)⟩
theorem GX{elt tg iter:Vf}{ifs:bu}{scope:Vq}{N:au}{ix:gF}{G:aW}{g:GF}{C:b8}{Fe:FX}{i:Nat}{y:Str}{lpos py spos:Pos}(hN:X.N.Nodup)(hi':X.N[i]?=some y)(hx:Loc X.env.scope y)(hc:X.calm=true)(ok:lZ X scope N ix)(tk:o8 ix g)(hi:XI X tg iter G)(hb:qT X scope N tg elt ifs g C Fe)(hsw:swapsWith (.ListComp elt [⟨tg,iter,ifs,0⟩] scope lpos) (some (.Name y py)) spos.line X.env=pure true:=by rfl)(hs:∀x,VE iter X.env x=pure x:=by intro _;rfl)(hf:X.fn y=true\/X.env.scope.names.lookup y=some .local:=by first|exact .inl rfl|exact .inr rfl|assumption):XS X (.Assign [.Name y py] (.ListComp elt [⟨tg,iter,ifs,0⟩] scope lpos) spos) (aO i (iF ix G g C Fe)):=⟨sO (List.getElem?_eq_some_iff.mp hi').1 (PS.weak (Gn hN hi' hx hc ok.cell ok.kind ok.names ok.free ok.ix hi.h hb.h.k hsw hs hf) λE σ H q=>FR tk σ H _ q)⟩
theorem EL{tg e:Vf}{f:FX}{g:GF}(he:XE X e f)(hg:XG X tg g)(hs:swapsWithSole [tg] e pos.line X.env=pure false:=by rfl)(hw:swappedStores [tg] e X.env=pure none:=by rfl)(h1:(assignEach [tg] X.env).map (·.2)=[assign tg X.env]:=by rfl):XS X (.Assign [tg] e pos) (DN f g):=⟨λHb Ob=>PS.weak (GQ he.h hg.h hs hw h1) λE σ H ⟨O,ρ,k,r,S,hF,hk⟩=>
 ⟨O,ρ,S.env,fA.on hF hk S fun d e v H1 s1 d1=>by
  cases hg.h:g d ρ with
  |none=>rw[hg.h]at e;exact absurd e.symm hk.ne
  |some ρ1=>
   rw[hg.h]at e;refine⟨O,ρ,d,ρ1,(S.same s1).env,d1,hg.h,λσ' E' own=>hk.nx O ρ1 σ' H1 ((S.same s1).after E' own) e⟩⟩⟩
theorem zy{st:eK}{F:bK}(is:List Nat)(h:tO X st F):tO X st (g7 is F):=⟨λHb Ob=>uG.weak (h.h Hb Ob) λE σ H ⟨O,ρ,k,r,S,hF,hk⟩=>⟨O,TG.kill is ρ,k,r,S.kill is,hF,hk⟩⟩
theorem FJ{tg iter:Vf}{G:aW}{g:GF}{B:bK}(hp:VD (model X.prog X.w) X.A X.env X.xe)(hc:X.calm=true)(hi:XI X tg iter G)(hg:XG X tg g)(hb:tO X body B)(hs:∀x,VE iter X.env x=pure x:=by intro _;rfl):XS X (.For tg iter body [] pos) (qc G g B):=⟨λHb Ob pins s σ H E I ⟨O,ρ,k,r,S,hF,hk⟩=>by
 have hall:uG X body (λE σ H=>∃Hb',Nv X Hb' Ob B E σ H):=λpins s σ H E I ⟨Hb',q⟩=>hb.h Hb' Ob pins s σ H E I q;refine HR hp hc hi.h hg.h hall hs pins s σ H E I ⟨O,ρ,S.env,fA.on hF hk S λds hF J H1 s1 wk=>?_⟩;have E1:=S.same s1;refine⟨λi m σ H=>m=ds.length-i/\i<=ds.length/\∃O' ρ',eY X.K (lb H1 O Ob) Ob O' H ρ' σ/\eT g B k (ds.drop i) ρ'=r,
  ⟨ds.length,by rw[SH],RN _,O,ρ,E1.loop,by rw[Sn];exact hF⟩,?_⟩
 rintro i m σ' H' ⟨rfl,hi',O',ρ',E',hr⟩;have sD:=C5 E1.base E'.base;by_cases hlt:i<ds.length
 ·right;obtain⟨go,yl⟩:=(wk H' O' i E'.env.all sD).1 ds[i] (by simp[hlt]);refine⟨go,λσ2 H2=>ds.length-(i+1)=ds.length-(i+1)/\i+1<=ds.length/\∃O' ρ',eY X.K (lb H1 O Ob) Ob O' H2 ρ' σ2/\eT g B k (ds.drop (i+1)) ρ'=r,λσ2 H2 z=>⟨ds.length-(i+1),by omega,z⟩,λx H2 y=>?_⟩;obtain⟨s2,dx⟩:=yl x H2 y;have E':=E'.same s2;rw[SM hlt]at hr;cases hg':g ds[i] ρ' with
  |none=>
   have hr':(rO (g ds[i] ρ')).bind (λρ1=>B ⟨eT g B k (ds.drop (i+1)),k.nx,eT g B k (ds.drop (i+1)),k.ex⟩ ρ1)=r:=hr;rw[hg']at hr';exact absurd hr'.symm hk.ne
  |some ρ1=>
   have hr':(rO (g ds[i] ρ')).bind (λρ1=>B ⟨eT g B k (ds.drop (i+1)),k.nx,eT g B k (ds.drop (i+1)),k.ex⟩ ρ1)=r:=hr;rw[hg']at hr';refine⟨O',ρ',ds[i],ρ1,E'.env,dx,hg',λσ3 E3 own=>?_⟩;have E3':eY X.K (lb H1 O Ob) Ob O' H2 ρ1 σ3:=E'.after E3 own;exact⟨lb H1 O Ob,O',ρ1,⟨eT g B k (ds.drop (i+1)),k.nx,eT g B k (ds.drop (i+1)),k.ex⟩,r,E3',hr',hk.loop E1.base (λO4 ρ4 σ4 H4 E4 z=>⟨rfl,hlt,O4,ρ4,E4,z⟩) (λO4 ρ4 σ4 H4 E4 z=>⟨rfl,hlt,O4,ρ4,E4,z⟩) rfl rfl rfl rfl⟩
 ·left;have ei:i=ds.length:=by omega
  subst ei;refine⟨(wk H' O' ds.length E'.env.all sD).2 rfl,?_⟩;rw[List.drop_length]at hr;exact hk.nx O' ρ' σ' H' (E'.back E1.base) hr⟩
end
section
variable[az]{X:Cx}{pos:Pos}
theorem Eh{es:bu}{g:aW}(h:XA X es g):XN X (.List es pos) (fg g):=⟨PE.weak (CT h.h) λσ H Q ⟨O,ρ,E,hF⟩=>⟨O,ρ,E,(fA.bind hF).imp λxs hF vs H1 s1 d1=>by
  obtain⟨d,e,q⟩:=fA.rO hF;obtain⟨hz,e⟩:=bf e;subst e;refine⟨by rw[<-d1.length];exact dq hz,λp hp=>?_⟩;exact q p _ (s1.trans (dr hp _)) (s1.free hp) ⟨_,aA,trivial⟩ (vx hp d1)⟩⟩
theorem EV{i:Nat}{x:Str}{e:Vf}{f:FX}{pos':Pos}(hN:X.N.Nodup)(hi:X.N[i]?=some x)(hx:Loc X.env.scope x)(he:XN X e f)(hs:swapsWith e (some (.Name x pos')) pos.line X.env=pure false:=by rfl)(hf:X.fn x=true\/X.env.scope.names.lookup x=some .local:=by first|exact .inl rfl|exact .inr rfl|assumption):XS X (.Assign [.Name x pos'] e pos) (tG i f):=⟨rQ (List.getElem?_eq_some_iff.mp hi).1 (Cv hN hi hx he.h hs hf)⟩
end
section
variable[az]
theorem Ak{X:Cx}{elt tg iter:Vf}{ifs:bu}{scope:Vq}{N:au}{ix:gF}{G:aW}{g:GF}{C:b8}{Fe:FX}{i:Nat}{y:Str}{lpos py spos:Pos}(hN:X.N.Nodup)(hi':X.N[i]?=some y)(hx:Loc X.env.scope y)(hc:X.calm=true)(ok:lZ X scope N ix)(tk:o8 ix g)(hi:XI X tg iter G)(hb:qT X scope N tg elt ifs g C Fe)(hsw:swapsWith (.ListComp elt [⟨tg,iter,ifs,0⟩] scope lpos) (some (.Name y py)) spos.line X.env=pure true:=by rfl)(hs:∀x,VE iter X.env x=pure x:=by intro _;rfl)(hf:X.fn y=true\/X.env.scope.names.lookup y=some .local:=by first|exact .inl rfl|exact .inr rfl|assumption):XS X (.Assign [.Name y py] (.ListComp elt [⟨tg,iter,ifs,0⟩] scope lpos) spos) (tG i (iF ix G g C Fe)):=⟨rQ (List.getElem?_eq_some_iff.mp hi').1 (PS.weak (Gn hN hi' hx hc ok.cell ok.kind ok.names ok.free ok.ix hi.h hb.h.k hsw hs hf) λE σ H q=>B1 tk σ H _ (Gc σ H _ q))⟩
theorem G6{X:Cx}{elt tg iter:Vf}{ifs:bu}{scope:Vq}{pos:Pos}{N:au}{ix:gF}{G:aW}{g:GF}{C:b8}{Fe:FX}(hc:X.calm=true)(ok:lZ X scope N ix)(tk:o8 ix g)(hi:XI X tg iter G)(hb:qT X scope N tg elt ifs g C Fe)(hs:∀x,VE iter X.env x=pure x:=by intro _;rfl):XN X (.ListComp elt [⟨tg,iter,ifs,0⟩] scope pos) (iF ix G g C Fe):=⟨PE.weak (Gu hc ok.cell ok.kind ok.names ok.free ok.ix hi.h hb.h.k hs) λσ H Q q=>B1 tk σ H _ (Gc σ H _ q)⟩
theorem IW{X : Cx}{i : Nat}{x m : Str}{id : String}{r : V -> aH -> Hp -> VK -> Prop}{u : List D -> List D -> Option (List D)}{e : Vf}{es : bu}{f : aW}{npos apos cpos pos : Pos}(slot : Slot "list" m id)(hty : typeOf (.builtin id) = pure (.type "method_descriptor"))(hm : Py X id r)(ok : Gw X.K r u)(hx : XV X (.Name x npos) i)(he : XA X (e :: es) f)(hbase : VO (.Name x npos) m X.env (eval (.Name x npos) X.env) = eval (.Name x npos) X.env := by rfl)(hfew : ((backTo cpos (Vt (e :: es) X.env)).all (fun x => !x.1) && (backToKw cpos (VR [] X.env)).all (fun x => x.1.isSome)
      && decide ((e::es:bu).length+([]:List V0).length+(if([]:List V0).isEmpty then 0 else 1)<30))=true:=by rfl)(hline:(apos.endLine==cpos.line)=true:=by rfl)(hs:Vt (e::es) X.env=(false,eval e X.env)::Vt es X.env:=by rfl)(hplain:(backTo cpos (Vt es X.env)).any (·.1)=false:=by rfl)(hsw:swapsWith (.Call (.Attribute (.Name x npos) m apos) (e::es) [] cpos) none pos.line X.env=pure false:=by rfl):XS X (.Expr (.Call (.Attribute (.Name x npos) m apos) (e::es) [] cpos) pos) (Iq i u f):=⟨λHb Ob pins s σ H E I ⟨O,ρ,k,rr,S,hF,hk⟩=>by
  unfold Iq at hF;split at hF
  · rename_i xs hxs
    obtain⟨a,ha,haO,hat⟩:=S.env.own i _ hxs;obtain⟨o,vs0,ho,eo,dn⟩:=hat;subst eo;refine xC (Le F.plainAttrs_list slot hty hm hx.h he.h hbase hfew hline hs hplain) hsw pins s σ H E I ⟨.ref a,ha,.inl ⟨rfl,vs0,mL.of ho⟩,O,ρ,S.env,fA.on hF hk S λds hr vs H1 s1 d1=>?_⟩;have S1:=S.same s1;cases hu1:u xs ds with
    |none=>rw[hu1]at hr;exact absurd hr.symm hk.ne
    |some ys=>
      rw[hu1]at hr;exact ok H1 O a xs ys ds vs0 vs _ S1.env.all haO (s1 _ _ ho) (dn.mono (bV s1)) d1 hu1 λws' v new=>hk.nx O _ σ _ (S1.setO hxs ha trivial (vo haO new)) hr
  ·exact absurd hF.symm hk.ne⟩
theorem AZ{X:Cx}{st:eK}{F:bK}(i:Nat)(h:tO X st F):tO X st (C9 i F):=⟨λHb Ob=>uG.weak (h.h Hb Ob) λE σ H ⟨O,ρ,k,r,S,hF,hk⟩=>by
 obtain⟨O',S'⟩:=S.frz i;exact⟨O',TG.frz i ρ,k,r,S',hF,hk⟩⟩
theorem wM{X:Cx}{k k':Nat}{ps:au}{g:cg}{h:aW}{x:Str}{p pos:Pos}{e:Vf}{es:bu}(C:Callee X.prog X.w X.K X.mg X.base k x ps g)(hn:Ar ps.length g)(hr:gq k' X.A)(hk:k<=k')(ha:XA X (e::es) h)(hg:Gl X x:=by rfl)(hdb:(x==("__debug__":Str))=false:=by decide)(hns:(e::es).all noStar=true:=by rfl):XE X (.Call (.Name x p) (e::es) [] pos) (fR g h):=by
 refine⟨?_⟩;obtain⟨f,fd,F,b,kp,m⟩:=C;exact PE.weak (Dg F (hr.mono hk) hg m kp b ha.h hdb (cW (R4 _ _ ▸ hns).1) (dL (R4 _ _ ▸ hns).2)) (zZ hn)
end
section
variable[az]{X:Cx}{a b c:Vf}{fa fb fc:FX}{pos:Pos}
theorem rK{op op':Vv}{r r':R2}{g g':D->D->bE}(ho:iA X (Vw op) r)(s:cY X.K r g)(ho':iA X (Vw op') r')(s':cY X.K r' g')(ha:XE X a fa)(hb:XE X b fb)(hc:XE X c fc)(hm:lastMarks [op,op'] [b,c]=false:=by with_unfolding_all rfl):XE X (.Compare a [op,op'] [b,c] pos) (gW g g' fa fb fc):=⟨PE.weak (Bk ho ho' ha.h hb.h hc.h hm) (sE s s')⟩
theorem rZ{op op':Vv}{r r':R2}{g g':D->D->bE}(ho:iA X (Vw op) r)(s:cY X.K r g)(ho':iA X (Vw op') r')(s':cY X.K r' g')(ha:XE X a fa)(hb:XE X b fb)(hc:XE X c fc)(hm:lastMarks [op,op'] [b,c]=false:=by with_unfolding_all rfl):XT X (.Compare a [op,op'] [b,c] pos) (fB (gW g g' fa fb fc)):=⟨PT.weak (B4 ho ho' ha.h hb.h hc.h hm) (qm (sE s s'))⟩
theorem Em(ha:XE X a fa):XE X (.UnaryOp .USub a pos) (EB fa):=⟨PE.weak (KJ HV ha.h) (Hw λx d v O H Q _ e dv q=>by
 cases x with
 |int i=>cases e;exact⟨i,eO.mp dv,q _ H (aT.refl H) (eO.mpr rfl)⟩
 |_=>cases e)⟩
theorem CJ{x:Str}{i:Int}(hg:Gl X x)(hm:∃t,X.mg x=some (.int i t))(hd:(x==("__debug__":Str))=false:=by decide):XE X (.Name x pos) (fC (.int i)):=by
 refine⟨?_⟩;obtain⟨t,m⟩:=hm;exact jS (yz (v:=.int i) hg m ⟨t,rfl⟩ hd) λ_ _=>eO.mpr rfl
end
section
variable[az]{X:Cx}
theorem qP{a:Vf}{es:bu}{k:Nat}{tpos:Pos}{f:aW}{p pos:Pos}(hg:Gl X "enumerate")(hm:X.mg "enumerate"=none)(ha:XA X [a] f)(hs:Vt [a] X.env=(false,eval a X.env)::Vt [] X.env:=by rfl)(hpl:(backTo pos (Vt [] X.env)).any (·.1)=false:=by rfl):XI X (.Tuple es k tpos) (.Call (.Name "enumerate" p) [a] [] pos) (dy f):=by
 refine⟨?_⟩;rintro pins s σ H RR I ⟨O,ρ,E,hG⟩;have hA:=ha.h pos pins s σ H (λvs H1=>∃ds r,qC ds=some r/\aL X.K (hid H1 O) ds vs/\∀J,Walk X.K (hid H1 O) J r->RR J H1) I ⟨O,ρ,E,(fA.bind hG).imp λds hG vs H1 s1 d1=>by
  obtain⟨r,e,q⟩:=fA.rO hG;exact⟨ds,r,e,d1,λJ wk=>q J H1 s1 wk⟩⟩
 refine PyProof.Rows.Call_ (lM I hg hm PyProof.Rows.boot_enumerate (U3 (cJ hA λus s1 ⟨vs,H1,I1,r1,ds,r,er,d1,q⟩=>?_) hs hpl));exact Eg I1 er d1 r1 q
end
section
variable[az]{X:Cx}{a o e:Vf}{es:bu}{fa fo:FX}{fas:aW}{f m x:Str}{cs:au}{pos apos p:Pos}{k k':Nat}{ps:au}
theorem EF(ok:bj X.K f cs)(h:XE X a fa)(hb:VO a f X.env (eval a X.env)=eval a X.env:=by rfl):XE X (.Attribute a f pos) (f1 (aw f cs) fa):=⟨PE.weak (Hg h.h hb) λσ H Q ⟨O,ρ,E,hF⟩=>⟨O,ρ,E,(fA.bind hF).imp λd hF v H1 s1 d1=>by
  obtain⟨r,e,q⟩:=fA.rO hF;cases d with
  |obj c fs vs=>
   have e':(if cs.contains c then(fs.zip vs).lookup f else none)=some r:=e;cases hc:cs.contains c with
   |false=>rw[hc]at e';cases e'
   |true=>
    rw[hc]at e';obtain⟨a,ws,ev,g1,g2,C,dx,g3,g4⟩:=MC.mp d1;obtain⟨w,l1,l2⟩:=qg g1 e';obtain⟨cl,na⟩:=ok c (List.contains_iff_mem.mp hc) C g3;exact⟨a,C,dx,_,w,ev,aJ H1 O _ _ g4,cl,na,l1,q w H1 s1 l2⟩
  |_=>cases e⟩⟩
theorem BP{tbl : List (Str × (cg))}{pl : Sem Bool}(tb : ql X.prog X.w X.K X.mg X.base k m ps tbl)(hr : gq k' X.A)(hk : k <= k')(ho : XE X o fo)(ha : XA X (e :: es) fas)(hns : (e :: es).all noStar = true := by rfl)(ht : eval (.Call (.Attribute o m apos) (e :: es) [] pos) X.env = (do
      let ov<-eval o X.env
      standAt apos.atName
      let (f,first)<-holding [ov] (getMethod ov m pl)
      VQ pos f first (backTo pos (Vt (e::es) X.env)) (backToKw pos (VR [] X.env))):=by rfl):XE X (.Call (.Attribute o m apos) (e::es) [] pos) (cQ m tbl fo fas):=⟨uL tb (hr.mono hk) ho.h (λpins s1 σ H1 O ρ a f od Q g fd _ kp F b ar I1 E1 dO hP=>by
    refine Ur (first:=[.ref a]) (h₀:=X.base) I1.ok.mod.kin kp (cJ (ha.h pos pins s1 σ H1 _ I1 ⟨O,ρ,E1,(fA.bind hP).imp λas hP vs H2 s2 d2=>qD (vs:=.ref a::vs) ar (E1.all.same s2) (aV.mpr ⟨_,_,rfl,dO.mono (bV s2),d2⟩) ((hP.mono s2).imp λd q v H3 s3 d3=>q v H3 (s2.trans s3) d3)⟩) λus s2 ⟨vs,H2,I2,r,Ex,hx,q2⟩=>⟨I2.kIn,?_⟩) (cW (R4 _ _ ▸ hns).1) (dL (R4 _ _ ▸ hns).2);exact tR (us:=.ref a::us) (vs:=.ref a::vs) F (hr.mono hk) b hx I2 (.cons rfl r) q2) ht⟩
theorem zi{tbl : List (Str × (cg))}{pl : Sem Bool}(tb : ql X.prog X.w X.K X.mg X.base k m ps tbl)(hr : gq k' X.A)(hk : k <= k')(ho : XE X o fo)(ht : eval (.Call (.Attribute o m apos) [] [] pos) X.env = (do
      let ov<-eval o X.env
      standAt apos.atName
      let (f,first)<-holding [ov] (getMethod ov m pl)
      VQ pos f first (backTo pos (Vt [] X.env)) (backToKw pos (VR [] X.env))):=by rfl):XE X (.Call (.Attribute o m apos) [] [] pos) (cQ m tbl fo ah):=⟨uL tb (hr.mono hk) ho.h (λpins s1 σ H1 O ρ a f od Q g fd _ kp F b ar I1 E1 dO hP=>by
    have hP':fA X σ O H1 (g [od]) λd=>∀v H',aT H1 H'->cA X.K (hid H' O) d v->Q v H':=hP;obtain⟨Ex,hx,q2⟩:=qD (vs:=[.ref a]) ar E1.all (aV.mpr ⟨_,_,rfl,dO,cB.mpr rfl⟩) hP';exact UN (first:=[.ref a]) I1.kIn kp (tR (us:=[.ref a]) (vs:=[.ref a]) F (hr.mono hk) b hx I1 (.cons rfl .nil) q2)) ht⟩
theorem EZ{c:Str}{fs:au}(IA:dj X.prog X.w X.K X.mg X.base k c ps fs)(hr:gq k' X.A)(hk:k+1<=k')(hg:Gl X c)(ha:XA X (e::es) fas)(hdb:(c==("__debug__":Str))=false:=by decide)(hns:(e::es).all noStar=true:=by rfl):XE X (.Call (.Name c p) (e::es) [] pos) (fNew c fs fas):=by
 refine⟨?_⟩;obtain⟨C,f,fd,h1,h2,h3,h4,h5⟩:=IA;refine PE.weak (FQ (dvs:=[]) (E:=E0) h2 h3 (hr.mono hk) hg h5 h4 .nil Gk ha.h hdb (cW (R4 _ _ ▸ hns).1) (dL (R4 _ _ ▸ hns).2)) λσ H Q ⟨O,ρ,E,hF⟩=>⟨O,ρ,E,(fA.bind hF).imp λas hF vs H1 s1 d1 x dx hx hd ne=>?_⟩
 by_cases hl:as.length=fs.length
 ·rw[if_pos hl]at hF;rw[RO];refine⟨x,dx,vs,rfl,by rw[<-d1.length,hl],by rw[aA],rfl,?_⟩;obtain⟨sm,dn⟩:=oE h1 hl d1 (E.all.same s1) hx hd ne;exact hF _ _ (s1.trans sm) dn
 ·rw[if_neg hl]at hF;exact hF.elim
end
section
variable[az]{X:Cx}{C:Ve}{pins:aS}{σ:St}{H:Hp}{s:Vh}{Q:VK}
theorem B8{c:Str}{p pos:Pos}(NA:AF X.K X.mg c)(hg:Gl X c)(hdb:(c==("__debug__":Str))=false:=by decide):XE X (.Call (.Name c p) [] [] pos) (fC (.obj c [] [])):=by
 refine⟨?_⟩;obtain⟨C,h1,h2,h3⟩:=NA;rintro pins s σ H Q I ⟨O,ρ,E,hF⟩;refine VZ (ju I hg h3 ?_ hdb);refine UN I.kIn h2.kp (run_plain h2 I λx dx hx hd ne=>?_);obtain⟨sm,dn⟩:=oE (fs:=[]) (as:=[]) (vs:=[]) h1 rfl (cB.mpr rfl) E.all hx hd ne;have e:upd (upd (upd H dx (.own x)) x (.ins C dx [])) x (.ins C dx (([]:au).zip []))=upd (upd H dx (.own x)) x (.ins C dx []):=by rw[tI];rfl
 rw[e]at sm dn;exact hF _ _ sm dn
end
section
variable[az]{X:Cx}{p pos:Pos}{e:Vf}{C:Ve}
theorem Ds{f:FX}{x:Str}{p2:Pos}{yes no:au}(h:fj X.K X.mg x yes no)(hg:Gl X "isinstance")(hm:X.mg "isinstance"=none)(hgx:Gl X x)(he:XE X e f)(hd2:(x==("__debug__":Str))=false:=by decide)(hns:noStar e=true:=by rfl):XE X (.Call (.Name "isinstance" p) [e,.Name x p2] [] pos) (f1 (bF yes no) f):=by
 refine⟨?_⟩;obtain⟨C,hC,hy,hn⟩:=h;exact PE.weak (qv CG hg hm u6 (kA he.h (kA (yz (v:=.ref C) hgx hC rfl hd2) uq (cW rfl)) (cW hns)) (by decide) (by decide) (cW hns) (dL rfl)) λσ H Q ⟨O,ρ,E,hF⟩=>⟨O,ρ,E,(fA.bind hF).imp λa hF v H1 s1 d1=>by
  obtain⟨d,e,q⟩:=fA.rO hF;unfold bF at e;split at e
  ·rename_i c fs vs;obtain⟨a,ws,rfl,_,_,D,dx,hcl,ha⟩:=MC.mp d1;by_cases h1:yes.contains c=true
   ·rw[if_pos h1]at e;cases e;exact⟨a,D,dx,_,rfl,aJ _ _ _ _ ha,.inl ⟨hy c (by simpa using h1) D hcl,q _ H1 s1 (jC.mpr rfl)⟩⟩
   ·rw[if_neg h1]at e;obtain⟨h2,h3⟩:=bf e;subst h3;obtain⟨cl,n⟩:=hn c (by simpa using h2) D hcl;exact⟨a,D,dx,_,rfl,aJ _ _ _ _ ha,.inr ⟨cl,n,q _ H1 s1 (jC.mpr rfl)⟩⟩
  ·cases e⟩
end
section
variable[az]{X:Cx}{pos:Pos}
theorem z8{x:Str}{e:Vf}{es:bu}{f:aW}{np cpos:Pos}(hc:X.calm=true)(hx:ExcAt X.K X.mg x)(hg:Gl X x)(ha:XA X (e::es) f)(hdb:(x==("__debug__":Str))=false:=by decide)(hns:(e::es).all noStar=true:=by rfl):XS X (.Raise (some (.Call (.Name x np) (e::es) [] cpos)) none pos) (cR x f):=⟨λHb Ob pins s σ H E I ⟨O,ρ,k,r,S,hF,hk⟩=>by
 obtain⟨C,cl,hm,hi⟩:=hx;obtain⟨tl,N,nm,q,bs,hdct,sn,sub,ab,col,dd,k0,k1,k2,k3,k5,mN,hC,hN,hni,T⟩:=(Dr I.mod.kin hi x).obj;have st:Vt (e::es) X.env=_:=cW (R4 _ _ ▸ hns).1;have plain:(backTo cpos (Vt (e::es) X.env)).any (·.1)=false:=dL hns;refine wpAny_Raise_call_subT (k5:=k5) (k3:=k3) (k2:=k2) (k1:=k1) (k0:=k0) (dd:=dd) (col:=col) (ab:=ab) (sub:=sub) (sn:=sn) (hdct:=hdct) (bs:=bs) (N:=N) (q:=q) (nm:=nm) Vb (mN:=mN) (T.hasType PySem.F.excBase_ValueError.hasBase) (I.ok.hd hc) plain hni (ju I hg hm ⟨rfl,?_⟩ hdb);have A1:=ha.h cpos pins s σ H (λvs H1=>vs.length<=Vm/\aT H H1/\k.ex ⟨x,[],[]⟩ ρ=r) I ⟨O,ρ,S.env,fA.on hF hk S λds e vs H' s' d'=>by
  have z:small ds.length=true:=by
   cases z:small ds.length with
   |true=>rfl
   |false=>rw[z]at e;exact absurd e.symm hk.ne
  rw[z]at e;exact⟨by rw[<-d'.length];exact dq z,s',e⟩⟩
 rw[st]at A1 ⊢;refine Calls.evalArgs_plain (cJ A1 λus s2 ⟨vs,H1,I1,rv,q1,q2,q3⟩=>⟨rfl,by rw[<-rv.length];exact q1,I1.bk _ _ hC,hN.keeps I1.bk,T.keeps I1.bk,λh' a m=>?_⟩);exact hk.ex O ρ σ H1 _ (S.same q2) q3 pins _ _ H1 (I1.kept (t':=s2.toks) m.keeps) (aT.refl H1) ⟨a,C,none,rfl,⟨cl,[],cB.mpr rfl,rfl,.inl rfl⟩,A7 I1 m⟩⟩
end
section
variable[az]{X:Cx}{p pos kp:Pos}{e:Vf}
theorem AO{f:FX}{i:Int}{j:Nat}{cp:Pos}(hc:X.calm=true)(hg:Gl X "max")(hm:X.mg "max"=none)(he:XE X e f)(hns:noStar e=true:=by rfl):XE X (.Call (.Name "max" p) [e] [⟨some "default",.Constant (.int i) j cp,kp⟩] pos) (f1 (sj i) f):=by
 refine⟨?_⟩;rintro pins s σ H Q I ⟨O,ρ,E,hF⟩;refine VZ (lM I hg hm zS ?_);have st:backTo pos (Vt [e] X.env)=(false,eval e X.env)::backTo pos (Vt [] X.env):=by rw[cW hns];rfl
 refine PyProof.Rows.callWith_kw ?_ ?_ (dL (by rw[Sr,hns];rfl))
 ·refine cJ (kA he.h uq (cW hns) pos pins s σ H (λvs H1=>∃v d a,vs=[v]/\aT H H1/\sj i a=some d/\cA X.K (hid H1 O) a v/\∀v H',aT H H'->cA X.K (hid H' O) d v->Q v H') I ⟨O,ρ,E,(fA.bind hF).imp λa hF v H1 s1 d1=>?_⟩) λus s1 ⟨vs,H1,I1,rv,v,d,a,ev,s1',hd,dn,q⟩=>?_
  ·obtain⟨d,e,q⟩:=fA.rO hF;exact⟨v,d,a,rfl,s1,e,d1,q⟩
  ·subst ev;refine cJ (EJ (kws:=[]) BL IQ pos pins s1 σ H1 (λzs H2=>zs=[.int i]/\H2=H1) I1 ⟨rfl,rfl⟩) λws s2 ⟨zs,H2,I2,rz,ez,eh⟩=>?_;subst ez eh;obtain⟨u,eu,ru⟩:=vals1 rv;obtain⟨wv,ew,rw'⟩:=vals1 rz;subst eu ew;unfold sj at hd;split at hd
   ·rename_i xs;cases ei:lY xs with
    |none=>rw[ei]at hd;cases hd
    |some ns=>
     rw[ei]at hd;cases hd;have exs:=sf ei;subst exs;obtain⟨l,ys,el,g1,g2⟩:=cx.mp dn;subst el;cases ru;obtain⟨its,ri,pl,hz⟩:=I2.list ((aJ H2 O).seq g1);have hlen:its.length=ns.length:=(by rw[<-ri.length,<-g2.length,RK]);refine Aw (I2.ok.hd hc) pl.isList (ns:=ns) (λk v hk=>?_) hlen λv h' tk hv kk=>?_
     ·exact xR g2 ri k v hk
     ·have I3:=I2.kept (t':=tk) kk;have q:∀(v:V)(H':Hp),aT H H'->cA X.K (hid H' O) (.int (if ns.length=0 then i else uF (λk=>ns.getD k 0) ns.length)) v->Q v H':=q;rcases hv with⟨z,rfl⟩|⟨z,t,rfl⟩
      ·rw[if_pos z]at q;exact⟨.int i,H2,I3,rw',q _ H2 s1' (eO.mpr rfl)⟩
      ·rw[if_neg ‹0›]at q;exact⟨.int _,H2,I3,⟨t,rfl⟩,q _ H2 s1' (eO.mpr rfl)⟩
   ·cases hd
 ·exact st
end
section
variable[az]
theorem CQ{X:Cx}{i:Nat}{x:Str}{idx value:Vf}{fk fv:FX}{npos tpos pos:Pos}(hu:X.A.units+64<VS)(hx:XV X (.Name x npos) i)(hi:XE X idx fk)(hv:XE X value fv)(hs:swapsWith value (some (.Subscript (.Name x npos) idx tpos)) pos.line X.env=pure false:=by rfl):XS X (.Assign [.Subscript (.Name x npos) idx tpos] value pos) (sA i fk fv):=⟨λHb Ob pins s σ H E I ⟨O,ρ,k,rr,S,hF,hk⟩=>by
 unfold sA at hF;split at hF
 ·rename_i ks ds hxs;obtain⟨a,ha,haO,hat⟩:=S.env.own i _ hxs;have hP:=fA.on hF hk S (Q:=λal=>k.nx (ρ.set i (some (.own (lT al))))=rr) λp e=>e;refine A2 ‹0› hx.h hi.h hv.h hs pins s σ H E I ⟨O,ρ,S.env,(fA.bind hP).imp λy hP v H1 s1 d1=>?_⟩;have S1:=S.same s1;refine⟨.ref a,ha,O,ρ,S1.env,((fA.bind hP).mono s1).imp λj hP w H2 s2 d2=>?_⟩;have S2:=S1.same s2;obtain⟨al',hg,e⟩:=fA.rO hP;obtain⟨al,q,f1,f2,f3,f4,f5⟩:=xr hg;subst f1 f2 f3 f5;have s12:=s1.trans s2;have hat2:ig X.K H2 O a (lT al):=hat.mono (let ⟨_,z⟩:=hat.some;tJ s12 z) (bV s12);have dv:cA X.K (hid H2 O) y v:=d1.mono (bV s2);have fin:∀kvs:List (Key×V),kvs.map (·.1)=al.map (·.1)->aL X.K (hid H2 O) (al.map (·.2)) (kvs.map (·.2))->ig X.K (upd H2 a (.dK (putK kvs q v))) O a (lT (lO al q y)):=λkvs k2 k3=>
   ⟨_,_,aA,(uZ dv k2 k3).mono (jl haO),.inl ⟨putK kvs q v,rfl,tY (sN k2 q v y),rfl⟩⟩
  rcases NT hat2 with⟨kvs,k1,k2,k3⟩|⟨k1,rfl⟩
  ·have hl:kvs.length=al.length:=(by have:=congrArg List.length k2;simpa using this);exact⟨a,q,kvs,rfl,jW d2,.inl k1,by rw[hl];exact SN (of_decide_eq_true f4) (by decide),hk.nx O _ σ _ (S2.setO hxs ha trivial (fin kvs k2 k3)) e⟩
  ·exact⟨a,q,[],rfl,jW d2,.inr ⟨k1,rfl⟩,by decide,hk.nx O _ σ _ (S2.setO hxs ha trivial (fin [] rfl (cB.mpr rfl))) e⟩
 ·exact absurd hF.symm hk.ne⟩
theorem xx{X:Cx}{pos:Pos}{x:Str}{e:Vf}{es:bu}{f:aW}{np cpos:Pos}{k k':Nat}{ps fs:au}(hc:X.calm=true)(hx:X.ex=[])(RA:pC X.prog X.w X.K X.mg X.base k x ps fs)(hr:gq k' X.A)(hk':k+1<=k')(hg:Gl X x)(ha:XA X (e::es) f)(hdb:(x==("__debug__":Str))=false:=by decide)(hns:(e::es).all noStar=true:=by rfl):XS X (.Raise (some (.Call (.Name x np) (e::es) [] cpos)) none pos) (pp x fs f):=⟨λHb Ob pins s σ H D I h=>by
 obtain⟨O,ρ,k1,r,S,hF,hk⟩:=h;obtain⟨C,fI,fd,cl,EI,F,hb,hm⟩:=RA;obtain⟨nm,q,N,bs,bm,hdct,sn,sub,ab,col,dd,l0,l1,l2,l3,l5,hcls⟩:=EI.cls;have st:Vt (e::es) X.env=_:=cW (R4 _ _ ▸ hns).1;rw[arm_exec_Raise];have hT:=(hcls _ I.kIn).2.2;refine VB (V1 (wC (C:=C) (nm:=nm) (q:=q) (N:=N) (bs:=bs) (bm:=bm) (hdct:=hdct) (sn:=sn) (sub:=sub) (ab:=ab) (col:=col) (dd:=dd) (k0:=l0) (k1:=l1) (k2:=l2) (k3:=l3) (k5:=l5) (newId:="ValueError.__new__") (hT.hasType PySem.F.excBase_ValueError.hasBase) (I.ok.hd hc) ?_));refine VB (Vu ?_ (λv s' z=>VB (V1 (VA z))) λ_ _ z=>z);refine VZ (ju I hg hm ?_ hdb);have A1:=ha.h cpos pins s σ H (λvs H1=>∃ds,vs.length=fs.length/\vs.length<=Vm/\aT H H1/\aL X.K (hid H1 O) ds vs/\k1.ex ⟨x,fs,ds⟩ ρ=r) I ⟨O,ρ,S.env,fA.on hF hk S λds e vs H' s' d'=>by
  cases z:(small ds.length&&ds.length==fs.length)with
  |false=>rw[z]at e;exact absurd e.symm hk.ne
  |true=>
   rw[z]at e;rw[R4,beq_iff_eq]at z;exact⟨ds,by rw[<-d'.length];exact z.2,by rw[<-d'.length];exact dq z.1,s',d',e⟩⟩
 refine Ur (h₀:=X.base) I.ok.mod.kin EI.kp (cJ A1 λus s1 h1=>?_) st (dL (R4 _ _ ▸ hns).2);obtain⟨vs,H1,I1,rv,ds,hl,hz,sm,dn,hex⟩:=h1;refine⟨I1.kIn,?_⟩;obtain⟨hC,⟨mN,hN,hi⟩,T⟩:=hcls _ I1.kIn;obtain⟨oI,hoI,hcI⟩:∃o,s1.heap.get? fI=some o/\o.cls=.type "function":=by
  have z:(X.K.lookup fI).map (·.cls)=some (.type "function"):=EI.fn;cases y:X.K.lookup fI with
  |none=>rw[y]at z;cases z
  |some o=>rw[y]at z;exact⟨o,I1.kIn _ _ y,Option.some.inj z⟩
 refine qQ (h:=s1.heap) (g:=s1.gens) (d:=s1.drawn) (t:=s1.toks) (os:=s1.os) Vb (by decide +kernel) Vb T hC hN hi hoI hcI (λh' ee m=>?_) (show us.length<=Vm by rw[<-rv.length];exact hz);obtain⟨t,m1,m2,m3⟩:=m.there;have nf:=rN I1 hx m.new;have I2:=adopt (ob:=.ext (qY C ee t)) (I1.kept (t':=s1.toks) m.keeps) nf.1 nf.2.1 nf.2.2.1 nf.2.2.2.1 nf.2.2.2.2 (Ek ⟨_,m1,rfl,rfl,rfl⟩);have r2:Vals (V.ref ee::vs) (Value.ref ee::us):=.cons rfl rv;have dne:∀d,upd H1 ee (.ext (qY C ee t)) d=none->d≠ee:=λd z w=>by rw[w,aA]at z;cases z
 have spec:Pw C fs (V.ref ee::vs) (upd H1 ee (.ext (qY C ee t))) (λv H3=>v=.non/\∃d,H1 d=none/\d≠ee/\H3=upd (upd H1 d (.own ee)) ee (.ext (iD C ee t d (fs.zip vs)))) E0:=⟨ee,t,vs,rfl,hl,aA,λd hd ne=>⟨rfl,d,by rw[ay ne]at hd;exact hd,ne,by
  funext b;by_cases z:b=ee
  ·rw[z,aA,aA]
  ·rw[ay z,ay z];by_cases y:b=d
   ·rw[y,aA,aA]
   ·rw[ay y,ay z,ay y]⟩⟩
 have hlen:(Value.ref ee::us++[]).length=ps.length:=by
  have:=r2.length
  rw[F.len _ _ _ _ spec]at this;rw[RO];exact this.symm
 have hb':=hb {s1 with heap:=h'} (Value.ref ee::us) I2.kIn hlen;rw[RO]at hb';refine VX (VY (F.run _ X.stack _ _ ⟨Value.ref ee::us,[]⟩ (Value.ref ee::us) _ _ E0 ((hr.mono hk').make C us []) (I2.env0.make C us []) hb' r2 spec) λr s' hq'=>?_);cases r with
 |error e=>exact Gk pins σ _ _ e s' I2 hq'
 |ok fl=>
  cases fl with
  |ret u=>
   obtain⟨v,H',I3,rv',⟨ev,d,hd,ne,eH⟩⟩:=I2.after hq';subst ev eH;refine⟨rv',?_⟩;obtain⟨I4,fl,sl,he⟩:=EQ I1 hx m.new hd I3;have s14:aT H1 (upd H1 d (.xd (fs.zip vs))):=λb o z=>by rw[ay (aQ z hd)];exact z
   have dO:d∉O:=(S.env.all.same sm).not hd;exact⟨ee,t,some d,sl,rfl,(hcls _ I4.kIn).1,he,hk.ex O ρ σ _ _ (S.same (sm.trans s14)) hex pins s' _ _ I4 (aT.refl _) ⟨ee,C,some d,rfl,⟨cl,vs,dn.mono (bV s14),hl.symm,.inr ⟨d,rfl,by rw[lH dO];exact aA⟩⟩,fl⟩⟩
  |next=>exact False.elim hq'
  |brk=>exact False.elim hq'
  |cont=>exact False.elim hq'⟩
end
section
variable[az]{X:Cx}
theorem Cw{o e:Vf}{fo fk:FX}{pos:Pos}(hu:X.A.units+64<VS)(ho:XE X o fo)(hi:XE X e fk)(hs:G2 e):XE X (.Subscript o e pos) (f2 sB fo fk):=⟨PE.weak (Dx ‹0› ho.h hi.h hs) λσ H Q ⟨O,ρ,E,hF⟩=>⟨O,ρ,E,(fA.bind hF).imp λdd hF v H1 s1 d1=>⟨O,ρ,E.same s1,((fA.bind hF).mono s1).imp λk hF y H2 s2 d2=>by
  obtain⟨d,hg,q⟩:=fA.rO hF;unfold sB at hg;cases e:GA dd k with
  |none=>rw[e]at hg;cases hg
  |some o=>
   rw[e]at hg;have hg:o=some d:=hg;subst hg;obtain⟨al,qk,rfl,rfl,z0⟩:=uN e;obtain⟨a,ea,hh⟩:=vN (d1.mono (bV s2));have ey:=jW d2;subst ey;rcases hh with⟨kvs,k1,k2,k3⟩|⟨_,rfl⟩
   ·rcases pU qk k2 k3 with⟨_,z2⟩|⟨w,d',z1,z2,z3⟩
    ·rw[z2]at z0;cases z0
    ·rw[z2]at z0;cases z0;exact⟨a,w,ea,by rw[<-z1];exact zK.k ((aJ H2 O) _ _ k1),q w H2 (s1.trans s2) z3⟩
   ·cases z0⟩⟩⟩
theorem zY{k v:Vf}{fk fv:FX}{pos:Pos}(hk:XE X k fk)(hv:XE X v fv):XE X (.Dict [some k] [v] pos) (g5 [(fk,fv)]):=⟨qF (fs:=[(fk,fv)]) (gY hk.h hv.h pj) rfl rfl (by simp) (by simp)⟩
theorem z9{k v k' v':Vf}{fk fv fk' fv':FX}{pos:Pos}(hk:XE X k fk)(hv:XE X v fv)(hk':XE X k' fk')(hv':XE X v' fv'):XE X (.Dict [some k,some k'] [v,v'] pos) (g5 [(fk,fv),(fk',fv')]):=⟨qF (fs:=[(fk,fv),(fk',fv')]) (gY hk.h hv.h (gY hk'.h hv'.h pj)) rfl rfl (by simp) (by simp)⟩
theorem zT{k v k' v' k2 v2:Vf}{fk fv fk' fv' fk2 fv2:FX}{pos:Pos}(hk:XE X k fk)(hv:XE X v fv)(hk':XE X k' fk')(hv':XE X v' fv')(hk2:XE X k2 fk2)(hv2:XE X v2 fv2):XE X (.Dict [some k,some k',some k2] [v,v',v2] pos) (g5 [(fk,fv),(fk',fv'),(fk2,fv2)]):=⟨qF (fs:=[(fk,fv),(fk',fv'),(fk2,fv2)]) (gY hk.h hv.h (gY hk'.h hv'.h (gY hk2.h hv2.h pj))) rfl rfl (by simp) (by simp)⟩
end
section
variable[az][az]
theorem Bi{X:Cx}{e:Vf}:XE X e Ba:=⟨λpins s σ H Q I ⟨O,ρ,E,h⟩=>h.elim⟩
end
section
variable[az]{X:Cx}{pos:Pos}
theorem zC{k v:Vf}{fk fv:FX}{pos:Pos}(hk:XE X k fk)(hv:XE X v fv):XN X (.Dict [some k] [v] pos) (g5 [(fk,fv)]):=⟨Aa (fs:=[(fk,fv)]) (gY hk.h hv.h pj) rfl rfl (by simp) (by simp)⟩
end
theorem BO{X:Cx}{pos:Pos}{body suite:eK}{b₀:Vg}{g:Str}{gp hpos:Pos}{F Fh:bK}{cs:au}(hx:X.ex=[])(hst:X.stack=X.env::X.outer)(hf:X.env.frame=some X.env.locals)(hfn:∀x,X.fn x=true)
  (hT:uW X.K X.mg g cs) (hg:Gl X g)
  (hb:∀E pn,VD (model X.prog X.w) X.A X.env E->tO (wW X E pn) body F) (hs:∀A pn,A.depth=X.A.depth->A.units=X.A.units->tO (vJ X A pn) (b₀::suite) Fh) (hdb:(g==("__debug__":Str))=false:=by decide):
  XS X (.Try body [.ExceptHandler (some (.Name g gp)) none (b₀::suite) hpos] [] [] pos) (vK cs F Fh):=⟨TG.Mo hx hst hf hfn hT hg (λE pn hp=>(hb E pn hp).h) (λA pn h1 h2=>(hs A pn h1 h2).h) hdb⟩
noncomputable abbrev Lk(K:T3)(f:Ve)(nm qual:Str)(st:Vg)(oc:Vc)(od:Option Ve)(kV dc pm:Vc)(an:Option Ve)(cd ct:Vc)(sl:Array (Option Vc)):Prop:=K.lookup f=some ⟨oc,od,.func (Ut nm qual (jr st) (eA st) (aB st) .none kV dc pm an cd ct),sl⟩
structure xS(P:Vj)(w:Vi)(K:T3)(mg:cu)(base:Vl)(k:Nat)(N:au)(qual:Str)(st:Vg)(f:Ve)(B:bK):Prop where
 h:∀(cdv:Vc)(A:Vp)(outer:List Env)(s:Vh)(H:Hp)(E:XK),gq k (A.deeper (U5 qual (aB st) s.heap.objs.size f cdv))->VD (model P w) (A.deeper (U5 qual (aB st) s.heap.objs.size f cdv)) (U5 qual (aB st) s.heap.objs.size f cdv) (jR (lX P w) P w K mg base N qual (aB st) f cdv A outer s H E).xe->
  tO (jR (lX P w) P w K mg base N qual (aB st) f cdv A outer s H E) (eA st) B
theorem xS.ok{P:Vj}{w:Vi}{K:T3}{mg:cu}{base:Vl}{k:Nat}{N:au}{qual:Str}{st:Vg}{f:Ve}{B:bK}(h:xS P w K mg base k N qual st f B):BodyOk P w K mg base k N qual st f B:=⟨λcdv A outer s H E hr hp=>(h.h cdv A outer s H E hr hp).h⟩
section
variable{X:Cx}{x:Str}{pos:Pos}
theorem xw(i:Nat)(hN:X.N[i]?=some x:=by rfl)(hv:Jv X.env.scope x:=by first|exact Or.inl rfl|exact Or.inr (Or.inl rfl)|exact Or.inr (Or.inr rfl))(hd:(x==("__debug__":Str))=false:=by decide)(hcd:(x==("__classdict__":Str))=false:=by decide):XE X (.Name x pos) (af i):=D2 (xv i hN hv hd hcd)
theorem xi{a b:Vf}{fa fb:FX}(ha:XE X a fa)(hb:XE X b fb)(hs:tE b:=by exact λ_ _=>rfl):XE X (.Subscript a b pos) (f2 ak fa fb):=Hc ha hb hs
theorem xa1{e:Vf}{f:FX}(he:XE X e f)(h:noStar e=true:=by rfl):XA X [e] (aa f ah):=pW he xM h
theorem xa2{e e':Vf}{f f':FX}(he:XE X e f)(he':XE X e' f')(h:noStar e=true:=by rfl)(h':noStar e'=true:=by rfl):XA X [e,e'] (aa f (aa f' ah)):=pW he (xa1 he' h') h
theorem xs(i:Nat){e:Vf}{f:FX}{pos':Pos}(hN:X.N.Nodup)(he:XE X e f)(hi:X.N[i]?=some x:=by rfl)(hx:Loc X.env.scope x:=by first|exact Or.inl rfl|exact Or.inr rfl)(hs:swapsWith e (some (.Name x pos')) pos.line X.env=pure false:=by rfl)(hf:X.fn x=true\/X.env.scope.names.lookup x=some .local:=by first|exact .inl rfl|exact .inr rfl|assumption):XS X (.Assign [.Name x pos'] e pos) (aO i f):=D4 hN hi hx he hs hf
end
noncomputable def Ou:au->Bool
 |[]=>true
 |x::r=>!(r.contains x)&&Ou r
theorem vR{l:au}(h:Ou l=true):l.Nodup:=by
 induction l with
 |nil=>exact List.nodup_nil
 |cons x r ih=>
  simp only[Ou,R4,Tp]at h;exact List.nodup_cons.mpr ⟨λm=>by rw[List.contains_iff_mem.mpr m]at h;exact absurd h.1 (by decide),ih h.2⟩
noncomputable def Gs:Vf->au
 |.Name x _=>[x]
 |.Tuple es _ _=>es.filterMap λe=>match e with
  |.Name x _=>some x
  |_=>none
 |_=>[]
noncomputable def BR(N:au):gF->au->au
 |[],_=>[]
 |some j::r,t=>N.getD j ""::BR N r t
 |none::r,x::t=>x::BR N r t
 |none::r,[]=>""::BR N r []
section
variable{X:Cx}{elt tg iter:Vf}{ifs:bu}{scope:Vq}{ix:gF}{G:aW}{g:GF}{C:b8}{Fe:FX}{i:Nat}{y:Str}{lpos py pos:Pos}
theorem xl(hc:X.calm=true)(tk:o8 ix g)(hi:XI X tg iter G)(hb:qT X scope (BR X.N ix (Gs tg)) tg elt ifs g C Fe)(ok:kH X.env.scope.names X.N scope (BR X.N ix (Gs tg)) ix=true:=by rfl)(hs:∀x,VE iter X.env x=pure x:=by intro _;rfl):XE X (.ListComp elt [⟨tg,iter,ifs,0⟩] scope pos) (iF ix G g C Fe):=Jj hc (.of ok) tk hi hb hs
theorem QY(hc:X.calm=true)(tk:o8 ix g)(hi:XI X tg iter G)(hb:qT X scope (BR X.N ix (Gs tg)) tg elt ifs g C Fe)(ok:kH X.env.scope.names X.N scope (BR X.N ix (Gs tg)) ix=true:=by rfl)(hs:∀x,VE iter X.env x=pure x:=by intro _;rfl):XN X (.ListComp elt [⟨tg,iter,ifs,0⟩] scope pos) (iF ix G g C Fe):=G6 hc (.of ok) tk hi hb hs
theorem QG(hN:X.N.Nodup)(hc:X.calm=true)(tk:o8 ix g)(hi:XI X tg iter G)(hb:qT X scope (BR X.N ix (Gs tg)) tg elt ifs g C Fe)(hi':X.N[i]?=some y:=by rfl)(hx:Loc X.env.scope y:=by first|exact Or.inl rfl|exact Or.inr rfl)(ok:kH X.env.scope.names X.N scope (BR X.N ix (Gs tg)) ix=true:=by rfl)(hsw:swapsWith (.ListComp elt [⟨tg,iter,ifs,0⟩] scope lpos) (some (.Name y py)) pos.line X.env=pure true:=by rfl)(hs:∀x,VE iter X.env x=pure x:=by intro _;rfl)(hf:X.fn y=true\/X.env.scope.names.lookup y=some .local:=by first|exact .inl rfl|exact .inr rfl|assumption):XS X (.Assign [.Name y py] (.ListComp elt [⟨tg,iter,ifs,0⟩] scope lpos) pos) (aO i (iF ix G g C Fe)):=GX hN hi' hx hc (.of ok) tk hi hb hsw hs hf
theorem QT(hN:X.N.Nodup)(hc:X.calm=true)(tk:o8 ix g)(hi:XI X tg iter G)(hb:qT X scope (BR X.N ix (Gs tg)) tg elt ifs g C Fe)(hi':X.N[i]?=some y:=by rfl)(hx:Loc X.env.scope y:=by first|exact Or.inl rfl|exact Or.inr rfl)(ok:kH X.env.scope.names X.N scope (BR X.N ix (Gs tg)) ix=true:=by rfl)(hsw:swapsWith (.ListComp elt [⟨tg,iter,ifs,0⟩] scope lpos) (some (.Name y py)) pos.line X.env=pure true:=by rfl)(hs:∀x,VE iter X.env x=pure x:=by intro _;rfl)(hf:X.fn y=true\/X.env.scope.names.lookup y=some .local:=by first|exact .inl rfl|exact .inr rfl|assumption):XS X (.Assign [.Name y py] (.ListComp elt [⟨tg,iter,ifs,0⟩] scope lpos) pos) (tG i (iF ix G g C Fe)):=Ak hN hi' hx hc (.of ok) tk hi hb hsw hs hf
end
structure U where
 P:Vj
 w:Vi
 K:T3
 mg:cu
 base:Vl
 cL:Ve
 T:Ve
noncomputable abbrev Ca(u:U)(k:Nat)(x:Str)(ps:au)(g:cg):Prop:=Callee u.P u.w u.K u.mg u.base k x ps g
noncomputable abbrev Ma(u:U)(k:Nat)(c m:Str)(ps:au)(g:cg):Prop:=MethAt u.P u.w u.K u.mg u.base k c m ps g
noncomputable abbrev Ta(u:U)(k:Nat)(m:Str)(ps:au)(t:List (Str×(cg))):Prop:=ql u.P u.w u.K u.mg u.base k m ps t
noncomputable def Df(u:U)(x:Str)(st:Vg):Prop:=∃f fd,pf u.K x x st f fd/\u.mg x=some (.ref f)
noncomputable def Dm(u:U)(c m qual:Str)(st:Vg):Prop:=∃C f fd,clsAt u.K c C/\kN u.K C/\Meth u.K C m f/\pf u.K m qual st f fd
noncomputable def Bd(x qual:Str)(st:Vg)(ps:au):Prop:=∀us:aN,us.length=ps.length->∀(kV doc pm:Vc)(an:Option Ve)(cdv ct:Vc),bindArgs (Ut x qual (jr st) (eA st) (aB st) .none kV doc pm an cdv ct) ⟨us,[]⟩=pure (ps.zip us)
theorem pf.bd{K:T3}{x qual:Str}{st:Vg}{f:Ve}{fd:VU}{ps:au}(F:pf K x qual st f fd)(h:Bd x qual st ps):Binds K fd ps []:=F.binds λkV doc pm an cdv ct us e=>h us e kV doc pm an cdv ct
section
variable{u:U}{x c m qual:Str}{st:Vg}{ps:au}{k:Nat}{B:bK}
theorem K4(M:au)(d:Df u x st)(b:Bd x x st ps)(sc:b7 (ps++M) ps (aB st))(h:(ps++M).Nodup->∀f,xS u.P u.w u.K u.mg u.base k (ps++M) x st f B):Ca u (k+1) x ps (aj B ps.length (ps++M).length):=by
 obtain⟨f,fd,F,e⟩:=d;exact Ab F (pf.bd F b) e sc (h sc.nd f).ok
theorem Mf(d:Df u x st)(b:Bd x x st ps):Ca u k x ps λ_=>un:=by
 obtain⟨f,fd,F,e⟩:=d;exact vS k F (pf.bd F b) e
theorem Fy(d:Dm u c m qual st)(b:Bd m qual st ps):Ma u k c m ps λ_=>un:=by
 obtain⟨C,f,fd,h1,h2,h3,F⟩:=d;have no:∀vs H Q E,¬Ae u.K ps.length (λ_=>un) vs H Q E:=λvs H Q E ⟨O,ds,_,_,_,e⟩=>e;exact⟨C,f,fd,h1,h2,h3,⟨λvs H Q E h=>absurd h (no vs H Q E),λA outer s H args us vs Q E _ _ _ _ h=>absurd h (no vs H Q E)⟩,pf.bd F b⟩
theorem Kk(M:au)(d:Dm u c m qual st)(b:Bd m qual st ps)(sc:b7 (ps++M) ps (aB st))(h:(ps++M).Nodup->∀f,xS u.P u.w u.K u.mg u.base k (ps++M) qual st f B):Ma u (k+1) c m ps (aj B ps.length (ps++M).length):=by
 obtain⟨C,f,fd,h1,h2,h3,F⟩:=d;exact Aq h1 h2 h3 F (pf.bd F b) sc (h sc.nd f).ok
theorem PL(M:au){f:Ve}{fd:VU}(F:pf u.K x x st f fd)(sc:b7 (ps++M) ps (aB st))(h:(ps++M).Nodup->xS u.P u.w u.K u.mg u.base k (ps++M) x st f B):hJ u.P u.w u.K u.mg u.base (lX u.P u.w) (k+1) f fd ps (Ae u.K ps.length (aj B ps.length (ps++M).length)):=tX F sc (h sc.nd).ok
end
noncomputable def KD(K:T3)(x:Str)(st:Vg):Prop:=∃f oc od kV dc pm an cd ct sl,Uw K Vn x=some (some (.ref f))/\Lk K f x x st oc od kV dc pm an cd ct sl/\Uu K cd x=true/\Uq K (.ref f)=true
theorem KD.mk{K:T3}{x:Str}{st:Vg}{f:Ve}{oc:Vc}{od:Option Ve}{kV dc pm:Vc}{an:Option Ve}{cd ct:Vc}{sl:Array (Option Vc)}(a:Uw K Vn x=some (some (.ref f)))(l:Lk K f x x st oc od kV dc pm an cd ct sl)(c:Uu K cd x=true)(k:Uq K (.ref f)=true):KD K x st:=⟨f,oc,od,kV,dc,pm,an,cd,ct,sl,a,l,c,k⟩
noncomputable def KDs(K:T3):List (Str×Vg)->Prop
 |[]=>True
 |p::r=>KD K p.1 p.2/\KDs K r
theorem KDs.mk{K:T3}{x:Str}{st:Vg}{r:List (Str×Vg)}(h:KD K x st)(t:KDs K r):KDs K ((x,st)::r):=⟨h,t⟩
noncomputable def Mz(u:U)(Z:Prop):List (Str×Vg)->Prop
 |[]=>Z
 |p::r=>Mz u Z r/\Df u p.1 p.2
noncomputable def KZs(K:T3):au->Prop
 |[]=>True
 |x::r=>Uw K Vn x=some none/\KZs K r
theorem KZs.mk{K:T3}{x:Str}{r:au}(h:Uw K Vn x=some none)(t:KZs K r):KZs K (x::r):=⟨h,t⟩
noncomputable def Zs(u:U):au->Prop
 |[]=>True
 |x::r=>Zs u r/\u.mg x=none
section
variable{u:U}{h:Vl}
theorem Mz.of{Z:Prop}(X:u.K.In h)(G:h.Ns Vn u.mg)(z:Z):∀{l:List (Str×Vg)},KDs u.K l->Mz u Z l
 |[],_=>z
 |_::_,h=>by
  obtain⟨⟨_,_,_,_,_,_,_,_,_,_,a,l,c,k⟩,r⟩:=h;exact⟨Mz.of X G z r,_,_,bp l c k,UO X G a⟩
theorem Zs.of(X:u.K.In h)(G:h.Ns Vn u.mg):∀{l:au},KZs u.K l->Zs u l
 |[],_=>trivial
 |_::_,⟨a,r⟩=>⟨Zs.of X G r,PySem.W.mg_none_of X G a⟩
end
theorem Eo{us:aN}{n:Nat}(h:us.length=n+1):∃a r,us=a::r/\r.length=n:=by
 cases us with
 |nil=>cases h
 |cons a r=>exact⟨a,r,rfl,Nat.succ.inj h⟩
theorem Ka{us:aN}(h:us.length=1):∃a,us=[a]:=List.length_eq_one_iff.mp h
theorem CY{us:aN}(h:us.length=2):∃a b,us=[a,b]:=by
 obtain⟨a,r,rfl,k⟩:=Eo h;obtain⟨b,rfl⟩:=Ka k;exact⟨a,b,rfl⟩
theorem zL{us:aN}(h:us.length=3):∃a b c,us=[a,b,c]:=by
 obtain⟨a,r,rfl,k⟩:=Eo h;obtain⟨b,c,rfl⟩:=CY k;exact⟨a,b,c,rfl⟩
theorem Jg{us:aN}(h:us.length=4):∃a b c d,us=[a,b,c,d]:=by
 obtain⟨a,r,rfl,k⟩:=Eo h;obtain⟨b,c,d,rfl⟩:=zL k;exact⟨a,b,c,d,rfl⟩
theorem HN{us:aN}(h:us.length=5):∃a b c d e,us=[a,b,c,d,e]:=by
 obtain⟨a,r,rfl,k⟩:=Eo h;obtain⟨b,c,d,e,rfl⟩:=Jg k;exact⟨a,b,c,d,e,rfl⟩
end TX
namespace TG
open L2
instance(priority:=low) noTabs:az:=⟨λ_=>True,λ_ _=>trivial,λ_ _ _=>trivial⟩
open PySem PySem.Spec L2
theorem nr{α:Sort _}{a b:α}(h:a=b):a=b:=h
theorem eE{α β:Type}(a:α)(f:α->R β):Except.bind (Except.ok a:R α) f=f a:=nr rfl
theorem sq{α β:Type}(x:Option Ex)(f:α->R β):Except.bind (Except.error x:R α) f=.error x:=nr rfl
theorem sQ{α:Type}(a:α)(k:Ks)(ρ:aq)(f:α->R D):o7 (.ok a) k ρ f=f a:=nr rfl
theorem sS{α:Type}(x:Ex)(k:Ks)(ρ:aq)(f:α->R D):o7 (.error (some x)) k ρ f=k.ex x ρ:=nr rfl
theorem jF{α:Type}(a:α):Dp (.ok a:R α)=.ok a:=nr rfl
theorem eS{α:Type}(a:α):rO (some a)=.ok a:=nr rfl
theorem ge_0(d:D)(ρ:aq):rh (some (.val d)::ρ) 0=.ok d:=rfl
theorem zc(x:Option S)(ρ:aq)(i:Nat):rh (x::ρ) (i+1)=rh ρ i:=rfl
theorem nJ(i:Nat)(ρ:aq):af i ρ=rh ρ i:=rfl
theorem zR(d:D)(ρ:aq):fC d ρ=.ok d:=rfl
theorem nE(ρ:aq):ah ρ=.ok []:=rfl
theorem lg(f:FX)(g:aW)(ρ:aq):aa f g ρ=(f ρ).bind λx=>(g ρ).bind λxs=>.ok (x::xs):=rfl
theorem n8(g:aW)(ρ:aq):aP g ρ=(g ρ).bind λxs=>rO (oW xs):=rfl
theorem ni(g:aW)(ρ:aq):fg g ρ=(g ρ).bind λxs=>rO (jY xs):=rfl
theorem Al(g:D->bE)(f:FX)(ρ:aq):f1 g f ρ=(f ρ).bind λa=>rO (g a):=rfl
theorem AA(g:D->D->bE)(f h:FX)(ρ:aq):f2 g f h ρ=(f ρ).bind λa=>(h ρ).bind λb=>rO (g a b):=rfl
theorem yV(f:FX)(ρ:aq):fB f ρ=(f ρ).bind λd=>rO (MP d):=rfl
theorem yF(g:List D->bE)(f:aW)(ρ:aq):fL g f ρ=(f ρ).bind λds=>rO (g ds):=rfl
theorem zP(g:cg)(f:aW)(ρ:aq):fR g f ρ=(f ρ).bind g:=nr rfl
theorem nu(f:b8)(ρ:aq):gH f ρ=(f ρ).bind λb=>.ok (!b):=rfl
theorem nW(f g:b8)(ρ:aq):oz f g ρ=(f ρ).bind λb=>if b then g ρ else .ok false:=rfl
theorem sy(f g:b8)(ρ:aq):sr f g ρ=(f ρ).bind λb=>if b then .ok true else g ρ:=rfl
theorem jf(f:FX)(ρ:aq):aK f ρ=(f ρ).bind λd=>rO (truth d):=rfl
theorem kI(f g:FX)(ρ:aq):lE f g ρ=(f ρ).bind λd=>xh d (g ρ):=rfl
theorem nX(f g:FX)(ρ:aq):Ei f g ρ=(f ρ).bind λd=>LJ d (g ρ):=rfl
theorem lm(f:FX)(ρ:aq):ya f ρ=(f ρ).bind λa=>rO (Jq a):=rfl
theorem rJ(t:b8)(f g:FX)(ρ:aq):xG t f g ρ=(t ρ).bind λc=>if c then f ρ else g ρ:=rfl
theorem ny(T:String)(f:FX)(ρ:aq):uS T f ρ=(f ρ).bind λa=>rO (Az T a):=rfl
theorem nH(f:FX)(ρ:aq):uV f ρ=(f ρ).bind λa=>.ok (.bl (isNon a)):=rfl
theorem kX(f:FX)(ρ:aq):LY f ρ=(f ρ).bind λa=>.ok (.bl (!isNon a)):=rfl
theorem n0(f:FX)(ρ:aq):EB f ρ=(f ρ).bind λa=>rO (Ji a):=rfl
theorem iQ(f:FX)(ρ:aq):IX f ρ=(f ρ).bind λa=>rO (CP a):=rfl
theorem oh(f:FX)(ρ:aq):M1 f ρ=(f ρ).bind λa=>rO (Ib a):=rfl
theorem iS(g g':D->D->bE)(fa fb fc:FX)(ρ:aq):gW g g' fa fb fc ρ=(fa ρ).bind λx=>(fb ρ).bind λy=>(rO (g x y)).bind λz=>xh z ((fc ρ).bind λw=>rO (g' y w)):=rfl
theorem iY(f:FX)(ρ:aq):cE f ρ=(f ρ).bind λd=>rO (qf d):=rfl
theorem gQ(f:aW)(ρ:aq):gL f ρ=(f ρ).bind λds=>rO (mJ ds):=rfl
theorem gR(f:aW)(ρ:aq):mz f ρ=(f ρ).bind λds=>rO (mx ds):=rfl
theorem nh(f:aW)(ρ:aq):Ow f ρ=(f ρ).bind λds=>rO (Lg ds):=rfl
theorem kW(f:aW)(ρ:aq):dy f ρ=(f ρ).bind λds=>rO (qC ds):=rfl
theorem nS(z:Str):Qm (.str z)=some z:=rfl
theorem gP(ρ:aq):fe ρ=.ok none:=rfl
theorem kR(f:FX)(ρ:aq):j9 f ρ=(f ρ).bind λd=>rO (v6 d):=rfl
theorem iI(f:FX)(l h:aq->R dG)(ρ:aq):gU f l h ρ=(f ρ).bind λa=>(l ρ).bind λlo=>(h ρ).bind λhi=>rO (qj a lo hi):=rfl
theorem kE(ρ:aq):eD ρ=.ok true:=rfl
theorem kP(k:Ks)(ρ:aq):bi k ρ=k.nx ρ:=nr rfl
theorem il(A B:bK)(k:Ks)(ρ:aq):av A B k ρ=A {k with nx:=B k} ρ:=nr rfl
theorem kz(f:FX)(k:Ks)(ρ:aq):aI f k ρ=o7 (f ρ) k ρ .ok:=nr rfl
theorem jg(k:Ks)(ρ:aq):KG k ρ=.ok .non:=nr rfl
theorem nK(c:b8)(A B:bK)(k:Ks)(ρ:aq):eN c A B k ρ=o7 (c ρ) k ρ λb=>if b then A k ρ else B k ρ:=nr rfl
theorem kK(i:Nat)(f:FX)(k:Ks)(ρ:aq):aO i f k ρ=o7 (f ρ) k ρ λd=>k.nx (setV i d ρ):=nr rfl
theorem iU(is:List Nat)(F:bK)(k:Ks)(ρ:aq):g7 is F k ρ=F k (kill is ρ):=nr rfl
theorem ie(G:aW)(g:GF)(B:bK)(k:Ks)(ρ:aq):qc G g B k ρ=o7 (G ρ) k ρ λds=>eT g B k ds ρ:=nr rfl
theorem zt(d:D)(x:Option S)(ρ:aq):setV 0 d (x::ρ)=some (.val d)::ρ:=rfl
theorem zj(i:Nat)(d:D)(x:Option S)(ρ:aq):setV (i+1) d (x::ρ)=x::setV i d ρ:=rfl
theorem mS(ρ:aq):kill [] ρ=ρ:=rfl
theorem kG(i:Nat)(is:List Nat)(ρ:aq):kill (i::is) ρ=kill is (ρ.set i none):=rfl
theorem cF(B:bK)(n:Nat)(a:D):aj B 1 n [a]=B K0 (env0 n [a]):=nr rfl
theorem bB(B:bK)(n:Nat)(a b:D):aj B 2 n [a,b]=B K0 (env0 n [a,b]):=nr rfl
theorem dm(B:bK)(n:Nat)(a b c:D):aj B 3 n [a,b,c]=B K0 (env0 n [a,b,c]):=nr rfl
theorem pT(B:bK)(n:Nat)(a b c d:D):aj B 4 n [a,b,c,d]=B K0 (env0 n [a,b,c,d]):=nr rfl
theorem HK(B:bK)(n:Nat)(a b c d e:D):aj B 5 n [a,b,c,d,e]=B K0 (env0 n [a,b,c,d,e]):=nr rfl
theorem ou(ρ:aq):inB [] ρ=[]:=rfl
theorem kJ(ix:gF)(ρ:aq):inB (none::ix) ρ=none::inB ix ρ:=rfl
noncomputable def pick(ρ:aq)(i:Nat):Option S:=match ρ[i]? with
 |some (some (.val d))=>some (.val d)
 |_=>none
theorem kY(i:Nat)(ix:gF)(ρ:aq):inB (some i::ix) ρ=pick ρ i::inB ix ρ:=rfl
theorem yX(d:D)(ρ:aq):pick (some (.val d)::ρ) 0=some (.val d):=rfl
theorem zg(x:Option S)(ρ:aq)(i:Nat):pick (x::ρ) (i+1)=pick ρ i:=rfl
theorem lq(i:Nat)(f:FX)(k:Ks)(ρ:aq):tG i f k ρ=o7 (f ρ) k ρ λd=>k.nx (ρ.set i (some (.own d))):=nr rfl
theorem kB(i:Nat)(F:bK)(k:Ks)(ρ:aq):C9 i F k ρ=F k (frz i ρ):=nr rfl
theorem zm(d:D)(ρ:aq):frz 0 (some (.own d)::ρ)=some (.val d)::ρ:=rfl
theorem rB(d:D)(ρ:aq):frz 0 (some (.val d)::ρ)=some (.val d)::ρ:=rfl
theorem yY(i:Nat)(x:Option S)(ρ:aq):frz (i+1) (x::ρ)=x::frz i ρ:=by
 unfold frz;rw[SW];split<;>rename_i h
 ·rw[h];rfl
 ·rfl
theorem HX(i:Nat)(u:List D->List D->Option (List D))(f:aW)(k:Ks)(ρ:aq){xs:List D}(h:ρ[i]?=some (some (.own (.lst xs)))):Iq i u f k ρ=o7 (f ρ) k ρ λds=>(rO (u xs ds)).bind λys=>k.nx (ρ.set i (some (.own (.lst ys)))):=by
 unfold Iq;rw[h]
theorem Jn{xs:List D}{y:D}(h:xs.length<100000):vn xs [y]=some (xs++[y]):=by
 show(if small (xs.length+1)then some (xs++[y])else none)=_;rw[gz ‹0›];rfl
theorem mZ(i j:Int):bN (.int i) (.int j)=some (.int (i+j)):=nr rfl
theorem mV(i j:Int):TG.pS (.int i) (.int j)=some (.int (i-j)):=nr rfl
theorem sY(i j:Int):P1 (.int i) (.int j)=some (.bl (decide (i<j))):=nr rfl
theorem nG(i j:Int):o5 (.int i) (.int j)=some (.bl (decide (i<j))):=nr rfl
theorem nR(x y:Str):o5 (.str x) (.str y)=some (.bl (decide (x.cps.toList<y.cps.toList))):=nr rfl
theorem nM(c d:Bool):Oz (.bl c) (.bl d)=some (.bl (c==d)):=nr rfl
theorem gO(c d:Bool):EH (.bl c) (.bl d)=some (.bl (!(c==d))):=nr rfl
theorem rA(i j:Int):wU (.int i) (.int j)=some (.bl (decide (i<=j))):=nr rfl
theorem su(i j:Int):L9 (.int i) (.int j)=some (.bl (decide (j<i))):=nr rfl
theorem rF(i j:Int):L5 (.int i) (.int j)=some (.bl (decide (j<=i))):=nr rfl
theorem nU(i:Int):Ji (.int i)=some (.int (-i)):=nr rfl
theorem fP{i j:Int}(h:0<j):cP (.int i) (.int j)=some (.int (i%j)):=by
 show(if decide (0<j)then some (D.int (i%j))else none)=_;rw[decide_eq_true h];rfl
theorem jX{i j:Int}(h:0<j)(h':j<10^200):dE (.int i) (.int j)=some (.int (i/j)):=by
 show(if decide (0<j/\j<10^200)then some (D.int (i/j))else none)=_;rw[decide_eq_true ⟨h,h'⟩];rfl
theorem lU{i j:Int}(h:-(2^64)<i)(h':i<2^64):iE (.int i) (.int j)=some (.int (i*j)):=by
 show(if decide ((-(2^64)<i/\i<2^64)\/(-(2^64)<j/\j<2^64))then some (D.int (i*j))else none)=_;rw[decide_eq_true (.inl ⟨h,h'⟩)];rfl
theorem kL{i j:Int}(h:-(2^64)<j)(h':j<2^64):iE (.int i) (.int j)=some (.int (i*j)):=by
 show(if decide ((-(2^64)<i/\i<2^64)\/(-(2^64)<j/\j<2^64))then some (D.int (i*j))else none)=_;rw[decide_eq_true (.inr ⟨h,h'⟩)];rfl
theorem B7(i:Int)(n:Nat)(h:n<=1000000)(h':i.natAbs<2^64):qV (.int i) (.int n)=some (.int (i^n)):=by
 show(if decide (0<=(n:Int)/\(n:Int)<=1000000/\i.natAbs<2^64)then some (D.int (i^(n:Int).toNat))else none)=_;rw[decide_eq_true ⟨by omega,by omega,h'⟩];rfl
theorem iN(i j:Int):gEq (.int i) (.int j)=some (.bl (i==j)):=by unfold gEq pyEq;rfl
theorem iZ(i j:Str):gEq (.str i) (.str j)=some (.bl (i==j)):=by unfold gEq pyEq;rfl
theorem iX(i j:Bool):gEq (.bl i) (.bl j)=some (.bl (i==j)):=by unfold gEq pyEq;rfl
theorem iO(i j:Int):qJ (.int i) (.int j)=some (.bl (!(i==j))):=by unfold qJ pyEq;rfl
theorem jj(i j:Str):qJ (.str i) (.str j)=some (.bl (!(i==j))):=by unfold qJ pyEq;rfl
theorem iP(i j:Bool):qJ (.bl i) (.bl j)=some (.bl (!(i==j))):=by unfold qJ pyEq;rfl
theorem Bb{α:Type}(xs:List α)(n:Nat):ot xs (n:Int)=xs[n]?:=by
 unfold ot IE;rw[if_pos ‹0›];by_cases h:n<xs.length
 ·rw[if_pos ‹0›];rfl
 ·rw[if_neg ‹0›,Ts ‹0›];rfl
theorem yP{α:Type}(a:α)(xs:List α):ot (a::xs) 0=some a:=Bb (a::xs) 0
theorem Ad{α:Type}(a:α)(xs:List α)(n:Nat):ot (a::xs) ((n+1:Nat):Int)=ot xs (n:Int):=by
 rw[Bb,Bb,SW]
theorem Lw(xs:List D)(i:Int):ak (.tup xs) (.int i)=ot xs i:=nr rfl
theorem fz(a:D)(xs:List D):ak (.tup (a::xs)) (.int 0)=some a:=yP a xs
theorem fD(a b:D)(xs:List D):ak (.tup (a::b::xs)) (.int 1)=some b:=(Ad a _ 0).trans (yP b xs)
theorem sL(a b c:D)(xs:List D):ak (.tup (a::b::c::xs)) (.int 2)=some c:=(Ad a _ 1).trans ((Ad b _ 0).trans (yP c xs))
theorem sR(a:D)(xs:List D):ak (.lst (a::xs)) (.int 0)=some a:=yP a xs
theorem rV(a b:D)(xs:List D):ak (.lst (a::b::xs)) (.int 1)=some b:=(Ad a _ 0).trans (yP b xs)
theorem tu(a b c:D)(xs:List D):ak (.lst (a::b::c::xs)) (.int 2)=some c:=(Ad a _ 1).trans ((Ad b _ 0).trans (yP c xs))
theorem iK(xs:List D):gA [.lst xs]=some (.int xs.length):=nr rfl
theorem jd(xs:List D):gA [.tup xs]=some (.int xs.length):=nr rfl
theorem fJ(xs:List D):eI [.lst xs]=some (.tup xs):=nr rfl
theorem fH(xs:List D):eI [.tup xs]=some (.tup xs):=nr rfl
theorem n6(b:Bool):MP (.bl b)=some b:=nr rfl
theorem gM(i:Int):v6 (.int i)=some (some i):=nr rfl
theorem fK(b:Bool):truth (.bl b)=some b:=nr rfl
theorem fM(xs:List D):truth (.tup xs)=some (!xs.isEmpty):=nr rfl
theorem fS(xs:List D):truth (.lst xs)=some (!xs.isEmpty):=nr rfl
theorem lK(i j:Int):mm [.int i,.int j]=some (.int (if j>i then j else i)):=nr rfl
theorem lI(i j:Int):mQ [.int i,.int j]=some (.int (if j<i then j else i)):=nr rfl
theorem fX(xs:List D):qf (.lst xs)=some xs:=nr rfl
theorem fN(xs:List D):qf (.tup xs)=some xs:=nr rfl
theorem iJ(k:R D):xh (.bl true) k=k:=nr rfl
theorem iV(k:R D):xh (.bl false) k=.ok (.bl false):=nr rfl
theorem lh(k:R D):LJ (.bl true) k=.ok (.bl true):=nr rfl
theorem kC(k:R D):LJ (.bl false) k=k:=nr rfl
theorem eL(a b:Bool):xh (.bl a) (.ok (.bl b))=.ok (.bl (a&&b)):=by cases a<;>rfl
theorem kZ(a b:Bool):LJ (.bl a) (.ok (.bl b))=.ok (.bl (a||b)):=by cases a<;>rfl
theorem og(b:Bool):Jq (.bl b)=some (.bl (!b)):=nr rfl
theorem oy(xs:List D):Ib (.lst xs)=some (.lst xs.reverse):=nr rfl
theorem nZ(n:Nat)(h:n<2^62):mJ [.int n]=some (eV 0 n):=by
 show(if okR (n:Int)then some (eV 0 ((n:Int).toNat))else none)=_
 have:okR (n:Int)=true:=decide_eq_true ⟨by omega,by omega⟩
 rw[this];rfl
theorem Il{xs:List D}(h:xs.length<=100000):jY xs=some (.lst xs):=by unfold jY;rw[gz h];rfl
theorem ul{α:Type}(f:α->D)(h:∀a,pl (f a)=true):∀xs:List α,pI (xs.map f)=true
 |[]=>rfl
 |x::xs=>by
  show(pl (f x)&&pI (xs.map f))=true;rw[h,ul f h xs];rfl
theorem Ef(f:Str->D)(hf:f=D.str)(w:Str)(ws:au):inD (.str w) (ws.map f)=ws.any λy=>y==w:=by
 subst hf;unfold inD;rw[S7];congr 1
theorem t8(w:Str)(ws:au):uJ (.str w) (.tup (ws.map .str))=some (.bl (ws.contains w)):=by
 show(if(pl (.str w)&&pI (ws.map .str))&&dB 8 (.str w)then some (D.bl (inD (.str w) (ws.map .str)))else none)=_;rw[Ef _ rfl,ul _ λ_=>rfl];show some (D.bl _)=_;congr 2
 induction ws with
 |nil=>rfl
 |cons x xs ih=>rw[R9,S0,ih,Bool.beq_comm]
theorem DE(w:Str)(ws:au):uJ (.str w) (.lst (ws.map .str))=some (.bl (ws.contains w)):=t8 w ws
theorem dQ(xs ys:List D)(h:xs.length+ys.length<=100000):bN (.tup xs) (.tup ys)=some (.tup (xs++ys)):=by
 show(if small (xs.length+ys.length)then some (D.tup (xs++ys))else none)=_;rw[gz h];rfl
theorem kF(xs:List D)(lo hi:dG):qj (.lst xs) lo hi=some (.lst (cutD xs lo hi)):=nr rfl
theorem kS(xs:List D)(lo hi:dG):qj (.tup xs) lo hi=some (.tup (cutD xs lo hi)):=nr rfl
theorem eQ{ix:gF}{G:aW}{g:GF}{C:b8}{Fe:FX}{ρ:aq}{ds r:List D}(h1:G ρ=.ok ds)(h2:ds.length<=100000)(h3:xH (inB ix ρ) g C Fe ds=.ok r):iF ix G g C Fe ρ=.ok (.lst r):=by
 unfold iF;rw[h1,eE,gz h2,h3];rfl
theorem pQ{α:Type}{ρ:aq}{g:GF}{C:b8}{Fe:FX}(mk:α->D)(p:α->Bool)(v:α->D):∀xs:List α,(∀a∈xs,∃ρ1,g (mk a) ρ=some ρ1/\C ρ1=.ok (p a)/\Fe ρ1=.ok (v a))->
  xH ρ g C Fe (xs.map mk)=.ok ((xs.filter p).map v)
 |[],_=>rfl
 |a::xs,h=>by
  obtain⟨ρ1,h1,h2,h3⟩:=h a Ru;rw[RJ,mh,h1,eS,eE,h2,jF,eE,h3,jF,eE,pQ mk p v xs λb hb=>h b (Rv _ hb)];cases e:p a with
  |true=>rw[if_pos rfl,Tg e];rfl
  |false=>rw[if_neg RG,Th (by simp[e])]
theorem jx{α:Type}{ρ:aq}{g:GF}{C:b8}{Fe:FX}(mk:α->D)(v:α->D)(xs:List α)(h:∀a∈xs,∃ρ1,g (mk a) ρ=some ρ1/\C ρ1=.ok true/\Fe ρ1=.ok (v a)):xH ρ g C Fe (xs.map mk)=.ok (xs.map v):=by
 rw[pQ mk (λ_=>true) v xs h,List.filter_eq_self.mpr λ_ _=>rfl]
theorem yj{g:GF}{B:bK}{k:Ks}(Iv:Nat->aq->Prop):∀(ds:List D)(i:Nat)(ρ:aq),(∀j d ρ (k':Ks),i<=j->ds[j-i]?=some d->Iv j ρ->∃ρ1 ρ2,g d ρ=some ρ1/\Iv (j+1) ρ2/\B k' ρ1=k'.nx ρ2)->Iv i ρ->∃ρ',Iv (i+ds.length) ρ'/\eT g B k ds ρ=k.nx ρ'
 |[],i,ρ,_,h=>⟨ρ,h,rfl⟩
 |d::ds,i,ρ,st,h=>by
  obtain⟨ρ1,ρ2,e1,h2,e2⟩:=st i d ρ ⟨eT g B k ds,k.nx,eT g B k ds,k.ex⟩ (RB _) (by rw[S5];rfl) h;obtain⟨ρ',h3,e3⟩:=yj (g:=g) (B:=B) (k:=k) Iv ds (i+1) ρ2 (λj d' ρ k' hj hd=>st j d' ρ k' ‹0› (by rw[show j-i=(j-(i+1))+1 by omega,SW];exact hd)) h2;refine⟨ρ',?_,?_⟩
  ·rw[RH]
   have:i+(ds.length+1)=i+1+ds.length:=(by omega);rw[this];exact h3
  ·show((rO (g d ρ)).bind λρ1=>B ⟨eT g B k ds,k.nx,eT g B k ds,k.ex⟩ ρ1)=_;rw[e1,eS,eE,e2];exact e3
theorem pG{g:GF}{B:bK}{k:Ks}{ds:List D}{ρ:aq}{Q:R D->Prop}(Iv:Nat->aq->Prop)(st:∀i d ρ (k':Ks),ds[i]?=some d->Iv i ρ->∃ρ1 ρ2,g d ρ=some ρ1/\Iv (i+1) ρ2/\B k' ρ1=k'.nx ρ2)(h:Iv 0 ρ)(q:∀ρ',Iv ds.length ρ'->Q (k.nx ρ')):Q (eT g B k ds ρ):=by
 obtain⟨ρ',h1,e⟩:=yj (k:=k) Iv ds 0 ρ (λj d ρ k' _ hd=>st j d ρ k' hd) h;rw[e];rw[SY]at h1;exact q ρ' h1
theorem kM{α:Type}{xs:List α}{i:Nat}{a:α}(h:xs[i]?=some a):i<xs.length:=by
 rcases Nat.lt_or_ge i xs.length with z|z
 ·exact z
 ·rw[Ts z]at h;cases h
theorem Ea{α β:Type}(f:α->β)(xs:List α)(i:Int):ot (xs.map f) i=(ot xs i).map f:=by
 unfold ot;rw[RK];cases IE xs.length i with
 |none=>rfl
 |some j=>simp
theorem vy{α:Type}{xs:List α}{k:Nat}(h:k<xs.length):ot xs (k:Int)=some xs[k]:=by
 unfold ot IE;rw[if_pos ‹0›,if_pos ‹0›];simp[h]
theorem xF{α:Type}{xs:List α}{i:Int}(h0:0<=i)(h:i<xs.length):ot xs i=some (xs[i.toNat]'‹0›):=by
 have e:i=((i.toNat:Nat):Int):=by omega
 conv=>lhs;rw[e]
 exact vy ‹0›
noncomputable def Gj:bK:=av (eN (fB (f2 o5 (af 1) (fL gA (aa (af 0) ah)))) (aI (f2 ak (af 0) (af 1))) bi) (aI (fC (.int 0)))
theorem Dt(ns:List Int)(k:Nat):aj Gj 2 2 [.lst (ns.map .int),.int k]=.ok (.int (ns.getD k 0)):=by
 show(if decide ((k:Int)<((ns.map D.int).length:Int))then o7 (rO (ot (ns.map D.int) (k:Int))) _ _ .ok else .ok (.int 0))=_;rw[RK];by_cases h:k<ns.length
 ·rw[if_pos (by simpa using h),Ea,vy h,Option.map_some,Tl,Su h];rfl
 ·rw[if_neg (by simpa using h),Tl,Ts ‹0›];rfl
theorem C2(ns:List Int)(i:Int)(h:0<=i):∃c:Int,aj Gj 2 2 [.lst (ns.map .int),.int i]=.ok (.int c):=by
 have e:i=((i.toNat:Nat):Int):=by omega
 exact⟨ns.getD i.toNat 0,by rw[e];exact Dt ns i.toNat⟩
theorem ph(x y:Str):(x++y).length=x.length+y.length:=by
 show(x.cps++y.cps).size=_;rw[Array.size_append];rfl
theorem km(x y:Str)(h:x.length<=1000)(h':y.length<=1000):bN (.str x) (.str y)=some (.str (x++y)):=by
 show(if small (x.length+y.length)then some (D.str (x++y))else none)=_;rw[gz ‹0›];rfl
theorem x8(x:Str)(h:x.length<=1000)(i:Int)(h0:0<=i)(h1:i<x.length):∃y:Str,y.length=1/\ak (.str x) (.int i)=some (.str y):=by
 have hl:x.cps.toList.length=x.length:=by simp[Str.length]
 have hi:i<x.cps.toList.length:=by omega
 refine⟨⟨#[x.cps.toList[i.toNat]'‹0›]⟩,rfl,?_⟩;show(if small x.length then(ot x.cps.toList i).bind λc=>some (D.str ⟨#[c]⟩)else none)=_;rw[gz ‹0›,if_pos rfl,xF h0 hi];rfl
theorem n4(lo:Int)(n:Nat):eV lo n=(List.range n).map λ(k:Nat)=>D.int (lo+(k:Int)):=nr rfl
theorem fU(lo:Int)(n:Nat):(eV lo n).length=n:=by unfold eV;rw[RK,SG]
theorem str_int(i:Int)(h:i.natAbs<10^70):∃x:Str,Bf [.int i]=some (.str x):=by
 refine⟨toString i,?_⟩;show(if decide (i.natAbs.log2<1920)then some (D.str (toString i))else none)=_;have e:i.natAbs.log2<1920:=by
  by_cases z:i.natAbs=0
  ·rw[z];decide
  ·rw[Nat.log2_lt z];exact Sd h (by decide +kernel)
 rw[decide_eq_true e];rfl
theorem wR{α:Type}(xs:List α)(m:Nat):cutD xs none (some (m:Int))=xs.take m:=by
 unfold cutD;rw[HT.Lj,HT.Mb,Sn,SH];rcases Nat.le_total m xs.length with h|h
 ·rw[Nat.min_eq_left h]
 ·rw[Nat.min_eq_right h,Tt h,Tt (RB _)]
theorem pL{α:Type}(xs:List α)(m:Nat):cutD xs (some (m:Int)) none=xs.drop m:=by
 unfold cutD;rw[HT.Lj,HT.Mb];rcases Nat.le_total m xs.length with h|h
 ·rw[Nat.min_eq_left h];exact Tt (by rw[R3];exact RB _)
 ·rw[Nat.min_eq_right h,S5,Sj,Tu h]
theorem GD(g:GF)(B:bK)(k:Ks)(d:D)(ds:List D)(ρ:aq):eT g B k (d::ds) ρ=(rO (g d ρ)).bind λρ1=>B ⟨eT g B k ds,k.nx,eT g B k ds,k.ex⟩ ρ1:=nr rfl
theorem GC(g:GF)(B:bK)(k:Ks)(ρ:aq):eT g B k [] ρ=k.nx ρ:=nr rfl
local macro_rules
 |`(tactic| simp! only[$xs,*])=>`(tactic| simp only[eE,sq,sQ,sS,jF,eS,ge_0,zc,nJ,zR,nE,lg,n8,ni,Al,AA,yV,yF,zP,nu,nW,sy,jf,kI,nX,lm,rJ,ny,nH,kX,n0,iQ,oh,iS,iY,gQ,gR,nh,kW,gP,kR,iI,kE,kP,il,kz,jg,nK,kK,iU,ie,lq,kB,zm,rB,yY,zt,zj,mS,kG,ou,kJ,kY,yX,zg,Tv,Tx,RJ,R7,Si,SA,K0,env0,List.replicate,S6,RO,SY,Nat.reduceAdd,Nat.reduceSub,RH,Sa,mZ,mV,sY,nG,nR,nM,gO,nS,rA,su,rF,nU,iN,iZ,iX,iO,jj,iP,fz,fD,sL,sR,rV,tu,iK,jd,fJ,fH,n6,gM,fK,fM,fS,lK,lI,fX,fN,iJ,iV,lh,kC,eL,kZ,og,oy,kF,kS,gN,if_true,if_false,Tc,Tz,Sf,$xs,*])
theorem uX(a b c:D):oW [a,b,c]=some (.tup [a,b,c]):=nr rfl
theorem qK(a b:D):oW [a,b]=some (.tup [a,b]):=nr rfl
theorem CU(a:D):oW [a]=some (.tup [a]):=nr rfl
theorem IC:oW []=some (.tup []):=nr rfl
theorem OC(a:D):jY [a]=some (.lst [a]):=nr rfl
theorem Hz(a b:D):jY [a,b]=some (.lst [a,b]):=nr rfl
theorem NF:jY []=some (.lst []):=nr rfl
noncomputable def Bm:bK:=aI (fL eI (aa (iF [none] (cE (f2 bN (f2 ak (af 0) (fC (.int 0))) (f2 ak (af 0) (fC (.int 1))))) (gN 0) eD (f2 ak (af 0) (fC (.int 1)))) ah))
theorem kinds_ok(kf rf:List D)(ps:List (Str×D))(hl:kf.length+rf.length<=100)(e:kf++rf=ps.map (λp=>.tup [.str p.1,p.2])):aj Bm 1 1 [.tup [.tup kf,.tup rf]]=.ok (.tup (ps.map (·.2))):=by
 have hl':ps.length<=100:=by have:=congrArg List.length e;rw[R0,RK]at this;omega
 have f0:iF [none] (cE (f2 bN (f2 ak (af 0) (fC (.int 0))) (f2 ak (af 0) (fC (.int 1))))) (gN 0) eD (f2 ak (af 0) (fC (.int 1))) [some (.val (.tup [.tup kf,.tup rf]))]=.ok (.lst (ps.map (·.2))):=by
  refine eQ (ds:=ps.map (λp=>.tup [.str p.1,p.2])) ?_ (by rw[RK];omega) ?_
  ·simp! only[];rw[dQ _ _ ‹0›,e];simp! only[]
  ·refine jx _ _ ps λp _=>⟨_,rfl,rfl,?_⟩
   simp! only[]
 rw[cF];unfold Bm;simp! only[f0]
inductive F2{α β:Type}(R:α->β->Prop):List α->List β->Prop where
 |nil:F2 R [] []
 |cons {a:α} {b:β} {as:List α} {bs:List β} (h:R a b) (t:F2 R as bs):F2 R (a::as) (b::bs)
theorem AY{ρ:aq}{g:GF}{C:b8}{Fe:FX}:∀(ds:List D)(P:Nat->D->Prop),(∀i d,ds[i]?=some d->∃ρ1 v,g d ρ=some ρ1/\C ρ1=.ok true/\Fe ρ1=.ok v/\P i v)->∃vs:List D,vs.length=ds.length/\(∀i v,vs[i]?=some v->P i v)/\xH ρ g C Fe ds=.ok vs
 |[],_,_=>⟨[],rfl,(λ_ _ h=>nomatch h),rfl⟩
 |d::ds,P,h=>by
  obtain⟨ρ1,w,h1,h2,h3,h4⟩:=h 0 d rfl;obtain⟨ws,e1,e2,e3⟩:=AY (ρ:=ρ) (g:=g) (C:=C) (Fe:=Fe) ds (λi v=>P (i+1) v) λi d' hd=>h (i+1) d' (by rw[SW];exact hd);refine⟨w::ws,by rw[RH,RH,e1],λi v hv=>?_,?_⟩
  ·cases i with
   |zero=>cases hv;exact h4
   |succ i=>rw[SW]at hv;exact e2 i v hv
  ·rw[mh,h1,eS,eE,h2,jF,eE,h3,jF,eE,e3];rfl
end TG
namespace TD
open PySem PySem.Spec L2 TG TX
noncomputable def dg:bK:=av (eN (fB (f2 o5 (af 1) (fL gA (aa (af 0) ah)))) (aI (f2 ak (af 0) (af 1))) bi) (aI (fC (.int 0)))
noncomputable def cZ:bK:=aI (fL eI (aa (iF [none] (cE (f2 bN (f2 ak (af 0) (fC (.int 0))) (f2 ak (af 0) (fC (.int 1))))) (gN 0) eD (f2 ak (af 0) (fC (.int 0)))) ah))
noncomputable def dM:bK:=aI (f2 bN (f2 bN (gU (af 0) fe (j9 (af 1))) (af 2)) (gU (af 0) (j9 (f2 bN (af 1) (fC (.int 1)))) fe))
noncomputable def fi:bK:=aI (f2 o5 (af 1) (fL gA (aa (f2 ak (af 0) (fC (.int 0))) ah)))
noncomputable def aU:bK:=av (eN (aK (fR (aj fi 2 2) (aa (af 0) (aa (af 1) ah)))) (aI (aP (aa (fR (aj dM 3 3) (aa (f2 ak (af 0) (fC (.int 0))) (aa (af 1) (aa (af 2) ah)))) (aa (f2 ak (af 0) (fC (.int 1))) ah)))) bi) (aI (aP (aa (f2 ak (af 0) (fC (.int 0))) (aa (fR (aj dM 3 3) (aa (f2 ak (af 0) (fC (.int 1))) (aa (f2 pS (af 1) (fL gA (aa (f2 ak (af 0) (fC (.int 0))) ah))) (aa (af 2) ah)))) ah))))
noncomputable def dN:bK:=aI (fL eI (aa (iF [none] (cE (f2 bN (f2 ak (af 0) (fC (.int 0))) (f2 ak (af 0) (fC (.int 1))))) (gN 0) eD (f2 ak (af 0) (fC (.int 1)))) ah))
noncomputable def mr(cV:cg):bK:=av (eN (fB (f2 gEq (f2 ak (af 0) (fC (.int 0))) (fC (.str "number")))) (aI (f2 ak (af 0) (fC (.int 1)))) bi) (av (eN (fB (f2 gEq (f2 ak (af 0) (fC (.int 0))) (fC (.str "word")))) (aI (f2 ak (f2 ak (af 0) (fC (.int 1))) (fC (.int 0)))) bi) (av (eN (gH (aK (f2 ak (af 0) (fC (.int 2))))) (aI (aP ah)) bi) (aI (aP (aa (fL eI (aa (iF [none] (cE (fR (aj dN 1 1) (aa (f2 ak (af 0) (fC (.int 1))) ah))) (gN 0) eD (fR cV (aa (af 0) ah))) ah)) ah)))))
noncomputable def cV:Nat->cg
 |0=>λ_=>un
 |n+1=>aj (mr (cV n)) 1 1
theorem gG(n:Nat):cV (n+1)=aj (mr (cV n)) 1 1:=by rw[cV]
theorem qw:∀n:Nat,Ar 1 (cV n)
 |0=>λ_ h=>absurd (by rw[cV]) h
 |n+1=>by rw[gG];exact iB
noncomputable def gC:bK:=aI (f2 ak (fR (cV 12) (aa (aP (aa (fC (.str "rows")) (aa (af 0) (aa (fC (.bl true)) ah)))) ah)) (fC (.int 0)))
noncomputable def b9:bK:=aI (f2 ak (f2 ak (f2 bN (f2 ak (af 0) (fC (.int 0))) (f2 ak (af 0) (fC (.int 1)))) (af 1)) (fC (.int 1)))
noncomputable def b6:bK:=av (aO 3 (f2 bN (f2 ak (af 0) (fC (.int 0))) (f2 ak (af 0) (fC (.int 1))))) (aI (fL vj (aa (iF [none,none,some 1,some 2] (dy (aa (af 3) ah)) (gT 2 (uH [0,1])) eD (lE (f2 gEq (f2 ak (af 1) (fC (.int 0))) (af 2)) (f2 iz (af 0) (af 3)))) ah)))
noncomputable def cw:bK:=aI (xG (aK (uS "str" (af 0))) (f2 bN (fC (.str ".")) (af 0)) (fL Bf (aa (af 0) ah)))
noncomputable def cG:bK:=aI (f2 cP (f2 bN (f2 bN (f2 iE (af 0) (af 0)) (f2 iE (fC (.int 48271)) (af 0))) (fC (.int 11))) (fC (.int 2147483647)))
noncomputable def cX:bK:=av (aO 2 (f2 cP (f2 bN (f2 bN (f2 cP (fR (aj dg 2 2) (aa (af 0) (aa (af 1) ah))) (fC (.int 2147483647))) (f2 iE (f2 iE (fC (.int 69621)) (af 1)) (af 1))) (fC (.int 5))) (fC (.int 2147483647)))) (aI (fR (aj cG 1 1) (aa (fR (aj cG 1 1) (aa (af 2) ah)) ah)))
noncomputable def bg:bK:=av (aO 2 (fC (.str "abcdefghijklmnopqrstuvwxyz"))) (av (aO 1 (f2 cP (f2 bN (f2 iE (af 1) (f2 ak (fg (aa (fC (.int 1)) (aa (fC (.int 5)) (aa (fC (.int 7)) (aa (fC (.int 11)) (aa (fC (.int 13)) (aa (fC (.int 23)) ah))))))) (f2 cP (af 0) (fC (.int 6))))) (f2 dE (af 0) (fC (.int 6)))) (fC (.int 24)))) (av (aO 0 (f2 dE (af 0) (fC (.int 144)))) (av (eN (fB (f2 gEq (f2 cP (af 0) (fC (.int 3))) (fC (.int 0)))) (aI (f2 rp (f2 ak (af 2) (f2 cP (f2 bN (f2 dE (af 0) (fC (.int 3))) (f2 dE (af 1) (fC (.int 8)))) (fC (.int 26)))) (f2 bN (fC (.int 1)) (f2 cP (af 1) (fC (.int 8)))))) bi) (av (aO 3 (f2 bN (fC (.int 1)) (f2 cP (f2 dE (af 0) (fC (.int 3))) (fC (.int 8))))) (av (aO 4 (fC (.str ""))) (av (qc (gL (aa (af 3) ah)) (gN 5) (av (aO 6 (f2 dE (af 0) (f2 bN (fC (.int 24)) (f2 iE (f2 iE (fC (.int 11)) (af 5)) (af 5))))) (av (eN (fB (f2 gEq (af 5) (f2 cP (f2 dE (af 0) (fC (.int 24))) (af 3)))) (aO 6 (f2 bN (af 6) (af 1))) bi) (av (aO 4 (f2 bN (af 4) (f2 ak (af 2) (f2 cP (af 6) (fC (.int 26)))))) (g7 [5,6] bi))))) (aI (af 4))))))))
end TD
namespace TD
open PySem PySem.Spec L2 TG
local macro_rules
 |`(tactic| simp! only[$xs,*])=>`(tactic| simp only[eE,sq,sQ,sS,jF,eS,ge_0,zc,nJ,zR,nE,lg,n8,ni,Al,AA,yV,yF,zP,nu,nW,sy,jf,kI,nX,lm,rJ,ny,nH,kX,n0,iQ,oh,iS,iY,gQ,gR,nh,kW,gP,kR,iI,kE,kP,il,kz,jg,nK,kK,iU,ie,lq,kB,zm,rB,yY,zt,zj,mS,kG,ou,kJ,kY,yX,zg,Tv,Tx,RJ,R7,Si,SA,K0,env0,List.replicate,S6,RO,SY,Nat.reduceAdd,Nat.reduceSub,RH,Sa,mZ,mV,sY,nG,nR,nM,gO,nS,rA,su,rF,nU,iN,iZ,iX,iO,jj,iP,fz,fD,sL,sR,rV,tu,iK,jd,fJ,fH,n6,gM,fK,fM,fS,lK,lI,fX,fN,iJ,iV,lh,kC,eL,kZ,og,oy,kF,kS,gN,if_true,if_false,Tc,Tz,Sf,$xs,*])
theorem L7(ns:List Int)(i:Int)(h:0<=i):∃c:Int,aj dg 2 2 [.lst (ns.map .int),.int i]=.ok (.int c):=C2 ns i h
local macro_rules
 |`(tactic| simp! only[$xs,*])=>`(tactic| simp only[eE,sq,sQ,sS,jF,eS,ge_0,zc,nJ,zR,nE,lg,n8,ni,Al,AA,yV,yF,zP,nu,nW,sy,jf,kI,nX,lm,rJ,ny,nH,kX,n0,iQ,oh,iS,iY,gQ,gR,nh,kW,gP,kR,iI,kE,kP,il,kz,jg,nK,kK,iU,ie,lq,kB,zm,rB,yY,zt,zj,mS,kG,ou,kJ,kY,yX,zg,Tv,Tx,RJ,R7,Si,SA,K0,env0,List.replicate,S6,RO,SY,Nat.reduceAdd,Nat.reduceSub,RH,Sa,mZ,mV,sY,nG,nR,nM,gO,nS,rA,su,rF,nU,iN,iZ,iX,iO,jj,iP,fz,fD,sL,sR,rV,tu,iK,jd,fJ,fH,n6,gM,fK,fM,fS,lK,lI,fX,fN,iJ,iV,lh,kC,eL,kZ,og,oy,kF,kS,gN,if_true,if_false,Tc,Tz,Sf,$xs,*])
theorem rL{g:GF}{B:bK}{k:Ks}{Q:R D->Prop}(Iv:Nat->aq->Prop):∀(ds:List D)(o i:Nat)(ρ:aq)(d:D),ds[i]?=some d->(∀j d ρ (k':Ks),j<i->ds[j]?=some d->Iv (o+j) ρ->∃ρ1 ρ2,g d ρ=some ρ1/\Iv (o+j+1) ρ2/\B k' ρ1=k'.nx ρ2)->Iv o ρ->
  (∀ρ (k':Ks),Iv (o+i) ρ->∃ρ1,g d ρ=some ρ1/\Q (B k' ρ1))->Q (eT g B k ds ρ)
 |[],_,_,_,_,h,_,_,_=>nomatch h
 |x::ds,o,0,ρ,d,h,_,hI,q=>by
  cases h;obtain⟨ρ1,e1,q1⟩:=q ρ ⟨eT g B k ds,k.nx,eT g B k ds,k.ex⟩ hI;show Q ((rO (g x ρ)).bind λρ1=>B ⟨eT g B k ds,k.nx,eT g B k ds,k.ex⟩ ρ1);rw[e1,eS,eE];exact q1
 |x::ds,o,i+1,ρ,d,h,st,hI,q=>by
  obtain⟨ρ1,ρ2,e1,h2,e2⟩:=st 0 x ρ ⟨eT g B k ds,k.nx,eT g B k ds,k.ex⟩ ‹0› rfl hI;show Q ((rO (g x ρ)).bind λρ1=>B ⟨eT g B k ds,k.nx,eT g B k ds,k.ex⟩ ρ1);rw[e1,eS,eE,e2];refine rL Iv ds (o+1) i ρ2 d (by rw[SW]at h;exact h) (λj d' ρ' k' hj hd hI'=>?_) h2 (λρ' k' hI'=>q ρ' k' (by rw[show o+(i+1)=o+1+i by omega];exact hI'));obtain⟨a,b,c1,c2,c3⟩:=st (j+1) d' ρ' k' ‹0› (by rw[SW];exact hd) (by rw[show o+(j+1)=o+1+j by omega];exact hI');exact⟨a,b,c1,by rw[show o+1+j+1=o+(j+1)+1 by omega];exact c2,c3⟩
noncomputable abbrev fld(p:Str×D):D:=.tup [.str p.1,p.2]
theorem lF(kf rf:List D)(ps:List (Str×D))(hl:ps.length<=100)(e:kf++rf=ps.map fld):aj cZ 1 1 [.tup [.tup kf,.tup rf]]=.ok (.tup (ps.map λp=>.str p.1)):=by
 have hl':kf.length+rf.length<=100:=by have:=congrArg List.length e;rw[R0,RK]at this;omega
 have f0:iF [none] (cE (f2 bN (f2 ak (af 0) (fC (.int 0))) (f2 ak (af 0) (fC (.int 1))))) (gN 0) eD (f2 ak (af 0) (fC (.int 0))) [some (.val (.tup [.tup kf,.tup rf]))]=.ok (.lst (ps.map λp=>.str p.1)):=by
  refine eQ (ds:=ps.map fld) ?_ (by rw[RK];omega) ?_
  ·simp! only[];rw[dQ _ _ ‹0›,e];simp! only[]
  ·refine jx _ _ ps λp _=>⟨_,rfl,rfl,?_⟩
   simp! only[]
 rw[cF];unfold cZ;simp! only[f0]
theorem mX(xs:List D):qC [.tup xs]=some (eZ 0 xs):=nr rfl
theorem iH:∀(xs:List D)(k i:Nat),(eZ k xs)[i]?=(xs[i]?).map λx=>.tup [.int ((k+i:Nat):Int),x]
 |[],k,i=>by simp[eZ]
 |x::xs,k,0=>by simp[eZ]
 |x::xs,k,i+1=>by
  rw[eZ,SW,iH xs (k+1) i,SW];congr 1;funext y;rw[show k+1+i=k+(i+1)by omega]
theorem yQ(kf rf:List D)(ps:List (Str×D))(hl:ps.length<=100)(e:kf++rf=ps.map fld)(i:Nat)(nm:Str)(k:D)(hi:ps[i]?=some (nm,k)):aj b9 2 2 [.tup [.tup kf,.tup rf],.int i]=.ok k:=by
 have hl':kf.length+rf.length<=100:=by have:=congrArg List.length e;rw[R0,RK]at this;omega
 have g:ak (.tup (ps.map fld)) (.int (i:Int))=some (.tup [.str nm,k]):=by
  rw[Lw,Bb,RX,hi];rfl
 rw[bB];unfold b9;simp! only[dQ kf rf ‹0›,e,g]
theorem lR(kf rf:List D)(i:Nat):aj fi 2 2 [.tup [.tup kf,.tup rf],.int i]=.ok (.bl (decide (i<kf.length))):=by
 rw[bB];unfold fi
 have:decide ((i:Int)<(kf.length:Int))=decide (i<kf.length):=by
  by_cases h:i<kf.length
  ·rw[decide_eq_true h,decide_eq_true ‹0›]
  ·rw[decide_eq_false h,decide_eq_false ‹0›]
 simp! only[this]
theorem rT(vs os:List D)(i:Nat)(h:vs.length+os.length<=10000):aj dM 3 3 [.tup vs,.int i,.tup os]=.ok (.tup (vs.take i++os++vs.drop (i+1))):=by
 have l1:(vs.take i).length<=vs.length:=by rw[RT];omega
 have l2:(vs.drop (i+1)).length<=vs.length:=by rw[R3];omega
 have c:((i:Int)+1)=((i+1:Nat):Int):=by omega
 have a1:=dQ (vs.take i) os ‹0›;have a2:=dQ (vs.take i++os) (vs.drop (i+1)) (by rw[R0];omega);rw[dm];unfold dM;simp! only[c,wR,pL,a1,a2]
theorem Ao(kf rf os:List D)(i:Nat)(h:kf.length+rf.length+os.length<=10000):aj aU 3 3 [.tup [.tup kf,.tup rf],.int i,.tup os]=.ok (if i<kf.length then .tup [.tup (kf.take i++os++kf.drop (i+1)),.tup rf]else .tup [.tup kf,.tup (rf.take (i-kf.length)++os++rf.drop (i-kf.length+1))]):=by
 rw[dm];unfold aU;by_cases hi:i<kf.length
 ·rw[if_pos hi];simp! only[lR,decide_eq_true hi,rT kf os i ‹0›,qK]
 ·rw[if_neg hi];have c:((i:Int)-(kf.length:Int))=((i-kf.length:Nat):Int):=by omega
  simp! only[lR,decide_eq_false hi,c,rT rf os (i-kf.length) ‹0›,qK]
theorem xX:∀bs:List Bool,anyB (bs.map .bl)=some (bs.any id)
 |[]=>rfl
 |b::bs=>by
  show(anyB (bs.map .bl)).bind (λc=>some (b||c))=_;rw[xX bs];rfl
theorem yh(bs:List Bool):vj [.lst (bs.map .bl)]=some (.bl (bs.any id)):=by
 have e:vj [.lst (bs.map .bl)]=(anyB (bs.map .bl)).bind λb=>some (D.bl b):=rfl;rw[e,xX];rfl
end TD
namespace T4
open PySem PySem.Spec L2 TG TD
local macro_rules
 |`(tactic| simp! only[$xs,*])=>`(tactic| simp only[eE,sq,sQ,sS,jF,eS,ge_0,zc,nJ,zR,nE,lg,n8,ni,Al,AA,yV,yF,zP,nu,nW,sy,jf,kI,nX,lm,rJ,ny,nH,kX,n0,iQ,oh,iS,iY,gQ,gR,nh,kW,gP,kR,iI,kE,kP,il,kz,jg,nK,kK,iU,ie,lq,kB,zm,rB,yY,zt,zj,mS,kG,ou,kJ,kY,yX,zg,Tv,Tx,RJ,R7,Si,SA,K0,env0,List.replicate,S6,RO,SY,Nat.reduceAdd,Nat.reduceSub,RH,Sa,mZ,mV,sY,nG,nR,nM,gO,nS,rA,su,rF,nU,iN,iZ,iX,iO,jj,iP,fz,fD,sL,sR,rV,tu,iK,jd,fJ,fH,n6,gM,fK,fM,fS,lK,lI,fX,fN,iJ,iV,lh,kC,eL,kZ,og,oy,kF,kS,gN,if_true,if_false,Tc,Tz,Sf,$xs,*])
theorem HE{x:Str}{n:Int}(h:1<=n)(h':n<=1000)(hx:x.length<=1000):rp (.str x) (.int n)=some (.str (hV x n)):=by
 show(if decide (1<=n/\n<=1000/\x.length<=1000)then some (D.str (hV x n))else none)=_;rw[decide_eq_true ⟨h,h',hx⟩];rfl
theorem pF(x:Int)(h0:0<=x)(h1:x<2147483700):∃y:Int,0<=y/\y<2147483647/\aj cG 1 1 [.int x]=.ok (.int y):=by
 have m1:=lU (i:=x) (j:=x) ‹0› ‹0›;have m2:=lU (i:=48271) (j:=x) (by decide) (by decide);have g:=λi=>fP (i:=i) (show(0:Int)<2147483647 by decide);refine⟨(x*x+48271*x+11)%2147483647,TB _ (by decide),TC _ (by decide),?_⟩;rw[cF];unfold cG;simp! only[m1,m2,g]
theorem xI(ns:List Int)(k:Nat)(hk:k<=100):∃y:Int,0<=y/\y<2147483647/\aj cX 2 3 [.lst (ns.map .int),.int k]=.ok (.int y):=by
 obtain⟨c,ec⟩:=TD.L7 ns k ‹0›;have m1:=lU (i:=69621) (j:=(k:Int)) (by decide) (by decide);have m2:=kL (i:=69621*(k:Int)) (j:=(k:Int)) ‹0› ‹0›;have g:=λi=>fP (i:=i) (show(0:Int)<2147483647 by decide);obtain⟨y1,a1,b1,e1⟩:=pF ((c%2147483647+69621*(k:Int)*(k:Int)+5)%2147483647) (TB _ (by decide)) (by have:=TC (c%2147483647+69621*(k:Int)*(k:Int)+5) (show(0:Int)<2147483647 by decide);omega);obtain⟨y2,a2,b2,e2⟩:=pF y1 a1 ‹0›;refine⟨y2,a2,b2,?_⟩;rw[bB];unfold cX;simp! only[ec,g,m1,m2,e1,e2]
theorem Fb{i:Nat}{fk fv:FX}{k:Ks}{ρ:aq}{al:List (Key×D)}{q:Key}{d v:D}(h:ρ[i]?=some (some (.own (lT al))))(ek:fk ρ=.ok d)(hd:d=cI q)(ev:fv ρ=.ok v)(hl:al.length<=1000):
  sA i fk fv k ρ=k.nx (ρ.set i (some (.own (lT (lO al q v))))):=by
 subst hd;have e:rC (fu al) (al.map (·.2)) (cI q) v=some (lO al q v):=by
  unfold rC;rw[n9];show(keyOf (cI q)).bind _=_;rw[jw];show(if small al.length then _ else _)=_;rw[gz ‹0›];rfl
 unfold sA;rw[h];show o7 ((fv ρ).bind λv=>(fk ρ).bind λq=>rO (rC (fu al) (al.map (·.2)) q v)) k ρ _=_;rw[ev,eE,ek,eE,e];rfl
noncomputable abbrev CM(ws:au):List (Key×D):=ws.map λw=>((.inr w:Key),D.bl true)
noncomputable abbrev wd(ws:au):D:=lT (CM ws)
noncomputable def qp(ws:au)(w:Str):au:=if w∈ws then ws else ws++[w]
theorem Hf(ws:au)(w:Str):lO (CM ws) (.inr w) (.bl true)=CM (qp ws w):=by
 have e:((CM ws).any λp=>decide (p.1=(.inr w:Key)))=decide (w∈ws):=by
  induction ws with
  |nil=>simp
  |cons a ws ih=>
   show(decide ((.inr a:Key)=.inr w)||(CM ws).any λp=>decide (p.1=(.inr w:Key)))=_;rw[ih];by_cases z:a=w
   ·subst z;simp
   ·have z':¬(.inr a:Key)=.inr w:=λq=>z (Sum.inr.inj q);have z2:¬w=a:=λq=>z q.symm;simp[z',z2]
 unfold lO qp;rw[e];by_cases h:w∈ws
 ·rw[if_pos (by simpa using h),if_pos h];show(ws.map _).map _=_;rw[Tr];refine SD λa _=>?_;show(if(.inr a:Key)=.inr w then((.inr a:Key),D.bl true)else((.inr a:Key),D.bl true))=_;split<;>rfl
 ·rw[if_neg (by simpa using h),if_neg h];show _=(ws++[w]).map _;rw[SE];rfl
theorem DV{ws:au}(w:Str)(h:ws.Nodup):(qp ws w).Nodup:=by
 unfold qp;split
 ·exact h
 ·rename_i z;exact List.nodup_append.mpr ⟨h,List.nodup_cons.mpr ⟨by simp,List.nodup_nil⟩,λa ha b hb e=>by
   rw[List.mem_singleton]at hb;subst hb e;exact z ha⟩
theorem BQ(ws:au)(w:Str):(qp ws w).length<=ws.length+1:=by
 unfold qp;split
 ·omega
 ·simp
theorem Gd(ws:au):fu (CM ws)=ws.map D.str:=by
 show(ws.map _).map _=_;rw[Tr];rfl
theorem IM(ws:au):keysOf (fu (CM ws))=some (ws.map .inr):=by
 rw[show fu (CM ws)=(ws.map (.inr:Str->Key)).map cI from by rw[Gd,Tr];rfl];exact h7 _
theorem Ck(ws:au):pP [wd ws]=some (.lst (ws.map .str)):=by
 show(keysOf (fu (CM ws))).bind _=_;rw[IM];show some (D.lst (fu (CM ws)))=_;rw[Gd]
theorem C4(i:Int)(k:Nat):yS (.int i) (.int k)=some (.int (i/2^k)):=by
 show(if decide (0<=(k:Int))then some (D.int (i/2^(k:Int).toNat))else none)=_;rw[decide_eq_true ‹0›];rfl
theorem ut(i j:Int):rm (.int i) (.int j)=some (.int (Builtin.bitAnd i j)):=nr rfl
theorem Pr(a b c d:D):jY [a,b,c,d]=some (.lst [a,b,c,d]):=nr rfl
noncomputable abbrev fm(ps qs:List (Str×D)):D:=.tup [.tup (ps.map fld),.tup (qs.map fld)]
theorem pB{α:Type}{ρ:aq}{g:GF}{C:b8}{Fe:FX}(mk:α->D)(p:α->Bool)(v:α->D):∀xs:List α,(∀a∈xs,∃ρ1,g (mk a) ρ=some ρ1/\C ρ1=.ok (p a)/\(p a=true->Fe ρ1=.ok (v a)))->
  xH ρ g C Fe (xs.map mk)=.ok ((xs.filter p).map v)
 |[],_=>rfl
 |a::xs,h=>by
  obtain⟨ρ1,h1,h2,h3⟩:=h a Ru;rw[RJ,mh,h1,eS,eE,h2,jF,eE,pB mk p v xs λb hb=>h b (Rv _ hb)];cases e:p a with
  |true=>rw[if_pos rfl,h3 e,jF,eE,Tg e];rfl
  |false=>rw[if_neg RG,Th (by simp[e])]
local macro_rules
 |`(tactic| simp! only[$xs,*])=>`(tactic| simp only[eE,sq,sQ,sS,jF,eS,ge_0,zc,nJ,zR,nE,lg,n8,ni,Al,AA,yV,yF,zP,nu,nW,sy,jf,kI,nX,lm,rJ,ny,nH,kX,n0,iQ,oh,iS,iY,gQ,gR,nh,kW,gP,kR,iI,kE,kP,il,kz,jg,nK,kK,iU,ie,lq,kB,zm,rB,yY,zt,zj,mS,kG,ou,kJ,kY,yX,zg,Tv,Tx,RJ,R7,Si,SA,K0,env0,List.replicate,S6,RO,SY,Nat.reduceAdd,Nat.reduceSub,RH,Sa,mZ,mV,sY,nG,nR,nM,gO,nS,rA,su,rF,nU,iN,iZ,iX,iO,jj,iP,fz,fD,sL,sR,rV,tu,iK,jd,fJ,fH,n6,gM,fK,fM,fS,lK,lI,fX,fN,iJ,iV,lh,kC,eL,kZ,og,oy,kF,kS,gN,if_true,if_false,Tc,Tz,Sf,$xs,*])
noncomputable def LT:List Nat:=("abcdefghijklmnopqrstuvwxyz":Str).cps.toList
theorem Bp:∀a<26,∀b<26,LT[a]?=LT[b]?->a=b:=by decide +kernel
noncomputable def stp(b:Int):Int:=([1,5,7,11,13,23]:List Int).getD (b%6).toNat 0
noncomputable def kk(b k:Int):Int:=(k*stp b+b/6)%24
noncomputable def jz(b:Int):Int:=b/144/24%(1+b/144/3%8)
noncomputable def Mw(b k:Int)(w:Str):Prop:=
 (b/144%3=0->w.length=(1+kk b k%8).toNat/\w.cps.toList[0]?=LT[((b/144/3+kk b k/8)%26).toNat]?)/\
 (b/144%3≠0->w.cps.toList[(jz b).toNat]?=LT[((b/144/(24+11*jz b*jz b)+kk b k)%26).toNat]?)
theorem LI(b k:Int):0<=kk b k/\kk b k<24:=⟨TB _ (by decide),TC _ (by decide)⟩
theorem Ik{b k1 k2:Int}(a1:0<=k1)(a2:k1<24)(b1:0<=k2)(b2:k2<24)(h:kk b k1=kk b k2):k1=k2:=by
 unfold kk stp at h;rcases(show b%6=0\/b%6=1\/b%6=2\/b%6=3\/b%6=4\/b%6=5 by omega)with z|z|z|z|z|z<;>rw[z]at h<;>simp at h<;>omega
theorem D7{b k1 k2:Int}{w:Str}(a1:0<=k1)(a2:k1<24)(b1:0<=k2)(b2:k2<24)(h1:Mw b k1 w)(h2:Mw b k2 w):k1=k2:=by
 refine Ik (b:=b) a1 a2 b1 b2 ?_;have q1:=LI b k1;have q2:=LI b k2;by_cases z:b/144%3=0
 ·obtain⟨l1,e1⟩:=h1.1 z;obtain⟨l2,e2⟩:=h2.1 z
  have:=Bp _ ‹0› _ ‹0› (e1.symm.trans e2)
  omega
 ·have:=Bp _ ‹0› _ ‹0› ((h1.2 z).symm.trans (h2.2 z))
  omega
theorem wK(x:Str)(h:x.length<=1000)(i:Int)(h0:0<=i)(h1:i<x.length):∃y:Str,y.length=1/\y.cps.toList[0]?=x.cps.toList[i.toNat]?/\ak (.str x) (.int i)=some (.str y):=by
 have hl:x.cps.toList.length=x.length:=by simp[Str.length]
 have hi:i<x.cps.toList.length:=by omega
 have hn:i.toNat<x.cps.toList.length:=by omega
 refine⟨⟨#[x.cps.toList[i.toNat]'hn]⟩,rfl,?_,?_⟩
 ·rw[Su hn];rfl
 ·show(if small x.length then(ot x.cps.toList i).bind λc=>some (D.str ⟨#[c]⟩)else none)=_;rw[gz ‹0›,if_pos rfl,xF h0 hi];rfl
theorem sI(c:Array Nat)(hc:0<c.size):∀(n:Nat)(a:Array Nat),((List.replicate n c).foldl (·++·) a).toList[0]?=if a.size=0 then(if n=0 then none else c.toList[0]?)else a.toList[0]?
 |0,a=>by
  rw[S6,List.foldl_nil];split
  ·rename_i h;simp[h]
  ·rfl
 |n+1,a=>by
  rw[S9,Tb,sI c hc n (a++c)]
  have:¬(a++c).size=0:=by rw[Array.size_append];omega
  rw[if_neg this,Array.toList_append];by_cases h:a.size=0
  ·rw[if_pos h,if_neg ‹0›,RU (by simp[h])];simp[h]
  ·rw[if_neg h,RW (by simp;omega)]
theorem Cd{y:Str}{n:Int}(h:1<=n)(hy:y.length=1):(hV y n).cps.toList[0]?=y.cps.toList[0]?:=by
 unfold hV;split
 ·rfl
 ·have hc:0<y.cps.size:=by have:y.cps.size=1:=hy;omega
  rw[sI y.cps hc n.toNat #[]];split
  ·rw[if_neg ‹0›]
  ·rename_i z;exact absurd rfl z
theorem xA(x y:Str):(x++y).cps.toList=x.cps.toList++y.cps.toList:=by
 show(x.cps++y.cps).toList=_;rw[Array.toList_append]
theorem uo(x:Str):x.cps.toList.length=x.length:=by simp[Str.length]
theorem Ee(b k:Int)(hb:0<=b)(hk:0<=k):∃w:Str,aj bg 2 7 [.int b,.int k]=.ok (.str w)/\Mw b k w:=by
 have LL:(("abcdefghijklmnopqrstuvwxyz":Str)).length=26:=by decide +kernel
 have hLT:LT=("abcdefghijklmnopqrstuvwxyz":Str).cps.toList:=rfl;generalize hL:("abcdefghijklmnopqrstuvwxyz":Str)=L at LL hLT;have g3:=λi=>fP (i:=i) (show(0:Int)<3 by decide);have g6:=λi=>fP (i:=i) (show(0:Int)<6 by decide);have g8:=λi=>fP (i:=i) (show(0:Int)<8 by decide);have g24:=λi=>fP (i:=i) (show(0:Int)<24 by decide);have g26:=λi=>fP (i:=i) (show(0:Int)<26 by decide);have d3:=λi=>jX (i:=i) (show(0:Int)<3 by decide) (show(3:Int)<10^200 by decide);have d6:=λi=>jX (i:=i) (show(0:Int)<6 by decide) (show(6:Int)<10^200 by decide);have d8:=λi=>jX (i:=i) (show(0:Int)<8 by decide) (show(8:Int)<10^200 by decide);have d24:=λi=>jX (i:=i) (show(0:Int)<24 by decide) (show(24:Int)<10^200 by decide);have d144:=λi=>jX (i:=i) (show(0:Int)<144 by decide) (show(144:Int)<10^200 by decide);obtain⟨st,hst,hstp,est⟩:∃st:Int,(0<=st/\st<=25)/\stp b=st/\ak (.lst [.int 1,.int 5,.int 7,.int 11,.int 13,.int 23]) (.int (b%6))=some (.int st):=by
  rcases(show b%6=0\/b%6=1\/b%6=2\/b%6=3\/b%6=4\/b%6=5 by omega)with z|z|z|z|z|z<;>rw[z]
  ·exact⟨1,by decide,by unfold stp;rw[z];rfl,rfl⟩
  ·exact⟨5,by decide,by unfold stp;rw[z];rfl,rfl⟩
  ·exact⟨7,by decide,by unfold stp;rw[z];rfl,rfl⟩
  ·exact⟨11,by decide,by unfold stp;rw[z];rfl,rfl⟩
  ·exact⟨13,by decide,by unfold stp;rw[z];rfl,rfl⟩
  ·exact⟨23,by decide,by unfold stp;rw[z];rfl,rfl⟩
 have l6:∀a b c d e f:D,jY [a,b,c,d,e,f]=some (.lst [a,b,c,d,e,f]):=λ_ _ _ _ _ _=>rfl;have ms:=kL (i:=k) (j:=st) ‹0› ‹0›;have hkk:kk b k=(k*st+b/6)%24:=by unfold kk;rw[hstp]
 generalize hk':(k*st+b/6)%24=k' at hkk;have k1:0<=k'/\k'<24:=by omega
 have hP:∀w,Mw b k w=((b/144%3=0->w.length=(1+kk b k%8).toNat/\w.cps.toList[0]?=LT[((b/144/3+kk b k/8)%26).toNat]?)/\(b/144%3≠0->w.cps.toList[(jz b).toNat]?=LT[((b/144/(24+11*jz b*jz b)+kk b k)%26).toNat]?)):=λ_=>rfl;have hj:jz b=b/144/24%(1+b/144/3%8):=rfl;generalize hb':b/144=b' at hP hj;generalize jz b=j0 at hP hj;rw[hkk]at hP;simp only[hP];have b0:0<=b':=by omega
 rw[bB];unfold bg;by_cases h:b'%3=0
 ·have h':(b'%3==0)=true:=by simp[h]
  obtain⟨y,hy,hy0,e1⟩:=wK L ‹0› ((b'/3+k'/8)%26) ‹0› ‹0›;have mu:=HE (x:=y) (n:=1+k'%8) ‹0› ‹0› ‹0›;refine⟨hV y (1+k'%8),?_,λ_=>⟨by rw[lW ‹0›,hy,Nat.mul_one],by rw[Cd ‹0› hy,hy0,hLT]⟩,λz=>absurd h z⟩;simp! only[hL,g6,l6,est,ms,d6,g24,hk',d144,hb',g3,h',d3,d8,g26,e1,g8,mu]
 ·have h':(b'%3==0)=false:=by simp[h]
  obtain⟨n,hn,hn1,hn2⟩:∃n:Nat,1+b'/3%8=(n:Int)/\1<=n/\n<=8:=⟨(1+b'/3%8).toNat,by omega,by omega,by omega⟩
  rw[hn]at hj;have hj1:0<=j0/\j0<(n:Int):=by rw[hj];exact⟨TB _ ‹0›,TC _ ‹0›⟩
  have rn:=nZ n ‹0›;obtain⟨T,hT⟩:∃T:bK,T=(av (qc (gL (aa (af 3) ah)) (gN 5) (av (aO 6 (f2 dE (af 0) (f2 bN (fC (.int 24)) (f2 iE (f2 iE (fC (.int 11)) (af 5)) (af 5))))) (av (eN (fB (f2 gEq (af 5) (f2 cP (f2 dE (af 0) (fC (.int 24))) (af 3)))) (aO 6 (f2 bN (af 6) (af 1))) bi) (av (aO 4 (f2 bN (af 4) (f2 ak (af 2) (f2 cP (af 6) (fC (.int 26)))))) (g7 [5,6] bi))))) (aI (af 4))):=⟨_,rfl⟩
  have key:∃w:Str,(w.cps.toList[j0.toNat]?=LT[((b'/(24+11*j0*j0)+k')%26).toNat]?)/\T K0 [some (.val (.int b')),some (.val (.int k')),some (.val (.str L)),some (.val (.int n)),some (.val (.str "")),none,none]=.ok (.str w):=by
   rw[hT,il,ie];simp! only[rn];refine pG (Q:=λz=>∃w:Str,(w.cps.toList[j0.toNat]?=LT[((b'/(24+11*j0*j0)+k')%26).toNat]?)/\z=.ok (.str w)) (λi ρ=>∃w:Str,w.length=i/\(j0<(i:Int)->w.cps.toList[j0.toNat]?=LT[((b'/(24+11*j0*j0)+k')%26).toNat]?)/\ρ=[some (.val (.int b')),some (.val (.int k')),some (.val (.str L)),some (.val (.int n)),some (.val (.str w)),none,none]) ?_ ?_ ?_
   ·rintro i d ρ kx hd ⟨w,hw,hw2,rfl⟩;have hi:=kM hd;rw[fU]at hi;have hdi:d=.int (i:Int):=by
     rw[n4,RX,SJ hi]at hd;cases hd;simp
    subst hdi;have m1:=lU (i:=11) (j:=(i:Int)) (by decide) (by decide);have m2:=kL (i:=11*(i:Int)) (j:=(i:Int)) ‹0› ‹0›;have ii:0<=11*(i:Int)*(i:Int):=Int.mul_nonneg ‹0› ‹0›;have ii2:11*(i:Int)*(i:Int)<=11*8*8:=Int.mul_le_mul ‹0› ‹0› ‹0› (by decide);have dd:=λz=>jX (i:=z) (show(0:Int)<24+11*(i:Int)*(i:Int)by omega) (show 24+11*(i:Int)*(i:Int)<10^200 by
     have:(10:Int)^200>10000:=by decide +kernel
     omega)
    have gn:=λz=>fP (i:=z) (show(0:Int)<(n:Int)by omega);generalize hs:b'/(24+11*(i:Int)*(i:Int))=s;by_cases hq:((i:Int)==b'/24%(n:Int))=true
    ·obtain⟨y,hy,hy0,e1⟩:=wK L ‹0› ((s+k')%26) ‹0› ‹0›;have ad:=km w y ‹0› ‹0›;refine⟨_,_,rfl,⟨w++y,by rw[ph];omega,λ_=>?_,rfl⟩,?_⟩
     ·have eq:(i:Int)=b'/24%(n:Int):=(by simpa using hq);rw[<-hj]at eq;subst eq;rw[xA,RU (by rw[uo];omega),uo,hw,R1,S5,hy0,hLT,<-hs]
     simp! only[m1,m2,dd,hs,d24,gn,hq,g26,e1,ad]
    ·have hq':((i:Int)==b'/24%(n:Int))=false:=(by simpa using hq);obtain⟨y,hy,hy0,e1⟩:=wK L ‹0› (s%26) ‹0› ‹0›;have ad:=km w y ‹0› ‹0›;refine⟨_,_,rfl,⟨w++y,by rw[ph];omega,λz=>?_,rfl⟩,?_⟩
     ·have ne:j0≠(i:Int):=λq=>hq (by rw[<-q,<-hj];simp);rw[xA,RW (by rw[uo];omega)];exact hw2 ‹0›
     simp! only[m1,m2,dd,hs,d24,gn,hq',g26,e1,ad]
   ·exact⟨"",by decide +kernel,λz=>by omega,rfl⟩
   ·rintro ρ' ⟨w,hw,hw2,rfl⟩;rw[fU]at hw2;exact⟨w,hw2 ‹0›,by simp! only[]⟩
  obtain⟨w,hw,ew⟩:=key;refine⟨w,?_,λz=>absurd z h,λ_=>hw⟩;rw[<-hT];simp only[K0]at ew;simp! only[hL,g6,l6,est,ms,d6,g24,hk',d144,hb',g3,h',d3,g8,hn,ew]
section
open Classical
variable(m:Nat)
noncomputable def Ra(acc:List (List D))(r:List D):List (List D):=if r.take m∈acc then acc else acc++[r.take m]
noncomputable def fs(t:List (List D)):List (List D):=t.foldl (Ra m) []
noncomputable def gp(t:List (List D))(f:List D):List (List D):=(t.filter λr=>decide (r.take m=f)).map (List.drop m)
noncomputable def flat(t:List (List D)):List (List D):=(fs m t).flatMap λf=>(gp m t f).map (f++·)
end
end T4
namespace Tk86
open PySem PySem.Spec L2 TG TX TD
noncomputable def top(i:Nat):Vg:=PySem.Challenge.pw_twoglass_k86_two_for_one.main.body.getD i (.Pass ⟨0,0,0,0⟩)
noncomputable abbrev hX:Vg:=inClass (top 49) 0
theorem lL:b7 ["self","old","new"] ["self","old","new"] (aB hX):=‹2›
noncomputable abbrev je:Vg:=inClass (top 51) 0
theorem mw:b7 ["self","name","kind"] ["self","name","kind"] (aB je):=‹2›
noncomputable abbrev jI:Vg:=inClass (top 27) 0
theorem nB:b7 ["self","glass","step"] ["self","glass","step"] (aB jI):=‹2›
noncomputable abbrev jK:Vg:=inClass (top 28) 0
theorem nO:b7 ["self","one","other","pair"] ["self","one","other","pair"] (aB jK):=‹2›
noncomputable abbrev jG:Vg:=inClass (top 26) 0
theorem nq:b7 ["self","name"] ["self","name"] (aB jG):=‹2›
noncomputable abbrev ip:Vg:=inClass (top 42) 0
theorem lG:b7 ["self","name"] ["self","name"] (aB ip):=‹2›
noncomputable abbrev jM:Vg:=inClass (top 41) 0
theorem nN:b7 ["self","many","name"] ["self","many","name"] (aB jM):=‹2›
noncomputable abbrev jJ:Vg:=inClass (top 47) 0
theorem oA:b7 ["self","quotient","rest","by","name"] ["self","quotient","rest","by","name"] (aB jJ):=‹2›
noncomputable abbrev jL:Vg:=inClass (top 46) 0
theorem mY:b7 ["self","name","by","quotient","rest"] ["self","name","by","quotient","rest"] (aB jL):=‹2›
noncomputable abbrev jN:Vg:=inClass (top 10) 0
theorem oq:b7 ["self","view"] ["self","view"] (aB jN):=‹2›
noncomputable def aX:bK:=aI (lE (f1 (bF ["Leaf"] ["Over","Both"]) (af 0)) (f2 gEq (f1 (aw "name" ["Leaf","Nest","Unnest","Part","Fuse","Sieve"]) (af 0)) (af 1)))
noncomputable def fG:bK:=aI (xG (fB (f2 qJ (af 0) (af 1))) (fg (aa (fNew "Rename" ["old","new"] (aa (af 0) (aa (af 1) ah))) ah)) (fg ah))
noncomputable def ax:bK:=aI (fC (.bl true))
noncomputable def bO:bK:=av (qc (dy (aa (fR (aj cZ 1 1) (aa (af 0) ah)) ah)) (gT 2 (uH [2,3])) (av (eN (fB (f2 gEq (af 3) (af 1))) (aI (af 2)) bi) (g7 [2,3] bi))) (cR "NoField" (aa (fC (.str "no field has this name")) ah))
noncomputable def bZ:bK:=aI (f2 ak (fR (aj b9 2 2) (aa (af 1) (aa (fR (aj bO 2 4) (aa (af 1) (aa (f1 (aw "name" ["Unnest"]) (af 0)) ah))) ah))) (fC (.int 2)))
noncomputable def fw:bK:=av (aO 2 (fL eI (aa (iF [none,some 1] (cE (f2 ak (af 0) (fC (.int 1)))) (gN 0) (fB (f2 uJ (af 0) (f2 ak (af 1) (fC (.int 1))))) (af 0)) ah))) (aI (xG (aK (af 2)) (aP (aa (fC (.str "word")) (aa (af 2) ah))) (fC .non)))
noncomputable def dJ:bK:=av (aO 2 (fL mm (aa (f2 ak (af 0) (fC (.int 1))) (aa (f2 ak (af 1) (fC (.int 1))) ah)))) (av (aO 3 (fL mQ (aa (f2 ak (af 0) (fC (.int 2))) (aa (f2 ak (af 1) (fC (.int 2))) ah)))) (aI (xG (fB (f2 wU (af 2) (af 3))) (aP (aa (fC (.str "number")) (aa (af 2) (aa (af 3) ah)))) (fC .non))))
noncomputable def iC:bK:=av (eN (fB (f2 qJ (f2 ak (af 0) (fC (.int 0))) (f2 ak (af 1) (fC (.int 0))))) (aI (fC .non)) bi) (av (eN (fB (f2 gEq (f2 ak (af 0) (fC (.int 0))) (fC (.str "number")))) (aI (fR (aj dJ 2 4) (aa (af 0) (aa (af 1) ah)))) bi) (av (eN (fB (f2 gEq (f2 ak (af 0) (fC (.int 0))) (fC (.str "word")))) (aI (fR (aj fw 2 3) (aa (af 0) (aa (af 1) ah)))) bi) (aI (fC .non))))
noncomputable def bY:bK:=av (aO 2 (fR (aj b9 2 2) (aa (af 1) (aa (fR (aj bO 2 4) (aa (af 1) (aa (f1 (aw "name" ["Sieve"]) (af 0)) ah))) ah)))) (aI (f2 gEq (fR (aj iC 2 2) (aa (af 2) (aa (f1 (aw "kind" ["Sieve"]) (af 0)) ah))) (af 2)))
noncomputable def fZ:bK:=aI (f2 gEq (fR (aj bO 2 4) (aa (af 0) (aa (f1 (aw "rest" ["Part","Fuse"]) (af 1)) ah))) (f2 bN (fR (aj bO 2 4) (aa (af 0) (aa (f1 (aw "quotient" ["Part","Fuse"]) (af 1)) ah))) (fC (.int 1))))
noncomputable def cU:bK:=aI (f2 gEq (aP (aa (f1 (aw "by" ["Part","Fuse"]) (af 0)) (aa (f1 (aw "quotient" ["Part","Fuse"]) (af 0)) (aa (f1 (aw "rest" ["Part","Fuse"]) (af 0)) ah)))) (aP (aa (f1 (aw "by" ["Part","Fuse"]) (af 1)) (aa (f1 (aw "quotient" ["Part","Fuse"]) (af 1)) (aa (f1 (aw "rest" ["Part","Fuse"]) (af 1)) ah)))))
noncomputable def bG:bK:=av (eN (oz (aK (f1 (bF ["Rename"] ["Step","Nest","Unnest","Part","Fuse","Sieve"]) (af 1))) (aK (f1 (bF ["Rename"] ["Step","Nest","Unnest","Part","Fuse","Sieve"]) (af 2)))) (aI (xG (fB (f2 gEq (f1 (aw "new" ["Rename"]) (af 1)) (f1 (aw "old" ["Rename"]) (af 2)))) (fR (aj fG 2 2) (aa (f1 (aw "old" ["Rename"]) (af 1)) (aa (f1 (aw "new" ["Rename"]) (af 2)) ah))) (fC .non))) bi) (av (eN (oz (aK (f1 (bF ["Sieve"] ["Step","Nest","Unnest","Part","Fuse","Rename"]) (af 1))) (aK (f1 (bF ["Sieve"] ["Step","Nest","Unnest","Part","Fuse","Rename"]) (af 2)))) (aI (xG (fB (f2 gEq (f1 (aw "name" ["Leaf","Nest","Unnest","Part","Fuse","Sieve"]) (af 1)) (f1 (aw "name" ["Leaf","Nest","Unnest","Part","Fuse","Sieve"]) (af 2)))) (fg (aa (fNew "Sieve" ["name","kind"] (aa (f1 (aw "name" ["Leaf","Nest","Unnest","Part","Fuse","Sieve"]) (af 1)) (aa (fR (aj iC 2 2) (aa (f1 (aw "kind" ["Sieve"]) (af 1)) (aa (f1 (aw "kind" ["Sieve"]) (af 2)) ah))) ah))) ah)) (fC .non))) bi) (av (eN (oz (aK (f1 (bF ["Part"] ["Step","Nest","Unnest","Fuse","Rename","Sieve"]) (af 1))) (aK (f1 (bF ["Fuse"] ["Step","Nest","Unnest","Part","Rename","Sieve"]) (af 2)))) (aI (xG (aK (fR (aj cU 2 2) (aa (af 1) (aa (af 2) ah)))) (fR (aj fG 2 2) (aa (f1 (aw "name" ["Leaf","Nest","Unnest","Part","Fuse","Sieve"]) (af 1)) (aa (f1 (aw "name" ["Leaf","Nest","Unnest","Part","Fuse","Sieve"]) (af 2)) ah))) (fC .non))) bi) (av (eN (oz (aK (f1 (bF ["Fuse"] ["Step","Nest","Unnest","Part","Rename","Sieve"]) (af 1))) (aK (f1 (bF ["Part"] ["Step","Nest","Unnest","Fuse","Rename","Sieve"]) (af 2)))) (aI (xG (oz (fB (f2 gEq (f1 (aw "name" ["Leaf","Nest","Unnest","Part","Fuse","Sieve"]) (af 1)) (f1 (aw "name" ["Leaf","Nest","Unnest","Part","Fuse","Sieve"]) (af 2)))) (oz (aK (fR (aj cU 2 2) (aa (af 1) (aa (af 2) ah)))) (aK (fR (aj fZ 2 2) (aa (af 0) (aa (af 1) ah)))))) (fg ah) (fC .non))) bi) (av (eN (oz (aK (f1 (bF ["Nest"] ["Step","Unnest","Part","Fuse","Rename","Sieve"]) (af 1))) (aK (f1 (bF ["Unnest"] ["Step","Nest","Part","Fuse","Rename","Sieve"]) (af 2)))) (aI (fg ah)) bi) (av (eN (oz (aK (f1 (bF ["Unnest"] ["Step","Nest","Part","Fuse","Rename","Sieve"]) (af 1))) (aK (f1 (bF ["Nest"] ["Step","Unnest","Part","Fuse","Rename","Sieve"]) (af 2)))) (aI (xG (oz (aK (cQ "exact" [("Step",(aj ax 2 2)),("Nest",(aj ax 2 2)),("Unnest",(aj bZ 2 2)),("Part",(aj ax 2 2)),("Fuse",(aj ax 2 2)),("Rename",(aj ax 2 2)),("Sieve",(aj bY 2 3))] (af 1) (aa (af 0) ah))) (fB (f2 gEq (f1 (aw "many" ["Nest"]) (af 2)) (fL gA (aa (f2 ak (af 0) (fC (.int 0))) ah))))) (fR (aj fG 2 2) (aa (f1 (aw "name" ["Leaf","Nest","Unnest","Part","Fuse","Sieve"]) (af 1)) (aa (f1 (aw "name" ["Leaf","Nest","Unnest","Part","Fuse","Sieve"]) (af 2)) ah))) (fC .non))) bi) (aI (fC .non)))))))
noncomputable def bR:bK:=av (eN (fB (f2 jp (f1 (aw "name" ["Leaf"]) (af 0)) (af 1))) (cR "NoTable" (aa (fC (.str "no table has this name")) ah)) bi) (aI (f2 sB (af 1) (f1 (aw "name" ["Leaf"]) (af 0))))
noncomputable def cC:bK:=aI (aP (aa (f1 (aw "name" ["Leaf"]) (af 0)) ah))
noncomputable def jm(aF aG:cg):bK:=aI (cQ "names" [("Leaf",(aj cC 1 1)),("Over",aF),("Both",aG)] (f1 (aw "glass" ["Over"]) (af 0)) ah)
noncomputable def jD(aF aG:cg):bK:=aI (f2 bN (cQ "names" [("Leaf",(aj cC 1 1)),("Over",aF),("Both",aG)] (f1 (aw "one" ["Both"]) (af 0)) ah) (cQ "names" [("Leaf",(aj cC 1 1)),("Over",aF),("Both",aG)] (f1 (aw "other" ["Both"]) (af 0)) ah))
mutual
noncomputable def aF:Nat->cg
 |0=>λ_=>un
 |n+1=>aj (jm (aF n) (aG n)) 1 1
noncomputable def aG:Nat->cg
 |0=>λ_=>un
 |n+1=>aj (jD (aF n) (aG n)) 1 1
end
theorem ic(n:Nat):aF (n+1)=aj (jm (aF n) (aG n)) 1 1:=by rw[aF]
theorem jH:∀n:Nat,Ar 1 (aF n)
 |0=>λ_ h=>absurd (by rw[aF]) h
 |n+1=>by rw[ic];exact iB
theorem iw(n:Nat):aG (n+1)=aj (jD (aF n) (aG n)) 1 1:=by rw[aG]
theorem jE:∀n:Nat,Ar 1 (aG n)
 |0=>λ_ h=>absurd (by rw[aG]) h
 |n+1=>by rw[iw];exact iB
noncomputable def bS:bK:=aI (af 1)
noncomputable def jA(bx:cg):bK:=aI (f1 (sj 0) (iF [none] (cE (fR (aj dN 1 1) (aa (af 0) ah))) (gN 0) (fB (f2 gEq (f2 ak (af 0) (fC (.int 0))) (fC (.str "rows")))) (f2 bN (fC (.int 1)) (fR bx (aa (f2 ak (af 0) (fC (.int 1))) ah)))))
noncomputable def bx:Nat->cg
 |0=>λ_=>un
 |n+1=>aj (jA (bx n)) 1 1
theorem gE(n:Nat):bx (n+1)=aj (jA (bx n)) 1 1:=by rw[bx]
theorem ly:∀n:Nat,Ar 1 (bx n)
 |0=>λ_ h=>absurd (by rw[bx]) h
 |n+1=>by rw[gE];exact iB
noncomputable def gX:bK:=aI (lE (uS "int" (af 0)) (ya (uS "bool" (af 0))))
noncomputable def bW:bK:=av (eN (sr (gH (aK (fR (aj gX 1 1) (aa (f1 (aw "many" ["Nest"]) (af 0)) ah)))) (gH (fB (gW wU o5 (fC (.int 1)) (f1 (aw "many" ["Nest"]) (af 0)) (fL gA (aa (f2 ak (af 1) (fC (.int 0))) ah)))))) (cR "NoKey" (aa (fC (.str "some fields of the key must stay without, and some go within")) ah)) bi) (av (aO 2 (gU (f2 ak (af 1) (fC (.int 0))) fe (j9 (f1 (aw "many" ["Nest"]) (af 0))))) (av (eN (fB (f2 uJ (f1 (aw "name" ["Nest"]) (af 0)) (iF [none] (cE (af 2)) (gN 0) eD (f2 ak (af 0) (fC (.int 0)))))) (cR "Twice" (aa (fC (.str "a field of the view's key has the name")) ah)) bi) (av (aO 3 (aP (aa (gU (f2 ak (af 1) (fC (.int 0))) (j9 (f1 (aw "many" ["Nest"]) (af 0))) fe) (aa (f2 ak (af 1) (fC (.int 1))) ah)))) (av (eN (fB (f2 L5 (fR (bx 12) (aa (af 3) ah)) (fC (.int 3)))) (cR "TooMany" (aa (fC (.str "kinds rows would lie more than three within one another")) ah)) bi) (aI (aP (aa (af 2) (aa (aP (aa (aP (aa (f1 (aw "name" ["Nest"]) (af 0)) (aa (aP (aa (fC (.str "rows")) (aa (af 3) (aa (fC (.bl true)) ah)))) ah))) ah)) ah))))))))
noncomputable def bD:bK:=av (aO 2 (fR (aj b9 2 2) (aa (af 1) (aa (fR (aj bO 2 4) (aa (af 1) (aa (f1 (aw "name" ["Unnest"]) (af 0)) ah))) ah)))) (av (eN (sr (fB (f2 qJ (f2 ak (af 2) (fC (.int 0))) (fC (.str "rows")))) (fB (f2 qJ (fL gA (aa (f2 ak (af 1) (fC (.int 1))) ah)) (fC (.int 1))))) (cR "NoKind" (aa (fC (.str "it is no field of rows, or another one is beside it")) ah)) bi) (av (aO 3 (f2 ak (af 1) (fC (.int 0)))) (av (aO 4 (f2 ak (af 2) (fC (.int 1)))) (av (eN (aK (fL vj (aa (iF [none,some 4] (cE (af 3)) (gN 0) eD (f2 uJ (f2 ak (af 0) (fC (.int 0))) (fR (aj cZ 1 1) (aa (af 1) ah)))) ah))) (cR "Twice" (aa (fC (.str "a field within has the name of one of the key")) ah)) bi) (av (eN (fB (f2 L9 (f2 bN (fL gA (aa (af 3) ah)) (fL gA (aa (f2 ak (af 4) (fC (.int 0))) ah))) (fC (.int 8)))) (cR "TooMany" (aa (fC (.str "the key would have more than 8 fields")) ah)) bi) (aI (aP (aa (f2 bN (af 3) (f2 ak (af 4) (fC (.int 0)))) (aa (f2 ak (af 4) (fC (.int 1))) ah)))))))))
noncomputable def bL:bK:=av (aO 3 (fR (aj b9 2 2) (aa (af 1) (aa (af 2) ah)))) (av (aO 4 (fR (aj gC 1 1) (aa (af 1) ah))) (av (eN (fB (f2 qJ (f2 cP (f2 ak (af 3) (fC (.int 1))) (f1 (aw "by" ["Part"]) (af 0))) (fC (.int 0)))) (pp "Torn" ["view"] (aa (aP (aa (fR (aj dM 3 3) (aa (af 4) (aa (af 2) (aa (aP (aa (f2 dE (f2 ak (af 3) (fC (.int 1))) (f1 (aw "by" ["Part"]) (af 0))) (aa (fC (.int 0)) ah))) ah)))) ah)) ah)) bi) (eN (fB (f2 qJ (f2 cP (f2 bN (f2 ak (af 3) (fC (.int 2))) (fC (.int 1))) (f1 (aw "by" ["Part"]) (af 0))) (fC (.int 0)))) (pp "Torn" ["view"] (aa (aP (aa (fR (aj dM 3 3) (aa (af 4) (aa (af 2) (aa (aP (aa (f2 dE (f2 ak (af 3) (fC (.int 2))) (f1 (aw "by" ["Part"]) (af 0))) (aa (f2 pS (f1 (aw "by" ["Part"]) (af 0)) (fC (.int 1))) ah))) ah)))) ah)) ah)) bi)))
noncomputable def bz:bK:=av (eN (fB (f2 gEq (f1 (aw "quotient" ["Part"]) (af 0)) (f1 (aw "rest" ["Part"]) (af 0)))) (cR "Twice" (aa (fC (.str "quotient and rest have one name")) ah)) bi) (eN (sr (aK (fR (aj b6 3 4) (aa (af 1) (aa (f1 (aw "quotient" ["Part"]) (af 0)) (aa (aP (aa (af 2) ah)) ah))))) (aK (fR (aj b6 3 4) (aa (af 1) (aa (f1 (aw "rest" ["Part"]) (af 0)) (aa (aP (aa (af 2) ah)) ah)))))) (cR "Twice" (aa (fC (.str "another field has the name of the quotient or of the rest")) ah)) bi)
noncomputable def bH:bK:=av (aO 2 (fR (aj bO 2 4) (aa (af 1) (aa (f1 (aw "name" ["Part"]) (af 0)) ah)))) (av (aO 3 (fR (aj b9 2 2) (aa (af 1) (aa (af 2) ah)))) (av (eN (sr (fB (f2 qJ (f2 ak (af 3) (fC (.int 0))) (fC (.str "number")))) (gH (fB (gW wU wU (fC (.int 2)) (f1 (aw "by" ["Part"]) (af 0)) (fC (.int 1000000000)))))) (cR "NoKind" (aa (fC (.str "only a number is parted, and by 2 to 10 ** 9")) ah)) bi) (av (qt (cQ "check_names" [("Part",(aj bz 3 3))] (af 0) (aa (af 1) (aa (af 2) ah)))) (av (eN (fB (f2 L5 (fL gA (aa (xG (aK (fR (aj fi 2 2) (aa (af 1) (aa (af 2) ah)))) (f2 ak (af 1) (fC (.int 0))) (f2 ak (af 1) (fC (.int 1)))) ah)) (fC (.int 8)))) (cR "TooMany" (aa (fC (.str "there is no room for one more field")) ah)) bi) (av (qt (cQ "check_ends" [("Part",(aj bL 3 5))] (af 0) (aa (af 1) (aa (af 2) ah)))) (av (aO 4 (aP (aa (fC (.str "number")) (aa (f2 dE (f2 ak (af 3) (fC (.int 1))) (f1 (aw "by" ["Part"]) (af 0))) (aa (f2 dE (f2 ak (af 3) (fC (.int 2))) (f1 (aw "by" ["Part"]) (af 0))) ah))))) (av (aO 5 (aP (aa (fC (.str "number")) (aa (fC (.int 0)) (aa (f2 pS (f1 (aw "by" ["Part"]) (af 0)) (fC (.int 1))) ah))))) (aI (fR (aj aU 3 3) (aa (af 1) (aa (af 2) (aa (aP (aa (aP (aa (f1 (aw "quotient" ["Part"]) (af 0)) (aa (af 4) ah))) (aa (aP (aa (f1 (aw "rest" ["Part"]) (af 0)) (aa (af 5) ah))) ah))) ah))))))))))))
noncomputable def bA:bK:=av (eN (sr (fB (f2 gEq (af 2) (af 3))) (fB (f2 qJ (fR (aj fi 2 2) (aa (af 1) (aa (af 2) ah))) (fR (aj fi 2 2) (aa (af 1) (aa (af 3) ah)))))) (cR "NoKind" (aa (fC (.str "quotient and rest are two fields, both in the key or both not")) ah)) bi) (av (eN (sr (fB (f2 qJ (f2 ak (fR (aj b9 2 2) (aa (af 1) (aa (af 2) ah))) (fC (.int 0))) (fC (.str "number")))) (gH (fB (gW wU wU (fC (.int 2)) (f1 (aw "by" ["Fuse"]) (af 0)) (fC (.int 1000000000)))))) (cR "NoKind" (aa (fC (.str "only numbers are fused, and by 2 to 10 ** 9")) ah)) bi) (eN (fB (f2 qJ (fR (aj b9 2 2) (aa (af 1) (aa (af 3) ah))) (aP (aa (fC (.str "number")) (aa (fC (.int 0)) (aa (f2 pS (f1 (aw "by" ["Fuse"]) (af 0)) (fC (.int 1))) ah)))))) (cR "NoKind" (aa (fC (.str "the rest is no number from 0 to by - 1")) ah)) bi))
noncomputable def bq:bK:=av (aO 2 (fR (aj bO 2 4) (aa (af 1) (aa (f1 (aw "quotient" ["Fuse"]) (af 0)) ah)))) (av (aO 3 (fR (aj bO 2 4) (aa (af 1) (aa (f1 (aw "rest" ["Fuse"]) (af 0)) ah)))) (av (qt (cQ "check_kinds" [("Fuse",(aj bA 4 4))] (af 0) (aa (af 1) (aa (af 2) (aa (af 3) ah))))) (av (eN (aK (fR (aj b6 3 4) (aa (af 1) (aa (f1 (aw "name" ["Fuse"]) (af 0)) (aa (aP (aa (af 2) (aa (af 3) ah))) ah))))) (cR "Twice" (aa (fC (.str "another field has the name")) ah)) bi) (av (aO 4 (fR (aj b9 2 2) (aa (af 1) (aa (af 2) ah)))) (av (aO 5 (aP (aa (fC (.str "number")) (aa (f2 iE (f2 ak (af 4) (fC (.int 1))) (f1 (aw "by" ["Fuse"]) (af 0))) (aa (f2 pS (f2 bN (f2 iE (f2 ak (af 4) (fC (.int 2))) (f1 (aw "by" ["Fuse"]) (af 0))) (f1 (aw "by" ["Fuse"]) (af 0))) (fC (.int 1))) ah))))) (aI (fR (aj aU 3 3) (aa (fR (aj aU 3 3) (aa (af 1) (aa (af 2) (aa (aP (aa (aP (aa (f1 (aw "name" ["Fuse"]) (af 0)) (aa (af 5) ah))) ah)) ah)))) (aa (af 3) (aa (aP ah) ah))))))))))
noncomputable def bC:bK:=av (aO 2 (fR (aj bO 2 4) (aa (af 1) (aa (f1 (aw "old" ["Rename"]) (af 0)) ah)))) (av (eN (fB (f2 uJ (f1 (aw "new" ["Rename"]) (af 0)) (fR (aj cZ 1 1) (aa (af 1) ah)))) (cR "Twice" (aa (fC (.str "there is a field of the new name")) ah)) bi) (aI (fR (aj aU 3 3) (aa (af 1) (aa (af 2) (aa (aP (aa (aP (aa (f1 (aw "new" ["Rename"]) (af 0)) (aa (fR (aj b9 2 2) (aa (af 1) (aa (af 2) ah))) ah))) ah)) ah))))))
noncomputable def bM:bK:=av (aO 2 (fR (aj bO 2 4) (aa (af 1) (aa (f1 (aw "name" ["Sieve"]) (af 0)) ah)))) (av (aO 3 (fR (aj b9 2 2) (aa (af 1) (aa (af 2) ah)))) (av (eN (fB (f2 qJ (f2 ak (af 3) (fC (.int 0))) (f2 ak (f1 (aw "kind" ["Sieve"]) (af 0)) (fC (.int 0))))) (cR "NoKind" (aa (fC (.str "the field's kind is of another sort")) ah)) bi) (av (aO 4 (fR (aj iC 2 2) (aa (af 3) (aa (f1 (aw "kind" ["Sieve"]) (af 0)) ah)))) (av (eN (fB (uV (af 4))) (cR "Nothing" (aa (fC (.str "no value is in both kinds")) ah)) bi) (aI (fR (aj aU 3 3) (aa (af 1) (aa (af 2) (aa (aP (aa (aP (aa (f1 (aw "name" ["Sieve"]) (af 0)) (aa (af 4) ah))) ah)) ah)))))))))
noncomputable def ir(aC aE:cg):bK:=aI (cQ "view_form" [("Step",(aj bS 2 2)),("Nest",(aj bW 2 4)),("Unnest",(aj bD 2 5)),("Part",(aj bH 2 6)),("Fuse",(aj bq 2 6)),("Rename",(aj bC 2 3)),("Sieve",(aj bM 2 5))] (f1 (aw "step" ["Over"]) (af 0)) (aa (cQ "form" [("Leaf",(aj bR 2 2)),("Over",aC),("Both",aE)] (f1 (aw "glass" ["Over"]) (af 0)) (aa (af 1) ah)) ah))
noncomputable def jZ(aC aE:cg):bK:=av (aO 2 (cQ "form" [("Leaf",(aj bR 2 2)),("Over",aC),("Both",aE)] (f1 (aw "one" ["Both"]) (af 0)) (aa (af 1) ah))) (av (aO 3 (cQ "form" [("Leaf",(aj bR 2 2)),("Over",aC),("Both",aE)] (f1 (aw "other" ["Both"]) (af 0)) (aa (af 1) ah))) (av (aO 4 (cQ "names" [("Leaf",(aj cC 1 1)),("Over",(aF 12)),("Both",(aG 12))] (f1 (aw "one" ["Both"]) (af 0)) ah)) (av (eN (aK (fL vj (aa (iF [none,some 4] (cE (cQ "names" [("Leaf",(aj cC 1 1)),("Over",(aF 12)),("Both",(aG 12))] (f1 (aw "other" ["Both"]) (af 0)) ah)) (gN 0) eD (f2 uJ (af 0) (af 1))) ah))) (cR "Twice" (aa (fC (.str "a table is named by both glasses")) ah)) bi) (aI Ba))))
mutual
noncomputable def aC:Nat->cg
 |0=>λ_=>un
 |n+1=>aj (ir (aC n) (aE n)) 2 2
noncomputable def aE:Nat->cg
 |0=>λ_=>un
 |n+1=>aj (jZ (aC n) (aE n)) 2 5
end
theorem fV(n:Nat):aC (n+1)=aj (ir (aC n) (aE n)) 2 2:=by rw[aC]
theorem jT:∀n:Nat,Ar 2 (aC n)
 |0=>λ_ h=>absurd (by rw[aC]) h
 |n+1=>by rw[fV];exact iB
theorem iT(n:Nat):aE (n+1)=aj (jZ (aC n) (aE n)) 2 5:=by rw[aE]
theorem j6:∀n:Nat,Ar 2 (aE n)
 |0=>λ_ h=>absurd (by rw[aE]) h
 |n+1=>by rw[iT];exact iB
noncomputable def cT:bK:=aI (aP ah)
noncomputable def dA:bK:=aI (aP (aa (fC (.str "nest")) (aa (fR (aj cw 1 1) (aa (f1 (aw "many" ["Nest"]) (af 0)) ah)) (aa (f1 (aw "name" ["Nest"]) (af 0)) ah))))
noncomputable def cO:bK:=aI (aP (aa (fC (.str "unnest")) (aa (f1 (aw "name" ["Unnest"]) (af 0)) ah)))
noncomputable def dC:bK:=aI (aP (aa (fC (.str "part")) (aa (f1 (aw "name" ["Part"]) (af 0)) (aa (fR (aj cw 1 1) (aa (f1 (aw "by" ["Part"]) (af 0)) ah)) (aa (f1 (aw "quotient" ["Part"]) (af 0)) (aa (f1 (aw "rest" ["Part"]) (af 0)) ah))))))
noncomputable def dz:bK:=aI (aP (aa (fC (.str "fuse")) (aa (f1 (aw "quotient" ["Fuse"]) (af 0)) (aa (f1 (aw "rest" ["Fuse"]) (af 0)) (aa (fR (aj cw 1 1) (aa (f1 (aw "by" ["Fuse"]) (af 0)) ah)) (aa (f1 (aw "name" ["Fuse"]) (af 0)) ah))))))
noncomputable def cN:bK:=aI (aP (aa (fC (.str "rename")) (aa (f1 (aw "old" ["Rename"]) (af 0)) (aa (f1 (aw "new" ["Rename"]) (af 0)) ah))))
noncomputable def bX:bK:=av (eN (fB (f2 gEq (f2 ak (f1 (aw "kind" ["Sieve"]) (af 0)) (fC (.int 0))) (fC (.str "number")))) (aI (aP (aa (fC (.str "sieve")) (aa (f1 (aw "name" ["Sieve"]) (af 0)) (aa (fR (aj cw 1 1) (aa (f2 ak (f1 (aw "kind" ["Sieve"]) (af 0)) (fC (.int 1))) ah)) (aa (fR (aj cw 1 1) (aa (f2 ak (f1 (aw "kind" ["Sieve"]) (af 0)) (fC (.int 2))) ah)) ah)))))) bi) (aI (f2 bN (aP (aa (fC (.str "keep")) (aa (f1 (aw "name" ["Sieve"]) (af 0)) ah))) (fL eI (aa (iF [none] (cE (f2 ak (f1 (aw "kind" ["Sieve"]) (af 0)) (fC (.int 1)))) (gN 0) eD (fR (aj cw 1 1) (aa (af 0) ah))) ah))))
noncomputable def bQ:bK:=aI (Ei (f2 gEq (cQ "words" [("Step",(aj cT 1 1)),("Nest",(aj dA 1 1)),("Unnest",(aj cO 1 1)),("Part",(aj dC 1 1)),("Fuse",(aj dz 1 1)),("Rename",(aj cN 1 1)),("Sieve",(aj bX 1 1))] (af 1) ah) (aP ah)) (lE (f1 (bF ["Sieve"] ["Step","Nest","Unnest","Part","Fuse","Rename"]) (af 1)) (cQ "exact" [("Step",(aj ax 2 2)),("Nest",(aj ax 2 2)),("Unnest",(aj bZ 2 2)),("Part",(aj ax 2 2)),("Fuse",(aj ax 2 2)),("Rename",(aj ax 2 2)),("Sieve",(aj bY 2 3))] (af 1) (aa (af 0) ah))))
noncomputable def dR(aM:cg):bK:=av (eN (aK (fR (aj bQ 2 2) (aa (cQ "form" [("Leaf",(aj bR 2 2)),("Over",(aC 12)),("Both",(aE 12))] (af 1) (aa (af 0) ah)) (aa (af 2) ah)))) (aI (af 1)) bi) (av (aO 3 (fC .non)) (av (eN (aK (f1 (bF ["Over"] ["Leaf","Both"]) (af 1))) (aO 3 (fR (aj bG 3 3) (aa (cQ "form" [("Leaf",(aj bR 2 2)),("Over",(aC 12)),("Both",(aE 12))] (f1 (aw "glass" ["Over"]) (af 1)) (aa (af 0) ah)) (aa (f1 (aw "step" ["Over"]) (af 1)) (aa (af 2) ah))))) bi) (av (eN (fB (uV (af 3))) (aI (fNew "Over" ["glass","step"] (aa (af 1) (aa (af 2) ah)))) bi) (aI (xG (aK (af 3)) (fR aM (aa (af 0) (aa (f1 (aw "glass" ["Over"]) (af 1)) (aa (f2 ak (af 3) (fC (.int 0))) ah)))) (f1 (aw "glass" ["Over"]) (af 1)))))))
noncomputable def aM:Nat->cg
 |0=>λ_=>un
 |n+1=>aj (dR (aM n)) 3 4
theorem cK(n:Nat):aM (n+1)=aj (dR (aM n)) 3 4:=by rw[aM]
theorem ke:∀n:Nat,Ar 3 (aM n)
 |0=>λ_ h=>absurd (by rw[aM]) h
 |n+1=>by rw[cK];exact iB
noncomputable def pN(dD:cg):bK:=av (eN (aK (f1 (bF ["Over"] ["Leaf","Both"]) (af 1))) (aI (fR (aM 12) (aa (af 0) (aa (fR dD (aa (af 0) (aa (f1 (aw "glass" ["Over"]) (af 1)) ah))) (aa (f1 (aw "step" ["Over"]) (af 1)) ah))))) bi) (av (eN (aK (f1 (bF ["Both"] ["Leaf","Over"]) (af 1))) (aI (fNew "Both" ["one","other","pair"] (aa (fR dD (aa (af 0) (aa (f1 (aw "one" ["Both"]) (af 1)) ah))) (aa (fR dD (aa (af 0) (aa (f1 (aw "other" ["Both"]) (af 1)) ah))) (aa (f1 (aw "pair" ["Both"]) (af 1)) ah))))) bi) (aI (af 1)))
noncomputable def dD:Nat->cg
 |0=>λ_=>un
 |n+1=>aj (pN (dD n)) 2 2
theorem iu(n:Nat):dD (n+1)=aj (pN (dD n)) 2 2:=by rw[dD]
theorem sM:∀n:Nat,Ar 2 (dD n)
 |0=>λ_ h=>absurd (by rw[dD]) h
 |n+1=>by rw[iu];exact iB
noncomputable def iR:bK:=av (qt (cQ "form" [("Leaf",(aj bR 2 2)),("Over",(aC 12)),("Both",(aE 12))] (af 1) (aa (af 0) ah))) (aI (fR (dD 12) (aa (af 0) (aa (af 1) ah))))
noncomputable def ao:bK:=av (aO 3 (fNew "Leaf" ["name"] (aa (af 1) ah))) (av (qc (cE (af 2)) (gN 4) (av (aO 3 (fNew "Over" ["glass","step"] (aa (af 3) (aa (af 4) ah)))) (g7 [4] bi))) (av (aO 5 (fC .non)) (av (vK ["NoTable","NoField","Twice","NoKind","Nothing","NoKey","TooMany","Torn"] (aO 5 (fR (aj iR 2 2) (aa (g5 [(af 1,af 0)]) (aa (af 3) ah)))) (aO 5 (fC .non))) (aI (af 5)))))
noncomputable def aR:bK:=av (eN (fB (f2 gEq (af 2) (af 3))) (aI (fR (aj aX 2 2) (aa (af 0) (aa (af 1) ah)))) bi) (av (eN (sr (gH (aK (f1 (bF ["Over"] ["Leaf","Both"]) (af 0)))) (sr (gH (aK (f1 (bF ["Rename"] ["Step","Nest","Unnest","Part","Fuse","Sieve"]) (f1 (aw "step" ["Over"]) (af 0))))) (gH (aK (fR (aj aX 2 2) (aa (f1 (aw "glass" ["Over"]) (af 0)) (aa (af 1) ah))))))) (aI (fC (.bl false))) bi) (aI (lE (f2 gEq (f1 (aw "old" ["Rename"]) (f1 (aw "step" ["Over"]) (af 0))) (af 2)) (f2 gEq (f1 (aw "new" ["Rename"]) (f1 (aw "step" ["Over"]) (af 0))) (af 3)))))
noncomputable def cq:bK:=av (aO 1 (f2 ak (fg (aa (fC (.int 0)) (aa (EB (fC (.int 12))) (aa (f2 pS (fC (.int 0)) (f2 iE (fC (.int 12)) (f2 cP (f2 qV (af 0) (fC (.int 7))) (f2 qV (fC (.int 10)) (fC (.int 40)))))) (aa (f2 iE (fC (.int 12)) (f2 cP (f2 qV (af 0) (fC (.int 7))) (f2 qV (fC (.int 10)) (fC (.int 40))))) ah))))) (f2 cP (af 0) (fC (.int 4))))) (aI (aP (aa (fC (.str "number")) (aa (af 1) (aa (f2 pS (f2 bN (af 1) (f2 iE (fC (.int 12)) (f2 ak (fg (aa (fC (.int 1)) (aa (fC (.int 2)) (aa (fC (.int 5)) (aa (f2 qV (fC (.int 10)) (fC (.int 40))) ah))))) (f2 cP (f2 dE (af 0) (fC (.int 4))) (fC (.int 4)))))) (fC (.int 1))) ah)))))
noncomputable def dW:bK:=av (aO 4 (f2 bN (f2 ak (af 0) (fC (.int 0))) (aP (aa (aP (aa (f2 ak (af 2) (fC (.int 3))) (aa (aP (aa (fC (.str "number")) (aa (fC (.int 0)) (aa (fC (.int 9)) ah)))) ah))) ah)))) (av (aO 5 (fg (aa (fNew "Nest" ["many","name"] (aa (f2 bN (fC (.int 1)) (f2 cP (af 3) (fL gA (aa (f2 ak (af 0) (fC (.int 0))) ah)))) (aa (f2 ak (af 2) (fC (.int 0))) ah))) (aa (fNew "Unnest" ["name"] (aa (f2 ak (af 2) (fC (.int 0))) ah)) ah)))) (av (eN (gH (aK (fR (aj aX 2 2) (aa (fR (aj ao 3 6) (aa (aP (aa (af 4) (aa (f2 ak (af 0) (fC (.int 1))) ah))) (aa (af 1) (aa (af 5) ah)))) (aa (af 1) ah))))) (aI (fC (.bl false))) bi) (av (aO 6 (aP (aa (aP (aa (aP (aa (f2 ak (af 2) (fC (.int 1))) (aa (aP (aa (fC (.str "word")) (aa (aP (aa (fC (.str "a")) (aa (fC (.str "b")) ah))) ah))) ah))) ah)) (aa (aP (aa (aP (aa (f2 ak (af 2) (fC (.int 2))) (aa (fR (aj cq 1 2) (aa (af 3) ah)) ah))) ah)) ah)))) (av (aO 7 (f2 ak (fg (aa (f2 ak (af 2) (fC (.int 0))) (aa (f2 ak (af 2) (fC (.int 4))) ah))) (f2 cP (f2 dE (af 3) (fC (.int 8))) (fC (.int 2))))) (av (aO 8 (aP (aa (f2 ak (af 0) (fC (.int 0))) (aa (aP (aa (aP (aa (f2 ak (af 2) (fC (.int 0))) (aa (aP (aa (fC (.str "rows")) (aa (af 6) (aa (fC (.bl true)) ah)))) ah))) ah)) ah)))) (av (aO 5 (fg (aa (fNew "Unnest" ["name"] (aa (f2 ak (af 2) (fC (.int 0))) ah)) (aa (fNew "Nest" ["many","name"] (aa (fL gA (aa (f2 ak (af 0) (fC (.int 0))) ah)) (aa (af 7) ah))) ah)))) (aI (fR (aj aR 4 4) (aa (fR (aj ao 3 6) (aa (af 8) (aa (af 1) (aa (af 5) ah)))) (aa (af 1) (aa (f2 ak (af 2) (fC (.int 0))) (aa (af 7) ah))))))))))))
noncomputable def dS:bK:=av (aO 3 (f2 ak (fg (aa (fC (.int 2)) (aa (fC (.int 3)) (aa (fC (.int 4)) (aa (fC (.int 6)) (aa (fC (.int 12)) ah)))))) (f2 cP (af 2) (fC (.int 5))))) (av (aO 4 (aP (aa (aP (aa (aP (aa (f2 ak (af 1) (fC (.int 0))) (aa (aP (aa (fC (.str "number")) (aa (fC (.int 0)) (aa (fC (.int 5)) ah)))) ah))) (aa (aP (aa (f2 ak (af 1) (fC (.int 1))) (aa (fR (aj cq 1 2) (aa (f2 dE (af 2) (fC (.int 5))) ah)) ah))) ah))) (aa (aP ah) ah)))) (av (aO 5 (f2 ak (fg (aa (f2 ak (af 1) (fC (.int 1))) (aa (f2 ak (af 1) (fC (.int 4))) ah))) (f2 cP (f2 dE (af 2) (fC (.int 64))) (fC (.int 2))))) (av (aO 6 (fg (aa (fNew "Part" ["name","by","quotient","rest"] (aa (f2 ak (af 1) (fC (.int 1))) (aa (af 3) (aa (f2 ak (af 1) (fC (.int 2))) (aa (f2 ak (af 1) (fC (.int 3))) ah))))) (aa (fNew "Fuse" ["quotient","rest","by","name"] (aa (f2 ak (af 1) (fC (.int 2))) (aa (f2 ak (af 1) (fC (.int 3))) (aa (af 3) (aa (af 5) ah))))) ah)))) (av (eN (gH (aK (fR (aj aR 4 4) (aa (fR (aj ao 3 6) (aa (af 4) (aa (af 0) (aa (af 6) ah)))) (aa (af 0) (aa (f2 ak (af 1) (fC (.int 1))) (aa (af 5) ah))))))) (aI (fC (.bl false))) bi) (av (aO 7 (aP (aa (aP (aa (f2 ak (af 1) (fC (.int 1))) (aa (fR (aj cq 1 2) (aa (f2 dE (af 2) (fC (.int 7))) ah)) ah))) (aa (aP (aa (f2 ak (af 1) (fC (.int 2))) (aa (aP (aa (fC (.str "number")) (aa (fC (.int 0)) (aa (f2 pS (af 3) (fC (.int 1))) ah)))) ah))) ah)))) (av (aO 6 (fg (aa (fNew "Fuse" ["quotient","rest","by","name"] (aa (f2 ak (af 1) (fC (.int 1))) (aa (f2 ak (af 1) (fC (.int 2))) (aa (af 3) (aa (af 5) ah))))) (aa (fNew "Part" ["name","by","quotient","rest"] (aa (af 5) (aa (af 3) (aa (f2 ak (af 1) (fC (.int 1))) (aa (f2 ak (af 1) (fC (.int 2))) ah))))) ah)))) (av (eN (fB (f2 gEq (f2 cP (f2 dE (af 2) (fC (.int 128))) (fC (.int 2))) (fC (.int 1)))) (aI (fR (aj aX 2 2) (aa (fR (aj ao 3 6) (aa (aP (aa (af 7) (aa (gU (f2 ak (af 4) (fC (.int 0))) fe (j9 (fC (.int 1)))) ah))) (aa (af 0) (aa (af 6) ah)))) (aa (af 0) ah)))) bi) (aI (fR (aj aX 2 2) (aa (fR (aj ao 3 6) (aa (aP (aa (gU (f2 ak (af 4) (fC (.int 0))) fe (j9 (fC (.int 1)))) (aa (af 7) ah))) (aa (af 0) (aa (af 6) ah)))) (aa (af 0) ah)))))))))))
noncomputable def aY:bK:=av (eN (fB (f2 gEq (f2 ak (af 0) (fC (.int 0))) (fC (.str "number")))) (aI (aP (aa (fC (.str "number")) (aa (fL mm (aa (f2 ak (af 0) (fC (.int 1))) (aa (f2 ak (af 1) (fC (.int 1))) ah))) (aa (fL mQ (aa (f2 ak (af 0) (fC (.int 2))) (aa (f2 ak (af 1) (fC (.int 2))) ah))) ah))))) bi) (aI (aP (aa (fC (.str "word")) (aa (fL eI (aa (iF [none,some 1] (cE (f2 ak (af 0) (fC (.int 1)))) (gN 0) (fB (f2 uJ (af 0) (f2 ak (af 1) (fC (.int 1))))) (af 0)) ah)) ah))))
noncomputable def bc:bK:=av (eN (fB (f2 gEq (f2 ak (af 0) (fC (.int 0))) (fC (.str "number")))) (av (aO 2 (f2 dE (f2 bN (f2 ak (af 0) (fC (.int 1))) (f2 ak (af 0) (fC (.int 2)))) (fC (.int 2)))) (av (aO 3 (fg (aa (aP (aa (f2 ak (af 0) (fC (.int 1))) (aa (af 2) ah))) (aa (aP (aa (af 2) (aa (f2 bN (f2 ak (af 0) (fC (.int 2))) (fC (.int 7))) ah))) (aa (aP (aa (f2 pS (f2 ak (af 0) (fC (.int 1))) (fC (.int 5))) (aa (f2 ak (af 0) (fC (.int 2))) ah))) (aa (aP (aa (af 2) (aa (af 2) ah))) ah)))))) (aI (f2 bN (aP (aa (fC (.str "number")) ah)) (f2 ak (af 3) (f2 cP (af 1) (fC (.int 4)))))))) bi) (av (aO 4 (iF [none,none,some 1] (dy (aa (f2 ak (af 0) (fC (.int 1))) ah)) (gT 2 (uH [0,1])) (sr (fB (f2 gEq (af 0) (fC (.int 0)))) (fB (f2 gEq (f2 rm (f2 yS (af 2) (af 0)) (fC (.int 1))) (fC (.int 1))))) (af 1))) (aI (aP (aa (fC (.str "word")) (aa (fL eI (aa (af 4) ah)) ah)))))
noncomputable def de:bK:=av (DN (f2 ak (f2 bN (f2 ak (af 0) (fC (.int 0))) (f2 ak (af 0) (fC (.int 1)))) (f2 cP (af 2) (fL gA (aa (f2 bN (f2 ak (af 0) (fC (.int 0))) (f2 ak (af 0) (fC (.int 1)))) ah)))) (gT 2 (uH [3,4]))) (av (aO 5 (fR (aj bc 2 5) (aa (af 4) (aa (f2 dE (af 2) (fC (.int 8))) ah)))) (av (aO 6 (fR (aj bc 2 5) (aa (fR (aj aY 2 2) (aa (af 4) (aa (af 5) ah))) (aa (f2 dE (af 2) (fC (.int 64))) ah)))) (av (aO 7 (fR (aj ao 3 6) (aa (af 0) (aa (af 1) (aa (fg (aa (fNew "Sieve" ["name","kind"] (aa (af 3) (aa (af 5) ah))) (aa (fNew "Sieve" ["name","kind"] (aa (af 3) (aa (af 6) ah))) ah))) ah))))) (av (eN (fB (f2 gEq (fR (aj aY 2 2) (aa (fR (aj aY 2 2) (aa (af 4) (aa (af 5) ah))) (aa (af 6) ah))) (af 4))) (aI (fR (aj aX 2 2) (aa (af 7) (aa (af 1) ah)))) bi) (av (eN (sr (gH (aK (f1 (bF ["Over"] ["Leaf","Both"]) (af 7)))) (sr (gH (aK (f1 (bF ["Sieve"] ["Step","Nest","Unnest","Part","Fuse","Rename"]) (f1 (aw "step" ["Over"]) (af 7))))) (gH (aK (fR (aj aX 2 2) (aa (f1 (aw "glass" ["Over"]) (af 7)) (aa (af 1) ah))))))) (aI (fC (.bl false))) bi) (av (aO 8 (fR (aj aY 2 2) (aa (af 4) (aa (f1 (aw "kind" ["Sieve"]) (f1 (aw "step" ["Over"]) (af 7))) ah)))) (aI (lE (f2 gEq (f1 (aw "name" ["Leaf","Nest","Unnest","Part","Fuse","Sieve"]) (f1 (aw "step" ["Over"]) (af 7))) (af 3)) (f2 gEq (af 8) (fR (aj aY 2 2) (aa (fR (aj aY 2 2) (aa (af 4) (aa (af 5) ah))) (aa (af 6) ah))))))))))))
noncomputable def du:bK:=av (aO 4 (f2 ak (f2 ak (f2 bN (f2 ak (af 0) (fC (.int 0))) (f2 ak (af 0) (fC (.int 1)))) (f2 cP (af 3) (fL gA (aa (f2 bN (f2 ak (af 0) (fC (.int 0))) (f2 ak (af 0) (fC (.int 1)))) ah)))) (fC (.int 0)))) (av (aO 5 (f2 ak (fg (aa (af 4) (aa (f2 ak (af 2) (fC (.int 1))) ah))) (f2 cP (f2 dE (af 3) (fC (.int 8))) (fC (.int 2))))) (av (aO 6 (fR (aj ao 3 6) (aa (af 0) (aa (af 1) (aa (fg (aa (fNew "Rename" ["old","new"] (aa (af 4) (aa (f2 ak (af 2) (fC (.int 0))) ah))) (aa (fNew "Rename" ["old","new"] (aa (f2 ak (af 2) (fC (.int 0))) (aa (af 5) ah))) ah))) ah))))) (aI (fR (aj aR 4 4) (aa (af 6) (aa (af 1) (aa (af 4) (aa (af 5) ah))))))))
noncomputable def dY:bK:=av (aO 1 (fC (.str "abcdefghijklmnopqrstuvwxyz"))) (av (aO 2 (f2 ak (af 1) (f2 cP (af 0) (fC (.int 26))))) (av (aO 3 (f2 ak (af 1) (f2 cP (f2 dE (af 0) (fC (.int 26))) (fC (.int 26))))) (av (tG 4 (g5 [(f2 rp (af 2) (fC (.int 4)),fC (.bl true))])) (g7 [1] (av (qc (dy (aa (fg (aa (fC (.str "")) (aa (af 2) (aa (af 3) (aa (f2 bN (af 2) (af 3)) (aa (f2 bN (af 3) (af 2)) (aa (f2 rp (af 2) (fC (.int 8))) ah))))))) ah)) (gT 2 (uH [5,6])) (av (eN (fB (f2 gEq (f2 rm (f2 yS (f2 dE (af 0) (fC (.int 676))) (af 5)) (fC (.int 1))) (fC (.int 1)))) (sA 4 (af 6) (fC (.bl true))) bi) (g7 [5,6] bi))) (C9 4 (aI (aP (aa (fC (.str "word")) (aa (fL eI (aa (fL mH (aa (fL pP (aa (af 4) ah)) ah)) ah)) ah))))))))))
noncomputable def bT:bK:=av (eN (fB (f2 o5 (f2 cP (af 0) (fC (.int 8))) (fC (.int 5)))) (aI (fR (aj cq 1 2) (aa (f2 dE (af 0) (fC (.int 8))) ah))) bi) (av (eN (fB (f2 gEq (f2 cP (af 0) (fC (.int 8))) (fC (.int 5)))) (aI (f2 ak (fg (aa (aP (aa (fC (.str "number")) (aa (f2 cP (f2 dE (af 0) (fC (.int 8))) (fC (.int 9))) (aa (f2 cP (f2 dE (af 0) (fC (.int 8))) (fC (.int 9))) ah)))) (aa (aP (aa (fC (.str "word")) (aa (aP (aa (fC (.str "a")) ah)) ah))) ah))) (f2 cP (f2 dE (af 0) (fC (.int 72))) (fC (.int 2))))) bi) (aI (fR (aj dY 1 7) (aa (f2 dE (af 0) (fC (.int 8))) ah))))
noncomputable def cf:bK:=av (tG 5 (fg ah)) (av (qc (gL (aa (f2 bN (af 3) (af 4)) ah)) (gN 6) (av (aO 0 (fR (aj cG 1 1) (aa (af 0) ah))) (av (Iq 5 vn (aa (aP (aa (fR (aj bg 2 7) (aa (af 1) (aa (f2 bN (af 2) (af 6)) ah))) (aa (fR (aj bT 1 1) (aa (af 0) ah)) ah))) ah)) (g7 [6] bi)))) (C9 5 (aI (aP (aa (fL eI (aa (gU (af 5) fe (j9 (af 3))) ah)) (aa (fL eI (aa (gU (af 5) (j9 (af 3)) fe) ah)) ah))))))
noncomputable def oC:bK:=av (aO 1 (f2 cP (f2 iE (fR (aj dg 2 2) (aa (af 0) (aa (fC (.int 1)) ah))) (fC (.int 48271))) (fC (.int 2147483647)))) (av (aO 2 (fR (aj cX 2 3) (aa (af 0) (aa (fC (.int 0)) ah)))) (av (aO 3 (fR (aj cf 5 7) (aa (fR (aj cG 1 1) (aa (af 2) ah)) (aa (af 1) (aa (fC (.int 0)) (aa (f2 bN (fC (.int 1)) (f2 cP (af 2) (fC (.int 4)))) (aa (f2 cP (f2 dE (af 2) (fC (.int 4))) (fC (.int 4))) ah))))))) (av (aO 4 (iF [none,some 1] (gL (aa (fC (.int 5)) ah)) (gN 0) eD (fR (aj bg 2 7) (aa (af 1) (aa (f2 bN (fC (.int 10)) (af 0)) ah))))) (av (aO 5 (fR (aj bg 2 7) (aa (af 1) (aa (fC (.int 20)) ah)))) (g7 [1,2] (av (qc (mz (aa (fC (.int 2)) (aa (fL mQ (aa (fL mm (aa (fL gA (aa (af 0) ah)) (aa (fC (.int 4)) ah))) (aa (fC (.int 12)) ah))) ah))) (gN 6) (av (aO 2 (fR (aj cX 2 3) (aa (af 0) (aa (af 6) ah)))) (av (eN (sr (gH (aK (fR (aj du 4 7) (aa (af 3) (aa (af 5) (aa (af 4) (aa (af 2) ah))))))) (gH (aK (fR (aj de 3 9) (aa (af 3) (aa (af 5) (aa (f2 dE (af 2) (fC (.int 5))) ah))))))) (aI (fC (.bl false))) bi) (av (eN (sr (gH (aK (fR (aj dS 3 8) (aa (af 5) (aa (af 4) (aa (af 2) ah)))))) (gH (aK (fR (aj dW 4 9) (aa (af 3) (aa (af 5) (aa (af 4) (aa (af 2) ah)))))))) (aI (fC (.bl false))) bi) (g7 [2,6] bi))))) (aI (fR (aj aX 2 2) (aa (fR (aj ao 3 6) (aa (af 3) (aa (af 5) (aa (fg (aa (fC (.obj "Step" [] [])) ah)) ah)))) (aa (af 5) ah))))))))))
set_option hygiene false
local macro_rules|`(tactic|ktr_call $p $e)=>`(tactic|((with_reducible show $p);refine $e))
local macro_rules|`(tactic|walk_at "A")=>`(tactic|first|ktr_call (tO _ _ (av _ _)) (yH ?_ ?_)|ktr_call (tO _ _ (g7 _ _)) (zy _ ?_)|ktr_call (tO _ _ (C9 _ _)) (AZ _ ?_)|ktr_call (tO _ _ bi) A9|refine A6 ?_)
local macro_rules|`(tactic|walk_at "B")=>`(tactic|first|ktr_call (XS _ _ (aO _ (iF _ _ _ _ _))) (QG (by first|assumption|exact vR rfl) rfl (by first|exact kU rfl|exact jy rfl) ?_ ?_)|ktr_call (XS _ _ (aO _ _)) (xs _ (by first|assumption|exact vR rfl) ?_)|ktr_call (XS _ _ (aI _)) (Fo ?_)|ktr_call (XS _ _ (eN _ _ _)) (Jh ?_ ?_ ?_)|ktr_call (XS _ _ (cR _ _)) (z8 rfl (by walk_at "a") rfl ?_)|ktr_call (XS _ _ (qc _ _ _)) (FJ hp rfl ?_ ?_ ?_)|ktr_call (XS _ _ (qt _)) (BX ?_)|ktr_call (XS _ _ (tG _ (iF _ _ _ _ _))) (QT (by first|assumption|exact vR rfl) rfl (by first|exact kU rfl|exact jy rfl) ?_ ?_)|ktr_call (XS _ _ (tG _ _)) (EV (by first|assumption|exact vR rfl) rfl (by first|exact Or.inl rfl|exact Or.inr rfl) ?_)|ktr_call (XS _ _ (pp _ _ _)) (xx rfl rfl (by walk_at "a") hr ‹0› rfl ?_)|ktr_call (XS _ _ (DN _ _)) (EL ?_ ?_)|ktr_call (XS _ _ (Iq _ vn _)) (IW PySem.F.slot_list_append PySem.F.type_list_append rE yW (xv _) ?_)|ktr_call (XS _ _ (sA _ _ _)) (CQ hr.units (xv _) ?_ ?_)|ktr_call (XS _ _ (vK _ _ _)) (BO rfl rfl rfl (fun _=>rfl) (by walk_at "a") rfl (fun E' pn hp=>?_) (fun A' pn hA hU=>?_))|ktr_call (XS _ _ bi) BW|ktr_call (XS _ _ bi) D6)
local macro_rules|`(tactic|walk_at "C")=>`(tactic|first|ktr_call (XT _ _ (aK _)) (zB ?_)|ktr_call (XT _ _ (fB (f2 gEq _ _))) (gK (Dj hr.units) bU ?_ ?_ (gD _))|ktr_call (XT _ _ (gH _)) (Es ?_)|ktr_call (XT _ _ (sr _ _)) (Pb ?_)|ktr_call (XT _ _ (fB (f2 qJ _ _))) (gK (By hr.units) bU ?_ ?_ (gD _))|ktr_call (XT _ _ (oz _ _)) (Pb ?_)|ktr_call (XT _ _ (fB (f2 uJ _ _))) (gK (Bu hr.units) bU ?_ ?_ rfl)|ktr_call (XT _ _ (fB (gW wU o5 _ _ _))) (rZ oG cS (ua hr.units) bU ?_ ?_ ?_)|ktr_call (XT _ _ (fB (gW wU wU _ _ _))) (rZ oG cS oG cS ?_ ?_ ?_)|ktr_call (XT _ _ (fB (f2 L5 _ _))) (gK FY cS ?_ ?_ (gD _))|ktr_call (XT _ _ (fB (uV _))) (E7 ?_)|ktr_call (XT _ _ (fB (f2 o5 _ _))) (gK (ua hr.units) bU ?_ ?_ (gD _))|ktr_call (XT _ _ (fB (f2 wU _ _))) (gK oG cS ?_ ?_ (gD _))|ktr_call (XT _ _ (fB (f2 L9 _ _))) (gK Ga cS ?_ ?_ (gD _))|ktr_call (XT _ _ (fB (f2 jp _ _))) (gK (rG hr.units) bU ?_ ?_ rfl)|ktr_call (XT _ _ (fB (f2 iz _ _))) (gK (sF hr.units) bU ?_ ?_ rfl))
local macro_rules|`(tactic|walk_at "D")=>`(tactic|first|ktr_call (XW _ _ (oz _ _)) (Fw ?_ ?_)|ktr_call (XW _ _ (sr _ _)) (Ih ?_ ?_)|refine Bx ?_|refine E5 ?_)
local macro_rules|`(tactic|walk_at "F")=>`(tactic|first|ktr_call (XI _ _ _ (cE _)) (FL ?_)|ktr_call (XI _ _ _ (dy _)) (qP rfl (by walk_at "a") ?_)|ktr_call (XI _ _ _ (gL _)) (wV rfl (by walk_at "a") ?_)|ktr_call (XI _ _ _ (mz _)) (vX rfl (by walk_at "a") ?_))
local macro_rules|`(tactic|walk_at "L")=>`(tactic|first|ktr_call (XN _ _ (fg _)) (Eh ?_)|ktr_call (XN _ _ (iF _ _ _ _ _)) (QY rfl (by first|exact kU rfl|exact jy rfl) ?_ ?_)|ktr_call (XN _ _ (g5 [_])) (zC ?_ ?_))
local macro_rules|`(tactic|walk_at "M")=>`(tactic|first|with_reducible refine FC ?_|ktr_call (XE _ _ (af _)) (xw _)|ktr_call (XE _ _ (fC .non)) D5|ktr_call (XE _ _ (fC (.int _))) Dz|ktr_call (XE _ _ (fC (.int _))) (CJ rfl (by walk_at "a"))|ktr_call (XE _ _ (f1 (aw _ _) _)) (EF (by walk_at "a") ?_)|ktr_call (XE _ _ (f2 ak _ _)) (xi ?_ ?_)|ktr_call (XE _ _ (fR _ _)) (wM (by walk_at "a") (by first|exact iB|walk_at "a") hr ‹0› ?_)|ktr_call (XE _ _ (aP _)) (DT ?_)|ktr_call (XE _ _ (fC (.str _))) Fu|ktr_call (XE _ _ (f2 gEq _ _)) (gJ (Dj hr.units) bU ?_ ?_ (gD _))|ktr_call (XE _ _ (f2 cP _ _)) (gI HW HL ?_ ?_)|ktr_call (XE _ _ (f2 bN _ _)) (gI DQ bU ?_ ?_)|ktr_call (XE _ _ (f2 dE _ _)) (gI Ci G4 ?_ ?_)|ktr_call (XE _ _ (fg _)) (DZ ?_)|ktr_call (XE _ _ (f1 (bF _ _) _)) (Ds (by walk_at "a") rfl (by walk_at "a") rfl ?_)|ktr_call (XE _ _ (fNew _ _ _)) (EZ (by walk_at "a") hr ‹0› rfl ?_)|ktr_call (XE _ _ (cQ _ _ _ (aa _ _))) (BP (by walk_at "a") hr ‹0› ?_ ?_)|ktr_call (XE _ _ (cQ _ _ _ ah)) (zi (by walk_at "a") hr ‹0› ?_)|ktr_call (XE _ _ (f2 qJ _ _)) (gJ (By hr.units) bU ?_ ?_ (gD _))|ktr_call (XE _ _ (fL gA _)) (iG zO rfl (by walk_at "a") PySem.boot_len ?_)|ktr_call (XE _ _ (fC (.bl _))) Iw|ktr_call (XE _ _ (xG _ _ _)) (Hy ?_ ?_ ?_)|ktr_call (XE _ _ (iF _ _ _ _ _)) (xl rfl (by first|exact kU rfl|exact jy rfl) ?_ ?_)|ktr_call (XE _ _ (f2 pS _ _)) (gI GI Hk ?_ ?_)|ktr_call (XE _ _ (fL eI _)) (lJ vt rfl (by walk_at "a") PyProof.Rows.boot_tuple ?_)|ktr_call (XE _ _ (f2 iE _ _)) (gI AW AR ?_ ?_)|ktr_call (XE _ _ (f2 uJ _ _)) (gJ (Bu hr.units) bU ?_ ?_ rfl)|ktr_call (XE _ _ (gU _ _ _)) (As ?_ ?_ ?_)|ktr_call (XE _ _ (f2 qV _ _)) (gI Iz HS ?_ ?_)|ktr_call (XE _ _ (lE _ _)) (EK ?_ ?_)|ktr_call (XE _ _ (gW wU o5 _ _ _)) (rK oG cS (ua hr.units) bU ?_ ?_ ?_)|ktr_call (XE _ _ (gW wU wU _ _ _)) (rK oG cS oG cS ?_ ?_ ?_)|ktr_call (XE _ _ (fL mm _)) (iG (wO rfl) rfl (by walk_at "a") PyProof.Rows.boot_max ?_)|ktr_call (XE _ _ (fL mQ _)) (iG (wq rfl) rfl (by walk_at "a") PyProof.Rows.boot_min ?_)|ktr_call (XE _ _ (f2 yS _ _)) (gI HF Ia ?_ ?_)|ktr_call (XE _ _ (f2 rm _ _)) (gI G5 Jm ?_ ?_)|ktr_call (XE _ _ (f2 rp _ _)) (gI Fv bU ?_ ?_)|ktr_call (XE _ _ (f2 L5 _ _)) (gJ FY cS ?_ ?_ (gD _))|ktr_call (XE _ _ (uV _)) (Ew ?_)|ktr_call (XE _ _ (g5 [_])) (zY ?_ ?_)|ktr_call (XE _ _ (g5 [_, _])) (z9 ?_ ?_ ?_ ?_)|ktr_call (XE _ _ (g5 [_, _, _])) (zT ?_ ?_ ?_ ?_ ?_ ?_)|ktr_call (XE _ _ (uS "int" _)) (tK CN rfl (by walk_at "a") rfl (by walk_at "a") PyProof.Rows.boot_int ?_)|ktr_call (XE _ _ (uS "bool" _)) (tK yT rfl (by walk_at "a") rfl (by walk_at "a") PyProof.Rows.boot_bool ?_)|ktr_call (XE _ _ (uS "str" _)) (tK AV rfl (by walk_at "a") rfl (by walk_at "a") U7 ?_)|ktr_call (XE _ _ (fL vj _)) (iG (zJ rfl) rfl (by walk_at "a") PyProof.Rows.boot_any ?_)|ktr_call (XE _ _ (fC (.obj _ _ _))) (B8 (by walk_at "a") rfl)|ktr_call (XE _ _ (f2 o5 _ _)) (gJ (ua hr.units) bU ?_ ?_ (gD _))|ktr_call (XE _ _ (f2 wU _ _)) (gJ oG cS ?_ ?_ (gD _))|ktr_call (XE _ _ (f2 L9 _ _)) (gJ Ga cS ?_ ?_ (gD _))|ktr_call (XE _ _ (f2 jp _ _)) (gJ (rG hr.units) bU ?_ ?_ rfl)|ktr_call (XE _ _ (ya _)) (Fl ?_)|ktr_call (XE _ _ (EB _)) (Em ?_)|ktr_call (XE _ _ (Ei _ _)) (GK ?_ ?_)|ktr_call (XE _ _ (f2 sB _ _)) (Cw hr.units ?_ ?_ (fun _ _=>rfl))|ktr_call (XE _ _ (f1 (sj _) _)) (AO rfl rfl (by walk_at "a") ?_)|ktr_call (XE _ _ (fL mH _)) (iG tT rfl (by walk_at "a") ug ?_)|ktr_call (XE _ _ (fL pP _)) (lJ (wz rfl) rfl (by walk_at "a") PyProof.Rows.boot_list ?_)|ktr_call (XE _ _ (f2 iz _ _)) (gJ (sF hr.units) bU ?_ ?_ rfl)|ktr_call (XE _ _ (fL Bf _)) (lJ zW rfl (by walk_at "a") U7 ?_)|ktr_call (XE _ _ Ba) Bi)
local macro_rules|`(tactic|walk_at "d")=>`(tactic|((first|((with_reducible show XE _ _ _);walk_at "M")|((with_reducible show XA _ _ _);first|ktr_call (XA _ _ (aa _ _)) (pW ?_ ?_)|ktr_call (XA _ _ ah) xM)|((with_reducible show XS _ _ _);walk_at "B")|((with_reducible show tO _ _ _);walk_at "A")|((with_reducible show XT _ _ _);walk_at "C")|((with_reducible show XW _ _ _);walk_at "D")|((with_reducible show XI _ _ _ _);walk_at "F")|((with_reducible show XG _ _ _);first|ktr_call (XG _ _ (gN _)) (Ct (by first|assumption|exact vR rfl) rfl (by first|exact Or.inl rfl|exact Or.inr rfl))|ktr_call (XG _ _ (gT _ _)) (Fg rfl ?_))|((with_reducible show GV _ _ _);first|ktr_call (GV _ _ (uH (_ :: _))) (Af ?_ ?_)|ktr_call (GV _ _ (uH [])) AU)|((with_reducible show XO _ _ _);first|ktr_call (XO _ _ fe) Dk|ktr_call (XO _ _ (j9 _)) (BJ ?_))|((with_reducible show KZ _ _ _);first|ktr_call (KZ _ _ eD) CZ|refine CB ?_)|((with_reducible show qT _ _ _ _ _ _ _ _ _);first|refine ⟨fun _ _ _ _ _ _=>⟨?_, ?_, ?_⟩⟩)|((with_reducible show XN _ _ _);walk_at "L"))<;>walk_at "d"))
local macro_rules | `(tactic| walk_at "a") => `(tactic| first | assumption | exact q.2 | exact q.1.2 | exact q.1.1.2 | exact q.1.1.1.2 | exact q.1.1.1.1.2 | exact q.1.1.1.1.1.2 | exact q.1.1.1.1.1.1.2 | exact q.1.1.1.1.1.1.1.2 | (replace q := q.1.1.1.1.1.1.1.1; walk_at "a") | exact q.1 | exact q.1.1 | exact q.1.1.1 | exact q.1.1.1.1 | exact q.1.1.1.1.1 | exact q.1.1.1.1.1.1 | exact q.1.1.1.1.1.1.1)
local macro_rules | `(tactic| walk_at "b") => `(tactic| (intro us hl _ _ _ _ _ _; first | (obtain ⟨a, rfl⟩ := Ka hl; rfl) | (obtain ⟨a, b, rfl⟩ := CY hl; rfl) | (obtain ⟨a, b, c, rfl⟩ := zL hl; rfl) | (obtain ⟨a, b, c, d, rfl⟩ := Jg hl; rfl) | (obtain ⟨a, b, c, d, e, rfl⟩ := HN hl; rfl)))
local macro_rules | `(tactic| walk_at "m") => `(tactic| ((· walk_at "a"); (· walk_at "b"); (· exact ‹2›); first | refine fun nd f => ⟨fun cdv A outer s H E hr hp => ?_⟩ | intro nd f A outer s H E hr hp))
local macro_rules | `(tactic| ktn_call $m $b:ident) => `(tactic| ((first | (apply K4 $m; walk_at "m") | (apply Kk $m; walk_at "m")); unfold $b; walk_at "d"))
local macro_rules | `(tactic| walk_at "t") => `(tactic| first | exact Fq | (refine BI (MethAt.mono (by walk_at "a") (by first | decide | omega)) (by first | exact iB | walk_at "a") ?_; walk_at "t"))
section
variable{u:U}
noncomputable def Q0(u:U):Prop:=((((((((((((((((((((((((((((((((((((((((((((((((((((((((((((((((((((((((((((((((((((((((Mz u (Mz u (Zs u ["isinstance","tuple","enumerate","max","min","len","int","bool","any","str","range","sorted","list"]) [("_law_is_leaf",top 72),("renamed",top 58),("kind_at",top 32),("names_of",top 21),("place_of",top 22),("both_words",top 16),("both_numbers",top 15),("both",top 14),("is_behind",top 60),("same_parts",top 59),("instead",top 57),("kinds_of",top 13),("depth_of",top 23),("is_whole",top 12),("replaced",top 34),("in_key",top 33),("with_fields",top 35),("least",top 17),("least_row",top 30),("named_elsewhere",top 36),("written",top 39),("is_idle",top 56),("laid_over",top 55),("thin",top 54),("thinned",top 53),("_law_thinned",top 74),("_law_is_rename",top 73),("_law_twelves",top 66),("_law_nests",top 78),("_law_parts",top 77)]) [("_law_in_both",top 70),("_law_sieve_kind",top 71),("_law_sieves",top 76),("_law_renames",top 75),("_law_next",top 63),("_law_cell_at",top 62),("_law_seed",top 64),("_law_name",top 65),("_law_words",top 67),("_law_leaf_kind",top 68),("_law_leaf_form",top 69)])/\∃t,u.mg "MOST_WITHIN"=some (.int 3 t))/\∃t,u.mg "MOST_FIELDS"=some (.int 8 t))/\∃t,u.mg "LEAST_BY"=some (.int 2 t))/\∃t,u.mg "MOST_BY"=some (.int 1000000000 t))/\bj u.K "name" ["Leaf","Nest","Unnest","Part","Fuse","Sieve"])/\bj u.K "name" ["Unnest"])/\bj u.K "name" ["Sieve"])/\bj u.K "kind" ["Sieve"])/\bj u.K "rest" ["Part","Fuse"])/\bj u.K "quotient" ["Part","Fuse"])/\bj u.K "by" ["Part","Fuse"])/\bj u.K "new" ["Rename"])/\bj u.K "old" ["Rename"])/\bj u.K "many" ["Nest"])/\bj u.K "name" ["Leaf"])/\bj u.K "glass" ["Over"])/\bj u.K "one" ["Both"])/\bj u.K "other" ["Both"])/\bj u.K "name" ["Nest"])/\bj u.K "by" ["Part"])/\bj u.K "quotient" ["Part"])/\bj u.K "rest" ["Part"])/\bj u.K "name" ["Part"])/\bj u.K "by" ["Fuse"])/\bj u.K "quotient" ["Fuse"])/\bj u.K "rest" ["Fuse"])/\bj u.K "name" ["Fuse"])/\bj u.K "step" ["Over"])/\bj u.K "pair" ["Both"])/\dj u.P u.w u.K u.mg u.base 1 "Rename" ["self","old","new"] ["old","new"])/\dj u.P u.w u.K u.mg u.base 1 "Sieve" ["self","name","kind"] ["name","kind"])/\dj u.P u.w u.K u.mg u.base 1 "Over" ["self","glass","step"] ["glass","step"])/\dj u.P u.w u.K u.mg u.base 1 "Both" ["self","one","other","pair"] ["one","other","pair"])/\dj u.P u.w u.K u.mg u.base 1 "Leaf" ["self","name"] ["name"])/\dj u.P u.w u.K u.mg u.base 1 "Unnest" ["self","name"] ["name"])/\dj u.P u.w u.K u.mg u.base 1 "Nest" ["self","many","name"] ["many","name"])/\dj u.P u.w u.K u.mg u.base 1 "Fuse" ["self","quotient","rest","by","name"] ["quotient","rest","by","name"])/\dj u.P u.w u.K u.mg u.base 1 "Part" ["self","name","by","quotient","rest"] ["name","by","quotient","rest"])/\AF u.K u.mg "Step")/\fj u.K u.mg "Leaf" ["Leaf"] ["Over","Both"])/\fj u.K u.mg "Rename" ["Rename"] ["Step","Nest","Unnest","Part","Fuse","Sieve"])/\fj u.K u.mg "Sieve" ["Sieve"] ["Step","Nest","Unnest","Part","Fuse","Rename"])/\fj u.K u.mg "Part" ["Part"] ["Step","Nest","Unnest","Fuse","Rename","Sieve"])/\fj u.K u.mg "Fuse" ["Fuse"] ["Step","Nest","Unnest","Part","Rename","Sieve"])/\fj u.K u.mg "Nest" ["Nest"] ["Step","Unnest","Part","Fuse","Rename","Sieve"])/\fj u.K u.mg "Unnest" ["Unnest"] ["Step","Nest","Part","Fuse","Rename","Sieve"])/\fj u.K u.mg "Over" ["Over"] ["Leaf","Both"])/\fj u.K u.mg "Both" ["Both"] ["Leaf","Over"])/\pC u.P u.w u.K u.mg u.base 1 "Torn" ["self","view"] ["view"])/\ExcAt u.K u.mg "NoField")/\ExcAt u.K u.mg "NoTable")/\ExcAt u.K u.mg "NoKey")/\ExcAt u.K u.mg "Twice")/\ExcAt u.K u.mg "TooMany")/\ExcAt u.K u.mg "NoKind")/\ExcAt u.K u.mg "Nothing")/\uW u.K u.mg "GlassError" ["NoTable","NoField","Twice","NoKind","Nothing","NoKey","TooMany","Torn"])/\Dm u "Nest" "exact" "Step.exact" (inClass (top 38) 4))/\Dm u "Part" "exact" "Step.exact" (inClass (top 38) 4))/\Dm u "Fuse" "exact" "Step.exact" (inClass (top 38) 4))/\Dm u "Rename" "exact" "Step.exact" (inClass (top 38) 4))/\Dm u "Step" "exact" "Step.exact" (inClass (top 38) 4))/\Dm u "Unnest" "exact" "Unnest.exact" (inClass (top 42) 5))/\Dm u "Sieve" "exact" "Sieve.exact" (inClass (top 51) 5))/\Dm u "Leaf" "form" "Leaf.form" (inClass (top 26) 2))/\Dm u "Leaf" "names" "Leaf.names" (inClass (top 26) 1))/\Dm u "Over" "names" "Over.names" (inClass (top 27) 1))/\Dm u "Both" "names" "Both.names" (inClass (top 28) 1))/\Dm u "Step" "view_form" "Step.view_form" (inClass (top 38) 1))/\Dm u "Nest" "view_form" "Nest.view_form" (inClass (top 41) 2))/\Dm u "Unnest" "view_form" "Unnest.view_form" (inClass (top 42) 2))/\Dm u "Part" "check_ends" "Part.check_ends" (inClass (top 46) 4))/\Dm u "Part" "check_names" "Part.check_names" (inClass (top 46) 3))/\Dm u "Part" "view_form" "Part.view_form" (inClass (top 46) 2))/\Dm u "Fuse" "check_kinds" "Fuse.check_kinds" (inClass (top 47) 3))/\Dm u "Fuse" "view_form" "Fuse.view_form" (inClass (top 47) 2))/\Dm u "Rename" "view_form" "Rename.view_form" (inClass (top 49) 2))/\Dm u "Sieve" "view_form" "Sieve.view_form" (inClass (top 51) 2))/\Dm u "Over" "form" "Over.form" (inClass (top 27) 2))/\Dm u "Both" "form" "Both.form" (inClass (top 28) 2))/\Dm u "Step" "words" "Step.words" (inClass (top 38) 0))/\Dm u "Nest" "words" "Nest.words" (inClass (top 41) 1))/\Dm u "Unnest" "words" "Unnest.words" (inClass (top 42) 1))/\Dm u "Part" "words" "Part.words" (inClass (top 46) 1))/\Dm u "Fuse" "words" "Fuse.words" (inClass (top 47) 1))/\Dm u "Rename" "words" "Rename.words" (inClass (top 49) 1))/\Dm u "Sieve" "words" "Sieve.words" (inClass (top 51) 1))
noncomputable def Q1(u:U):Prop:=Q0 u/\Ca u 1 "_law_is_leaf" ["_law_found","_law_name_here"] (aj aX 2 2)
theorem e1(q:Q0 u):Q1 u:=⟨q,(by ktn_call [] aX)⟩
noncomputable def Q2(u:U):Prop:=Q1 u/\Ca u 3 "renamed" ["old","new"] (aj fG 2 2)
theorem e2(q:Q1 u):Q2 u:=⟨q,(by ktn_call [] fG)⟩
noncomputable def Q3(u:U):Prop:=((((Q2 u/\Ma u 1 "Nest" "exact" ["self","form"] (aj ax 2 2))/\Ma u 1 "Part" "exact" ["self","form"] (aj ax 2 2))/\Ma u 1 "Fuse" "exact" ["self","form"] (aj ax 2 2))/\Ma u 1 "Rename" "exact" ["self","form"] (aj ax 2 2))/\Ma u 1 "Step" "exact" ["self","form"] (aj ax 2 2)
theorem e3(q:Q2 u):Q3 u:=⟨⟨⟨⟨⟨q,(by ktn_call [] ax)⟩,(by ktn_call [] ax)⟩,(by ktn_call [] ax)⟩,(by ktn_call [] ax)⟩,(by ktn_call [] ax)⟩
noncomputable def Q4(u:U):Prop:=Q3 u/\Ca u 1 "kind_at" ["form","place"] (aj b9 2 2)
theorem e4(q:Q3 u):Q4 u:=⟨q,(by ktn_call [] b9)⟩
noncomputable def Q5(u:U):Prop:=Q4 u/\Ca u 1 "names_of" ["form"] (aj cZ 1 1)
theorem e5(q:Q4 u):Q5 u:=⟨q,(by ktn_call [] cZ)⟩
noncomputable def Q6(u:U):Prop:=Q5 u/\Ca u 2 "place_of" ["form","name"] (aj bO 2 4)
theorem e6(q:Q5 u):Q6 u:=⟨q,(by ktn_call ["place","other"] bO)⟩
noncomputable def Q7(u:U):Prop:=Q6 u/\Ma u 3 "Unnest" "exact" ["self","form"] (aj bZ 2 2)
theorem e7(q:Q6 u):Q7 u:=⟨q,(by ktn_call [] bZ)⟩
noncomputable def Q8(u:U):Prop:=Q7 u/\Ca u 1 "both_words" ["one","other"] (aj fw 2 3)
theorem e8(q:Q7 u):Q8 u:=⟨q,(by ktn_call ["words"] fw)⟩
noncomputable def Q9(u:U):Prop:=Q8 u/\Ca u 1 "both_numbers" ["one","other"] (aj dJ 2 4)
theorem e9(q:Q8 u):Q9 u:=⟨q,(by ktn_call ["low","high"] dJ)⟩
noncomputable def MR(u:U):Prop:=Q9 u/\Ca u 2 "both" ["one","other"] (aj iC 2 2)
theorem e10(q:Q9 u):MR u:=⟨q,(by ktn_call [] iC)⟩
noncomputable def NS(u:U):Prop:=MR u/\Ma u 3 "Sieve" "exact" ["self","form"] (aj bY 2 3)
theorem Kr(q:MR u):NS u:=⟨q,(by ktn_call ["kind"] bY)⟩
noncomputable def Nc(u:U):Prop:=NS u/\Ca u 3 "is_behind" ["form","fuse"] (aj fZ 2 2)
theorem Qt(q:NS u):Nc u:=⟨q,(by ktn_call [] fZ)⟩
noncomputable def Nw(u:U):Prop:=Nc u/\Ca u 1 "same_parts" ["one","other"] (aj cU 2 2)
theorem QK(q:Nc u):Nw u:=⟨q,(by ktn_call [] cU)⟩
noncomputable def M2(u:U):Prop:=Nw u/\Ta u 3 "exact" ["self","form"] [("Step",(aj ax 2 2)),("Nest",(aj ax 2 2)),("Unnest",(aj bZ 2 2)),("Part",(aj ax 2 2)),("Fuse",(aj ax 2 2)),("Rename",(aj ax 2 2)),("Sieve",(aj bY 2 3))]
theorem Qh(q:Nw u):M2 u:=⟨q,(by walk_at "t")⟩
noncomputable def MT(u:U):Prop:=M2 u/\Ca u 4 "instead" ["form","lower","upper"] (aj bG 3 3)
theorem P4(q:M2 u):MT u:=⟨q,(by ktn_call [] bG)⟩
noncomputable def M5(u:U):Prop:=MT u/\Ma u 1 "Leaf" "form" ["self","forms"] (aj bR 2 2)
theorem QU(q:MT u):M5 u:=⟨q,(by ktn_call [] bR)⟩
noncomputable def Ms(u:U):Prop:=M5 u/\Ma u 1 "Leaf" "names" ["self"] (aj cC 1 1)
theorem Ri(q:M5 u):Ms u:=⟨q,(by ktn_call [] cC)⟩
theorem gZ(q:Ms u):∀n:Nat,Ma u (1+n) "Over" "names" ["self"] (aF n)/\Ma u (1+n) "Both" "names" ["self"] (aG n)
 |0=>by
  rw[aF];rw[aG];exact⟨Fy (by walk_at "a") (by walk_at "b"),Fy (by walk_at "a") (by walk_at "b")⟩
 |n+1=>by
  have ih:=gZ q n;have c0:=ih.1;have c1:=ih.2;have a0:=jH n;have a1:=jE n;have t0:Ta u (1+n) "names" ["self"] [("Leaf",(aj cC 1 1)),("Over",aF n),("Both",aG n)]:=by walk_at "t"
  rw[ic];rw[iw];refine⟨?_,?_⟩
  ·apply Kk (k:=1+n) [];walk_at "m";unfold jm;walk_at "d"
  ·apply Kk (k:=1+n) [];walk_at "m";unfold jD;walk_at "d"
noncomputable def M3(u:U):Prop:=(((Ms u/\Ma u (13) "Over" "names" ["self"] (aF 12))/\Ma u (13) "Both" "names" ["self"] (aG 12))/\Ar 1 (aF 12))/\Ar 1 (aG 12)
theorem Qs(q:Ms u):M3 u:=⟨⟨⟨⟨q,(gZ q 12).1⟩,(gZ q 12).2⟩,jH 12⟩,jE 12⟩
noncomputable def Nh(u:U):Prop:=M3 u/\Ma u 1 "Step" "view_form" ["self","form"] (aj bS 2 2)
theorem QI(q:M3 u):Nh u:=⟨q,(by ktn_call [] bS)⟩
noncomputable def Mj(u:U):Prop:=Nh u/\Ca u 1 "kinds_of" ["form"] (aj dN 1 1)
theorem e20(q:Nh u):Mj u:=⟨q,(by ktn_call [] dN)⟩
theorem mM(q:Mj u):∀n:Nat,Ca u (1+n) "depth_of" ["form"] (bx n)
 |0=>by
  rw[bx];exact Mf (by walk_at "a") (by walk_at "b")
 |n+1=>by
  have ih:=mM q n;have c0:=ih;have a0:=ly n;rw[gE];apply K4 (k:=1+n) [];walk_at "m";unfold jA;walk_at "d"
noncomputable def NY(u:U):Prop:=(Mj u/\Ca u (13) "depth_of" ["form"] (bx 12))/\Ar 1 (bx 12)
theorem Qi(q:Mj u):NY u:=⟨⟨q,(mM q 12)⟩,ly 12⟩
noncomputable def MH(u:U):Prop:=NY u/\Ca u 1 "is_whole" ["value"] (aj gX 1 1)
theorem Qn(q:NY u):MH u:=⟨q,(by ktn_call [] gX)⟩
noncomputable def NC(u:U):Prop:=MH u/\Ma u 14 "Nest" "view_form" ["self","form"] (aj bW 2 4)
theorem Rc(q:MH u):NC u:=⟨q,(by ktn_call ["key","inner"] bW)⟩
noncomputable def ND(u:U):Prop:=NC u/\Ma u 3 "Unnest" "view_form" ["self","form"] (aj bD 2 5)
theorem Qu(q:NC u):ND u:=⟨q,(by ktn_call ["kind","key","inner"] bD)⟩
noncomputable def MV(u:U):Prop:=ND u/\Ca u 1 "replaced" ["values","place","others"] (aj dM 3 3)
theorem QL(q:ND u):MV u:=⟨q,(by ktn_call [] dM)⟩
noncomputable def N6(u:U):Prop:=MV u/\Ca u 1 "in_key" ["form","place"] (aj fi 2 2)
theorem PV(q:MV u):N6 u:=⟨q,(by ktn_call [] fi)⟩
noncomputable def Mu(u:U):Prop:=N6 u/\Ca u 2 "with_fields" ["form","place","fields"] (aj aU 3 3)
theorem QD(q:N6 u):Mu u:=⟨q,(by ktn_call [] aU)⟩
theorem sC(q:Mu u):∀n:Nat,Ca u (1+n) "least" ["kind"] (cV n)
 |0=>by
  rw[cV];exact Mf (by walk_at "a") (by walk_at "b")
 |n+1=>by
  have ih:=sC q n;have c0:=ih;have a0:=qw n;rw[gG];apply K4 (k:=1+n) [];walk_at "m";unfold mr;walk_at "d"
noncomputable def Oo(u:U):Prop:=(Mu u/\Ca u (13) "least" ["kind"] (cV 12))/\Ar 1 (cV 12)
theorem P6(q:Mu u):Oo u:=⟨⟨q,(sC q 12)⟩,qw 12⟩
noncomputable def N1(u:U):Prop:=Oo u/\Ca u 14 "least_row" ["form"] (aj gC 1 1)
theorem Rm(q:Oo u):N1 u:=⟨q,(by ktn_call [] gC)⟩
noncomputable def OJ(u:U):Prop:=N1 u/\Ma u 15 "Part" "check_ends" ["self","form","place"] (aj bL 3 5)
theorem Qr(q:N1 u):OJ u:=⟨q,(by ktn_call ["kind","row"] bL)⟩
noncomputable def O8(u:U):Prop:=OJ u/\Ca u 1 "named_elsewhere" ["form","name","places"] (aj b6 3 4)
theorem Qe(q:OJ u):O8 u:=⟨q,(by ktn_call ["fields"] b6)⟩
noncomputable def OU(u:U):Prop:=O8 u/\Ma u 2 "Part" "check_names" ["self","form","place"] (aj bz 3 3)
theorem Qf(q:O8 u):OU u:=⟨q,(by ktn_call [] bz)⟩
noncomputable def NU(u:U):Prop:=OU u/\Ta u 2 "check_names" ["self","form","place"] [("Part",(aj bz 3 3))]
theorem P5(q:OU u):NU u:=⟨q,(by walk_at "t")⟩
noncomputable def N3(u:U):Prop:=NU u/\Ta u 15 "check_ends" ["self","form","place"] [("Part",(aj bL 3 5))]
theorem Rf(q:NU u):N3 u:=⟨q,(by walk_at "t")⟩
noncomputable def NQ(u:U):Prop:=N3 u/\Ma u 16 "Part" "view_form" ["self","form"] (aj bH 2 6)
theorem QE(q:N3 u):NQ u:=⟨q,(by ktn_call ["place","kind","quotients","rests"] bH)⟩
noncomputable def Pa(u:U):Prop:=NQ u/\Ma u 2 "Fuse" "check_kinds" ["self","form","place","gone"] (aj bA 4 4)
theorem QP(q:NQ u):Pa u:=⟨q,(by ktn_call [] bA)⟩
noncomputable def N0(u:U):Prop:=Pa u/\Ta u 2 "check_kinds" ["self","form","place","gone"] [("Fuse",(aj bA 4 4))]
theorem Qk(q:Pa u):N0 u:=⟨q,(by walk_at "t")⟩
noncomputable def OL(u:U):Prop:=N0 u/\Ma u 3 "Fuse" "view_form" ["self","form"] (aj bq 2 6)
theorem Qj(q:N0 u):OL u:=⟨q,(by ktn_call ["place","gone","kind","numbers"] bq)⟩
noncomputable def M4(u:U):Prop:=OL u/\Ma u 3 "Rename" "view_form" ["self","form"] (aj bC 2 3)
theorem P7(q:OL u):M4 u:=⟨q,(by ktn_call ["place"] bC)⟩
noncomputable def Od(u:U):Prop:=M4 u/\Ma u 3 "Sieve" "view_form" ["self","form"] (aj bM 2 5)
theorem QZ(q:M4 u):Od u:=⟨q,(by ktn_call ["place","kind","shown"] bM)⟩
noncomputable def M8(u:U):Prop:=Od u/\Ta u 16 "view_form" ["self","form"] [("Step",(aj bS 2 2)),("Nest",(aj bW 2 4)),("Unnest",(aj bD 2 5)),("Part",(aj bH 2 6)),("Fuse",(aj bq 2 6)),("Rename",(aj bC 2 3)),("Sieve",(aj bM 2 5))]
theorem Ql(q:Od u):M8 u:=⟨q,(by walk_at "t")⟩
noncomputable def Md(u:U):Prop:=M8 u/\Ta u 13 "names" ["self"] [("Leaf",(aj cC 1 1)),("Over",(aF 12)),("Both",(aG 12))]
theorem QS(q:M8 u):Md u:=⟨q,(by walk_at "t")⟩
theorem iy(q:Md u):∀n:Nat,Ma u (16+n) "Over" "form" ["self","forms"] (aC n)/\Ma u (16+n) "Both" "form" ["self","forms"] (aE n)
 |0=>by
  rw[aC];rw[aE];exact⟨Fy (by walk_at "a") (by walk_at "b"),Fy (by walk_at "a") (by walk_at "b")⟩
 |n+1=>by
  have ih:=iy q n;have c0:=ih.1;have c1:=ih.2;have a0:=jT n;have a1:=j6 n;have t0:Ta u (16+n) "form" ["self","forms"] [("Leaf",(aj bR 2 2)),("Over",aC n),("Both",aE n)]:=by walk_at "t"
  rw[fV];rw[iT];refine⟨?_,?_⟩
  ·apply Kk (k:=16+n) [];walk_at "m";unfold ir;walk_at "d"
  ·apply Kk (k:=16+n) ["first","second","names"];walk_at "m";unfold jZ;walk_at "d"
noncomputable def OT(u:U):Prop:=(((Md u/\Ma u (28) "Over" "form" ["self","forms"] (aC 12))/\Ma u (28) "Both" "form" ["self","forms"] (aE 12))/\Ar 2 (aC 12))/\Ar 2 (aE 12)
theorem Qc(q:Md u):OT u:=⟨⟨⟨⟨q,(iy q 12).1⟩,(iy q 12).2⟩,jT 12⟩,j6 12⟩
noncomputable def M7(u:U):Prop:=OT u/\Ma u 1 "Step" "words" ["self"] (aj cT 1 1)
theorem Rh(q:OT u):M7 u:=⟨q,(by ktn_call [] cT)⟩
noncomputable def N4(u:U):Prop:=M7 u/\Ca u 1 "written" ["value"] (aj cw 1 1)
theorem PP(q:M7 u):N4 u:=⟨q,(by ktn_call [] cw)⟩
noncomputable def MF(u:U):Prop:=N4 u/\Ma u 2 "Nest" "words" ["self"] (aj dA 1 1)
theorem ML(q:N4 u):MF u:=⟨q,(by ktn_call [] dA)⟩
noncomputable def MU(u:U):Prop:=MF u/\Ma u 1 "Unnest" "words" ["self"] (aj cO 1 1)
theorem PR(q:MF u):MU u:=⟨q,(by ktn_call [] cO)⟩
noncomputable def M0(u:U):Prop:=MU u/\Ma u 2 "Part" "words" ["self"] (aj dC 1 1)
theorem Rg(q:MU u):M0 u:=⟨q,(by ktn_call [] dC)⟩
noncomputable def N8(u:U):Prop:=M0 u/\Ma u 2 "Fuse" "words" ["self"] (aj dz 1 1)
theorem PN(q:M0 u):N8 u:=⟨q,(by ktn_call [] dz)⟩
noncomputable def O6(u:U):Prop:=N8 u/\Ma u 1 "Rename" "words" ["self"] (aj cN 1 1)
theorem Qq(q:N8 u):O6 u:=⟨q,(by ktn_call [] cN)⟩
noncomputable def OH(u:U):Prop:=O6 u/\Ma u 2 "Sieve" "words" ["self"] (aj bX 1 1)
theorem QW(q:O6 u):OH u:=⟨q,(by ktn_call [] bX)⟩
noncomputable def MK(u:U):Prop:=OH u/\Ta u 2 "words" ["self"] [("Step",(aj cT 1 1)),("Nest",(aj dA 1 1)),("Unnest",(aj cO 1 1)),("Part",(aj dC 1 1)),("Fuse",(aj dz 1 1)),("Rename",(aj cN 1 1)),("Sieve",(aj bX 1 1))]
theorem PJ(q:OH u):MK u:=⟨q,(by walk_at "t")⟩
noncomputable def NW(u:U):Prop:=MK u/\Ca u 4 "is_idle" ["form","step"] (aj bQ 2 2)
theorem Qp(q:MK u):NW u:=⟨q,(by ktn_call [] bQ)⟩
noncomputable def Mg(u:U):Prop:=NW u/\Ta u 28 "form" ["self","forms"] [("Leaf",(aj bR 2 2)),("Over",(aC 12)),("Both",(aE 12))]
theorem QN(q:NW u):Mg u:=⟨q,(by walk_at "t")⟩
theorem lC(q:Mg u):∀n:Nat,Ca u (28+n) "laid_over" ["forms","glass","step"] (aM n)
 |0=>by
  rw[aM];exact Mf (by walk_at "a") (by walk_at "b")
 |n+1=>by
  have ih:=lC q n;have c0:=ih;have a0:=ke n;rw[cK];apply K4 (k:=28+n) ["steps"];walk_at "m";unfold dR;walk_at "d"
noncomputable def L8(u:U):Prop:=(Mg u/\Ca u (40) "laid_over" ["forms","glass","step"] (aM 12))/\Ar 3 (aM 12)
theorem QJ(q:Mg u):L8 u:=⟨⟨q,(lC q 12)⟩,ke 12⟩
theorem vL(q:L8 u):∀n:Nat,Ca u (40+n) "thin" ["forms","glass"] (dD n)
 |0=>by
  rw[dD];exact Mf (by walk_at "a") (by walk_at "b")
 |n+1=>by
  have ih:=vL q n;have c0:=ih;have a0:=sM n;rw[iu];apply K4 (k:=40+n) [];walk_at "m";unfold pN;walk_at "d"
noncomputable def MY(u:U):Prop:=(L8 u/\Ca u (52) "thin" ["forms","glass"] (dD 12))/\Ar 2 (dD 12)
theorem Qz(q:L8 u):MY u:=⟨⟨q,(vL q 12)⟩,sM 12⟩
noncomputable def OQ(u:U):Prop:=MY u/\Ca u 53 "thinned" ["forms","glass"] (aj iR 2 2)
theorem QH(q:MY u):OQ u:=⟨q,(by ktn_call [] iR)⟩
noncomputable def N7(u:U):Prop:=OQ u/\Ca u 54 "_law_thinned" ["_law_form","_law_name_here","_law_steps"] (aj ao 3 6)
theorem PZ(q:OQ u):N7 u:=⟨q,(by ktn_call ["_law_glass","_law_step","_law_found"] ao)⟩
noncomputable def Nx(u:U):Prop:=N7 u/\Ca u 2 "_law_is_rename" ["_law_found","_law_name_here","_law_old","_law_new"] (aj aR 4 4)
theorem Qo(q:N7 u):Nx u:=⟨q,(by ktn_call [] aR)⟩
noncomputable def Ot(u:U):Prop:=Nx u/\Ca u 1 "_law_twelves" ["_law_x"] (aj cq 1 2)
theorem NP(q:Nx u):Ot u:=⟨q,(by ktn_call ["_law_low"] cq)⟩
noncomputable def Nr(u:U):Prop:=Ot u/\Ca u 55 "_law_nests" ["_law_form","_law_name_here","_law_spare","_law_x"] (aj dW 4 9)
theorem QC(q:Ot u):Nr u:=⟨q,(by ktn_call ["_law_wide","_law_steps","_law_inner","_law_last","_law_nested"] dW)⟩
noncomputable def Oa(u:U):Prop:=Nr u/\Ca u 55 "_law_parts" ["_law_name_here","_law_spare","_law_x"] (aj dS 3 8)
theorem Rb(q:Nr u):Oa u:=⟨q,(by ktn_call ["_law_by","_law_form","_law_last","_law_steps","_law_rest"] dS)⟩
noncomputable def N5(u:U):Prop:=Oa u/\Ca u 1 "_law_in_both" ["_law_one","_law_other"] (aj aY 2 2)
theorem Rj(q:Oa u):N5 u:=⟨q,(by ktn_call [] aY)⟩
noncomputable def OA(u:U):Prop:=N5 u/\Ca u 1 "_law_sieve_kind" ["_law_kind","_law_x"] (aj bc 2 5)
theorem QQ(q:N5 u):OA u:=⟨q,(by ktn_call ["_law_half","_law_some","_law_words_here"] bc)⟩
noncomputable def N9(u:U):Prop:=OA u/\Ca u 55 "_law_sieves" ["_law_form","_law_name_here","_law_x"] (aj de 3 9)
theorem Nt(q:OA u):N9 u:=⟨q,(by ktn_call ["_law_field","_law_kind","_law_one","_law_other","_law_found","_law_inner"] de)⟩
noncomputable def Ng(u:U):Prop:=N9 u/\Ca u 55 "_law_renames" ["_law_form","_law_name_here","_law_spare","_law_x"] (aj du 4 7)
theorem Qx(q:N9 u):Ng u:=⟨q,(by ktn_call ["_law_old","_law_last","_law_found"] du)⟩
noncomputable def OD(u:U):Prop:=Ng u/\Ca u 1 "_law_next" ["_law_x"] (aj cG 1 1)
theorem P9(q:Ng u):OD u:=⟨q,(by ktn_call [] cG)⟩
noncomputable def OB(u:U):Prop:=OD u/\Ca u 1 "_law_cell_at" ["_law_script","_law_k"] (aj dg 2 2)
theorem PX(q:OD u):OB u:=⟨q,(by ktn_call [] dg)⟩
noncomputable def Oy(u:U):Prop:=OB u/\Ca u 2 "_law_seed" ["_law_script","_law_k"] (aj cX 2 3)
theorem QX(q:OB u):Oy u:=⟨q,(by ktn_call ["_law_x"] cX)⟩
noncomputable def O3(u:U):Prop:=Oy u/\Ca u 1 "_law_name" ["_law_base","_law_k"] (aj bg 2 7)
theorem QB(q:Oy u):O3 u:=⟨q,(by ktn_call ["_law_letters","_law_size","_law_name_here","_law_j","_law_step"] bg)⟩
noncomputable def Of(u:U):Prop:=O3 u/\Ca u 1 "_law_words" ["_law_x"] (aj dY 1 7)
theorem QV(q:O3 u):Of u:=⟨q,(by ktn_call ["_law_letters","_law_one","_law_other","_law_kept","_law_k","_law_word"] dY)⟩
noncomputable def OZ(u:U):Prop:=Of u/\Ca u 2 "_law_leaf_kind" ["_law_x"] (aj bT 1 1)
theorem Qw(q:Of u):OZ u:=⟨q,(by ktn_call [] bT)⟩
noncomputable def PH(u:U):Prop:=OZ u/\Ca u 3 "_law_leaf_form" ["_law_x","_law_base","_law_start","_law_many","_law_more"] (aj cf 5 7)
theorem P0(q:OZ u):PH u:=⟨q,(by ktn_call ["_law_fields","_law_k"] cf)⟩
theorem Kt{f:Ve}{fd:VU}(F:pf u.K "law" "law" (top 79) f fd)(q:PH u):hJ u.P u.w u.K u.mg u.base (lX u.P u.w) 56 f fd ["_law_script"] (Ae u.K 1 (aj oC 1 7)):=by
 refine PL ["_law_base","_law_x","_law_form","_law_spare","_law_name_here","_law_k"] F ?_ ?_
 ·exact‹2›
 refine λnd=>⟨λcdv A outer s H E hr hp=>?_⟩
 unfold oC;walk_at "d"
set_option hygiene true
variable{P:Vj}{w:Vi}{K:T3}{mg:cu}{base:Vl}
theorem uI{C f:Ve}{fd:VU}(h1:clsAt K "Rename" C)(hM:Mk K C f)(cl:kN K C)(na:∀g∈(["old","new"]:au),cM K C g)(F:pf K "__init__" "Rename.__init__" hX f fd)(b:Binds K fd ["self","old","new"] [])(hmg:mg "Rename"=some (.ref C)):dj P w K mg base 1 "Rename" ["self","old","new"] ["old","new"]:=
 dU (k:=0) h1 hM cl na F b hmg lL rfl (by decide +kernel) (by decide) λcdv A outer s H E=>(cz rfl (pv 0) (pv 1) rfl (dX rfl (pv 0) (pv 2) rfl))
theorem wA{C f:Ve}{fd:VU}(h1:clsAt K "Sieve" C)(hM:Mk K C f)(cl:kN K C)(na:∀g∈(["name","kind"]:au),cM K C g)(F:pf K "__init__" "Sieve.__init__" je f fd)(b:Binds K fd ["self","name","kind"] [])(hmg:mg "Sieve"=some (.ref C)):dj P w K mg base 1 "Sieve" ["self","name","kind"] ["name","kind"]:=
 dU (k:=0) h1 hM cl na F b hmg mw rfl (by decide +kernel) (by decide) λcdv A outer s H E=>(cz rfl (pv 0) (pv 1) rfl (dX rfl (pv 0) (pv 2) rfl))
theorem zx{C f:Ve}{fd:VU}(h1:clsAt K "Over" C)(hM:Mk K C f)(cl:kN K C)(na:∀g∈(["glass","step"]:au),cM K C g)(F:pf K "__init__" "Over.__init__" jI f fd)(b:Binds K fd ["self","glass","step"] [])(hmg:mg "Over"=some (.ref C)):dj P w K mg base 1 "Over" ["self","glass","step"] ["glass","step"]:=
 dU (k:=0) h1 hM cl na F b hmg nB rfl (by decide +kernel) (by decide) λcdv A outer s H E=>(cz rfl (pv 0) (pv 1) rfl (dX rfl (pv 0) (pv 2) rfl))
theorem Au{C f:Ve}{fd:VU}(h1:clsAt K "Both" C)(hM:Mk K C f)(cl:kN K C)(na:∀g∈(["one","other","pair"]:au),cM K C g)(F:pf K "__init__" "Both.__init__" jK f fd)(b:Binds K fd ["self","one","other","pair"] [])(hmg:mg "Both"=some (.ref C)):dj P w K mg base 1 "Both" ["self","one","other","pair"] ["one","other","pair"]:=
 dU (k:=0) h1 hM cl na F b hmg nO rfl (by decide +kernel) (by decide) λcdv A outer s H E=>(cz rfl (pv 0) (pv 1) rfl (cz rfl (pv 0) (pv 2) rfl (dX rfl (pv 0) (pv 3) rfl)))
theorem yL{C f:Ve}{fd:VU}(h1:clsAt K "Leaf" C)(hM:Mk K C f)(cl:kN K C)(na:∀g∈(["name"]:au),cM K C g)(F:pf K "__init__" "Leaf.__init__" jG f fd)(b:Binds K fd ["self","name"] [])(hmg:mg "Leaf"=some (.ref C)):dj P w K mg base 1 "Leaf" ["self","name"] ["name"]:=
 dU (k:=0) h1 hM cl na F b hmg nq rfl (by decide +kernel) (by decide) λcdv A outer s H E=>(dX rfl (pv 0) (pv 1) rfl)
theorem vA{C f:Ve}{fd:VU}(h1:clsAt K "Unnest" C)(hM:Mk K C f)(cl:kN K C)(na:∀g∈(["name"]:au),cM K C g)(F:pf K "__init__" "Unnest.__init__" ip f fd)(b:Binds K fd ["self","name"] [])(hmg:mg "Unnest"=some (.ref C)):dj P w K mg base 1 "Unnest" ["self","name"] ["name"]:=
 dU (k:=0) h1 hM cl na F b hmg lG rfl (by decide +kernel) (by decide) λcdv A outer s H E=>(dX rfl (pv 0) (pv 1) rfl)
theorem zE{C f:Ve}{fd:VU}(h1:clsAt K "Nest" C)(hM:Mk K C f)(cl:kN K C)(na:∀g∈(["many","name"]:au),cM K C g)(F:pf K "__init__" "Nest.__init__" jM f fd)(b:Binds K fd ["self","many","name"] [])(hmg:mg "Nest"=some (.ref C)):dj P w K mg base 1 "Nest" ["self","many","name"] ["many","name"]:=
 dU (k:=0) h1 hM cl na F b hmg nN rfl (by decide +kernel) (by decide) λcdv A outer s H E=>(cz rfl (pv 0) (pv 1) rfl (dX rfl (pv 0) (pv 2) rfl))
theorem zA{C f:Ve}{fd:VU}(h1:clsAt K "Fuse" C)(hM:Mk K C f)(cl:kN K C)(na:∀g∈(["quotient","rest","by","name"]:au),cM K C g)(F:pf K "__init__" "Fuse.__init__" jJ f fd)(b:Binds K fd ["self","quotient","rest","by","name"] [])(hmg:mg "Fuse"=some (.ref C)):dj P w K mg base 1 "Fuse" ["self","quotient","rest","by","name"] ["quotient","rest","by","name"]:=
 dU (k:=0) h1 hM cl na F b hmg oA rfl (by decide +kernel) (by decide) λcdv A outer s H E=>(cz rfl (pv 0) (pv 1) rfl (cz rfl (pv 0) (pv 2) rfl (cz rfl (pv 0) (pv 3) rfl (dX rfl (pv 0) (pv 4) rfl))))
theorem zh{C f:Ve}{fd:VU}(h1:clsAt K "Part" C)(hM:Mk K C f)(cl:kN K C)(na:∀g∈(["name","by","quotient","rest"]:au),cM K C g)(F:pf K "__init__" "Part.__init__" jL f fd)(b:Binds K fd ["self","name","by","quotient","rest"] [])(hmg:mg "Part"=some (.ref C)):dj P w K mg base 1 "Part" ["self","name","by","quotient","rest"] ["name","by","quotient","rest"]:=
 dU (k:=0) h1 hM cl na F b hmg mY rfl (by decide +kernel) (by decide) λcdv A outer s H E=>(cz rfl (pv 0) (pv 1) rfl (cz rfl (pv 0) (pv 2) rfl (cz rfl (pv 0) (pv 3) rfl (dX rfl (pv 0) (pv 4) rfl))))
theorem wD{C f:Ve}{fd:VU}(h1:clsAt K "Torn" C)(hM:My K C f)(na:∀g∈(["view"]:au),cM K C g)(F:pf K "__init__" "Torn.__init__" jN f fd)(b:Binds K fd ["self","view"] [])(hmg:mg "Torn"=some (.ref C)):pC P w K mg base 1 "Torn" ["self","view"] ["view"]:=
 wX (k:=0) h1 hM na F b hmg oq rfl (by decide +kernel) (by decide) λcdv A outer s H E=>(zr rfl (pv 0) (pv 1) rfl)
end
theorem all_mk{l:Uv}{w:Vi}{K:T3}{h:Vl}{mg:cu}{fa:Ve}(X:K.In h)(G:h.Ns Vn mg)(hfa:mg "law"=some (.ref fa)){f1 f2:Ve}
  (ac0:Uw K Vn "Leaf"=some (some (.ref Cl0)))
  (ac1:Uw K Vn "Nest"=some (some (.ref Cl1)))
  (ac2:Uw K Vn "Unnest"=some (some (.ref Cl2)))
  (ac3:Uw K Vn "Part"=some (some (.ref Cl3)))
  (ac4:Uw K Vn "Fuse"=some (some (.ref Cl4)))
  (ac5:Uw K Vn "Sieve"=some (some (.ref Cl5)))
  (ac6:Uw K Vn "Over"=some (some (.ref Cl6)))
  (ac7:Uw K Vn "Both"=some (some (.ref Cl7)))
  (ac8:Uw K Vn "Rename"=some (some (.ref Cl8)))
  (ac9:Uw K Vn "Step"=some (some (.ref Cl9)))
  (a0:T8 K (.ref Cl1) "exact"=some (some (.ref f0)))
  (a0_3:T8 K (.ref Cl3) "exact"=some (some (.ref f0)))
  (a0_4:T8 K (.ref Cl4) "exact"=some (some (.ref f0)))
  (a0_8:T8 K (.ref Cl8) "exact"=some (some (.ref f0)))
  (a0_9:T8 K (.ref Cl9) "exact"=some (some (.ref f0)))
  (i0:Ub K (.ref f0)=true)
  (l0:Lk K f0 "exact" "Step.exact" (inClass (top 38) 4) oc0 od0 kV0 dc0 pm0 an0 cd0 ct0 sl0)
  (c0:Uu K cd0 "Step.exact"=true)
  (k0:Uq K (.ref f0)=true)
  (a1:T8 K (.ref Cl2) "exact"=some (some (.ref f1)))
  (i1:Ub K (.ref f1)=true)
  (l1:Lk K f1 "exact" "Unnest.exact" (inClass (top 42) 5) oc1 od1 kV1 dc1 pm1 an1 cd1 ct1 sl1)
  (c1:Uu K cd1 "Unnest.exact"=true)
  (k1:Uq K (.ref f1)=true)
  (a2:T8 K (.ref Cl5) "exact"=some (some (.ref f2)))
  (i2:Ub K (.ref f2)=true)
  (l2:Lk K f2 "exact" "Sieve.exact" (inClass (top 51) 5) oc2 od2 kV2 dc2 pm2 an2 cd2 ct2 sl2)
  (c2:Uu K cd2 "Sieve.exact"=true)
  (k2:Uq K (.ref f2)=true)
  (a3:T8 K (.ref Cl0) "form"=some (some (.ref f3)))
  (i3:Ub K (.ref f3)=true)
  (l3:Lk K f3 "form" "Leaf.form" (inClass (top 26) 2) oc3 od3 kV3 dc3 pm3 an3 cd3 ct3 sl3)
  (c3:Uu K cd3 "Leaf.form"=true)
  (k3:Uq K (.ref f3)=true)
  (a4:T8 K (.ref Cl0) "names"=some (some (.ref f4)))
  (i4:Ub K (.ref f4)=true)
  (l4:Lk K f4 "names" "Leaf.names" (inClass (top 26) 1) oc4 od4 kV4 dc4 pm4 an4 cd4 ct4 sl4)
  (c4:Uu K cd4 "Leaf.names"=true)
  (k4:Uq K (.ref f4)=true)
  (a5:T8 K (.ref Cl6) "names"=some (some (.ref f5)))
  (i5:Ub K (.ref f5)=true)
  (l5:Lk K f5 "names" "Over.names" (inClass (top 27) 1) oc5 od5 kV5 dc5 pm5 an5 cd5 ct5 sl5)
  (c5:Uu K cd5 "Over.names"=true)
  (k5:Uq K (.ref f5)=true)
  (a6:T8 K (.ref Cl7) "names"=some (some (.ref f6)))
  (i6:Ub K (.ref f6)=true)
  (l6:Lk K f6 "names" "Both.names" (inClass (top 28) 1) oc6 od6 kV6 dc6 pm6 an6 cd6 ct6 sl6)
  (c6:Uu K cd6 "Both.names"=true)
  (k6:Uq K (.ref f6)=true)
  (a7:T8 K (.ref Cl9) "view_form"=some (some (.ref f7)))
  (i7:Ub K (.ref f7)=true)
  (l7:Lk K f7 "view_form" "Step.view_form" (inClass (top 38) 1) oc7 od7 kV7 dc7 pm7 an7 cd7 ct7 sl7)
  (c7:Uu K cd7 "Step.view_form"=true)
  (k7:Uq K (.ref f7)=true)
  (a8:T8 K (.ref Cl1) "view_form"=some (some (.ref f8)))
  (i8:Ub K (.ref f8)=true)
  (l8:Lk K f8 "view_form" "Nest.view_form" (inClass (top 41) 2) oc8 od8 kV8 dc8 pm8 an8 cd8 ct8 sl8)
  (c8:Uu K cd8 "Nest.view_form"=true)
  (k8:Uq K (.ref f8)=true)
  (a9:T8 K (.ref Cl2) "view_form"=some (some (.ref f9)))
  (i9:Ub K (.ref f9)=true)
  (l9:Lk K f9 "view_form" "Unnest.view_form" (inClass (top 42) 2) oc9 od9 kV9 dc9 pm9 an9 cd9 ct9 sl9)
  (c9:Uu K cd9 "Unnest.view_form"=true)
  (k9:Uq K (.ref f9)=true)
  (a10:T8 K (.ref Cl3) "check_ends"=some (some (.ref f10)))
  (i10:Ub K (.ref f10)=true)
  (l10:Lk K f10 "check_ends" "Part.check_ends" (inClass (top 46) 4) oc10 od10 kV10 dc10 pm10 an10 cd10 ct10 sl10)
  (c10:Uu K cd10 "Part.check_ends"=true)
  (k10:Uq K (.ref f10)=true)
  (a11:T8 K (.ref Cl3) "check_names"=some (some (.ref f11)))
  (i11:Ub K (.ref f11)=true)
  (l11:Lk K f11 "check_names" "Part.check_names" (inClass (top 46) 3) oc11 od11 kV11 dc11 pm11 an11 cd11 ct11 sl11)
  (c11:Uu K cd11 "Part.check_names"=true)
  (k11:Uq K (.ref f11)=true)
  (a12:T8 K (.ref Cl3) "view_form"=some (some (.ref f12)))
  (i12:Ub K (.ref f12)=true)
  (l12:Lk K f12 "view_form" "Part.view_form" (inClass (top 46) 2) oc12 od12 kV12 dc12 pm12 an12 cd12 ct12 sl12)
  (c12:Uu K cd12 "Part.view_form"=true)
  (k12:Uq K (.ref f12)=true)
  (a13:T8 K (.ref Cl4) "check_kinds"=some (some (.ref f13)))
  (i13:Ub K (.ref f13)=true)
  (l13:Lk K f13 "check_kinds" "Fuse.check_kinds" (inClass (top 47) 3) oc13 od13 kV13 dc13 pm13 an13 cd13 ct13 sl13)
  (c13:Uu K cd13 "Fuse.check_kinds"=true)
  (k13:Uq K (.ref f13)=true)
  (a14:T8 K (.ref Cl4) "view_form"=some (some (.ref f14)))
  (i14:Ub K (.ref f14)=true)
  (l14:Lk K f14 "view_form" "Fuse.view_form" (inClass (top 47) 2) oc14 od14 kV14 dc14 pm14 an14 cd14 ct14 sl14)
  (c14:Uu K cd14 "Fuse.view_form"=true)
  (k14:Uq K (.ref f14)=true)
  (a15:T8 K (.ref Cl8) "view_form"=some (some (.ref f15)))
  (i15:Ub K (.ref f15)=true)
  (l15:Lk K f15 "view_form" "Rename.view_form" (inClass (top 49) 2) oc15 od15 kV15 dc15 pm15 an15 cd15 ct15 sl15)
  (c15:Uu K cd15 "Rename.view_form"=true)
  (k15:Uq K (.ref f15)=true)
  (a16:T8 K (.ref Cl5) "view_form"=some (some (.ref f16)))
  (i16:Ub K (.ref f16)=true)
  (l16:Lk K f16 "view_form" "Sieve.view_form" (inClass (top 51) 2) oc16 od16 kV16 dc16 pm16 an16 cd16 ct16 sl16)
  (c16:Uu K cd16 "Sieve.view_form"=true)
  (k16:Uq K (.ref f16)=true)
  (a17:T8 K (.ref Cl6) "form"=some (some (.ref f17)))
  (i17:Ub K (.ref f17)=true)
  (l17:Lk K f17 "form" "Over.form" (inClass (top 27) 2) oc17 od17 kV17 dc17 pm17 an17 cd17 ct17 sl17)
  (c17:Uu K cd17 "Over.form"=true)
  (k17:Uq K (.ref f17)=true)
  (a18:T8 K (.ref Cl7) "form"=some (some (.ref f18)))
  (i18:Ub K (.ref f18)=true)
  (l18:Lk K f18 "form" "Both.form" (inClass (top 28) 2) oc18 od18 kV18 dc18 pm18 an18 cd18 ct18 sl18)
  (c18:Uu K cd18 "Both.form"=true)
  (k18:Uq K (.ref f18)=true)
  (a19:T8 K (.ref Cl9) "words"=some (some (.ref f19)))
  (i19:Ub K (.ref f19)=true)
  (l19:Lk K f19 "words" "Step.words" (inClass (top 38) 0) oc19 od19 kV19 dc19 pm19 an19 cd19 ct19 sl19)
  (c19:Uu K cd19 "Step.words"=true)
  (k19:Uq K (.ref f19)=true)
  (a20:T8 K (.ref Cl1) "words"=some (some (.ref f20)))
  (i20:Ub K (.ref f20)=true)
  (l20:Lk K f20 "words" "Nest.words" (inClass (top 41) 1) oc20 od20 kV20 dc20 pm20 an20 cd20 ct20 sl20)
  (c20:Uu K cd20 "Nest.words"=true)
  (k20:Uq K (.ref f20)=true)
  (a21:T8 K (.ref Cl2) "words"=some (some (.ref f21)))
  (i21:Ub K (.ref f21)=true)
  (l21:Lk K f21 "words" "Unnest.words" (inClass (top 42) 1) oc21 od21 kV21 dc21 pm21 an21 cd21 ct21 sl21)
  (c21:Uu K cd21 "Unnest.words"=true)
  (k21:Uq K (.ref f21)=true)
  (a22:T8 K (.ref Cl3) "words"=some (some (.ref f22)))
  (i22:Ub K (.ref f22)=true)
  (l22:Lk K f22 "words" "Part.words" (inClass (top 46) 1) oc22 od22 kV22 dc22 pm22 an22 cd22 ct22 sl22)
  (c22:Uu K cd22 "Part.words"=true)
  (k22:Uq K (.ref f22)=true)
  (a23:T8 K (.ref Cl4) "words"=some (some (.ref f23)))
  (i23:Ub K (.ref f23)=true)
  (l23:Lk K f23 "words" "Fuse.words" (inClass (top 47) 1) oc23 od23 kV23 dc23 pm23 an23 cd23 ct23 sl23)
  (c23:Uu K cd23 "Fuse.words"=true)
  (k23:Uq K (.ref f23)=true)
  (a24:T8 K (.ref Cl8) "words"=some (some (.ref f24)))
  (i24:Ub K (.ref f24)=true)
  (l24:Lk K f24 "words" "Rename.words" (inClass (top 49) 1) oc24 od24 kV24 dc24 pm24 an24 cd24 ct24 sl24)
  (c24:Uu K cd24 "Rename.words"=true)
  (k24:Uq K (.ref f24)=true)
  (a25:T8 K (.ref Cl5) "words"=some (some (.ref f25)))
  (i25:Ub K (.ref f25)=true)
  (l25:Lk K f25 "words" "Sieve.words" (inClass (top 51) 1) oc25 od25 kV25 dc25 pm25 an25 cd25 ct25 sl25)
  (c25:Uu K cd25 "Sieve.words"=true)
  (k25:Uq K (.ref f25)=true)
  (a26:Uw K Vn "law"=some (some (.ref f26)))
  (l26:Lk K f26 "law" "law" (top 79) oc26 od26 kV26 dc26 pm26 an26 cd26 ct26 sl26)
  (c26:Uu K cd26 "law"=true)
  (k26:Uq K (.ref f26)=true)
  (a27:T8 K (.ref Cl8) "__init__"=some (some (.ref f27)))
  (i27:Ub K (.ref f27)=true)
  (l27:Lk K f27 "__init__" "Rename.__init__" (inClass (top 49) 0) oc27 od27 kV27 dc27 pm27 an27 cd27 ct27 sl27)
  (c27:Uu K cd27 "Rename.__init__"=true)
  (k27:Uq K (.ref f27)=true)
  (a28:T8 K (.ref Cl5) "__init__"=some (some (.ref f28)))
  (i28:Ub K (.ref f28)=true)
  (l28:Lk K f28 "__init__" "Sieve.__init__" (inClass (top 51) 0) oc28 od28 kV28 dc28 pm28 an28 cd28 ct28 sl28)
  (c28:Uu K cd28 "Sieve.__init__"=true)
  (k28:Uq K (.ref f28)=true)
  (a29:T8 K (.ref Cl6) "__init__"=some (some (.ref f29)))
  (i29:Ub K (.ref f29)=true)
  (l29:Lk K f29 "__init__" "Over.__init__" (inClass (top 27) 0) oc29 od29 kV29 dc29 pm29 an29 cd29 ct29 sl29)
  (c29:Uu K cd29 "Over.__init__"=true)
  (k29:Uq K (.ref f29)=true)
  (a30:T8 K (.ref Cl7) "__init__"=some (some (.ref f30)))
  (i30:Ub K (.ref f30)=true)
  (l30:Lk K f30 "__init__" "Both.__init__" (inClass (top 28) 0) oc30 od30 kV30 dc30 pm30 an30 cd30 ct30 sl30)
  (c30:Uu K cd30 "Both.__init__"=true)
  (k30:Uq K (.ref f30)=true)
  (a31:T8 K (.ref Cl0) "__init__"=some (some (.ref f31)))
  (i31:Ub K (.ref f31)=true)
  (l31:Lk K f31 "__init__" "Leaf.__init__" (inClass (top 26) 0) oc31 od31 kV31 dc31 pm31 an31 cd31 ct31 sl31)
  (c31:Uu K cd31 "Leaf.__init__"=true)
  (k31:Uq K (.ref f31)=true)
  (a32:T8 K (.ref Cl2) "__init__"=some (some (.ref f32)))
  (i32:Ub K (.ref f32)=true)
  (l32:Lk K f32 "__init__" "Unnest.__init__" (inClass (top 42) 0) oc32 od32 kV32 dc32 pm32 an32 cd32 ct32 sl32)
  (c32:Uu K cd32 "Unnest.__init__"=true)
  (k32:Uq K (.ref f32)=true)
  (a33:T8 K (.ref Cl1) "__init__"=some (some (.ref f33)))
  (i33:Ub K (.ref f33)=true)
  (l33:Lk K f33 "__init__" "Nest.__init__" (inClass (top 41) 0) oc33 od33 kV33 dc33 pm33 an33 cd33 ct33 sl33)
  (c33:Uu K cd33 "Nest.__init__"=true)
  (k33:Uq K (.ref f33)=true)
  (a34:T8 K (.ref Cl4) "__init__"=some (some (.ref f34)))
  (i34:Ub K (.ref f34)=true)
  (l34:Lk K f34 "__init__" "Fuse.__init__" (inClass (top 47) 0) oc34 od34 kV34 dc34 pm34 an34 cd34 ct34 sl34)
  (c34:Uu K cd34 "Fuse.__init__"=true)
  (k34:Uq K (.ref f34)=true)
  (a35:T8 K (.ref Cl3) "__init__"=some (some (.ref f35)))
  (i35:Ub K (.ref f35)=true)
  (l35:Lk K f35 "__init__" "Part.__init__" (inClass (top 46) 0) oc35 od35 kV35 dc35 pm35 an35 cd35 ct35 sl35)
  (c35:Uu K cd35 "Part.__init__"=true)
  (k35:Uq K (.ref f35)=true)
  (p0:T6 K Cl0 Str.empty=true)
  (q0:T7 K Cl0=true)
  (r0:Uc K Cl0=true)
  (s0:T8 K (.ref Cl0) "__setattr__"=some (some (.builtin "object.__setattr__")))
  (n0_0:T8 K (.ref Cl0) "name"=some none)
  (m0:Ug K Cl0=true)
  (kp0:Uq K (.ref Cl0)=true)
  (p1:T6 K Cl1 Str.empty=true)
  (q1:T7 K Cl1=true)
  (r1:Uc K Cl1=true)
  (s1:T8 K (.ref Cl1) "__setattr__"=some (some (.builtin "object.__setattr__")))
  (n1_0:T8 K (.ref Cl1) "many"=some none)
  (n1_1:T8 K (.ref Cl1) "name"=some none)
  (m1:Ug K Cl1=true)
  (kp1:Uq K (.ref Cl1)=true)
  (p2:T6 K Cl2 Str.empty=true)
  (q2:T7 K Cl2=true)
  (r2:Uc K Cl2=true)
  (s2:T8 K (.ref Cl2) "__setattr__"=some (some (.builtin "object.__setattr__")))
  (n2_0:T8 K (.ref Cl2) "name"=some none)
  (m2:Ug K Cl2=true)
  (kp2:Uq K (.ref Cl2)=true)
  (p3:T6 K Cl3 Str.empty=true)
  (q3:T7 K Cl3=true)
  (r3:Uc K Cl3=true)
  (s3:T8 K (.ref Cl3) "__setattr__"=some (some (.builtin "object.__setattr__")))
  (n3_0:T8 K (.ref Cl3) "name"=some none)
  (n3_1:T8 K (.ref Cl3) "by"=some none)
  (n3_2:T8 K (.ref Cl3) "quotient"=some none)
  (n3_3:T8 K (.ref Cl3) "rest"=some none)
  (m3:Ug K Cl3=true)
  (kp3:Uq K (.ref Cl3)=true)
  (p4:T6 K Cl4 Str.empty=true)
  (q4:T7 K Cl4=true)
  (r4:Uc K Cl4=true)
  (s4:T8 K (.ref Cl4) "__setattr__"=some (some (.builtin "object.__setattr__")))
  (n4_0:T8 K (.ref Cl4) "quotient"=some none)
  (n4_1:T8 K (.ref Cl4) "rest"=some none)
  (n4_2:T8 K (.ref Cl4) "by"=some none)
  (n4_3:T8 K (.ref Cl4) "name"=some none)
  (m4:Ug K Cl4=true)
  (kp4:Uq K (.ref Cl4)=true)
  (p5:T6 K Cl5 Str.empty=true)
  (q5:T7 K Cl5=true)
  (r5:Uc K Cl5=true)
  (s5:T8 K (.ref Cl5) "__setattr__"=some (some (.builtin "object.__setattr__")))
  (n5_0:T8 K (.ref Cl5) "name"=some none)
  (n5_1:T8 K (.ref Cl5) "kind"=some none)
  (m5:Ug K Cl5=true)
  (kp5:Uq K (.ref Cl5)=true)
  (p6:T6 K Cl6 Str.empty=true)
  (q6:T7 K Cl6=true)
  (r6:Uc K Cl6=true)
  (s6:T8 K (.ref Cl6) "__setattr__"=some (some (.builtin "object.__setattr__")))
  (n6_0:T8 K (.ref Cl6) "glass"=some none)
  (n6_1:T8 K (.ref Cl6) "step"=some none)
  (m6:Ug K Cl6=true)
  (kp6:Uq K (.ref Cl6)=true)
  (p7:T6 K Cl7 Str.empty=true)
  (q7:T7 K Cl7=true)
  (r7:Uc K Cl7=true)
  (s7:T8 K (.ref Cl7) "__setattr__"=some (some (.builtin "object.__setattr__")))
  (n7_0:T8 K (.ref Cl7) "one"=some none)
  (n7_1:T8 K (.ref Cl7) "other"=some none)
  (n7_2:T8 K (.ref Cl7) "pair"=some none)
  (m7:Ug K Cl7=true)
  (kp7:Uq K (.ref Cl7)=true)
  (p8:T6 K Cl8 Str.empty=true)
  (q8:T7 K Cl8=true)
  (r8:Uc K Cl8=true)
  (s8:T8 K (.ref Cl8) "__setattr__"=some (some (.builtin "object.__setattr__")))
  (n8_0:T8 K (.ref Cl8) "old"=some none)
  (n8_1:T8 K (.ref Cl8) "new"=some none)
  (m8:Ug K Cl8=true)
  (kp8:Uq K (.ref Cl8)=true)
  (p9:T6 K Cl9 Str.empty=true)
  (q9:T7 K Cl9=true)
  (r9:Uc K Cl9=true)
  (s9:T8 K (.ref Cl9) "__setattr__"=some (some (.builtin "object.__setattr__")))
  (o9:T8 K (.ref Cl9) "__init__"=some (some (.builtin "object.__init__")))
  (m9:Ug K Cl9=true)
  (kp9:Uq K (.ref Cl9)=true)
  (vsg:UD K (.builtin "object.__class__") "__get__"=some (some (.builtin "getset_descriptor.__get__")))
  (vtk:UE K (.builtin "object.__class__")=some true)
  (vf0:T8 K (.ref Cl0) "__class__"=some (some (.builtin "object.__class__")))
  (vm0:UG K Cl0 (.type "object")=some true)
  (vf1:T8 K (.ref Cl1) "__class__"=some (some (.builtin "object.__class__")))
  (vm1:UG K Cl1 (.type "object")=some true)
  (vf2:T8 K (.ref Cl2) "__class__"=some (some (.builtin "object.__class__")))
  (vm2:UG K Cl2 (.type "object")=some true)
  (vf3:T8 K (.ref Cl3) "__class__"=some (some (.builtin "object.__class__")))
  (vm3:UG K Cl3 (.type "object")=some true)
  (vf4:T8 K (.ref Cl4) "__class__"=some (some (.builtin "object.__class__")))
  (vm4:UG K Cl4 (.type "object")=some true)
  (vf5:T8 K (.ref Cl5) "__class__"=some (some (.builtin "object.__class__")))
  (vm5:UG K Cl5 (.type "object")=some true)
  (vf6:T8 K (.ref Cl6) "__class__"=some (some (.builtin "object.__class__")))
  (vm6:UG K Cl6 (.type "object")=some true)
  (vf7:T8 K (.ref Cl7) "__class__"=some (some (.builtin "object.__class__")))
  (vm7:UG K Cl7 (.type "object")=some true)
  (vf8:T8 K (.ref Cl8) "__class__"=some (some (.builtin "object.__class__")))
  (vm8:UG K Cl8 (.type "object")=some true)
  (vf9:T8 K (.ref Cl9) "__class__"=some (some (.builtin "object.__class__")))
  (vm9:UG K Cl9 (.type "object")=some true)
  (vt0:Uh K (.ref Cl0)=some (.type "type"))
  (vi0:UB K (.ref Cl0) (.type "type")=some true)
  (yy0_0:UH K (.ref Cl0) Cl0=true)
  (vs0_6:UC K (.ref Cl6) (.ref Cl0)=some false)
  (vn0_6:Cl6≠Cl0)
  (vs0_7:UC K (.ref Cl7) (.ref Cl0)=some false)
  (vn0_7:Cl7≠Cl0)
  (vt8:Uh K (.ref Cl8)=some (.type "type"))
  (vi8:UB K (.ref Cl8) (.type "type")=some true)
  (yy8_8:UH K (.ref Cl8) Cl8=true)
  (vs8_9:UC K (.ref Cl9) (.ref Cl8)=some false)
  (vn8_9:Cl9≠Cl8)
  (vs8_1:UC K (.ref Cl1) (.ref Cl8)=some false)
  (vn8_1:Cl1≠Cl8)
  (vs8_2:UC K (.ref Cl2) (.ref Cl8)=some false)
  (vn8_2:Cl2≠Cl8)
  (vs8_3:UC K (.ref Cl3) (.ref Cl8)=some false)
  (vn8_3:Cl3≠Cl8)
  (vs8_4:UC K (.ref Cl4) (.ref Cl8)=some false)
  (vn8_4:Cl4≠Cl8)
  (vs8_5:UC K (.ref Cl5) (.ref Cl8)=some false)
  (vn8_5:Cl5≠Cl8)
  (vt5:Uh K (.ref Cl5)=some (.type "type"))
  (vi5:UB K (.ref Cl5) (.type "type")=some true)
  (yy5_5:UH K (.ref Cl5) Cl5=true)
  (vs5_9:UC K (.ref Cl9) (.ref Cl5)=some false)
  (vn5_9:Cl9≠Cl5)
  (vs5_1:UC K (.ref Cl1) (.ref Cl5)=some false)
  (vn5_1:Cl1≠Cl5)
  (vs5_2:UC K (.ref Cl2) (.ref Cl5)=some false)
  (vn5_2:Cl2≠Cl5)
  (vs5_3:UC K (.ref Cl3) (.ref Cl5)=some false)
  (vn5_3:Cl3≠Cl5)
  (vs5_4:UC K (.ref Cl4) (.ref Cl5)=some false)
  (vn5_4:Cl4≠Cl5)
  (vs5_8:UC K (.ref Cl8) (.ref Cl5)=some false)
  (vn5_8:Cl8≠Cl5)
  (vt3:Uh K (.ref Cl3)=some (.type "type"))
  (vi3:UB K (.ref Cl3) (.type "type")=some true)
  (yy3_3:UH K (.ref Cl3) Cl3=true)
  (vs3_9:UC K (.ref Cl9) (.ref Cl3)=some false)
  (vn3_9:Cl9≠Cl3)
  (vs3_1:UC K (.ref Cl1) (.ref Cl3)=some false)
  (vn3_1:Cl1≠Cl3)
  (vs3_2:UC K (.ref Cl2) (.ref Cl3)=some false)
  (vn3_2:Cl2≠Cl3)
  (vs3_4:UC K (.ref Cl4) (.ref Cl3)=some false)
  (vn3_4:Cl4≠Cl3)
  (vs3_8:UC K (.ref Cl8) (.ref Cl3)=some false)
  (vn3_8:Cl8≠Cl3)
  (vs3_5:UC K (.ref Cl5) (.ref Cl3)=some false)
  (vn3_5:Cl5≠Cl3)
  (vt4:Uh K (.ref Cl4)=some (.type "type"))
  (vi4:UB K (.ref Cl4) (.type "type")=some true)
  (yy4_4:UH K (.ref Cl4) Cl4=true)
  (vs4_9:UC K (.ref Cl9) (.ref Cl4)=some false)
  (vn4_9:Cl9≠Cl4)
  (vs4_1:UC K (.ref Cl1) (.ref Cl4)=some false)
  (vn4_1:Cl1≠Cl4)
  (vs4_2:UC K (.ref Cl2) (.ref Cl4)=some false)
  (vn4_2:Cl2≠Cl4)
  (vs4_3:UC K (.ref Cl3) (.ref Cl4)=some false)
  (vn4_3:Cl3≠Cl4)
  (vs4_8:UC K (.ref Cl8) (.ref Cl4)=some false)
  (vn4_8:Cl8≠Cl4)
  (vs4_5:UC K (.ref Cl5) (.ref Cl4)=some false)
  (vn4_5:Cl5≠Cl4)
  (vt1:Uh K (.ref Cl1)=some (.type "type"))
  (vi1:UB K (.ref Cl1) (.type "type")=some true)
  (yy1_1:UH K (.ref Cl1) Cl1=true)
  (vs1_9:UC K (.ref Cl9) (.ref Cl1)=some false)
  (vn1_9:Cl9≠Cl1)
  (vs1_2:UC K (.ref Cl2) (.ref Cl1)=some false)
  (vn1_2:Cl2≠Cl1)
  (vs1_3:UC K (.ref Cl3) (.ref Cl1)=some false)
  (vn1_3:Cl3≠Cl1)
  (vs1_4:UC K (.ref Cl4) (.ref Cl1)=some false)
  (vn1_4:Cl4≠Cl1)
  (vs1_8:UC K (.ref Cl8) (.ref Cl1)=some false)
  (vn1_8:Cl8≠Cl1)
  (vs1_5:UC K (.ref Cl5) (.ref Cl1)=some false)
  (vn1_5:Cl5≠Cl1)
  (vt2:Uh K (.ref Cl2)=some (.type "type"))
  (vi2:UB K (.ref Cl2) (.type "type")=some true)
  (yy2_2:UH K (.ref Cl2) Cl2=true)
  (vs2_9:UC K (.ref Cl9) (.ref Cl2)=some false)
  (vn2_9:Cl9≠Cl2)
  (vs2_1:UC K (.ref Cl1) (.ref Cl2)=some false)
  (vn2_1:Cl1≠Cl2)
  (vs2_3:UC K (.ref Cl3) (.ref Cl2)=some false)
  (vn2_3:Cl3≠Cl2)
  (vs2_4:UC K (.ref Cl4) (.ref Cl2)=some false)
  (vn2_4:Cl4≠Cl2)
  (vs2_8:UC K (.ref Cl8) (.ref Cl2)=some false)
  (vn2_8:Cl8≠Cl2)
  (vs2_5:UC K (.ref Cl5) (.ref Cl2)=some false)
  (vn2_5:Cl5≠Cl2)
  (vt6:Uh K (.ref Cl6)=some (.type "type"))
  (vi6:UB K (.ref Cl6) (.type "type")=some true)
  (yy6_6:UH K (.ref Cl6) Cl6=true)
  (vs6_0:UC K (.ref Cl0) (.ref Cl6)=some false)
  (vn6_0:Cl0≠Cl6)
  (vs6_7:UC K (.ref Cl7) (.ref Cl6)=some false)
  (vn6_7:Cl7≠Cl6)
  (vt7:Uh K (.ref Cl7)=some (.type "type"))
  (vi7:UB K (.ref Cl7) (.type "type")=some true)
  (yy7_7:UH K (.ref Cl7) Cl7=true)
  (vs7_0:UC K (.ref Cl0) (.ref Cl7)=some false)
  (vn7_0:Cl0≠Cl7)
  (vs7_6:UC K (.ref Cl6) (.ref Cl7)=some false)
  (vn7_6:Cl6≠Cl7)
  (xa0:Uw K Vn "NoField"=some (some (.ref Xl0)))
  (xa1:Uw K Vn "NoTable"=some (some (.ref Xl1)))
  (xa2:Uw K Vn "NoKey"=some (some (.ref Xl2)))
  (xa3:Uw K Vn "Twice"=some (some (.ref Xl3)))
  (xa4:Uw K Vn "TooMany"=some (some (.ref Xl4)))
  (xa5:Uw K Vn "NoKind"=some (some (.ref Xl5)))
  (xa6:Uw K Vn "Torn"=some (some (.ref Xl6)))
  (xa7:Uw K Vn "Nothing"=some (some (.ref Xl7)))
  (xa8:Uw K Vn "GlassError"=some (some (.ref Xl8)))
  (a36:T8 K (.ref Xl6) "__init__"=some (some (.ref f36)))
  (i36:Ub K (.ref f36)=true)
  (l36:Lk K f36 "__init__" "Torn.__init__" (inClass (top 10) 0) oc36 od36 kV36 dc36 pm36 an36 cd36 ct36 sl36)
  (c36:Uu K cd36 "Torn.__init__"=true)
  (k36:Uq K (.ref f36)=true)
  (xs6:T8 K (.ref Xl6) "__setattr__"=some (some (.builtin "object.__setattr__")))
  (xp6:Uq K (.ref Xl6)=true)
  (xi6:xj K Xl6 f36=true)
  (xy6:v9 K Xl6=true)
  (xd6:T7 K Xl6=true)
  (xna6_0:T8 K (.ref Xl6) "view"=some none)
  (xe0:UJ K Xl0 Dl "ValueError.__new__"=true)
  (xe1:UJ K Xl1 Dl "ValueError.__new__"=true)
  (xe2:UJ K Xl2 Dl "ValueError.__new__"=true)
  (xe3:UJ K Xl3 Dl "ValueError.__new__"=true)
  (xe4:UJ K Xl4 Dl "ValueError.__new__"=true)
  (xe5:UJ K Xl5 Dl "ValueError.__new__"=true)
  (xe7:UJ K Xl7 Dl "ValueError.__new__"=true)
  (xsg:UD K (.builtin "object.__class__") "__get__"=some (some (.builtin "getset_descriptor.__get__")))
  (xtk:UE K (.builtin "object.__class__")=some true)
  (xg1:T8 K (.ref Xl1) "__getattribute__"=some (some (.builtin "BaseException.__getattribute__")))
  (xn1:T8 K (.ref Xl1) "__getattr__"=some none)
  (xf1:T8 K (.ref Xl1) "__class__"=some (some (.builtin "object.__class__")))
  (xb1:UG K Xl1 (.type "BaseException")=some true)
  (xg0:T8 K (.ref Xl0) "__getattribute__"=some (some (.builtin "BaseException.__getattribute__")))
  (xn0:T8 K (.ref Xl0) "__getattr__"=some none)
  (xf0:T8 K (.ref Xl0) "__class__"=some (some (.builtin "object.__class__")))
  (xb0:UG K Xl0 (.type "BaseException")=some true)
  (xg3:T8 K (.ref Xl3) "__getattribute__"=some (some (.builtin "BaseException.__getattribute__")))
  (xn3:T8 K (.ref Xl3) "__getattr__"=some none)
  (xf3:T8 K (.ref Xl3) "__class__"=some (some (.builtin "object.__class__")))
  (xb3:UG K Xl3 (.type "BaseException")=some true)
  (xg5:T8 K (.ref Xl5) "__getattribute__"=some (some (.builtin "BaseException.__getattribute__")))
  (xn5:T8 K (.ref Xl5) "__getattr__"=some none)
  (xf5:T8 K (.ref Xl5) "__class__"=some (some (.builtin "object.__class__")))
  (xb5:UG K Xl5 (.type "BaseException")=some true)
  (xg7:T8 K (.ref Xl7) "__getattribute__"=some (some (.builtin "BaseException.__getattribute__")))
  (xn7:T8 K (.ref Xl7) "__getattr__"=some none)
  (xf7:T8 K (.ref Xl7) "__class__"=some (some (.builtin "object.__class__")))
  (xb7:UG K Xl7 (.type "BaseException")=some true)
  (xg2:T8 K (.ref Xl2) "__getattribute__"=some (some (.builtin "BaseException.__getattribute__")))
  (xn2:T8 K (.ref Xl2) "__getattr__"=some none)
  (xf2:T8 K (.ref Xl2) "__class__"=some (some (.builtin "object.__class__")))
  (xb2:UG K Xl2 (.type "BaseException")=some true)
  (xg4:T8 K (.ref Xl4) "__getattribute__"=some (some (.builtin "BaseException.__getattribute__")))
  (xn4:T8 K (.ref Xl4) "__getattr__"=some none)
  (xf4:T8 K (.ref Xl4) "__class__"=some (some (.builtin "object.__class__")))
  (xb4:UG K Xl4 (.type "BaseException")=some true)
  (xg6:T8 K (.ref Xl6) "__getattribute__"=some (some (.builtin "BaseException.__getattribute__")))
  (xn6:T8 K (.ref Xl6) "__getattr__"=some none)
  (xf6:T8 K (.ref Xl6) "__class__"=some (some (.builtin "object.__class__")))
  (xb6:UG K Xl6 (.type "BaseException")=some true)
  (xo0:UG K Xl0 (.type "object")=some true)
  (xt0:Uh K (.ref Xl0)=some (.type "type"))
  (xo1:UG K Xl1 (.type "object")=some true)
  (xt1:Uh K (.ref Xl1)=some (.type "type"))
  (xo2:UG K Xl2 (.type "object")=some true)
  (xt2:Uh K (.ref Xl2)=some (.type "type"))
  (xo3:UG K Xl3 (.type "object")=some true)
  (xt3:Uh K (.ref Xl3)=some (.type "type"))
  (xo4:UG K Xl4 (.type "object")=some true)
  (xt4:Uh K (.ref Xl4)=some (.type "type"))
  (xo5:UG K Xl5 (.type "object")=some true)
  (xt5:Uh K (.ref Xl5)=some (.type "type"))
  (xo6:UG K Xl6 (.type "object")=some true)
  (xt6:Uh K (.ref Xl6)=some (.type "type"))
  (xo7:UG K Xl7 (.type "object")=some true)
  (xt7:Uh K (.ref Xl7)=some (.type "type"))
  (xo8:UG K Xl8 (.type "object")=some true)
  (xt8:Uh K (.ref Xl8)=some (.type "type"))
  (xw8:UC K (.ref Xl8) (.type "BaseException")=some true)
  (xm8_1:UC K (.ref Xl1) (.ref Xl8)=some true)
  (xm8_0:UC K (.ref Xl0) (.ref Xl8)=some true)
  (xm8_3:UC K (.ref Xl3) (.ref Xl8)=some true)
  (xm8_5:UC K (.ref Xl5) (.ref Xl8)=some true)
  (xm8_7:UC K (.ref Xl7) (.ref Xl8)=some true)
  (xm8_2:UC K (.ref Xl2) (.ref Xl8)=some true)
  (xm8_4:UC K (.ref Xl4) (.ref Xl8)=some true)
  (xm8_6:UC K (.ref Xl6) (.ref Xl8)=some true)
  (dd0:KDs K [("_law_is_leaf",top 72),("renamed",top 58),("kind_at",top 32),("names_of",top 21),("place_of",top 22),("both_words",top 16),("both_numbers",top 15),("both",top 14),("is_behind",top 60),("same_parts",top 59),("instead",top 57),("kinds_of",top 13),("depth_of",top 23),("is_whole",top 12),("replaced",top 34),("in_key",top 33),("with_fields",top 35),("least",top 17),("least_row",top 30),("named_elsewhere",top 36),("written",top 39),("is_idle",top 56),("laid_over",top 55),("thin",top 54),("thinned",top 53),("_law_thinned",top 74),("_law_is_rename",top 73),("_law_twelves",top 66),("_law_nests",top 78),("_law_parts",top 77)])
  (dd1:KDs K [("_law_in_both",top 70),("_law_sieve_kind",top 71),("_law_sieves",top 76),("_law_renames",top 75),("_law_next",top 63),("_law_cell_at",top 62),("_law_seed",top 64),("_law_name",top 65),("_law_words",top 67),("_law_leaf_kind",top 68),("_law_leaf_form",top 69)])
  (zz:KZs K ["isinstance","tuple","enumerate","max","min","len","int","bool","any","str","range","sorted","list"])
  (ke0:Uw K Vn "MOST_WITHIN"=some (some (.int 3 tk0)))
  (ke1:Uw K Vn "MOST_FIELDS"=some (some (.int 8 tk1)))
  (ke2:Uw K Vn "LEAST_BY"=some (some (.int 2 tk2)))
  (ke3:Uw K Vn "MOST_BY"=some (some (.int 1000000000 tk3))):
  ∃fd:VU,(∀(s:Vh)(v:Vc),VW s fd ⟨[v],[]⟩ [("_law_script",v)])/\∀base:Vl,K.In base->base.Ns Vn mg->hJ l.prog w K mg base (lX l.prog w) 56 fa fd ["_law_script"] (Ae K 1 (aj oC 1 7)):=by
 have e:=hfa.symm.trans (UO X G a26);cases e;have c_MOST_WITHIN:∃t,mg "MOST_WITHIN"=some (.int 3 t):=⟨_,UO X G ke0⟩
 have c_MOST_FIELDS:∃t,mg "MOST_FIELDS"=some (.int 8 t):=⟨_,UO X G ke1⟩
 have c_LEAST_BY:∃t,mg "LEAST_BY"=some (.int 2 t):=⟨_,UO X G ke2⟩
 have c_MOST_BY:∃t,mg "MOST_BY"=some (.int 1000000000 t):=⟨_,UO X G ke3⟩
 have F0:=bp (st:=(inClass (top 38) 4)) l0 c0 k0;have F1:=bp (st:=(inClass (top 42) 5)) l1 c1 k1;have F2:=bp (st:=(inClass (top 51) 5)) l2 c2 k2;have F3:=bp (st:=(inClass (top 26) 2)) l3 c3 k3;have F4:=bp (st:=(inClass (top 26) 1)) l4 c4 k4;have F5:=bp (st:=(inClass (top 27) 1)) l5 c5 k5;have F6:=bp (st:=(inClass (top 28) 1)) l6 c6 k6;have F7:=bp (st:=(inClass (top 38) 1)) l7 c7 k7;have F8:=bp (st:=(inClass (top 41) 2)) l8 c8 k8;have F9:=bp (st:=(inClass (top 42) 2)) l9 c9 k9;have F10:=bp (st:=(inClass (top 46) 4)) l10 c10 k10;have F11:=bp (st:=(inClass (top 46) 3)) l11 c11 k11;have F12:=bp (st:=(inClass (top 46) 2)) l12 c12 k12;have F13:=bp (st:=(inClass (top 47) 3)) l13 c13 k13;have F14:=bp (st:=(inClass (top 47) 2)) l14 c14 k14;have F15:=bp (st:=(inClass (top 49) 2)) l15 c15 k15;have F16:=bp (st:=(inClass (top 51) 2)) l16 c16 k16;have F17:=bp (st:=(inClass (top 27) 2)) l17 c17 k17;have F18:=bp (st:=(inClass (top 28) 2)) l18 c18 k18;have F19:=bp (st:=(inClass (top 38) 0)) l19 c19 k19;have F20:=bp (st:=(inClass (top 41) 1)) l20 c20 k20;have F21:=bp (st:=(inClass (top 42) 1)) l21 c21 k21;have F22:=bp (st:=(inClass (top 46) 1)) l22 c22 k22;have F23:=bp (st:=(inClass (top 47) 1)) l23 c23 k23;have F24:=bp (st:=(inClass (top 49) 1)) l24 c24 k24;have F25:=bp (st:=(inClass (top 51) 1)) l25 c25 k25;have F26:=bp (st:=(top 79)) l26 c26 k26;have F27:=bp (st:=(inClass (top 49) 0)) l27 c27 k27;have b27:=F27.binds (ps:=["self","old","new"]) λ_ _ _ _ _ _ us hl=>by obtain⟨u0,u1,u2,rfl⟩:=zL hl;rfl
 have F28:=bp (st:=(inClass (top 51) 0)) l28 c28 k28;have b28:=F28.binds (ps:=["self","name","kind"]) λ_ _ _ _ _ _ us hl=>by obtain⟨u0,u1,u2,rfl⟩:=zL hl;rfl
 have F29:=bp (st:=(inClass (top 27) 0)) l29 c29 k29;have b29:=F29.binds (ps:=["self","glass","step"]) λ_ _ _ _ _ _ us hl=>by obtain⟨u0,u1,u2,rfl⟩:=zL hl;rfl
 have F30:=bp (st:=(inClass (top 28) 0)) l30 c30 k30;have b30:=F30.binds (ps:=["self","one","other","pair"]) λ_ _ _ _ _ _ us hl=>by obtain⟨u0,u1,u2,u3,rfl⟩:=Jg hl;rfl
 have F31:=bp (st:=(inClass (top 26) 0)) l31 c31 k31;have b31:=F31.binds (ps:=["self","name"]) λ_ _ _ _ _ _ us hl=>by obtain⟨u0,u1,rfl⟩:=CY hl;rfl
 have F32:=bp (st:=(inClass (top 42) 0)) l32 c32 k32;have b32:=F32.binds (ps:=["self","name"]) λ_ _ _ _ _ _ us hl=>by obtain⟨u0,u1,rfl⟩:=CY hl;rfl
 have F33:=bp (st:=(inClass (top 41) 0)) l33 c33 k33;have b33:=F33.binds (ps:=["self","many","name"]) λ_ _ _ _ _ _ us hl=>by obtain⟨u0,u1,u2,rfl⟩:=zL hl;rfl
 have F34:=bp (st:=(inClass (top 47) 0)) l34 c34 k34;have b34:=F34.binds (ps:=["self","quotient","rest","by","name"]) λ_ _ _ _ _ _ us hl=>by obtain⟨u0,u1,u2,u3,u4,rfl⟩:=HN hl;rfl
 have F35:=bp (st:=(inClass (top 46) 0)) l35 c35 k35;have b35:=F35.binds (ps:=["self","name","by","quotient","rest"]) λ_ _ _ _ _ _ us hl=>by obtain⟨u0,u1,u2,u3,u4,rfl⟩:=HN hl;rfl
 have F36:=bp (st:=(inClass (top 10) 0)) l36 c36 k36;have b36:=F36.binds (ps:=["self","view"]) λ_ _ _ _ _ _ us hl=>by obtain⟨u0,u1,rfl⟩:=CY hl;rfl
 have cl0:kN K Cl0:=⟨p0,q0,r0,s0⟩
 have cl1:kN K Cl1:=⟨p1,q1,r1,s1⟩
 have cl2:kN K Cl2:=⟨p2,q2,r2,s2⟩
 have cl3:kN K Cl3:=⟨p3,q3,r3,s3⟩
 have cl4:kN K Cl4:=⟨p4,q4,r4,s4⟩
 have cl5:kN K Cl5:=⟨p5,q5,r5,s5⟩
 have cl6:kN K Cl6:=⟨p6,q6,r6,s6⟩
 have cl7:kN K Cl7:=⟨p7,q7,r7,s7⟩
 have cl8:kN K Cl8:=⟨p8,q8,r8,s8⟩
 have cl9:kN K Cl9:=⟨p9,q9,r9,s9⟩
 have dF:bj K "name" ["Leaf","Nest","Unnest","Part","Fuse","Sieve"]:=by
  intro c hc C hC;simp only[SU,Tq,or_false]at hc;rcases hc with rfl|rfl|rfl|rfl|rfl|rfl
  ·cases ai hC ac0;exact⟨cl0,n0_0⟩
  ·cases ai hC ac1;exact⟨cl1,n1_1⟩
  ·cases ai hC ac2;exact⟨cl2,n2_0⟩
  ·cases ai hC ac3;exact⟨cl3,n3_0⟩
  ·cases ai hC ac4;exact⟨cl4,n4_3⟩
  ·cases ai hC ac5;exact⟨cl5,n5_0⟩
 have qB:bj K "name" ["Unnest"]:=by
  intro c hc C hC;simp only[SU,Tq,or_false]at hc;rcases hc with rfl
  ·cases ai hC ac2;exact⟨cl2,n2_0⟩
 have qS:bj K "name" ["Sieve"]:=by
  intro c hc C hC;simp only[SU,Tq,or_false]at hc;rcases hc with rfl
  ·cases ai hC ac5;exact⟨cl5,n5_0⟩
 have qZ:bj K "kind" ["Sieve"]:=by
  intro c hc C hC;simp only[SU,Tq,or_false]at hc;rcases hc with rfl
  ·cases ai hC ac5;exact⟨cl5,n5_1⟩
 have mn:bj K "rest" ["Part","Fuse"]:=by
  intro c hc C hC;simp only[SU,Tq,or_false]at hc;rcases hc with rfl|rfl
  ·cases ai hC ac3;exact⟨cl3,n3_3⟩
  ·cases ai hC ac4;exact⟨cl4,n4_1⟩
 have jQ:bj K "quotient" ["Part","Fuse"]:=by
  intro c hc C hC;simp only[SU,Tq,or_false]at hc;rcases hc with rfl|rfl
  ·cases ai hC ac3;exact⟨cl3,n3_2⟩
  ·cases ai hC ac4;exact⟨cl4,n4_0⟩
 have pc:bj K "by" ["Part","Fuse"]:=by
  intro c hc C hC;simp only[SU,Tq,or_false]at hc;rcases hc with rfl|rfl
  ·cases ai hC ac3;exact⟨cl3,n3_1⟩
  ·cases ai hC ac4;exact⟨cl4,n4_2⟩
 have qL:bj K "new" ["Rename"]:=by
  intro c hc C hC;simp only[SU,Tq,or_false]at hc;rcases hc with rfl
  ·cases ai hC ac8;exact⟨cl8,n8_1⟩
 have qR:bj K "old" ["Rename"]:=by
  intro c hc C hC;simp only[SU,Tq,or_false]at hc;rcases hc with rfl
  ·cases ai hC ac8;exact⟨cl8,n8_0⟩
 have tV:bj K "many" ["Nest"]:=by
  intro c hc C hC;simp only[SU,Tq,or_false]at hc;rcases hc with rfl
  ·cases ai hC ac1;exact⟨cl1,n1_0⟩
 have t4:bj K "name" ["Leaf"]:=by
  intro c hc C hC;simp only[SU,Tq,or_false]at hc;rcases hc with rfl
  ·cases ai hC ac0;exact⟨cl0,n0_0⟩
 have qN:bj K "glass" ["Over"]:=by
  intro c hc C hC;simp only[SU,Tq,or_false]at hc;rcases hc with rfl
  ·cases ai hC ac6;exact⟨cl6,n6_0⟩
 have vH:bj K "one" ["Both"]:=by
  intro c hc C hC;simp only[SU,Tq,or_false]at hc;rcases hc with rfl
  ·cases ai hC ac7;exact⟨cl7,n7_0⟩
 have ra:bj K "other" ["Both"]:=by
  intro c hc C hC;simp only[SU,Tq,or_false]at hc;rcases hc with rfl
  ·cases ai hC ac7;exact⟨cl7,n7_1⟩
 have uB:bj K "name" ["Nest"]:=by
  intro c hc C hC;simp only[SU,Tq,or_false]at hc;rcases hc with rfl
  ·cases ai hC ac1;exact⟨cl1,n1_1⟩
 have wg:bj K "by" ["Part"]:=by
  intro c hc C hC;simp only[SU,Tq,or_false]at hc;rcases hc with rfl
  ·cases ai hC ac3;exact⟨cl3,n3_1⟩
 have n5:bj K "quotient" ["Part"]:=by
  intro c hc C hC;simp only[SU,Tq,or_false]at hc;rcases hc with rfl
  ·cases ai hC ac3;exact⟨cl3,n3_2⟩
 have tD:bj K "rest" ["Part"]:=by
  intro c hc C hC;simp only[SU,Tq,or_false]at hc;rcases hc with rfl
  ·cases ai hC ac3;exact⟨cl3,n3_3⟩
 have uA:bj K "name" ["Part"]:=by
  intro c hc C hC;simp only[SU,Tq,or_false]at hc;rcases hc with rfl
  ·cases ai hC ac3;exact⟨cl3,n3_0⟩
 have wN:bj K "by" ["Fuse"]:=by
  intro c hc C hC;simp only[SU,Tq,or_false]at hc;rcases hc with rfl
  ·cases ai hC ac4;exact⟨cl4,n4_2⟩
 have nY:bj K "quotient" ["Fuse"]:=by
  intro c hc C hC;simp only[SU,Tq,or_false]at hc;rcases hc with rfl
  ·cases ai hC ac4;exact⟨cl4,n4_0⟩
 have uD:bj K "rest" ["Fuse"]:=by
  intro c hc C hC;simp only[SU,Tq,or_false]at hc;rcases hc with rfl
  ·cases ai hC ac4;exact⟨cl4,n4_1⟩
 have uc:bj K "name" ["Fuse"]:=by
  intro c hc C hC;simp only[SU,Tq,or_false]at hc;rcases hc with rfl
  ·cases ai hC ac4;exact⟨cl4,n4_3⟩
 have uy:bj K "step" ["Over"]:=by
  intro c hc C hC;simp only[SU,Tq,or_false]at hc;rcases hc with rfl
  ·cases ai hC ac6;exact⟨cl6,n6_1⟩
 have uf:bj K "pair" ["Both"]:=by
  intro c hc C hC;simp only[SU,Tq,or_false]at hc;rcases hc with rfl
  ·cases ai hC ac7;exact⟨cl7,n7_2⟩
 refine⟨Ut "law" "law" (jr (top 79)) (eA (top 79)) (aB (top 79)) .none kV26 dc26 pm26 an26 cd26 ct26,λs v=>.of_eq rfl,λbase _ _=>?_⟩;have Y_Leaf:fj K mg "Leaf" ["Leaf"] ["Over","Both"]:=by
  refine⟨_,UO X G ac0,λc hc D hD=>?_,λc hc D hD=>?_⟩<;>simp only[SU,Tq,or_false]at hc
  ·rcases hc with rfl;cases ai hD ac0;exact yy0_0
  ·rcases hc with rfl|rfl
   ·cases ai hD ac6;exact⟨cl6,⟨vn0_6,(by obtain⟨cd,hc,_⟩:=Ue cl0.hd;rw[hc];rfl),vt0,vi0,vs0_6,vf6,vsg,vtk,vm6⟩⟩
   ·cases ai hD ac7;exact⟨cl7,⟨vn0_7,(by obtain⟨cd,hc,_⟩:=Ue cl0.hd;rw[hc];rfl),vt0,vi0,vs0_7,vf7,vsg,vtk,vm7⟩⟩
 have Y_Rename:fj K mg "Rename" ["Rename"] ["Step","Nest","Unnest","Part","Fuse","Sieve"]:=by
  refine⟨_,UO X G ac8,λc hc D hD=>?_,λc hc D hD=>?_⟩<;>simp only[SU,Tq,or_false]at hc
  ·rcases hc with rfl;cases ai hD ac8;exact yy8_8
  ·rcases hc with rfl|rfl|rfl|rfl|rfl|rfl
   ·cases ai hD ac9;exact⟨cl9,⟨vn8_9,(by obtain⟨cd,hc,_⟩:=Ue cl8.hd;rw[hc];rfl),vt8,vi8,vs8_9,vf9,vsg,vtk,vm9⟩⟩
   ·cases ai hD ac1;exact⟨cl1,⟨vn8_1,(by obtain⟨cd,hc,_⟩:=Ue cl8.hd;rw[hc];rfl),vt8,vi8,vs8_1,vf1,vsg,vtk,vm1⟩⟩
   ·cases ai hD ac2;exact⟨cl2,⟨vn8_2,(by obtain⟨cd,hc,_⟩:=Ue cl8.hd;rw[hc];rfl),vt8,vi8,vs8_2,vf2,vsg,vtk,vm2⟩⟩
   ·cases ai hD ac3;exact⟨cl3,⟨vn8_3,(by obtain⟨cd,hc,_⟩:=Ue cl8.hd;rw[hc];rfl),vt8,vi8,vs8_3,vf3,vsg,vtk,vm3⟩⟩
   ·cases ai hD ac4;exact⟨cl4,⟨vn8_4,(by obtain⟨cd,hc,_⟩:=Ue cl8.hd;rw[hc];rfl),vt8,vi8,vs8_4,vf4,vsg,vtk,vm4⟩⟩
   ·cases ai hD ac5;exact⟨cl5,⟨vn8_5,(by obtain⟨cd,hc,_⟩:=Ue cl8.hd;rw[hc];rfl),vt8,vi8,vs8_5,vf5,vsg,vtk,vm5⟩⟩
 have Y_Sieve:fj K mg "Sieve" ["Sieve"] ["Step","Nest","Unnest","Part","Fuse","Rename"]:=by
  refine⟨_,UO X G ac5,λc hc D hD=>?_,λc hc D hD=>?_⟩<;>simp only[SU,Tq,or_false]at hc
  ·rcases hc with rfl;cases ai hD ac5;exact yy5_5
  ·rcases hc with rfl|rfl|rfl|rfl|rfl|rfl
   ·cases ai hD ac9;exact⟨cl9,⟨vn5_9,(by obtain⟨cd,hc,_⟩:=Ue cl5.hd;rw[hc];rfl),vt5,vi5,vs5_9,vf9,vsg,vtk,vm9⟩⟩
   ·cases ai hD ac1;exact⟨cl1,⟨vn5_1,(by obtain⟨cd,hc,_⟩:=Ue cl5.hd;rw[hc];rfl),vt5,vi5,vs5_1,vf1,vsg,vtk,vm1⟩⟩
   ·cases ai hD ac2;exact⟨cl2,⟨vn5_2,(by obtain⟨cd,hc,_⟩:=Ue cl5.hd;rw[hc];rfl),vt5,vi5,vs5_2,vf2,vsg,vtk,vm2⟩⟩
   ·cases ai hD ac3;exact⟨cl3,⟨vn5_3,(by obtain⟨cd,hc,_⟩:=Ue cl5.hd;rw[hc];rfl),vt5,vi5,vs5_3,vf3,vsg,vtk,vm3⟩⟩
   ·cases ai hD ac4;exact⟨cl4,⟨vn5_4,(by obtain⟨cd,hc,_⟩:=Ue cl5.hd;rw[hc];rfl),vt5,vi5,vs5_4,vf4,vsg,vtk,vm4⟩⟩
   ·cases ai hD ac8;exact⟨cl8,⟨vn5_8,(by obtain⟨cd,hc,_⟩:=Ue cl5.hd;rw[hc];rfl),vt5,vi5,vs5_8,vf8,vsg,vtk,vm8⟩⟩
 have Y_Part:fj K mg "Part" ["Part"] ["Step","Nest","Unnest","Fuse","Rename","Sieve"]:=by
  refine⟨_,UO X G ac3,λc hc D hD=>?_,λc hc D hD=>?_⟩<;>simp only[SU,Tq,or_false]at hc
  ·rcases hc with rfl;cases ai hD ac3;exact yy3_3
  ·rcases hc with rfl|rfl|rfl|rfl|rfl|rfl
   ·cases ai hD ac9;exact⟨cl9,⟨vn3_9,(by obtain⟨cd,hc,_⟩:=Ue cl3.hd;rw[hc];rfl),vt3,vi3,vs3_9,vf9,vsg,vtk,vm9⟩⟩
   ·cases ai hD ac1;exact⟨cl1,⟨vn3_1,(by obtain⟨cd,hc,_⟩:=Ue cl3.hd;rw[hc];rfl),vt3,vi3,vs3_1,vf1,vsg,vtk,vm1⟩⟩
   ·cases ai hD ac2;exact⟨cl2,⟨vn3_2,(by obtain⟨cd,hc,_⟩:=Ue cl3.hd;rw[hc];rfl),vt3,vi3,vs3_2,vf2,vsg,vtk,vm2⟩⟩
   ·cases ai hD ac4;exact⟨cl4,⟨vn3_4,(by obtain⟨cd,hc,_⟩:=Ue cl3.hd;rw[hc];rfl),vt3,vi3,vs3_4,vf4,vsg,vtk,vm4⟩⟩
   ·cases ai hD ac8;exact⟨cl8,⟨vn3_8,(by obtain⟨cd,hc,_⟩:=Ue cl3.hd;rw[hc];rfl),vt3,vi3,vs3_8,vf8,vsg,vtk,vm8⟩⟩
   ·cases ai hD ac5;exact⟨cl5,⟨vn3_5,(by obtain⟨cd,hc,_⟩:=Ue cl3.hd;rw[hc];rfl),vt3,vi3,vs3_5,vf5,vsg,vtk,vm5⟩⟩
 have Y_Fuse:fj K mg "Fuse" ["Fuse"] ["Step","Nest","Unnest","Part","Rename","Sieve"]:=by
  refine⟨_,UO X G ac4,λc hc D hD=>?_,λc hc D hD=>?_⟩<;>simp only[SU,Tq,or_false]at hc
  ·rcases hc with rfl;cases ai hD ac4;exact yy4_4
  ·rcases hc with rfl|rfl|rfl|rfl|rfl|rfl
   ·cases ai hD ac9;exact⟨cl9,⟨vn4_9,(by obtain⟨cd,hc,_⟩:=Ue cl4.hd;rw[hc];rfl),vt4,vi4,vs4_9,vf9,vsg,vtk,vm9⟩⟩
   ·cases ai hD ac1;exact⟨cl1,⟨vn4_1,(by obtain⟨cd,hc,_⟩:=Ue cl4.hd;rw[hc];rfl),vt4,vi4,vs4_1,vf1,vsg,vtk,vm1⟩⟩
   ·cases ai hD ac2;exact⟨cl2,⟨vn4_2,(by obtain⟨cd,hc,_⟩:=Ue cl4.hd;rw[hc];rfl),vt4,vi4,vs4_2,vf2,vsg,vtk,vm2⟩⟩
   ·cases ai hD ac3;exact⟨cl3,⟨vn4_3,(by obtain⟨cd,hc,_⟩:=Ue cl4.hd;rw[hc];rfl),vt4,vi4,vs4_3,vf3,vsg,vtk,vm3⟩⟩
   ·cases ai hD ac8;exact⟨cl8,⟨vn4_8,(by obtain⟨cd,hc,_⟩:=Ue cl4.hd;rw[hc];rfl),vt4,vi4,vs4_8,vf8,vsg,vtk,vm8⟩⟩
   ·cases ai hD ac5;exact⟨cl5,⟨vn4_5,(by obtain⟨cd,hc,_⟩:=Ue cl4.hd;rw[hc];rfl),vt4,vi4,vs4_5,vf5,vsg,vtk,vm5⟩⟩
 have Y_Nest:fj K mg "Nest" ["Nest"] ["Step","Unnest","Part","Fuse","Rename","Sieve"]:=by
  refine⟨_,UO X G ac1,λc hc D hD=>?_,λc hc D hD=>?_⟩<;>simp only[SU,Tq,or_false]at hc
  ·rcases hc with rfl;cases ai hD ac1;exact yy1_1
  ·rcases hc with rfl|rfl|rfl|rfl|rfl|rfl
   ·cases ai hD ac9;exact⟨cl9,⟨vn1_9,(by obtain⟨cd,hc,_⟩:=Ue cl1.hd;rw[hc];rfl),vt1,vi1,vs1_9,vf9,vsg,vtk,vm9⟩⟩
   ·cases ai hD ac2;exact⟨cl2,⟨vn1_2,(by obtain⟨cd,hc,_⟩:=Ue cl1.hd;rw[hc];rfl),vt1,vi1,vs1_2,vf2,vsg,vtk,vm2⟩⟩
   ·cases ai hD ac3;exact⟨cl3,⟨vn1_3,(by obtain⟨cd,hc,_⟩:=Ue cl1.hd;rw[hc];rfl),vt1,vi1,vs1_3,vf3,vsg,vtk,vm3⟩⟩
   ·cases ai hD ac4;exact⟨cl4,⟨vn1_4,(by obtain⟨cd,hc,_⟩:=Ue cl1.hd;rw[hc];rfl),vt1,vi1,vs1_4,vf4,vsg,vtk,vm4⟩⟩
   ·cases ai hD ac8;exact⟨cl8,⟨vn1_8,(by obtain⟨cd,hc,_⟩:=Ue cl1.hd;rw[hc];rfl),vt1,vi1,vs1_8,vf8,vsg,vtk,vm8⟩⟩
   ·cases ai hD ac5;exact⟨cl5,⟨vn1_5,(by obtain⟨cd,hc,_⟩:=Ue cl1.hd;rw[hc];rfl),vt1,vi1,vs1_5,vf5,vsg,vtk,vm5⟩⟩
 have Y_Unnest:fj K mg "Unnest" ["Unnest"] ["Step","Nest","Part","Fuse","Rename","Sieve"]:=by
  refine⟨_,UO X G ac2,λc hc D hD=>?_,λc hc D hD=>?_⟩<;>simp only[SU,Tq,or_false]at hc
  ·rcases hc with rfl;cases ai hD ac2;exact yy2_2
  ·rcases hc with rfl|rfl|rfl|rfl|rfl|rfl
   ·cases ai hD ac9;exact⟨cl9,⟨vn2_9,(by obtain⟨cd,hc,_⟩:=Ue cl2.hd;rw[hc];rfl),vt2,vi2,vs2_9,vf9,vsg,vtk,vm9⟩⟩
   ·cases ai hD ac1;exact⟨cl1,⟨vn2_1,(by obtain⟨cd,hc,_⟩:=Ue cl2.hd;rw[hc];rfl),vt2,vi2,vs2_1,vf1,vsg,vtk,vm1⟩⟩
   ·cases ai hD ac3;exact⟨cl3,⟨vn2_3,(by obtain⟨cd,hc,_⟩:=Ue cl2.hd;rw[hc];rfl),vt2,vi2,vs2_3,vf3,vsg,vtk,vm3⟩⟩
   ·cases ai hD ac4;exact⟨cl4,⟨vn2_4,(by obtain⟨cd,hc,_⟩:=Ue cl2.hd;rw[hc];rfl),vt2,vi2,vs2_4,vf4,vsg,vtk,vm4⟩⟩
   ·cases ai hD ac8;exact⟨cl8,⟨vn2_8,(by obtain⟨cd,hc,_⟩:=Ue cl2.hd;rw[hc];rfl),vt2,vi2,vs2_8,vf8,vsg,vtk,vm8⟩⟩
   ·cases ai hD ac5;exact⟨cl5,⟨vn2_5,(by obtain⟨cd,hc,_⟩:=Ue cl2.hd;rw[hc];rfl),vt2,vi2,vs2_5,vf5,vsg,vtk,vm5⟩⟩
 have Y_Over:fj K mg "Over" ["Over"] ["Leaf","Both"]:=by
  refine⟨_,UO X G ac6,λc hc D hD=>?_,λc hc D hD=>?_⟩<;>simp only[SU,Tq,or_false]at hc
  ·rcases hc with rfl;cases ai hD ac6;exact yy6_6
  ·rcases hc with rfl|rfl
   ·cases ai hD ac0;exact⟨cl0,⟨vn6_0,(by obtain⟨cd,hc,_⟩:=Ue cl6.hd;rw[hc];rfl),vt6,vi6,vs6_0,vf0,vsg,vtk,vm0⟩⟩
   ·cases ai hD ac7;exact⟨cl7,⟨vn6_7,(by obtain⟨cd,hc,_⟩:=Ue cl6.hd;rw[hc];rfl),vt6,vi6,vs6_7,vf7,vsg,vtk,vm7⟩⟩
 have Y_Both:fj K mg "Both" ["Both"] ["Leaf","Over"]:=by
  refine⟨_,UO X G ac7,λc hc D hD=>?_,λc hc D hD=>?_⟩<;>simp only[SU,Tq,or_false]at hc
  ·rcases hc with rfl;cases ai hD ac7;exact yy7_7
  ·rcases hc with rfl|rfl
   ·cases ai hD ac0;exact⟨cl0,⟨vn7_0,(by obtain⟨cd,hc,_⟩:=Ue cl7.hd;rw[hc];rfl),vt7,vi7,vs7_0,vf0,vsg,vtk,vm0⟩⟩
   ·cases ai hD ac6;exact⟨cl6,⟨vn7_6,(by obtain⟨cd,hc,_⟩:=Ue cl7.hd;rw[hc];rfl),vt7,vi7,vs7_6,vf6,vsg,vtk,vm6⟩⟩
 have E_NoField:ExcAt K mg "NoField":=⟨_,xa0,UO X G xa0,xe0⟩
 have E_NoTable:ExcAt K mg "NoTable":=⟨_,xa1,UO X G xa1,xe1⟩
 have E_NoKey:ExcAt K mg "NoKey":=⟨_,xa2,UO X G xa2,xe2⟩
 have E_Twice:ExcAt K mg "Twice":=⟨_,xa3,UO X G xa3,xe3⟩
 have E_TooMany:ExcAt K mg "TooMany":=⟨_,xa4,UO X G xa4,xe4⟩
 have E_NoKind:ExcAt K mg "NoKind":=⟨_,xa5,UO X G xa5,xe5⟩
 have E_Nothing:ExcAt K mg "Nothing":=⟨_,xa7,UO X G xa7,xe7⟩
 have xK1:vg K Xl1:=⟨xg1,xn1,xf1,xsg,xtk,xo1,xb1⟩
 have xK0:vg K Xl0:=⟨xg0,xn0,xf0,xsg,xtk,xo0,xb0⟩
 have xK3:vg K Xl3:=⟨xg3,xn3,xf3,xsg,xtk,xo3,xb3⟩
 have xK5:vg K Xl5:=⟨xg5,xn5,xf5,xsg,xtk,xo5,xb5⟩
 have xK7:vg K Xl7:=⟨xg7,xn7,xf7,xsg,xtk,xo7,xb7⟩
 have xK2:vg K Xl2:=⟨xg2,xn2,xf2,xsg,xtk,xo2,xb2⟩
 have xK4:vg K Xl4:=⟨xg4,xn4,xf4,xsg,xtk,xo4,xb4⟩
 have xK6:vg K Xl6:=⟨xg6,xn6,xf6,xsg,xtk,xo6,xb6⟩
 have RI_Torn:=wD (P:=l.prog) (w:=w) (base:=base) xa6 (Hx xi6 (beq_iff_eq.mp i36) ⟨xs6,xy6,xd6⟩ xp6) (by intro g hg;simp only[SU,Tq,or_false]at hg;rcases hg with rfl<;>first|exact xna6_0) F36 b36 (UO X G xa6);have T_GlassError:uW K mg "GlassError" ["NoTable","NoField","Twice","NoKind","Nothing","NoKey","TooMany","Torn"]:=B3 (UO X G xa8) (by
  intro c hc;simp only[SU,Tq,or_false]at hc;rcases hc with rfl|rfl|rfl|rfl|rfl|rfl|rfl|rfl
  ·exact⟨_,xa1,iq xw8 xm8_1 xo8 xt8⟩
  ·exact⟨_,xa0,iq xw8 xm8_0 xo8 xt8⟩
  ·exact⟨_,xa3,iq xw8 xm8_3 xo8 xt8⟩
  ·exact⟨_,xa5,iq xw8 xm8_5 xo8 xt8⟩
  ·exact⟨_,xa7,iq xw8 xm8_7 xo8 xt8⟩
  ·exact⟨_,xa2,iq xw8 xm8_2 xo8 xt8⟩
  ·exact⟨_,xa4,iq xw8 xm8_4 xo8 xt8⟩
  ·exact⟨_,xa6,iq xw8 xm8_6 xo8 xt8⟩)
 have N_Step:AF K mg "Step":=⟨_,ac9,⟨m9,o9,kp9⟩,UO X G ac9⟩
 have Bj:=uI (P:=l.prog) (w:=w) (base:=base) ac8 ⟨m8,a27,i27,kp8⟩ cl8 (by intro g hg;simp only[SU,Tq,or_false]at hg;rcases hg with rfl|rfl<;>first|exact n8_0|exact n8_1) F27 b27 (UO X G ac8);have ER:=wA (P:=l.prog) (w:=w) (base:=base) ac5 ⟨m5,a28,i28,kp5⟩ cl5 (by intro g hg;simp only[SU,Tq,or_false]at hg;rcases hg with rfl|rfl<;>first|exact n5_0|exact n5_1) F28 b28 (UO X G ac5);have HJ:=zx (P:=l.prog) (w:=w) (base:=base) ac6 ⟨m6,a29,i29,kp6⟩ cl6 (by intro g hg;simp only[SU,Tq,or_false]at hg;rcases hg with rfl|rfl<;>first|exact n6_0|exact n6_1) F29 b29 (UO X G ac6);have GL:=Au (P:=l.prog) (w:=w) (base:=base) ac7 ⟨m7,a30,i30,kp7⟩ cl7 (by intro g hg;simp only[SU,Tq,or_false]at hg;rcases hg with rfl|rfl|rfl<;>first|exact n7_0|exact n7_1|exact n7_2) F30 b30 (UO X G ac7);have GU:=yL (P:=l.prog) (w:=w) (base:=base) ac0 ⟨m0,a31,i31,kp0⟩ cl0 (by intro g hg;simp only[SU,Tq,or_false]at hg;rcases hg with rfl;exact n0_0) F31 b31 (UO X G ac0);have BC:=vA (P:=l.prog) (w:=w) (base:=base) ac2 ⟨m2,a32,i32,kp2⟩ cl2 (by intro g hg;simp only[SU,Tq,or_false]at hg;rcases hg with rfl;exact n2_0) F32 b32 (UO X G ac2);have Ha:=zE (P:=l.prog) (w:=w) (base:=base) ac1 ⟨m1,a33,i33,kp1⟩ cl1 (by intro g hg;simp only[SU,Tq,or_false]at hg;rcases hg with rfl|rfl<;>first|exact n1_0|exact n1_1) F33 b33 (UO X G ac1);have Jb:=zA (P:=l.prog) (w:=w) (base:=base) ac4 ⟨m4,a34,i34,kp4⟩ cl4 (by intro g hg;simp only[SU,Tq,or_false]at hg;rcases hg with rfl|rfl|rfl|rfl<;>first|exact n4_0|exact n4_1|exact n4_2|exact n4_3) F34 b34 (UO X G ac4);have HQ:=zh (P:=l.prog) (w:=w) (base:=base) ac3 ⟨m3,a35,i35,kp3⟩ cl3 (by intro g hg;simp only[SU,Tq,or_false]at hg;rcases hg with rfl|rfl|rfl|rfl<;>first|exact n3_0|exact n3_1|exact n3_2|exact n3_3) F35 b35 (UO X G ac3)
 let u:U:=⟨l.prog,w,K,mg,base,(0:Nat),(0:Nat)⟩
 have q0:Q0 u:=⟨⟨⟨⟨⟨⟨⟨⟨⟨⟨⟨⟨⟨⟨⟨⟨⟨⟨⟨⟨⟨⟨⟨⟨⟨⟨⟨⟨⟨⟨⟨⟨⟨⟨⟨⟨⟨⟨⟨⟨⟨⟨⟨⟨⟨⟨⟨⟨⟨⟨⟨⟨⟨⟨⟨⟨⟨⟨⟨⟨⟨⟨⟨⟨⟨⟨⟨⟨⟨⟨⟨⟨⟨⟨⟨⟨⟨⟨⟨⟨⟨⟨⟨⟨⟨⟨⟨(Mz.of X G (Mz.of X G (Zs.of X G zz) dd0) dd1),c_MOST_WITHIN⟩,c_MOST_FIELDS⟩,c_LEAST_BY⟩,c_MOST_BY⟩,dF⟩,qB⟩,qS⟩,qZ⟩,mn⟩,jQ⟩,pc⟩,qL⟩,qR⟩,tV⟩,t4⟩,qN⟩,vH⟩,ra⟩,uB⟩,wg⟩,n5⟩,tD⟩,uA⟩,wN⟩,nY⟩,uD⟩,uc⟩,uy⟩,uf⟩,Bj⟩,ER⟩,HJ⟩,GL⟩,GU⟩,BC⟩,Ha⟩,Jb⟩,HQ⟩,N_Step⟩,Y_Leaf⟩,Y_Rename⟩,Y_Sieve⟩,Y_Part⟩,Y_Fuse⟩,Y_Nest⟩,Y_Unnest⟩,Y_Over⟩,Y_Both⟩,RI_Torn⟩,E_NoField⟩,E_NoTable⟩,E_NoKey⟩,E_Twice⟩,E_TooMany⟩,E_NoKind⟩,E_Nothing⟩,T_GlassError⟩,⟨_,_,_,ac1,cl1,⟨a0,i0,k0⟩,F0⟩⟩,⟨_,_,_,ac3,cl3,⟨a0_3,i0,k0⟩,F0⟩⟩,⟨_,_,_,ac4,cl4,⟨a0_4,i0,k0⟩,F0⟩⟩,⟨_,_,_,ac8,cl8,⟨a0_8,i0,k0⟩,F0⟩⟩,⟨_,_,_,ac9,cl9,⟨a0_9,i0,k0⟩,F0⟩⟩,⟨_,_,_,ac2,cl2,⟨a1,i1,k1⟩,F1⟩⟩,⟨_,_,_,ac5,cl5,⟨a2,i2,k2⟩,F2⟩⟩,⟨_,_,_,ac0,cl0,⟨a3,i3,k3⟩,F3⟩⟩,⟨_,_,_,ac0,cl0,⟨a4,i4,k4⟩,F4⟩⟩,⟨_,_,_,ac6,cl6,⟨a5,i5,k5⟩,F5⟩⟩,⟨_,_,_,ac7,cl7,⟨a6,i6,k6⟩,F6⟩⟩,⟨_,_,_,ac9,cl9,⟨a7,i7,k7⟩,F7⟩⟩,⟨_,_,_,ac1,cl1,⟨a8,i8,k8⟩,F8⟩⟩,⟨_,_,_,ac2,cl2,⟨a9,i9,k9⟩,F9⟩⟩,⟨_,_,_,ac3,cl3,⟨a10,i10,k10⟩,F10⟩⟩,⟨_,_,_,ac3,cl3,⟨a11,i11,k11⟩,F11⟩⟩,⟨_,_,_,ac3,cl3,⟨a12,i12,k12⟩,F12⟩⟩,⟨_,_,_,ac4,cl4,⟨a13,i13,k13⟩,F13⟩⟩,⟨_,_,_,ac4,cl4,⟨a14,i14,k14⟩,F14⟩⟩,⟨_,_,_,ac8,cl8,⟨a15,i15,k15⟩,F15⟩⟩,⟨_,_,_,ac5,cl5,⟨a16,i16,k16⟩,F16⟩⟩,⟨_,_,_,ac6,cl6,⟨a17,i17,k17⟩,F17⟩⟩,⟨_,_,_,ac7,cl7,⟨a18,i18,k18⟩,F18⟩⟩,⟨_,_,_,ac9,cl9,⟨a19,i19,k19⟩,F19⟩⟩,⟨_,_,_,ac1,cl1,⟨a20,i20,k20⟩,F20⟩⟩,⟨_,_,_,ac2,cl2,⟨a21,i21,k21⟩,F21⟩⟩,⟨_,_,_,ac3,cl3,⟨a22,i22,k22⟩,F22⟩⟩,⟨_,_,_,ac4,cl4,⟨a23,i23,k23⟩,F23⟩⟩,⟨_,_,_,ac8,cl8,⟨a24,i24,k24⟩,F24⟩⟩,⟨_,_,_,ac5,cl5,⟨a25,i25,k25⟩,F25⟩⟩
 exact Kt (u:=u) F26 (P0 (Qw (QV (QB (QX (PX (P9 (Qx (Nt (QQ (Rj (Rb (QC (NP (Qo (PZ (QH (Qz (QJ (QN (Qp (PJ (QW (Qq (PN (Rg (PR (ML (PP (Rh (Qc (QS (Ql (QZ (P7 (Qj (Qk (QP (QE (Rf (P5 (Qf (Qe (Qr (Rm (P6 (QD (PV (QL (Qu (Rc (Qn (Qi (e20 (QI (Qs (Ri (QU (P4 (Qh (QK (Qt (Kr (e10 (e9 (e8 (e7 (e6 (e5 (e4 (e3 (e2 (e1 q0)))))))))))))))))))))))))))))))))))))))))))))))))))))))))))))))))))))))))
theorem walk{l:Uv}{q:Vj}{loose:au}{XP:(cu)->Vl->Prop}{YP:Vi->Vl->Prop}{d:DefRec}{K:Params->T3}(hn:l.most=some 63)(hdf:d.params.defaults=[])
  (hY:∀(w:Vi)(h:Vl),YP w h->(K w.params).In h)
  (F:∀ (w:Vi) (mg:cu) (fa:Ve) (h:Vl),(K w.params).In h->h.Ns Vn mg->mg d.name=some (.ref fa) ->
   ∃fd:VU,(∀(s:Vh)(u:Vc),VW s fd ⟨[u],[]⟩ [("_law_script",u)])/\∀base:Vl,(K w.params).In base->base.Ns Vn mg->hJ l.prog w (K w.params) mg base (lX l.prog w) 56 fa fd ["_law_script"] (Ae (K w.params) 1 (aj oC 1 7)))
  (math:∀ns:List Int,ns.length<=63->aj oC 1 7 [.lst (ns.map .int)]=.ok (.bl true)):PySem.W.WalkO q loose XP YP l.row.toRowW d [] (λf vs=>PySem.call f vs):=
 L2.MB (n:=63) (k:=56) (x:="_law_script") (CX:=λw=>lX l.prog w) (sp:=λw=>Ae (K w.params) 1 (aj oC 1 7)) hn (by decide) hdf ⟨rfl,by decide,by decide⟩ hY F
  (λw H a ns hl _ hS=>⟨[],[.lst (ns.map .int)],rfl,⟨trivial,λa h=>nomatch h⟩,by rw[Ft];exact aV.mpr ⟨.ref a,[],rfl,cx.mpr ⟨a,_,rfl,hS,rj ns⟩,cB.mpr rfl⟩,by rw[math ns hl];exact λv H' _ d=>jC.mp d⟩) λ_ _ _ _ _ z=>by obtain⟨_,_,_,_,_,_,_,_,_,_,_,_,_,_,z⟩:=z;exact z
end Tk86
namespace Tk86
open PySem PySem.Spec L2 TG TD T4
local macro_rules|`(‹$x›)=>do if x.raw.isOfKind `num then Lean.Macro.throwUnsupported else `(some (S.val $x))
local macro_rules
 |`(tactic| simp! only[$xs,*])=>`(tactic| simp only[eE,sq,sQ,sS,jF,eS,ge_0,zc,nJ,zR,nE,lg,n8,ni,Al,AA,yV,yF,zP,nu,nW,sy,jf,kI,nX,lm,rJ,ny,nH,kX,n0,iQ,oh,iS,iY,gQ,gR,nh,kW,gP,kR,iI,kE,kP,il,kz,jg,nK,kK,iU,ie,lq,kB,zm,rB,yY,zt,zj,mS,kG,ou,kJ,kY,yX,zg,Tv,Tx,RJ,R7,Si,SA,K0,env0,List.replicate,S6,RO,SY,Nat.reduceAdd,Nat.reduceSub,RH,Sa,mZ,mV,sY,nG,nR,nM,gO,nS,rA,su,rF,nU,iN,iZ,iX,iO,jj,iP,fz,fD,sL,sR,rV,tu,iK,jd,fJ,fH,n6,gM,fK,fM,fS,lK,lI,fX,fN,iJ,iV,lh,kC,eL,kZ,og,oy,kF,kS,gN,if_true,if_false,Tc,Tz,Sf,$xs,*])
theorem gm(j:Int)(h:0<j:=by decide):∀i:Int,cP (.int i) (.int j)=some (.int (i%j)):=λi=>fP (i:=i) h
theorem gd(j:Int)(h:0<j:=by decide)(h':j<10^200:=by decide):∀i:Int,dE (.int i) (.int j)=some (.int (i/j)):=λi=>jX (i:=i) h h'
theorem pK(a c:Bool):(if a=true then(.ok true:R Bool)else .ok c)=.ok (a||c):=by cases a<;>rfl
theorem mK(f:FX)(k:Ks)(ρ:aq):qt f k ρ=o7 (f ρ) k ρ λ_=>k.nx ρ:=nr rfl
theorem j4:(("number":Str)==("number":Str))=true:=by decide +kernel
theorem IK:(("number":Str)==("rows":Str))=false:=by decide +kernel
theorem IU:(("rows":Str)==("rows":Str))=true:=by decide +kernel
theorem Cj:(("word":Str)==("rows":Str))=false:=by decide +kernel
noncomputable abbrev num(lo hi:Int):D:=.tup [.str "number",.int lo,.int hi]
noncomputable abbrev L:=List (Str×D)
theorem yv:(("word":Str)==("number":Str))=false:=by decide +kernel
theorem Aj(kf rf:List D)(ps:List (Str×D))(hl:ps.length<=100)(e:kf++rf=ps.map fld)(hn:(ps.map (·.1)).Nodup)(i:Nat)(nm:Str)(k:D)(hi:ps[i]?=some (nm,k)):
  aj bO 2 4 [.tup [.tup kf,.tup rf],.str nm]=.ok (.int i):=by
 have en:=lF kf rf ps hl e;rw[bB];unfold bO;rw[il,ie];simp! only[en,mX];have di:(eZ 0 (ps.map λp=>D.str p.1))[i]?=some (.tup [.int ((i:Nat):Int),.str nm]):=by
  rw[iH,RX,hi,SY];rfl
 refine rL (Q:=λz=>z=.ok (.int i)) (λ_ ρ=>ρ=[‹.tup [.tup kf,.tup rf]›,‹.str nm›,none,none]) _ 0 i _ _ di ?_ rfl ?_
 ·rintro j d ρ k' hj hd rfl;rw[iH,RX]at hd;have hil:=kM hi;have hjl:j<ps.length:=by omega
  rw[Su hjl]at hd;cases hd;have ne:(ps[j].1==nm)=false:=by
   have h1:=List.pairwise_iff_getElem.mp hn j i (by rw[RK];exact hjl) (by rw[RK];exact hil) hj;rw[TF,TF]at h1;have h2:ps[i]=(nm,k):=(by rw[Su hil]at hi;exact Option.some.inj hi);rw[h2]at h1
   simpa using h1
  refine⟨[‹.tup [.tup kf,.tup rf]›,‹.str nm›,‹.int ((0+j:Nat):Int)›,‹.str ps[j].1›],_,rfl,rfl,?_⟩;simp! only[ne]
 ·rintro ρ k' rfl;refine⟨[‹.tup [.tup kf,.tup rf]›,‹.str nm›,‹.int (i:Int)›,‹.str nm›],rfl,?_⟩;simp! only[BEq.rfl]
structure Fk(K R:L):Prop where
 k1:1<=K.length
 kl:K.length<=7
 rl:R.length<=7
 nd:((K++R).map (·.1)).Nodup
section
variable{K R:L}
theorem Fk.len(F:Fk K R):(K++R).length<=15:=by have:=F.kl;have:=F.rl;rw[R0];omega
theorem Fk.e:K.map fld++R.map fld=(K++R).map fld:=by rw[SE]
theorem Fk.at(F:Fk K R){i:Nat}{x:Str}{k:D}(hi:(K++R)[i]?=some (x,k)):aj bO 2 4 [fm K R,.str x]=.ok (.int i):=Aj (K.map fld) (R.map fld) (K++R) (by have:=F.len;omega) Fk.e F.nd i x k hi
theorem Fk.kd(F:Fk K R){i:Nat}{x:Str}{k:D}(hi:(K++R)[i]?=some (x,k)):aj b9 2 2 [fm K R,.int i]=.ok k:=yQ (K.map fld) (R.map fld) (K++R) (by have:=F.len;omega) Fk.e i x k hi
theorem Fk.nms(F:Fk K R):aj cZ 1 1 [fm K R]=.ok (.tup ((K++R).map λp=>.str p.1)):=lF (K.map fld) (R.map fld) (K++R) (by have:=F.len;omega) Fk.e
theorem Fk.ik(F:Fk K R)(i:Nat):aj fi 2 2 [fm K R,.int i]=.ok (.bl (decide (i<K.length))):=by
 have:=lR (K.map fld) (R.map fld) i
 rw[RK]at this;exact this
theorem vG(ps:L)(x:Str):uJ (.str x) (.tup (ps.map λp=>.str p.1))=some (.bl ((ps.map (·.1)).contains x)):=by
 have:=t8 x (ps.map (·.1))
 rwa [Tr]at this
noncomputable def rk(K:L)(i:Nat)(os:L):L:=if i<K.length then K.take i++os++K.drop (i+1)else K
noncomputable def rr(K R:L)(i:Nat)(os:L):L:=if i<K.length then R else R.take (i-K.length)++os++R.drop (i-K.length+1)
theorem K7(i:Nat)(os:L)(h:i<(K++R).length):rk K i os++rr K R i os=(K++R).take i++os++(K++R).drop (i+1):=by
 unfold rk rr;by_cases z:i<K.length
 ·rw[if_pos z,if_pos z,List.take_append_of_le_length ‹0›,List.drop_append_of_le_length ‹0›];simp only[SR]
 ·rw[if_neg z,if_neg z];have t1:(K++R).take i=K++R.take (i-K.length):=by rw[List.take_append,Tt (l:=K) ‹0›]
  have t2:(K++R).drop (i+1)=R.drop (i-K.length+1):=by rw[List.drop_append,Tu (as:=K) ‹0›,SA,show i+1-K.length=i-K.length+1 by omega]
  rw[t1,t2];simp only[SR]
theorem vI(i:Nat)(p:Str×D)(h:i<(K++R).length):rk K i [p]++rr K R i [p]=(K++R).set i p:=by
 rw[K7 i [p] h,List.set_eq_take_append_cons_drop,if_pos h,SR];rfl
theorem xk(i:Nat)(p:Str×D):(rk K i [p]).length=K.length:=by
 unfold rk;split
 ·rename_i z;rw[R0,R0,RT,R3,R6];omega
 ·rfl
theorem HM(i:Nat)(p:Str×D)(h:i<(K++R).length):(rr K R i [p]).length=R.length:=by
 have:=congrArg List.length (vI i p h)
 rw[R0,SL,R0,xk]at this;omega
theorem mC(F:Fk K R)(i:Nat)(os:L)(ho:os.length<=10):aj aU 3 3 [fm K R,.int i,.tup (os.map fld)]=.ok (fm (rk K i os) (rr K R i os)):=by
 have h:=F.len;rw[R0]at h;have w:=Ao (K.map fld) (R.map fld) (os.map fld) i (by rw[RK,RK,RK];omega);rw[w,RK];unfold fm rk rr;by_cases z:i<K.length
 ·rw[if_pos z,if_pos z,if_pos z,SE,SE,TH,TJ]
 ·rw[if_neg z,if_neg z,if_neg z,SE,SE,TH,TJ]
theorem An{xs:au}(h:xs.Nodup){i:Nat}{n:Str}(hn:∀j,j≠i->xs[j]?≠some n):(xs.set i n).Nodup:=by
 refine List.pairwise_iff_getElem.mpr λa b ha hb hab=>?_;rw[SL]at ha hb;rw[List.getElem_set,List.getElem_set];have w:=List.pairwise_iff_getElem.mp h a b ha hb hab;split
 ·split
  ·omega
  ·exact λz=>hn b ‹0› (by rw[Su hb,z])
 ·split
  ·exact λz=>hn a ‹0› (by rw[Su ha,<-z])
  ·exact w
theorem Fk.set(F:Fk K R){i:Nat}{p:Str×D}(hi:i<(K++R).length)(hp:∀j,j≠i->((K++R).map (·.1))[j]?≠some p.1):Fk (rk K i [p]) (rr K R i [p]):=by
 refine⟨by rw[xk];exact F.k1,by rw[xk];exact F.kl,by rw[HM i p hi];exact F.rl,?_⟩;rw[vI i p hi,List.map_set];exact An F.nd hp
end
theorem fq(m:Str)(tbl:List (Str×(cg)))(c:Str)(fs:au)(vs:List D)(g:cg)(fo:FX)(fas:aW)(ρ:aq)(h:fo ρ=.ok (.obj c fs vs))(l:tbl.lookup c=some g)(hm:fs.contains m=false):cQ m tbl fo fas ρ=(fas ρ).bind λas=>g (.obj c fs vs::as):=by
 unfold cQ;rw[h,eE];simp only[l,hm];rfl
noncomputable abbrev oN(m:Int)(x:Str):D:=.obj "Nest" ["many","name"] [.int m,.str x]
noncomputable abbrev oU(x:Str):D:=.obj "Unnest" ["name"] [.str x]
noncomputable abbrev oP(a:Str)(b:Int)(q r:Str):D:=.obj "Part" ["name","by","quotient","rest"] [.str a,.int b,.str q,.str r]
noncomputable abbrev oF(q r:Str)(b:Int)(a:Str):D:=.obj "Fuse" ["quotient","rest","by","name"] [.str q,.str r,.int b,.str a]
noncomputable abbrev oR(o n:Str):D:=.obj "Rename" ["old","new"] [.str o,.str n]
noncomputable abbrev oV(a:Str)(k:D):D:=.obj "Sieve" ["name","kind"] [.str a,k]
noncomputable abbrev oS:D:=.obj "Step" [] []
noncomputable abbrev leaf(t:Str):D:=.obj "Leaf" ["name"] [.str t]
noncomputable abbrev over(g s:D):D:=.obj "Over" ["glass","step"] [g,s]
noncomputable abbrev Ox:List (Str×(cg)):=[("Step",(aj bS 2 2)),("Nest",(aj bW 2 4)),("Unnest",(aj bD 2 5)),("Part",(aj bH 2 6)),("Fuse",(aj bq 2 6)),("Rename",(aj bC 2 3)),("Sieve",(aj bM 2 5))]
noncomputable abbrev IR(ro rb:cg):List (Str×(cg)):=[("Leaf",(aj bR 2 2)),("Over",ro),("Both",rb)]
noncomputable def So(s:D)(g:cg):Prop:=∃c fs vs,s=.obj c fs vs/\Ox.lookup c=some g/\fs.contains ("view_form":Str)=false
noncomputable def Go(n:Nat)(s:D)(g:cg):Prop:=∃c fs vs,s=.obj c fs vs/\(IR (aC n) (aE n)).lookup c=some g/\fs.contains ("form":Str)=false
theorem LC(m:Int)(x:Str):So (oN m x) (aj bW 2 4):=⟨_,_,_,rfl,by kernel_rfl,by decide +kernel⟩
theorem LQ(x:Str):So (oU x) (aj bD 2 5):=⟨_,_,_,rfl,by kernel_rfl,by decide +kernel⟩
theorem Jd(a:Str)(b:Int)(q r:Str):So (oP a b q r) (aj bH 2 6):=⟨_,_,_,rfl,by kernel_rfl,by decide +kernel⟩
theorem IY(q r:Str)(b:Int)(a:Str):So (oF q r b a) (aj bq 2 6):=⟨_,_,_,rfl,by kernel_rfl,by decide +kernel⟩
theorem KU(o n:Str):So (oR o n) (aj bC 2 3):=⟨_,_,_,rfl,by kernel_rfl,by decide +kernel⟩
theorem tW(a:Str)(k:D):So (oV a k) (aj bM 2 5):=⟨_,_,_,rfl,by kernel_rfl,by decide +kernel⟩
theorem Ny:So oS (aj bS 2 2):=⟨_,_,_,rfl,by kernel_rfl,by decide +kernel⟩
theorem Oj(n:Nat)(t:Str):Go n (leaf t) (aj bR 2 2):=⟨_,_,_,rfl,by kernel_rfl,by decide +kernel⟩
theorem Oc(n:Nat)(g s:D):Go n (over g s) (aC n):=⟨_,_,_,rfl,by kernel_rfl,by decide +kernel⟩
theorem Go.meth{n:Nat}{g:D}{gf:cg}(h:Go n g gf)(fo:FX)(fas:aW)(ρ:aq)(e:fo ρ=.ok g):cQ "form" (IR (aC n) (aE n)) fo fas ρ=(fas ρ).bind λas=>gf (g::as):=by
 obtain⟨c,fs,vs,rfl,l,hm⟩:=h;exact fq "form" _ c fs vs gf fo fas ρ e l hm
theorem So.meth{s:D}{g:cg}(h:So s g)(fo:FX)(fas:aW)(ρ:aq)(e:fo ρ=.ok s):cQ "view_form" Ox fo fas ρ=(fas ρ).bind λas=>g (s::as):=by
 obtain⟨c,fs,vs,rfl,l,hm⟩:=h;exact fq "view_form" _ c fs vs g fo fas ρ e l hm
theorem Gg(r:R D)(ρ:aq):o7 r {nx:=λ_=>.ok D.non} ρ .ok=r:=by
 cases r with
 |ok d=>rfl
 |error x=>cases x<;>rfl
noncomputable def Fm(n:Nat)(g fs:D)(r:R D):Prop:=∃gf,Go n g gf/\gf [g,fs]=r
theorem fY(g s:D):aw "glass" ["Over"] (over g s)=some g:=by rfl
theorem kQ(g s:D):aw "step" ["Over"] (over g s)=some s:=by rfl
section
variable{n:Nat}{g fs s:D}{gv:cg}
theorem Fp{r:R D}(h:Fm n g fs r)(hs:So s gv):Fm (n+1) (over g s) fs (r.bind λf=>gv [s,f]):=by
 obtain⟨gf,hg,e⟩:=h;refine⟨_,Oc _ _ _,?_⟩;have m1:=hs.meth (f1 (aw "step" ["Over"]) (af 0)) (aa (cQ "form" (IR (aC n) (aE n)) (f1 (aw "glass" ["Over"]) (af 0)) (aa (af 1) ah)) ah) [‹over g s›,‹fs›] (by simp! only[kQ]);have m2:=hg.meth (f1 (aw "glass" ["Over"]) (af 0)) (aa (af 1) ah) [‹over g s›,‹fs›] (by simp! only[fY]);rw[fV,bB];unfold ir;cases r with
 |ok f=>simp! only[m1,m2,e,Gg]
 |error x=>simp! only[m1,m2,e,Gg]
theorem kD{f:D}(h:Fm n g fs (.ok f))(hs:So s gv):Fm (n+1) (over g s) fs (gv [s,f]):=Fp h hs
end
theorem Jf(m:Int)(x:Str):aw "many" ["Nest"] (oN m x)=some (.int m):=by rfl
theorem Km(m:Int)(x:Str):aw "name" ["Nest"] (oN m x)=some (.str x):=by rfl
theorem GO(x:Str):aw "name" ["Unnest"] (oU x)=some (.str x):=by rfl
theorem DI(o x:Str):aw "old" ["Rename"] (oR o x)=some (.str o):=by rfl
theorem Fx(o x:Str):aw "new" ["Rename"] (oR o x)=some (.str x):=by rfl
theorem Ld(q r:Str)(b:Int)(a:Str):aw "quotient" ["Fuse"] (oF q r b a)=some (.str q):=by rfl
theorem Kz(q r:Str)(b:Int)(a:Str):aw "rest" ["Fuse"] (oF q r b a)=some (.str r):=by rfl
theorem G7(q r:Str)(b:Int)(a:Str):aw "by" ["Fuse"] (oF q r b a)=some (.int b):=by rfl
theorem HB(a:Str)(b:Int)(q r:Str):aw "name" ["Part"] (oP a b q r)=some (.str a):=by rfl
theorem Eu(a:Str)(b:Int)(q r:Str):aw "by" ["Part"] (oP a b q r)=some (.int b):=by rfl
theorem FD(a:Str)(b:Int)(q r:Str):aw "quotient" ["Part"] (oP a b q r)=some (.str q):=by rfl
theorem Fj(a:Str)(b:Int)(q r:Str):aw "rest" ["Part"] (oP a b q r)=some (.str r):=by rfl
theorem D9(a:Str)(k:D):aw "name" ["Sieve"] (oV a k)=some (.str a):=by rfl
theorem wQ(a:Str)(k:D):aw "kind" ["Sieve"] (oV a k)=some k:=by rfl
theorem whole(m:Int):aj gX 1 1 [.int m]=.ok (.bl true):=by
 have t1:Az "int" (.int m)=some (.bl true):=rfl;have t2:Az "bool" (.int m)=some (.bl false):=rfl;rw[cF];unfold gX;simp! only[t1,t2];rfl
theorem DL(t:Str):aw "name" ["Leaf"] (leaf t)=some (.str t):=by rfl
theorem yw{xs:List D}(h:xs≠[])(p:pl (.tup xs)=true):gEq (.tup xs) (.tup [])=some (.bl false):=by
 have e:gEq (.tup xs) (.tup [])=if(pl (.tup xs)&&pl (.tup []))&&(dB 8 (.tup xs)||dB 8 (.tup []))then some (.bl (pyEq (.tup xs) (.tup [])))else none:=rfl
 have p2:pl (.tup [])=true:=rfl;have d2:dB 8 (.tup [])=true:=rfl;have q:pyEq (.tup xs) (.tup [])=false:=by
  rw[pyEq];cases xs with
  |nil=>exact absurd rfl h
  |cons _ _=>unfold eG;rfl
 rw[e,p,p2,d2,To,q];rfl
theorem wr(i:Int)(h:i.natAbs<10^70):∃x:Str,aj cw 1 1 [.int i]=.ok (.str x):=by
 obtain⟨x,ex⟩:=str_int i h;have t:Az "str" (.int i)=some (.bl false):=rfl;refine⟨x,?_⟩;rw[cF];unfold cw;simp! only[t,ex]
noncomputable abbrev Hr:List (Str×(cg)):=[("Step",(aj cT 1 1)),("Nest",(aj dA 1 1)),("Unnest",(aj cO 1 1)),("Part",(aj dC 1 1)),("Fuse",(aj dz 1 1)),("Rename",(aj cN 1 1)),("Sieve",(aj bX 1 1))]
noncomputable abbrev Ic:List (Str×(cg)):=[("Step",(aj ax 2 2)),("Nest",(aj ax 2 2)),("Unnest",(aj bZ 2 2)),("Part",(aj ax 2 2)),("Fuse",(aj ax 2 2)),("Rename",(aj ax 2 2)),("Sieve",(aj bY 2 3))]
theorem Rl(a b c d:D):oW [a,b,c,d]=some (.tup [a,b,c,d]):=nr rfl
theorem Pu(a b c d e:D):oW [a,b,c,d,e]=some (.tup [a,b,c,d,e]):=nr rfl
noncomputable def Wd(s:D):Prop:=∃(c:Str)(fs:au)(vs:List D)(gw:cg)(xs:au),s=.obj c fs vs/\Hr.lookup c=some gw/\fs.contains ("words":Str)=false/\gw [s]=.ok (.tup (xs.map .str))/\xs≠[]
theorem Wd.meth{s:D}(h:Wd s):∃xs:au,xs≠[]/\∀(fo:FX)(ρ:aq),fo ρ=.ok s->cQ "words" Hr fo ah ρ=.ok (.tup (xs.map .str)):=by
 obtain⟨c,fs,vs,gw,xs,rfl,l,hm,e,hx⟩:=h;refine⟨xs,hx,λfo ρ h=>?_⟩;rw[fq "words" Hr c fs vs gw fo ah ρ h l hm];simp! only[e]
theorem tS(xs:au):pl (.tup (xs.map .str))=true:=by
 rw[dP];exact ul _ (λ_=>rfl) xs
theorem eB{s:D}(w:Wd s)(j:bF ["Sieve"] ["Step","Nest","Unnest","Part","Fuse","Rename"] s=some (.bl false))(f:D):aj bQ 2 2 [f,s]=.ok (.bl false):=by
 obtain⟨xs,hx,m⟩:=w.meth;have m:=m (af 1) [‹f›,‹s›] rfl;have q:=yw (xs:=xs.map D.str) (by simpa using hx) (tS xs);rw[bB];unfold bQ;simp! only[m,IC,q,j];rfl
theorem Kg(m:Int)(x:Str)(h:m.natAbs<10^70):Wd (oN m x):=by
 obtain⟨y,ey⟩:=wr m h;refine⟨_,_,_,aj dA 1 1,["nest",y,x],rfl,by kernel_rfl,by decide +kernel,?_,by simp⟩;rw[cF];unfold dA;simp! only[Jf,Km,ey,uX]
theorem KQ(x:Str):Wd (oU x):=by
 refine⟨_,_,_,aj cO 1 1,["unnest",x],rfl,by kernel_rfl,by decide +kernel,?_,by simp⟩;rw[cF];unfold cO;simp! only[GO,qK]
theorem Hq(a:Str)(b:Int)(q r:Str)(h:b.natAbs<10^70):Wd (oP a b q r):=by
 obtain⟨y,ey⟩:=wr b h;refine⟨_,_,_,aj dC 1 1,["part",a,y,q,r],rfl,by kernel_rfl,by decide +kernel,?_,by simp⟩;rw[cF];unfold dC;simp! only[HB,Eu,FD,Fj,ey,Pu]
theorem HG(q r:Str)(b:Int)(a:Str)(h:b.natAbs<10^70):Wd (oF q r b a):=by
 obtain⟨y,ey⟩:=wr b h;have ff_n:aw "name" ["Fuse"] (oF q r b a)=some (.str a):=by rfl
 refine⟨_,_,_,aj dz 1 1,["fuse",q,r,y,a],rfl,by kernel_rfl,by decide +kernel,?_,by simp⟩;rw[cF];unfold dz;simp! only[Ld,Kz,G7,ff_n,ey,Pu]
theorem Jk(a b:Str):Wd (oR a b):=by
 refine⟨_,_,_,aj cN 1 1,["rename",a,b],rfl,by kernel_rfl,by decide +kernel,?_,by simp⟩;rw[cF];unfold cN;simp! only[DI,Fx,uX]
theorem O7(a:Str)(lo hi:Int)(h:lo.natAbs<10^70)(h':hi.natAbs<10^70):Wd (oV a (num lo hi)):=by
 obtain⟨y,ey⟩:=wr lo h;obtain⟨z,ez⟩:=wr hi h';refine⟨_,_,_,aj bX 1 1,["sieve",a,y,z],rfl,by kernel_rfl,by decide +kernel,?_,by simp⟩;rw[cF];unfold bX;simp! only[wQ,D9,j4,ey,ez,Rl]
noncomputable def bI(ws:au):D:=.tup [.str "word",.tup (ws.map .str)]
theorem Iu(w:Str)(h:w.length<=100):∃x:Str,aj cw 1 1 [.str w]=.ok (.str x):=by
 have t:Az "str" (.str w)=some (.bl true):=rfl;have l1:(".":Str).length<=1000:=by decide +kernel
 have ex:=km "." w l1 ‹0›;refine⟨"."++w,?_⟩;rw[cF];unfold cw;simp! only[t,ex]
inductive Kd
 |kn (lo hi:Int)
 |kw (ws:au)
noncomputable def Kd.d:Kd->D
 |.kn a b=>num a b
 |.kw ws=>bI ws
noncomputable def Kd.n:Kd->Bool
 |.kn _ _=>true
 |.kw _=>false
noncomputable def Kd.ib:Kd->Kd->Kd
 |.kn a b,.kn c d=>.kn (max a c) (min b d)
 |.kw a,.kw b=>.kw (a.filter λw=>b.contains w)
 |k,_=>k
noncomputable def Kd.ok:Kd->Prop
 |.kn a b=>a<=b/\a.natAbs<10^65/\b.natAbs<10^65
 |.kw ws=>ws≠[]/\ws.length<=50/\∀w∈ws,w.length<=100
theorem Kd.assoc{k a b:Kd}(h:k.n=a.n)(h':a.n=b.n):(k.ib a).ib b=k.ib (a.ib b):=by
 cases k<;>cases a<;>cases b<;>first|exact Bool.noConfusion h|exact Bool.noConfusion h'|skip
 ·show Kd.kn _ _=Kd.kn _ _;congr 1<;>omega
 ·show Kd.kw _=Kd.kw _;rw[List.filter_filter];congr 1;refine List.filter_congr λw _=>?_;rw[Bool.eq_iff_iff,R4,TK,TK,TK,List.mem_filter,TK];exact⟨λz=>⟨z.2,z.1⟩,λz=>⟨z.2,z.1⟩⟩
theorem Kd.absorb{k a b:Kd}(h:k.n=a.n)(h':a.n=b.n)(e:(k.ib a).ib b=k):k.ib a=k:=by
 cases k<;>cases a<;>cases b<;>first|exact Bool.noConfusion h|exact Bool.noConfusion h'|skip
 ·have e:Kd.kn _ _=Kd.kn _ _:=e;injection e with e1 e2;show Kd.kn _ _=Kd.kn _ _;congr 1<;>omega
 ·have e:Kd.kw _=Kd.kw _:=e;injection e with e;show Kd.kw _=Kd.kw _;congr 1;refine List.filter_eq_self.mpr λw hw=>?_;rw[<-e]at hw;exact(List.mem_filter.mp (List.mem_filter.mp hw).1).2
theorem Kd.ib_n{k a:Kd}(h:k.n=a.n):(k.ib a).n=k.n:=by
 cases k<;>cases a<;>first|rfl|exact Bool.noConfusion h
theorem Kd.ib_ok{k a b:Kd}(h:k.n=a.n)(h':a.n=b.n)(oa:a.ok)(ob:b.ok)(e:((k.ib a).ib b).ok):(a.ib b).ok:=by
 rw[Kd.assoc h h']at e;cases k<;>cases a<;>cases b<;>first|exact Bool.noConfusion h|exact Bool.noConfusion h'|skip
 ·obtain⟨a1,a2,a3⟩:=oa;obtain⟨b1,b2,b3⟩:=ob;obtain⟨e1,_,_⟩:=e;exact⟨by omega,by omega,by omega⟩
 ·obtain⟨a1,a2,a3⟩:=oa;obtain⟨e1,_,_⟩:=e;refine⟨λz=>e1 ?_,Rq (TL ..) a2,λw hw=>a3 w (List.mem_filter.mp hw).1⟩;rw[z];exact List.filter_eq_nil_iff.mpr λw _ q=>by cases q
theorem Gy(ws vs:au)(ρ:aq):xH [none,‹bI vs›] (gN 0) (fB (f2 uJ (af 0) (f2 ak (af 1) (fC (.int 1))))) (af 0) (ws.map .str)=.ok ((ws.filter λw=>vs.contains w).map .str):=by
 refine pB (λw:Str=>.str w) (λw=>vs.contains w) (λw=>.str w) ws λw hw=>⟨[‹.str w›,‹bI vs›],rfl,?_,λ_=>rfl⟩
 have i1:ak (bI vs) (.int 1)=some (.tup (vs.map .str)):=fD _ _ _;simp! only[i1,t8]
theorem LR(ws vs:au)(hl:ws.length<=1000)(x:Option S):iF [none,some 1] (cE (f2 ak (af 0) (fC (.int 1)))) (gN 0) (fB (f2 uJ (af 0) (f2 ak (af 1) (fC (.int 1))))) (af 0) [‹bI ws›,‹bI vs›,x]=.ok (.lst ((ws.filter λw=>vs.contains w).map .str)):=by
 have i1:ak (bI ws) (.int 1)=some (.tup (ws.map .str)):=fD _ _ _;refine eQ (ds:=ws.map .str) (by simp! only[i1]) (by rw[RK];omega) (Gy ws vs [])
theorem HZ(ws vs:au)(hl:ws.length<=1000):iF [none,some 1] (cE (f2 ak (af 0) (fC (.int 1)))) (gN 0) (fB (f2 uJ (af 0) (f2 ak (af 1) (fC (.int 1))))) (af 0) [‹bI ws›,‹bI vs›]=.ok (.lst ((ws.filter λw=>vs.contains w).map .str)):=by
 have i1:ak (bI ws) (.int 1)=some (.tup (ws.map .str)):=fD _ _ _;refine eQ (ds:=ws.map .str) (by simp! only[i1]) (by rw[RK];omega) (Gy ws vs [])
theorem PF(a c:Int):mm [.int a,.int c]=some (.int (max a c)):=by
 rw[lK];congr 2;by_cases z:c>a
 ·rw[if_pos z];omega
 ·rw[if_neg z];omega
theorem Pt(a c:Int):mQ [.int a,.int c]=some (.int (min a c)):=by
 rw[lI];congr 2;by_cases z:c<a
 ·rw[if_pos z];omega
 ·rw[if_neg z];omega
theorem ww:(("word":Str)==("word":Str))=true:=by decide +kernel
theorem uj{a b:Kd}(h:a.n=b.n)(oa:a.ok)(o:(a.ib b).ok):aj iC 2 2 [a.d,b.d]=.ok (a.ib b).d:=by
 cases a<;>cases b<;>first|exact Bool.noConfusion h|skip
 ·rename_i a b c d;have o:max a c<=min b d:=o.1;have a1:=PF a c;have a2:=Pt b d;have bn:aj dJ 2 4 [num a b,num c d]=.ok (num (max a c) (min b d)):=by
   rw[bB];unfold dJ;simp! only[a1,a2,decide_eq_true o,uX]
  show aj iC 2 2 [num a b,num c d]=.ok (num (max a c) (min b d));rw[bB];unfold iC;simp! only[j4,bn]
 ·rename_i a b;have o:(a.filter λw=>b.contains w)≠[]:=o.1;have la:a.length<=1000:=by have:=oa.2.1;omega
  have lc:=LR a b la none;have tr:((a.filter λw=>b.contains w).map D.str).isEmpty=false:=by
   cases z:(a.filter λw=>b.contains w)with
   |nil=>exact absurd z o
   |cons _ _=>rfl
  have bw:aj fw 2 3 [bI a,bI b]=.ok (bI (a.filter λw=>b.contains w)):=by
   rw[bB];unfold fw;have e:bI (a.filter λw=>b.contains w)=.tup [.str "word",.tup ((a.filter λw=>b.contains w).map .str)]:=rfl;rw[e];generalize bI a=ka at *;generalize bI b=kb at *;simp! only[lc,tr,qK]
  have j0:∀ws,ak (bI ws) (.int 0)=some (.str "word"):=λws=>fz _ _;show aj iC 2 2 [bI a,bI b]=.ok (bI (a.filter λw=>b.contains w));rw[bB];unfold iC;have ja:=j0 a;have jb:=j0 b;generalize bI (a.filter λw=>b.contains w)=kc at *;generalize bI a=ka at *;generalize bI b=kb at *;simp! only[ja,jb,ww,yv,bw]
theorem xn{a b:Kd}(h:a.n=b.n)(oa:a.ok):aj aY 2 2 [a.d,b.d]=.ok (a.ib b).d:=by
 cases a<;>cases b<;>first|exact Bool.noConfusion h|skip
 ·rename_i a b c d;show aj aY 2 2 [num a b,num c d]=.ok (num (max a c) (min b d));have a1:=PF a c;have a2:=Pt b d;rw[bB];unfold aY;simp! only[j4,a1,a2,uX]
 ·rename_i a b;have la:a.length<=1000:=by have:=oa.2.1;omega
  have lc:=HZ a b la;have j0:∀ws,ak (bI ws) (.int 0)=some (.str "word"):=λws=>fz _ _;have e:(Kd.ib (.kw a) (.kw b)).d=.tup [.str "word",.tup ((a.filter λw=>b.contains w).map .str)]:=rfl;rw[e];show aj aY 2 2 [bI a,bI b]=_;rw[bB];unfold aY;have ja:=j0 a;generalize bI a=ka at *;generalize bI b=kb at *;simp! only[ja,yv,lc,qK]
theorem xK:∀a b:au,eG (a.map .str) (b.map .str)=true↔a=b
 |[],[]=>by simp[eG]
 |[],_::_=>by simp[eG]
 |_::_,[]=>by simp[eG]
 |x::a,y::b=>by
  rw[RJ,RJ,eG,R4,xK a b,pyEq,List.cons.injEq];simp
theorem Kd.eq_iff{a b:Kd}(h:a.n=b.n):pyEq a.d b.d=true↔a=b:=by
 cases a<;>cases b<;>first|exact Bool.noConfusion h|skip
 ·show pyEq (num _ _) (num _ _)=true↔_;simp only[pyEq,eG,BEq.rfl,Bool.true_and,Sw,R4,Kd.kn.injEq,beq_iff_eq]
 ·rename_i a b;show pyEq (.tup [.str "word",.tup (a.map .str)]) (.tup [.str "word",.tup (b.map .str)])=true↔_;rw[pyEq,eG,eG,eG,pyEq,pyEq,Kd.kw.injEq,Sw,ww,Bool.true_and,xK]
theorem Kd.pl(k:Kd):pl k.d=true:=by
 cases k with
 |kn a b=>rfl
 |kw ws=>
  show(TG.pl (.str "word")&&(TG.pl (.tup (ws.map .str))&&true))=true;rw[tS];rfl
theorem Kd.dep(k:Kd):dB 8 k.d=true:=by
 cases k with
 |kn a b=>rfl
 |kw ws=>
  show(true&&((ws.map D.str).all (dB 6)&&true))=true;have q:((ws.map D.str).all (dB 6))=true:=by
   rw[List.all_map];exact List.all_eq_true.mpr λ_ _=>rfl
  rw[q];rfl
theorem Kd.gEq(a b:Kd):gEq a.d b.d=some (.bl (pyEq a.d b.d)):=by
 have e:TG.gEq a.d b.d=if(TG.pl a.d&&TG.pl b.d)&&(dB 8 a.d||dB 8 b.d)then some (.bl (pyEq a.d b.d))else none:=rfl
 rw[e,a.pl,b.pl,a.dep];rfl
theorem Kd.idx(k:Kd):TG.ak k.d (.int 0)=some (.str (if k.n then"number"else"word")):=by cases k<;>exact fz _ _
theorem Kf(a:Str)(k:Kd)(h:k.ok):Wd (oV a k.d):=by
 cases k with
 |kn lo hi=>
  have s:(10:Nat)^65<10^70:=by decide +kernel
  exact O7 a lo hi (by have:=h.2.1;omega) (by have:=h.2.2;omega)
 |kw ws=>
  obtain⟨h1,h2,h3⟩:=h;obtain⟨f,hf⟩:∃f:Str->Str,∀w∈ws,aj cw 1 1 [.str w]=.ok (.str (f w)):=by
   refine⟨λw=>if z:w.length<=100 then(Iu w z).choose else"",λw hw=>?_⟩;have q:=h3 w hw;show _=Except.ok (D.str (if z:w.length<=100 then(Iu w z).choose else""));rw[dif_pos q];exact(Iu w q).choose_spec
  have i0:TG.ak (bI ws) (.int 0)=some (.str "word"):=fz _ _;have i1:TG.ak (bI ws) (.int 1)=some (.tup (ws.map .str)):=fD _ _ _;have lc:iF [none] (cE (f2 TG.ak (TG.f1 (aw "kind" ["Sieve"]) (af 0)) (fC (.int 1)))) (gN 0) eD (fR (aj cw 1 1) (aa (af 0) ah)) [‹oV a (bI ws)›]=.ok (.lst (ws.map λw=>.str (f w))):=by
   refine eQ (ds:=ws.map .str) ?_ (by rw[RK];omega) ?_
   ·generalize bI ws=kk at *;simp! only[wQ,i1]
   ·refine jx (λw:Str=>D.str w) _ ws λw hw=>⟨_,rfl,rfl,?_⟩
    have e:=hf w hw;simp! only[e]
  have ad:=dQ [.str "keep",.str a] (ws.map λw=>.str (f w)) (by rw[RK];show 2+ws.length<=100000;omega);refine⟨_,_,_,aj bX 1 1,"keep"::a::ws.map f,rfl,by kernel_rfl,by decide +kernel,?_,by simp⟩;have e:D.tup ((("keep":Str)::a::ws.map f).map .str)=.tup (.str "keep"::.str a::ws.map λw=>.str (f w)):=by rw[RJ,RJ,Tr];rfl
  rw[e];show aj bX 1 1 [oV a (bI ws)]=_;rw[cF];unfold bX;generalize bI ws=kk at *;simp! only[wQ,D9,i0,yv,lc,qK,ad]
section
variable{K R:L}
theorem yf{x:Str}(h:x∉(K++R).map (·.1)):((K++R).map (·.1)).contains x=false:=by
 cases z:((K++R).map (·.1)).contains x with
 |false=>rfl
 |true=>exact absurd (List.contains_iff_mem.mp z) h
theorem CD(F:Fk K R){i:Nat}{o x:Str}{k:D}(hi:(K++R)[i]?=some (o,k))(hx:x∉(K++R).map (·.1)):aj bC 2 3 [oR o x,fm K R]=.ok (fm (rk K i [(x,k)]) (rr K R i [(x,k)])):=by
 have p:=F.at hi;have c:=yf hx;have w:=mC F i [(x,k)] (by simp);have w:aj aU 3 3 [fm K R,.int i,.tup [.tup [.str x,k]]]=.ok (fm (rk K i [(x,k)]) (rr K R i [(x,k)])):=w;have kd:=F.kd hi;have nms:=F.nms;rw[bB];unfold bC;generalize fm (rk K i [(x,k)]) (rr K R i [(x,k)])=ff at *;generalize fm K R=f0 at *;simp! only[DI,Fx,p,nms,vG,c,kd,qK,CU,w]
theorem AJ(F:Fk K R){i:Nat}{x:Str}{k c:Kd}(hi:(K++R)[i]?=some (x,k.d))(h:k.n=c.n)(ok:k.ok)(oi:(k.ib c).ok):aj bM 2 5 [oV x c.d,fm K R]=.ok (fm (rk K i [(x,(k.ib c).d)]) (rr K R i [(x,(k.ib c).d)])):=by
 have p:=F.at hi;have w:=mC F i [(x,(k.ib c).d)] (by simp);have w:aj aU 3 3 [fm K R,.int i,.tup [.tup [.str x,(k.ib c).d]]]=.ok (fm (rk K i [(x,(k.ib c).d)]) (rr K R i [(x,(k.ib c).d)])):=w;have kd:=F.kd hi;have bo:=uj h ok oi;have nn:isNon (k.ib c).d=false:=by cases k.ib c<;>rfl
 have f1':=wQ x c.d;have f2':=D9 x c.d;have g1:=k.idx;have g2:=c.idx;rw[<-h]at g2;have ss:((if k.n=true then("number":Str)else"word")==(if k.n=true then("number":Str)else"word"))=true:=by simp
 rw[bB];unfold bM;generalize fm (rk K i [(x,(k.ib c).d)]) (rr K R i [(x,(k.ib c).d)])=ff at *;generalize fm K R=f0 at *;generalize (k.ib c).d=kc at *;generalize k.d=kk at *;generalize (if k.n=true then("number":Str)else"word")=so at *;generalize oV x c.d=ov at *;generalize c.d=cc at *;simp! only[f1',f2',p,kd,g1,g2,ss,bo,nn,qK,CU,w]
theorem pE(F:Fk K R){i:Nat}{x:Str}{k c:Kd}(hi:(K++R)[i]?=some (x,k.d))(h:k.n=c.n)(ok:k.ok)(oc:c.ok)(oi:(k.ib c).ok):aj bQ 2 2 [fm K R,oV x c.d]=.ok (.bl (pyEq (k.ib c).d k.d)):=by
 obtain⟨xs,hx,m⟩:=(Kf x c oc).meth;have p:=F.at hi;have kd:=F.kd hi;have bo:=uj h ok oi;have ge:=Kd.gEq (k.ib c) k;have f1':=wQ x c.d;have f2':=D9 x c.d;have ex:aj bY 2 3 [oV x c.d,fm K R]=.ok (.bl (pyEq (k.ib c).d k.d)):=by
  rw[bB];unfold bY;generalize pyEq (k.ib c).d k.d=bb at *;generalize fm K R=f0 at *;generalize (k.ib c).d=kc at *;generalize k.d=kk at *;generalize oV x c.d=ov at *;generalize c.d=cc at *;simp! only[f1',f2',p,kd,bo,ge]
 have m1:=m (af 1) [‹fm K R›,‹oV x c.d›] rfl;have m2:cQ "exact" Ic (af 1) (aa (af 0) ah) [‹fm K R›,‹oV x c.d›]=((aa (af 0) ah) [‹fm K R›,‹oV x c.d›]).bind λas=>aj bY 2 3 (oV x c.d::as):=fq "exact" Ic "Sieve" ["name","kind"] [.str x,c.d] (aj bY 2 3) (af 1) (aa (af 0) ah) [‹fm K R›,‹oV x c.d›] rfl (by kernel_rfl) (by decide +kernel);have q:=yw (xs:=xs.map D.str) (by simpa using hx) (tS xs);have j:∀kk,bF ["Sieve"] ["Step","Nest","Unnest","Part","Fuse","Rename"] (oV x kk)=some (.bl true):=λkk=>by kernel_rfl
 have j:=j c.d;rw[bB];unfold bQ;generalize pyEq (k.ib c).d k.d=bb at *;generalize fm K R=f0 at *;generalize oV x c.d=ov at *;simp! only[m1,IC,q,j,m2,ex];rfl
theorem tH(K:L):gA [.tup (K.map fld)]=some (.int (K.length:Int)):=by
 have:gA [.tup (K.map fld)]=some (.int ((K.map fld).length:Int)):=rfl
 rw[this,RK]
theorem Fs(a b c d:Int):qJ (num a b) (num c d)=some (.bl (!pyEq (num a b) (num c d))):=by
 have e:qJ (num a b) (num c d)=if(pl (num a b)&&pl (num c d))&&(dB 8 (num a b)||dB 8 (num c d))then some (.bl (!pyEq (num a b) (num c d)))else none:=rfl
 have p1:pl (num a b)=true:=rfl;have p2:pl (num c d)=true:=rfl;have d1:dB 8 (num a b)=true:=rfl;rw[e,p1,p2,d1];rfl
theorem lS(F:Fk K R){x:Str}{pls:D}(hx:∀(t:Nat)(p:Str×D),(K++R)[t]?=some p->p.1=x->iz (.int (t:Int)) pls=some (.bl false)):aj b6 3 4 [fm K R,.str x,pls]=.ok (.bl false):=by
 have hl:=F.len;have ll:(K.map fld).length+(R.map fld).length<=100:=by rw[RK,RK];rw[R0]at hl;omega
 obtain⟨vs,v1,v2,v3⟩:=AY (ρ:=inB [none,none,some 1,some 2] [‹fm K R›,‹.str x›,‹pls›,‹.tup ((K++R).map fld)›]) (g:=gT 2 (uH [0,1])) (C:=eD) (Fe:=lE (f2 gEq (f2 ak (af 1) (fC (.int 0))) (af 2)) (f2 iz (af 0) (af 3))) (eZ 0 ((K++R).map fld)) (λt v=>v=.bl false) (λt d hd=>by
  rw[iH,RX]at hd;cases hp:(K++R)[t]? with
  |none=>rw[hp]at hd;cases hd
  |some p=>
   rw[hp]at hd;cases hd;refine⟨[‹.int ((0+t:Nat):Int)›,‹.tup [.str p.1,p.2]›,‹.str x›,‹pls›],_,rfl,rfl,?_,rfl⟩;by_cases z:p.1=x
   ·have ne:(p.1==x)=true:=(by simpa using z);have gn:=hx t p hp z;rw[SY];simp! only[ne,gn,Sx]
   ·have ne:(p.1==x)=false:=(by simpa using z);simp! only[ne])
 have ev:vs=((K++R).map λ_=>false).map .bl:=by
  have lv:vs.length=(K++R).length:=by rw[v1,dZ,RK]
  apply List.ext_getElem
  ·rw[RK,RK,lv]
  ·intro t h1 h2;rw[v2 t _ (Su h1),TF,TF]
 have f0:=eQ (ix:=[none,none,some 1,some 2]) (G:=dy (aa (af 3) ah)) (ρ:=[‹fm K R›,‹.str x›,‹pls›,‹.tup ((K++R).map fld)›]) (by simp! only[mX]) (by rw[dZ,RK];omega) v3;rw[ev]at f0;have an:((K++R).map λ_=>false).any id=false:=by
  rw[S7,RF];intro p _ z;cases z
 have ad:=dQ (K.map fld) (R.map fld) ‹0›;rw[Fk.e]at ad;rw[dm];unfold b6;simp! only[ad,f0,yh,an]
theorem x9(i:Int):iz (.int i) (.tup [.int i])=some (.bl false):=by
 have e:iz (.int i) (.tup [.int i])=some (.bl (!((i==i)||false))):=rfl;rw[e];simp
theorem D1(i j:Int):iz (.int i) (.tup [.int i,.int j])=some (.bl false):=by
 have e:iz (.int i) (.tup [.int i,.int j])=some (.bl (!((i==i)||((j==i)||false)))):=rfl;rw[e];simp
noncomputable def K3(ps:L)(i:Nat)(x:Str):Prop:=∀m p,ps[m]?=some p->p.1=x->m=i
noncomputable def Nu(ps:L):Prop:=∀p∈ps,∃lo hi:Int,p.2=num lo hi
noncomputable def lw:D->D
 |.tup (.str _::.int lo::_)=>.int lo
 |_=>.non
theorem Fc(g:Nat)(lo hi:Int):cV (g+1) [num lo hi]=.ok (.int lo):=by
 rw[gG,cF];unfold mr;simp! only[j4]
theorem OY(F:Fk K R)(N:Nu (K++R)):∃d,aj gC 1 1 [fm K R]=.ok d:=by
 have hl:=F.len;have ko:aj dN 1 1 [fm K R]=.ok (.tup ((K++R).map (·.2))):=kinds_ok (K.map fld) (R.map fld) (K++R) (by rw[RK,RK];rw[R0]at hl;omega) Fk.e;have rows_num:(("rows":Str)==("number":Str))=false:=by decide +kernel
 have rows_word:(("rows":Str)==("word":Str))=false:=by decide +kernel
 have f0:iF [none] (cE (fR (aj dN 1 1) (aa (f2 ak (af 0) (fC (.int 1))) ah))) (gN 0) eD (fR (cV 11) (aa (af 0) ah)) [‹.tup [.str "rows",fm K R,.bl true]›]=.ok (.lst ((K++R).map λp=>lw p.2)):=by
  refine eQ (ds:=(K++R).map (·.2)) ?_ (by rw[RK];omega) ?_
  ·generalize fm K R=ff at *;simp! only[ko]
  ·refine jx (λp:Str×D=>p.2) _ (K++R) λp hp=>⟨_,rfl,rfl,?_⟩
   have e:cV 11 [p.2]=.ok (lw p.2):=by
    obtain⟨lo,hi,e⟩:=N p hp;rw[e];exact Fc 10 lo hi
   simp! only[e]
 have e1:cV 12 [.tup [.str "rows",fm K R,.bl true]]=.ok (.tup [.tup ((K++R).map λp=>lw p.2)]):=by
  rw[gG,cF];unfold mr;generalize fm K R=ff at *;simp! only[rows_num,rows_word,f0,CU]
 refine⟨.tup ((K++R).map λp=>lw p.2),?_⟩;rw[cF];unfold gC;generalize fm K R=ff at *;simp! only[uX,e1]
theorem uv(F:Fk K R)(N:Nu (K++R)){i:Nat}{x q r:Str}{a b c:Int}(hi:(K++R)[i]?=some (x,num a b))(c1:2<=c)(c2:c<=1000)(d1:a%c=0)(d2:(b+1)%c=0)(hq:K3 (K++R) i q)(hr:K3 (K++R) i r)(qr:q≠r):
  aj bH 2 6 [oP x c q r,fm K R]=.ok (fm (rk K i [(q,num (a/c) (b/c)),(r,num 0 (c-1))]) (rr K R i [(q,num (a/c) (b/c)),(r,num 0 (c-1))])):=by
 have p:=F.at hi;have kd:=F.kd hi;have ik:=F.ik i;have e1:=lS F (x:=q) (pls:=.tup [.int i]) λm p hp e=>by rw[hq m p hp e];exact x9 _
 have e2:=lS F (x:=r) (pls:=.tup [.int i]) λm p hp e=>by rw[hr m p hp e];exact x9 _
 obtain⟨lrw,el⟩:=OY F N;have w:=mC F i [(q,num (a/c) (b/c)),(r,num 0 (c-1))] (by simp);have w:aj aU 3 3 [fm K R,.int i,.tup [.tup [.str q,num (a/c) (b/c)],.tup [.str r,num 0 (c-1)]]]=.ok (fm (rk K i [(q,num (a/c) (b/c)),(r,num 0 (c-1))]) (rr K R i [(q,num (a/c) (b/c)),(r,num 0 (c-1))])):=w;have g:=λj=>fP (i:=j) (show(0:Int)<c by omega);have dv:=λj=>jX (i:=j) (show(0:Int)<c by omega) (show c<10^200 by
  have:(10:Int)^200>1000:=by decide +kernel
  omega)
 have qr':(q==r)=false:=by simpa using qr
 have cn:aj bz 3 3 [oP x c q r,fm K R,.int i]=.ok .non:=by
  rw[dm];unfold bz;generalize fm K R=f0 at *;simp! only[FD,Fj,qr',CU,e1,e2]
 have z1:(a%c==0)=true:=by simpa using d1
 have z2:((b+1)%c==0)=true:=by simpa using d2
 have ce:aj bL 3 5 [oP x c q r,fm K R,.int i]=.ok .non:=by
  rw[dm];unfold bL;generalize fm K R=f0 at *;simp! only[kd,el,Eu,g,z1,z2]
 have m1:=λf x3 x4 x5=>fq "check_names" [("Part",(aj bz 3 3))] "Part" ["name","by","quotient","rest"] [.str x,.int c,.str q,.str r] (aj bz 3 3) (af 0) (aa (af 1) (aa (af 2) ah)) [‹oP x c q r›,‹f›,‹.int (i:Int)›,x3,x4,x5] rfl (by kernel_rfl) (by decide +kernel);have m2:=λf x3 x4 x5=>fq "check_ends" [("Part",(aj bL 3 5))] "Part" ["name","by","quotient","rest"] [.str x,.int c,.str q,.str r] (aj bL 3 5) (af 0) (aa (af 1) (aa (af 2) ah)) [‹oP x c q r›,‹f›,‹.int (i:Int)›,x3,x4,x5] rfl (by kernel_rfl) (by decide +kernel);have lk:=tH K;have lr:=tH R;have i0:ak (fm K R) (.int 0)=some (.tup (K.map fld)):=fz _ _;have i1:ak (fm K R) (.int 1)=some (.tup (R.map fld)):=fD _ _ _;have kl:=F.kl;have rl:=F.rl;have ge:decide ((8:Int)<=(K.length:Int))=false:=decide_eq_false ‹0›;have gr:decide ((8:Int)<=(R.length:Int))=false:=decide_eq_false ‹0›;have c3:decide ((2:Int)<=c)=true:=decide_eq_true c1;have c4:decide (c<=1000000000)=true:=decide_eq_true ‹0›;rw[bB];unfold bH;generalize fm (rk K i [(q,num (a/c) (b/c)),(r,num 0 (c-1))]) (rr K R i [(q,num (a/c) (b/c)),(r,num 0 (c-1))])=ff at *;generalize fm K R=f0 at *;cases dk:decide (i<K.length)with
 |true=>simp! only[HB,Eu,FD,Fj,p,kd,j4,eL,pK,c3,c4,TN,Tc,TQ,m1,cn,mK,ik,dk,i0,lk,ge,m2,ce,dv,qK,uX,w]
 |false=>simp! only[HB,Eu,FD,Fj,p,kd,j4,eL,pK,c3,c4,TN,Tc,TQ,m1,cn,mK,ik,dk,i1,lr,gr,m2,ce,dv,qK,uX,w]
theorem t9(F:Fk K R){i j:Nat}{x y z:Str}{a b c:Int}(hi:(K++R)[i]?=some (x,num a b))(hj:(K++R)[j]?=some (y,num 0 (c-1)))(ij:i≠j)(c1:2<=c)(c2:c<=1000)(hz:K3 (K++R) i z)(side:i<K.length↔j<K.length):
  aj bq 2 6 [oF x y c z,fm K R]=.ok (fm (rk (rk K i [(z,num (a*c) (b*c+c-1))]) j []) (rr (rk K i [(z,num (a*c) (b*c+c-1))]) (rr K R i [(z,num (a*c) (b*c+c-1))]) j [])):=by
 have p:=F.at hi;have q:=F.at hj;have ki:=F.kd hi;have kj:=F.kd hj;have ii:=F.ik i;have ji:=F.ik j;have el:=lS F (x:=z) (pls:=.tup [.int i,.int j]) λm p hp e=>by rw[hz m p hp e];exact D1 _ _
 have ff_n:aw "name" ["Fuse"] (oF x y c z)=some (.str z):=by rfl
 have li:i<(K++R).length:=(List.getElem?_eq_some_iff.mp hi).1;have F2:Fk (rk K i [(z,num (a*c) (b*c+c-1))]) (rr K R i [(z,num (a*c) (b*c+c-1))]):=F.set li λm hm w=>by
  rw[RX]at w;cases hp:(K++R)[m]? with
  |none=>rw[hp]at w;cases w
  |some p=>rw[hp]at w;exact hm (hz m p hp (Option.some.inj w))
 have w1:=mC F i [(z,num (a*c) (b*c+c-1))] (by simp);have w2:=mC F2 j [] (by simp);have w1:aj aU 3 3 [fm K R,.int i,.tup [.tup [.str z,num (a*c) (b*c+c-1)]]]=.ok (fm (rk K i [(z,num (a*c) (b*c+c-1))]) (rr K R i [(z,num (a*c) (b*c+c-1))])):=w1;have w2:aj aU 3 3 [fm (rk K i [(z,num (a*c) (b*c+c-1))]) (rr K R i [(z,num (a*c) (b*c+c-1))]),.int j,.tup []]=.ok (fm (rk (rk K i [(z,num (a*c) (b*c+c-1))]) j []) (rr (rk K i [(z,num (a*c) (b*c+c-1))]) (rr K R i [(z,num (a*c) (b*c+c-1))]) j [])):=w2;have ma:=kL (i:=a) (j:=c) ‹0› ‹0›;have mb:=kL (i:=b) (j:=c) ‹0› ‹0›;have n1:((i:Int)==(j:Int))=false:=by simp;omega
 have n2:(!(decide (i<K.length)==decide (j<K.length)))=false:=by
  rw[decide_eq_decide.mpr side];cases decide (j<K.length)<;>rfl
 have c3:decide ((2:Int)<=c)=true:=decide_eq_true c1;have c4:decide (c<=1000000000)=true:=decide_eq_true ‹0›;have nz:(!pyEq (num 0 (c-1)) (num 0 (c-1)))=false:=by rw[iW];rfl
 have ck:aj bA 4 4 [oF x y c z,fm K R,.int i,.int j]=.ok .non:=by
  rw[pT];unfold bA;generalize fm K R=f0 at *;simp! only[ki,kj,ii,ji,n1,n2,j4,G7,pK,eL,c3,c4,TN,Tc,TQ,uX,Fs,nz]
 have m:=λf x4 x5=>fq "check_kinds" [("Fuse",(aj bA 4 4))] "Fuse" ["quotient","rest","by","name"] [.str x,.str y,.int c,.str z] (aj bA 4 4) (af 0) (aa (af 1) (aa (af 2) (aa (af 3) ah))) [‹oF x y c z›,‹f›,‹.int (i:Int)›,‹.int (j:Int)›,x4,x5] rfl (by kernel_rfl) (by decide +kernel);rw[bB];unfold bq;generalize fm (rk (rk K i [(z,num (a*c) (b*c+c-1))]) j []) (rr (rk K i [(z,num (a*c) (b*c+c-1))]) (rr K R i [(z,num (a*c) (b*c+c-1))]) j [])=ff at *;generalize fm (rk K i [(z,num (a*c) (b*c+c-1))]) (rr K R i [(z,num (a*c) (b*c+c-1))])=f1 at *;generalize fm K R=f0 at *;simp! only[Ld,Kz,G7,ff_n,p,q,m,ck,mK,qK,el,ki,ma,mb,uX,CU,w1,IC,w2]
end
noncomputable abbrev vU(t:Str)(f:D):D:=lT [(.inr t,f)]
theorem C7(t:Str)(f:D):mj [(.str t,f)]=some (vU t f):=by
 unfold mj;have e:j7 [(.str t,f)]=some [(.inr t,f)]:=rfl;rw[e];rfl
theorem uC(fs:List (FX×FX))(ρ:aq):g5 fs ρ=(Dp (z4 fs ρ)).bind λps=>rO (mj ps):=rfl
theorem ud(ρ:aq):z4 [] ρ=.ok []:=rfl
theorem qG(fk fv:FX)(r:List (FX×FX))(ρ:aq):z4 ((fk,fv)::r) ρ=(fk ρ).bind λk=>(fv ρ).bind λv=>(z4 r ρ).bind λps=>.ok ((k,v)::ps):=rfl
theorem Dd{α:Type}(a:α):Dp (.ok a:R α)=.ok a:=rfl
theorem gg(t:Str)(f:D):GA (vU t f) (.str t)=some (some f):=by
 unfold GA;show((j8 (fu [((.inr t:Key),f)]) ([((.inr t:Key),f)].map (·.2))).bind λal=>(keyOf (.str t)).map λq=>nV al q)=_;rw[n9];show some (nV [((.inr t:Key),f)] (.inr t))=_;unfold nV;rw[R8,decide_eq_true (rfl:(Sum.inr t:Key)=Sum.inr t)];rfl
theorem mE(m:Nat)(t:Str)(f:D):Fm m (leaf t) (vU t f) (.ok f):=by
 refine⟨_,Oj _ _,?_⟩;have g:=gg t f;have g1:jp (.str t) (vU t f)=some (.bl false):=by unfold jp;rw[g];rfl
 have g2:sB (vU t f) (.str t)=some f:=by unfold sB;rw[g];rfl
 rw[bB];unfold bR;generalize vU t f=fs at *;simp! only[DL,g1,g2]
section
variable{g fs:D}
theorem ym{f d:D}(h:Fm 12 g fs (.ok f))(t:dD 12 [fs,g]=.ok d):aj iR 2 2 [fs,g]=.ok d:=by
 obtain⟨gf,hg,e⟩:=h;have m:=hg.meth (af 1) (aa (af 0) ah) [‹fs›,‹g›] rfl;rw[bB];unfold iR;simp! only[m,e,mK,t]
theorem rq(m:Nat)(t:Str):dD (m+1) [fs,leaf t]=.ok (leaf t):=by
 have j1:bF ["Over"] ["Leaf","Both"] (leaf t)=some (.bl false):=by kernel_rfl
 have j2:bF ["Both"] ["Leaf","Over"] (leaf t)=some (.bl false):=by kernel_rfl
 rw[iu,bB];unfold pN;simp! only[j1,j2]
theorem nQ{m:Nat}{s g' d:D}(h:dD m [fs,g]=.ok g')(hl:aM 12 [fs,g',s]=.ok d):dD (m+1) [fs,over g s]=.ok d:=by
 have j1:bF ["Over"] ["Leaf","Both"] (over g s)=some (.bl true):=by kernel_rfl
 rw[iu,bB];unfold pN;simp! only[j1,fY,kQ,h,hl]
end
theorem NX:∀(fas:aW)(ρ:aq),fNew "Over" ["glass","step"] fas ρ=(fas ρ).bind λas=>if as.length=2 then .ok (.obj "Over" ["glass","step"] as)else un:=λ_ _=>rfl
theorem Px:∀(fas:aW)(ρ:aq),fNew "Leaf" ["name"] fas ρ=(fas ρ).bind λas=>if as.length=1 then .ok (.obj "Leaf" ["name"] as)else un:=λ_ _=>rfl
theorem Jw(m:Int)(x:Str):bF ["Nest"] ["Step","Unnest","Part","Fuse","Rename","Sieve"] (oN m x)=some (.bl true):=by kernel_rfl
theorem JC(x:Str):bF ["Nest"] ["Step","Unnest","Part","Fuse","Rename","Sieve"] (oU x)=some (.bl false):=by kernel_rfl
theorem Jz(a:Str)(b:Int)(q r:Str):bF ["Nest"] ["Step","Unnest","Part","Fuse","Rename","Sieve"] (oP a b q r)=some (.bl false):=by kernel_rfl
theorem JG(q r:Str)(b:Int)(a:Str):bF ["Nest"] ["Step","Unnest","Part","Fuse","Rename","Sieve"] (oF q r b a)=some (.bl false):=by kernel_rfl
theorem JF(o n:Str):bF ["Nest"] ["Step","Unnest","Part","Fuse","Rename","Sieve"] (oR o n)=some (.bl false):=by kernel_rfl
theorem JD(a:Str)(k:D):bF ["Nest"] ["Step","Unnest","Part","Fuse","Rename","Sieve"] (oV a k)=some (.bl false):=by kernel_rfl
theorem JQ(m:Int)(x:Str):bF ["Unnest"] ["Step","Nest","Part","Fuse","Rename","Sieve"] (oN m x)=some (.bl false):=by kernel_rfl
theorem J5(x:Str):bF ["Unnest"] ["Step","Nest","Part","Fuse","Rename","Sieve"] (oU x)=some (.bl true):=by kernel_rfl
theorem J7(a:Str)(b:Int)(q r:Str):bF ["Unnest"] ["Step","Nest","Part","Fuse","Rename","Sieve"] (oP a b q r)=some (.bl false):=by kernel_rfl
theorem J4(q r:Str)(b:Int)(a:Str):bF ["Unnest"] ["Step","Nest","Part","Fuse","Rename","Sieve"] (oF q r b a)=some (.bl false):=by kernel_rfl
theorem JH(o n:Str):bF ["Unnest"] ["Step","Nest","Part","Fuse","Rename","Sieve"] (oR o n)=some (.bl false):=by kernel_rfl
theorem J6(a:Str)(k:D):bF ["Unnest"] ["Step","Nest","Part","Fuse","Rename","Sieve"] (oV a k)=some (.bl false):=by kernel_rfl
theorem JY(m:Int)(x:Str):bF ["Part"] ["Step","Nest","Unnest","Fuse","Rename","Sieve"] (oN m x)=some (.bl false):=by kernel_rfl
theorem JX(x:Str):bF ["Part"] ["Step","Nest","Unnest","Fuse","Rename","Sieve"] (oU x)=some (.bl false):=by kernel_rfl
theorem JE(a:Str)(b:Int)(q r:Str):bF ["Part"] ["Step","Nest","Unnest","Fuse","Rename","Sieve"] (oP a b q r)=some (.bl true):=by kernel_rfl
theorem Jy(q r:Str)(b:Int)(a:Str):bF ["Part"] ["Step","Nest","Unnest","Fuse","Rename","Sieve"] (oF q r b a)=some (.bl false):=by kernel_rfl
theorem Jx(o n:Str):bF ["Part"] ["Step","Nest","Unnest","Fuse","Rename","Sieve"] (oR o n)=some (.bl false):=by kernel_rfl
theorem Js(a:Str)(k:D):bF ["Part"] ["Step","Nest","Unnest","Fuse","Rename","Sieve"] (oV a k)=some (.bl false):=by kernel_rfl
theorem JA(m:Int)(x:Str):bF ["Fuse"] ["Step","Nest","Unnest","Part","Rename","Sieve"] (oN m x)=some (.bl false):=by kernel_rfl
theorem JN(x:Str):bF ["Fuse"] ["Step","Nest","Unnest","Part","Rename","Sieve"] (oU x)=some (.bl false):=by kernel_rfl
theorem JU(a:Str)(b:Int)(q r:Str):bF ["Fuse"] ["Step","Nest","Unnest","Part","Rename","Sieve"] (oP a b q r)=some (.bl false):=by kernel_rfl
theorem JO(q r:Str)(b:Int)(a:Str):bF ["Fuse"] ["Step","Nest","Unnest","Part","Rename","Sieve"] (oF q r b a)=some (.bl true):=by kernel_rfl
theorem JL(o n:Str):bF ["Fuse"] ["Step","Nest","Unnest","Part","Rename","Sieve"] (oR o n)=some (.bl false):=by kernel_rfl
theorem J8(a:Str)(k:D):bF ["Fuse"] ["Step","Nest","Unnest","Part","Rename","Sieve"] (oV a k)=some (.bl false):=by kernel_rfl
theorem JW(m:Int)(x:Str):bF ["Rename"] ["Step","Nest","Unnest","Part","Fuse","Sieve"] (oN m x)=some (.bl false):=by kernel_rfl
theorem Ju(x:Str):bF ["Rename"] ["Step","Nest","Unnest","Part","Fuse","Sieve"] (oU x)=some (.bl false):=by kernel_rfl
theorem JV(a:Str)(b:Int)(q r:Str):bF ["Rename"] ["Step","Nest","Unnest","Part","Fuse","Sieve"] (oP a b q r)=some (.bl false):=by kernel_rfl
theorem JP(q r:Str)(b:Int)(a:Str):bF ["Rename"] ["Step","Nest","Unnest","Part","Fuse","Sieve"] (oF q r b a)=some (.bl false):=by kernel_rfl
theorem HU(o n:Str):bF ["Rename"] ["Step","Nest","Unnest","Part","Fuse","Sieve"] (oR o n)=some (.bl true):=by kernel_rfl
theorem JZ(a:Str)(k:D):bF ["Rename"] ["Step","Nest","Unnest","Part","Fuse","Sieve"] (oV a k)=some (.bl false):=by kernel_rfl
theorem Gh(m:Int)(x:Str):bF ["Sieve"] ["Step","Nest","Unnest","Part","Fuse","Rename"] (oN m x)=some (.bl false):=by kernel_rfl
theorem GB(x:Str):bF ["Sieve"] ["Step","Nest","Unnest","Part","Fuse","Rename"] (oU x)=some (.bl false):=by kernel_rfl
theorem DB(a:Str)(b:Int)(q r:Str):bF ["Sieve"] ["Step","Nest","Unnest","Part","Fuse","Rename"] (oP a b q r)=some (.bl false):=by kernel_rfl
theorem Fi(q r:Str)(b:Int)(a:Str):bF ["Sieve"] ["Step","Nest","Unnest","Part","Fuse","Rename"] (oF q r b a)=some (.bl false):=by kernel_rfl
theorem DX(o n:Str):bF ["Sieve"] ["Step","Nest","Unnest","Part","Fuse","Rename"] (oR o n)=some (.bl false):=by kernel_rfl
theorem G8(a:Str)(k:D):bF ["Sieve"] ["Step","Nest","Unnest","Part","Fuse","Rename"] (oV a k)=some (.bl true):=by kernel_rfl
theorem N2(m:Int)(x:Str):aw "name" ["Leaf","Nest","Unnest","Part","Fuse","Sieve"] (oN m x)=some (.str x):=by rfl
theorem O5(x:Str):aw "name" ["Leaf","Nest","Unnest","Part","Fuse","Sieve"] (oU x)=some (.str x):=by rfl
theorem Lc(a:Str)(b:Int)(q r:Str):aw "name" ["Leaf","Nest","Unnest","Part","Fuse","Sieve"] (oP a b q r)=some (.str a):=by rfl
theorem K2(q r:Str)(b:Int)(a:Str):aw "name" ["Leaf","Nest","Unnest","Part","Fuse","Sieve"] (oF q r b a)=some (.str a):=by rfl
theorem Kx(a:Str)(k:D):aw "name" ["Leaf","Nest","Unnest","Part","Fuse","Sieve"] (oV a k)=some (.str a):=by rfl
theorem LN(a:Str)(b:Int)(q r:Str):aw "by" ["Part","Fuse"] (oP a b q r)=some (.int b):=by rfl
theorem LX(a:Str)(b:Int)(q r:Str):aw "quotient" ["Part","Fuse"] (oP a b q r)=some (.str q):=by rfl
theorem K8(a:Str)(b:Int)(q r:Str):aw "rest" ["Part","Fuse"] (oP a b q r)=some (.str r):=by rfl
theorem KH(q r:Str)(b:Int)(a:Str):aw "by" ["Part","Fuse"] (oF q r b a)=some (.int b):=by rfl
theorem Jo(q r:Str)(b:Int)(a:Str):aw "quotient" ["Part","Fuse"] (oF q r b a)=some (.str q):=by rfl
theorem HH(q r:Str)(b:Int)(a:Str):aw "rest" ["Part","Fuse"] (oF q r b a)=some (.str r):=by rfl
theorem gS{fs f s:D}{t:Str}(m':Nat)(h:Fm 12 (leaf t) fs (.ok f))(hi:aj bQ 2 2 [f,s]=.ok (.bl false)):aM (m'+1) [fs,leaf t,s]=.ok (over (leaf t) s):=by
 obtain⟨gf,hg,e⟩:=h;have m:=hg.meth (af 1) (aa (af 0) ah) [‹fs›,‹leaf t›,‹s›,none] rfl;have j1:bF ["Over"] ["Leaf","Both"] (leaf t)=some (.bl false):=by kernel_rfl
 have nn:isNon D.non=true:=rfl;rw[cK,dm];unfold dR;simp! only[m,e,hi,j1,nn,NX]
theorem mO{fs f s g:D}(m':Nat)(h:Fm 12 g fs (.ok f))(hi:aj bQ 2 2 [f,s]=.ok (.bl true)):aM (m'+1) [fs,g,s]=.ok g:=by
 obtain⟨gf,hg,e⟩:=h;have m:=hg.meth (af 1) (aa (af 0) ah) [‹fs›,‹g›,‹s›,none] rfl;rw[cK,dm];unfold dR;simp! only[m,e,hi]
section
variable{fs f f1' s0 s1 s2 r:D}{t:Str}
theorem yt(h0:Fm 12 (leaf t) fs (.ok f))(h1:Fm 12 (over (leaf t) s0) fs (.ok f1'))(hi:aj bQ 2 2 [f1',s1]=.ok (.bl false))(hs:aj bG 3 3 [f,s0,s1]=.ok (.lst [])):aM 12 [fs,over (leaf t) s0,s1]=.ok (leaf t):=by
 obtain⟨gf,hg,e⟩:=h0;obtain⟨gf',hg',e'⟩:=h1;have m:=hg'.meth (af 1) (aa (af 0) ah) [‹fs›,‹over (leaf t) s0›,‹s1›,none] rfl;have m0:=hg.meth (TG.f1 (aw "glass" ["Over"]) (af 1)) (aa (af 0) ah) [‹fs›,‹over (leaf t) s0›,‹s1›,‹.non›] (by simp! only[fY]);have j1:bF ["Over"] ["Leaf","Both"] (over (leaf t) s0)=some (.bl true):=by kernel_rfl
 have nn:isNon (.lst [])=false:=rfl;rw[cK,dm];unfold dR;simp! only[m,e',hi,j1,m0,e,kQ,hs,nn,fY,List.isEmpty_nil,Tc]
theorem xD(h0:Fm 12 (leaf t) fs (.ok f))(h1:Fm 12 (over (leaf t) s0) fs (.ok f1'))(hi:aj bQ 2 2 [f1',s1]=.ok (.bl false))(hs:aj bG 3 3 [f,s0,s1]=.ok (.lst [s2]))(hr:aM 11 [fs,leaf t,s2]=.ok r):aM 12 [fs,over (leaf t) s0,s1]=.ok r:=by
 obtain⟨gf,hg,e⟩:=h0;obtain⟨gf',hg',e'⟩:=h1;have m:=hg'.meth (af 1) (aa (af 0) ah) [‹fs›,‹over (leaf t) s0›,‹s1›,none] rfl;have m0:=hg.meth (TG.f1 (aw "glass" ["Over"]) (af 1)) (aa (af 0) ah) [‹fs›,‹over (leaf t) s0›,‹s1›,‹.non›] (by simp! only[fY]);have j1:bF ["Over"] ["Leaf","Both"] (over (leaf t) s0)=some (.bl true):=by kernel_rfl
 have nn:isNon (.lst [s2])=false:=rfl;have em:[s2].isEmpty=false:=rfl;rw[cK,dm];unfold dR;simp! only[m,e',hi,j1,m0,e,kQ,hs,nn,fY,em,Tz,hr]
end
theorem vw(cs:au)(F Fh:bK)(k:Ks)(ρ:aq):vK cs F Fh k ρ=F {k with ex:=λx ρ1=>if cs.contains x.c=true then Fh (hK0 k) ρ1 else un} ρ:=nr rfl
theorem Hi{f f1' f2' s0 s1 g' r:D}{g0 g1:cg}(t:Str)(o0:So s0 g0)(o1:So s1 g1)(e0:g0 [s0,f]=.ok f1')(e1:g1 [s1,f1']=.ok f2')(l0:aM 12 [vU t f,leaf t,s0]=.ok g')(l1:aM 12 [vU t f,g',s1]=.ok r):aj ao 3 6 [f,.str t,.lst [s0,s1]]=.ok r:=by
 have h0:=λm=>mE m t f;have h1:Fm 11 (over (leaf t) s0) (vU t f) (.ok f1'):=by
  have:=kD (h0 10) o0
  rwa [e0]at this
 have h2:Fm 12 (over (over (leaf t) s0) s1) (vU t f) (.ok f2'):=by
  have:=kD h1 o1
  rwa [e1]at this
 have th:=ym h2 (nQ (nQ (rq 9 t) l0) l1);have d1:=C7 t f;rw[dm];unfold ao;generalize vU t f=fs at *;simp! only[Px,NX,GD,GC,vw,uC,ud,qG,Dd,d1,th]
theorem ME{f:D}(t:Str):aj ao 3 6 [f,.str t,.lst [oS]]=.ok (leaf t):=by
 have h0:=λm=>mE m t f;have sv:aj bS 2 2 [oS,f]=.ok f:=by
  rw[bB];unfold bS;simp! only[]
 have h1:Fm 12 (over (leaf t) oS) (vU t f) (.ok f):=by
  have:=kD (h0 11) Ny
  rwa [sv]at this
 have w:aj cT 1 1 [oS]=.ok (.tup []):=by
  rw[cF];unfold cT;simp! only[IC]
 have m:=fq "words" Hr "Step" [] [] (aj cT 1 1) (af 1) ah [‹f›,‹oS›] rfl (by kernel_rfl) (by decide +kernel);have q:gEq (.tup []) (.tup [])=some (.bl true):=rfl;have hi:aj bQ 2 2 [f,oS]=.ok (.bl true):=by
  rw[bB];unfold bQ;simp! only[m,w,IC,q]
 have th:=ym h1 (nQ (rq 10 t) (mO 11 (h0 12) hi));have d1:=C7 t f;rw[dm];unfold ao;generalize vU t f=fs at *;simp! only[Px,NX,GD,GC,vw,uC,ud,qG,Dd,d1,th]
theorem kT(t:Str):aj aX 2 2 [leaf t,.str t]=.ok (.bl true):=by
 have j2:bF ["Leaf"] ["Over","Both"] (leaf t)=some (.bl true):=by kernel_rfl
 have fl:aw "name" ["Leaf","Nest","Unnest","Part","Fuse","Sieve"] (leaf t)=some (.str t):=by rfl
 rw[bB];unfold aX;simp! only[j2,fl,BEq.rfl,TN]
theorem jO(g s:D):bF ["Over"] ["Leaf","Both"] (over g s)=some (.bl true):=by kernel_rfl
theorem Dv(t o:Str):aj aR 4 4 [leaf t,.str t,.str o,.str o]=.ok (.bl true):=by
 have l:=kT t;rw[pT];unfold aR;simp! only[BEq.rfl,l]
theorem Fz(t o n:Str)(h:o≠n):aj aR 4 4 [over (leaf t) (oR o n),.str t,.str o,.str n]=.ok (.bl true):=by
 have l:=kT t;have z:(o==n)=false:=by simpa using h
 rw[pT];unfold aR;simp! only[z,jO,kQ,HU,fY,l,DI,Fx,BEq.rfl,TN]
theorem wy(o n:Str):aj fG 2 2 [.str o,.str n]=.ok (.lst (if o=n then[]else[oR o n])):=by
 have nw:∀(fas:aW)(ρ:aq),fNew "Rename" ["old","new"] fas ρ=(fas ρ).bind λas=>if as.length=2 then .ok (.obj "Rename" ["old","new"] as)else un:=λ_ _=>rfl
 rw[bB];unfold fG;by_cases h:o=n
 ·have z:(o==n)=true:=by simpa using h
  rw[if_pos h];simp! only[z,NF]
 ·have z:(o==n)=false:=by simpa using h
  rw[if_neg h];simp! only[z,nw,OC]
theorem t7{f f1' f2' s0 s1:D}{g0 g1:cg}(t o n:Str)(o0:So s0 g0)(o1:So s1 g1)(e0:g0 [s0,f]=.ok f1')(e1:g1 [s1,f1']=.ok f2')(i0:aj bQ 2 2 [f,s0]=.ok (.bl false))(i1:aj bQ 2 2 [f1',s1]=.ok (.bl false))(hs:aj bG 3 3 [f,s0,s1]=.ok (.lst (if o=n then[]else[oR o n]))):∃r,aj ao 3 6 [f,.str t,.lst [s0,s1]]=.ok r/\aj aR 4 4 [r,.str t,.str o,.str n]=.ok (.bl true):=by
 have h0:=λm=>mE m t f;have h1:Fm 12 (over (leaf t) s0) (vU t f) (.ok f1'):=by
  have:=kD (h0 11) o0
  rwa [e0]at this
 by_cases h:o=n
 ·rw[if_pos h]at hs;refine⟨leaf t,Hi t o0 o1 e0 e1 (gS 11 (h0 12) i0) (yt (h0 12) h1 i1 hs),?_⟩;rw[<-h];exact Dv t o
 ·rw[if_neg h]at hs;exact⟨over (leaf t) (oR o n),Hi t o0 o1 e0 e1 (gS 11 (h0 12) i0) (xD (h0 12) h1 i1 hs (gS 10 (h0 12) (eB (Jk _ _) (DX _ _) _))),Fz t o n h⟩
theorem tZ{f f1' f2' s0 s1:D}{g0 g1:cg}(t:Str)(o0:So s0 g0)(o1:So s1 g1)(e0:g0 [s0,f]=.ok f1')(e1:g1 [s1,f1']=.ok f2')(i0:aj bQ 2 2 [f,s0]=.ok (.bl false))(i1:aj bQ 2 2 [f1',s1]=.ok (.bl false))(hs:aj bG 3 3 [f,s0,s1]=.ok (.lst [])):aj ao 3 6 [f,.str t,.lst [s0,s1]]=.ok (leaf t):=by
 have h0:=λm=>mE m t f;have h1:Fm 12 (over (leaf t) s0) (vU t f) (.ok f1'):=by
  have:=kD (h0 11) o0
  rwa [e0]at this
 exact Hi t o0 o1 e0 e1 (gS 11 (h0 12) i0) (yt (h0 12) h1 i1 hs)
theorem Iy(f:D)(o n n':Str):aj bG 3 3 [f,oR o n,oR n n']=.ok (.lst (if o=n' then[]else[oR o n'])):=by
 have r:=wy o n';rw[dm];unfold bG;generalize (if o=n' then[]else[oR o n'])=xs at *;simp! only[Jw,JC,Jz,JG,JF,JD,JQ,J5,J7,J4,JH,J6,JY,JX,JE,Jy,Jx,Js,JA,JN,JU,JO,JL,J8,JW,Ju,JV,JP,HU,JZ,Gh,GB,DB,Fi,DX,G8,DI,Fx,BEq.rfl,r]
theorem Ln(b b':Int)(q r q' r':Str):gEq (.tup [.int b,.str q,.str r]) (.tup [.int b',.str q',.str r'])=some (.bl ((b==b')&&((q==q')&&(r==r')))):=by
 have e:gEq (.tup [.int b,.str q,.str r]) (.tup [.int b',.str q',.str r'])=if(pl (.tup [.int b,.str q,.str r])&&pl (.tup [.int b',.str q',.str r']))&&(dB 8 (.tup [.int b,.str q,.str r])||dB 8 (.tup [.int b',.str q',.str r']))then some (.bl (pyEq (.tup [.int b,.str q,.str r]) (.tup [.int b',.str q',.str r'])))else none:=rfl
 have p1:pl (.tup [.int b,.str q,.str r])=true:=rfl;have p2:pl (.tup [.int b',.str q',.str r'])=true:=rfl;have d1:dB 8 (.tup [.int b,.str q,.str r])=true:=rfl;have w:pyEq (.tup [.int b,.str q,.str r]) (.tup [.int b',.str q',.str r'])=((b==b')&&((q==q')&&(r==r'))):=by
  simp only[pyEq,eG,Sw]
 rw[e,p1,p2,d1,w];rfl
theorem FH(a:Str)(b:Int)(q r q' r':Str)(b':Int)(a':Str):aj cU 2 2 [oP a b q r,oF q' r' b' a']=.ok (.bl ((b==b')&&((q==q')&&(r==r')))):=by
 rw[bB];unfold cU;simp! only[LN,LX,K8,KH,Jo,HH,uX,Ln]
theorem DA(a:Str)(b:Int)(q r q' r':Str)(b':Int)(a':Str):aj cU 2 2 [oF q r b a,oP a' b' q' r']=.ok (.bl ((b==b')&&((q==q')&&(r==r')))):=by
 rw[bB];unfold cU;simp! only[LN,LX,K8,KH,Jo,HH,uX,Ln]
theorem GY(f:D)(a:Str)(b:Int)(q r a':Str):aj bG 3 3 [f,oP a b q r,oF q r b a']=.ok (.lst (if a=a' then[]else[oR a a'])):=by
 have s:=FH a b q r q r b a';rw[show((b==b)&&((q==q)&&(r==r)))=true by simp]at s;have rn:=wy a a';rw[dm];unfold bG;generalize (if a=a' then[]else[oR a a'])=xs at *;simp! only[Jw,JC,Jz,JG,JF,JD,JQ,J5,J7,J4,JH,J6,JY,JX,JE,Jy,Jx,Js,JA,JN,JU,JO,JL,J8,JW,Ju,JV,JP,HU,JZ,Gh,GB,DB,Fi,DX,G8,s,Lc,K2,rn]
theorem AB{K R:L}(F:Fk K R){i:Nat}{q r:Str}{k k':D}(hi:(K++R)[i]?=some (q,k))(hj:(K++R)[i+1]?=some (r,k'))(a:Str)(b:Int):aj bG 3 3 [fm K R,oF q r b a,oP a b q r]=.ok (.lst []):=by
 have s:=DA a b q r q r b a;rw[show((b==b)&&((q==q)&&(r==r)))=true by simp]at s;have p:=F.at hi;have p':=F.at hj;have y:(((i+1:Nat):Int)==(i:Int)+1)=true:=by simp
 have bh:aj fZ 2 2 [fm K R,oF q r b a]=.ok (.bl true):=by
  rw[bB];unfold fZ;generalize fm K R=f0 at *;simp! only[Jo,HH,p,p',y]
 rw[dm];unfold bG;generalize fm K R=f0 at *;simp! only[Jw,JC,Jz,JG,JF,JD,JQ,J5,J7,J4,JH,J6,JY,JX,JE,Jy,Jx,Js,JA,JN,JU,JO,JL,J8,JW,Ju,JV,JP,HU,JZ,Gh,GB,DB,Fi,DX,G8,Lc,K2,BEq.rfl,s,bh,NF]
theorem Je(x y:Str)(m:Int)(f:D):aj bG 3 3 [f,oN m x,oU y]=.ok (.lst []):=by
 rw[dm];unfold bG;simp! only[Jw,JC,Jz,JG,JF,JD,JQ,J5,J7,J4,JH,J6,JY,JX,JE,Jy,Jx,Js,JA,JN,JU,JO,JL,J8,JW,Ju,JV,JP,HU,JZ,Gh,GB,DB,Fi,DX,G8,NF]
theorem Hj{K R:L}(F:Fk K R){i:Nat}{x y:Str}{f:D}(hi:(K++R)[i]?=some (x,.tup [.str "rows",f,.bl true])):aj bG 3 3 [fm K R,oU x,oN K.length y]=.ok (.lst (if x=y then[]else[oR x y])):=by
 have p:=F.at hi;have kd:=F.kd hi;have ex:aj bZ 2 2 [oU x,fm K R]=.ok (.bl true):=by
  rw[bB];unfold bZ;generalize fm K R=f0 at *;simp! only[GO,p,kd]
 have m2:=fq "exact" Ic "Unnest" ["name"] [.str x] (aj bZ 2 2) (af 1) (aa (af 0) ah) [‹fm K R›,‹oU x›,‹oN K.length y›] rfl (by kernel_rfl) (by decide +kernel);have lk:=tH K;have i0:ak (fm K R) (.int 0)=some (.tup (K.map fld)):=fz _ _;have rn:=wy x y;rw[dm];unfold bG;generalize fm K R=f0 at *;generalize (if x=y then[]else[oR x y])=xs at *;simp! only[Jw,JC,Jz,JG,JF,JD,JQ,J5,J7,J4,JH,J6,JY,JX,JE,Jy,Jx,Js,JA,JN,JU,JO,JL,J8,JW,Ju,JV,JP,HU,JZ,Gh,GB,DB,Fi,DX,G8,m2,ex,Jf,i0,lk,BEq.rfl,N2,O5,rn]
theorem HI(f:D)(x:Str){a b:Kd}(h:a.n=b.n)(oa:a.ok)(o:(a.ib b).ok):aj bG 3 3 [f,oV x a.d,oV x b.d]=.ok (.lst [oV x (a.ib b).d]):=by
 have bo:=uj h oa o;have nw:∀(fas:aW)(ρ:aq),fNew "Sieve" ["name","kind"] fas ρ=(fas ρ).bind λas=>if as.length=2 then .ok (.obj "Sieve" ["name","kind"] as)else un:=λ_ _=>rfl
 rw[dm];unfold bG;generalize (a.ib b).d=kc at *;generalize a.d=ka at *;generalize b.d=kb at *;simp! only[Jw,JC,Jz,JG,JF,JD,JQ,J5,J7,J4,JH,J6,JY,JX,JE,Jy,Jx,Js,JA,JN,JU,JO,JL,J8,JW,Ju,JV,JP,HU,JZ,Gh,GB,DB,Fi,DX,G8,Kx,BEq.rfl,wQ,bo,nw,OC]
section
variable{K R:L}
noncomputable def Pk(d:D):Prop:=∃(s:Str)(t:List D),d=.tup (.str s::t)/\(s==("rows":Str))=false
theorem IV(hl:(K++R).length<=30)(h:∀p∈K++R,Pk p.2):bx 12 [fm K R]=.ok (.int 0):=by
 have ll:(K.map fld).length+(R.map fld).length<=100:=by rw[RK,RK];rw[R0]at hl;omega
 have ko:aj dN 1 1 [fm K R]=.ok (.tup ((K++R).map (·.2))):=kinds_ok (K.map fld) (R.map fld) (K++R) ll Fk.e;have f0:iF [none] (cE (fR (aj dN 1 1) (aa (af 0) ah))) (gN 0) (fB (f2 gEq (f2 ak (af 0) (fC (.int 0))) (fC (.str "rows")))) (f2 bN (fC (.int 1)) (fR (bx 11) (aa (f2 ak (af 0) (fC (.int 1))) ah))) [‹fm K R›]=.ok (.lst []):=by
  have e:=pB (ρ:=inB [none] [‹fm K R›]) (g:=gN 0) (C:=fB (f2 gEq (f2 ak (af 0) (fC (.int 0))) (fC (.str "rows")))) (Fe:=f2 bN (fC (.int 1)) (fR (bx 11) (aa (f2 ak (af 0) (fC (.int 1))) ah))) (λp:Str×D=>p.2) (λ_=>false) (λ_=>.non) (K++R) λp hp=>⟨_,rfl,by
   obtain⟨s,t,e,hs⟩:=h p hp;rw[e];simp! only[hs],λz=>by cases z⟩
  have z:(K++R).filter (λ_=>false)=[]:=by simp
  rw[z]at e;refine eQ (ds:=(K++R).map (·.2)) ?_ (by rw[RK];omega) e;generalize fm K R=f0 at *;simp! only[ko]
 have gm0:sj 0 (.lst [])=some (.int 0):=rfl;rw[gE,cF];unfold jA;generalize fm K R=f0 at *;simp! only[f0,gm0]
theorem yo{m:Nat}{x:Str}(hl:(K++R).length<=30)(m1:1<=m)(m2:m<K.length)(hx:x∉K.map (·.1))(h:∀p∈K++R,Pk p.2):aj bW 2 4 [oN m x,fm K R]=.ok (fm (K.take m) [(x,.tup [.str "rows",fm (K.drop m) R,.bl true])]):=by
 have w:=whole (m:Int);have i0:ak (fm K R) (.int 0)=some (.tup (K.map fld)):=fz _ _;have i1:ak (fm K R) (.int 1)=some (.tup (R.map fld)):=fD _ _ _;have lk:=tH K;have c1:cutD (K.map fld) none (some (m:Int))=(K.take m).map fld:=by rw[wR,TH]
 have c2:cutD (K.map fld) (some (m:Int)) none=(K.drop m).map fld:=by rw[pL,TJ]
 have f0:iF [none] (cE (af 2)) (gN 0) eD (f2 ak (af 0) (fC (.int 0))) [‹oN m x›,‹fm K R›,‹.tup ((K.take m).map fld)›,none]=.ok (.lst ((K.take m).map λp=>.str p.1)):=by
  refine eQ (ds:=(K.take m).map fld) (by simp! only[]) (by rw[RK,RT];rw[R0]at hl;omega) ?_;exact jx (λp:Str×D=>fld p) (λp=>.str p.1) _ λp hp=>⟨_,rfl,rfl,by simp! only[]⟩
 have gi:uJ (.str x) (.lst ((K.take m).map λp=>.str p.1))=some (.bl false):=by
  have e:=DE x ((K.take m).map (·.1));rw[Tr]at e;have c:((K.take m).map (·.1)).contains x=false:=by
   cases z:((K.take m).map (·.1)).contains x with
   |false=>rfl
   |true=>
    obtain⟨p,hp,e⟩:=List.mem_map.mp (List.contains_iff_mem.mp z);exact absurd (List.mem_map.mpr ⟨p,TR hp,e⟩) hx
  rw[c]at e;exact e
 have d0:bx 12 [fm (K.drop m) R]=.ok (.int 0):=by
  refine IV ?_ ?_
  ·rw[R0,R3];rw[R0]at hl;omega
  ·intro p hp;rcases List.mem_append.mp hp with z|z
   ·exact h p (Rw _ (List.mem_of_mem_drop z))
   ·exact h p (RC _ z)
 have d0:bx 12 [.tup [.tup ((K.drop m).map fld),.tup (R.map fld)]]=.ok (.int 0):=d0;have g3:decide ((3:Int)<=0)=false:=rfl;have b1:(decide ((1:Int)<=(m:Int))&&decide ((m:Int)<(K.length:Int)))=true:=by
  rw[decide_eq_true (by omega:(1:Int)<=(m:Int)),decide_eq_true (by omega:(m:Int)<(K.length:Int))];rfl
 have ef:fm (K.take m) [(x,.tup [.str "rows",fm (K.drop m) R,.bl true])]=.tup [.tup ((K.take m).map fld),.tup [.tup [.str x,.tup [.str "rows",.tup [.tup ((K.drop m).map fld),.tup (R.map fld)],.bl true]]]]:=rfl;rw[ef];rw[bB];unfold bW;generalize fm K R=ff at *;simp! only[Jf,Km,w,i0,i1,lk,eL,pK,b1,Tc,TQ,c1,f0,gi,c2,qK,d0,g3,uX,CU]
theorem BZ{I J:L}{x:Str}{w:Bool}(F:Fk K [(x,.tup [.str "rows",fm I J,.bl w])])(hl:(I++J).length<=30)(h8:K.length+I.length<=8)(h:∀p∈K,p.1∉(I++J).map (·.1)):aj bD 2 5 [oU x,fm K [(x,.tup [.str "rows",fm I J,.bl w])]]=.ok (fm (K++I) J):=by
 have hi:(K++[(x,.tup [.str "rows",fm I J,.bl w])])[K.length]?=some (x,.tup [.str "rows",fm I J,.bl w]):=by
  rw[RU (RB _),S5];rfl
 have p:=F.at hi;have k:=F.kd hi;have nmi:aj cZ 1 1 [fm I J]=.ok (.tup ((I++J).map λp=>.str p.1)):=lF (I.map fld) (J.map fld) (I++J) ‹0› Fk.e;have kl:=F.kl;have f0:iF [none,some 4] (cE (af 3)) (gN 0) eD (f2 uJ (f2 ak (af 0) (fC (.int 0))) (fR (aj cZ 1 1) (aa (af 1) ah))) [‹oU x›,‹fm K [(x,.tup [.str "rows",fm I J,.bl w])]›,‹.tup [.str "rows",fm I J,.bl w]›,‹.tup (K.map fld)›,‹fm I J›]=.ok (.lst ((K.map λ_=>false).map .bl)):=by
  refine eQ (ds:=K.map fld) (by simp! only[]) (by rw[RK];omega) ?_;rw[Tr];refine jx (λp:Str×D=>fld p) _ K λp hp=>⟨_,rfl,rfl,?_⟩
  have c:=yf (K:=I) (R:=J) (h p hp);generalize fm I J=ff at *;simp! only[nmi,vG,c];rfl
 have an:(K.map λ_=>false).any id=false:=by
  rw[S7,RF];intro p _ z;cases z
 have ad:=dQ (K.map fld) (I.map fld) (by rw[RK,RK];omega);rw[<-SE]at ad;have Kr:((1:Int)==1)=true:=rfl;have lk:=tH K;have li:=tH I;have d8:decide ((8:Int)<(K.length:Int)+(I.length:Int))=false:=decide_eq_false ‹0›;have i0:ak (fm K [(x,.tup [.str "rows",fm I J,.bl w])]) (.int 0)=some (.tup (K.map fld)):=fz _ _;have i1:ak (fm K [(x,.tup [.str "rows",fm I J,.bl w])]) (.int 1)=some (.tup [fld (x,.tup [.str "rows",fm I J,.bl w])]):=fD _ _ _;have l1:gA [.tup [fld (x,.tup [.str "rows",fm I J,.bl w])]]=some (.int 1):=rfl;have a0:ak (fm I J) (.int 0)=some (.tup (I.map fld)):=fz _ _;have a1:ak (fm I J) (.int 1)=some (.tup (J.map fld)):=fD _ _ _;rw[bB];unfold bD;generalize fm K [(x,.tup [.str "rows",fm I J,.bl w])]=f1 at *;generalize fld (x,.tup [.str "rows",fm I J,.bl w])=fx at *;have ef:fm (K++I) J=.tup [.tup ((K++I).map fld),.tup (J.map fld)]:=rfl;rw[ef];generalize fm I J=f2 at *;simp! only[GO,p,k,IU,pK,i0,i1,l1,a0,a1,lk,li,Kr,Tc,TQ,f0,yh,an,d8,ad,qK]
end
noncomputable def Kd.sm:Kd->Prop
 |.kn a b=>a<=b/\a.natAbs<10^60/\b.natAbs<10^60
 |.kw ws=>ws≠[]/\ws.length<=50/\∀w∈ws,w.length<=100
theorem Kd.sm.ok'{k:Kd}(h:k.sm):k.ok:=by
 cases k with
 |kn a b=>
  have s:(10:Nat)^60<10^65:=by decide +kernel
  exact⟨h.1,Sd h.2.1 s,Sd h.2.2 s⟩
 |kw ws=>exact h
noncomputable def Inj(n:Nat->Str):Prop:=∀a b,a<24->b<24->n a=n b->a=b
structure Bs(n:Nat->Str)(K R:L):Prop where
 k1:1<=K.length
 k2:K.length<=4
 r2:R.length<=3
 at_:∀i p,(K++R)[i]?=some p->p.1=n i/\∃k:Kd,p.2=k.d/\k.sm
section
variable{n:Nat->Str}{K R:L}{t:Str}
theorem oY{i:Nat}{p:Str×D}(hi:(K++R)[i]?=some p):i<(K++R).length:=(List.getElem?_eq_some_iff.mp hi).1
theorem FZ{i:Nat}{p:Str×D}(hi:(K++R)[i]?=some p):((K++R).map (·.1))[i]?=some p.1:=by rw[RX,hi];rfl
theorem Fk.oth(F:Fk K R){i j:Nat}{p:Str×D}(hi:(K++R)[i]?=some p)(ij:j≠i):((K++R).map (·.1))[j]?≠some p.1:=λz=>by
 have a:=FZ hi;have li:=(List.getElem?_eq_some_iff.mp a).1;have lj:=(List.getElem?_eq_some_iff.mp z).1;have ea:=(List.getElem?_eq_some_iff.mp a).2;have ez:=(List.getElem?_eq_some_iff.mp z).2;rcases Tn ij with h|h
 ·exact List.pairwise_iff_getElem.mp F.nd j i lj li h (by rw[ea,ez])
 ·exact List.pairwise_iff_getElem.mp F.nd i j li lj h (by rw[ea,ez])
theorem Fk.setN(F:Fk K R){i:Nat}{p:Str×D}{x:Str}{k:D}(hi:(K++R)[i]?=some p)(hx:x∉(K++R).map (·.1)):Fk (rk K i [(x,k)]) (rr K R i [(x,k)]):=F.set (oY hi) λj _ z=>hx (RZ z)
theorem Fk.setK(F:Fk K R){i:Nat}{x:Str}{k k':D}(hi:(K++R)[i]?=some (x,k)):Fk (rk K i [(x,k')]) (rr K R i [(x,k')]):=F.set (p:=(x,k')) (oY hi) λj ij=>F.oth (p:=(x,k)) hi ij
end
noncomputable def Nj(n:Nat->Str)(P:Nat->Prop)(ps:L):Prop:=∀p∈ps,∃j,P j/\j<24/\p.1=n j
section
variable{n:Nat->Str}{P:Nat->Prop}{K R ps qs:L}{t:Str}
theorem Nj.no(h:Nj n P ps)(N:Inj n){a:Nat}(ha:a<24)(hp:¬P a):n a∉ps.map (·.1):=λz=>by
 obtain⟨p,hp',e⟩:=List.mem_map.mp z;obtain⟨j,h1,h2,h3⟩:=h p hp'
 have:=N j a h2 ha (h3.symm.trans e)
 exact hp (this ▸ h1)
theorem Nj.cons{p:Str×D}(h:Nj n P ps)(j:Nat)(hj:P j)(j2:j<24)(e:p.1=n j):Nj n P (p::ps):=λq hq=>by
 rcases List.mem_cons.mp hq with z|z
 ·exact⟨j,hj,j2,by rw[z];exact e⟩
 ·exact h q z
theorem Nj.nil:Nj n P []:=λp hp=>by cases hp
theorem xf{z:Str×D}(h:((K++R).map (·.1)).Nodup)(hz:z.1∉(K++R).map (·.1)):(((K++[z])++R).map (·.1)).Nodup:=by
 rw[SR,List.singleton_append];have p:((K++z::R).map (·.1)).Perm ((z::(K++R)).map (·.1)):=List.perm_middle.map _;rw[p.nodup_iff,RJ,List.nodup_cons];exact⟨hz,h⟩
theorem Fk.wide(F:Fk K R)(hl:K.length<=4){z:Str×D}(hz:z.1∉(K++R).map (·.1)):Fk (K++[z]) R:=⟨by simp,by simp;omega,F.rl,xf F.nd hz⟩
theorem Bs.len(B:Bs n K R):(K++R).length<=7:=by have:=B.k2;have:=B.r2;rw[R0];omega
theorem Bs.nj(B:Bs n K R)(hP:∀j,j<7->P j):Nj n P (K++R):=λp hp=>by
 obtain⟨i,hi⟩:=TU hp
 have:=(List.getElem?_eq_some_iff.mp hi).1
 have:=B.len
 exact⟨i,hP i ‹0›,by omega,(B.at_ i p hi).1⟩
theorem Bs.no(B:Bs n K R)(N:Inj n){j:Nat}(h:10<=j)(h':j<24):n j∉(K++R).map (·.1):=(B.nj (P:=λj=>j<7) λ_ h=>h).no N h' ‹0›
theorem Bs.fk(B:Bs n K R)(N:Inj n):Fk K R:=⟨B.k1,by have:=B.k2;omega,by have:=B.r2;omega,by
 have l:=B.len;refine List.pairwise_iff_getElem.mpr λa b ha hb hab z=>?_;rw[RK]at ha hb;rw[TF,TF,(B.at_ a _ (Su ha)).1,(B.at_ b _ (Su hb)).1]at z
 have:=N a b ‹0› ‹0› z
 omega⟩
theorem xg(a b:Int):Pk (num a b):=⟨_,_,rfl,IK⟩
theorem LW(k:Kd):Pk k.d:=by
 cases k with
 |kn a b=>exact xg a b
 |kw ws=>exact⟨_,_,rfl,Cj⟩
theorem Bs.pk(B:Bs n K R):∀p∈K++R,Pk p.2:=λp hp=>by
 obtain⟨i,hi⟩:=TU hp;obtain⟨_,k,e,_⟩:=B.at_ i p hi;rw[e];exact LW k
end
theorem wt(a b:Int):a*b%b=0:=Int.mul_emod_left a b
theorem BF(a b:Int):(a*b+b)%b=0:=by
 rw[show a*b+b=(a+1)*b by rw[Int.add_mul,Int.one_mul]];exact wt _ _
noncomputable abbrev SP(n:Nat->Str):D:=.lst [.str (n 10),.str (n 11),.str (n 12),.str (n 13),.str (n 14)]
theorem xU(f:FX)(g:GF)(k:Ks)(ρ:aq):DN f g k ρ=o7 (f ρ) k ρ λd=>(rO (g d ρ)).bind k.nx:=nr rfl
theorem CO{ps:L}{i:Nat}{p:Str×D}(h:ps[i]?=some p):ak (.tup (ps.map fld)) (.int (i:Int))=some (fld p):=by
 rw[Lw,Bb,RX,h];rfl
theorem Qb:∀(fas:aW)(ρ:aq),fNew "Rename" ["old","new"] fas ρ=(fas ρ).bind λas=>if as.length=2 then .ok (.obj "Rename" ["old","new"] as)else un:=λ_ _=>rfl
theorem PD:∀(fas:aW)(ρ:aq),fNew "Sieve" ["name","kind"] fas ρ=(fas ρ).bind λas=>if as.length=2 then .ok (.obj "Sieve" ["name","kind"] as)else un:=λ_ _=>rfl
theorem Pp:∀(fas:aW)(ρ:aq),fNew "Part" ["name","by","quotient","rest"] fas ρ=(fas ρ).bind λas=>if as.length=4 then .ok (.obj "Part" ["name","by","quotient","rest"] as)else un:=λ_ _=>rfl
theorem Pn:∀(fas:aW)(ρ:aq),fNew "Fuse" ["quotient","rest","by","name"] fas ρ=(fas ρ).bind λas=>if as.length=4 then .ok (.obj "Fuse" ["quotient","rest","by","name"] as)else un:=λ_ _=>rfl
theorem P2:∀(fas:aW)(ρ:aq),fNew "Nest" ["many","name"] fas ρ=(fas ρ).bind λas=>if as.length=2 then .ok (.obj "Nest" ["many","name"] as)else un:=λ_ _=>rfl
theorem QO:∀(fas:aW)(ρ:aq),fNew "Unnest" ["name"] fas ρ=(fas ρ).bind λas=>if as.length=1 then .ok (.obj "Unnest" ["name"] as)else un:=λ_ _=>rfl
section
variable{n:Nat->Str}{K R:L}{t:Str}
theorem yr(B:Bs n K R)(x:Int):∃(i:Nat)(p:Str×D),(K++R)[i]?=some p/\x%((K++R).length:Int)=i/\∀x',cP (.int x') (.int ((K++R).length:Int))=some (.int (x'%((K++R).length:Int))):=by
 have k1:=B.k1;have l0:0<(K++R).length:=by rw[R0];omega
 have a0:=TB x (show((K++R).length:Int)≠0 by omega);have a1:=TC x (show(0:Int)<((K++R).length:Int)by omega);exact⟨(x%((K++R).length:Int)).toNat,_,Su ‹0›,by omega,λx'=>fP (i:=x') ‹0›⟩
theorem vW(B:Bs n K R)(N:Inj n)(x:Int):aj du 4 7 [fm K R,.str t,SP n,.int x]=.ok (.bl true):=by
 have F:=B.fk N;have ad:bN (.tup (K.map fld)) (.tup (R.map fld))=some (.tup ((K++R).map fld)):=by
  have:=B.len
  rw[R0]at this;rw[dQ _ _ (by rw[RK,RK];omega),Fk.e]
 have gl:gA [.tup ((K++R).map fld)]=some (.int ((K++R).length:Int)):=tH _;obtain⟨i,⟨a,k⟩,hi,ei,ml⟩:=yr B x;have gi:=CO hi;have m2:=gm 2;have d8:=gd 8;obtain⟨nw,en,hn⟩:∃nw:Str,ak (.lst [.str a,.str (n 11)]) (.int (x/8%2))=some (.str nw)/\(nw=a\/nw=n 11):=by
  rcases(show x/8%2=0\/x/8%2=1 by omega)with q|q<;>rw[q]
  ·exact⟨_,rfl,.inl rfl⟩
  ·exact⟨_,rfl,.inr rfl⟩
 have hx:=B.no N (j:=10) (by decide) (by decide);have F':Fk (rk K i [(n 10,k)]) (rr K R i [(n 10,k)]):=F.setN hi hx;have hi':(rk K i [(n 10,k)]++rr K R i [(n 10,k)])[i]?=some (n 10,k):=by rw[vI i _ (oY hi),Rx (oY hi)]
 have hy:nw∉(rk K i [(n 10,k)]++rr K R i [(n 10,k)]).map (·.1):=λz=>by
  rw[vI i _ (oY hi),List.map_set]at z;obtain⟨m,hm⟩:=TU z;by_cases mi:m=i
  ·rw[mi,Rx (by rw[RK];exact oY hi)]at hm;have e:n 10=nw:=Option.some.inj hm;rcases hn with h|h
   ·exact hx (by rw[e,h];exact RZ (FZ hi))
   ·have:=N 10 11 (by decide) (by decide) (e.trans h);omega
  ·rw[Ry (Ne.symm mi)]at hm;rcases hn with h|h
   ·rw[h]at hm;exact F.oth hi mi hm
   ·rw[h]at hm;exact B.no N (j:=11) (by decide) (by decide) (RZ hm)
 obtain⟨r,e1,e2⟩:=t7 t a nw (KU _ _) (KU _ _) (CD F hi hx) (CD F' hi' hy) (eB (Jk _ _) (DX _ _) _) (eB (Jk _ _) (DX _ _) _) (Iy _ _ _ _);have i0:ak (fm K R) (.int 0)=some (.tup (K.map fld)):=fz _ _;have i1:ak (fm K R) (.int 1)=some (.tup (R.map fld)):=fD _ _ _;have s0:ak (SP n) (.int 0)=some (.str (n 10)):=rfl;have s1:ak (SP n) (.int 1)=some (.str (n 11)):=rfl;rw[pT];unfold du;generalize fm K R=ff at *;generalize SP n=sp at *;simp! only[i0,i1,ad,gl,ml,ei,gi,s0,s1,Hz,d8,m2,en,Qb,e1,e2]
theorem yU(B:Bs n K R)(N:Inj n)(SK:∀(k:Kd)(y:Int),k.sm->∃c:Kd,k.n=c.n/\c.ok/\(k.ib c).sm/\aj bc 2 5 [k.d,.int y]=.ok c.d)(x:Int):aj de 3 9 [fm K R,.str t,.int x]=.ok (.bl true):=by
 have F:=B.fk N;have ad:bN (.tup (K.map fld)) (.tup (R.map fld))=some (.tup ((K++R).map fld)):=by
  have:=B.len
  rw[R0]at this;rw[dQ _ _ (by rw[RK,RK];omega),Fk.e]
 have gl:gA [.tup ((K++R).map fld)]=some (.int ((K++R).length:Int)):=tH _;obtain⟨i,⟨a,kd⟩,hi,ei,ml⟩:=yr B x;obtain⟨_,k,e0,osm⟩:=B.at_ i _ hi;have ok:=osm.ok';have e0:kd=k.d:=e0;subst e0;have gi:=CO hi;have d8:=gd 8;have d64:=gd 64;obtain⟨c,hc,oc,o1s,ec⟩:=SK k (x/8) osm;obtain⟨c',hc',oc',o2s,ec'⟩:=SK (k.ib c) (x/64) o1s;have o1:=o1s.ok';have o2:=o2s.ok';have n1:(k.ib c).n=k.n:=Kd.ib_n hc;have cc:c.n=c'.n:=by rw[<-hc,<-n1,hc']
 have kc:k.n=c'.n:=by rw[hc,cc]
 have ib1:=xn hc ok;have ib2:=xn hc' o1;have F1:Fk (rk K i [(a,(k.ib c).d)]) (rr K R i [(a,(k.ib c).d)]):=F.setK hi;have hi1:(rk K i [(a,(k.ib c).d)]++rr K R i [(a,(k.ib c).d)])[i]?=some (a,(k.ib c).d):=by rw[vI i _ (oY hi),Rx (oY hi)]
 have v0:=AJ F hi hc ok o1;have v1:=AJ F1 hi1 hc' o1 o2;have h0:=λm=>mE m t (fm K R);have h1:Fm 12 (over (leaf t) (oV a c.d)) (vU t (fm K R)) (.ok (fm (rk K i [(a,(k.ib c).d)]) (rr K R i [(a,(k.ib c).d)]))):=by
  have:=kD (h0 11) (tW a c.d)
  rwa [v0]at this
 have J0:=pE F hi hc ok oc o1;have J1:=pE F1 hi1 hc' o1 oc' o2;have fin:∃r,aj ao 3 6 [fm K R,.str t,.lst [oV a c.d,oV a c'.d]]=.ok r/\(((k.ib c).ib c'=k/\r=leaf t)\/((k.ib c).ib c'≠k/\∃e:Kd,r=over (leaf t) (oV a e.d)/\k.n=e.n/\k.ib e=(k.ib c).ib c')):=by
  by_cases z:k.ib c=k
  ·have p:pyEq (k.ib c).d k.d=true:=(Kd.eq_iff n1).mpr z;rw[p]at J0;have l0:=mO 11 (h0 12) J0;have o2':=o2;rw[z]at o2';have J2:=pE F hi kc ok oc' o2';by_cases y:k.ib c'=k
   ·rw[(Kd.eq_iff (Kd.ib_n kc)).mpr y]at J2;exact⟨leaf t,Hi t (tW _ _) (tW _ _) v0 v1 l0 (mO 11 (h0 12) J2),.inl ⟨by rw[z,y],rfl⟩⟩
   ·have q:pyEq (k.ib c').d k.d=false:=by
     cases w:pyEq (k.ib c').d k.d with
     |false=>rfl
     |true=>exact absurd ((Kd.eq_iff (Kd.ib_n kc)).mp w) y
    rw[q]at J2;exact⟨_,Hi t (tW _ _) (tW _ _) v0 v1 l0 (gS 11 (h0 12) J2),.inr ⟨by rw[z];exact y,c',rfl,kc,by rw[z]⟩⟩
  ·have p:pyEq (k.ib c).d k.d=false:=by
    cases w:pyEq (k.ib c).d k.d with
    |false=>rfl
    |true=>exact absurd ((Kd.eq_iff n1).mp w) z
   rw[p]at J0;have l0:=gS 11 (h0 12) J0;have ne:(k.ib c).ib c'≠k:=λw=>z (Kd.absorb hc cc w);have n2:((k.ib c).ib c').n=(k.ib c).n:=Kd.ib_n hc';by_cases y:(k.ib c).ib c'=k.ib c
   ·rw[(Kd.eq_iff n2).mpr y]at J1;exact⟨_,Hi t (tW _ _) (tW _ _) v0 v1 l0 (mO 11 h1 J1),.inr ⟨ne,c,rfl,hc,y.symm⟩⟩
   ·have q:pyEq ((k.ib c).ib c').d (k.ib c).d=false:=by
     cases w:pyEq ((k.ib c).ib c').d (k.ib c).d with
     |false=>rfl
     |true=>exact absurd ((Kd.eq_iff n2).mp w) y
    rw[q]at J1;have o3:=Kd.ib_ok hc cc oc oc' o2;have nc:k.n=(c.ib c').n:=(by rw[Kd.ib_n cc];exact hc);have as:=Kd.assoc hc cc;have o4:(k.ib (c.ib c')).ok:=(by rw[<-as];exact o2);have J3:=pE F hi nc ok o3 o4;have q3:pyEq (k.ib (c.ib c')).d k.d=false:=by
     cases w:pyEq (k.ib (c.ib c')).d k.d with
     |false=>rfl
     |true=>exact absurd (as.trans ((Kd.eq_iff (Kd.ib_n nc)).mp w)) ne
    rw[q3]at J3;exact⟨_,Hi t (tW _ _) (tW _ _) v0 v1 l0 (xD (h0 12) h1 J1 (HI _ _ cc oc o3) (gS 10 (h0 12) J3)),.inr ⟨ne,c.ib c',rfl,nc,as.symm⟩⟩
 obtain⟨r,er,hr⟩:=fin;have ge:=Kd.gEq ((k.ib c).ib c') k;have n3:((k.ib c).ib c').n=k.n:=by rw[Kd.ib_n hc',n1]
 have lf:=kT t;have i0:ak (fm K R) (.int 0)=some (.tup (K.map fld)):=fz _ _;have i1:ak (fm K R) (.int 1)=some (.tup (R.map fld)):=fD _ _ _;have gT:∀ρ:aq,(gT 2 (uH [3,4])) (fld (a,k.d)) ρ=some ((ρ.set 3 (‹.str a›)).set 4 (‹k.d›)):=λρ=>rfl;clear v0 v1 h0 h1 J0 J1;rcases hr with⟨z,e⟩|⟨z,e,e1,e2,e3⟩
 ·subst e;rw[(Kd.eq_iff n3).mpr z]at ge;rw[dm];unfold de;generalize fm K R=ff at *;simp! only[i0,i1,ad,gl,ml,ei,gi,xU,gT,d8,ec,ib1,d64,ec',PD,Hz,er,ib2,ge,lf]
 ·subst e1;have q:pyEq ((k.ib c).ib c').d k.d=false:=by
   cases w:pyEq ((k.ib c).ib c').d k.d with
   |false=>rfl
   |true=>exact absurd ((Kd.eq_iff n3).mp w) z
  rw[q]at ge;have ib3:=xn e2 ok;rw[e3]at ib3;have g2:=Kd.gEq ((k.ib c).ib c') ((k.ib c).ib c');rw[iW]at g2;have jo:=jO (leaf t) (oV a e.d);have jv:=G8 a e.d;have f1':=fY (leaf t) (oV a e.d);have f2':=kQ (leaf t) (oV a e.d);have f3':=wQ a e.d;have f4':=Kx a e.d;rw[dm];unfold de;generalize fm K R=ff at *;generalize ((k.ib c).ib c').d=kq at *;generalize (k.ib c).d=kp at *;generalize over (leaf t) (oV a e.d)=ov at *;generalize oV a e.d=oe at *;simp! only[i0,i1,ad,gl,ml,ei,gi,xU,gT,d8,ec,ib1,d64,ec',PD,Hz,er,ib2,ge,lf,jo,jv,f1',f2',f3',f4',ib3,g2,BEq.rfl,TN]
end
theorem enum_zip(ws:au):eZ 0 (ws.map .str)=ws.zipIdx.map λp=>D.tup [.int (p.2:Int),.str p.1]:=by
 apply List.ext_getElem?;intro i;rw[iH,RX,RX,List.getElem?_zipIdx];cases ws[i]?<;>simp
theorem La(k:Kd)(x:Int)(h:k.sm):∃c:Kd,k.n=c.n/\c.ok/\(k.ib c).sm/\aj bc 2 5 [k.d,.int x]=.ok c.d:=by
 cases k with
 |kn lo hi=>
  obtain⟨h1,h2,h3⟩:=h;have Nt:(10:Nat)^65=100000*10^60:=by decide +kernel
  have NP:(1000:Nat)<10^60:=by decide +kernel
  have b65:2*10^60<=(10:Nat)^65:=by rw[Nt];exact Nat.mul_le_mul_right _ (by decide)
  obtain⟨m,hm⟩:∃m,m=(lo+hi)/2:=⟨_,rfl⟩
  have m1:lo<=m:=by omega
  have m2:m<=hi:=by omega
  have d2:=gd 2;have g4:=gm 4;have cs:∃a b:Int,ak (.lst [.tup [.int lo,.int m],.tup [.int m,.int (hi+7)],.tup [.int (lo-5),.int hi],.tup [.int m,.int m]]) (.int (x%4))=some (.tup [.int a,.int b])/\a<=b/\a.natAbs<10^65/\b.natAbs<10^65/\max lo a<=min hi b:=by
   rcases(show x%4=0\/x%4=1\/x%4=2\/x%4=3 by omega)with z|z|z|z<;>rw[z]
   ·exact⟨lo,m,rfl,by omega,by omega,by omega,by omega⟩
   ·exact⟨m,hi+7,rfl,by omega,by omega,by omega,by omega⟩
   ·exact⟨lo-5,hi,rfl,by omega,by omega,by omega,by omega⟩
   ·exact⟨m,m,rfl,by omega,by omega,by omega,by omega⟩
  obtain⟨a,b,ei,c1,c2,c3,c4⟩:=cs;refine⟨.kn a b,rfl,⟨c1,c2,c3⟩,⟨c4,by omega,by omega⟩,?_⟩;have ad:bN (.tup [.str "number"]) (.tup [.int a,.int b])=some (num a b):=rfl;show aj bc 2 5 [num lo hi,.int x]=.ok (num a b);rw[bB];unfold bc;simp! only[j4,d2,<-hm,qK,Pr,g4,ei,CU,ad]
 |kw ws=>
  obtain⟨h1,h2,h3⟩:=h;obtain⟨P,hP⟩:∃P:Str×Nat->Bool,P=λp=>((p.2:Int)==0)||(Builtin.bitAnd (x/2^p.2) 1==1):=⟨_,rfl⟩
  obtain⟨vs,hv⟩:∃vs:au,vs=(ws.zipIdx.filter P).map (·.1):=⟨_,rfl⟩
  have sub:∀w∈vs,w∈ws:=λw hw=>by
   rw[hv]at hw;obtain⟨p,hp,rfl⟩:=List.mem_map.mp hw
   have:=(List.mem_filter.mp hp).1
   exact List.fst_mem_of_mem_zipIdx this
  obtain⟨w0,ws',ew⟩:∃w0 ws',ws=w0::ws':=by
   cases ws with
   |nil=>exact absurd rfl h1
   |cons a b=>exact⟨a,b,rfl⟩
  have w0v:w0∈vs:=by
   rw[hv];refine List.mem_map.mpr ⟨(w0,0),List.mem_filter.mpr ⟨?_,?_⟩,rfl⟩
   ·rw[ew];simp
   ·rw[hP];rfl
  have lv:vs.length<=ws.length:=by
   rw[hv,RK];exact Rq (TL ..) (by rw[List.length_zipIdx];exact RB _)
  refine⟨.kw vs,rfl,⟨TV w0v,by omega,λw hw=>h3 w (sub w hw)⟩,⟨?_,Rq (TL ..) h2,λw hw=>h3 w (List.mem_filter.mp hw).1⟩,?_⟩
  ·refine TV (a:=w0) (List.mem_filter.mpr ⟨by rw[ew];simp,List.contains_iff_mem.mpr w0v⟩)
  ·have i0:ak (bI ws) (.int 0)=some (.str "word"):=fz _ _;have i1:ak (bI ws) (.int 1)=some (.tup (ws.map .str)):=fD _ _ _;have lc:iF [none,none,some 1] (dy (aa (f2 ak (af 0) (fC (.int 1))) ah)) (gT 2 (uH [0,1])) (sr (fB (f2 gEq (af 0) (fC (.int 0)))) (fB (f2 gEq (f2 rm (f2 yS (af 2) (af 0)) (fC (.int 1))) (fC (.int 1))))) (af 1) [‹bI ws›,‹.int x›,none,none,none]=.ok (.lst (vs.map .str)):=by
    refine eQ (ds:=eZ 0 (ws.map .str)) ?_ (by rw[dZ,RK];omega) ?_
    ·generalize bI ws=kk at *;simp! only[i1,mX]
    ·rw[enum_zip,hv,Tr];refine pB (λp:Str×Nat=>D.tup [.int (p.2:Int),.str p.1]) P _ ws.zipIdx λp hp=>⟨[‹.int (p.2:Int)›,‹.str p.1›,‹.int x›],rfl,?_,λ_=>rfl⟩
     have sh:=C4 x p.2;rw[hP];simp! only[sh,ut,pK]
   have ek:(Kd.kw vs).d=.tup [.str "word",.tup (vs.map .str)]:=rfl;rw[ek];show aj bc 2 5 [bI ws,.int x]=_;rw[bB];unfold bc;generalize bI ws=kk at *;simp! only[i0,yv,lc,qK]
theorem Ls(ws:au)(h:ws.Nodup)(hl:ws.length<64):∃zs:au,zs.Perm ws/\mH [.lst (ws.map .str)]=some (.lst (zs.map .str)):=by
 have pz:∀zs:List D,zs.Perm (ws.map D.str)->∃ys:au,ys.Perm ws/\zs=ys.map .str:=λzs p=>by
  obtain⟨un,hu⟩:∃un:D->Str,∀w,un (.str w)=w:=⟨λd=>match d with|.str w=>w|_=>"",λ_=>rfl⟩
  refine⟨zs.map un,?_,?_⟩
  ·have q:=p.map un;rw[Tr]at q;have e:ws.map (un∘D.str)=ws:=by
    rw[show(un∘D.str)=id from funext hu];exact List.map_id _
   rwa [e]at q
  ·rw[Tr];have e:∀z∈zs,(D.str∘un) z=z:=λz hz=>by
    obtain⟨w,_,rfl⟩:=List.mem_map.mp (p.mem_iff.mp hz);show D.str (un (.str w))=_;rw[hu]
   rw[SD e];exact(List.map_id _).symm
 show∃zs:au,_/\rY (ws.map .str)=_;unfold rY;by_cases a:K1 (ws.map .str)
 ·rw[if_pos a];obtain⟨ys,y1,y2⟩:=pz _ (fW _ _);exact⟨ys,y1,by rw[y2]⟩
 ·have b:LA (ws.map .str):=by
   refine⟨by rw[RK];exact hl,false,λx hx=>?_,?_⟩
   ·obtain⟨w,_,rfl⟩:=List.mem_map.mp hx;exact .str w .nil
   ·rw[Tj];refine h.imp λhne e=>hne ?_;have e:[D.str _]=[D.str _]:=e;injection e with e _;injection e
  rw[if_neg a,if_pos b];obtain⟨ys,y1,y2⟩:=pz _ (fW _ _);exact⟨ys,y1,by rw[y2]⟩
theorem AG{ws:au}{w z:Str}(h:z∈qp ws w):z∈ws\/z=w:=by
 unfold qp at h;split at h
 ·exact .inl h
 ·rcases List.mem_append.mp h with h|h
  ·exact .inl h
  ·exact .inr (List.mem_singleton.mp h)
theorem Ez{ws:au}(w:Str)(h:ws≠[]):qp ws w≠[]:=by
 unfold qp;split
 ·exact h
 ·simp
theorem zu(x:Int):∃ws:au,(Kd.kw ws).sm/\aj dY 1 7 [.int x]=.ok (bI ws):=by
 have g26:=gm 26;have d26:=gd 26;have d676:=gd 676;have LL:(("abcdefghijklmnopqrstuvwxyz":Str)).length=26:=by decide +kernel
 have L0:(("":Str)).length<=1000:=by decide +kernel
 generalize hL:("abcdefghijklmnopqrstuvwxyz":Str)=L at LL;obtain⟨one,ho,e1⟩:=x8 L ‹0› (x%26) ‹0› ‹0›;obtain⟨oth,hq,e2⟩:=x8 L ‹0› (x/26%26) ‹0› ‹0›;have a1:=km one oth ‹0› ‹0›;have a2:=km oth one ‹0› ‹0›;have m4:=HE (x:=one) (n:=4) (by decide) (by decide) ‹0›;have m8:=HE (x:=one) (n:=8) (by decide) (by decide) ‹0›;have l4:(hV one 4).length<=100:=by rw[lW (by decide),ho];decide
 obtain⟨W,hW⟩:∃W:au,W=[("":Str),one,oth,one++oth,oth++one,hV one 8]:=⟨_,rfl⟩
 have W6:W.length=6:=by rw[hW];rfl
 have Wl:∀w∈W,w.length<=100:=by
  rw[hW];intro w hw;simp only[SU,Tq,or_false]at hw;rcases hw with h|h|h|h|h|h<;>rw[h]
  ·exact Rq (by decide +kernel:("":Str).length<=0) (by decide)
  ·omega
  ·omega
  ·rw[ph];omega
  ·rw[ph];omega
  ·rw[lW (by decide),ho];decide
 have eW:[D.str "",.str one,.str oth,.str (one++oth),.str (oth++one),.str (hV one 8)]=W.map .str:=by rw[hW];rfl
 have dp:mj [(.str (hV one 4),.bl true)]=some (wd [hV one 4]):=C7 _ _;have gT:∀(i:Int)(w:Str)(ρ:aq),(gT 2 (uH [5,6])) (.tup [.int i,.str w]) ρ=some ((ρ.set 5 (‹.int i›)).set 6 (‹.str w›)):=λi w ρ=>rfl;have en:qC [.lst (W.map .str)]=some (eZ 0 (W.map .str)):=rfl
 suffices h:∃d:D,(∃ws:au,(Kd.kw ws).sm/\d=bI ws)/\aj dY 1 7 [.int x]=.ok d by
  obtain⟨d,⟨ws,h1,h2⟩,h3⟩:=h;exact⟨ws,h1,by rw[h3,h2]⟩
 have mW:jY (W.map .str)=some (.lst (W.map .str)):=Il (by rw[RK];omega);rw[cF];unfold dY;rw[hL];simp! only[g26,d26,e1,e2,uC,ud,qG,Dd,m4,dp,a1,a2,m8,eW,mW,en];refine pG (Q:=λz=>∃d:D,(∃ws:au,(Kd.kw ws).sm/\d=bI ws)/\z=.ok d) (λi ρ=>∃ws:au,ws≠[]/\ws.Nodup/\ws.length<=i+1/\(∀w∈ws,w.length<=100)/\ρ=[‹.int x›,none,‹.str one›,‹.str oth›,some (.own (wd ws)),none,none]) ?_ ⟨[hV one 4],by simp,by simp,by simp,λw hw=>by rw[List.mem_singleton.mp hw];exact l4,rfl⟩ ?_
 ·rintro i d ρ kk hd ⟨ws,ne,nd,hl,hs,rfl⟩;rw[iH,RX]at hd;cases hp:W[i]? with
  |none=>rw[hp]at hd;cases hd
  |some w=>
   rw[hp]at hd;have hd:some (D.tup [.int ((0+i:Nat):Int),.str w])=some d:=hd;rw[SY]at hd;cases hd;have li:=(List.getElem?_eq_some_iff.mp hp).1;have wl:=Wl w (RZ hp);have sh:=C4 (x/676) i;cases hb:(Builtin.bitAnd (x/676/2^i) 1==1)with
   |false=>
    refine⟨_,_,gT _ _ _,⟨ws,ne,nd,by omega,hs,rfl⟩,?_⟩;simp! only[d676,sh,ut,hb]
   |true=>
    refine⟨_,_,gT _ _ _,⟨qp ws w,Ez w ne,DV w nd,by have:=BQ ws w;omega,λz hz=>(AG hz).elim (hs z) λe=>by rw[e];exact wl,rfl⟩,?_⟩;have pk:=λk:Ks=>Fb (i:=4) (fk:=af 6) (fv:=fC (.bl true)) (k:=k) (ρ:=[‹.int x›,none,‹.str one›,‹.str oth›,some (.own (wd ws)),‹.int (i:Int)›,‹.str w›]) (al:=CM ws) (q:=.inr w) (d:=.str w) (v:=.bl true) rfl rfl rfl rfl (by simp;omega);simp! only[d676,sh,ut,hb,pk,Hf]
 ·rintro ρ' ⟨ws,ne,nd,hl,hs,rfl⟩;rw[dZ,RK]at hl;obtain⟨zs,p,ez⟩:=Ls ws nd ‹0›;refine⟨bI zs,⟨zs,⟨λz=>ne (by rw[z]at p;exact List.nil_perm.mp p),by rw[p.length_eq];omega,λw hw=>hs w (p.mem_iff.mp hw)⟩,rfl⟩,?_⟩;have e:bI zs=.tup [.str "word",.tup (zs.map .str)]:=rfl;rw[e];simp! only[Ck,ez,qK]
noncomputable def Tw(d:D):Prop:=∃lo hi:Int,d=num lo hi/\lo%12=0/\(hi+1)%12=0/\lo+11<=hi/\lo.natAbs<10^60/\hi.natAbs<10^60
theorem xN(x:Int)(h0:0<=x)(h1:x<2147483700):∃d,Tw d/\aj cq 1 2 [.int x]=.ok d:=by
 obtain⟨P,hP,eP,bP⟩:∃P:Int,0<P/\qV (.int 10) (.int 40)=some (.int P)/\P=10^40:=⟨10^40,by decide +kernel,B7 10 40 (by decide) (by decide),rfl⟩
 have p7:qV (.int x) (.int 7)=some (.int (x^7)):=B7 x 7 (by decide) ‹0›;have gp:=λi=>fP (i:=i) hP;have g4:=gm 4;have d4:=gd 4;have m12:=λj=>lU (i:=12) (j:=j) (by decide) (by decide);have q0:=TB (x^7) (show P≠0 by omega);have q1:=TC (x^7) hP;obtain⟨q,hq⟩:∃q,q=x^7%P:=⟨_,rfl⟩
 rw[<-hq]at q0 q1;have nP:P.natAbs=10^40:=by rw[bP];decide +kernel
 have ML:(10:Nat)^60=10^20*10^40:=by decide +kernel
 have e20:(1000:Nat)<10^20:=by decide +kernel
 have big:1000*P.natAbs<10^60:=by rw[ML,nP];exact Nat.mul_lt_mul_of_pos_right e20 (by decide +kernel)
 obtain⟨lo,elo,h12,hs⟩:∃lo:Int,ak (.lst [.int 0,.int (-12),.int (0-12*q),.int (12*q)]) (.int (x%4))=some (.int lo)/\lo%12=0/\lo.natAbs<=12*P.natAbs:=by
  rcases(show x%4=0\/x%4=1\/x%4=2\/x%4=3 by omega)with z|z|z|z<;>rw[z]
  ·exact⟨0,rfl,by decide,by omega⟩
  ·exact⟨-12,rfl,by decide,by omega⟩
  ·exact⟨_,rfl,by omega,by omega⟩
  ·exact⟨_,rfl,by omega,by omega⟩
 obtain⟨w,ew,w1,ws⟩:∃w:Int,ak (.lst [.int 1,.int 2,.int 5,.int P]) (.int (x/4%4))=some (.int w)/\1<=w/\w<=5*P:=by
  rcases(show x/4%4=0\/x/4%4=1\/x/4%4=2\/x/4%4=3 by omega)with z|z|z|z<;>rw[z]
  ·exact⟨1,rfl,by decide,by omega⟩
  ·exact⟨2,rfl,by decide,by omega⟩
  ·exact⟨5,rfl,by decide,by omega⟩
  ·exact⟨P,rfl,by omega,by omega⟩
 refine⟨num lo (lo+12*w-1),⟨lo,_,rfl,h12,by omega,by omega,by omega,by omega⟩,?_⟩;rw[cF];unfold cq;simp! only[p7,eP,gp,<-hq,m12,Pr,g4,d4,elo,ew,uX]
theorem KI{d:D}(h:Tw d):∃k:Kd,k.sm/\d=k.d:=by
 obtain⟨lo,hi,e,_,_,h1,h2,h3⟩:=h;exact⟨.kn lo hi,⟨by omega,h2,h3⟩,e⟩
theorem A3(x:Int)(h0:0<=x)(h1:x<2147483700):∃k:Kd,k.sm/\aj bT 1 1 [.int x]=.ok k.d:=by
 have g8:=gm 8;have d8:=gd 8;have g9:=gm 9;have g2:=gm 2;have d72:=gd 72;by_cases z:x%8<5
 ·obtain⟨d,td,e⟩:=xN (x/8) ‹0› ‹0›;obtain⟨k,sk,ek⟩:=KI td;refine⟨k,sk,?_⟩;rw[<-ek,cF];unfold bT;simp! only[g8,decide_eq_true z,d8,e]
 ·have z':=decide_eq_false z;by_cases y:x%8=5
  ·have yb:(x%8==5)=true:=(by simpa using y);obtain⟨k,sk,ek⟩:∃k:Kd,k.sm/\ak (.lst [num (x/8%9) (x/8%9),.tup [.str "word",.tup [.str "a"]]]) (.int (x/72%2))=some k.d:=by
    have NP:(1000:Nat)<10^60:=(by decide +kernel);rcases(show x/72%2=0\/x/72%2=1 by omega)with q|q<;>rw[q]
    ·exact⟨.kn (x/8%9) (x/8%9),⟨Int.le_refl _,by omega,by omega⟩,rfl⟩
    ·refine⟨.kw ["a"],⟨by simp,by simp,λw hw=>?_⟩,rfl⟩;rw[List.mem_singleton.mp hw];decide +kernel
   refine⟨k,sk,?_⟩;rw[cF];unfold bT;simp! only[g8,z',yb,d8,g9,uX,CU,qK,Hz,d72,g2,ek]
  ·have yb:(x%8==5)=false:=(by simpa using y);obtain⟨ws,sw,e⟩:=zu (x/8);refine⟨.kw ws,sw,?_⟩;rw[cF];unfold bT;simp! only[g8,z',yb,d8,e];rfl
noncomputable def Fd(n:Nat->Str)(K:L):Prop:=∀i p,K[i]?=some p->p.1=n i/\∃k:Kd,p.2=k.d/\k.sm
theorem Jc(n:Nat->Str):Fd n []:=λi p h=>by simp at h
theorem Cy{n:Nat->Str}(b:Int)(hn:∀k:Nat,k<24->aj bg 2 7 [.int b,.int (k:Int)]=.ok (.str (n k)))(x:Int)(h0:0<=x)(h1:x<2147483700)(m r:Nat)(m1:1<=m)(m4:m<=4)(r3:r<=3):∃K R:L,Bs n K R/\aj cf 5 7 [.int x,.int b,.int 0,.int m,.int r]=.ok (fm K R):=by
 have rg:=nZ (m+r) (SN (show m+r<=7 by omega) (by decide));rw[show((m+r:Nat):Int)=(m:Int)+(r:Int)by omega]at rg;obtain⟨B,hB⟩:∃B:bK,B=av (aO 0 (fR (aj cG 1 1) (aa (af 0) ah))) (av (Iq 5 vn (aa (aP (aa (fR (aj bg 2 7) (aa (af 1) (aa (f2 bN (af 2) (af 6)) ah))) (aa (fR (aj bT 1 1) (aa (af 0) ah)) ah))) ah)) (g7 [6] bi)):=⟨_,rfl⟩
 suffices h:∃Q:L,(Q.length=m+r/\Fd n Q)/\aj cf 5 7 [.int x,.int b,.int 0,.int m,.int r]=.ok (fm (Q.take m) (Q.drop m))by
  obtain⟨Q,⟨lQ,fQ⟩,e⟩:=h;refine⟨Q.take m,Q.drop m,⟨by rw[RT];omega,by rw[RT];omega,by rw[R3];omega,?_⟩,e⟩;rw[TY];exact fQ
 rw[HK];unfold cf;rw[<-hB];simp! only[rg];refine pG (Q:=λz=>∃Q:L,(Q.length=m+r/\Fd n Q)/\z=.ok (fm (Q.take m) (Q.drop m))) (λi ρ=>∃(K:L)(y:Int),K.length=i/\Fd n K/\0<=y/\y<2147483700/\ρ=[‹.int y›,‹.int b›,‹.int 0›,‹.int m›,‹.int r›,some (.own (.lst (K.map fld))),none]) ?_ ⟨[],x,rfl,Jc n,h0,h1,rfl⟩ ?_
 ·rintro i d ρ k' hd ⟨K,y,hl,hf,y0,y1,rfl⟩;have hi:=kM hd;rw[fU]at hi;have hdi:d=.int (i:Int):=by
   rw[n4,RX,SJ hi]at hd;cases hd;show D.int (0+(i:Int))=_;rw[Int.zero_add]
  subst hdi;obtain⟨y',a0,a1,en⟩:=pF y y0 y1;obtain⟨k,sk,et⟩:=A3 y' a0 ‹0›;have ek:aj bg 2 7 [.int b,.int (0+(i:Int))]=.ok (.str (n i)):=by
   rw[Int.zero_add];exact hn i ‹0›
  have ap:vn (K.map fld) [.tup [.str (n i),k.d]]=some ((K++[(n i,k.d)]).map fld):=by
   rw[Jn (by rw[RK];omega),SE];rfl
  have sm:=λf (Q:Ks)=>HX 5 vn f Q [‹.int y'›,‹.int b›,‹.int 0›,‹.int m›,‹.int r›,some (.own (.lst (K.map fld))),‹.int (i:Int)›] (xs:=K.map fld) rfl;refine⟨_,_,rfl,⟨K++[(n i,k.d)],y',by rw[R0,hl];rfl,?_,a0,by omega,rfl⟩,?_⟩
  ·intro j p hj;by_cases z:j<K.length
   ·rw[RW z]at hj;exact hf j p hj
   ·rw[RU ‹0›]at hj;have lj:=(List.getElem?_eq_some_iff.mp hj).1;have e:j-K.length=0:=(by simp at lj;omega);rw[e]at hj;cases hj;exact⟨by rw[show j=i by omega],k,rfl,sk⟩
  ·rw[hB];simp! only[en,sm,ek,et,qK,ap]
 ·rintro ρ ⟨K,y,hl,hf,-,-,rfl⟩;rw[fU]at hl;refine⟨K,⟨hl,hf⟩,?_⟩;have c1:cutD (K.map fld) none (some (m:Int))=(K.take m).map fld:=by rw[wR,TH]
  have c2:cutD (K.map fld) (some (m:Int)) none=(K.drop m).map fld:=by rw[pL,TJ]
  simp! only[c1,c2,qK]
section
variable{n:Nat->Str}{K R:L}{t:Str}
theorem Jt{a b:Str}(h:a≠b):[a,b].Nodup:=by simp[h]
theorem Nf{a b c:Str}(h:a≠b)(h':a≠c)(h2:b≠c):[a,b,c].Nodup:=by simp[h,h',h2]
theorem Pl(a b c d e:D):jY [a,b,c,d,e]=some (.lst [a,b,c,d,e]):=nr rfl
theorem Io{a b c x:Str}{ka kb kc:D}(i:Nat)(ha:a=x->0=i)(hb:b=x->1=i)(hc:c=x->2=i):K3 [(a,ka),(b,kb),(c,kc)] i x:=λm p hp e=>by
 match m,hp with
 |0,hp=>cases hp;exact ha e
 |1,hp=>cases hp;exact hb e
 |2,hp=>cases hp;exact hc e
theorem zf{a b x:Str}{ka kb:D}(i:Nat)(ha:a=x->0=i)(hb:b=x->1=i):K3 [(a,ka),(b,kb)] i x:=λm p hp e=>by
 match m,hp with
 |0,hp=>cases hp;exact ha e
 |1,hp=>cases hp;exact hb e
theorem Oq(a b:Str)(l h l' h':Int):Nu [(a,num l h),(b,num l' h')]:=λp hp=>by
 simp only[SU,SV,or_false]at hp;rcases hp with e|e<;>rw[e]<;>exact⟨_,_,rfl⟩
theorem A5(N:Inj n)(x:Int)(x0:0<=x)(x1:x<2147483700):aj dS 3 8 [.str t,SP n,.int x]=.ok (.bl true):=by
 have ne:∀a b,a<24->b<24->a≠b->n a≠n b:=λa b ha hb h z=>h (N a b ha hb z);obtain⟨b,eb,hb⟩:∃b:Int,ak (.lst [.int 2,.int 3,.int 4,.int 6,.int 12]) (.int (x%5))=some (.int b)/\(b=2\/b=3\/b=4\/b=6\/b=12):=by
  rcases(show x%5=0\/x%5=1\/x%5=2\/x%5=3\/x%5=4 by omega)with z|z|z|z|z<;>rw[z]
  ·exact⟨2,rfl,by omega⟩
  ·exact⟨3,rfl,by omega⟩
  ·exact⟨4,rfl,by omega⟩
  ·exact⟨6,rfl,by omega⟩
  ·exact⟨12,rfl,by omega⟩
 have b1:2<=b:=by omega
 have b2:b<=1000:=by omega
 have cs:b.natAbs<10^70:=by
  have:(1000:Nat)<10^70:=by decide +kernel
  omega
 obtain⟨_,⟨lo,hi,rfl,t1,t2,_⟩,et⟩:=xN (x/5) ‹0› ‹0›;obtain⟨_,⟨lo2,hi2,rfl,_⟩,et2⟩:=xN (x/7) ‹0› ‹0›;have d1:lo%b=0:=by rcases hb with z|z|z|z|z<;>subst z<;>omega
 have d2:(hi+1)%b=0:=by rcases hb with z|z|z|z|z<;>subst z<;>omega
 obtain⟨y,ey,hy⟩:∃y:Nat,ak (.lst [.str (n 11),.str (n 14)]) (.int (x/64%2))=some (.str (n y))/\(y=11\/y=14):=by
  rcases(show x/64%2=0\/x/64%2=1 by omega)with z|z<;>rw[z]
  ·exact⟨11,rfl,.inl rfl⟩
  ·exact⟨14,rfl,.inr rfl⟩
 have no:∀{P:Prop}(a:Nat),a<24->a≠y->n a=n y->P:=λa ha h z=>absurd (N a y ha ‹0› z) h;have no':∀{P:Prop}(a c:Nat),a<24->c<24->a≠c->n a=n c->P:=λa c ha hc h z=>absurd z (ne a c ha hc h);obtain⟨r,r1,r2⟩:∃r,aj ao 3 6 [fm [(n 10,num 0 5),(n 11,num lo hi)] [],.str t,.lst [oP (n 11) b (n 12) (n 13),oF (n 12) (n 13) b (n y)]]=.ok r/\aj aR 4 4 [r,.str t,.str (n 11),.str (n y)]=.ok (.bl true):=by
  have F:Fk [(n 10,num 0 5),(n 11,num lo hi)] []:=⟨by simp,by simp,by simp,Jt (ne 10 11 (by decide) (by decide) (by decide))⟩
  have p:=uv F (Oq _ _ _ _ _ _) (i:=1) (x:=n 11) (q:=n 12) (r:=n 13) rfl b1 b2 d1 d2 (zf 1 (no' 10 12 (by decide) (by decide) (by decide)) (λ_=>rfl)) (zf 1 (no' 10 13 (by decide) (by decide) (by decide)) (λ_=>rfl)) (ne 12 13 (by decide) (by decide) (by decide));have p:aj bH 2 6 [oP (n 11) b (n 12) (n 13),fm [(n 10,num 0 5),(n 11,num lo hi)] []]=.ok (fm [(n 10,num 0 5),(n 12,num (lo/b) (hi/b)),(n 13,num 0 (b-1))] []):=p;have F':Fk [(n 10,num 0 5),(n 12,num (lo/b) (hi/b)),(n 13,num 0 (b-1))] []:=⟨by simp,by simp,by simp,Nf (ne 10 12 (by decide) (by decide) (by decide)) (ne 10 13 (by decide) (by decide) (by decide)) (ne 12 13 (by decide) (by decide) (by decide))⟩
  have f:=t9 F' (i:=1) (j:=2) (z:=n y) (c:=b) rfl rfl (by decide) b1 b2 (Io 1 (no 10 (by decide) ‹0›) (λ_=>rfl) (no 13 (by decide) ‹0›)) (by simp);exact t7 t (n 11) (n y) (Jd _ _ _ _) (IY _ _ _ _) p f (eB (Hq _ _ _ _ cs) (DB _ _ _ _) _) (eB (HG _ _ _ _ cs) (Fi _ _ _ _) _) (GY _ _ _ _ _ _)
 have q1:aj ao 3 6 [fm [(n 11,num lo2 hi2),(n 12,num 0 (b-1))] [(n 10,num 0 5)],.str t,.lst [oF (n 11) (n 12) b (n y),oP (n y) b (n 11) (n 12)]]=.ok (leaf t):=by
  have F:Fk [(n 11,num lo2 hi2),(n 12,num 0 (b-1))] [(n 10,num 0 5)]:=⟨by simp,by simp,by simp,Nf (ne 11 12 (by decide) (by decide) (by decide)) (ne 11 10 (by decide) (by decide) (by decide)) (ne 12 10 (by decide) (by decide) (by decide))⟩
  have f:=t9 F (i:=0) (j:=1) (z:=n y) (c:=b) rfl rfl (by decide) b1 b2 (Io 0 (λ_=>rfl) (no 12 (by decide) ‹0›) (no 10 (by decide) ‹0›)) (by simp);have f:aj bq 2 6 [oF (n 11) (n 12) b (n y),fm [(n 11,num lo2 hi2),(n 12,num 0 (b-1))] [(n 10,num 0 5)]]=.ok (fm [(n y,num (lo2*b) (hi2*b+b-1))] [(n 10,num 0 5)]):=f;have F':Fk [(n y,num (lo2*b) (hi2*b+b-1))] [(n 10,num 0 5)]:=⟨by simp,by simp,by simp,Jt (λz=>no 10 (by decide) ‹0› z.symm)⟩
  have p:=uv F' (Oq _ _ _ _ _ _) (i:=0) (x:=n y) (q:=n 11) (r:=n 12) rfl b1 b2 (wt lo2 b) (by rw[show hi2*b+b-1+1=hi2*b+b by omega];exact BF hi2 b) (zf 0 (λ_=>rfl) (no' 10 11 (by decide) (by decide) (by decide))) (zf 0 (λ_=>rfl) (no' 10 12 (by decide) (by decide) (by decide))) (ne 11 12 (by decide) (by decide) (by decide));exact tZ t (IY _ _ _ _) (Jd _ _ _ _) f p (eB (HG _ _ _ _ cs) (Fi _ _ _ _) _) (eB (Hq _ _ _ _ cs) (DB _ _ _ _) _) (AB F (i:=0) rfl rfl _ _)
 have q0:aj ao 3 6 [fm [(n 10,num 0 5)] [(n 11,num lo2 hi2),(n 12,num 0 (b-1))],.str t,.lst [oF (n 11) (n 12) b (n y),oP (n y) b (n 11) (n 12)]]=.ok (leaf t):=by
  have F:Fk [(n 10,num 0 5)] [(n 11,num lo2 hi2),(n 12,num 0 (b-1))]:=⟨by simp,by simp,by simp,Nf (ne 10 11 (by decide) (by decide) (by decide)) (ne 10 12 (by decide) (by decide) (by decide)) (ne 11 12 (by decide) (by decide) (by decide))⟩
  have f:=t9 F (i:=1) (j:=2) (z:=n y) (c:=b) rfl rfl (by decide) b1 b2 (Io 1 (no 10 (by decide) ‹0›) (λ_=>rfl) (no 12 (by decide) ‹0›)) (by simp);have f:aj bq 2 6 [oF (n 11) (n 12) b (n y),fm [(n 10,num 0 5)] [(n 11,num lo2 hi2),(n 12,num 0 (b-1))]]=.ok (fm [(n 10,num 0 5)] [(n y,num (lo2*b) (hi2*b+b-1))]):=f;have F':Fk [(n 10,num 0 5)] [(n y,num (lo2*b) (hi2*b+b-1))]:=⟨by simp,by simp,by simp,Jt (λz=>no 10 (by decide) ‹0› z)⟩
  have p:=uv F' (Oq _ _ _ _ _ _) (i:=1) (x:=n y) (q:=n 11) (r:=n 12) rfl b1 b2 (wt lo2 b) (by rw[show hi2*b+b-1+1=hi2*b+b by omega];exact BF hi2 b) (zf 1 (no' 10 11 (by decide) (by decide) (by decide)) (λ_=>rfl)) (zf 1 (no' 10 12 (by decide) (by decide) (by decide)) (λ_=>rfl)) (ne 11 12 (by decide) (by decide) (by decide));exact tZ t (IY _ _ _ _) (Jd _ _ _ _) f p (eB (HG _ _ _ _ cs) (Fi _ _ _ _) _) (eB (Hq _ _ _ _ cs) (DB _ _ _ _) _) (AB F (i:=1) rfl rfl _ _)
 have r1:aj ao 3 6 [.tup [.tup [.tup [.str (n 10),num 0 5],.tup [.str (n 11),num lo hi]],.tup []],.str t,.lst [oP (n 11) b (n 12) (n 13),oF (n 12) (n 13) b (n y)]]=.ok r:=r1;have q1:aj ao 3 6 [.tup [.tup [.tup [.str (n 11),num lo2 hi2],.tup [.str (n 12),num 0 (b-1)]],.tup [.tup [.str (n 10),num 0 5]]],.str t,.lst [oF (n 11) (n 12) b (n y),oP (n y) b (n 11) (n 12)]]=.ok (leaf t):=q1;have q0:aj ao 3 6 [.tup [.tup [.tup [.str (n 10),num 0 5]],.tup [.tup [.str (n 11),num lo2 hi2],.tup [.str (n 12),num 0 (b-1)]]],.str t,.lst [oF (n 11) (n 12) b (n y),oP (n y) b (n 11) (n 12)]]=.ok (leaf t):=q0;have lf:=kT t;have m5:=gm 5;have m2:=gm 2;have d5:=gd 5;have d7:=gd 7;have d64:=gd 64;have d128:=gd 128;have s0:ak (SP n) (.int 0)=some (.str (n 10)):=rfl;have s1:ak (SP n) (.int 1)=some (.str (n 11)):=rfl;have s2:ak (SP n) (.int 2)=some (.str (n 12)):=rfl;have s3:ak (SP n) (.int 3)=some (.str (n 13)):=rfl;have s4:ak (SP n) (.int 4)=some (.str (n 14)):=rfl;have cut1:∀a c:D,cutD [a,c] none (some 1)=[a]:=λa c=>rfl;rw[dm];unfold dS;generalize SP n=sp at *;by_cases z:x/128%2=1
 ·have zb:(x/128%2==1)=true:=by simpa using z
  simp! only[m5,Pl,eb,s0,s1,s2,s3,s4,d5,et,IC,CU,qK,uX,d64,m2,Hz,ey,Pp,Pn,r1,r2,d7,et2,d128,zb,cut1,q1,lf]
 ·have zb:(x/128%2==1)=false:=by simpa using z
  simp! only[m5,Pl,eb,s0,s1,s2,s3,s4,d5,et,IC,CU,qK,uX,d64,m2,Hz,ey,Pp,Pn,r1,r2,d7,et2,d128,zb,cut1,q0,lf]
noncomputable abbrev kwd:D:=.tup [.str "word",.tup [.str "a",.str "b"]]
theorem Bq(B:Bs n K R)(N:Inj n)(x:Int)(x0:0<=x)(x1:x<2147483700):aj dW 4 9 [fm K R,.str t,SP n,.int x]=.ok (.bl true):=by
 have F:=B.fk N;have k1:=B.k1;have k2:=B.k2;have r2:=B.r2;have ne:∀a b,a<24->b<24->a≠b->n a≠n b:=λa b ha hb h z=>h (N a b ha hb z);have JB:Nj n (λj=>j<7) (K++R):=B.nj λ_ h=>h;have JK:Nj n (λj=>j<7) K:=λp hp=>JB p (Rw _ hp);have JR:Nj n (λj=>j<7) R:=λp hp=>JB p (RC _ hp);have wF:Fk (K++[(n 13,num 0 9)]) R:=F.wide k2 (B.no N (by decide) (by decide));have wJ:Nj n (λj=>j<7\/j=13) ((K++[(n 13,num 0 9)])++R):=λp hp=>by
  rcases List.mem_append.mp hp with h|h
  ·rcases List.mem_append.mp h with h|h
   ·obtain⟨j,a,b,c⟩:=JK p h;exact⟨j,.inl a,b,c⟩
   ·rw[List.mem_singleton.mp h];exact⟨13,.inr rfl,by decide,rfl⟩
  ·obtain⟨j,a,b,c⟩:=JR p h;exact⟨j,.inl a,b,c⟩
 have wP:∀p∈(K++[(n 13,num 0 9)])++R,Pk p.2:=λp hp=>by
  rcases List.mem_append.mp hp with h|h
  ·rcases List.mem_append.mp h with h|h
   ·exact B.pk p (Rw _ h)
   ·rw[List.mem_singleton.mp h];exact xg _ _
  ·exact B.pk p (RC _ h)
 obtain⟨Kw,hKw⟩:∃Kw:L,Kw=K++[(n 13,num 0 9)]:=⟨_,rfl⟩
 rw[<-hKw]at wF wJ wP;have lw:Kw.length=K.length+1:=by rw[hKw,R0];rfl
 obtain⟨m,em,m1,m2⟩:∃m:Nat,1+x%(K.length:Int)=(m:Int)/\1<=m/\m<=K.length:=by
  have a0:=TB x (show(K.length:Int)≠0 by omega);have a1:=TC x (show(0:Int)<(K.length:Int)by omega);exact⟨(1+x%(K.length:Int)).toNat,by omega,by omega,by omega⟩
 have ms:((m:Int)).natAbs<10^70:=by
  have:(1000:Nat)<10^70:=by decide +kernel
  omega
 have ks:((K.length:Int)).natAbs<10^70:=by
  have:(1000:Nat)<10^70:=by decide +kernel
  omega
 have q1:aj ao 3 6 [fm Kw R,.str t,.lst [oN m (n 10),oU (n 10)]]=.ok (leaf t):=by
  have a:=yo (K:=Kw) (R:=R) (m:=m) (x:=n 10) (by rw[R0];omega) m1 ‹0› (λz=>wJ.no N (a:=10) (by decide) ‹0› (by rw[SE];exact Rw _ z)) wP;have nd:=wF.nd;have e:Kw=Kw.take m++Kw.drop m:=(TY m Kw).symm;have F1:Fk (Kw.take m) [(n 10,.tup [.str "rows",fm (Kw.drop m) R,.bl true])]:=by
   refine⟨by rw[RT];omega,by rw[RT];omega,by simp,?_⟩;have sb:((Kw.take m).map (·.1)).Nodup:=by
    rw[SE,S4]at nd;exact nd.1.sublist (List.Sublist.map _ (RY ..))
   have:=xf (K:=Kw.take m) (R:=[]) (z:=(n 10,.tup [.str "rows",fm (Kw.drop m) R,.bl true])) (by rw[RO];exact sb) (by
    rw[RO];intro z;obtain⟨p,hp,e⟩:=List.mem_map.mp z;exact wJ.no N (a:=10) (by decide) ‹0› (List.mem_map.mpr ⟨p,Rw _ (TR hp),e⟩))
   rw[RO]at this;exact this
  have ds:∀p∈Kw.take m,p.1∉(Kw.drop m++R).map (·.1):=λp hp z=>by
   have Jt:=nd;rw[e,SR,SE,S4]at Jt;exact Jt.2.2 p.1 (List.mem_map_of_mem hp) p.1 z rfl
  have u:=BZ F1 (by rw[R0,R3];omega) (by rw[RT,R3];omega) ds;exact tZ t (LC _ _) (LQ _) a u (eB (Kg _ _ ms) (Gh _ _) _) (eB (KQ _) (GB _) _) (Je _ _ _ _)
 obtain⟨_,⟨lo,hi,rfl,_⟩,et⟩:=xN x x0 x1;obtain⟨y,ey,hy⟩:∃y:Nat,ak (.lst [.str (n 10),.str (n 14)]) (.int (x/8%2))=some (.str (n y))/\(y=10\/y=14):=by
  rcases(show x/8%2=0\/x/8%2=1 by omega)with z|z<;>rw[z]
  ·exact⟨10,rfl,.inl rfl⟩
  ·exact⟨14,rfl,.inr rfl⟩
 obtain⟨r,e1,e2⟩:∃r,aj ao 3 6 [fm K [(n 10,.tup [.str "rows",fm [(n 11,kwd)] [(n 12,num lo hi)],.bl true])],.str t,.lst [oU (n 10),oN K.length (n y)]]=.ok r/\aj aR 4 4 [r,.str t,.str (n 10),.str (n y)]=.ok (.bl true):=by
  have ndK:(K.map (·.1)).Nodup:=by
   have nd:=F.nd;rw[SE,S4]at nd;exact nd.1
  have F1:Fk K [(n 10,.tup [.str "rows",fm [(n 11,kwd)] [(n 12,num lo hi)],.bl true])]:=by
   refine⟨k1,by omega,by simp,?_⟩
   have:=xf (K:=K) (R:=[]) (z:=(n 10,.tup [.str "rows",fm [(n 11,kwd)] [(n 12,num lo hi)],.bl true])) (by rw[RO];exact ndK) (by rw[RO];exact JK.no N (by decide) ‹0›)
   rw[RO]at this;exact this
  have JI:Nj n (λj=>j=11\/j=12) ([(n 11,kwd)]++[(n 12,num lo hi)]):=(Nj.nil.cons 12 (.inr rfl) (by decide) rfl).cons 11 (.inl rfl) (by decide) rfl;have u:=BZ F1 (by simp) (by simp;omega) (λp hp=>by
   obtain⟨j,h1,h2,h3⟩:=JK p hp;rw[h3];exact JI.no N h2 ‹0›)
  have JM:Nj n (λj=>j<7\/j=11) (K++[(n 11,kwd)]):=λp hp=>by
   rcases List.mem_append.mp hp with h|h
   ·obtain⟨j,a,b,c⟩:=JK p h;exact⟨j,.inl a,b,c⟩
   ·rw[List.mem_singleton.mp h];exact⟨11,.inr rfl,by decide,rfl⟩
  have a:=yo (K:=K++[(n 11,kwd)]) (R:=[(n 12,num lo hi)]) (m:=K.length) (x:=n y) (by rw[R0,R0];simp;omega) k1 (by rw[R0];simp) (JM.no N ‹0› ‹0›) (λp hp=>by
   rcases List.mem_append.mp hp with h|h
   ·rcases List.mem_append.mp h with h|h
    ·exact B.pk p (Rw _ h)
    ·rw[List.mem_singleton.mp h];exact⟨_,_,rfl,Cj⟩
   ·rw[List.mem_singleton.mp h];exact xg _ _)
  have hi':(K++[(n 10,D.tup [.str "rows",fm [(n 11,kwd)] [(n 12,num lo hi)],.bl true])])[K.length]?=some (n 10,.tup [.str "rows",fm [(n 11,kwd)] [(n 12,num lo hi)],.bl true]):=by
   rw[RU (RB _),S5];rfl
  exact t7 t (n 10) (n y) (LQ _) (LC _ _) u a (eB (KQ _) (GB _) _) (eB (Kg _ _ ks) (Gh _ _) _) (Hj F1 hi')
 have lf:=kT t;have i0:ak (fm K R) (.int 0)=some (.tup (K.map fld)):=fz _ _;have i1:ak (fm K R) (.int 1)=some (.tup (R.map fld)):=fD _ _ _;have lk:=tH K;have mk:=λi=>fP (i:=i) (show(0:Int)<(K.length:Int)by omega);have m2':=gm 2;have d8:=gd 8;have s0:ak (SP n) (.int 0)=some (.str (n 10)):=rfl;have s1:ak (SP n) (.int 1)=some (.str (n 11)):=rfl;have s2:ak (SP n) (.int 2)=some (.str (n 12)):=rfl;have s3:ak (SP n) (.int 3)=some (.str (n 13)):=rfl;have s4:ak (SP n) (.int 4)=some (.str (n 14)):=rfl;have ad:bN (.tup (K.map fld)) (.tup [.tup [.str (n 13),num 0 9]])=some (.tup (Kw.map fld)):=by
  have:=dQ (K.map fld) [fld (n 13,num 0 9)] (by rw[RK];simp;omega)
  rw[hKw,SE];exact this
 have q1:aj ao 3 6 [.tup [.tup (Kw.map fld),.tup (R.map fld)],.str t,.lst [oN m (n 10),oU (n 10)]]=.ok (leaf t):=q1;have e1:aj ao 3 6 [.tup [.tup (K.map fld),.tup [.tup [.str (n 10),.tup [.str "rows",.tup [.tup [.tup [.str (n 11),.tup [.str "word",.tup [.str "a",.str "b"]]]],.tup [.tup [.str (n 12),num lo hi]]],.bl true]]]],.str t,.lst [oU (n 10),oN K.length (n y)]]=.ok r:=e1;rw[pT];unfold dW;generalize fm K R=ff at *;generalize SP n=sp at *;simp! only[i0,i1,s0,s1,s2,s3,s4,uX,qK,CU,ad,lk,mk,em,P2,QO,Hz,q1,lf,et,d8,m2',ey,e1,e2]
theorem C8(b:Int)(hb:0<=b):∃n:Nat->Str,Inj n/\∀k:Nat,k<24->aj bg 2 7 [.int b,.int (k:Int)]=.ok (.str (n k)):=by
 have h:=λk:Nat=>Ee b (k:Int) hb ‹0›;refine⟨λk=>(h k).choose,λj k hj hk e=>?_,λk _=>(h k).choose_spec.1⟩;have e:(h j).choose=(h k).choose:=e;have p1:=(h j).choose_spec.2;have p2:=(h k).choose_spec.2;rw[<-e]at p2
 have:=D7 ‹0› ‹0› ‹0› ‹0› p1 p2
 omega
theorem Cz(b:Int)(hn:∀k:Nat,k<24->aj bg 2 7 [.int b,.int (k:Int)]=.ok (.str (n k)))(x0:Option S)(ρ:aq):
  iF [none,some 1] (gL (aa (fC (.int 5)) ah)) (gN 0) eD (fR (aj bg 2 7) (aa (af 1) (aa (f2 bN (fC (.int 10)) (af 0)) ah))) (x0::‹.int b›::ρ)=.ok (SP n):=by
 have r5:mJ [.int 5]=some (eV 0 5):=nZ 5 (by decide);have ib:inB [none,some 1] (x0::‹.int b›::ρ)=[none,‹.int b›]:=rfl;refine eQ (ds:=eV 0 5) (by simp! only[r5]) (by rw[fU];decide) ?_;rw[ib];refine(jx (λk:Nat=>D.int (0+(k:Int))) (λk=>.str (n (10+k))) (List.range 5) λk hk=>⟨_,rfl,rfl,?_⟩).trans rfl;have hk:=List.mem_range.mp hk;have e:aj bg 2 7 [.int b,.int (10+(0+(k:Int)))]=.ok (.str (n (10+k))):=by
  have:=hn (10+k) ‹0›
  rw[show((10+k:Nat):Int)=10+(0+(k:Int))by omega]at this;exact this
 simp! only[e]
noncomputable def DR:bK:=av (aO 2 (fR (aj cX 2 3) (aa (af 0) (aa (af 6) ah)))) (av (eN (sr (gH (aK (fR (aj du 4 7) (aa (af 3) (aa (af 5) (aa (af 4) (aa (af 2) ah))))))) (gH (aK (fR (aj de 3 9) (aa (af 3) (aa (af 5) (aa (f2 dE (af 2) (fC (.int 5))) ah))))))) (aI (fC (.bl false))) bi) (av (eN (sr (gH (aK (fR (aj dS 3 8) (aa (af 5) (aa (af 4) (aa (af 2) ah)))))) (gH (aK (fR (aj dW 4 9) (aa (af 3) (aa (af 5) (aa (af 4) (aa (af 2) ah)))))))) (aI (fC (.bl false))) bi) (g7 [2,6] bi)))
theorem EE:oC=av (aO 1 (f2 cP (f2 iE (fR (aj dg 2 2) (aa (af 0) (aa (fC (.int 1)) ah))) (fC (.int 48271))) (fC (.int 2147483647)))) (av (aO 2 (fR (aj cX 2 3) (aa (af 0) (aa (fC (.int 0)) ah)))) (av (aO 3 (fR (aj cf 5 7) (aa (fR (aj cG 1 1) (aa (af 2) ah)) (aa (af 1) (aa (fC (.int 0)) (aa (f2 bN (fC (.int 1)) (f2 cP (af 2) (fC (.int 4)))) (aa (f2 cP (f2 dE (af 2) (fC (.int 4))) (fC (.int 4))) ah))))))) (av (aO 4 (iF [none,some 1] (gL (aa (fC (.int 5)) ah)) (gN 0) eD (fR (aj bg 2 7) (aa (af 1) (aa (f2 bN (fC (.int 10)) (af 0)) ah))))) (av (aO 5 (fR (aj bg 2 7) (aa (af 1) (aa (fC (.int 20)) ah)))) (g7 [1,2] (av (qc (mz (aa (fC (.int 2)) (aa (fL mQ (aa (fL mm (aa (fL gA (aa (af 0) ah)) (aa (fC (.int 4)) ah))) (aa (fC (.int 12)) ah))) ah))) (gN 6) DR) (aI (fR (aj aX 2 2) (aa (fR (aj ao 3 6) (aa (af 3) (aa (af 5) (aa (fg (aa (fC (.obj "Step" [] [])) ah)) ah)))) (aa (af 5) ah)))))))))):=rfl
noncomputable abbrev En(ns ff sp:D)(t:Str)(x6:Option S):aq:=[‹ns›,none,none,‹ff›,‹sp›,‹.str t›,x6]
theorem turn(B:Bs n K R)(N:Inj n)(ns:List Int)(j:Nat)(hj:j<=20)(k':Ks):DR k' (En (.lst (ns.map .int)) (fm K R) (SP n) t (‹.int (j:Int)›))=k'.nx (En (.lst (ns.map .int)) (fm K R) (SP n) t none):=by
 obtain⟨x,x0,x1,ex⟩:=xI ns j ‹0›;have h1:=vW (t:=t) B N x;have h2:=yU (t:=t) B N La (x/5);have h3:=A5 (t:=t) N x x0 ‹0›;have h4:=Bq (t:=t) B N x x0 ‹0›;have d5:=gd 5;unfold DR;generalize fm K R=ff at *;generalize SP n=sp at *;simp! only[ex,d5,h1,h2,h3,h4,pK,Tc,TQ]
theorem math(ns:List Int)(hl:ns.length<=63):aj oC 1 7 [.lst (ns.map .int)]=.ok (.bl true):=by
 obtain⟨c0,e0⟩:=TD.L7 ns 1 (by decide);obtain⟨x,x0,x1,ex⟩:=xI ns 0 (by decide);have ex:aj cX 2 3 [.lst (ns.map .int),.int 0]=.ok (.int x):=ex;have m48:=kL (i:=c0) (j:=48271) (by decide) (by decide);have gb:=gm 2147483647;have g4:=gm 4;have d4:=gd 4;obtain⟨b,hb⟩:∃b,b=c0*48271%2147483647:=⟨_,rfl⟩
 have b0:0<=b:=by rw[hb];exact TB _ (by decide)
 obtain⟨n,N,hn⟩:=C8 b b0;obtain⟨y,y0,y1,en⟩:=pF x x0 ‹0›;obtain⟨K,R,B,eF⟩:=Cy b hn y y0 ‹0› (1+(x%4).toNat) ((x/4%4).toNat) ‹0› ‹0› ‹0›;rw[show((1+(x%4).toNat:Nat):Int)=1+x%4 by omega,show(((x/4%4).toNat:Nat):Int)=x/4%4 by omega]at eF;have sl:=λx0 ρ=>Cz b hn x0 ρ;have e20:aj bg 2 7 [.int b,.int 20]=.ok (.str (n 20)):=hn 20 (by decide);obtain⟨q,hq,h20⟩:∃q:Nat,(if(12:Int)<(if(4:Int)>(ns.length:Int)then 4 else(ns.length:Int))then 12 else(if(4:Int)>(ns.length:Int)then 4 else(ns.length:Int)))=((2+q:Nat):Int)/\q<=10:=by
  by_cases z:(4:Int)>(ns.length:Int)
  ·rw[if_pos z,if_neg (by decide)];exact⟨2,rfl,by decide⟩
  ·rw[if_neg z];by_cases y:(12:Int)<(ns.length:Int)
   ·rw[if_pos y];exact⟨10,rfl,by decide⟩
   ·rw[if_neg y];exact⟨ns.length-2,by omega,by omega⟩
 have r2:mx [.int 2,.int ((2+q:Nat):Int)]=some (eV 2 q):=by
  have e:mx [.int 2,.int ((2+q:Nat):Int)]=if okR 2&&okR ((2+q:Nat):Int)then some (eV 2 ((((2+q:Nat):Int)-2).toNat))else none:=rfl
  have o1:okR 2=true:=rfl;have o2:okR ((2+q:Nat):Int)=true:=by unfold okR;exact decide_eq_true ⟨by omega,by omega⟩
  rw[e,o1,o2,show(((2+q:Nat):Int)-2).toNat=q by omega];rfl
 have tr:=λj hj k'=>turn (t:=n 20) B N ns j hj k';have th:=ME (f:=fm K R) (n 20);have lf:=kT (n 20);rw[cF,EE];generalize DR=LB at *;generalize SP n=sp at *;rw[hb]at eF sl e20;generalize fm K R=ff at *;simp! only[e0,m48,gb,ex,en,g4,d4,eF,sl,e20,RK,hq,r2];refine pG (Q:=λz=>z=.ok (.bl true)) (λ_ ρ=>ρ=En (.lst (ns.map .int)) ff sp (n 20) none) ?_ rfl ?_
 ·rintro j d ρ k' hd rfl;have hj:=kM hd;rw[fU]at hj;have hdi:d=.int ((2+j:Nat):Int):=by
   rw[n4,RX,SJ hj]at hd;cases hd;rfl
  subst hdi;exact⟨_,_,rfl,rfl,tr (2+j) ‹0› k'⟩
 ·rintro ρ rfl;simp! only[OC,th,lf]
end
end Tk86
open PySem PySem.W PyProof.Rows
theorem PySem.W.Fast.tw1206344811777692090 : True := trivial
theorem PySem.W.Fast.tw10604255578064085553 : True := trivial
theorem PySem.W.Fast.tw8575808845661529768 : True := trivial
theorem PySem.W.Fast.tw4279189750200572778 : True := trivial
theorem PySem.W.Fast.tw3926729791989168122 : True := trivial
theorem PySem.W.Fast.tw10674206892338183264 : True := trivial
theorem PySem.W.Fast.tw5126255332820206670 : True := trivial
theorem PySem.W.Fast.tw10995655929675641256 : True := trivial
theorem PySem.W.Fast.tw18342320750947029648 : True := trivial
theorem PySem.W.Fast.tw16483949929595556156 : True := trivial
theorem PySem.W.Fast.tw12722382226256791097 : True := trivial
theorem PySem.W.Fast.tw17472169730139036828 : True := trivial
theorem PySem.W.Fast.tw17818209945303903918 : True := trivial
theorem PySem.W.Fast.tw1692477515257719195 : True := trivial
theorem PySem.W.Fast.tw7094227344378572655 : True := trivial
theorem PySem.W.Fast.tw10100603894906644715 : True := trivial
theorem PySem.W.Fast.tw2733486467046613501 : True := trivial
theorem PySem.W.Fast.tw16148663410287890332 : True := trivial
theorem PySem.W.Fast.tw15562887492574760930 : True := trivial
theorem PySem.W.Fast.tw9524024509779573717 : True := trivial
theorem PySem.W.Fast.tw14639888226534448300 : True := trivial
theorem PySem.W.Fast.tw10547590834146131876 : True := trivial
theorem PySem.W.Fast.tw4757336272871725011 : True := trivial
theorem PySem.W.Fast.tw17665540103346054047 : True := trivial
theorem PySem.W.Fast.tw8269266896514998627 : True := trivial
theorem PySem.W.Fast.tw6323215184524536801 : True := trivial
theorem PySem.W.Fast.tw15937563288624313556 : True := trivial
theorem PySem.W.Fast.tw4194512644022607128 : True := trivial
theorem PySem.W.Fast.tw4277476093949425874 : True := trivial
theorem PySem.W.Fast.tw5099976684583058706 : True := trivial
theorem PySem.W.Fast.tw13217723597214043267 : True := trivial
theorem PySem.W.Fast.tw13709140984330111439 : True := trivial
theorem PySem.W.Fast.tw7607522878764495356 : True := trivial
theorem PySem.W.Fast.tw17605122366794176591 : True := trivial
theorem PySem.W.Fast.tw4867206735155465505 : True := trivial
theorem PySem.W.Fast.tw14464458683773745848 : True := trivial
theorem PySem.W.Fast.tw4523894301052505133 : True := trivial
theorem PySem.W.Fast.tw1406782120067582213 : True := trivial
theorem PySem.W.Fast.tw13740464061640216656 : True := trivial
theorem PySem.W.Fast.tw15581042639620669401 : True := trivial
theorem PySem.W.Fast.tw9067497641478519626 : True := trivial
theorem PySem.W.Fast.tw16036294543183853753 : True := trivial
theorem PySem.W.Fast.tw1595324354245797427 : True := trivial
theorem PySem.W.Fast.tw17575821278256171430 : True := trivial
theorem PySem.W.Fast.tw4333598045036540764 : True := trivial
theorem PySem.W.Fast.tw3952594085439697500 : True := trivial
theorem PySem.W.Fast.tw2477402757324756412 : True := trivial
theorem PySem.W.Fast.tw1464362272351728905 : True := trivial
theorem PySem.W.Fast.tw10489781227565586641 : True := trivial
theorem PySem.W.Fast.tw17031295264799438444 : True := trivial
theorem PySem.W.Fast.tw1167039925432642828 : True := trivial
theorem PySem.W.Fast.tw13426513664771362772 : True := trivial
theorem PySem.W.Fast.tw10926638317038571727 : True := trivial
theorem PySem.W.Fast.tw8447605099369708522 : True := trivial
theorem PySem.W.Fast.tw13534848153562077578 : True := trivial
theorem PySem.W.Fast.tw4592658702271542617 : True := trivial
theorem PySem.W.Fast.tw15738362458437254161 : True := trivial
theorem PySem.W.Fast.tw6226633849544671829 : True := trivial
theorem PySem.W.Fast.tw14866686029504237418 : True := trivial
theorem PySem.W.Fast.tw14139602260663105923 : True := trivial
theorem PySem.W.Fast.tw9341523904241624883 : True := trivial
theorem PySem.W.Fast.tw13174229272511517788 : True := trivial
theorem PySem.W.Fast.tw8191634051343238195 : True := trivial
theorem PySem.W.Fast.tw6575270123885601931 : True := trivial
theorem PySem.W.Fast.tw7870743443170507423 : True := trivial
theorem PySem.W.Fast.tw13286433734141803544 : True := trivial
theorem PySem.W.Fast.tw13576527401713496866 : True := trivial
theorem PySem.W.Fast.tw7291608042790293960 : True := trivial
theorem PySem.W.Fast.tw3198672894358599410 : True := trivial
theorem PySem.W.Fast.tw11615068005938977711 : True := trivial
theorem PySem.W.Fast.tw2600349378222123992 : True := trivial
theorem PySem.W.Fast.tw17708513038303181745 : True := trivial
theorem PySem.W.Fast.tw10812415421332145072 : True := trivial
theorem PySem.W.Fast.tw17035201673602976407 : True := trivial
theorem PySem.W.Fast.tw12139040173978416094 : True := trivial
theorem PySem.W.Fast.tw11760887849407499293 : True := trivial
theorem PySem.W.Fast.tw5815593642126433630 : True := trivial
theorem PySem.W.Fast.tw7728433944458698062 : True := trivial
theorem PySem.W.Fast.tw6253011994647859868 : True := trivial
theorem PySem.W.Fast.tw11846365796810740245 : True := trivial
theorem PySem.W.Fast.tw7271601178102941110 : True := trivial
theorem PySem.W.Fast.tw2945763646766653837 : True := trivial
theorem PySem.W.Fast.tw15920352511646832219 : True := trivial
theorem PySem.W.Fast.tw1954377435448065568 : True := trivial
theorem PySem.W.Fast.tw3862015007458602480 : True := trivial
theorem PySem.W.Fast.tw7352098829835588368 : True := trivial
theorem PySem.W.Fast.tw14232174173999857347 : True := trivial
theorem PySem.W.Fast.tw16945793152186984323 : True := trivial
theorem PySem.W.Fast.tw8069724385622090062 : True := trivial
theorem PySem.W.Fast.tw13490667832154793084 : True := trivial
theorem PySem.W.Fast.tw8483652872946991165 : True := trivial
theorem PySem.W.Fast.tw12085168333083125025 : True := trivial
theorem PySem.W.Fast.tw17517725790374294060 : True := trivial
theorem PySem.W.Fast.tw4647239524172799002 : True := trivial
theorem PySem.W.Fast.tw17523062522808135292 : True := trivial
theorem PySem.W.Fast.tw3407305722341850157 : True := trivial
theorem PySem.W.Fast.tw7784413475762837023 : True := trivial
theorem PySem.W.Fast.tw9467467703148011003 : True := trivial
theorem PySem.W.Fast.tw3509903081805425974 : True := trivial
theorem PySem.W.Fast.tw4510958658835499876 : True := trivial
theorem PySem.W.Fast.tw2157201279519181897 : True := trivial
theorem PySem.W.Fast.tw4118850871202880330 : True := trivial
theorem PySem.W.Fast.tw10876229806523502940 : True := trivial
theorem PySem.W.Fast.tw14602793699179982232 : True := trivial
theorem PySem.W.Fast.tw10171778107957079848 : True := trivial
theorem PySem.W.Fast.tw13440382950934832116 : True := trivial
theorem PySem.W.Fast.tw17521150328593247441 : True := trivial
theorem PySem.W.Fast.tw617800443185967392 : True := trivial
theorem PySem.W.Fast.tw807003133156340167 : True := trivial
theorem PySem.W.Fast.tw12822011358803784740 : True := trivial
theorem PySem.W.Fast.tw16763033802752835729 : True := trivial
theorem PySem.W.Fast.tw3785087804056796500 : True := trivial
theorem PySem.W.Fast.tw10492772774394741892 : True := trivial
theorem PySem.W.Fast.tw16734452199989264988 : True := trivial
theorem PySem.W.Fast.tw16249881612277016069 : True := trivial
theorem PySem.W.Fast.tw12984466570470257795 : True := trivial
theorem PySem.W.Fast.tw16344909930083900348 : True := trivial
theorem PySem.W.Fast.tw5755760949445097421 : True := trivial
theorem PySem.W.Fast.tw1405944094248016669 : True := trivial
theorem PySem.W.Fast.tw16828491360098277942 : True := trivial
theorem PySem.W.Fast.tw6183215405548251961 : True := trivial
theorem PySem.W.Fast.tw10183800620597580861 : True := trivial
theorem PySem.W.Fast.tw2925567195884541742 : True := trivial
theorem PySem.W.Fast.tw11979400149862078801 : True := trivial
theorem PySem.W.Fast.tw16384702710124412308 : True := trivial
theorem PySem.W.Fast.tw10155634142067921414 : True := trivial
theorem PySem.W.Fast.tw2002733033706142900 : True := trivial
theorem PySem.W.Fast.tw8948525031291414877 : True := trivial
theorem PySem.W.Fast.tw16600545012387655035 : True := trivial
theorem PySem.W.Fast.tw14985302153719008248 : True := trivial
theorem PySem.W.Fast.tw14343099500523177409 : True := trivial
theorem PySem.W.Fast.tw7114026033781727168 : True := trivial
theorem PySem.W.Fast.tw9648572608275652839 : True := trivial
theorem PySem.W.Fast.tw17993631443809964833 : True := trivial
theorem PySem.W.Fast.tw959915405692924447 : True := trivial
theorem PySem.W.Fast.tw17273447229095754643 : True := trivial
theorem PySem.W.Fast.tw5589380982218269620 : True := trivial
theorem PySem.W.Fast.tw15735216087819038781 : True := trivial
theorem PySem.W.Fast.tw6076581530777541149 : True := trivial
theorem PySem.W.Fast.tw6456716032334039766 : True := trivial
theorem PySem.W.Fast.tw17586576295452558255 : True := trivial
theorem PySem.W.Fast.tw299656938661892839 : True := trivial
theorem PySem.W.Fast.tw18111123961769998961 : True := trivial
theorem PySem.W.Fast.tw1912254401054481243 : True := trivial
theorem PySem.W.Fast.tw4835111816230483141 : True := trivial
theorem PySem.W.Fast.tw13045582264866786515 : True := trivial
theorem PySem.W.Fast.tw3758708522078114373 : True := trivial
theorem PySem.W.Fast.tw1595369485717769616 : True := trivial
theorem PySem.W.Fast.tw2852103147623971096 : True := trivial
theorem PySem.W.Fast.tw10052864599197377386 : True := trivial
theorem PySem.W.Fast.tw5342903066244745994 : True := trivial
theorem PySem.W.Fast.tw2284577810114896966 : True := trivial
theorem PySem.W.Fast.tw1455654703586220657 : True := trivial
theorem PySem.W.Fast.tw13238717357584065026 : True := trivial
theorem PySem.W.Fast.tw1457701832016884793 : True := trivial
theorem PySem.W.Fast.tw6084303511908298506 : True := trivial
theorem PySem.W.Fast.tw14522882114563343236 : True := trivial
theorem PySem.W.Fast.tw6906446048721126314 : True := trivial
theorem PySem.W.Fast.tw16702696568761669263 : True := trivial
theorem PySem.W.Fast.tw6903599635740077900 : True := trivial
theorem PySem.W.Fast.tw13350626680907232896 : True := trivial
theorem PySem.W.Fast.tw12272704048577728957 : True := trivial
theorem PySem.W.Fast.tw3361180445574310909 : True := trivial
theorem PySem.W.Fast.tw5144563587834280163 : True := trivial
theorem PySem.W.Fast.tw7034754151202149010 : True := trivial
theorem PySem.W.Fast.tw15250766660835807482 : True := trivial
theorem PySem.W.Fast.tw14628867164136587710 : True := trivial
theorem PySem.W.Fast.tw15537094346486959093 : True := trivial
theorem PySem.W.Fast.tw1123131654595195761 : True := trivial
theorem PySem.W.Fast.tw10004237252820620620 : True := trivial
theorem PySem.W.Fast.tw13231498243415173163 : True := trivial
theorem PySem.W.Fast.tw15595503093477237227 : True := trivial
theorem PySem.W.Fast.tw15824987732457260858 : True := trivial
theorem PySem.W.Fast.tw11992833773969360892 : True := trivial
theorem PySem.W.Fast.tw15134071300817361407 : True := trivial
theorem PySem.W.Fast.tw11258948433839873908 : True := trivial
theorem PySem.W.Fast.tw7114053222627452943 : True := trivial
theorem PySem.W.Fast.tw17880604381885632164 : True := trivial
theorem PySem.W.Fast.tw7040694197163728547 : True := trivial
theorem PySem.W.Fast.tw15470080032735989354 : True := trivial
theorem PySem.W.Fast.tw5496074775988157491 : True := trivial
theorem PySem.W.Fast.tw15898050250234907342 : True := trivial
theorem PySem.W.Fast.tw16954094646308224855 : True := trivial
theorem PySem.W.Fast.tw16239084069949180954 : True := trivial
theorem PySem.W.Fast.tw743382467767647998 : True := trivial
theorem PySem.W.Fast.tw11674323949355015145 : True := trivial
theorem PySem.W.Fast.tw3610407962050883297 : True := trivial
theorem PySem.W.Fast.tw7973899636087387246 : True := trivial
theorem PySem.W.Fast.tw7396588775666310648 : True := trivial
theorem PySem.W.Fast.tw9333166160385471240 : True := trivial
theorem PySem.W.Fast.tw6646157239436033795 : True := trivial
theorem PySem.W.Fast.tw10343948311960874757 : True := trivial
theorem PySem.W.Fast.tw2665662971782007034 : True := trivial
theorem PySem.W.Fast.tw15824735557486965320 : True := trivial
theorem PySem.W.Fast.tw13967961521322538566 : True := trivial
theorem PySem.W.Fast.tw12685656176099153513 : True := trivial
theorem PySem.W.Fast.tw4340608685637661478 : True := trivial
theorem PySem.W.Fast.tw1354521637411333977 : True := trivial
theorem PySem.W.Fast.tw12721735153263619071 : True := trivial
theorem PySem.W.Fast.tw7589440127732038370 : True := trivial
theorem PySem.W.Fast.tw12165485615289697487 : True := trivial
theorem PySem.W.Fast.tw8111204677790875048 : True := trivial
theorem PySem.W.Fast.tw13792034642870448129 : True := trivial
theorem PySem.W.Fast.tw15615070436107836946 : True := trivial
theorem PySem.W.Fast.tw6357330481469207212 : True := trivial
theorem PySem.W.Fast.tw11638301620205689639 : True := trivial
theorem PySem.W.Fast.tw4995156978292344203 : True := trivial
theorem PySem.W.Fast.tw9146183775647683497 : True := trivial
theorem PySem.W.Fast.tw6120134093474197573 : True := trivial
theorem PySem.W.Fast.tw6889885709974012424 : True := trivial
theorem PySem.W.Fast.tw1774838993040489991 : True := trivial
theorem PySem.W.Fast.tw10296672141435975223 : True := trivial
theorem PySem.W.Fast.tw13956700392483272016 : True := trivial
theorem PySem.W.Fast.tw9363368036243975299 : True := trivial
theorem PySem.W.Fast.tw14069746484894226213 : True := trivial
theorem PySem.W.Fast.tw967491058766040766 : True := trivial
theorem PySem.W.Fast.tw5102248961170846008 : True := trivial
theorem PySem.W.Fast.tw2617366873037383150 : True := trivial
theorem PySem.W.Fast.tw6127116651517278298 : True := trivial
theorem PySem.W.Fast.tw8006939282233348218 : True := trivial
theorem PySem.W.Fast.tw12998127410364933989 : True := trivial
theorem PySem.W.Fast.tw14342089687018039791 : True := trivial
theorem PySem.W.Fast.tw6899613298608111708 : True := trivial
theorem PySem.W.Fast.tw4449478870069684461 : True := trivial
theorem PySem.W.Fast.tw17998594674885767359 : True := trivial
theorem PySem.W.Fast.tw1174011789200666630 : True := trivial
theorem PySem.W.Fast.tw14763915531471159181 : True := trivial
theorem PySem.W.Fast.tw5392269392021056601 : True := trivial
theorem PySem.W.Fast.tw172779081195297834 : True := trivial
theorem PySem.W.Fast.tw2285163857417964281 : True := trivial
theorem PySem.W.Fast.tw5031090551380516361 : True := trivial
theorem PySem.W.Fast.tw12827987644465439990 : True := trivial
theorem PySem.W.Fast.tw16405382510329947185 : True := trivial
theorem PySem.W.Fast.tw16789683243577844986 : True := trivial
theorem PySem.W.Fast.tw14012560476989827395 : True := trivial
theorem PySem.W.Fast.tw7075369817194739267 : True := trivial
theorem PySem.W.Fast.tw12157554793265380399 : True := trivial
theorem PySem.W.Fast.tw10095328426283170318 : True := trivial
theorem PySem.W.Fast.tw9597009663642315904 : True := trivial
theorem PySem.W.Fast.tw18134992385062151382 : True := trivial
theorem PySem.W.Fast.tw16595568799488005740 : True := trivial
theorem PySem.W.Fast.tw7458937847687834386 : True := trivial
theorem PySem.W.Fast.tw13491547467302146746 : True := trivial
theorem PySem.W.Fast.tw9637302232935659348 : True := trivial
theorem PySem.W.Fast.tw4184505159488571930 : True := trivial
theorem PySem.W.Fast.tw15738670337907897471 : True := trivial
theorem PySem.W.Fast.tw9446424590388839258 : True := trivial
theorem PySem.W.Fast.tw1330002697041357469 : True := trivial
theorem PySem.W.Fast.tw12661463517540821002 : True := trivial
theorem PySem.W.Fast.tw9573153103070818277 : True := trivial
theorem PySem.W.Fast.tw12599791858172546179 : True := trivial
theorem PySem.W.Fast.tw5572466028005545316 : True := trivial
theorem PySem.W.Fast.tw13860530069166264123 : True := trivial
theorem PySem.W.Fast.tw16677801953911321938 : True := trivial
theorem PySem.W.Fast.tw1317822230855299409 : True := trivial
theorem PySem.W.Fast.tw5269872673434861317 : True := trivial
theorem PySem.W.Fast.tw7205748122774303546 : True := trivial
theorem PySem.W.Fast.tw12897280108297829639 : True := trivial
theorem PySem.W.Fast.tw3596798298757665964 : True := trivial
theorem PySem.W.Fast.tw10438844227455821653 : True := trivial
theorem PySem.W.Fast.tw13628388720611062164 : True := trivial
theorem PySem.W.Fast.tw11863909006802355767 : True := trivial
theorem PySem.W.Fast.tw4730023382547785399 : True := trivial
theorem PySem.W.Fast.tw11433725280654855545 : True := trivial
theorem PySem.W.Fast.tw11815599031615397766 : True := trivial
theorem PySem.W.Fast.tw5191661823698492654 : True := trivial
theorem PySem.W.Fast.tw3985245732240685309 : True := trivial
theorem PySem.W.Fast.tw4388030427240045205 : True := trivial
theorem PySem.W.Fast.tw16112662564573948593 : True := trivial
theorem PySem.W.Fast.tw15695330979381686197 : True := trivial
theorem PySem.W.Fast.tw18244791396555890448 : True := trivial
theorem PySem.W.Fast.tw7841706873537015990 : True := trivial
theorem PySem.W.Fast.tw1817705999297565979 : True := trivial
theorem PySem.W.Fast.tw17766182111720501964 : True := trivial
theorem PySem.W.Fast.tw13478428162872706061 : True := trivial
theorem PySem.W.Fast.tw15670251388590992740 : True := trivial
theorem PySem.W.Fast.tw14819604217991616152 : True := trivial
theorem PySem.W.Fast.tw11522332624535563610 : True := trivial
theorem PySem.W.Fast.tw8955040525201113657 : True := trivial
theorem PySem.W.Fast.tw3584208334076028877 : True := trivial
theorem PySem.W.Fast.tw3928574382527998070 : True := trivial
theorem PySem.W.Fast.tw14557709680610902542 : True := trivial
theorem PySem.W.Fast.tw15459784773503321669 : True := trivial
theorem PySem.W.Fast.tw9906562443905194355 : True := trivial
theorem PySem.W.Fast.tw10237287073952982706 : True := trivial
theorem PySem.W.Fast.tw14956587641770811523 : True := trivial
theorem PySem.W.Fast.tw7415720591018606771 : True := trivial
theorem PySem.W.Fast.tw1198990794170431339 : True := trivial
theorem PySem.W.Fast.tw6018663969448327340 : True := trivial
theorem PySem.W.Fast.tw3503059915433918268 : True := trivial
theorem PySem.W.Fast.tw6514112037496208146 : True := trivial
theorem PySem.W.Fast.tw2566000171811919057 : True := trivial
theorem PySem.W.Fast.tw14953799238976695482 : True := trivial
theorem PySem.W.Fast.tw18123139969860764953 : True := trivial
theorem PySem.W.Fast.tw6320032984100396693 : True := trivial
theorem PySem.W.Fast.tw14945672625709088053 : True := trivial
theorem PySem.W.Fast.tw7497540295064697278 : True := trivial
theorem PySem.W.Fast.tw4534534755046861331 : True := trivial
theorem PySem.W.Fast.tw2326787470206191541 : True := trivial
theorem PySem.W.Fast.tw7417483374942004668 : True := trivial
theorem PySem.W.Fast.tw9965684882460429747 : True := trivial
theorem PySem.W.Fast.tw11974226547089390990 : True := trivial
theorem PySem.W.Fast.tw10366854820910569961 : True := trivial
theorem PySem.W.Fast.tw8368873768028690244 : True := trivial
theorem PySem.W.Fast.tw16064966035819398394 : True := trivial
theorem PySem.W.Fast.tw5664992564953567806 : True := trivial
theorem PySem.W.Fast.tw13128946921471150454 : True := trivial
theorem PySem.W.Fast.tw7856464868809466247 : True := trivial
theorem PySem.W.Fast.tw8162346897226973254 : True := trivial
theorem PySem.W.Fast.tw10150920661660022330 : True := trivial
theorem PySem.W.Fast.tw1677423781788761481 : True := trivial
theorem PySem.W.Fast.tw13431533548006373801 : True := trivial
theorem PySem.W.Fast.tw10797841489724714987 : True := trivial
theorem PySem.W.Fast.tw794225512260792150 : True := trivial
theorem PySem.W.Fast.tw8096216107535174191 : True := trivial
theorem PySem.W.Fast.tw10366375392587679643 : True := trivial
theorem PySem.W.Fast.tw8280431123984003117 : True := trivial
theorem PySem.W.Fast.tw14976922459868123775 : True := trivial
theorem PySem.W.Fast.tw5979525359978750638 : True := trivial
theorem PySem.W.Fast.tw16606366484155272591 : True := trivial
theorem PySem.W.Fast.tw6255699774670640085 : True := trivial
theorem PySem.W.Fast.tw10340571570562904093 : True := trivial
theorem PySem.W.Fast.tw17593069385198896104 : True := trivial
theorem PySem.W.Fast.tw17409538419210069348 : True := trivial
theorem PySem.W.Fast.tw13584512897290431984 : True := trivial
theorem PySem.W.Fast.tw4167257396630004355 : True := trivial
theorem PySem.W.Fast.tw15278298546183323621 : True := trivial
theorem PySem.W.Fast.tw1123777563877169984 : True := trivial
theorem PySem.W.Fast.tw14790587090300573606 : True := trivial
theorem PySem.W.Fast.tw5314868864458211272 : True := trivial
theorem PySem.W.Fast.tw5882862141137608060 : True := trivial
theorem PySem.W.Fast.tw4630987149470731845 : True := trivial
theorem PySem.W.Fast.tw9822162138601354749 : True := trivial
theorem PySem.W.Fast.tw14536530768219746884 : True := trivial
theorem PySem.W.Fast.tw13432735113599918732 : True := trivial
theorem PySem.W.Fast.tw11048322700197911213 : True := trivial
theorem PySem.W.Fast.tw8160528771353238277 : True := trivial
theorem PySem.W.Fast.tw11160468301732990543 : True := trivial
theorem PySem.W.Fast.tw17276334165066554732 : True := trivial
theorem PySem.W.Fast.tw1597997050656986344 : True := trivial
theorem PySem.W.Fast.tw8590932721866942864 : True := trivial
theorem PySem.W.Fast.tw13971362060757270933 : True := trivial
theorem PySem.W.Fast.tw416244499379570794 : True := trivial
theorem PySem.W.Fast.tw1918932913698702951 : True := trivial
theorem PySem.W.Fast.tw6427695769489981705 : True := trivial
theorem PySem.W.Fast.tw11956254178381686909 : True := trivial
theorem PySem.W.Fast.tw7822070250377479320 : True := trivial
theorem PySem.W.Fast.tw16453325727119677664 : True := trivial
theorem PySem.W.Fast.tw14200455214538825255 : True := trivial
theorem PySem.W.Fast.tw14608144396684172179 : True := trivial
theorem PySem.W.Fast.tw7121255062473367036 : True := trivial
theorem PySem.W.Fast.tw5661773472374839743 : True := trivial
theorem PySem.W.Fast.tw16384068968387878721 : True := trivial
theorem PySem.W.Fast.tw8255414636465818178 : True := trivial
theorem PySem.W.Fast.tw14333710841184783479 : True := trivial
theorem PySem.W.Fast.tw18131276135175729256 : True := trivial
theorem PySem.W.Fast.tw10374698323786559084 : True := trivial
theorem PySem.W.Fast.tw7952355064673006700 : True := trivial
theorem PySem.W.Fast.tw12118264572402208226 : True := trivial
theorem PySem.W.Fast.tw930851472680516446 : True := trivial
theorem PySem.W.Fast.tw17114121958607702911 : True := trivial
theorem PySem.W.Fast.tw4621856208061560140 : True := trivial
theorem PySem.W.Fast.tw1231016586122036693 : True := trivial
theorem PySem.W.Fast.tw5678067266973898232 : True := trivial
theorem PySem.W.Fast.tw15525009605176663730 : True := trivial
theorem PySem.W.Fast.tw11322412719679127133 : True := trivial
theorem PySem.W.Fast.tw1761440462867313455 : True := trivial
theorem PySem.W.Fast.tw252929173000708041 : True := trivial
theorem PySem.W.Fast.tw2024675986778220851 : True := trivial
theorem PySem.W.Fast.tw3708520751871371621 : True := trivial
theorem PySem.W.Fast.tw9923267888750762138 : True := trivial
theorem PySem.W.Fast.tw4105839894540375074 : True := trivial
theorem PySem.W.Fast.tw10328542569292272104 : True := trivial
theorem PySem.W.Fast.tw5381265990426492216 : True := trivial
theorem PySem.W.Fast.tw5065274385784425965 : True := trivial
theorem PySem.W.Fast.tw7191854041127674766 : True := trivial
theorem PySem.W.Fast.tw3621043572253666682 : True := trivial
theorem PySem.W.Fast.tw12192104206163612914 : True := trivial
theorem PySem.W.Fast.tw5920310790302436285 : True := trivial
theorem PySem.W.Fast.tw6206467413430069682 : True := trivial
theorem PySem.W.Fast.tw6993344031179685761 : True := trivial
theorem PySem.W.Fast.tw3014116350022501405 : True := trivial
theorem PySem.W.Fast.tw6958653235815042082 : True := trivial
theorem PySem.W.Fast.tw8227138155585603458 : True := trivial
theorem PySem.W.Fast.tw7494773989482451860 : True := trivial
theorem PySem.W.Fast.tw7723908700655337133 : True := trivial
theorem PySem.W.Fast.tw18214184411852689764 : True := trivial
theorem PySem.W.Fast.tw7669632517218912935 : True := trivial
theorem PySem.W.Fast.tw3528970485437543352 : True := trivial
theorem PySem.W.Fast.tw4648123215599549864 : True := trivial
theorem PySem.W.Fast.tw16051758206288160401 : True := trivial
theorem PySem.W.Fast.tw4046390708650122306 : True := trivial
theorem PySem.W.Fast.tw4781112424644517256 : True := trivial
theorem PySem.W.Fast.tw4813109204043271951 : True := trivial
theorem PySem.W.Fast.tw16878628473172039921 : True := trivial
theorem PySem.W.Fast.tw14545056206542233516 : True := trivial
theorem PySem.W.Fast.tw17859604129714043682 : True := trivial
theorem PySem.W.Fast.tw1627159492479615523 : True := trivial
theorem PySem.W.Fast.tw17989414205034382232 : True := trivial
theorem PySem.W.Fast.tw10445974549260997266 : True := trivial
theorem PySem.W.Fast.tw6166468087156552566 : True := trivial
theorem PySem.W.Fast.tw4953847049852881165 : True := trivial
theorem PySem.W.Fast.tw3761840480691341441 : True := trivial
theorem PySem.W.Fast.tw17210513815804333011 : True := trivial
theorem PySem.W.Fast.tw11349550321102011323 : True := trivial
theorem PySem.W.Fast.tw17584176712303455228 : True := trivial
theorem PySem.W.Fast.tw11024028779361106123 : True := trivial
theorem PySem.W.Fast.tw6147914355316191431 : True := trivial
theorem PySem.W.Fast.tw14145921578027944809 : True := trivial
theorem PySem.W.Fast.tw12889014512846418188 : True := trivial
theorem PySem.W.Fast.tw13765086183344232725 : True := trivial
theorem PySem.W.Fast.tw16457521070427951057 : True := trivial
theorem PySem.W.Fast.tw8700411197753890458 : True := trivial
theorem PySem.W.Fast.tw14303613923090624132 : True := trivial
theorem PySem.W.Fast.tw15224859244913504419 : True := trivial
theorem PySem.W.Fast.tw5594349003239210104 : True := trivial
theorem PySem.W.Fast.tw2991195820126889100 : True := trivial
theorem PySem.W.Fast.tw1338315737411877748 : True := trivial
theorem PySem.W.Fast.tw17602703886466915844 : True := trivial
theorem PySem.W.Fast.tw917664863237784547 : True := trivial
theorem PySem.W.Fast.tw3799859044872518326 : True := trivial
theorem PySem.W.Fast.tw219768099581507199 : True := trivial
theorem PySem.W.Fast.tw16255364981919121775 : True := trivial
theorem PySem.W.Fast.tw8303402928101147086 : True := trivial
theorem PySem.W.Fast.tw9395503664536001967 : True := trivial
theorem PySem.W.Fast.tw9957496738310321929 : True := trivial
theorem PySem.W.Fast.tw14654893862643471630 : True := trivial
theorem PySem.W.Fast.tw2377736541515388205 : True := trivial
theorem PySem.W.Fast.tw12227139225673053547 : True := trivial
theorem PySem.W.Fast.tw11678943996056348603 : True := trivial
theorem PySem.W.Fast.tw14203930524900234003 : True := trivial
theorem PySem.W.Fast.tw9916241120782162913 : True := trivial
theorem PySem.W.Fast.tw16533374666419322963 : True := trivial
theorem PySem.W.Fast.tw2975060737149819917 : True := trivial
theorem PySem.W.Fast.tw14610356035731556864 : True := trivial
theorem PySem.W.Fast.tw9086864823513134275 : True := trivial
theorem PySem.W.Fast.tw9439516853747336495 : True := trivial
theorem PySem.W.Fast.tw15316112755586645502 : True := trivial
theorem PySem.W.Fast.tw292701708929828479 : True := trivial
theorem PySem.W.Fast.tw17500130577556914602 : True := trivial
theorem PySem.W.Fast.tw12722595608966381975 : True := trivial
theorem PySem.W.Fast.tw4478277116289158536 : True := trivial
theorem PySem.W.Fast.tw17447725246160905530 : True := trivial
theorem PySem.W.Fast.tw4664151657285933206 : True := trivial
theorem PySem.W.Fast.tw11848383215578947340 : True := trivial
theorem PySem.W.Fast.tw5533980179739432498 : True := trivial
theorem PySem.W.Fast.tw4884596530381233385 : True := trivial
theorem PySem.W.Fast.tw2705148597201756256 : True := trivial
theorem PySem.W.Fast.tw959348034244007294 : True := trivial
theorem PySem.W.Fast.tw10263392714904763629 : True := trivial
theorem PySem.W.Fast.tw17734403088534980891 : True := trivial
theorem PySem.W.Fast.tw5805186523168028971 : True := trivial
theorem PySem.W.Fast.tw17811713234400748384 : True := trivial
theorem PySem.W.Fast.tw3393339976275097036 : True := trivial
theorem PySem.W.Fast.tw6765813692926724682 : True := trivial
theorem PySem.W.Fast.tw13551615682922744413 : True := trivial
theorem PySem.W.Fast.tw171907727369422692 : True := trivial
theorem PySem.W.Fast.tw3539816790868079216 : True := trivial
theorem PySem.W.Fast.tw6977204977532335927 : True := trivial
theorem PySem.W.Fast.tw18230197890673881605 : True := trivial
theorem PySem.W.Fast.tw17072236068245853386 : True := trivial
theorem PySem.W.Fast.tw7257460437219070783 : True := trivial
theorem PySem.W.Fast.tw2800961065835958492 : True := trivial
theorem PySem.W.Fast.tw3061076752758557023 : True := trivial
theorem PySem.W.Fast.tw5089330743338486373 : True := trivial
theorem PySem.W.Fast.tw9925837973113302148 : True := trivial
theorem PySem.W.Fast.tw12874013111298620200 : True := trivial
theorem PySem.W.Fast.tw10716727115391443921 : True := trivial
theorem PySem.W.Fast.tw11630293569338261552 : True := trivial
theorem PySem.W.Fast.tw3532275879092642224 : True := trivial
theorem PySem.W.Fast.tw15993578813661844718 : True := trivial
theorem PySem.W.Fast.tw3376690870214986249 : True := trivial
theorem PySem.W.Fast.tw15261489754173515974 : True := trivial
theorem PySem.W.Fast.tw11431245172481485594 : True := trivial
theorem PySem.W.Fast.tw8365165349419528565 : True := trivial
theorem PySem.W.Fast.tw8310627549430531406 : True := trivial
theorem PySem.W.Fast.tw2394140888667094630 : True := trivial
theorem PySem.W.Fast.tw9981831488930082293 : True := trivial
theorem PySem.W.Fast.tw12807744354583347610 : True := trivial
theorem PySem.W.Fast.tw5818903438878431950 : True := trivial
theorem PySem.W.Fast.tw10460935102189033293 : True := trivial
theorem PySem.W.Fast.tw5014936572170911929 : True := trivial
theorem PySem.W.Fast.tw10127627179258409320 : True := trivial
theorem PySem.W.Fast.tw311486376686301294 : True := trivial
theorem PySem.W.Fast.tw16147347185041921510 : True := trivial
theorem PySem.W.Fast.tw6778024692528108761 : True := trivial
theorem PySem.W.Fast.tw1850703550096237799 : True := trivial
theorem PySem.W.Fast.tw2159726724237953550 : True := trivial
theorem PySem.W.Fast.tw2230679075757228128 : True := trivial
theorem PySem.W.Fast.tw16822776867920534519 : True := trivial
theorem PySem.W.Fast.tw15647639403089851520 : True := trivial
theorem PySem.W.Fast.tw3790303537992848904 : True := trivial
theorem PySem.W.Fast.tw10222669923124729008 : True := trivial
theorem PySem.W.Fast.tw12147187769626248166 : True := trivial
theorem PySem.W.Fast.tw16948134787483383725 : True := trivial
theorem PySem.W.Fast.tw13558438931030278483 : True := trivial
theorem PySem.W.Fast.tw2896674412039395360 : True := trivial
theorem PySem.W.Fast.tw6771309798140580615 : True := trivial
theorem PySem.W.Fast.tw16629191013721611725 : True := trivial
theorem PySem.W.Fast.tw17218266701858759247 : True := trivial
theorem PySem.W.Fast.tw8159496252716086964 : True := trivial
theorem PySem.W.Fast.tw17947910468588713000 : True := trivial
theorem PySem.W.Fast.tw17536442754542277339 : True := trivial
theorem PySem.W.Fast.tw14862791665018504112 : True := trivial
theorem PySem.W.Fast.tw12298707130995817402 : True := trivial
theorem PySem.W.Fast.tw16239145053171148617 : True := trivial
theorem PySem.W.Fast.tw9441482310340274116 : True := trivial
theorem PySem.W.Fast.tw583217152239323791 : True := trivial
theorem PySem.W.Fast.tw12182695012453014831 : True := trivial
theorem PySem.W.Fast.tw14236325655763317001 : True := trivial
theorem PySem.W.Fast.tw9658807747724858765 : True := trivial
theorem PySem.W.Fast.tw2202841987969954557 : True := trivial
theorem PySem.W.Fast.tw11104164415887198617 : True := trivial
theorem PySem.W.Fast.tw7845812118430373244 : True := trivial
theorem PySem.W.Fast.tw656053817888388664 : True := trivial
theorem PySem.W.Fast.tw11109694526961290035 : True := trivial
set_option maxRecDepth 100000 in
set_option maxHeartbeats 0 in
theorem PySem.Challenge.cw_twoglass_k86_two_for_one_holds : PySem.Challenge.rw_twoglass_k86_two_for_one.Holds := by
  w_on; o_law; k_head; (case hw => w_witness2)
  k_fill
  refine Tk86.walk (l := PySem.Challenge.rw_twoglass_k86_two_for_one) rfl rfl (fun w h Y => PySem.W.kIn_of Y) ?F Tk86.math
  case F =>
    intro w mg fa h KX G hmg
    refine' Tk86.all_mk KX G hmg ?ac0 ?ac1 ?ac2 ?ac3 ?ac4 ?ac5 ?ac6 ?ac7 ?ac8 ?ac9 ?a0 ?a0_3 ?a0_4 ?a0_8 ?a0_9 ?i0 ?l0 ?c0 ?k0 ?a1 ?i1 ?l1 ?c1 ?k1 ?a2 ?i2 ?l2 ?c2 ?k2 ?a3 ?i3 ?l3 ?c3 ?k3 ?a4 ?i4 ?l4 ?c4 ?k4 ?a5 ?i5 ?l5 ?c5 ?k5 ?a6 ?i6 ?l6 ?c6 ?k6 ?a7 ?i7 ?l7 ?c7 ?k7 ?a8 ?i8 ?l8 ?c8 ?k8 ?a9 ?i9 ?l9 ?c9 ?k9 ?a10 ?i10 ?l10 ?c10 ?k10 ?a11 ?i11 ?l11 ?c11 ?k11 ?a12 ?i12 ?l12 ?c12 ?k12 ?a13 ?i13 ?l13 ?c13 ?k13 ?a14 ?i14 ?l14 ?c14 ?k14 ?a15 ?i15 ?l15 ?c15 ?k15 ?a16 ?i16 ?l16 ?c16 ?k16 ?a17 ?i17 ?l17 ?c17 ?k17 ?a18 ?i18 ?l18 ?c18 ?k18 ?a19 ?i19 ?l19 ?c19 ?k19 ?a20 ?i20 ?l20 ?c20 ?k20 ?a21 ?i21 ?l21 ?c21 ?k21 ?a22 ?i22 ?l22 ?c22 ?k22 ?a23 ?i23 ?l23 ?c23 ?k23 ?a24 ?i24 ?l24 ?c24 ?k24 ?a25 ?i25 ?l25 ?c25 ?k25 ?a26 ?l26 ?c26 ?k26 ?a27 ?i27 ?l27 ?c27 ?k27 ?a28 ?i28 ?l28 ?c28 ?k28 ?a29 ?i29 ?l29 ?c29 ?k29 ?a30 ?i30 ?l30 ?c30 ?k30 ?a31 ?i31 ?l31 ?c31 ?k31 ?a32 ?i32 ?l32 ?c32 ?k32 ?a33 ?i33 ?l33 ?c33 ?k33 ?a34 ?i34 ?l34 ?c34 ?k34 ?a35 ?i35 ?l35 ?c35 ?k35 ?p0 ?q0 ?r0 ?s0 ?n0_0 ?m0 ?kp0 ?p1 ?q1 ?r1 ?s1 ?n1_0 ?n1_1 ?m1 ?kp1 ?p2 ?q2 ?r2 ?s2 ?n2_0 ?m2 ?kp2 ?p3 ?q3 ?r3 ?s3 ?n3_0 ?n3_1 ?n3_2 ?n3_3 ?m3 ?kp3 ?p4 ?q4 ?r4 ?s4 ?n4_0 ?n4_1 ?n4_2 ?n4_3 ?m4 ?kp4 ?p5 ?q5 ?r5 ?s5 ?n5_0 ?n5_1 ?m5 ?kp5 ?p6 ?q6 ?r6 ?s6 ?n6_0 ?n6_1 ?m6 ?kp6 ?p7 ?q7 ?r7 ?s7 ?n7_0 ?n7_1 ?n7_2 ?m7 ?kp7 ?p8 ?q8 ?r8 ?s8 ?n8_0 ?n8_1 ?m8 ?kp8 ?p9 ?q9 ?r9 ?s9 ?o9 ?m9 ?kp9 ?vsg ?vtk ?vf0 ?vm0 ?vf1 ?vm1 ?vf2 ?vm2 ?vf3 ?vm3 ?vf4 ?vm4 ?vf5 ?vm5 ?vf6 ?vm6 ?vf7 ?vm7 ?vf8 ?vm8 ?vf9 ?vm9 ?vt0 ?vi0 ?yy0_0 ?vs0_6 ?vn0_6 ?vs0_7 ?vn0_7 ?vt8 ?vi8 ?yy8_8 ?vs8_9 ?vn8_9 ?vs8_1 ?vn8_1 ?vs8_2 ?vn8_2 ?vs8_3 ?vn8_3 ?vs8_4 ?vn8_4 ?vs8_5 ?vn8_5 ?vt5 ?vi5 ?yy5_5 ?vs5_9 ?vn5_9 ?vs5_1 ?vn5_1 ?vs5_2 ?vn5_2 ?vs5_3 ?vn5_3 ?vs5_4 ?vn5_4 ?vs5_8 ?vn5_8 ?vt3 ?vi3 ?yy3_3 ?vs3_9 ?vn3_9 ?vs3_1 ?vn3_1 ?vs3_2 ?vn3_2 ?vs3_4 ?vn3_4 ?vs3_8 ?vn3_8 ?vs3_5 ?vn3_5 ?vt4 ?vi4 ?yy4_4 ?vs4_9 ?vn4_9 ?vs4_1 ?vn4_1 ?vs4_2 ?vn4_2 ?vs4_3 ?vn4_3 ?vs4_8 ?vn4_8 ?vs4_5 ?vn4_5 ?vt1 ?vi1 ?yy1_1 ?vs1_9 ?vn1_9 ?vs1_2 ?vn1_2 ?vs1_3 ?vn1_3 ?vs1_4 ?vn1_4 ?vs1_8 ?vn1_8 ?vs1_5 ?vn1_5 ?vt2 ?vi2 ?yy2_2 ?vs2_9 ?vn2_9 ?vs2_1 ?vn2_1 ?vs2_3 ?vn2_3 ?vs2_4 ?vn2_4 ?vs2_8 ?vn2_8 ?vs2_5 ?vn2_5 ?vt6 ?vi6 ?yy6_6 ?vs6_0 ?vn6_0 ?vs6_7 ?vn6_7 ?vt7 ?vi7 ?yy7_7 ?vs7_0 ?vn7_0 ?vs7_6 ?vn7_6 ?xa0 ?xa1 ?xa2 ?xa3 ?xa4 ?xa5 ?xa6 ?xa7 ?xa8 ?a36 ?i36 ?l36 ?c36 ?k36 ?xs6 ?xp6 ?xi6 ?xy6 ?xd6 ?xna6_0 ?xe0 ?xe1 ?xe2 ?xe3 ?xe4 ?xe5 ?xe7 ?xsg ?xtk ?xg1 ?xn1 ?xf1 ?xb1 ?xg0 ?xn0 ?xf0 ?xb0 ?xg3 ?xn3 ?xf3 ?xb3 ?xg5 ?xn5 ?xf5 ?xb5 ?xg7 ?xn7 ?xf7 ?xb7 ?xg2 ?xn2 ?xf2 ?xb2 ?xg4 ?xn4 ?xf4 ?xb4 ?xg6 ?xn6 ?xf6 ?xb6 ?xo0 ?xt0 ?xo1 ?xt1 ?xo2 ?xt2 ?xo3 ?xt3 ?xo4 ?xt4 ?xo5 ?xt5 ?xo6 ?xt6 ?xo7 ?xt7 ?xo8 ?xt8 ?xw8 ?xm8_1 ?xm8_0 ?xm8_3 ?xm8_5 ?xm8_7 ?xm8_2 ?xm8_4 ?xm8_6 ?dd0 ?dd1 ?zz ?ke0 ?ke1 ?ke2 ?ke3
    (case ac0 => k_is)
    (case ac1 => k_is)
    (case ac2 => k_is)
    (case ac3 => k_is)
    (case ac4 => k_is)
    (case ac5 => k_is)
    (case ac6 => k_is)
    (case ac7 => k_is)
    (case ac8 => k_is)
    (case ac9 => k_is)
    (case a0 => k_is)
    (case a0_3 => k_is)
    (case a0_4 => k_is)
    (case a0_8 => k_is)
    (case a0_9 => k_is)
    (case i0 => k_is)
    (case l0 => delta TX.Lk; k_is)
    (case c0 => k_is)
    (case k0 => k_is)
    (case a1 => k_is)
    (case i1 => k_is)
    (case l1 => delta TX.Lk; k_is)
    (case c1 => k_is)
    (case k1 => k_is)
    (case a2 => k_is)
    (case i2 => k_is)
    (case l2 => delta TX.Lk; k_is)
    (case c2 => k_is)
    (case k2 => k_is)
    (case a3 => k_is)
    (case i3 => k_is)
    (case l3 => delta TX.Lk; k_is)
    (case c3 => k_is)
    (case k3 => k_is)
    (case a4 => k_is)
    (case i4 => k_is)
    (case l4 => delta TX.Lk; k_is)
    (case c4 => k_is)
    (case k4 => k_is)
    (case a5 => k_is)
    (case i5 => k_is)
    (case l5 => delta TX.Lk; k_is)
    (case c5 => k_is)
    (case k5 => k_is)
    (case a6 => k_is)
    (case i6 => k_is)
    (case l6 => delta TX.Lk; k_is)
    (case c6 => k_is)
    (case k6 => k_is)
    (case a7 => k_is)
    (case i7 => k_is)
    (case l7 => delta TX.Lk; k_is)
    (case c7 => k_is)
    (case k7 => k_is)
    (case a8 => k_is)
    (case i8 => k_is)
    (case l8 => delta TX.Lk; k_is)
    (case c8 => k_is)
    (case k8 => k_is)
    (case a9 => k_is)
    (case i9 => k_is)
    (case l9 => delta TX.Lk; k_is)
    (case c9 => k_is)
    (case k9 => k_is)
    (case a10 => k_is)
    (case i10 => k_is)
    (case l10 => delta TX.Lk; k_is)
    (case c10 => k_is)
    (case k10 => k_is)
    (case a11 => k_is)
    (case i11 => k_is)
    (case l11 => delta TX.Lk; k_is)
    (case c11 => k_is)
    (case k11 => k_is)
    (case a12 => k_is)
    (case i12 => k_is)
    (case l12 => delta TX.Lk; k_is)
    (case c12 => k_is)
    (case k12 => k_is)
    (case a13 => k_is)
    (case i13 => k_is)
    (case l13 => delta TX.Lk; k_is)
    (case c13 => k_is)
    (case k13 => k_is)
    (case a14 => k_is)
    (case i14 => k_is)
    (case l14 => delta TX.Lk; k_is)
    (case c14 => k_is)
    (case k14 => k_is)
    (case a15 => k_is)
    (case i15 => k_is)
    (case l15 => delta TX.Lk; k_is)
    (case c15 => k_is)
    (case k15 => k_is)
    (case a16 => k_is)
    (case i16 => k_is)
    (case l16 => delta TX.Lk; k_is)
    (case c16 => k_is)
    (case k16 => k_is)
    (case a17 => k_is)
    (case i17 => k_is)
    (case l17 => delta TX.Lk; k_is)
    (case c17 => k_is)
    (case k17 => k_is)
    (case a18 => k_is)
    (case i18 => k_is)
    (case l18 => delta TX.Lk; k_is)
    (case c18 => k_is)
    (case k18 => k_is)
    (case a19 => k_is)
    (case i19 => k_is)
    (case l19 => delta TX.Lk; k_is)
    (case c19 => k_is)
    (case k19 => k_is)
    (case a20 => k_is)
    (case i20 => k_is)
    (case l20 => delta TX.Lk; k_is)
    (case c20 => k_is)
    (case k20 => k_is)
    (case a21 => k_is)
    (case i21 => k_is)
    (case l21 => delta TX.Lk; k_is)
    (case c21 => k_is)
    (case k21 => k_is)
    (case a22 => k_is)
    (case i22 => k_is)
    (case l22 => delta TX.Lk; k_is)
    (case c22 => k_is)
    (case k22 => k_is)
    (case a23 => k_is)
    (case i23 => k_is)
    (case l23 => delta TX.Lk; k_is)
    (case c23 => k_is)
    (case k23 => k_is)
    (case a24 => k_is)
    (case i24 => k_is)
    (case l24 => delta TX.Lk; k_is)
    (case c24 => k_is)
    (case k24 => k_is)
    (case a25 => k_is)
    (case i25 => k_is)
    (case l25 => delta TX.Lk; k_is)
    (case c25 => k_is)
    (case k25 => k_is)
    (case a26 => k_is)
    (case l26 => delta TX.Lk; k_is)
    (case c26 => k_is)
    (case k26 => k_is)
    (case a27 => k_is)
    (case i27 => k_is)
    (case l27 => delta TX.Lk; k_is)
    (case c27 => k_is)
    (case k27 => k_is)
    (case a28 => k_is)
    (case i28 => k_is)
    (case l28 => delta TX.Lk; k_is)
    (case c28 => k_is)
    (case k28 => k_is)
    (case a29 => k_is)
    (case i29 => k_is)
    (case l29 => delta TX.Lk; k_is)
    (case c29 => k_is)
    (case k29 => k_is)
    (case a30 => k_is)
    (case i30 => k_is)
    (case l30 => delta TX.Lk; k_is)
    (case c30 => k_is)
    (case k30 => k_is)
    (case a31 => k_is)
    (case i31 => k_is)
    (case l31 => delta TX.Lk; k_is)
    (case c31 => k_is)
    (case k31 => k_is)
    (case a32 => k_is)
    (case i32 => k_is)
    (case l32 => delta TX.Lk; k_is)
    (case c32 => k_is)
    (case k32 => k_is)
    (case a33 => k_is)
    (case i33 => k_is)
    (case l33 => delta TX.Lk; k_is)
    (case c33 => k_is)
    (case k33 => k_is)
    (case a34 => k_is)
    (case i34 => k_is)
    (case l34 => delta TX.Lk; k_is)
    (case c34 => k_is)
    (case k34 => k_is)
    (case a35 => k_is)
    (case i35 => k_is)
    (case l35 => delta TX.Lk; k_is)
    (case c35 => k_is)
    (case k35 => k_is)
    (case p0 => k_is)
    (case q0 => k_is)
    (case r0 => k_is)
    (case s0 => k_is)
    (case n0_0 => k_is)
    (case m0 => k_is)
    (case kp0 => k_is)
    (case p1 => k_is)
    (case q1 => k_is)
    (case r1 => k_is)
    (case s1 => k_is)
    (case n1_0 => k_is)
    (case n1_1 => k_is)
    (case m1 => k_is)
    (case kp1 => k_is)
    (case p2 => k_is)
    (case q2 => k_is)
    (case r2 => k_is)
    (case s2 => k_is)
    (case n2_0 => k_is)
    (case m2 => k_is)
    (case kp2 => k_is)
    (case p3 => k_is)
    (case q3 => k_is)
    (case r3 => k_is)
    (case s3 => k_is)
    (case n3_0 => k_is)
    (case n3_1 => k_is)
    (case n3_2 => k_is)
    (case n3_3 => k_is)
    (case m3 => k_is)
    (case kp3 => k_is)
    (case p4 => k_is)
    (case q4 => k_is)
    (case r4 => k_is)
    (case s4 => k_is)
    (case n4_0 => k_is)
    (case n4_1 => k_is)
    (case n4_2 => k_is)
    (case n4_3 => k_is)
    (case m4 => k_is)
    (case kp4 => k_is)
    (case p5 => k_is)
    (case q5 => k_is)
    (case r5 => k_is)
    (case s5 => k_is)
    (case n5_0 => k_is)
    (case n5_1 => k_is)
    (case m5 => k_is)
    (case kp5 => k_is)
    (case p6 => k_is)
    (case q6 => k_is)
    (case r6 => k_is)
    (case s6 => k_is)
    (case n6_0 => k_is)
    (case n6_1 => k_is)
    (case m6 => k_is)
    (case kp6 => k_is)
    (case p7 => k_is)
    (case q7 => k_is)
    (case r7 => k_is)
    (case s7 => k_is)
    (case n7_0 => k_is)
    (case n7_1 => k_is)
    (case n7_2 => k_is)
    (case m7 => k_is)
    (case kp7 => k_is)
    (case p8 => k_is)
    (case q8 => k_is)
    (case r8 => k_is)
    (case s8 => k_is)
    (case n8_0 => k_is)
    (case n8_1 => k_is)
    (case m8 => k_is)
    (case kp8 => k_is)
    (case p9 => k_is)
    (case q9 => k_is)
    (case r9 => k_is)
    (case s9 => k_is)
    (case o9 => k_is)
    (case m9 => k_is)
    (case kp9 => k_is)
    (case vsg => k_is)
    (case vtk => k_is)
    (case vf0 => k_is)
    (case vm0 => k_is)
    (case vf1 => k_is)
    (case vm1 => k_is)
    (case vf2 => k_is)
    (case vm2 => k_is)
    (case vf3 => k_is)
    (case vm3 => k_is)
    (case vf4 => k_is)
    (case vm4 => k_is)
    (case vf5 => k_is)
    (case vm5 => k_is)
    (case vf6 => k_is)
    (case vm6 => k_is)
    (case vf7 => k_is)
    (case vm7 => k_is)
    (case vf8 => k_is)
    (case vm8 => k_is)
    (case vf9 => k_is)
    (case vm9 => k_is)
    (case vt0 => k_is)
    (case vi0 => k_is)
    (case yy0_0 => k_is)
    (case vs0_6 => k_is)
    (case vn0_6 => decide)
    (case vs0_7 => k_is)
    (case vn0_7 => decide)
    (case vt8 => k_is)
    (case vi8 => k_is)
    (case yy8_8 => k_is)
    (case vs8_9 => k_is)
    (case vn8_9 => decide)
    (case vs8_1 => k_is)
    (case vn8_1 => decide)
    (case vs8_2 => k_is)
    (case vn8_2 => decide)
    (case vs8_3 => k_is)
    (case vn8_3 => decide)
    (case vs8_4 => k_is)
    (case vn8_4 => decide)
    (case vs8_5 => k_is)
    (case vn8_5 => decide)
    (case vt5 => k_is)
    (case vi5 => k_is)
    (case yy5_5 => k_is)
    (case vs5_9 => k_is)
    (case vn5_9 => decide)
    (case vs5_1 => k_is)
    (case vn5_1 => decide)
    (case vs5_2 => k_is)
    (case vn5_2 => decide)
    (case vs5_3 => k_is)
    (case vn5_3 => decide)
    (case vs5_4 => k_is)
    (case vn5_4 => decide)
    (case vs5_8 => k_is)
    (case vn5_8 => decide)
    (case vt3 => k_is)
    (case vi3 => k_is)
    (case yy3_3 => k_is)
    (case vs3_9 => k_is)
    (case vn3_9 => decide)
    (case vs3_1 => k_is)
    (case vn3_1 => decide)
    (case vs3_2 => k_is)
    (case vn3_2 => decide)
    (case vs3_4 => k_is)
    (case vn3_4 => decide)
    (case vs3_8 => k_is)
    (case vn3_8 => decide)
    (case vs3_5 => k_is)
    (case vn3_5 => decide)
    (case vt4 => k_is)
    (case vi4 => k_is)
    (case yy4_4 => k_is)
    (case vs4_9 => k_is)
    (case vn4_9 => decide)
    (case vs4_1 => k_is)
    (case vn4_1 => decide)
    (case vs4_2 => k_is)
    (case vn4_2 => decide)
    (case vs4_3 => k_is)
    (case vn4_3 => decide)
    (case vs4_8 => k_is)
    (case vn4_8 => decide)
    (case vs4_5 => k_is)
    (case vn4_5 => decide)
    (case vt1 => k_is)
    (case vi1 => k_is)
    (case yy1_1 => k_is)
    (case vs1_9 => k_is)
    (case vn1_9 => decide)
    (case vs1_2 => k_is)
    (case vn1_2 => decide)
    (case vs1_3 => k_is)
    (case vn1_3 => decide)
    (case vs1_4 => k_is)
    (case vn1_4 => decide)
    (case vs1_8 => k_is)
    (case vn1_8 => decide)
    (case vs1_5 => k_is)
    (case vn1_5 => decide)
    (case vt2 => k_is)
    (case vi2 => k_is)
    (case yy2_2 => k_is)
    (case vs2_9 => k_is)
    (case vn2_9 => decide)
    (case vs2_1 => k_is)
    (case vn2_1 => decide)
    (case vs2_3 => k_is)
    (case vn2_3 => decide)
    (case vs2_4 => k_is)
    (case vn2_4 => decide)
    (case vs2_8 => k_is)
    (case vn2_8 => decide)
    (case vs2_5 => k_is)
    (case vn2_5 => decide)
    (case vt6 => k_is)
    (case vi6 => k_is)
    (case yy6_6 => k_is)
    (case vs6_0 => k_is)
    (case vn6_0 => decide)
    (case vs6_7 => k_is)
    (case vn6_7 => decide)
    (case vt7 => k_is)
    (case vi7 => k_is)
    (case yy7_7 => k_is)
    (case vs7_0 => k_is)
    (case vn7_0 => decide)
    (case vs7_6 => k_is)
    (case vn7_6 => decide)
    (case xa0 => k_is)
    (case xa1 => k_is)
    (case xa2 => k_is)
    (case xa3 => k_is)
    (case xa4 => k_is)
    (case xa5 => k_is)
    (case xa6 => k_is)
    (case xa7 => k_is)
    (case xa8 => k_is)
    (case a36 => k_is)
    (case i36 => k_is)
    (case l36 => delta TX.Lk; k_is)
    (case c36 => k_is)
    (case k36 => k_is)
    (case xs6 => k_is)
    (case xp6 => k_is)
    (case xi6 => kernel_rfl)
    (case xy6 => kernel_rfl)
    (case xd6 => k_is)
    (case xna6_0 => k_is)
    (case xe0 => k_exc)
    (case xe1 => k_exc)
    (case xe2 => k_exc)
    (case xe3 => k_exc)
    (case xe4 => k_exc)
    (case xe5 => k_exc)
    (case xe7 => k_exc)
    (case xsg => k_is)
    (case xtk => k_is)
    (case xg1 => k_is)
    (case xn1 => k_is)
    (case xf1 => k_is)
    (case xb1 => k_is)
    (case xg0 => k_is)
    (case xn0 => k_is)
    (case xf0 => k_is)
    (case xb0 => k_is)
    (case xg3 => k_is)
    (case xn3 => k_is)
    (case xf3 => k_is)
    (case xb3 => k_is)
    (case xg5 => k_is)
    (case xn5 => k_is)
    (case xf5 => k_is)
    (case xb5 => k_is)
    (case xg7 => k_is)
    (case xn7 => k_is)
    (case xf7 => k_is)
    (case xb7 => k_is)
    (case xg2 => k_is)
    (case xn2 => k_is)
    (case xf2 => k_is)
    (case xb2 => k_is)
    (case xg4 => k_is)
    (case xn4 => k_is)
    (case xf4 => k_is)
    (case xb4 => k_is)
    (case xg6 => k_is)
    (case xn6 => k_is)
    (case xf6 => k_is)
    (case xb6 => k_is)
    (case xo0 => k_is)
    (case xt0 => k_is)
    (case xo1 => k_is)
    (case xt1 => k_is)
    (case xo2 => k_is)
    (case xt2 => k_is)
    (case xo3 => k_is)
    (case xt3 => k_is)
    (case xo4 => k_is)
    (case xt4 => k_is)
    (case xo5 => k_is)
    (case xt5 => k_is)
    (case xo6 => k_is)
    (case xt6 => k_is)
    (case xo7 => k_is)
    (case xt7 => k_is)
    (case xo8 => k_is)
    (case xt8 => k_is)
    (case xw8 => k_is)
    (case xm8_1 => k_is)
    (case xm8_0 => k_is)
    (case xm8_3 => k_is)
    (case xm8_5 => k_is)
    (case xm8_7 => k_is)
    (case xm8_2 => k_is)
    (case xm8_4 => k_is)
    (case xm8_6 => k_is)
    (case ke0 => k_is)
    (case ke1 => k_is)
    (case ke2 => k_is)
    (case ke3 => k_is)
    case dd0|dd1 => (repeat (refine' TX.KDs.mk (TX.KD.mk ?a ?l ?c ?k) ?_;(case a|l|c|k => first|delta TX.Lk;k_is|k_is)));trivial
    case zz => (repeat (refine TX.KZs.mk (by k_is) ?_));trivial

import PyProof.Rows.All
import KE.KDictList
import KE.KDictOf
import KE.KEqDict
import KE.KSortTup
import KE.KTreeD
import KE.KTryMore
import Wide.FinOn
import PySem.Challenge.RW_twoglass_k60_leaves_and_steps_over
set_option Elab.async false
set_option linter.all false
set_option maxRecDepth 100000
section
open PySem PySem.W PyProof.Rows
namespace PySem.W.Fast
theorem tw14795914107309162189:True:=⟨⟩
theorem tw594462161550115872:True:=⟨⟩
theorem tw17523043395396291255:True:=⟨⟩
theorem tw644616003903792365:True:=⟨⟩
theorem tw1197727393367847778:True:=⟨⟩
theorem tw11773727433561612861:True:=⟨⟩
theorem tw16004510911453743967:True:=⟨⟩
theorem tw5840715366357598805:True:=⟨⟩
theorem tw10241350974688581893:True:=⟨⟩
theorem tw3258542805573559930:True:=⟨⟩
theorem tw17089756727201987765:True:=⟨⟩
theorem tw3275876484973615065:True:=⟨⟩
theorem tw4232077769747398254:True:=⟨⟩
theorem tw7450517106921004234:True:=⟨⟩
theorem tw15338074602062935545:True:=⟨⟩
theorem tw10036574309377431789:True:=⟨⟩
theorem tw12342498000304307244:True:=⟨⟩
theorem tw16650455684347038203:True:=⟨⟩
theorem tw5227682466244317682:True:=⟨⟩
theorem tw3145010870355039334:True:=⟨⟩
theorem tw11588533298749054148:True:=⟨⟩
theorem tw10696238179250608358:True:=⟨⟩
theorem tw18038595269205908806:True:=⟨⟩
theorem tw16126681772740962678:True:=⟨⟩
theorem tw9607314299469009691:True:=⟨⟩
theorem tw16468830537694620608:True:=⟨⟩
theorem tw11252207899662002698:True:=⟨⟩
theorem tw11827414736523481148:True:=⟨⟩
theorem tw5075781379762086095:True:=⟨⟩
theorem tw10271839338604928152:True:=⟨⟩
theorem tw10511199996136309931:True:=⟨⟩
theorem tw15167870161404955608:True:=⟨⟩
theorem tw12576434188960486941:True:=⟨⟩
theorem tw4874054234549125133:True:=⟨⟩
theorem tw9176010292730619603:True:=⟨⟩
theorem tw3285119136262250737:True:=⟨⟩
theorem tw11035635211303157375:True:=⟨⟩
theorem tw5546234527425046060:True:=⟨⟩
theorem tw12685760362519603183:True:=⟨⟩
theorem tw11080477242136023372:True:=⟨⟩
theorem tw9144525558130822067:True:=⟨⟩
theorem tw11262369699685854752:True:=⟨⟩
theorem tw6454786211093975392:True:=⟨⟩
theorem tw5916633768326879234:True:=⟨⟩
theorem tw2102043636597604780:True:=⟨⟩
theorem tw6164622305454457568:True:=⟨⟩
theorem tw9534125884897631447:True:=⟨⟩
theorem tw17118100811138522892:True:=⟨⟩
theorem tw9919379259229559204:True:=⟨⟩
theorem tw12645495526714730036:True:=⟨⟩
theorem tw5922562659541528411:True:=⟨⟩
theorem tw14826612179201415128:True:=⟨⟩
theorem tw3482248552810427020:True:=⟨⟩
theorem tw4818620369421543109:True:=⟨⟩
theorem tw9879518799922358521:True:=⟨⟩
theorem tw11800487986909002756:True:=⟨⟩
theorem tw13696091584106910780:True:=⟨⟩
theorem tw7850424096491197890:True:=⟨⟩
theorem tw11958770187336902350:True:=⟨⟩
theorem tw18271159082841931650:True:=⟨⟩
theorem tw5052704227124991772:True:=⟨⟩
theorem tw12390093496264969772:True:=⟨⟩
theorem tw15861564017409915307:True:=⟨⟩
theorem tw2903327094094222510:True:=⟨⟩
theorem tw16438125624041666712:True:=⟨⟩
theorem tw17164825672037108872:True:=⟨⟩
theorem tw4176851003741242306:True:=⟨⟩
theorem tw16947678235187010570:True:=⟨⟩
theorem tw10253816133778871924:True:=⟨⟩
theorem tw2604202361742321617:True:=⟨⟩
theorem tw4281409547766352347:True:=⟨⟩
theorem tw15657694177427110081:True:=⟨⟩
theorem tw13397507984673662844:True:=⟨⟩
theorem tw13553421779167372764:True:=⟨⟩
theorem tw12465928213658041886:True:=⟨⟩
theorem tw6155544293589166228:True:=⟨⟩
theorem tw4385211039079480579:True:=⟨⟩
theorem tw5138928973674484759:True:=⟨⟩
theorem tw7852629442995752963:True:=⟨⟩
theorem tw12692074700048982269:True:=⟨⟩
theorem tw12413532391147824562:True:=⟨⟩
theorem tw6212633106216346381:True:=⟨⟩
theorem tw11795459237338004637:True:=⟨⟩
theorem tw17021948100559125563:True:=⟨⟩
theorem tw7163375360236317805:True:=⟨⟩
theorem tw9492983913902916169:True:=⟨⟩
theorem tw6313635168738677036:True:=⟨⟩
theorem tw5321973839260076382:True:=⟨⟩
theorem tw8777660619944014258:True:=⟨⟩
theorem tw2851958138112745279:True:=⟨⟩
theorem tw7346965529127685648:True:=⟨⟩
theorem tw10433970532324830554:True:=⟨⟩
theorem tw17309054045784861170:True:=⟨⟩
theorem tw10889247628883016732:True:=⟨⟩
theorem tw12216832896428627848:True:=⟨⟩
theorem tw4254187847153116492:True:=⟨⟩
theorem tw5538757204355581169:True:=⟨⟩
theorem tw4915561020198065138:True:=⟨⟩
theorem tw1246505308326827975:True:=⟨⟩
theorem tw11306481376747193316:True:=⟨⟩
theorem tw12180568773412075316:True:=⟨⟩
theorem tw18311225061239289893:True:=⟨⟩
theorem tw315124279098497254:True:=⟨⟩
theorem tw14807284558820377267:True:=⟨⟩
theorem tw10771735210874953875:True:=⟨⟩
theorem tw5814802904601418001:True:=⟨⟩
theorem tw14562187667467967203:True:=⟨⟩
theorem tw15900611054061823947:True:=⟨⟩
theorem tw334978717782563633:True:=⟨⟩
theorem tw10708894086345365154:True:=⟨⟩
theorem tw6253735089576268428:True:=⟨⟩
theorem tw12901778507037641302:True:=⟨⟩
theorem tw11934583962904531736:True:=⟨⟩
theorem tw15578282640693600540:True:=⟨⟩
theorem tw1119746595006327937:True:=⟨⟩
theorem tw335713128318754356:True:=⟨⟩
theorem tw1447281276507974456:True:=⟨⟩
theorem tw9421291057798507378:True:=⟨⟩
theorem tw3232284944561464919:True:=⟨⟩
theorem tw7758714167091910541:True:=⟨⟩
theorem tw17747313889794988105:True:=⟨⟩
theorem tw4244799606688946021:True:=⟨⟩
theorem tw3405348976525082565:True:=⟨⟩
theorem tw3439416786473743908:True:=⟨⟩
theorem tw16513508893030388798:True:=⟨⟩
theorem tw15902592377525457985:True:=⟨⟩
theorem tw4347695899242321270:True:=⟨⟩
theorem tw8711036658483124817:True:=⟨⟩
theorem tw13023102964991520577:True:=⟨⟩
theorem tw16877388017335559846:True:=⟨⟩
theorem tw6275226100708165012:True:=⟨⟩
theorem tw12484632481464064847:True:=⟨⟩
theorem tw16157624689657398890:True:=⟨⟩
theorem tw12580581485829099949:True:=⟨⟩
theorem tw17812097957808155456:True:=⟨⟩
theorem tw11330398440342420910:True:=⟨⟩
theorem tw5436628587289444990:True:=⟨⟩
theorem tw5445363963375347864:True:=⟨⟩
theorem tw2973157028948567305:True:=⟨⟩
theorem tw3275175059887266540:True:=⟨⟩
theorem tw15020294836246466684:True:=⟨⟩
theorem tw1423219342651919770:True:=⟨⟩
theorem tw11235252989610736267:True:=⟨⟩
theorem tw17599319192756630114:True:=⟨⟩
theorem tw150274928187186367:True:=⟨⟩
theorem tw9384253075383771976:True:=⟨⟩
theorem tw2644389771775877938:True:=⟨⟩
theorem tw9878632661406010138:True:=⟨⟩
theorem tw11182783748913651577:True:=⟨⟩
theorem tw9977097567212685650:True:=⟨⟩
theorem tw16881869772912442226:True:=⟨⟩
theorem tw4435598581241955303:True:=⟨⟩
theorem tw1636524120326790755:True:=⟨⟩
theorem tw2034614175317067818:True:=⟨⟩
theorem tw5114216445286469309:True:=⟨⟩
theorem tw8497154447477267156:True:=⟨⟩
theorem tw8490097265911488275:True:=⟨⟩
theorem tw3094791521535460932:True:=⟨⟩
theorem tw16766734479976476489:True:=⟨⟩
theorem tw15169384706834631290:True:=⟨⟩
theorem tw657627403930092468:True:=⟨⟩
theorem tw458085870401066097:True:=⟨⟩
theorem tw3078698010334748188:True:=⟨⟩
theorem tw17655448475423636507:True:=⟨⟩
theorem tw15911070234597136442:True:=⟨⟩
theorem tw15471461936314784266:True:=⟨⟩
theorem tw14400536670655157950:True:=⟨⟩
theorem tw6026585037198989374:True:=⟨⟩
theorem tw4330265437638570833:True:=⟨⟩
theorem tw8338116578565087192:True:=⟨⟩
theorem tw18395881433877421720:True:=⟨⟩
theorem tw1150980362206426782:True:=⟨⟩
theorem tw6665585289688035180:True:=⟨⟩
theorem tw2508960071666093592:True:=⟨⟩
theorem tw2483816278702108647:True:=⟨⟩
theorem tw554936595263928304:True:=⟨⟩
theorem tw5806555685062427774:True:=⟨⟩
theorem tw6833897490572508215:True:=⟨⟩
theorem tw10697584332097806908:True:=⟨⟩
theorem tw9257847593593857619:True:=⟨⟩
theorem tw14859980362326401635:True:=⟨⟩
theorem tw5522908243927983840:True:=⟨⟩
theorem tw4486072792513254398:True:=⟨⟩
theorem tw3241470317650627229:True:=⟨⟩
theorem tw7563613618773909961:True:=⟨⟩
theorem tw2964137443388757286:True:=⟨⟩
theorem tw11028667373921622883:True:=⟨⟩
theorem tw9598045704542819534:True:=⟨⟩
theorem tw401045056539962989:True:=⟨⟩
theorem tw10580507581326291212:True:=⟨⟩
theorem tw807389926558955951:True:=⟨⟩
theorem tw15570836610565274880:True:=⟨⟩
theorem tw11720118019531183269:True:=⟨⟩
theorem tw16502678129262245853:True:=⟨⟩
theorem tw12155763079135922057:True:=⟨⟩
theorem tw8007424814519790068:True:=⟨⟩
theorem tw6142722751602237985:True:=⟨⟩
theorem tw15742085335760579923:True:=⟨⟩
theorem tw11780197961890676616:True:=⟨⟩
theorem tw17732376749128353072:True:=⟨⟩
theorem tw8957708375397849457:True:=⟨⟩
theorem tw6979028320578437078:True:=⟨⟩
theorem tw141324626771647934:True:=⟨⟩
theorem tw12047568291716768136:True:=⟨⟩
theorem tw8332970990892686404:True:=⟨⟩
theorem tw4358371157815556437:True:=⟨⟩
theorem tw2185398401638374777:True:=⟨⟩
theorem tw17893164480070027007:True:=⟨⟩
theorem tw5522348338828447396:True:=⟨⟩
end PySem.W.Fast
set_option maxHeartbeats 0 in
open_top hd60 for PySem.Challenge.rw_twoglass_k60_leaves_and_steps_over
end
local macro_rules|`(tactic|omega)=>`(tactic|first|lia|omega (config:={}))
open List renaming take_nil→G9,drop_nil→Ha,filterMap_cons→Hi,mem_cons_self→Hj,mem_cons_of_mem→Hk,mem_append_left→Hl,getElem_inj→Hm,getElem?_set_self→Ho,getElem?_set_ne→Hq,mem_append_right→Ht,size_toArray→Hu,length_cons→Hw,map_cons→Hx,length_map→Hy,append_nil→HB,of_mem_zip→HC,length_take→HD,getElem?_append_right→HE,getElem?_replicate→HF,getElem?_append_left→HG,getElem?_map→HH,mem_of_getElem?→HI,length_append→HJ,length_drop→HL,length_set→HN,length_singleton→HQ,map_nil→HR,find?_cons→HS,any_cons→HU,length_nil→HV,lookup_cons→HX,cons_append→HZ,take_zero→Ia,take_succ_cons→Ib,drop_zero→Ic,drop_succ_cons→Ie,all_cons→Ig,range_succ_eq_map→Ih,getElem?_eq_getElem→Ii,nil_append→Io,map_congr_left→Ip,map_append→Iq,length_range→Ir,getElem?_range→Iw,drop_eq_getElem_cons→Iy,append_assoc→IB,mem_cons→IC,not_mem_nil→IE,getElem?_cons_zero→IG,getElem?_cons_succ→IH,zip_cons_cons→IJ,contains_cons→IK,nodup_append→IM,replicate_zero→IQ,zip_nil_right→IR,map_map→IU,any_map→IV,getElem?_eq_none→IW,mem_of_find?_eq_some→IX,find?_some→IY,getD_eq_getElem?_getD→Ja,take_of_length_le→Jb,set_cons_zero→Jc,set_cons_succ→Jd,mem_nil_iff→Jg,filterMap_cons_none→Jj,filterMap_cons_some→Jk
open Int renaming toNat_natCast→HK,emod_nonneg→Jh,emod_lt_of_pos→Ji
open Nat renaming lt_of_lt_of_le→Hc,lt_irrefl→He,ne_of_lt→Hf,le_trans→Hg,le_of_lt→Hh,ne_of_gt→Hr,le_refl→Hs,le_of_eq→Hz,zero_le→HA,min_self→Ij,sub_zero→Iu,lt_of_le_of_lt→Iz,zero_add→II,sub_self→IP
open Bool renaming false_ne_true→Hv,and_eq_true→HM,false_eq_true→HY,and_true→Ik,and_false→Il,or_eq_true→Im,or_eq_false_iff→IL,not_eq_true'→IT,not_true→Je,not_false→Jf
open Option renaming getD_none→HP,isSome_map→HW,map_some→IZ
open PySem renaming Value→Kc,NameKind→Kd,Addr→Ke,Expr→Kf,Stmt→Kg,Shared→Kh,World→Ki,Program→Kj,Paired→Kk,Heap→Kl,sizeLine→Km,mainGlobals→Kn,bootBuiltins→Ko,Around→Kp,Scope→Kq,Model→Kr,wpAny→Kt,starEach→Ku,wpAny_mono→Kv,wpAny_truthy_bool→Kw,wpAny_execs_nil→Kx,wpAny_bind→Ky,wpAny_holding→Kz,wpAny_standAt→KA,wpAny_pure→KC,PassesOwn→KG,foldedSetIterable→KH,wpAny_passesOwn→KI,binaryOp→KJ,compareOp→KL,behindInMarks→KN,codeAny→KO,attributeBase→KP,callWith→KQ,keywordEach→KR,cLine→KS,FuncData→KU,BindsTo→KW,wpAny_call→KY,codeAny_mono→KZ,wpAny_Call_Name_kw→K1,concat_meets→K2,noFill_tuple_add→K3,seq_tuple_add→K4,IsPart→K5,wpAny_field→K6,wpAny_callSpecial?_slot→K8,wpAny_call_entry→K9,wpAny_newObj_type→La,wpAny_getItem_list_slice→Lc,Keyword→Ld,tupleKind_room_in1→Le,wpAny_comprehension_free→Lf,wpAny_getItem_str_slice→Lg,post_val_or_str→Lh,codeAny_builtin→Lj,plainId_quiet→Ln,wpAny_richCompare_same_room→Lp
open PySem.W renaming instObj→Jl,methodObj→Jm,Frag→Jo,lookIn→Jp,plainGet→Jq,hasDictIn→Jr,findIn→Js,handedIn→Jt,plainGet_of→Ju,isFn→Jv,plainOver→Jw,takerIn→Jx,makesIn→Jy,typeIn→Jz,emptyDict→JA,keepIn→JB,callWith_K→JC,cellsFrom_some→JD,fnOf→JE,codeIn→JF,OpenLaw→JG,nsIn→JI,notCls→JK,kitOne→JL,kia_one→JM,isIn→JN,excIn→JO,exmOne→JP,mroIn→JQ,subIn→JR,kitCls→JS,keq_eq→JT,mg_of→JU
open PySem.Heap renaming lt_size→JV,SameBut→JW,get?_push_of_some→JX,get?_push_size→JY,size_push→JZ,get?_update_self→J0,get?_update_other→J1,FlyingW→J2
open PyProof.Rows renaming callWith_type1→J3,slot_tuple_getitem→J4,envOfC→J5,IsTup→J6,boot_dict→J7,boot_tuple→J8,Subscript_→Lb,Keyed→Li
open PySem.F renaming slot_tuple_add→J9,entry_tuple_add→Ka,args_tuple_add_2→Kb
set_option maxHeartbeats 1000000
local macro_rules | `(‹0›)=>`(by omega)
set_option hygiene false
local macro_rules|`(`o)=>`(by omega)|`(`g)=>`(Inv X pins σ H s)|`(`i)=>`((model X.prog X.w))|`(`j)=>`((model prog w))|`(`h)=>`((by simp))
set_option hygiene true
namespace L2
open PySem PySem.Spec PyProof.Rows
noncomputable abbrev dF:=List (Option Nat)
noncomputable abbrev bj:=Str->Option Kc
noncomputable abbrev lC:=List (Str×Kd)
noncomputable abbrev aK:=List (Ke×Obj)
noncomputable abbrev ki:=List (Str×Ke)
noncomputable abbrev aX:=List Kf
noncomputable abbrev b7:=List Kg
noncomputable abbrev aP:=List Kc
noncomputable abbrev ay:=List Ke
noncomputable abbrev bn:=Option Int
noncomputable abbrev bf:=Kc->Kh->Prop
noncomputable abbrev gq:=Kh->Prop
noncomputable abbrev ao:=List Str
noncomputable abbrev Key:=Sum Int Str
noncomputable def kC:Key->Kc->Bool
 |.inl k,v=>Value.isInt k v
 |.inr x,v=>Value.isStrOf x v
noncomputable def EV(w:Ki):Key->Int
 |.inl k=>hashInt k
 |.inr x=>hashStr w x
theorem bD:∀{k:Key}{v:Kc},kC k v=true->(∃i t,k=Sum.inl i/\v=Value.int i t)\/(∃x t,k=Sum.inr x/\v=Value.str x t)
 |.inl i,v,h=>by
  obtain⟨t,e⟩:=Value.isInt_shape (k:=i) (v:=v) h;exact .inl ⟨i,t,rfl,e⟩
 |.inr x,v,h=>by
  obtain⟨t,e⟩:=Value.isStrOf_shape (x:=x) (v:=v) h;exact .inr ⟨x,t,rfl,e⟩
theorem sJ(i:Int)(t:Tok):kC (.inl i) (.int i t)=true:=by simp[kC,Value.isInt]
theorem sN(x:Str)(t:Tok):kC (.inr x) (.str x t)=true:=by simp[kC,Value.isStrOf]
theorem AV(a b:Int):decide ((Sum.inl a:Key)=Sum.inl b)=(a==b):=by
 by_cases e:a=b
 ·subst e;simp
 ·have h:¬(Sum.inl a:Key)=Sum.inl b:=λq=>e (Sum.inl.inj q);rw[decide_eq_false h];exact(beq_eq_false_iff_ne.mpr e).symm
theorem AW(a b:Str):decide ((Sum.inr a:Key)=Sum.inr b)=decide (a=b):=by
 by_cases e:a=b
 ·subst e;simp
 ·have h:¬(Sum.inr a:Key)=Sum.inr b:=λq=>e (Sum.inr.inj q);rw[decide_eq_false h,decide_eq_false e]
theorem zQ(a:Int)(b:Str):decide ((Sum.inl a:Key)=Sum.inr b)=false:=decide_eq_false (λq=>nomatch q)
theorem AY(a:Str)(b:Int):decide ((Sum.inr a:Key)=Sum.inl b)=false:=decide_eq_false (λq=>nomatch q)
noncomputable def bz(prog:Kj)(w:Ki):PySem.KeyKind prog w Key where
 is:=kC
 hash:=EV w
 inj:=λv a b ha hb=>by
  rcases bD ha with⟨i,t,rfl,rfl⟩|⟨x,t,rfl,rfl⟩
  ·rcases bD hb with⟨j,u,rfl,e⟩|⟨y,u,rfl,e⟩
   ·injection e with e1 _;rw[e1]
   ·exact nomatch e
  ·rcases bD hb with⟨j,u,rfl,e⟩|⟨y,u,rfl,e⟩
   ·exact nomatch e
   ·injection e with e1 _;rw[e1]
 byValue:=λk v h=>by
  rcases bD h with⟨i,t,rfl,rfl⟩|⟨x,t,rfl,rfl⟩<;>rfl
 pyHash:=λhv h=>by
  rcases bD hv with⟨i,t,rfl,rfl⟩|⟨x,t,rfl,rfl⟩
  ·exact wpAny_pyHash_int h
  ·exact wpAny_pyHash_str h
 eqBool:=λhu hv h=>by
  rcases bD hu with⟨i,t,rfl,rfl⟩|⟨x,t,rfl,rfl⟩
  ·rcases bD hv with⟨j,u,rfl,rfl⟩|⟨y,u,rfl,rfl⟩
   ·rw[AV]at h;exact wpAny_eqBool_int h
   ·rw[zQ]at h;exact SeqAt.EqAt.int_str i t y u _ _ _ _ h
  ·rcases bD hv with⟨j,u,rfl,rfl⟩|⟨y,u,rfl,rfl⟩
   ·rw[AY]at h;exact SeqAt.EqAt.str_int x t j u _ _ _ _ h
   ·rw[AW]at h;exact wpAny_eqBool_str h
 «strs»:=λk x t v h=>by
  rcases bD h with⟨i,u,rfl,e⟩|⟨y,u,rfl,e⟩
  ·exact nomatch e
  ·injection e with e1 _;subst e1;cases v<;>rfl
theorem qO(prog:Kj)(w:Ki)(k:Key)(v:Kc):(bz prog w).is k v=kC k v:=rfl
theorem o6(prog:Kj)(w:Ki)(i:Int)(t:Tok):(bz prog w).is (.inl i) (.int i t)=true:=sJ i t
theorem oZ(prog:Kj)(w:Ki)(x:Str)(t:Tok):(bz prog w).is (.inr x) (.str x t)=true:=sN x t
inductive V where
 |non|bl (b:Bool)|int (i:Int)|str (x:Str)|byt (b:Array UInt8)|flt (b:UInt64)|ref (a:Ke)|ty (n:String)
 deriving DecidableEq
noncomputable abbrev az:=List V
noncomputable def RelV:V->Kc->Prop
 |.non,u=>u=Value.none
 |.bl b,u=>u=Value.bool b
 |.int i,u=>∃t,u=Value.int i t
 |.str x,u=>∃t,u=Value.str x t
 |.byt b,u=>∃t,u=Value.bytes b t
 |.flt b,u=>∃t,u=Value.float b t
 |.ref a,u=>u=Value.ref a
 |.ty n,u=>u=Value.type n
noncomputable abbrev Vals:az->aP->Prop:=Kk RelV
theorem Vals.length{xs:az}{us:aP}(r:Vals xs us):xs.length=us.length:=Paired.length r
theorem Vals.get:∀{xs:az}{us:aP}{i:Nat}{x:V},Vals xs us->xs[i]?=some x->∃u,us[i]?=some u/\RelV x u
 |_,_,_,_,.nil,e=>by simp at e
 |_,_,0,_,.cons r _,e=>by simp at e;subst e;exact⟨_,rfl,r⟩
 |_,_,i+1,x,.cons _ t,e=>by
  obtain⟨u,h1,h2⟩:=Vals.get (i:=i) (x:=x) t (by simpa using e);exact⟨u,by simpa using h1,h2⟩
theorem Vals.set{x:V}{u:Kc}(r:RelV x u):∀{xs:az}{us:aP}(i:Nat),Vals xs us->Vals (xs.set i x) (us.set i u)
 |_,_,_,.nil=>.nil
 |_,_,0,.cons _ t=>.cons r t
 |_,_,i+1,.cons q t=>.cons q (Vals.set r i t)
theorem Vals.append{xs ys:az}{us ws:aP}(h:Vals xs us)(s:Vals ys ws):Vals (xs++ys) (us++ws):=by
 induction h with
 |nil=>exact s
 |cons r _ ih=>exact .cons r ih
theorem Vals.take{xs:az}{us:aP}(n:Nat)(h:Vals xs us):Vals (xs.take n) (us.take n):=by
 induction h generalizing n with
 |nil=>rw[G9,G9];exact .nil
 |cons r _ ih=>
  cases n with
  |zero=>exact .nil
  |succ n=>exact .cons r (ih n)
theorem Vals.drop{xs:az}{us:aP}(n:Nat)(h:Vals xs us):Vals (xs.drop n) (us.drop n):=by
 induction h generalizing n with
 |nil=>rw[Ha,Ha];exact .nil
 |cons r t ih=>
  cases n with
  |zero=>exact .cons r t
  |succ n=>exact ih n
noncomputable def oa:Option V->Option Kc->Prop
 |some v,some u=>RelV v u
 |none,none=>True
 |_,_=>False
noncomputable def KV{κ:Type}:List (κ×V)->List (κ×Kc)->Prop:=Kk λ(p:κ×V)(q:κ×Kc)=>p.1=q.1/\RelV p.2 q.2
noncomputable def kV:Key->V
 |.inl i=>.int i
 |.inr x=>.str x
inductive HO where
  |lst (xs:az)
  |tup (xs:az)
  |dK (kvs:List (Key×V))|dT (kvs:List (List Key×V))
  |set (S:Int->Bool) (n:Nat)
  |ins (C dx:Ke) (fs:List (Str×V))
  |own (x:Ke)
  |xd (fs:List (Str×V))
  |met (f x:Ke)
  |rng (lo hi:Int)
  |frz (o:Obj) (u:HO)
  |tbl (ps:Array Kc)
  |ext (φ:(Ke->Prop)->Kl->Prop)
noncomputable abbrev Hp:=Ke->Option HO
noncomputable def upd(H:Hp)(a:Ke)(o:HO):Hp:=λb=>if b=a then some o else H b
theorem aD{H:Hp}{a:Ke}{o:HO}:upd H a o a=some o:=by unfold upd;rw[if_pos rfl]
theorem ax{H:Hp}{a b:Ke}{o:HO}(h:b≠a):upd H a o b=H b:=by unfold upd;rw[if_neg h]
theorem yZ{H:Hp}{a:Ke}{o u:HO}:upd (upd H a o) a u=upd H a u:=by
 funext b;unfold upd;split<;>rfl
theorem CF{H:Hp}{a b:Ke}{o u:HO}(h:H a=some o)(h':H b=some u)(d:o≠u):a≠b:=by
 intro e;subst e;rw[h]at h';exact d (Option.some.inj h')
theorem aR{H:Hp}{a b:Ke}{o:HO}(h:H a=some o)(h':H b=none):a≠b:=by
 intro e;subst e;rw[h]at h';cases h'
section
variable(P:Kj)(w:Ki)
noncomputable def bL(H:Hp)(h:Kl)(a:Ke):HO->Prop
 |.lst xs=>xs.length<=Km/\∃(its:aP)(n:Nat),Vals xs its/\h.get? a=some {cls:=.type "list",data:=.seq its.toArray n}
 |.tup xs=>xs.length<=Km/\∃its:aP,Vals xs its/\IsTup h a its.toArray
 |.dK kvs=>kvs.length<=Km/\(a==sysModules)=false/\∃vs,KV kvs vs/\h.DictOf (bz P w) a vs
 |.dT kvs=>kvs.length<=Km/\(a==sysModules)=false/\∃xs:List (List Key×Ke×Kc),
   Kk (λ(p:List Key×V)(q:List Key×Ke×Kc)=>p.1=q.1/\H q.2.1=some (.tup (p.1.map kV))/\RelV p.2 q.2.2) kvs xs/\
   ∃o es ep,h.get? a=some o/\o.ExactDict/\o.data=.dict es ep/\es.toList=xs.map (entryOfKey (tupleKind (bz P w)))/\(xs.map (·.1)).Nodup
 |.set S n=>h.SetOf (intKind P w) a S n
 |.ins C dx fs=>H dx=some (.own a)/\fs.length<=1000/\dx≠a/\h.get? a=some (Jl C dx)/\
   ∃mA,h.Ns1 dx mA/\(∀f,oa (fs.lookup f) (mA f))/\PySem.Within mA (fs.map (·.1))
 |.own _=>∃o,h.get? a=some o
 |.xd fs=>∃mA,h.Ns1 a mA/\∀f,oa (fs.lookup f) (mA f)
 |.rng lo hi=>∃t u v,h.get? a=some {cls:=.type "range",data:=.fields #[.int lo t,.int hi u,.int 1 v]}
 |.frz o u=>h.get? a=some o/\bL H h a u
 |.tbl ps=>h.get? a=some {cls:=.none,data:=.fields ps}
 |.met f x=>h.get? a=some (Jm (.ref f) (.ref x))
 |.ext φ=>φ (λb=>H b=some (.own a)) h/\(∃o,h.get? a=some o)/\∀(S1 S2:Ke->Prop)(h1 h2:Kl),φ S1 h1->(∀b,S1 b->S2 b)->(∀b o,(b=a\/S1 b)->h1.get? b=some o->h2.get? b=some o)->φ S2 h2
noncomputable def jN(H:Hp)(h:Kl):Prop:=∀a o,H a=some o->bL P w H h a o
end
section
variable{P:Kj}{w:Ki}{H H':Hp}{h h':Kl}{a:Ke}{o:HO}
theorem bL.lt(x:bL P w H h a o):a<h.objs.size:=by
 cases o with
 |lst xs=>obtain⟨_,_,_,_,e⟩:=x;exact JV e
 |tup xs=>obtain⟨_,_,_,p⟩:=x;exact p.lt
 |dK kvs=>obtain⟨_,_,_,_,o,_,_,e,_⟩:=x;exact JV e
 |dT kvs=>obtain⟨_,_,_,_,o,_,_,e,_⟩:=x;exact JV e
 |set S n=>obtain⟨o,_,_,_,e,_⟩:=x;exact JV e
 |ins C dx fs=>obtain⟨_,_,_,e,_⟩:=x;exact JV e
 |own y=>obtain⟨_,e⟩:=x;exact JV e
 |xd fs=>obtain⟨_,⟨_,_,_,e,_⟩,_⟩:=x;exact JV e
 |rng lo hi=>obtain⟨_,_,_,e⟩:=x;exact JV e
 |frz ob u=>obtain⟨e,_⟩:=x;exact JV e
 |tbl ps=>exact JV (show h.get? a=some _ from x)
 |met f y=>exact JV (show h.get? a=some _ from x)
 |ext φ=>obtain⟨_,⟨_,e⟩,_⟩:=x;exact JV e
theorem Paired.mapP{α β:Type}{F G:α->β->Prop}{l₁:List α}{l₂:List β}(h:Kk F l₁ l₂)(f:∀a b,F a b->G a b):Kk G l₁ l₂:=by
 induction h with
 |nil=>exact .nil
 |cons r _ ih=>exact .cons (f _ _ r) ih
theorem bL.stay(x:bL P w H h a o)(k:∀b u,(b=a\/H b=some (.own a))->h.get? b=some u->h'.get? b=some u)
  (ho:∀b,H b=some (.own a)->H' b=some (.own a)) (ht:∀b xs,H b=some (.tup xs)->H' b=some (.tup xs)):bL P w H' h' a o:=by
 induction o with
 |lst xs=>obtain⟨z,its,n,r,e⟩:=x;exact⟨z,its,n,r,k _ _ (.inl rfl) e⟩
 |tup xs=>obtain⟨z,its,r,ob,e,c⟩:=x;exact⟨z,its,r,ob,k _ _ (.inl rfl) e,c⟩
 |dK kvs=>obtain⟨z,y,vs,r,ob,es,ep,e,c⟩:=x;exact⟨z,y,vs,r,ob,es,ep,k _ _ (.inl rfl) e,c⟩
 |dT kvs=>
  obtain⟨z,y,xs,r,ob,es,ep,e,c⟩:=x;exact⟨z,y,xs,Paired.mapP r λp q z=>⟨z.1,ht _ _ z.2.1,z.2.2⟩,ob,es,ep,k _ _ (.inl rfl) e,c⟩
 |set S n=>obtain⟨ob,es,ep,t,e,c⟩:=x;exact⟨ob,es,ep,t,k _ _ (.inl rfl) e,c⟩
 |ins C dx fs=>
  obtain⟨d,z,ne,e,mA,⟨od,es,ep,e2,c⟩,r⟩:=x;exact⟨ho _ d,z,ne,k _ _ (.inl rfl) e,mA,⟨od,es,ep,k _ _ (.inr d) e2,c⟩,r⟩
 |own y=>obtain⟨ob,e⟩:=x;exact⟨ob,k _ _ (.inl rfl) e⟩
 |xd fs=>obtain⟨mA,⟨od,es,ep,e,c⟩,r⟩:=x;exact⟨mA,⟨od,es,ep,k _ _ (.inl rfl) e,c⟩,r⟩
 |rng lo hi=>obtain⟨t,u,v,e⟩:=x;exact⟨t,u,v,k _ _ (.inl rfl) e⟩
 |frz ob u ih=>obtain⟨e,q⟩:=x;exact⟨k _ _ (.inl rfl) e,ih q⟩
 |tbl ps=>
  have e:h.get? a=some {cls:=.none,data:=.fields ps}:=x;show h'.get? a=some {cls:=.none,data:=.fields ps};exact k a _ (.inl rfl) e
 |met f y=>
  have e:h.get? a=some (Jm (.ref f) (.ref y)):=x;show h'.get? a=some (Jm (.ref f) (.ref y));exact k a _ (.inl rfl) e
 |ext φ=>obtain⟨p,⟨o,e⟩,st⟩:=x;exact⟨st _ _ _ _ p ho k,⟨o,k _ _ (.inl rfl) e⟩,st⟩
theorem jN.lt(x:jN P w H h)(e:H a=some o):a<h.objs.size:=(x a o e).lt
theorem jN.fresh(x:jN P w H h)(e:h.objs.size<=a):H a=none:=by
 cases q:H a with
 |none=>rfl
 |some u=>exact absurd (Hc (x.lt q) e) (He _)
theorem jN.kept(x:jN P w H h)(k:∀b u,h.get? b=some u->h'.get? b=some u):jN P w H h':=λa o e=>
 (x a o e).stay (λb u _ q=>k b u q) (λ_ q=>q) λ_ _ q=>q
theorem jN.laid(x:jN P w H h)(k:∀b u,h.get? b=some u->h'.get? b=some u)(hp:h.objs.size<=a)(new:bL P w (upd H a o) h' a o):jN P w (upd H a o) h':=λb u e=>by
 have hn:=x.fresh hp;by_cases hb:b=a
 ·subst hb;rw[aD]at e;cases e;exact new
 ·rw[ax hb]at e;exact(x b u e).stay (λc v _ q=>k c v q) (λc q=>by rw[ax (aR q hn)];exact q) λc xs q=>by rw[ax (aR q hn)];exact q
end
noncomputable def Rd(H:Hp)(a:Ke)(u:HO):Prop:=H a=some u\/∃o,H a=some (.frz o u)
theorem Rd.ok{P:Kj}{w:Ki}{H:Hp}{h:Kl}{a:Ke}{u:HO}(r:Rd H a u)(x:jN P w H h):bL P w H h a u:=by
 rcases r with r|⟨o,r⟩
 ·exact x a u r
 ·obtain⟨_,q⟩:=x a _ r;exact q
noncomputable def B6:Option HO->Prop
 |some (.lst _)=>True
 |some (.dK _)=>True
 |some (.dT _)=>True
 |some (.set _ _)=>True
 |some (.ins _ _ _)=>True
 |some (.ext _)=>True
 |_=>False
section
variable{P:Kj}{w:Ki}{H:Hp}{h h':Kl}{x e:Ke}{o':HO}
theorem jN.write(ok:jN P w H h)(mu:B6 (H x))(he:e=x\/H e=some (.own x))(k:∀b u,b≠e->h.get? b=some u->h'.get? b=some u)(heo:∃u,h'.get? e=some u)
  (new:bL P w (upd H x o') h' x o'):jN P w (upd H x o') h':=λb u q=>by
 have nown:∀c y,H c=some (.own y)->c≠x:=λc y r z=>by subst z;rw[r]at mu;exact mu
 have ntup:∀c xs,H c=some (.tup xs)->c≠x:=λc xs r z=>by subst z;rw[r]at mu;exact mu
 by_cases hb:b=x
 ·subst hb;rw[aD]at q;cases q;exact new
 ·rw[ax hb]at q;by_cases hbe:b=e
  ·have q':H b=some (.own x):=by
    rcases he with z|z
    ·exact absurd (hbe.trans z) hb
    ·rw[hbe];exact z
   rw[q]at q';cases q';obtain⟨v,hv⟩:=heo;exact⟨v,by rw[hbe];exact hv⟩
  ·refine(ok b u q).stay (λc v hc r=>k c v ?_ r) (λc r=>by rw[ax (nown c b r)];exact r) λc xs r=>by rw[ax (ntup c xs r)];exact r
   rcases hc with rfl|hc
   ·exact hbe
   ·rintro rfl;rcases he with z|z
    ·exact nown c b hc z
    ·rw[hc]at z;cases z;exact hb rfl
end
structure Un(fs ex:ay)(H H':Hp)(h h':Kl):Prop where
 keep:∀b o,h.get? b=some o->H b=none->b∉fs->b∉ex->h'.get? b=some o
 slot:∀b o,h.get? b=some o->H b=none->b∈fs->b∉ex->∃sl,h'.get? b=some {o with slots:=sl}
 free:∀b o,h.get? b=some o->H b=none->b∉ex->H' b=none
 there:∀b o,h.get? b=some o->b∉ex->∃o',h'.get? b=some o'
 tups:∀b xs,H b=some (.tup xs)->H' b=some (.tup xs)
 frzs:∀b o u,H b=some (.frz o u)->H' b=some (.frz o u)
 tbls:∀b ps,H b=some (.tbl ps)->∃more,H' b=some (.tbl (ps++more))
section
variable{fs fs' ex ex':ay}{H H1 H2:Hp}{h h1 h2 h':Kl}{a x e:Ke}{o:HO}
theorem Un.any(u:Un fs ex H H1 h h1){b:Ke}{ob:Obj}(q:h.get? b=some ob)(n:H b=none)(hx:b∉ex):∃sl,h1.get? b=some {ob with slots:=sl}:=by
 by_cases hb:b∈fs
 ·exact u.slot b ob q n hb hx
 ·exact⟨ob.slots,u.keep b ob q n hb hx⟩
theorem Un.kept(k:∀b u,h.get? b=some u->h'.get? b=some u):Un fs ex H H h h':=
 ⟨λb ob q _ _ _=>k b ob q,λb ob q _ _ _=>⟨ob.slots,k b ob q⟩,λ_ _ _ n _=>n,λb ob q _=>⟨ob,k b ob q⟩,λ_ _ q=>q,λ_ _ _ q=>q,λ_ ps q=>⟨#[],by rw[q];simp⟩⟩
theorem Un.refl:Un fs ex H H h h:=Un.kept λ_ _ q=>q
theorem Un.laid(k:∀b u,h.get? b=some u->h'.get? b=some u)(hp:h.objs.size<=a)(hn:H a=none):Un fs ex H (upd H a o) h h' where
 keep:=λb u q _ _ _=>k b u q
 slot:=λb u q _ _ _=>⟨u.slots,k b u q⟩
 free:=λb u q n _=>by rw[ax (Hf (Hc (JV q) hp))];exact n
 there:=λb u q _=>⟨u,k b u q⟩
 tups:=λb xs q=>by rw[ax (aR q hn)];exact q
 frzs:=λb u xs q=>by rw[ax (aR q hn)];exact q
 tbls:=λb ps q=>⟨#[],by rw[ax (aR q hn),q];simp⟩
theorem Un.write(mu:B6 (H x))(he:e=x\/H e=some (.own x))(k:∀b u,b≠e->h.get? b=some u->h'.get? b=some u)(heo:∃u,h'.get? e=some u):Un fs ex H (upd H x o) h h':=by
 have hx:∀b,H b=none->b≠x:=λb n z=>by subst z;rw[n]at mu;exact mu
 have hb:∀b,H b=none->b≠e:=λb n z=>by
  subst z;rcases he with r|r
  ·exact hx b n r
  ·rw[n]at r;cases r
 have hm:∀b u,H b=some u->¬B6 (some u)->b≠x:=λb u q nm z=>by subst z;rw[q]at mu;exact nm mu
 refine⟨λb u q n _ _=>k b u (hb b n) q,λb u q n _ _=>⟨u.slots,k b u (hb b n) q⟩,λb u q n _=>by rw[ax (hx b n)];exact n,λb u q _=>?_,
  λb xs q=>by rw[ax (hm b _ q λz=>z)];exact q,λb u xs q=>by rw[ax (hm b _ q λz=>z)];exact q,λb ps q=>⟨#[],by rw[ax (hm b _ q λz=>z),q];simp⟩⟩
 by_cases hbe:b=e
 ·subst hbe;exact heo
 ·exact⟨u,k b u hbe q⟩
end
noncomputable def DA(h:Kl)(H:Hp):ay:=(List.range h.objs.size).filter λa=>(H a).isSome
noncomputable def j6(h:Kl)(H:Hp):Kl:=PySem.W.hideAll h (DA h H)
theorem sS(h:Kl)(H:Hp):(j6 h H).objs.size=h.objs.size:=PySem.W.hideAll_size _ _
theorem oO{h:Kl}{H:Hp}{b:Ke}{o:Obj}(e:h.get? b=some o)(n:H b=none):(j6 h H).get? b=some o:=
 PySem.W.hideAll_get _ e λhm=>by
  have q:(H b).isSome=true:=(List.mem_filter.mp hm).2;rw[n]at q;simp at q
theorem si{h:Kl}{H:Hp}{b:Ke}{o:Obj}(e:(j6 h H).get? b=some o):h.get? b=some o/\H b=none:=by
 have e':h.get? b=some o:=PySem.W.of_hideAll (DA h H) e;refine⟨e',?_⟩;cases q:H b with
 |none=>rfl
 |some x=>
  have hm:b∈DA h H:=List.mem_filter.mpr ⟨List.mem_range.mpr (JV e'),by simp[q]⟩;have z:(j6 h H).get? b=none:=PySem.W.hideAll_none (DA h H) hm;rw[z]at e;cases e
noncomputable def zb(g h:Kl)(L:Ke):aK:=(List.range h.objs.size).filterMap λa=>if a=L\/(g.get? a).isSome=true then none else(h.get? a).map λo=>(a,o)
noncomputable def rest(g h:Kl)(L d:Ke):aK:=(zb g h L).filter λp=>decide (p.1≠d)
structure Mod(K:Jo)(mg:bj)(base:Kl):Prop where
 kin:K.In base
 glob:base.Ns Kn mg
 blt:∃mb,base.Ns builtinsNs mb/\∀x:Str,x≠"__name__"->mb x=Ko x
 nolimit:base.NoLimit
structure Cx where
 prog:Kj
 w:Ki
 K:Jo
 mg:bj
 base:Kl
 A:Kp
 N:ao
 s₀:Kh
 H₀:Hp
 env:Env
 outer:List Env
 stack:List Env
 ex:ay
 fn:Str->Bool
 calm:Bool
 pn:aK
 xe:bf
noncomputable def frs(l:List Env):ay:=l.filterMap (·.frame)
noncomputable abbrev Cx.fs(X:Cx):ay:=frs X.outer
noncomputable def zZ(sc:Kq)(x:Str):Prop:=sc.names.lookup x=some .local\/sc.names.lookup x=some .cell\/sc.names.lookup x=some .free
noncomputable def Loc(sc:Kq)(x:Str):Prop:=sc.names.lookup x=some .local\/sc.names.lookup x=some .cell
noncomputable def Look(env:Env)(h:Kl)(m:bj)(x:Str)(u:Kc):Prop:=
 (env.kindOf x=some .local/\m x=some u)\/((env.kindOf x=some .cell\/env.kindOf x=some .free)/\∃c,env.cells.lookup x=some c/\h.IsCell c (some u))
structure Cx.Ok(X:Cx):Prop where
 mod:Mod X.K X.mg X.base
 kind:X.env.scope.kind=.function
 glob:X.env.globals=Kn
 blt:X.env.builtins=builtinsNs
 above:X.s₀.heap.objs.size<=X.env.locals
 inj:∀x y c,X.env.cells.lookup x=some c->X.env.cells.lookup y=some c->x=y
 has:∀x,(X.env.kindOf x=some .cell\/X.env.kindOf x=some .free)->∃c,X.env.cells.lookup x=some c
 cab:∀x c,X.fn x=true->X.env.cells.lookup x=some c->X.s₀.heap.objs.size<=c
 hd:X.calm=true->X.A.handled=none
 frames:X.A.frames=some X.stack
 stk:X.stack=X.outer\/(X.stack=X.env::X.outer/\X.env.frame=some X.env.locals)
 exf:∀b∈X.ex,b≠X.env.locals/\∀x c,X.env.cells.lookup x=some c->c≠b
 bs:∀b o,X.base.get? b=some o->X.s₀.heap.get? b=some o/\X.H₀ b=none
 bsz:X.base.objs.size<=X.s₀.heap.objs.size
 noex:∀b o,X.base.get? b=some o->b∉X.ex
 exfs:∀b∈X.ex,b∉X.fs
 funs:X.s₀.heap.FunFrames X.base X.outer
 frf:∀b∈X.fs,X.H₀ b=none
structure Inv(X:Cx)(pins:aK)(σ:List (Option V))(H:Hp)(s:Kh):Prop where
 ok:X.Ok
 os:s.os=X.s₀.os
 bare:AllBare s.gens
 base:Un X.fs X.ex X.H₀ H X.s₀.heap s.heap
 loc:∃m,s.heap.Ns X.env.locals m/\∀(i:Nat)(x:Str)(v:V),X.N[i]?=some x->σ[i]?=some (some v)->zZ X.env.scope x->∃u,RelV v u/\Look X.env s.heap m x u
 cell:∀x c,X.env.cells.lookup x=some c->∃v,s.heap.IsCell c v
 free:H X.env.locals=none
 freeC:∀x c,X.env.cells.lookup x=some c->H c=none
 pin:∀p∈X.pn++pins,s.heap.get? p.1=some p.2/\H p.1=none/\p.1≠X.env.locals/\p.1∉X.fs/\∀v,p.2.data≠.cell v
 hok:jN X.prog X.w H s.heap
 len:σ.length=X.N.length
section
variable{X:Cx}{pins:aK}{σ:List (Option V)}{H H':Hp}{s:Kh}{h':Kl}
theorem Cx.Ok.nofr(ok:X.Ok){b:Ke}{o:Obj}(e:X.base.get? b=some o):b∉X.fs:=λhb=>by
 have:=(ok.funs.mem hb).1
 rw[e]at this;cases this
theorem Inv.bs(I:`g):∀b o,X.base.get? b=some o->s.heap.get? b=some o/\H b=none:=λb o e=>
 ⟨I.base.keep b o (I.ok.bs b o e).1 (I.ok.bs b o e).2 (I.ok.nofr e) (I.ok.noex b o e),I.base.free b o (I.ok.bs b o e).1 (I.ok.bs b o e).2 (I.ok.noex b o e)⟩
theorem Inv.bk(I:`g):∀b o,X.base.get? b=some o->s.heap.get? b=some o:=λb o e=>(I.bs b o e).1
theorem Inv.mod(I:`g):Mod X.K X.mg X.base:=I.ok.mod
theorem Inv.kIn(I:`g):X.K.In s.heap:=I.ok.mod.kin.keeps I.bk
theorem Inv.lt(I:`g):X.env.locals<s.heap.objs.size:=let ⟨_,hn,_⟩:=I.loc;hn.lt
theorem Inv.sz(I:`g):X.s₀.heap.objs.size<=s.heap.objs.size:=Hg I.ok.above (Hh I.lt)
theorem Inv.nofs(I:`g){a:Ke}(h:s.heap.objs.size<=a):a∉X.fs:=λhb=>by
 obtain⟨_,o,ho,_⟩:=I.ok.funs.mem hb;exact absurd (Hc (JV ho) (Hg I.sz h)) (He _)
theorem Inv.cne(I:`g):∀x c,X.env.cells.lookup x=some c->c≠X.env.locals:=λx c e z=>by
 obtain⟨v,o,ho,hd⟩:=I.cell x c e;obtain⟨m,⟨o',es,ep,ho',hd',_⟩,_⟩:=I.loc;rw[z,ho']at ho;cases ho;rw[hd']at hd;cases hd
theorem Inv.funs(I:`g):s.heap.FunFrames X.base X.outer:=by
 have all:∀(l:List Env),(∀b∈frs l,b∈X.fs)->X.s₀.heap.FunFrames X.base l->s.heap.FunFrames X.base l:=by
  intro l
  induction l with
  |nil=>intro _ _;trivial
  |cons env r ih=>
   intro hs hl;obtain⟨hk,⟨L,o,hf,hn,ho,hd⟩,hr⟩:=hl;have hL:L∈X.fs:=hs L (by unfold frs;rw[Hi,hf];exact Hj);obtain⟨sl,e⟩:=I.base.slot L o ho (I.ok.frf L hL) hL λz=>I.ok.exfs L z hL;exact⟨hk,⟨L,_,hf,hn,e,hd⟩,ih (λb hb=>hs b (by unfold frs;rw[Hi,hf];exact Hk _ hb)) hr⟩
 exact all X.outer (λ_ hb=>hb) I.ok.funs
theorem Inv.stack(I:`g):s.heap.FunFrames X.base X.stack:=by
 rcases I.ok.stk with e|⟨e,hf⟩
 ·rw[e];exact I.funs
 ·rw[e];obtain⟨m,hn,_⟩:=I.loc;refine .cons (by rw[I.ok.kind];decide) hf hn ?_ I.funs;exact Heap.get?_none_of_le (Hg I.ok.bsz I.ok.above)
theorem Inv.stkSub(I:`g):∀b∈frs X.stack,b∈X.env.locals::X.fs:=λb hb=>by
 rcases I.ok.stk with e|⟨e,hf⟩
 ·rw[e]at hb;exact Hk _ hb
 ·rw[e]at hb;unfold frs at hb;rw[Hi,hf]at hb;exact hb
theorem Inv.stkFree(I:`g):∀b∈frs X.stack,H b=none:=λb hb=>by
 rcases List.mem_cons.mp (I.stkSub b hb)with e|hb
 ·rw[e];exact I.free
 ·obtain⟨_,o,ho,_⟩:=I.ok.funs.mem hb;exact I.base.free b o ho (I.ok.frf b hb) λz=>I.ok.exfs b z hb
theorem Inv.step{g':Array GenState}{t':Nat}{d':Drawn}{ch:ay}(I:`g)
  (hch:∀b∈ch,(b∈X.ex\/X.s₀.heap.objs.size<=b)/\b≠X.env.locals/\(∀x c,X.env.cells.lookup x=some c->c≠b)/\∀p∈X.pn++pins,p.1≠b)
  (keep:∀b o,b≠X.env.locals->b∉X.fs->b∉ch->s.heap.get? b=some o->H b=none->h'.get? b=some o)
  (slot:∀b o,b≠X.env.locals->b∈X.fs->b∉ch->s.heap.get? b=some o->H b=none->∃sl,h'.get? b=some {o with slots:=sl}) (free:∀b o,b∉ch->s.heap.get? b=some o->H b=none->H' b=none)
  (there:∀b o,b∉ch->s.heap.get? b=some o->∃o',h'.get? b=some o')
  (tups:∀b xs,H b=some (.tup xs)->H' b=some (.tup xs)) (frzs:∀b o u,H b=some (.frz o u)->H' b=some (.frz o u)) (tbls:∀b ps,H b=some (.tbl ps)->∃more,H' b=some (.tbl (ps++more)))
  (ns:∀m,s.heap.Ns X.env.locals m->h'.Ns X.env.locals m) (hok:jN X.prog X.w H' h') (hg:AllBare g'):
  Inv X pins σ H' {s with heap:=h',gens:=g',drawn:=d',toks:=t'}:=by
 have neL:∀b o,X.s₀.heap.get? b=some o->b≠X.env.locals:=λb o e=>Hf (Hc (JV e) I.ok.above);have neC:∀b o,X.s₀.heap.get? b=some o->b∉X.ex->b∉ch:=λb o e hx hb=>by
  rcases(hch b hb).1 with z|z
  ·exact hx z
  ·exact absurd (Hc (JV e) z) (He _)
 have cellK:∀x c,X.env.cells.lookup x=some c->∀v,s.heap.IsCell c v->h'.IsCell c v:=λx c e v zq=>zq.elim λo zq=>zq.elim λho hd=>by
  have nch:c∉ch:=λz=>(hch c z).2.2.1 x c e rfl;by_cases hc:c∈X.fs
  ·obtain⟨sl,q⟩:=slot c o (I.cne x c e) hc nch ho (I.freeC x c e);exact⟨_,q,hd⟩
  ·exact⟨o,keep c o (I.cne x c e) hc nch ho (I.freeC x c e),hd⟩
 refine⟨I.ok,I.os,hg,⟨λb o e n hb hx=>?_,λb o e n hb hx=>?_,λb o e n hx=>?_,λb o e hx=>?_,λb xs e=>tups b xs (I.base.tups b xs e),λb o xs e=>frzs b o xs (I.base.frzs b o xs e),λb ps e=>?_⟩,?_,λx c e=>?_,?_,λx c e=>?_,λp hp=>?_,hok,I.len⟩
 ·exact keep b o (neL b o e) hb (neC b o e hx) (I.base.keep b o e n hb hx) (I.base.free b o e n hx)
 ·obtain⟨sl,e1⟩:=I.base.slot b o e n hb hx;obtain⟨sl',e2⟩:=slot b _ (neL b o e) hb (neC b o e hx) e1 (I.base.free b o e n hx);exact⟨sl',e2⟩
 ·obtain⟨o',e1⟩:=I.base.there b o e hx;exact free b o' (neC b o e hx) e1 (I.base.free b o e n hx)
 ·obtain⟨o',e1⟩:=I.base.there b o e hx;exact there b o' (neC b o e hx) e1
 ·obtain⟨m1,e1⟩:=I.base.tbls b ps e;obtain⟨m2,e2⟩:=tbls b _ e1;exact⟨m1++m2,by rw[e2,Array.append_assoc]⟩
 ·obtain⟨m,hn,hl⟩:=I.loc;refine⟨m,ns m hn,λi x v e1 e2 e3=>?_⟩;obtain⟨u,r,l⟩:=hl i x v e1 e2 e3;refine⟨u,r,?_⟩;rcases l with l|⟨k,c,e,z⟩
  ·exact .inl l
  ·exact .inr ⟨k,c,e,cellK x c e _ z⟩
 ·obtain⟨v,z⟩:=I.cell x c e;exact⟨v,cellK x c e v z⟩
 ·obtain⟨m,⟨o,_,_,ho,_⟩,_⟩:=I.loc;exact free _ o (λz=>(hch _ z).2.1 rfl) ho I.free
 ·obtain⟨v,o,ho,hd⟩:=I.cell x c e;exact free c o (λz=>(hch c z).2.2.1 x c e rfl) ho (I.freeC x c e)
 ·obtain⟨e,n,ne,nf,d⟩:=I.pin p hp;have nch:p.1∉ch:=λz=>(hch p.1 z).2.2.2 p hp rfl;exact⟨keep p.1 p.2 ne nf nch e n,free p.1 p.2 nch e n,ne,nf,d⟩
theorem Inv.un{t':Nat}(I:`g)(u:Un X.fs [] H H' s.heap h')(hok:jN X.prog X.w H' h'):Inv X pins σ H' {s with heap:=h',toks:=t'}:=by
 obtain⟨m,⟨o,es,ep,ho,r⟩,_⟩:=id I.loc;obtain⟨sl,hL⟩:=u.any ho I.free `h;exact I.step (g':=s.gens) (d':=s.drawn) (ch:=[]) (λ_ z=>nomatch z) (λb o _ hb _ e n=>u.keep b o e n hb `h) (λb o _ hb _ e n=>u.slot b o e n hb `h) (λb o _ e n=>u.free b o e n `h) (λb o _ e=>u.there b o e `h) u.tups u.frzs u.tbls (λm' hm=>by
  obtain⟨o',es',ep',ho',r'⟩:=hm;rw[ho]at ho';cases ho';exact⟨_,es',ep',hL,r'⟩) hok I.bare
theorem Inv.call{g':Array GenState}{t':Nat}{d':Drawn}{ch:ay}(I:`g)(u:Un (frs X.stack) ch H H' s.heap h')(hok:jN X.prog X.w H' h')(hg:AllBare g')
  (hch:∀b∈ch,(b∈X.ex\/X.s₀.heap.objs.size<=b)/\b≠X.env.locals/\(∀x c,X.env.cells.lookup x=some c->c≠b)/\∀p∈X.pn++pins,p.1≠b):
  Inv X pins σ H' {s with heap:=h',gens:=g',drawn:=d',toks:=t'}:=by
 obtain⟨m,⟨o,es,ep,ho,r⟩,_⟩:=id I.loc;obtain⟨sl,hL⟩:=u.any ho I.free λz=>(hch _ z).2.1 rfl;exact I.step (ch:=ch) hch (λb o hL hb hc e n=>u.keep b o e n (λz=>(List.mem_cons.mp (I.stkSub b z)).elim hL hb) hc) (λb o _ _ hc e n=>u.any e n hc) (λb o hc e n=>u.free b o e n hc) (λb o hc e=>u.there b o e hc) u.tups u.frzs u.tbls (λm' hm=>by
  obtain⟨o',es',ep',ho',r'⟩:=hm;rw[ho]at ho';cases ho';exact⟨_,es',ep',hL,r'⟩) hok hg
theorem Inv.turned{t':Nat}{it:Ke}(I:`g)(k:∀b o,b≠it->s.heap.get? b=some o->h'.get? b=some o)(hn:H it=none)(hL:it≠X.env.locals)
  (h1:it∈X.ex\/X.s₀.heap.objs.size<=it) (h2:∀x c,X.env.cells.lookup x=some c->c≠it) (h3:∀p∈X.pn++pins,p.1≠it):Inv X pins σ H {s with heap:=h',toks:=t'}:=by
 have nit:∀b u,H b=some u->b≠it:=λb u e z=>by rw[z,hn]at e;cases e
 refine I.step (g':=s.gens) (d':=s.drawn) (ch:=[it]) (λb hb=>?_) (λb o _ _ hc e _=>k b o (λz=>hc (by simp[z])) e) (λb o _ _ hc e _=>⟨o.slots,k b o (λz=>hc (by simp[z])) e⟩) (λ_ _ _ _ n=>n)
  (λb o hc e=>⟨o,k b o (λz=>hc (by simp[z])) e⟩) (λ_ _ e=>e) (λ_ _ _ e=>e) (λb ps e=>⟨#[],by rw[e];simp⟩) (λm hm=>?_) (λb u e=>?_) I.bare
 ·have e:b=it:=by simpa using hb
  subst e;exact⟨h1,hL,h2,h3⟩
 ·obtain⟨o,es,ep,ho,r⟩:=hm;exact⟨o,es,ep,k _ o (Ne.symm hL) ho,r⟩
 ·refine(I.hok b u e).stay (λc v hc q=>k c v ?_ q) (λ_ q=>q) λ_ _ q=>q;rcases hc with z|z
  ·rw[z];exact nit b u e
  ·exact nit c _ z
theorem Inv.tok(I:`g)(t:Nat):Inv X pins σ H {s with toks:=t}:=I.un (h':=s.heap) (t':=t) Un.refl I.hok
theorem Inv.kept{t':Nat}(I:`g)(k:∀b u,s.heap.get? b=some u->h'.get? b=some u):Inv X pins σ H {s with heap:=h',toks:=t'}:=I.un (Un.kept k) (I.hok.kept k)
theorem Inv.laid{a:Ke}{o:HO}{t':Nat}(I:`g)(k:∀b u,s.heap.get? b=some u->h'.get? b=some u)(hp:s.heap.objs.size<=a)(new:bL X.prog X.w (upd H a o) h' a o):
  Inv X pins σ (upd H a o) {s with heap:=h',toks:=t'}:=I.un (Un.laid k hp (I.hok.fresh hp)) (I.hok.laid k hp new)
theorem Inv.write{x e:Ke}{o:HO}{t':Nat}(I:`g)(mu:B6 (H x))(he:e=x\/H e=some (.own x))(k:∀b u,b≠e->s.heap.get? b=some u->h'.get? b=some u)(heo:∃u,h'.get? e=some u)
  (new:bL X.prog X.w (upd H x o) h' x o):Inv X pins σ (upd H x o) {s with heap:=h',toks:=t'}:=I.un (Un.write mu he k heo) (I.hok.write mu he k heo new)
theorem Inv.pins_of{pins':aK}(I:`g)(h:∀p∈pins',s.heap.get? p.1=some p.2/\H p.1=none/\p.1≠X.env.locals/\p.1∉X.fs/\∀v,p.2.data≠.cell v):Inv X pins' σ H s:=
 ⟨I.ok,I.os,I.bare,I.base,I.loc,I.cell,I.free,I.freeC,λp hp=>(List.mem_append.mp hp).elim (λz=>I.pin p (Hl _ z)) (h p),I.hok,I.len⟩
theorem pc{N:ao}(hN:N.Nodup){i j:Nat}{x:Str}(a:N[i]?=some x)(b:N[j]?=some x):i=j:=by
 obtain⟨h1,e1⟩:=List.getElem?_eq_some_iff.mp a;obtain⟨h2,e2⟩:=List.getElem?_eq_some_iff.mp b;exact(Hm hN).mp (e1.trans e2.symm)
theorem nu{M:Kr}{A:Kp}{E:bf}{i:Nat}{x:Str}{v:V}{u:Kc}{Q:Unit->gq}(I:`g)(hN:X.N.Nodup)(hi:X.N[i]?=some x)(hx:Loc X.env.scope x)(r:RelV v u)
  (h:∀s',Inv X pins (σ.set i (some v)) H s'->(∃a,JW a s.heap s'.heap/\(a=X.env.locals\/X.env.cells.lookup x=some a))->Q () s') (hf:X.fn x=true\/X.env.scope.names.lookup x=some .local:=by first|exact .inl rfl|exact .inr rfl|assumption):Kt M A (storeName X.env x u) Q E s:=by
 obtain⟨m,hn,hl⟩:=id I.loc;have hcls:(X.env.scope.kind==.class||(X.env.scope.kind==.module&&X.env.locals !=X.env.globals))=false:=by rw[I.ok.kind];rfl
 have hiσ:i<σ.length:=by rw[I.len];exact(List.getElem?_eq_some_iff.mp hi).1
 have cne:=I.cne;have tracked:∀{a:Ke}{h':Kl},(∃o,s.heap.get? a=some o/\H a=none)->JW a s.heap h'->jN X.prog X.w H h':=λ{a h'} ha hs b ob e=>by
  obtain⟨_,_,hfree⟩:=ha;refine(I.hok b ob e).stay (λc w' hc q=>(hs.2 c ?_).trans q) (λ_ q=>q) λ_ _ q=>q;rintro rfl;rcases hc with rfl|hc
  ·rw[hfree]at e;cases e
  ·rw[hfree]at hc;cases hc
 rcases hx with hk|hk
 ·refine wpAny_storeName_local hk hn (λh' hn' hs=>?_) hcls;obtain⟨oL,_,_,hoL,_⟩:=id hn;refine h _ ⟨I.ok,I.os,I.bare,⟨λb o e n hb hx=>?_,λb o e n hb hx=>?_,I.base.free,λb o e hx=>?_,I.base.tups,I.base.frzs,I.base.tbls⟩,⟨_,hn',λj y v' e1 e2 e3=>?_⟩,λy c e=>?_,I.free,I.freeC,λp hp=>?_,tracked ⟨oL,hoL,I.free⟩ hs,by simpa using I.len⟩ ⟨_,hs,.inl rfl⟩
  ·exact(hs.2 b (Hf (Hc (JV e) I.ok.above))).trans (I.base.keep b o e n hb hx)
  ·obtain⟨sl,e1⟩:=I.base.slot b o e n hb hx;exact⟨sl,(hs.2 b (Hf (Hc (JV e) I.ok.above))).trans e1⟩
  ·obtain⟨o',e1⟩:=I.base.there b o e hx;exact⟨o',(hs.2 b (Hf (Hc (JV e) I.ok.above))).trans e1⟩
  ·by_cases hj:j=i
   ·subst hj;rw[hi]at e1;cases e1;rw[Ho hiσ]at e2;cases e2;exact⟨u,r,.inl ⟨hk,by simp⟩⟩
   ·rw[Hq (Ne.symm hj)]at e2;obtain⟨u',r',q⟩:=hl j y v' e1 e2 e3;refine⟨u',r',?_⟩;rcases q with⟨k,e⟩|⟨k,c,e,z⟩
    ·refine .inl ⟨k,?_⟩
     have:y≠x:=λe=>hj (pc hN e1 (e ▸ hi))
     simp[this,e]
    ·exact .inr ⟨k,c,e,z.sameBut hs (cne y c e)⟩
  ·obtain⟨w',z⟩:=I.cell y c e;exact⟨w',z.sameBut hs (cne y c e)⟩
  ·obtain⟨e,n,ne,nf,d⟩:=I.pin p hp;exact⟨(hs.2 p.1 ne).trans e,n,ne,nf,d⟩
 ·have hfn:X.fn x=true:=by
   rcases hf with z|z
   ·exact z
   ·rw[z]at hk;cases hk
  obtain⟨c,hc⟩:=I.ok.has x (.inl hk);obtain⟨w',z⟩:=I.cell x c hc;refine wpAny_storeName_cell I.ok.kind hk hc z (λh' hc' hs=>?_);obtain⟨oc,hoc,hocd⟩:=id z;refine h {s with heap:=h'} ⟨I.ok,I.os,I.bare,⟨λb o e n hb hx=>?_,λb o e n hb hx=>?_,I.base.free,λb o e hx=>?_,I.base.tups,I.base.frzs,I.base.tbls⟩,⟨m,hn.sameBut hs (Ne.symm (cne x c hc)),λj y v' e1 e2 e3=>?_⟩,λy c' e=>?_,I.free,I.freeC,λp hp=>?_,tracked ⟨oc,hoc,I.freeC x c hc⟩ hs,by simpa using I.len⟩ ⟨c,hs,.inr hc⟩
  ·exact(hs.2 b (Hf (Hc (JV e) (I.ok.cab x c hfn hc)))).trans (I.base.keep b o e n hb hx)
  ·obtain⟨sl,e1⟩:=I.base.slot b o e n hb hx;exact⟨sl,(hs.2 b (Hf (Hc (JV e) (I.ok.cab x c hfn hc)))).trans e1⟩
  ·obtain⟨o',e1⟩:=I.base.there b o e hx;exact⟨o',(hs.2 b (Hf (Hc (JV e) (I.ok.cab x c hfn hc)))).trans e1⟩
  ·by_cases hj:j=i
   ·subst hj;rw[hi]at e1;cases e1;rw[Ho hiσ]at e2;cases e2;exact⟨u,r,.inr ⟨.inl hk,c,hc,hc'⟩⟩
   ·rw[Hq (Ne.symm hj)]at e2;obtain⟨u',r',q⟩:=hl j y v' e1 e2 e3;refine⟨u',r',?_⟩;rcases q with q|⟨k,c',e,z'⟩
    ·exact .inl q
    ·refine .inr ⟨k,c',e,z'.sameBut hs ?_⟩;rintro rfl;exact hj (pc hN e1 (I.ok.inj _ _ _ e hc ▸ hi))
  ·by_cases hcc:c'=c
   ·subst hcc;exact⟨_,hc'⟩
   ·obtain⟨w2,z2⟩:=I.cell y c' e;exact⟨w2,z2.sameBut hs hcc⟩
  ·obtain⟨e,n,ne,nf,d⟩:=I.pin p hp;refine⟨(hs.2 p.1 ?_).trans e,n,ne,nf,d⟩;intro q;rw[q,hoc]at e;have q':oc=p.2:=Option.some.inj e;exact d w' (by rw[<-q'];exact hocd)
theorem lN{M:Kr}{A:Kp}{E:bf}{i:Nat}{x:Str}{v:V}{u:Kc}{Q:Unit->gq}(I:`g)(hN:X.N.Nodup)(hi:X.N[i]?=some x)(hx:Loc X.env.scope x)(r:RelV v u)
  (h:∀s',Inv X pins (σ.set i (some v)) H s'->Q () s') (hf:X.fn x=true\/X.env.scope.names.lookup x=some .local:=by first|exact .inl rfl|exact .inr rfl|assumption):Kt M A (storeName X.env x u) Q E s:=
 nu I hN hi hx r (λs' I' _=>h s' I') hf
theorem Inv.call'{s':Kh}{ch:ay}(I:`g)(ho:s'.os=s.os)(u:Un (frs X.stack) ch H H' s.heap s'.heap)(hok:jN X.prog X.w H' s'.heap)(hg:AllBare s'.gens)
  (hch:∀b∈ch,(b∈X.ex\/X.s₀.heap.objs.size<=b)/\b≠X.env.locals/\(∀x c,X.env.cells.lookup x=some c->c≠b)/\∀p∈X.pn++pins,p.1≠b):Inv X pins σ H' s':=by
 obtain⟨h',g',d',t',o'⟩:=s';have e:o'=s.os:=ho;subst e;exact I.call (g':=g') (t':=t') (d':=d') u hok hg hch
end
noncomputable abbrev XK:=Kc->Option Ke->Hp->Prop
noncomputable abbrev St:=List (Option V)
noncomputable abbrev VK:=V->Hp->Prop
noncomputable abbrev TE:=St->Hp->VK->Prop
noncomputable abbrev TT:=St->Hp->(Bool->Hp->Prop)->Prop
noncomputable abbrev TA:=St->Hp->(az->Hp->Prop)->Prop
structure Ends where
 nx:St->Hp->Prop
 rt:VK
 bk:St->Hp->Prop:=λ_ _=>False
 ct:St->Hp->Prop:=λ_ _=>False
noncomputable abbrev TS:=Ends->St->Hp->Prop
noncomputable def EP(X:Cx)(pins:aK)(σ:St)(Q:VK)(u:Kc)(s':Kh):Prop:=∃v H',Inv X pins σ H' s'/\RelV v u/\Q v H'
noncomputable def TP(X:Cx)(pins:aK)(σ:St)(Q:Bool->Hp->Prop)(b:Bool)(s':Kh):Prop:=∃H',Inv X pins σ H' s'/\Q b H'
noncomputable def AP(X:Cx)(pins:aK)(σ:St)(Q:az->Hp->Prop)(us:aP)(s':Kh):Prop:=∃vs H',Inv X pins σ H' s'/\Vals vs us/\Q vs H'
noncomputable def SP(X:Cx)(pins:aK)(D:Ends)(f:Flow)(s':Kh):Prop:=
 match f with
 |.next=>∃σ' H',Inv X pins σ' H' s'/\D.nx σ' H'
 |.brk=>∃σ' H',Inv X pins σ' H' s'/\D.bk σ' H'
 |.cont=>∃σ' H',Inv X pins σ' H' s'/\D.ct σ' H'
 |.ret u=>∃v σ' H',Inv X pins σ' H' s'/\RelV v u/\D.rt v H'
noncomputable def PE(X:Cx)(e:Kf)(t:TE):Prop:=
 ∀(pins:aK)(s:Kh)(σ:St)(H:Hp)(Q:VK),Inv X pins σ H s->t σ H Q->Kt `i X.A (eval e X.env) (EP X pins σ Q) X.xe s
noncomputable def PT(X:Cx)(e:Kf)(t:TT):Prop:=
 ∀(pins:aK)(s:Kh)(σ:St)(H:Hp)(Q:Bool->Hp->Prop),Inv X pins σ H s->t σ H Q->Kt `i X.A (isTrue e X.env (eval e X.env)) (TP X pins σ Q) X.xe s
noncomputable def PW(X:Cx)(e:Kf)(t:TT):Prop:=
 ∀(whole:Sem Kc)(pins:aK)(s:Kh)(σ:St)(H:Hp)(Q:Bool->Hp->Prop),Inv X pins σ H s->t σ H Q->Kt `i X.A (isTrue e X.env whole) (TP X pins σ Q) X.xe s
theorem PW.pt{X:Cx}{e:Kf}{t:TT}(h:PW X e t):PT X e t:=h _
noncomputable def PA(X:Cx)(es:aX)(t:TA):Prop:=
 ∀(pos:Pos)(pins:aK)(s:Kh)(σ:St)(H:Hp)(Q:az->Hp->Prop),Inv X pins σ H s->t σ H Q->Kt `i X.A (spliced (backTo pos (Ku es X.env))) (AP X pins σ Q) X.xe s
noncomputable def PS(X:Cx)(st:Kg)(t:TS):Prop:=
 ∀(pins:aK)(s:Kh)(σ:St)(H:Hp)(D:Ends),Inv X pins σ H s->t D σ H->Kt `i X.A (exec st X.env) (SP X pins D) X.xe s
noncomputable def oM(X:Cx)(st:b7)(t:TS):Prop:=
 ∀(pins:aK)(s:Kh)(σ:St)(H:Hp)(D:Ends),Inv X pins σ H s->t D σ H->Kt `i X.A (execs st X.env) (SP X pins D) X.xe s
theorem b9{α:Type}{t:Sem α}{Q Q':α->gq}{M:Kr}{A:Kp}{E:bf}{s:Kh}(h:Kt M A t Q E s)(hQ:∀a s,Q a s->Q' a s):Kt M A t Q' E s:=Kv h hQ λ_ _ x=>x
section
variable{X:Cx}
noncomputable def n5(i:Nat):TE:=λσ H Q=>∃v,σ[i]?=some (some v)/\Q v H
noncomputable def tC(v:V):TE:=λ_ H Q=>Q v H
theorem Av{i:Nat}{x:Str}{pos:Pos}(hN:X.N[i]?=some x)(hv:zZ X.env.scope x)(hd:(x==("__debug__":Str))=false:=by decide)(hcd:(x==("__classdict__":Str))=false:=by decide):PE X (.Name x pos) (n5 i):=by
 intro pins s σ H Q I h;obtain⟨v,e,h⟩:=h;obtain⟨m,hn,hl⟩:=I.loc;obtain⟨u,r,l⟩:=hl i x v hN e hv;have fin:EP X pins σ Q u s:=⟨v,H,I,r,h⟩
 rcases l with⟨hk,hm⟩|⟨hk,c,hc,hcell⟩
 ·exact wpAny_Name (wpAny_loadName_local I.ok.kind hk hn hm fin) hd
 ·rcases hk with hk|hk
  ·exact wpAny_Name (wpAny_loadName_cell I.ok.kind hk hc hcell fin) hd
  ·exact wpAny_Name (wpAny_loadName_free I.ok.kind hk hc hcell fin hcd) hd
theorem Be{i j pos}:PE X (.Constant (.int i) j pos) (tC (.int i)):=λ_ _ _ H _ I h=>wpAny_Constant_int ⟨.int i,H,I.tok _,⟨_,rfl⟩,h⟩
theorem C6{b j pos}:PE X (.Constant (.bool b) j pos) (tC (.bl b)):=λ_ _ _ H _ I h=>Constant_bool ⟨.bl b,H,I,rfl,h⟩
theorem zS{x j pos}:PE X (.Constant (.str x) j pos) (tC (.str x)):=λ_ _ _ H _ I h=>Calls.Constant_str ⟨.str x,H,I.tok _,⟨_,rfl⟩,h⟩
noncomputable def Gl(X:Cx)(x:Str):Prop:=X.env.kindOf x=some .globalImplicit
theorem jh{E:bf}{pins:aK}{s:Kh}{σ:St}{H:Hp}{x:Str}{u:Kc}{pos:Pos}{Q:bf}(I:`g)(hg:Gl X x)(hm:X.mg x=some u)(h:Q u s)
  (hd:(x==("__debug__":Str))=false:=by decide):Kt `i X.A (eval (.Name x pos) X.env) Q E s:=
 Calls.Name_function_global I.ok.kind hg (Calls.loadGlobal_global (by rw[I.ok.glob];exact I.mod.glob.keeps I.bk) hm h) hd
theorem lu{E:bf}{pins:aK}{s:Kh}{σ:St}{H:Hp}{x:Str}{u:Kc}{pos:Pos}{Q:bf}(I:`g)(hg:Gl X x)(hm:X.mg x=none)(hv:Ko x=some u)(h:Q u s)
  (hn:x≠"__name__":=by decide) (hd:(x==("__debug__":Str))=false:=by decide):Kt `i X.A (eval (.Name x pos) X.env) Q E s:=by
 obtain⟨mb,h1,h2⟩:=I.mod.blt;exact Calls.Name_function_global I.ok.kind hg (Calls.loadGlobal_builtin (by rw[I.ok.glob];exact I.mod.glob.keeps I.bk) hm (by rw[I.ok.blt];exact h1.keeps I.bk) ((h2 x hn).trans hv) h) hd
theorem sE{x:Str}{v:V}{u:Kc}{pos:Pos}(hg:Gl X x)(hm:X.mg x=some u)(r:RelV v u)(hd:(x==("__debug__":Str))=false:=by decide):PE X (.Name x pos) (tC v):=
 λ_ _ _ H _ I h=>jh I hg hm ⟨v,H,I,r,h⟩ hd
theorem n8{x:Str}{v:V}{u:Kc}{pos:Pos}(hg:Gl X x)(hm:X.mg x=none)(hv:Ko x=some u)(r:RelV v u)(hn:x≠"__name__":=by decide)(hd:(x==("__debug__":Str))=false:=by decide):PE X (.Name x pos) (tC v):=
 λ_ _ _ H _ I h=>lu I hg hm hv ⟨v,H,I,r,h⟩ hn hd
variable{a b:Kf}{ta tb:TE}{pos:Pos}
variable{tA tB':TT}{rest:aX}
noncomputable def GC(t u:TT):TT:=λσ H Q=>t σ H λc H1=>if c=true then Q true H1 else u σ H1 Q
noncomputable def DV(t:TT):TT:=λσ H Q=>t σ H λc H1=>Q (!c) H1
theorem z9(ha:PT X a tA):PW X (.BoolOp .Or [a] pos) tA:=by
 intro wh pins s σ H Q I h;refine isTrue_or (b9 (ha pins s σ H Q I h) λc s1 e=>?_);cases c with
 |false=>exact isTrue_or_nil e
 |true=>exact e
theorem CC(ha:PT X a tA)(hb:PW X (.BoolOp .Or (b::rest) pos) tB'):PW X (.BoolOp .Or (a::b::rest) pos) (GC tA tB'):=by
 intro wh pins s σ H Q I h;refine isTrue_or (b9 (ha pins s σ H _ I h) λc s1 zq=>zq.elim λH1 zq=>zq.elim λI1 q1=>?_);cases c with
 |true=>exact⟨H1,I1,q1⟩
 |false=>exact hb wh pins s1 σ H1 Q I1 q1
theorem AZ(ha:PT X a tA):PT X (.UnaryOp .Not a pos) (DV tA):=by
 intro pins s σ H Q I h;exact isTrue_not (ha pins s σ H (λc H1=>Q (!c) H1) I h)
noncomputable def Cy(ta tb:TE):TE:=λσ H Q=>ta σ H λx H1=>∃c,x=.bl c/\if c=true then tb σ H1 Q else Q (.bl false) H1
theorem Bj{op}{t:TE}(h:PE X a t):PE X (.BoolOp op [a] pos) t:=λpins s σ H Q I hw=>BoolOp_one (h pins s σ H Q I hw)
theorem Ak(ha:PE X a ta)(hb:PE X (.BoolOp .And (b::rest) pos) tb):PE X (.BoolOp .And (a::b::rest) pos) (Cy ta tb):=by
 intro pins s σ H Q I h;refine BoolOp_and (b9 (ha pins s σ H _ I h) λv s1 zq=>zq.elim λx zq=>zq.elim λH1 zq=>zq.elim λI1 zq=>zq.elim λr1 q1=>?_);obtain⟨c,rfl,q1⟩:=q1;cases r1;refine Kw ?_;cases c with
 |true=>exact hb pins s1 σ H1 Q I1 q1
 |false=>exact⟨.bl false,H1,I1,rfl,q1⟩
end
noncomputable def iW(K:Jo)(H:Hp)(a:Ke)(xs:az):Prop:=
 Rd H a (.lst xs) \/
  ∃(o:Obj)(its:Array Kc)(n:Nat),K.lookup a=some o/\o.cls=.type "list"/\o.dict=none/\o.data=.seq its n/\its.size<=Km/\Vals xs its.toList
noncomputable def kq(K:Jo)(H:Hp)(a:Ke)(xs:az):Prop:=
 Rd H a (.tup xs) \/
  ∃(o:Obj)(its:Array Kc)(n:Nat),K.lookup a=some o/\o.cls=.type "tuple"/\o.data=.seq its n/\its.size<=Km/\Vals xs its.toList
noncomputable def Fj:Kc->Option V
 |.none=>some .non
 |.bool b=>some (.bl b)
 |.int i _=>some (.int i)
 |.str x _=>some (.str x)
 |.bytes b _=>some (.byt b)
 |.float b _=>some (.flt b)
 |.ref a=>some (.ref a)
 |.type n=>some (.ty n)
 |_=>none
theorem RelV.abs{x:V}{u:Kc}(r:RelV x u):Fj u=some x:=by
 cases x with
 |non=>cases r;rfl
 |bl _=>cases r;rfl
 |int _=>obtain⟨t,rfl⟩:=r;rfl
 |str _=>obtain⟨t,rfl⟩:=r;rfl
 |byt _=>obtain⟨t,rfl⟩:=r;rfl
 |flt _=>obtain⟨t,rfl⟩:=r;rfl
 |ref _=>cases r;rfl
 |ty _=>cases r;rfl
theorem RelV.inj{x y:V}{u:Kc}(r:RelV x u)(q:RelV y u):x=y:=Option.some.inj (r.abs.symm.trans q.abs)
theorem Vals.inj{xs ys:az}{us:aP}(h:Vals xs us)(h':Vals ys us):xs=ys:=by
 induction h generalizing ys with
 |nil=>cases h';rfl
 |cons r _ ih=>
  cases h' with|cons r' t'=>
  rw[RelV.inj r r',ih t']
section
variable{X:Cx}{pins:aK}{σ:St}{H:Hp}{s:Kh}{a:Ke}{xs ys:az}
theorem iW.of{K:Jo}(h:H a=some (.lst xs)):iW K H a xs:=.inl (.inl h)
theorem kq.of{K:Jo}(h:H a=some (.tup xs)):kq K H a xs:=.inl (.inl h)
theorem Inv.list(I:`g)(h:iW X.K H a xs):∃its:aP,Vals xs its/\PlainL s.heap a its.toArray/\xs.length<=Km:=by
 rcases h with h|⟨o,its,n,hk,hc,hd,hs,hz,r⟩
 ·obtain⟨z,its,n,r,e⟩:=h.ok I.hok;exact⟨its,r,⟨_,n,e,rfl,rfl,rfl⟩,z⟩
 ·refine⟨its.toList,r,⟨o,n,I.kIn a o hk,hc,hd,by simpa using hs⟩,?_⟩;have e:=r.length;simp only[Array.length_toList]at e;omega
theorem Inv.tuple(I:`g)(h:kq X.K H a xs):∃its:aP,Vals xs its/\IsTup s.heap a its.toArray/\xs.length<=Km:=by
 rcases h with h|⟨o,its,n,hk,hc,hs,hz,r⟩
 ·obtain⟨z,its,r,p⟩:=h.ok I.hok;exact⟨its,r,p,z⟩
 ·refine⟨its.toList,r,⟨o,I.kIn a o hk,hc,n,by simpa using hs⟩,?_⟩;have e:=r.length;simp only[Array.length_toList]at e;omega
theorem Inv.list_inj(I:`g)(h:iW X.K H a xs)(h':iW X.K H a ys):xs=ys:=by
 obtain⟨its,r,⟨o,n,e,_,_,d⟩,_⟩:=I.list h;obtain⟨its',r',⟨o',n',e',_,_,d'⟩,_⟩:=I.list h';rw[e]at e';cases e';rw[d]at d';injection d' with d1 _
 have:its=its':=by simpa using congrArg Array.toList d1
 subst this;exact r.inj r'
theorem Inv.tuple_inj(I:`g)(h:kq X.K H a xs)(h':kq X.K H a ys):xs=ys:=by
 obtain⟨its,r,⟨o,e,_,n,d⟩,_⟩:=I.tuple h;obtain⟨its',r',⟨o',e',_,n',d'⟩,_⟩:=I.tuple h';rw[e]at e';cases e';rw[d]at d';injection d' with d1 _
 have:its=its':=by simpa using congrArg Array.toList d1
 subst this;exact r.inj r'
end
noncomputable abbrev Cx.wish(X:Cx)(E:bf):Cx:={X with xe:=E}
noncomputable abbrev Cx.nox(X:Cx):Cx:=X.wish λ_ _=>False
theorem Cx.Ok.wish{X:Cx}(ok:X.Ok)(E:bf):(X.wish E).Ok:=
 ⟨ok.mod,ok.kind,ok.glob,ok.blt,ok.above,ok.inj,ok.has,ok.cab,ok.hd,ok.frames,ok.stk,ok.exf,ok.bs,ok.bsz,ok.noex,ok.exfs,ok.funs,ok.frf⟩
theorem Cx.Ok.unwish{X:Cx}{E:bf}(ok:(X.wish E).Ok):X.Ok:=
 ⟨ok.mod,ok.kind,ok.glob,ok.blt,ok.above,ok.inj,ok.has,ok.cab,ok.hd,ok.frames,ok.stk,ok.exf,ok.bs,ok.bsz,ok.noex,ok.exfs,ok.funs,ok.frf⟩
section
variable{X:Cx}{pins:aK}{σ:St}{H:Hp}{s:Kh}{E:bf}
theorem Inv.wish(I:`g)(E:bf):Inv (X.wish E) pins σ H s:=⟨I.ok.wish E,I.os,I.bare,I.base,I.loc,I.cell,I.free,I.freeC,I.pin,I.hok,I.len⟩
theorem Inv.unwish(I:Inv (X.wish E) pins σ H s):Inv X pins σ H s:=⟨I.ok.unwish,I.os,I.bare,I.base,I.loc,I.cell,I.free,I.freeC,I.pin,I.hok,I.len⟩
theorem SP.unwish{D:Ends}{f:Flow}{s':Kh}(h:SP (X.wish E) pins D f s'):SP X pins D f s':=by
 cases f with
 |next=>obtain⟨σ',H',I,q⟩:=h;exact⟨σ',H',I.unwish,q⟩
 |brk=>obtain⟨σ',H',I,q⟩:=h;exact⟨σ',H',I.unwish,q⟩
 |cont=>obtain⟨σ',H',I,q⟩:=h;exact⟨σ',H',I.unwish,q⟩
 |ret u=>obtain⟨v,σ',H',I,r,q⟩:=h;exact⟨v,σ',H',I.unwish,r,q⟩
theorem oM.nox{st:b7}{t:TS}(h:oM X.nox st t):oM X st t:=λpins s σ H D I hw=>
 Kv (h pins s σ H D (I.wish _) hw) (λ_ _ q=>q.unwish) λ_ _ z=>False.elim z
end
section
variable{X:Cx}{st:Kg}{rest:b7}{t u:TS}{e:Kf}{te:TE}{pos:Pos}
noncomputable def vD:TS:=λD σ H=>D.nx σ H
noncomputable def EY(t u:TS):TS:=λD σ H=>t {D with nx:=u D} σ H
theorem rj:oM X [] vD:=λ_ _ σ H _ I h=>Kx ⟨σ,H,I,h⟩
theorem lJ(h1:PS X st t)(h2:oM X rest u):oM X (st::rest) (EY t u):=by
 intro pins s σ H D I h;refine wpAny_execs_cons (b9 (h1 pins s σ H {D with nx:=u D} I h) λf s1 q=>?_);cases f with
 |next=>
  obtain⟨σ',H',I',q⟩:=q;exact h2 pins s1 σ' H' D I' q
 |ret v=>exact q
 |brk=>exact q
 |cont=>exact q
theorem kN(h1:PS X st t):oM X [st] t:=by
 intro pins s σ H D I h;refine wpAny_execs_cons (b9 (h1 pins s σ H D I h) λf s1 q=>?_);cases f with
 |next=>exact Kx q
 |ret v=>exact q
 |brk=>exact q
 |cont=>exact q
theorem zf:PS X (.Pass pos) vD:=λ_ _ σ H _ I h=>wpAny_Pass ⟨σ,H,I,h⟩
theorem Inv.quiet{pins:aK}{σ:St}{H:Hp}{s:Kh}(I:`g):interactive X.env=false:=by simp[interactive,I.ok.kind]
theorem zY{x j pos pos'}:PS X (.Expr (.Constant (.str x) j pos) pos') vD:=λ_ s σ H _ I h=>wpAny_Expr (Calls.Constant_str (show SP X _ _ .next {s with toks:=s.toks+1}from⟨σ,H,I.tok _,h⟩)) I.quiet
noncomputable def B3(te:TE):TS:=λD σ H=>te σ H λ_ H1=>D.nx σ H1
theorem rB(he:PE X e te)(hs:swapsWith e none pos.line X.env=pure false:=by rfl):PS X (.Expr e pos) (B3 te):=by
 intro pins s σ H D I h;exact wpAny_Expr_any (b9 (he pins s σ H _ I h) λv s1 zq=>zq.elim λx zq=>zq.elim λH1 zq=>zq.elim λI1 zq=>zq.elim λr1 q1=>⟨σ,H1,I1,q1⟩) I.quiet hs
noncomputable def Ef(te:TE):TS:=λD σ H=>te σ H D.rt
theorem qp(he:PE X e te):PS X (.Return (some e) pos) (Ef te):=by
 intro pins s σ H D I h;exact wpAny_Return_some (b9 (he pins s σ H _ I h) λv s1 zq=>zq.elim λx zq=>zq.elim λH1 zq=>zq.elim λI1 zq=>zq.elim λr1 q1=>⟨x,σ,H1,I1,r1,q1⟩)
noncomputable def E6(c:TT)(t u:TS):TS:=λD σ H=>c σ H λb H1=>if b=true then t D σ H1 else u D σ H1
theorem B7{c:Kf}{a b:b7}{tc:TT}(hc:PT X c tc)(ha:oM X a t)(hb:oM X b u):PS X (.If c a b pos) (E6 tc t u):=by
 intro pins s σ H D I h;refine wpAny_If (b9 (hc pins s σ H _ I h) λd s1 zq=>zq.elim λH1 zq=>zq.elim λI1 q1=>?_);cases d with
 |true=>exact ha pins s1 σ H1 D I1 q1
 |false=>exact hb pins s1 σ H1 D I1 q1
end
noncomputable abbrev TG:=V->St->Hp->(St->Hp->Prop)->Prop
noncomputable abbrev zI:=List V->St->Hp->(St->Hp->Prop)->Prop
noncomputable def PG(X:Cx)(target:Kf)(t:TG):Prop:=
 ∀(pins:aK)(s:Kh)(σ:St)(H:Hp)(v:V)(u:Kc)(Q:St->Hp->Prop),Inv X pins σ H s->RelV v u->t v σ H Q->
  Kt `i X.A (assign target X.env u) (λ_ s'=>∃σ' H',Inv X pins σ' H' s'/\Q σ' H') X.xe s
noncomputable def CG(X:Cx)(ts:aX)(t:zI):Prop:=
 ∀(pins:aK)(s:Kh)(σ:St)(H:Hp)(vs:az)(us:aP)(Q:St->Hp->Prop),Inv X pins σ H s->Vals vs us->t vs σ H Q->
  Kt `i X.A (assignInOrder ((assignEach ts X.env).map (·.2)) us) (λ_ s'=>∃σ' H',Inv X pins σ' H' s'/\Q σ' H') X.xe s
noncomputable abbrev Aq:=V->V->V->Hp->(Hp->Prop)->Prop
noncomputable def C4(X:Cx)(t:Aq):Prop:=
 ∀(pins:aK)(s:Kh)(σ:St)(H:Hp)(o i v:V)(ov iv u:Kc)(Q:Hp->Prop),Inv X pins σ H s->RelV o ov->RelV i iv->RelV v u->t o i v H Q->
  Kt `i X.A (setItem ov iv u) (λ_ s'=>∃H',Inv X pins σ H' s'/\Q H') X.xe s
section
variable{X:Cx}{pos:Pos}
noncomputable def mJ(i:Nat):TG:=λv σ H Q=>Q (σ.set i (some v)) H
theorem xD{i:Nat}{x:Str}(hN:X.N.Nodup)(hi:X.N[i]?=some x)(hx:Loc X.env.scope x)(hf:X.fn x=true\/X.env.scope.names.lookup x=some .local:=by first|exact .inl rfl|exact .inr rfl|assumption):PG X (.Name x pos) (mJ i):=by
 intro pins s σ H v u Q I r h;exact wpAny_assign_Name (lN I hN hi hx r (λs' I'=>⟨_,H,I',h⟩) hf)
noncomputable def Et:zI:=λvs σ H Q=>vs=[]/\Q σ H
noncomputable def Dd(t:TG)(u:zI):zI:=λvs σ H Q=>∃v r,vs=v::r/\t v σ H λσ' H'=>u r σ' H' Q
theorem xV:CG X [] Et:=by
 intro pins s σ H vs us Q I r h;obtain⟨e,h⟩:=h;subst e;cases r;exact assignInOrder_nil ⟨σ,H,I,h⟩
theorem wM{e:Kf}{es:aX}{t:TG}{u:zI}(h1:PG X e t)(h2:CG X es u)
  (hs:(assignEach (e::es) X.env).map (·.2)=assign e X.env::(assignEach es X.env).map (·.2):=by rfl):CG X (e::es) (Dd t u):=by
 intro pins s σ H vs us Q I r h;obtain⟨v,vr,e1,h⟩:=h;subst e1;cases r with
 |cons r rr=>
  rw[hs];refine assignInOrder_cons (b9 (h1 pins s σ H _ _ _ I r h) λ_ s1 zq=>zq.elim λσ1 zq=>zq.elim λH1 zq=>zq.elim λI1 q1=>?_);exact h2 pins s1 σ1 H1 _ _ Q I1 rr q1
noncomputable def Ei(K:Jo)(n:Nat)(t:zI):TG:=λv σ H Q=>∃a xs,v=.ref a/\kq K H a xs/\xs.length=n/\t xs σ H Q
theorem A5{es:aX}{k:Nat}{t:zI}{n:Nat}(hc:X.calm=true)(h:CG X es t)
  (hn:(assignEach es X.env).length=n:=by rfl) (hst:(assignEach es X.env).findIdx? (·.1)=none:=by rfl):PG X (.Tuple es k pos) (Ei X.K n t):=by
 intro pins s σ H v u Q I r hw;obtain⟨a,xs,e1,hq,hl,hw⟩:=hw;subst e1;cases r;obtain⟨its,rv,ht,hz⟩:=I.tuple hq;refine assign_Tuple_tuple (I.ok.hd hc) ht (by simp[hn,<-hl,rv.length]) hst λh' hx=>?_;have I1:Inv X pins σ H {s with heap:=h'}:=I.kept (t':=s.toks) λb o e=>hx b o (Hf (JV e)) e;exact h pins _ σ H xs _ Q I1 (by simpa using rv) hw
noncomputable def qm(to ti:TE)(t:Aq):TG:=λv σ H Q=>to σ H λo H1=>ti σ H1 λi H2=>t o i v H2 λH3=>Q σ H3
theorem zT{o i:Kf}{to ti:TE}{t:Aq}(ho:PE X o to)(hi:PE X i ti)(hs:C4 X t)
  (ha:∀ v,assign (.Subscript o i pos) X.env v=(do
   let ov<-holding [v] (eval o X.env)
   let iv<-holding [v,ov] (eval i X.env)
   standAt pos
   holding [v,ov,iv] (setItem ov iv v)
   release [v,ov,iv] []):=by intro _;rfl):PG X (.Subscript o i pos) (qm to ti t):=by
 intro pins s σ H v u Q I r h;rw[ha];refine Ky (Kz (b9 (ho pins s σ H _ I h) λov s1 zq=>zq.elim λx zq=>zq.elim λH1 zq=>zq.elim λI1 zq=>zq.elim λr1 q1=>?_));refine Ky (Kz (b9 (hi pins s1 σ H1 _ I1 q1) λiv s2 zq=>zq.elim λy zq=>zq.elim λH2 zq=>zq.elim λI2 zq=>zq.elim λr2 q2=>?_));refine Ky (KA (Ky (Kz (b9 (hs pins s2 σ H2 x y v ov iv u _ I2 r1 r2 r q2) λ_ s3 zq=>zq.elim λH3 zq=>zq.elim λI3 q3=>?_))));exact wpAny_release ⟨σ,H3,I3,q3⟩
noncomputable def wN(te:TE)(g:TG):TS:=λD σ H=>te σ H λx H1=>g x σ H1 D.nx
theorem Bc{tg e:Kf}{te:TE}{g:TG}(he:PE X e te)(hg:PG X tg g)(hs:swapsWithSole [tg] e pos.line X.env=pure false:=by rfl)(hw:swappedStores [tg] e X.env=pure none:=by rfl)
  (h1:(assignEach [tg] X.env).map (·.2)=[assign tg X.env]:=by rfl):PS X (.Assign [tg] e pos) (wN te g):=by
 intro pins s σ H D I h;refine wpAny_Assign_stores (b9 (he pins s σ H _ I h) λv s1 zq=>zq.elim λx zq=>zq.elim λH1 zq=>zq.elim λI1 zq=>zq.elim λr1 q1=>?_) hs hw;rw[h1];exact b9 (hg pins s1 σ H1 x v _ I1 r1 q1) λ_ s2 q=>q
theorem u6{i:Nat}{x:Str}{e:Kf}{te:TE}{pos':Pos}(hN:X.N.Nodup)(hi:X.N[i]?=some x)(hx:Loc X.env.scope x)(he:PE X e te)(hs:swapsWith e (some (.Name x pos')) pos.line X.env=pure false:=by rfl)(hf:X.fn x=true\/X.env.scope.names.lookup x=some .local:=by first|exact .inl rfl|exact .inr rfl|assumption):
  PS X (.Assign [.Name x pos'] e pos) (wN te (mJ i)):=by
 intro pins s σ H D I h;refine wpAny_Assign_Name (b9 (he pins s σ H _ I h) λv s1 zq=>zq.elim λy zq=>zq.elim λH1 zq=>zq.elim λI1 zq=>zq.elim λr1 q1=>?_) hs;exact lN I1 hN hi hx r1 (λs2 I2=>⟨_,H1,I2,q1⟩) hf
end
structure It where
 go:Nat->Hp->Prop
 yld:Nat->Hp->V->Hp->Prop
 stop:Nat->Hp->Prop
noncomputable def mn(X:Cx)(pins:aK)(H:Hp)(b:Ke):Prop:=
 H b=none/\b≠X.env.locals/\b∉X.fs/\(b∈X.ex\/X.s₀.heap.objs.size<=b)/\(∀x c,X.env.cells.lookup x=some c->c≠b)/\∀p∈X.pn++pins,p.1≠b
theorem Inv.fpOk{X:Cx}{pins:aK}{σ:St}{H H':Hp}{s:Kh}{b:Ke}(I:`g)(hb:s.heap.objs.size<=b)(hn:H' b=none):mn X pins H' b:=by
 refine⟨hn,Hr (Hc I.lt hb),I.nofs hb,.inr (Hg I.sz hb),λx c e z=>?_,λp hp z=>?_⟩
 ·obtain⟨v,q⟩:=I.cell x c e;exact absurd (Hc q.lt (by rw[z];exact hb)) (He _)
 ·exact absurd (Hc (JV (I.pin p hp).1) (by rw[z];exact hb)) (He _)
structure Turn(P:Kj)(w:Ki)(K:Jo)(tg:Kf)(J:It)(fp:ay)(it:Ke)(tn:Nat->Kl->Prop):Prop where
 mem:it∈fp
 obj:∀i h,tn i h->∀b∈fp,∃o,h.get? b=some o/\∀v,o.data≠.cell v
 keep:∀i h h',tn i h->(∀b∈fp,∀o,h.get? b=some o->h'.get? b=some o)->tn i h'
 item:∀(X:Cx),X.prog=P->X.w=w->X.K=K->X.calm=true->∀(i:Nat)(pins:aK)(s:Kh)(σ:St)(H:Hp)(E:bf),Inv X pins σ H s->(∀b∈fp,mn X pins H b)->tn i s.heap->J.go i H->
  Kt (model P w) X.A (pyNext (.ref it)) (λr s1=>∃u,r=some u/\
   Kt (model P w) X.A (letOwnedTupleGo tg (.ref it) u) (λ_ s2=>∃x H',Inv X pins σ H' s2/\RelV x u/\J.yld i H x H'/\tn (i+1) s2.heap/\∀b∈fp,H' b=none) E s1) E s
 done:∀(X:Cx),X.prog=P->X.w=w->X.K=K->X.calm=true->∀(i:Nat)(pins:aK)(s:Kh)(σ:St)(H:Hp)(E:bf),Inv X pins σ H s->(∀b∈fp,mn X pins H b)->tn i s.heap->J.stop i H->
  Kt (model P w) X.A (pyNext (.ref it)) (λr s1=>r=none/\Inv X pins σ H s1) E s
 self:∀(A:Kp)(i:Nat)(s:Kh)(Q:bf)(E:bf),tn i s.heap->Q (.ref it) s->Kt (model P w) A (pyIter (.ref it)) Q E s
noncomputable abbrev TI:=St->Hp->(It->Hp->Prop)->Prop
noncomputable def PIE(X:Cx)(pins:aK)(σ:St)(tg:Kf)(R:It->Hp->Prop)(itv:Kc)(s2:Kh):Prop:=
 ∃(it:Ke)(fp:ay)(tn:Nat->Kl->Prop)(J:It)(H':Hp),itv=.ref it/\Inv X pins σ H' s2/\Turn X.prog X.w X.K tg J fp it tn/\tn 0 s2.heap/\(∀b∈fp,mn X pins H' b)/\R J H'
noncomputable def PI(X:Cx)(tg iter:Kf)(wi:TI):Prop:=
 ∀(pins:aK)(s:Kh)(σ:St)(H:Hp)(R:It->Hp->Prop),Inv X pins σ H s->wi σ H R->
  Kt `i X.A (eval iter X.env) (λv s1=>Kt `i X.A (pyIter v) (PIE X pins σ tg R) X.xe s1) X.xe s
theorem wL{M:Kr}{A:Kp}{E:bf}{s:Kh}{tg:Kf}{it:Ke}{u:Kc}{o:Obj}{n:String}{vs:Array Kc}{Q:Unit->gq}(ho:s.heap.get? it=some o)(hc:o.cls=.type n)(hd:o.data=.fields vs)
    (hn:["enumerate","zip","dict_itemiterator","dict_reverseitemiterator","odict_iterator","itertools.zip_longest","itertools.pairwise"].contains n=false) (hQ:Q () s):Kt M A (letOwnedTupleGo tg (.ref it) u) Q E s:=by
  unfold letOwnedTupleGo;cases tg<;>first
    |exact KC hQ
    | (cases u <;> first
        |exact KC hQ
        | (refine Ky (wpAny_load ho ?_)
           rw[hc,hd];show Kt M A (if(["enumerate","zip","dict_itemiterator","dict_reverseitemiterator","odict_iterator","itertools.zip_longest","itertools.pairwise"].contains n&&vs[0]?==some (rawInt _))=true then _ else _) Q E s;rw[if_neg (by intro h;rw[hn,Bool.false_and]at h;cases h)];exact KC hQ))
noncomputable def EH(K:Jo)(a:Ke):It:=
 ⟨λi H=>∃xs x,iW K H a xs/\xs[i]?=some x,λi H x H'=>H'=H/\∀xs,iW K H a xs->xs[i]?=some x,λi H=>∃xs,iW K H a xs/\xs.length<=i⟩
noncomputable def D1(K:Jo)(a:Ke):It:=
 ⟨λi H=>∃xs x,kq K H a xs/\xs[i]?=some x,λi H x H'=>H'=H/\∀xs,kq K H a xs->xs[i]?=some x,λi H=>∃xs,kq K H a xs/\xs.length<=i⟩
noncomputable def Dy(lo:Int)(n:Nat):It:=⟨λi _=>i<n,λi H x H'=>H'=H/\x=.int (lo+i),λi _=>n<=i⟩
theorem tm{P:Kj}{w:Ki}{K:Jo}{tg:Kf}(a it:Ke):Turn P w K tg (EH K a) [it] it (λi h=>h.IsListIter it a i)where
 mem:=by simp
 obj:=λi h st b hb=>by
  have e:b=it:=by simpa using hb
  subst e;obtain⟨o,e,c,d⟩:=st;exact⟨o,e,λv z=>by rw[d]at z;cases z⟩
 keep:=λi h h' st k=>st.at λo e=>k it `h o e
 item:=by
  intro X hP hw hK hc i pins s σ H E I hf st hg;subst hP hw hK;obtain⟨xs,x,hq,hx⟩:=hg;obtain⟨its,rv,p,hz⟩:=I.list hq;obtain⟨u,hu,ru⟩:=rv.get hx;obtain⟨f0,f1,f2,f3,f4,f5⟩:=hf it `h;refine wpAny_pyNext_list_item st p.isList (x:=u) (by simpa using hu) λh' st' sb=>?_;have I1:Inv X pins σ H {s with heap:=h'}:=I.turned (t':=s.toks) (λb o hb e=>(sb.2 b hb).trans e) f0 f1 f3 f4 f5;obtain⟨o,e,c,d⟩:=id st';exact⟨u,rfl,wL (s:={s with heap:=h'}) e c d (by decide) ⟨x,H,I1,ru,⟨rfl,λys hy=>by rw[I.list_inj hy hq];exact hx⟩,st',λb hb=>(hf b hb).1⟩⟩
 done:=by
  intro X hP hw hK hc i pins s σ H E I hf st hg;subst hP hw hK;obtain⟨xs,hq,hx⟩:=hg;obtain⟨its,rv,p,hz⟩:=I.list hq;obtain⟨f0,f1,f2,f3,f4,f5⟩:=hf it `h;have hl:=rv.length;exact wpAny_pyNext_list_end (I.ok.hd hc) st p.isList (by simp;omega) λh' eb=>⟨rfl,I.turned (t':=s.toks) (λb o hb e=>eb b o hb e) f0 f1 f3 f4 f5⟩
 self:=λ_ _ _ _ _ st h=>wpAny_pyIter_listiter st h
theorem qS{P:Kj}{w:Ki}{K:Jo}{tg:Kf}(a it:Ke):Turn P w K tg (D1 K a) [it] it (λi h=>h.IsTupleIter it a i)where
 mem:=by simp
 obj:=λi h st b hb=>by
  have e:b=it:=by simpa using hb
  subst e;obtain⟨o,e,c,d⟩:=st;exact⟨o,e,λv z=>by rw[d]at z;cases z⟩
 keep:=λi h h' st k=>st.at λo e=>k it `h o e
 item:=by
  intro X hP hw hK hc i pins s σ H E I hf st hg;subst hP hw hK;obtain⟨xs,x,hq,hx⟩:=hg;obtain⟨its,rv,p,hz⟩:=I.tuple hq;obtain⟨u,hu,ru⟩:=rv.get hx;obtain⟨f0,f1,f2,f3,f4,f5⟩:=hf it `h;refine wpAny_pyNext_tuple_item st (show s.heap.IsTuple a its.toArray from p) (x:=u) (by simpa using hu) λh' st' sb=>?_;have I1:Inv X pins σ H {s with heap:=h'}:=I.turned (t':=s.toks) (λb o hb e=>(sb.2 b hb).trans e) f0 f1 f3 f4 f5;obtain⟨o,e,c,d⟩:=id st';exact⟨u,rfl,wL (s:={s with heap:=h'}) e c d (by decide) ⟨x,H,I1,ru,⟨rfl,λys hy=>by rw[I.tuple_inj hy hq];exact hx⟩,st',λb hb=>(hf b hb).1⟩⟩
 done:=by
  intro X hP hw hK hc i pins s σ H E I hf st hg;subst hP hw hK;obtain⟨xs,hq,hx⟩:=hg;obtain⟨its,rv,p,hz⟩:=I.tuple hq;obtain⟨f0,f1,f2,f3,f4,f5⟩:=hf it `h;have hl:=rv.length;exact wpAny_pyNext_tuple_end (I.ok.hd hc) st (show s.heap.IsTuple a its.toArray from p) (by simp;omega) λh' eb=>⟨rfl,I.turned (t':=s.toks) (λb o hb e=>eb b o hb e) f0 f1 f3 f4 f5⟩
 self:=λ_ _ _ _ _ st h=>wpAny_pyIter_tupleiter st h
theorem q5{P:Kj}{w:Ki}{K:Jo}{tg:Kf}(it:Ke)(lo:Int)(n:Nat):Turn P w K tg (Dy lo n) [it] it (λi h=>IsRangeIter h it (lo+(i:Nat)*1) ((n:Int)-(i:Nat)) 1)where
 mem:=by simp
 obj:=λi h st b hb=>by
  have e:b=it:=by simpa using hb
  subst e;exact⟨_,st,λv z=>by
   have z':Data.fields _=Data.cell v:=z;cases z'⟩
 keep:=λi h h' st k=>k it `h _ st
 item:=by
  intro X hP hw hK hc i pins s σ H E I hf st hg;subst hP hw hK;obtain⟨f0,f1,f2,f3,f4,f5⟩:=hf it `h;have W:=Walks.range (prog:=X.prog) (w:=X.w) (I.ok.hd hc) it lo 1 n;refine W.item i s _ _ hg st λv h' tk hv st' kk=>?_;obtain⟨t,rfl⟩:=hv;have I1:Inv X pins σ H {s with heap:=h',toks:=tk}:=I.turned (λb o hb e=>kk b o (by simpa using hb) e) f0 f1 f3 f4 f5;refine⟨_,rfl,wL (s:={s with heap:=h',toks:=tk}) (n:="range_iterator") st' rfl rfl (by decide) ⟨.int (lo+i),H,I1,⟨t,?_⟩,⟨rfl,rfl⟩,st',λb hb=>(hf b hb).1⟩⟩;rw[Int.mul_one]
 done:=by
  intro X hP hw hK hc i pins s σ H E I hf st hg;subst hP hw hK;obtain⟨f0,f1,f2,f3,f4,f5⟩:=hf it `h;exact wpAny_pyNext_range_end (I.ok.hd hc) st (by have:n<=i:=hg;omega) λh' eb=>⟨rfl,I.turned (t':=s.toks) (λb o hb e=>eb b o hb e) f0 f1 f3 f4 f5⟩
 self:=λ_ _ _ _ _ st h=>wpAny_pyIter_rangeiter st h
section
variable{X:Cx}{tg:Kf}
noncomputable def BE(K:Jo)(tl:TE):TI:=λσ H R=>tl σ H λx H1=>∃a,x=.ref a/\(∃xs,iW K H1 a xs)/\R (EH K a) H1
noncomputable def Fg(K:Jo)(tl:TE):TI:=λσ H R=>tl σ H λx H1=>∃a,x=.ref a/\(∃xs,kq K H1 a xs)/\R (D1 K a) H1
theorem rX{l:Kf}{tl:TE}(hl:PE X l tl):PI X tg l (BE X.K tl):=by
 intro pins s σ H R I h;refine b9 (hl pins s σ H _ I h) λv s1 zq=>zq.elim λx zq=>zq.elim λH1 zq=>zq.elim λI1 zq=>zq.elim λr1 q1=>?_;obtain⟨a,e,⟨xs,hq⟩,q⟩:=q1;subst e;cases r1;obtain⟨its,rv,p,hz⟩:=I1.list hq;refine wpAny_pyIter_list p.isList ?_;refine⟨s1.heap.objs.size,[s1.heap.objs.size],_,_,H1,rfl,I1.kept (t':=s1.toks) λb o e=>JX _ e,tm a _,⟨_,JY _ rfl,rfl,rfl⟩,λb hb=>?_,q⟩;have e:b=s1.heap.objs.size:=by simpa using hb
 subst e;exact I1.fpOk (Hs _) (I1.hok.fresh (Hs _))
theorem Aw{l:Kf}{tl:TE}(hl:PE X l tl):PI X tg l (Fg X.K tl):=by
 intro pins s σ H R I h;refine b9 (hl pins s σ H _ I h) λv s1 zq=>zq.elim λx zq=>zq.elim λH1 zq=>zq.elim λI1 zq=>zq.elim λr1 q1=>?_;obtain⟨a,e,⟨xs,hq⟩,q⟩:=q1;subst e;cases r1;obtain⟨its,rv,p,hz⟩:=I1.tuple hq;refine wpAny_pyIter_tuple (show s1.heap.IsTuple a its.toArray from p) ?_;refine⟨s1.heap.objs.size,[s1.heap.objs.size],_,_,H1,rfl,I1.kept (t':=s1.toks) λb o e=>JX _ e,qS a _,⟨_,JY _ rfl,rfl,rfl⟩,λb hb=>?_,q⟩;have e:b=s1.heap.objs.size:=by simpa using hb
 subst e;exact I1.fpOk (Hs _) (I1.hok.fresh (Hs _))
theorem vT{pins:aK}{σ:St}{H:Hp}{s:Kh}{R:It->Hp->Prop}{E:bf}{lo hi:Int}{t u v:Tok}{tk:Nat}(I:`g)(h1:-(2^62)<=lo)(h2:lo<2^62)(h3:-(2^62)<=hi)(h4:hi<2^62)
  (q:R (Dy lo (hi-lo).toNat) H):Kt `i X.A (pyIter (.ref s.heap.objs.size)) (PIE X pins σ tg R) E {s with heap:=s.heap.push {cls:=.type "range",data:=.fields #[.int lo t,.int hi u,.int 1 v]},toks:=tk}:=by
 refine wpAny_pyIter_range (IsRange.new ..) (small_one h1 h2 h3 h4) ?_;have I1:Inv X pins σ H {s with heap:=s.heap.push {cls:=.type "range",data:=.fields #[.int lo t,.int hi u,.int 1 v]},toks:=tk}:=I.kept λb o e=>JX _ e;refine⟨(s.heap.push {cls:=.type "range",data:=.fields #[.int lo t,.int hi u,.int 1 v]}).objs.size,[(s.heap.push {cls:=.type "range",data:=.fields #[.int lo t,.int hi u,.int 1 v]}).objs.size],_,_,H,rfl,
  I1.kept (t':=tk) λb o e=>JX _ e,q5 _ lo (hi-lo).toNat,?_,λb hb=>?_,q⟩
 ·have e1:lo+((0:Nat):Int)*1=lo:=by simp
  have e2:(((hi-lo).toNat:Nat):Int)-((0:Nat):Int)=Builtin.Range.rangeSize lo hi 1:=by rw[rangeSize_one];split<;>omega
  show IsRangeIter _ _ (lo+((0:Nat):Int)*1) ((((hi-lo).toNat:Nat):Int)-((0:Nat):Int)) 1;rw[e1,e2];exact JY _ rfl
 ·have e:b=(s.heap.push {cls:=.type "range",data:=.fields #[.int lo t,.int hi u,.int 1 v]}).objs.size:=by simpa using hb
  subst e;exact I1.fpOk (Hs _) (I1.hok.fresh (Hs _))
noncomputable def CJ(ta:TA):TI:=λσ H R=>ta σ H λvs H1=>∃j:Int,vs=[.int j]/\-(2^62)<=j/\j<2^62/\R (Dy 0 j.toNat) H1
theorem uA{a:Kf}{ta:TA}{p pos:Pos}(hg:Gl X "range")(hm:X.mg "range"=none)(ha:PA X [a] ta)(hs:Ku [a] X.env=[(false,eval a X.env)]:=by rfl):PI X tg (.Call (.Name "range" p) [a] [] pos) (CJ ta):=by
 intro pins s σ H R I h;refine Call_ (lu I hg hm boot_range (J3 (b9 (ha pos pins s σ H _ I h) λus s1 zq=>zq.elim λvs zq=>zq.elim λH1 zq=>zq.elim λI1 zq=>zq.elim λr1 q1=>?_) hs rfl));obtain⟨j,e,q1,q2,q⟩:=q1;subst e;cases r1 with
 |cons r rr=>
  cases rr;obtain⟨t,rfl⟩:=r;exact call_range_1 (vT I1 `o `o q1 q2 (by simpa using q))
noncomputable def Ft(wi:TI)(g:TG)(tb:TS):TS:=λD σ H=>wi σ H λJ H1=>∃W:Nat->Nat->St->Hp->Prop,(∃m,W 0 m σ H1)/\∀i m σ H,W i m σ H->
 (J.stop i H/\D.nx σ H)\/(J.go i H/\∃N:St->Hp->Prop,(∀σ' H',N σ' H'->∃m',m'<m/\W (i+1) m' σ' H')/\∀x H',J.yld i H x H'->g x σ H' λσ2 H2=>tb {D with nx:=N,ct:=N,bk:=D.nx} σ2 H2)
noncomputable def lr(fp:ay)(h:Kl):aK:=fp.filterMap λb=>(h.get? b).map λo=>(b,o)
theorem fZ{fp:ay}{h:Kl}{b:Ke}{o:Obj}(hb:b∈fp)(e:h.get? b=some o):(b,o)∈lr fp h:=List.mem_filterMap.mpr ⟨b,hb,by rw[e];rfl⟩
theorem tD{fp:ay}{h:Kl}{p:Ke×Obj}(hp:p∈lr fp h):p.1∈fp/\h.get? p.1=some p.2:=by
 obtain⟨b,hb,e⟩:=List.mem_filterMap.mp hp;cases q:h.get? b with
 |none=>rw[q]at e;cases e
 |some o=>
  rw[q]at e;have e':(b,o)=p:=Option.some.inj e;subst e';exact⟨hb,q⟩
theorem Inv.pinned{pins:aK}{σ:St}{H:Hp}{s:Kh}{fp:ay}(I:`g)(hf:∀b∈fp,mn X pins H b)(ho:∀b∈fp,∃o,s.heap.get? b=some o/\∀v,o.data≠.cell v):Inv X (pins++lr fp s.heap) σ H s:=
 I.pins_of λp hp=>(List.mem_append.mp hp).elim (λz=>I.pin p (Ht _ z)) λz=>by
  obtain⟨hb,e⟩:=tD z;obtain⟨f0,f1,f2,_⟩:=hf p.1 hb;obtain⟨o,e',d⟩:=ho p.1 hb;rw[e]at e';cases e';exact⟨e,f0,f1,f2,d⟩
theorem Inv.unpinned{pins pl:aK}{σ:St}{H:Hp}{s:Kh}(I:Inv X (pins++pl) σ H s):Inv X pins σ H s:=I.pins_of λp hp=>I.pin p (Ht _ (Hl _ hp))
theorem Ay{iter:Kf}{body:b7}{wi:TI}{g:TG}{tb:TS}{pos:Pos}(hp:KG `i X.A X.env X.xe)(hc:X.calm=true)(hi:PI X tg iter wi)(hg:PG X tg g)(hb:oM X body tb)
  (hs:∀x,KH iter X.env x=pure x:=by intro _;rfl):PS X (.For tg iter body [] pos) (Ft wi g tb):=by
 intro pins s σ H D I h;refine wpAny_For (b9 (hi pins s σ H _ I h) λv s1 h1=>b9 h1 λitv s2 h2=>?_) hs;obtain⟨it,fp,tn,J,H2,e,I2,T,st2,f2,W,⟨m0,w0⟩,turn⟩:=h2;subst e;have stat:∀{H':Hp},(∀b∈fp,H' b=none)->∀b∈fp,mn X pins H' b:=λhn b hb=>⟨hn b hb,(f2 b hb).2⟩
 refine codeAny_forLoop_any (λn s'=>∃i σ' H',Inv X pins σ' H' s'/\tn i s'.heap/\(∀b∈fp,H' b=none)/\W i n σ' H') ?_ m0 ⟨0,σ,H2,I2,st2,λb hb=>(f2 b hb).1,w0⟩;rintro n s3 ⟨i,σ3,H3,I3,st3,fr3,w3⟩;rcases turn i n σ3 H3 w3 with⟨stop,qn⟩|⟨go,N,hN,step⟩
 ·refine KI hp (b9 (T.done X rfl rfl rfl hc i pins s3 σ3 H3 X.xe I3 (stat fr3) st3 stop) λr s4 zq=>zq.elim λhr I4=>?_);subst hr;exact Kx ⟨σ3,H3,I4,qn⟩
 ·refine KI hp (b9 (T.item X rfl rfl rfl hc i pins s3 σ3 H3 X.xe I3 (stat fr3) st3 go) λr s4 zq=>zq.elim λu zq=>zq.elim λhr h4=>?_);subst hr;refine KI hp (b9 h4 λ_ s5 zq=>zq.elim λx zq=>zq.elim λH5 zq=>zq.elim λI5 zq=>zq.elim λr5 zq=>zq.elim λy5 zq=>zq.elim λst5 fr5=>?_);have I5':=I5.pinned (stat fr5) (T.obj _ _ st5);refine KI hp (b9 (hg _ s5 σ3 H5 x u _ I5' r5 (step x H5 y5)) λ_ s6 zq=>zq.elim λσ6 zq=>zq.elim λH6 zq=>zq.elim λI6 q6=>?_);refine KI hp (b9 (hb _ s6 σ6 H6 _ I6 q6) λf s7 q7=>?_);have again:∀{σ7:St}{H7:Hp},Inv X (pins++lr fp s5.heap) σ7 H7 s7->N σ7 H7->∃m,m<n/\∃i σ' H',Inv X pins σ' H' s7/\tn i s7.heap/\(∀b∈fp,H' b=none)/\W i m σ' H':=λ{σ7 H7} I7 n7=>by
   obtain⟨m',hm,w7⟩:=hN σ7 H7 n7;refine⟨m',hm,i+1,σ7,H7,I7.unpinned,T.keep _ _ _ st5 λb hb o e=>(I7.pin (b,o) (Ht _ (Ht _ (fZ hb e)))).1,λb hb=>?_,w7⟩;obtain⟨o,e,d⟩:=T.obj _ _ st5 b hb;exact(I7.pin (b,o) (Ht _ (Ht _ (fZ hb e)))).2.1
  cases f with
  |next=>obtain⟨σ7,H7,I7,n7⟩:=q7;exact again I7 n7
  |cont=>obtain⟨σ7,H7,I7,n7⟩:=q7;exact again I7 n7
  |brk=>obtain⟨σ7,H7,I7,q7⟩:=q7;exact⟨σ7,H7,I7.unpinned,q7⟩
  |ret v=>obtain⟨x7,σ7,H7,I7,r7,q7⟩:=q7;exact⟨x7,σ7,H7,I7.unpinned,r7,q7⟩
end
noncomputable abbrev R2:=V->V->Hp->VK->Prop
noncomputable def iG(X:Cx)(f:Kc->Kc->Sem Kc)(r:R2):Prop:=
 ∀(pins:aK)(s:Kh)(σ:St)(H:Hp)(x y:V)(v u:Kc)(Q:VK),Inv X pins σ H s->RelV x v->RelV y u->r x y H Q->
  Kt `i X.A (f v u) (EP X pins σ Q) X.xe s
noncomputable def Fy(X:Cx)(f:Kc->Sem Kc)(r:V->Hp->VK->Prop):Prop:=
 ∀(pins:aK)(s:Kh)(σ:St)(H:Hp)(x:V)(v:Kc)(Q:VK),Inv X pins σ H s->RelV x v->r x H Q->
  Kt `i X.A (f v) (EP X pins σ Q) X.xe s
noncomputable def dA(X:Cx)(f:Kc)(r:az->Hp->VK->Prop):Prop:=
 ∀(pins:aK)(s:Kh)(σ:St)(H:Hp)(xs:az)(us:aP)(Q:VK),Inv X pins σ H s->Vals xs us->r xs H Q->
  Kt `i X.A (call f us) (EP X pins σ Q) X.xe s
noncomputable def EL(X:Cx)(r:V->Hp->(Bool->Hp->Prop)->Prop):Prop:=
 ∀(pins:aK)(s:Kh)(σ:St)(H:Hp)(x:V)(v:Kc)(Q:Bool->Hp->Prop),Inv X pins σ H s->RelV x v->r x H Q->
  Kt `i X.A (truthy v) (TP X pins σ Q) X.xe s
noncomputable def Cp(r:R2)(ta tb:TE):TE:=λσ H Q=>ta σ H λx H1=>tb σ H1 λy H2=>r x y H2 Q
noncomputable def FC(r:V->Hp->VK->Prop)(ta:TE):TE:=λσ H Q=>ta σ H λx H1=>r x H1 Q
noncomputable def rI(C:Int->Int->Prop)(g:Int->Int->V):R2:=λx y H Q=>∃i j,x=.int i/\y=.int j/\C i j/\Q (g i j) H
noncomputable def As(g:Int->Int->V):R2:=λx y H Q=>∃i j,x=.int i/\y=.int j/\Q (g i j) H
noncomputable def rU(g:Int->V):V->Hp->VK->Prop:=λx H Q=>∃i,x=.int i/\Q (g i) H
section
variable{X:Cx}{a b c:Kf}{ta tb tc:TE}{pos:Pos}
theorem Au(ha:PE X a ta)(hb:PE X b tb){pins:aK}{s:Kh}{σ:St}{H:Hp}{R:V->V->Hp->Prop}(I:`g)
  (h:ta σ H λx H1=>tb σ H1 λy H2=>R x y H2) {Q:bf} {f:Kc->Kc->Sem Kc}
  (hf:∀v u s2 x y H2,Inv X pins σ H2 s2->RelV x v->RelV y u->R x y H2->Kt `i X.A (f v u) Q X.xe s2):
  Kt `i X.A (eval a X.env) (λv s₁=>Kt `i X.A (eval b X.env) (λu s₂=>Kt `i X.A (f v u) Q X.xe s₂) X.xe s₁) X.xe s:=by
 refine b9 (ha pins s σ H _ I h) λv s1 zq=>zq.elim λx zq=>zq.elim λH1 zq=>zq.elim λI1 zq=>zq.elim λr1 q1=>?_;refine b9 (hb pins s1 σ H1 _ I1 q1) λu s2 zq=>zq.elim λy zq=>zq.elim λH2 zq=>zq.elim λI2 zq=>zq.elim λr2 q2=>?_;exact hf v u s2 x y H2 I2 r1 r2 q2
theorem Di{op:Operator}{r:R2}(ho:iG X (KJ op) r)(ha:PE X a ta)(hb:PE X b tb):PE X (.BinOp a op b pos) (Cp r ta tb):=by
 intro pins s σ H Q I h;exact wpAny_BinOp (Au ha hb I h λv u s2 x y H2 I2 rx ry q=>ho pins s2 σ H2 x y v u Q I2 rx ry q)
theorem Cm{op:UnaryOp}{r:V->Hp->VK->Prop}(ho:Fy X (unaryOp op) r)(ha:PE X a ta):PE X (.UnaryOp op a pos) (FC r ta):=by
 intro pins s σ H Q I h;exact UnaryOp_ (b9 (ha pins s σ H _ I h) λv s1 zq=>zq.elim λx zq=>zq.elim λH1 zq=>zq.elim λI1 zq=>zq.elim λr1 q1=>ho pins s1 σ H1 x v Q I1 r1 q1)
theorem Dp{f:Kc->Kc->Sem Kc}{C:Int->Int->Prop}{g:Int->Int->Int}
  (rule:∀(i j:Int)(t u:Tok)(s:Kh)(Q:bf)(E:bf),C i j->Q (.int (g i j) s.toks) {s with toks:=s.toks+1}->Kt `i X.A (f (.int i t) (.int j u)) Q E s):
  iG X f (rI C λi j=>.int (g i j)):=by
 intro pins s σ H x y v u Q I rx ry h;obtain⟨i,j,rfl,rfl,hc,q⟩:=h;obtain⟨t,rfl⟩:=rx;obtain⟨t',rfl⟩:=ry;exact rule i j t t' s _ _ hc ⟨.int (g i j),H,I.tok _,⟨_,rfl⟩,q⟩
theorem BL{f:Kc->Kc->Sem Kc}{g:Int->Int->Int}
  (rule:∀(i j:Int)(t u:Tok)(s:Kh)(Q:bf)(E:bf),Q (.int (g i j) s.toks) {s with toks:=s.toks+1}->Kt `i X.A (f (.int i t) (.int j u)) Q E s):
  iG X f (As λi j=>.int (g i j)):=by
 intro pins s σ H x y v u Q I rx ry h;obtain⟨i,j,rfl,rfl,q⟩:=h;obtain⟨t,rfl⟩:=rx;obtain⟨t',rfl⟩:=ry;exact rule i j t t' s _ _ ⟨.int (g i j),H,I.tok _,⟨_,rfl⟩,q⟩
theorem Fl{f:Kc->Kc->Sem Kc}{g:Int->Int->Bool}
  (rule:∀(i j:Int)(t u:Tok)(s:Kh)(Q:bf)(E:bf),Q (.bool (g i j)) s->Kt `i X.A (f (.int i t) (.int j u)) Q E s):
  iG X f (As λi j=>.bl (g i j)):=by
 intro pins s σ H x y v u Q I rx ry h;obtain⟨i,j,rfl,rfl,q⟩:=h;obtain⟨t,rfl⟩:=rx;obtain⟨t',rfl⟩:=ry;exact rule i j t t' s _ _ ⟨.bl (g i j),H,I,rfl,q⟩
noncomputable def B5(i j:Int):Prop:=0<=j/\j<=1000000/\i.natAbs<2^64
noncomputable def AH(i j:Int):Prop:=(-(2^64)<i/\i<2^64)\/(-(2^64)<j/\j<2^64)
theorem AH.ok{i j:Int}(h:AH i j):IntMulOk i j:=by
 rcases h with⟨h1,h2⟩|⟨h1,h2⟩
 ·exact .of_left (intBits_le_64 h1 h2)
 ·exact .of_right (intBits_le_64 h1 h2)
theorem Bl:iG X (KJ .Add) (As λi j=>.int (i+j)):=BL λ_ _ _ _ _ _ _ q=>add_int q
theorem AF:iG X (KJ .Sub) (As λi j=>.int (i-j)):=BL λ_ _ _ _ _ _ _ q=>sub_int q
theorem zW:iG X (KJ .Mult) (rI AH λi j=>.int (i*j)):=Dp λ_ _ _ _ _ _ _ hc q=>mul_int q hc.ok
theorem zR:iG X (KJ .Mod) (rI (λ_ j=>0<j) λi j=>.int (i%j)):=Dp λi j _ _ _ _ _ hc q=>by
 have h1:(0:Int)<j:=hc;exact mod_int' `o (by rw[Int.fmod_eq_emod_of_nonneg i `o];exact q)
theorem A0:iG X (KJ .Pow) (rI B5 λi j=>.int (i^j.toNat)):=Dp λ_ _ _ _ _ _ _ hc q=>pow_int_small hc.1 hc.2.1 hc.2.2 q
theorem Gj{f:Kc->Sem Kc}{g:Int->Int}
  (rule:∀(i:Int)(t:Tok)(s:Kh)(Q:bf)(E:bf),Q (.int (g i) s.toks) {s with toks:=s.toks+1}->Kt `i X.A (f (.int i t)) Q E s):
  Fy X f (rU λi=>.int (g i)):=by
 intro pins s σ H x v Q I rx h;obtain⟨i,rfl,q⟩:=h;obtain⟨t,rfl⟩:=rx;exact rule i t s _ _ ⟨.int (g i),H,I.tok _,⟨_,rfl⟩,q⟩
theorem Bb:Fy X (unaryOp .USub) (rU λi=>.int (-i)):=Gj λ_ _ _ _ _ q=>neg_int q
end
section
variable{X:Cx}{a b c:Kf}{ta tb tc:TE}{pos:Pos}
theorem vR{pins:aK}{σ:St}{H:Hp}{s:Kh}{Q:VK}{k k':Bool}(I:`g)(q:Q (.bl k) H)(e:k=k'):EP X pins σ Q (.bool k') s:=by
 subst e;exact⟨.bl k,H,I,rfl,q⟩
theorem Ce:iG X (KL .Lt) (As λi j=>.bl (decide (i<j))):=Fl λ_ _ _ _ _ _ _ q=>lt_int q
theorem uK:iG X (KL .Lt) (λx y H Q=>∃i j,x=.str i/\y=.str j/\Q (.bl (decide (i.cps.toList<j.cps.toList))) H):=by
 intro pins s σ H x y v u Q I rx ry h;obtain⟨i,j,rfl,rfl,q⟩:=h;obtain⟨t,rfl⟩:=rx;obtain⟨t',rfl⟩:=ry;exact lt_str (vR I q rfl)
theorem cD(b:Kf){op:CmpOp}(h:op≠.In:=by decide)(h2:op≠.NotIn:=by decide):KN op b=false:=by
 have e1:(op==CmpOp.In)=false:=by cases op<;>first|rfl|exact absurd rfl h
 have e2:(op==CmpOp.NotIn)=false:=by cases op<;>first|rfl|exact absurd rfl h2
 cases b<;>simp[KN,e1,e2]
theorem yw{op:CmpOp}{r:R2}(ho:iG X (KL op) r)(ha:PE X a ta)(hb:PE X b tb)(hm:KN op b=false):PE X (.Compare a [op] [b] pos) (Cp r ta tb):=by
 intro pins s σ H Q I h;exact wpAny_Compare1 (Au ha hb I h λv u s2 x y H2 I2 rx ry q=>ho pins s2 σ H2 x y v u Q I2 rx ry q) hm
noncomputable def zK(t:TE):TT:=λσ H Q=>t σ H λx H'=>∃k,x=.bl k/\Q k H'
theorem xQ{op:CmpOp}{r:R2}(ho:iG X (KL op) r)(ha:PE X a ta)(hb:PE X b tb)(hm:KN op b=false):PT X (.Compare a [op] [b] pos) (zK (Cp r ta tb)):=by
 intro pins s σ H Q I h;refine wpAny_isTrue_Compare1 (b9 (ha pins s σ H _ I h) λv s1 zq=>zq.elim λx zq=>zq.elim λH1 zq=>zq.elim λI1 zq=>zq.elim λr1 q1=>b9 (hb pins s1 σ H1 _ I1 q1) λu s2 zq=>zq.elim λy zq=>zq.elim λH2 zq=>zq.elim λI2 zq=>zq.elim λr2 q2=>
  b9 (ho pins s2 σ H2 x y v u _ I2 r1 r2 q2) λc s3 zq=>zq.elim λz zq=>zq.elim λH3 zq=>zq.elim λI3 zq=>zq.elim λr3 zq=>zq.elim λk zq=>zq.elim λe q3=>?_) hm
 subst e;cases r3;exact Kw ⟨H3,I3,q3⟩
noncomputable def BX(K:Jo)(x:V)(H:Hp)(k:Bool):Prop:=
 match x with
 |.non=>k=false
 |.bl b=>k=b
 |.int i=>k=(i !=0)
 |.str y=>y.length<=Km/\k=((y.length:Int) !=0)
 |.byt y=>y.size<=Km/\k=((y.size:Int) !=0)
 |.ref p=>(∃xs,iW K H p xs/\k=!xs.isEmpty)\/(∃xs,kq K H p xs/\k=!xs.isEmpty)\/∃kvs,H p=some (.dK kvs)/\k=!kvs.isEmpty
 |_=>False
theorem qf{κ:Type}{kvs:List (κ×V)}{vs:List (κ×Kc)}(r:KV kvs vs):(!vs.isEmpty)=!kvs.isEmpty:=by
 cases r<;>rfl
theorem lR{xs:az}{its:aP}(r:Vals xs its):(!its.toArray.isEmpty)=!xs.isEmpty:=by
 cases r<;>simp
theorem iP:(Km:Nat)<2^63:=by rw[sizeLine_eq];decide
theorem zP:EL X (λx H Q=>∃k,BX X.K x H k/\Q k H):=by
 intro pins s σ H x v Q I rx h;obtain⟨k,e,q⟩:=h;have hl:=iP;have hs:Km=16777216:=sizeLine_eq;cases x with
 |non=>
  cases rx;have e':k=false:=e;subst e';exact truthy_none ⟨H,I,q⟩
 |bl b=>
  cases rx;have e':k=b:=e;subst e';exact Kw ⟨H,I,q⟩
 |int i=>
  obtain⟨t,rfl⟩:=rx;have e':k=(i !=0):=e;subst e';exact PySem.P.truthy_int ⟨H,I,q⟩
 |str y=>
  obtain⟨t,rfl⟩:=rx;obtain⟨hy,e'⟩:y.length<=Km/\k=((y.length:Int) !=0):=e;subst e';exact PySem.P.truthy_str `o ⟨H,I.tok _,q⟩
 |byt y=>
  obtain⟨t,rfl⟩:=rx;obtain⟨hy,e'⟩:y.size<=Km/\k=((y.size:Int) !=0):=e;subst e';exact PySem.W.truthy_bytes `o ⟨H,I.tok _,q⟩
 |ref p=>
  cases rx;have e':(∃xs,iW X.K H p xs/\k=!xs.isEmpty)\/(∃xs,kq X.K H p xs/\k=!xs.isEmpty)\/∃kvs,H p=some (.dK kvs)/\k=!kvs.isEmpty:=e;rcases e' with⟨xs,hx,e'⟩|⟨xs,hx,e'⟩|⟨kvs,hx,e'⟩
  ·subst e';obtain⟨its,r,pl,hz⟩:=I.list hx;have hlen:=r.length;exact wpAny_truthy_list pl.isList (by simp only[Hu];omega) ⟨H,I.tok _,by rw[lR r];exact q⟩
  ·subst e';obtain⟨its,r,pl,hz⟩:=I.tuple hx;have hlen:=r.length;exact truthy_tuple pl (by simp only[Hu];omega) ⟨H,I.tok _,by rw[lR r];exact q⟩
  ·subst e';obtain⟨hz,hS,vs,r,m⟩:kvs.length<=Km/\(p==sysModules)=false/\∃vs,KV kvs vs/\s.heap.DictOf (bz X.prog X.w) p vs:=I.hok p _ hx;have hlen:kvs.length=vs.length:=Paired.length r;exact wpAny_truthy_dict hS m `o ⟨H,I.tok _,by rw[qf r];exact q⟩
 |_=>exact(show False from e).elim
theorem vA(ha:PE X a ta)(he:∀whole,isTrue a X.env whole=(do let v<-whole;standAt a.pos;holding [v] (truthy v))):
  PT X a (λσ H Q=>ta σ H λx H'=>∃k,BX X.K x H' k/\Q k H'):=by
 intro pins s σ H Q I h;exact isTrue_plain (b9 (ha pins s σ H _ I h) λv s1 zq=>zq.elim λx zq=>zq.elim λH1 zq=>zq.elim λI1 zq=>zq.elim λr1 q1=>zP pins s1 σ H1 x v Q I1 r1 q1) (he _)
theorem qt:iG X (KJ .Add) (λx y H Q=>∃i j,x=.str i/\y=.str j/\i.length+j.length<=Km/\Q (.str (i++j)) H):=by
 intro pins s σ H x y v u Q I rx ry h;obtain⟨i,j,rfl,rfl,hz,q⟩:=h;obtain⟨t,rfl⟩:=rx;obtain⟨t',rfl⟩:=ry;exact add_str (λt' tk=>⟨.str (i++j),H,I.tok _,⟨_,rfl⟩,q⟩) hz
theorem vals1{x:V}{us:aP}(r:Vals [x] us):∃u,us=[u]/\RelV x u:=by
 cases r with
 |cons r1 r2=>cases r2;exact⟨_,rfl,r1⟩
theorem vals2{x y:V}{us:aP}(r:Vals [x,y] us):∃u w',us=[u,w']/\RelV x u/\RelV y w':=by
 cases r with
 |cons r1 r2=>
  cases r2 with
  |cons r3 r4=>cases r4;exact⟨_,_,rfl,r1,r3⟩
theorem nU:dA X (.type "int") (λxs H Q=>(∃i,xs=[.int i]/\Q (.int i) H)\/∃k,xs=[.bl k]/\Q (.int (if k then 1 else 0)) H):=by
 intro pins s σ H xs us Q I r h;rcases h with⟨i,rfl,q⟩|⟨k,rfl,q⟩
 ·obtain⟨u,rfl,t,rfl⟩:=vals1 r;exact call_int_int ⟨.int i,H,I,⟨_,rfl⟩,q⟩
 ·obtain⟨u,rfl,r1⟩:=vals1 r;cases r1;exact call_int_bool ⟨.int (if k then 1 else 0),H,I.tok _,⟨_,rfl⟩,q⟩
end
structure uB(h:Kl)(x dx C:Ke)(mA:bj):Prop where
 obj:h.get? x=some (Jl C dx)
 ns:h.Ns1 dx mA
 ne:dx≠x
theorem tx{h:Kl}{dx:Ke}{mA:bj}(n:h.Ns1 dx mA):∃od,h.get? dx=some od/\∀name,Jp name od=some (mA name):=by
 obtain⟨o,es,ep,ho,hd,hk,_,hm⟩:=n;refine⟨o,ho,λname=>?_⟩;have e:=hm name;unfold nsFind findBy at e;rw[<-Array.find?_toList]at e;unfold Jp;rw[hd];dsimp only;split
 ·rename_i y q;rw[q]at e;exact congrArg some e
 ·rename_i q;rw[q]at e;have a:es.toList.any (·.refKey)=false:=by
   rw[List.any_eq_false];intro y hy;obtain⟨z,t,hkey⟩:=hk y (Array.mem_toList_iff.mp hy);simp[DictEntry.refKey,hkey]
  have a':¬es.toList.any (·.refKey)=true:=by rw[a];exact Hv
  rw[if_neg a'];exact congrArg some e
theorem uB.look{h:Kl}{x dx C:Ke}{mA:bj}(I:uB h x dx C mA):∃od,PySem.W.InstAt h x (Jl C dx) C (some od)/\∀name,Jp name od=some (mA name):=
 let ⟨od,ho,hl⟩:=tx I.ns
 ⟨od,⟨I.obj,rfl,rfl,ho⟩,hl⟩
section
variable{prog:Kj}{w:Ki}{A:Kp}{E:bf}{s:Kh}{K:Jo}{x dx C f:Ke}{mA:bj}{name:Str}{v:Kc}
theorem xZ{expr:Bool}{Q:bf}(X:K.In s.heap)(I:uB s.heap x dx C mA)(hg:Jq K C name=true)(hh:Jr K C=true)
  (ha:Js K (.ref C) name=some none) (hv:mA name=some v) (hv':Jt v=true) (h:Q v {s with toks:=s.toks+1}):
  Kt `j A (getAttr (.ref x) name expr) Q E s:=by
 obtain⟨od,J,hl⟩:=I.look;exact PySem.W.get_value X J (Ju hg).1 (PySem.W.findObj_own hh ha rfl (by rw[hl,hv])) hv' h
theorem wu{pl:Sem Bool}{Q:Kc×List Kc->gq}(X:K.In s.heap)(I:uB s.heap x dx C mA)(hg:Jq K C name=true)
  (hf:Js K (.ref C) name=some (some (.ref f))) (ht:Jv K (.ref f)=true) (hv:mA name=none) (h:Q (.ref f,[.ref x]) s):
  Kt `j A (getMethod (.ref x) name pl) Q E s:=by
 obtain⟨od,J,hl⟩:=I.look;exact PySem.W.method_fn X J (Ju hg).1 (Ju hg).2 hf (beq_iff_eq.mp ht) (by show(Jp name od).map (·.isSome)=some false;rw[hl,hv];rfl) h
theorem xn{ns:ao}{Q:Unit->gq}(X:K.In s.heap)(I:uB s.heap x dx C mA)
  (hs:Js K (.ref C) "__setattr__"=some (some (.builtin "object.__setattr__"))) (hp:Jw K C=true) (ht:Jx K C name=some none) (hh:Jr K C=true)
  (hw:PySem.Within mA ns) (hsz:ns.length<=Km)
  (h:∀h',uB h' x dx C (λy=>if y=name then some v else mA y)->JW dx s.heap h'->Q () {s with heap:=h',toks:=s.toks+2}):
  Kt `j A (setAttr (.ref x) name v) Q E s:=by
 obtain⟨od,J,hl⟩:=I.look;refine PySem.W.set_plain X J hs (PySem.W.osa_open (s:={s with toks:=s.toks+1}) (r:=none) X J hp ht λb=>?_);obtain⟨cd,hc,hd'⟩:=PySem.W.any_some hh;have hx:s.heap.get? x=some ⟨.ref C,some dx,.plain,#[]⟩:=I.obj;refine Ky (KC (Ky (Ky (wpAny_loadPart hx (Ky (PySem.W.Looks.here (s:={s with toks:=s.toks+1}) (PySem.W.looks_clsIn X hc) ?_))))));rw[hd'];refine KC (a:=some dx) (Ky (KC (Ky ?_)));refine wpAny_nsSet1 (s:={s with toks:=s.toks+1}) I.ns λh' hn2 hs2=>?_;obtain⟨oD,esD,epD,hoD,hdD,hcD⟩:=hn2.count (PySem.Within.cons name v hw);refine Ky (wpAny_lookBehind hoD (by rw[hdD];exact pastItsLine_dict (Hg hcD (by rw[Hw];omega))) ?_);exact KC (h _ ⟨(hs2.2 _ (Ne.symm I.ne)).trans I.obj,hn2,I.ne⟩ hs2)
theorem wd{R:Result->gq}{vs:aP}{kw:List (Str×Kc)}(X:K.In s.heap)(hm:Jy K C=true)
  (hi:Js K (.ref C) "__init__"=some (some (.ref f))) (hf:Jz K (.ref f)=some (.type "function"))
  (h:KO `j (A.under (.builtin "type.__call__" ⟨.ref C::vs,kw⟩)) (.call (.ref f) ⟨.ref (s.heap.objs.size+1)::vs,kw⟩) (PySem.W.InitBack (s.heap.objs.size+1) R)
   {s with heap:=(s.heap.push JA).push (Jl C s.heap.objs.size)}):
  KO `j A (.call (.ref C) ⟨vs,kw⟩) R s:=by
 obtain⟨hh,g,d,t,os⟩:=s;exact PySem.W.make_core (PySem.W.makes_of X hm) (PySem.W.looks_findIn X hi) (λself=>PySem.W.bind_fn X self hf) (.inl rfl) h
end
noncomputable def gl(f:Str)(v:V):List (Str×V)->List (Str×V)
 |[]=>[(f,v)]
 |(g,x)::r=>if g=f then(g,v)::r else(g,x)::gl f v r
theorem kz(f g:Str)(v:V):∀fs:List (Str×V),(gl f v fs).lookup g=if g=f then some v else fs.lookup g
 |[]=>by
  show List.lookup g [(f,v)]=_;by_cases h:g=f
  ·have hb:(g==f)=true:=beq_iff_eq.mpr h;simp only[List.lookup,hb,if_pos h]
  ·have hb:(g==f)=false:=beq_eq_false_iff_ne.mpr h;simp only[List.lookup,hb,if_neg h]
 |(k,x)::r=>by
  have ih:=kz f g v r;rw[show gl f v ((k,x)::r)=(if k=f then(k,v)::r else(k,x)::gl f v r)from rfl];by_cases hk:k=f
  ·rw[if_pos hk];by_cases h:g=k
   ·have hb:(g==k)=true:=beq_iff_eq.mpr h;simp only[List.lookup,hb,if_pos (h.trans hk)]
   ·have hb:(g==k)=false:=beq_eq_false_iff_ne.mpr h;simp only[List.lookup,hb,if_neg (λe:g=f=>h (e.trans hk.symm))]
  ·rw[if_neg hk];by_cases h:g=k
   ·have hb:(g==k)=true:=beq_iff_eq.mpr h;simp only[List.lookup,hb,if_neg (λe:g=f=>hk (h.symm.trans e))]
   ·have hb:(g==k)=false:=beq_eq_false_iff_ne.mpr h;simp only[List.lookup,hb];exact ih
theorem j3(f:Str)(v:V):∀fs:List (Str×V),f∈(gl f v fs).map (·.1)/\∀g,g∈fs.map (·.1)->g∈(gl f v fs).map (·.1)
 |[]=>⟨by simp[gl],λg h=>by simp at h⟩
 |(k,x)::r=>by
  obtain⟨i1,i2⟩:=j3 f v r;rw[show gl f v ((k,x)::r)=(if k=f then(k,v)::r else(k,x)::gl f v r)from rfl];by_cases hk:k=f
  ·rw[if_pos hk];subst hk;exact⟨by simp,λg h=>by simpa using h⟩
  ·rw[if_neg hk];refine⟨?_,λg h=>?_⟩
   ·rw[Hx];exact Hk _ i1
   ·rw[Hx]at h ⊢;rcases List.mem_cons.mp h with e|e
    ·exact List.mem_cons.mpr (.inl e)
    ·exact Hk _ (i2 g e)
theorem kA(f:Str)(v:V):∀fs:List (Str×V),(gl f v fs).length<=fs.length+1
 |[]=>by simp[gl]
 |(k,x)::r=>by
  have ih:=kA f v r;rw[show gl f v ((k,x)::r)=(if k=f then(k,v)::r else(k,x)::gl f v r)from rfl];by_cases hk:k=f
  ·rw[if_pos hk,Hw,Hw];omega
  ·rw[if_neg hk,Hw,Hw];omega
theorem oa.some_of{v:V}{o:Option Kc}(r:oa (some v) o):∃u,o=some u/\RelV v u:=by
 cases o with
 |none=>exact(show False from r).elim
 |some u=>exact⟨u,rfl,r⟩
theorem oa.none_of{o:Option Kc}(r:oa none o):o=none:=by
 cases o with
 |none=>rfl
 |some u=>exact(show False from r).elim
theorem uI{v:V}{u:Kc}(r:RelV v u):Jt u=true:=by
 cases v with
 |non=>cases(show u=Value.none from r);rfl
 |bl b=>cases(show u=Value.bool b from r);rfl
 |int i=>obtain⟨t,e⟩:=(show∃t,u=Value.int i t from r);cases e;rfl
 |str x=>obtain⟨t,e⟩:=(show∃t,u=Value.str x t from r);cases e;rfl
 |byt b=>obtain⟨t,e⟩:=(show∃t,u=Value.bytes b t from r);cases e;rfl
 |flt b=>obtain⟨t,e⟩:=(show∃t,u=Value.float b t from r);cases e;rfl
 |ref a=>cases(show u=Value.ref a from r);rfl
 |ty n=>cases(show u=Value.type n from r);rfl
section
variable{P:Kj}{w:Ki}{H H':Hp}{h h':Kl}{a C dx:Ke}{fs fs':List (Str×V)}
theorem n6(hok:jN P w H h)(e:H a=some (.ins C dx fs)):∃mA,uB h a dx C mA/\(∀f,oa (fs.lookup f) (mA f))/\PySem.Within mA (fs.map (·.1))/\fs.length<=1000/\H dx=some (.own a):=by
 obtain⟨d,z,ne,ob,mA,n,r,q⟩:=(show bL P w H h a (.ins C dx fs)from hok a _ e)
 exact⟨mA,⟨ob,n,ne⟩,r,q,z,d⟩
end
structure me(K:Jo)(C:Ke):Prop where
 pg:Jq K C Str.empty=true
 hd:Jr K C=true
 po:Jw K C=true
 sa:Js K (.ref C) "__setattr__"=some (some (.builtin "object.__setattr__"))
theorem me.get{K:Jo}{C:Ke}(c:me K C)(f:Str):Jq K C f=true:=c.pg
noncomputable def eA(K:Jo)(C:Ke)(f:Str):Prop:=Js K (.ref C) f=some none
theorem eA.taker{K:Jo}{C:Ke}{f:Str}(n:eA K C f):Jx K C f=some none:=by
 unfold Jx;rw[show Js K (.ref C) f=some none from n];rfl
structure Meth(K:Jo)(C:Ke)(m:Str)(f:Ke):Prop where
 at_:Js K (.ref C) m=some (some (.ref f))
 fn:Jv K (.ref f)=true
 kp:JB K (.ref f)=true
section
variable{X:Cx}{pins:aK}{σ:St}{H:Hp}{s:Kh}{a C dx:Ke}{fs:List (Str×V)}{f:Str}{v:V}{A:Kp}{E:bf}
theorem qK{b:Bool}{Q:bf}(I:`g)(e:H a=some (.ins C dx fs))(c:me X.K C)(n:eA X.K C f)(l:fs.lookup f=some v)
  (h:∀u s',Inv X pins σ H s'->RelV v u->Q u s'):Kt `i A (getAttr (.ref a) f b) Q E s:=by
 obtain⟨mA,O,r,_,_,_⟩:=n6 I.hok e;obtain⟨u,hu,ru⟩:=oa.some_of (v:=v) (o:=mA f) (by rw[<-l];exact r f);exact xZ I.kIn O (c.get f) c.hd n hu (uI ru) (h u _ (I.tok _) ru)
theorem qN{m:Str}{g:Ke}{pl:Sem Bool}{Q:Kc×List Kc->gq}(I:`g)(e:H a=some (.ins C dx fs))(c:me X.K C)(k:Meth X.K C m g)(l:fs.lookup m=none)
  (h:Q (.ref g,[.ref a]) s):Kt `i A (getMethod (.ref a) m pl) Q E s:=by
 obtain⟨mA,O,r,_,_,_⟩:=n6 I.hok e;have hn:mA m=none:=oa.none_of (by rw[<-l];exact r m);exact wu I.kIn O (c.get m) k.at_ k.fn hn h
theorem qP{y:V}{u:Kc}{Q:Unit->gq}(I:`g)(e:H a=some (.ins C dx fs))(c:me X.K C)(n:eA X.K C f)(hl:fs.length<1000)(ry:RelV y u)
  (h:∀s',Inv X pins σ (upd H a (.ins C dx (gl f y fs))) s'->Q () s'):Kt `i A (setAttr (.ref a) f u) Q E s:=by
 obtain⟨mA,O,r,wi,_,ho⟩:=n6 I.hok e;have hz:(fs.map (·.1)).length<=Km:=by rw[Hy,sizeLine_eq];omega
 refine xn I.kIn O c.sa c.po n.taker c.hd wi hz λh' O' sb=>h _ ?_;have hd:∃o,h'.get? dx=some o:=let ⟨o,_,_,e',_⟩:=O'.ns;⟨o,e'⟩
 refine I.write (x:=a) (e:=dx) (by rw[e];exact True.intro) (.inr ho) (λb q hb z=>(sb.2 b hb).trans z) hd ?_;refine⟨by rw[ax O.ne];exact ho,?_,O.ne,O'.obj,_,O'.ns,λg=>?_,λg hg=>?_⟩
 ·have:=kA f y fs;omega
 ·show oa ((gl f y fs).lookup g) (if g=f then some u else mA g);rw[kz];by_cases q:g=f
  ·rw[if_pos q,if_pos q];exact ry
  ·rw[if_neg q,if_neg q];exact r g
 ·by_cases q:g=f
  ·rw[q];exact(j3 f y fs).1
  ·refine(j3 f y fs).2 g (wi g λz=>hg ?_);show(if g=f then some u else mA g)=none;rw[if_neg q];exact z
theorem Inv.made(I:`g):Inv X pins σ (upd (upd H s.heap.objs.size (.own (s.heap.objs.size+1))) (s.heap.objs.size+1) (.ins C s.heap.objs.size []))
  {s with heap:=(s.heap.push JA).push (Jl C s.heap.objs.size)}:=by
 have e1:(s.heap.push JA).get? s.heap.objs.size=some JA:=JY s.heap rfl;have e2:((s.heap.push JA).push (Jl C s.heap.objs.size)).get? (s.heap.objs.size+1)=some (Jl C s.heap.objs.size):=by
  have:=JY (s.heap.push JA) (o:=Jl C s.heap.objs.size) rfl
  rwa [JZ]at this
 have e3:(s.heap.push JA).Ns s.heap.objs.size (λ_=>none):=⟨JA,#[],_,e1,rfl,(λe he=>absurd he `h),λ_=>rfl⟩
 have I1:=I.laid (a:=s.heap.objs.size) (o:=.own (s.heap.objs.size+1)) (h':=s.heap.push JA) (t':=s.toks) (λb u q=>JX _ q) (Hs _) ⟨_,e1⟩;refine I1.laid (a:=s.heap.objs.size+1) (o:=.ins C s.heap.objs.size []) (t':=s.toks) (λb u q=>JX _ q) (Hz (JZ _ _)) ?_;have ne:s.heap.objs.size≠s.heap.objs.size+1:=Hf (Nat.lt_succ_self _);refine⟨by rw[ax ne,aD],HA _,ne,e2,λ_=>none,(Heap.Ns1.of_empty e3).at λo q=>JX _ q,λ_=>True.intro,λy hy=>absurd rfl hy⟩
theorem xC{prog:Kj}{w:Ki}{env:Env}{e:Kf}{f:Str}{pos:Pos}{s:Kh}{Q:bf}(hb:KP e f env (eval e env)=eval e env)
  (h:Kt `j A (eval e env) (λo s₁=>Kt `j A (getAttr o f true) Q E s₁) E s):Kt `j A (eval (.Attribute e f pos) env) Q E s:=
 Attribute_any_ h (by rw[arm_eval_Attribute,hb])
end
noncomputable def Eg(K:Jo)(ta:TE)(f:Str):TE:=λσ H Q=>ta σ H λx H1=>∃a C dx fs v,x=.ref a/\H1 a=some (.ins C dx fs)/\me K C/\eA K C f/\fs.lookup f=some v/\Q v H1
noncomputable def Fi(K:Jo)(ta tv:TE)(f:Str):TS:=λD σ H=>tv σ H λy H1=>ta σ H1 λx H2=>∃a C dx fs,x=.ref a/\H2 a=some (.ins C dx fs)/\me K C/\eA K C f/\fs.length<1000/\
 D.nx σ (upd H2 a (.ins C dx (gl f y fs)))
section
variable{X:Cx}{o e value:Kf}{f:Str}{pos pos' tpos:Pos}{ta tv:TE}
theorem Aa(he:PE X e ta)(hb:KP e f X.env (eval e X.env)=eval e X.env):PE X (.Attribute e f pos) (Eg X.K ta f):=by
 intro pins s σ H Q I h;refine xC hb (b9 (he pins s σ H _ I h) λu s1 zq=>zq.elim λx zq=>zq.elim λH1 zq=>zq.elim λI1 zq=>zq.elim λrx zq=>zq.elim λa zq=>zq.elim λC zq=>zq.elim λdx zq=>zq.elim λfs zq=>zq.elim λv zq=>zq.elim λex zq=>zq.elim λea zq=>zq.elim λc zq=>zq.elim λn zq=>zq.elim λl q=>?_);subst ex;obtain rfl:u=Value.ref a:=rx;exact qK I1 ea c n l λu' s2 I2 ru=>⟨v,H1,I2,ru,q⟩
theorem xf(ha:PE X o ta)(hv:PE X value tv)(hs:swapsWith value (some (.Attribute o f pos')) pos.line X.env=pure false):PS X (.Assign [.Attribute o f pos'] value pos) (Fi X.K ta tv f):=by
 intro pins s σ H D I h;refine plainObj_wpAny_Assign_Attribute (b9 (hv pins s σ H _ I h) λu s1 zq=>zq.elim λy zq=>zq.elim λH1 zq=>zq.elim λI1 zq=>zq.elim λry q=>b9 (ha pins s1 σ H1 _ I1 q) λov s2 h2=>?_) hs;obtain⟨x,H2,I2,rx,a,C,dx,fs,ex,ea,c,n,l,q2⟩:=h2;subst ex;obtain rfl:ov=Value.ref a:=rx;exact qP I2 ea c n l ry λs3 I3=>⟨σ,_,I3,q2⟩
theorem kx{pl:Sem Bool}{m:Str}{apos:Pos}{args:aX}{pins:aK}{s:Kh}{σ:St}{H:Hp}{Q:bf}{te:TE}(he:PE X e te)(I:`g)
  (h:te σ H fun x H1=>∃ a C dx fs g,x=.ref a/\H1 a=some (.ins C dx fs)/\me X.K C/\Meth X.K C m g/\fs.lookup m=none /\
   ∀s1,Inv X pins σ H1 s1->Kt `i X.A (KQ pos (.ref g) [.ref a] (backTo pos (Ku args X.env)) (backToKw pos (KR [] X.env))) Q X.xe s1)
  (ht:eval (.Call (.Attribute e m apos) args [] pos) X.env=(do
   let ov<-eval e X.env
   standAt apos.atName
   let (f,first)<-holding [ov] (getMethod ov m pl)
   KQ pos f first (backTo pos (Ku args X.env)) (backToKw pos (KR [] X.env)))):
  Kt `i X.A (eval (.Call (.Attribute e m apos) args [] pos) X.env) Q X.xe s:=by
 refine PySem.W.methodCall_KW (pl:=pl) (b9 (he pins s σ H _ I h) λu s1 zq=>zq.elim λx zq=>zq.elim λH1 zq=>zq.elim λI1 zq=>zq.elim λrx zq=>zq.elim λa zq=>zq.elim λC zq=>zq.elim λdx zq=>zq.elim λfs zq=>zq.elim λg zq=>zq.elim λex zq=>zq.elim λea zq=>zq.elim λc zq=>zq.elim λk zq=>zq.elim λl q=>?_) ht;subst ex;obtain rfl:u=Value.ref a:=rx;exact qN I1 ea c k l (q s1 I1)
end
structure cz(k:Nat)(A:Kp):Prop where
 hd:A.handled=none
 dp:A.depth+3*k+5<recursionLimit
 un:A.units+16*k+200<KS
theorem cz.mono{j k:Nat}{A:Kp}(r:cz k A)(h:j<=k):cz j A:=⟨r.hd,by have:=r.dp;omega,by have:=r.un;omega⟩
theorem cz.deeper{k:Nat}{A:Kp}(r:cz (k+1) A)(env:Env):cz k (A.deeper env):=
 ⟨r.hd,by have:=r.dp;show A.depth+1+3*k+5<_;omega,by have:=r.un;show A.units+3+16*k+200<_;omega⟩
theorem qD{A:Kp}{C:Ke}{us:aP}{kw:List (Str×Kc)}:(A.under (.builtin "type.__call__" ⟨.ref C::us,kw⟩)).depth=A.depth+1:=by
 first|rfl|simp[Around.under,Code.weight,Code.isCreation,Code.isGuard,Code.isCaller,Code.frames,Code.isFrame,guardIds]
theorem qA{A:Kp}{C:Ke}{us:aP}{kw:List (Str×Kc)}:(A.under (.builtin "type.__call__" ⟨.ref C::us,kw⟩)).units=A.units+1:=by
 first|rfl|simp[Around.under,Code.cUnits,Code.frames,Code.isFrame]
theorem cz.make{k:Nat}{A:Kp}(r:cz (k+1) A)(C:Ke)(us:aP)(kw:List (Str×Kc)):cz k (A.under (.builtin "type.__call__" ⟨.ref C::us,kw⟩)):=
 ⟨r.hd,by have:=r.dp;rw[qD];omega,by have:=r.un;rw[qA];omega⟩
theorem cz.depth{k:Nat}{A:Kp}(r:cz k A):A.depth<recursionLimit:=by have:=r.dp;omega
theorem cz.units{k:Nat}{A:Kp}(r:cz k A):A.units+64<KS:=by have:=r.un;omega
noncomputable def CD:TA:=λ_ H Q=>Q [] H
noncomputable def vS(ta:TE)(tr:TA):TA:=λσ H Q=>ta σ H λx H1=>tr σ H1 λxs H2=>Q (x::xs) H2
section
variable{X:Cx}{e:Kf}{es:aX}{te:TE}{t:TA}{pos:Pos}
theorem jz:PA X [] CD:=λ_ _ _ _ H Q I h=>Calls.spliced_nil ⟨[],H,I,.nil,h⟩
theorem cC(ha:PE X e te)(hr:PA X es t)(hs:Ku (e::es) X.env=(false,eval e X.env)::Ku es X.env:=by rfl):PA X (e::es) (vS te t):=by
 intro pos pins s σ H Q I h;rw[hs];show Kt _ _ (spliced ((false,eval e X.env)::backTo pos (Ku es X.env))) _ _ s;refine Calls.spliced_cons (b9 (ha pins s σ H _ I h) λu s1 zq=>zq.elim λx zq=>zq.elim λH1 zq=>zq.elim λI1 zq=>zq.elim λr1 q1=>?_);exact b9 (hr pos pins s1 σ H1 _ I1 q1) λus s2 zq=>zq.elim λxs zq=>zq.elim λH2 zq=>zq.elim λI2 zq=>zq.elim λr2 q2=>⟨x::xs,H2,I2,.cons r1 r2,q2⟩
noncomputable def E9(t:TA):TE:=λσ H Q=>t σ H λxs H1=>xs.length<=Km/\∀p,H1 p=none->Q (.ref p) (upd H1 p (.tup xs))
noncomputable def DZ(t:TA):TE:=λσ H Q=>t σ H λxs H1=>xs.length<=Km/\∀p,H1 p=none->Q (.ref p) (upd H1 p (.lst xs))
theorem AQ{x1}(h:PA X es t):PE X (.Tuple es x1 pos) (E9 t):=by
 intro pins s σ H Q I hq;refine wpAny_Tuple_spliced (b9 (h pos pins s σ H _ I hq) λus s1 zq=>zq.elim λxs zq=>zq.elim λH1 zq=>zq.elim λI1 zq=>zq.elim λr zq=>zq.elim λz q=>⟨by rw[<-r.length];exact z,?_⟩);have hf:H1 s1.heap.objs.size=none:=I1.hok.fresh (Hs _);refine⟨.ref s1.heap.objs.size,upd H1 s1.heap.objs.size (.tup xs),I1.laid (t':=s1.toks) (λb u e=>JX _ e) (Hs _) ?_,rfl,q _ hf⟩;exact⟨z,us,r,⟨_,JY _ rfl,rfl,_,rfl⟩⟩
theorem uV(h:PA X es t):PE X (.List es pos) (DZ t):=by
 intro pins s σ H Q I hq;refine wpAny_List_spliced (b9 (h pos pins s σ H _ I hq) λus s1 zq=>zq.elim λxs zq=>zq.elim λH1 zq=>zq.elim λI1 zq=>zq.elim λr zq=>zq.elim λz q=>⟨by rw[<-r.length];exact z,?_⟩);have hf:H1 s1.heap.objs.size=none:=I1.hok.fresh (Hs _);refine⟨.ref s1.heap.objs.size,upd H1 s1.heap.objs.size (.lst xs),I1.laid (t':=s1.toks) (λb u e=>JX _ e) (Hs _) ?_,rfl,q _ hf⟩;exact⟨z,us,0,r,JY _ rfl⟩
end
noncomputable abbrev Sp:=List V->Hp->VK->XK->Prop
noncomputable abbrev qd:=List Env->Hp->Kh->XK->bf
structure tH(P:Kj)(w:Ki)(K:Jo)(mg:bj)(base:Kl)(A:Kp)(outer:List Env)(s:Kh)(H:Hp):Prop where
 frames:A.frames=some outer
 mod:Mod K mg base
 bs:∀b o,base.get? b=some o->s.heap.get? b=some o/\H b=none
 bsz:base.objs.size<=s.heap.objs.size
 funs:s.heap.FunFrames base outer
 frf:∀b∈frs outer,H b=none
 hok:jN P w H s.heap
 bare:AllBare s.gens
noncomputable def CE(outer:List Env)(P:Kj)(w:Ki)(H:Hp)(s:Kh)(Q:VK)(u:Kc)(s':Kh):Prop:=
 ∃v H',s'.os=s.os/\AllBare s'.gens/\Un (frs outer) [] H H' s.heap s'.heap/\jN P w H' s'.heap/\RelV v u/\Q v H'
noncomputable def CR(CX:qd)(outer:List Env)(P:Kj)(w:Ki)(H:Hp)(s:Kh)(Q:VK)(E:XK)(r:Result)(s':Kh):Prop:=
 match r with
 |.ok (.ret u)=>CE outer P w H s Q u s'
 |.ok _=>False
 |.error e=>CX outer H s E e s'
structure dJ(P:Kj)(w:Ki)(K:Jo)(mg:bj)(base:Kl)(CX:qd)(k:Nat)(f:Ke)(fd:KU)(ps:ao)(sp:Sp):Prop where
 len:∀vs H Q E,sp vs H Q E->vs.length=ps.length
 run:∀(A:Kp)(outer:List Env)(s:Kh)(H:Hp)(args:Args)(us:aP)(vs:az)(Q:VK)(E:XK),cz k A->tH P w K mg base A outer s H->KW s fd args (ps.zip us)->Vals vs us->sp vs H Q E->
  KO (model P w) A (.call (.ref f) args) (CR CX outer P w H s Q E) s
theorem dJ.mono{P:Kj}{w:Ki}{K:Jo}{mg:bj}{base:Kl}{CX:qd}{j k:Nat}{f:Ke}{fd:KU}{ps:ao}{sp:Sp}(F:dJ P w K mg base CX j f fd ps sp)(h:j<=k):
  dJ P w K mg base CX k f fd ps sp:=⟨F.len,λA outer s H args us vs Q E hr=>F.run A outer s H args us vs Q E (hr.mono h)⟩
theorem tH.make{P:Kj}{w:Ki}{K:Jo}{mg:bj}{base:Kl}{A:Kp}{outer:List Env}{s:Kh}{H:Hp}(e:tH P w K mg base A outer s H)(C:Ke)(us:aP)(kw:List (Str×Kc)):
  tH P w K mg base (A.under (.builtin "type.__call__" ⟨.ref C::us,kw⟩)) outer s H:=⟨by first|exact e.frames|(simpa [Around.under,Code.envs,Code.isFrame,pushEnvs]using e.frames),e.mod,e.bs,e.bsz,e.funs,e.frf,e.hok,e.bare⟩
section
variable{X:Cx}{pins:aK}{σ:St}{H:Hp}{s s':Kh}
theorem Inv.env0(I:`g):tH X.prog X.w X.K X.mg X.base X.A X.stack s H:=
 ⟨I.ok.frames,I.ok.mod,I.bs,Hg I.ok.bsz I.sz,I.stack,I.stkFree,I.hok,I.bare⟩
theorem Inv.after{Q:VK}{u:Kc}(I:`g)(h:CE X.stack X.prog X.w H s Q u s'):EP X pins σ Q u s':=by
 obtain⟨v,H',os,bare,un,hok,r,q⟩:=h;obtain⟨hh,g,d,t,os'⟩:=s';obtain rfl:os'=s.os:=os;exact⟨v,H',I.call (h':=hh) (g':=g) (d':=d) (t':=t) (ch:=[]) un hok bare (λb z=>absurd z `h),r,q⟩
end
noncomputable def Ck(C:Ke)(sp:Sp)(dvs:az)(E:XK)(t:TA):TE:=λσ H Q=>t σ H λvs H1=>∀x dx,H1 x=none->H1 dx=none->dx≠x->
 sp (.ref x::(vs++dvs)) (upd (upd H1 dx (.own x)) x (.ins C dx [])) (λv H2=>v=.non/\Q (.ref x) H2) E
noncomputable def Binds(K:Jo)(fd:KU)(ps:ao)(ds:aP):Prop:=
 ∀(s:Kh)(us:aP),K.In s.heap->(us++ds).length=ps.length->KW s fd ⟨us,[]⟩ (ps.zip (us++ds))
theorem Binds.all{K:Jo}{fd:KU}{ps:ao}(h:∀us:aP,us.length=ps.length->bindArgs fd ⟨us,[]⟩=pure (ps.zip us)):Binds K fd ps []:=λs us _ hl=>by
 rw[HB]at hl ⊢;exact .of_eq (h us hl)
noncomputable def qy(CX:qd)(X:Cx)(E:XK):Prop:=∀(pins:aK)(σ:St)(H:Hp)(s:Kh)(e:Kc)(s':Kh),Inv X pins σ H s->CX X.stack H s E e s'->X.xe e s'
section
variable{X:Cx}{CX:qd}{k:Nat}{f C:Ke}{fd:KU}{ps:ao}{sp:Sp}{dvs:az}{ds:aP}{E:XK}{x m:Str}{p pos apos:Pos}{e o:Kf}{es:aX}{ta:TE}{t:TA}
structure Mk(K:Jo)(C f:Ke):Prop where
 makes:Jy K C=true
 init:Js K (.ref C) "__init__"=some (some (.ref f))
 fn:Jv K (.ref f)=true
 kp:JB K (.ref C)=true
theorem vo{pins:aK}{σ:St}{H:Hp}{s:Kh}{Q:VK}{us:aP}{vs:az}(M:Mk X.K C f)(F:dJ X.prog X.w X.K X.mg X.base CX k f fd ps sp)(hr:cz (k+1) X.A)(hb:Binds X.K fd ps ds)(hd:Vals dvs ds)
  (hx:qy CX X E) (I:`g) (r:Vals vs us)
  (h:∀x dx,H x=none->H dx=none->dx≠x->sp (.ref x::(vs++dvs)) (upd (upd H dx (.own x)) x (.ins C dx [])) (λv H2=>v=.non/\Q (.ref x) H2) E):
  Kt `i X.A (call (.ref C) us) (EP X pins σ Q) X.xe s:=by
 have hq:=h (s.heap.objs.size+1) s.heap.objs.size (I.hok.fresh (Nat.le_succ _)) (I.hok.fresh (Hs _)) (Hf (Nat.lt_succ_self _));have I2:=Inv.made (C:=C) I;have r2:Vals (V.ref (s.heap.objs.size+1)::(vs++dvs)) (Value.ref (s.heap.objs.size+1)::(us++ds)):=.cons rfl (r.append hd);have hl:(Value.ref (s.heap.objs.size+1)::us++ds).length=ps.length:=by
  have e:=r2.length;rw[F.len _ _ _ _ hq]at e;exact e.symm
 refine KY (wd (f:=f) I.kIn M.makes M.init (beq_iff_eq.mp M.fn) (KZ (F.run _ X.stack _ _ ⟨Value.ref (s.heap.objs.size+1)::us,[]⟩ (Value.ref (s.heap.objs.size+1)::(us++ds)) _ _ E (hr.make C us [])
  (I2.env0.make C us []) (hb _ (Value.ref (s.heap.objs.size+1)::us) I2.kIn hl) r2 hq) λr s' hq'=>?_))
 cases r with
 |error e=>exact hx pins σ _ _ e s' I2 hq'
 |ok fl=>
  cases fl with
  |ret u=>
   obtain⟨v,H',I3,rv,ev,q3⟩:=I2.after hq';subst ev;exact⟨rv,⟨V.ref (s.heap.objs.size+1),H',I3,rfl,q3⟩⟩
  |next=>exact False.elim hq'
  |brk=>exact False.elim hq'
  |cont=>exact False.elim hq'
theorem yu(M:Mk X.K C f)(F:dJ X.prog X.w X.K X.mg X.base CX k f fd ps sp)(hr:cz (k+1) X.A)(hg:Gl X x)(hm:X.mg x=some (.ref C))(hb:Binds X.K fd ps ds)(hd:Vals dvs ds)(hx:qy CX X E)
  (ha:PA X (e::es) t) (hdb:(x==("__debug__":Str))=false:=by decide) (he:Ku (e::es) X.env=(false,eval e X.env)::Ku es X.env:=by rfl) (hpl:(backTo pos (Ku es X.env)).any (·.1)=false:=by rfl):
  PE X (.Call (.Name x p) (e::es) [] pos) (Ck C sp dvs E t):=by
 intro pins s σ H Q I h;refine K1 (jh I hg hm ?_ hdb);refine JC (h₀:=X.base) I.ok.mod.kin M.kp (b9 (ha pos pins s σ H _ I h) λus s1 zq=>zq.elim λvs zq=>zq.elim λH1 zq=>zq.elim λI1 zq=>zq.elim λr q=>⟨I1.kIn,?_⟩) he hpl;exact vo M F hr hb hd hx I1 r q
end
structure bP(N P:ao)(sc:Kq):Prop where
 kind:sc.kind=.function
 co:sc.isCoroutine=false
 gen:sc.isGenerator=false
 nd:N.Nodup
 pre:N.take P.length=P
 par:∀x∈P,sc.names.lookup x=some .local\/sc.names.lookup x=some .cell
 nofree:∀y∈sc.names,y.2≠.free
theorem ny{kindOf:Str->Option Kd}{x:Str}:∀{binds:List (Str×Kc)}{m:bj},(∀v,(x,v)∉binds)->bindL kindOf binds m x=m x
 |[],_,_=>rfl
 |(n,v)::r,m,h=>by
  unfold bindL;rw[ny λw hw=>h w (Hk _ hw)];split
  ·have:x≠n:=(by rintro rfl;exact h v Hj);simp[this]
  ·rfl
theorem nn{kindOf:Str->Option Kd}{x:Str}:∀{binds:List (Str×Kc)}{m:bj},(∀v,(x,v)∉binds)->bindC kindOf binds m x=m x
 |[],_,_=>rfl
 |(n,v)::r,m,h=>by
  unfold bindC;rw[nn λw hw=>h w (Hk _ hw)];split
  ·rfl
  ·have:x≠n:=(by rintro rfl;exact h v Hj);simp[this]
theorem mI{kindOf:Str->Option Kd}{x:Str}{v:Kc}:∀{P:ao}{vs:aP}{i:Nat}{m:bj},P.Nodup->P[i]?=some x->vs[i]?=some v->kindOf x=some .local->
  bindL kindOf (P.zip vs) m x=some v
 |[],_,_,_,_,h,_,_=>by simp at h
 |_::_,[],_,_,_,_,h,_=>by simp at h
 |p::P,w::vs,0,m,nd,h1,h2,hk=>by
  simp at h1 h2;subst h1;subst h2;show bindL kindOf ((p,w)::P.zip vs) m p=_;unfold bindL;rw[ny λv hv=>(List.nodup_cons.mp nd).1 (HC hv).1,if_pos hk];simp
 |p::P,w::vs,i+1,m,nd,h1,h2,hk=>by
  show bindL kindOf ((p,w)::P.zip vs) m x=_;unfold bindL;exact mI (i:=i) (List.nodup_cons.mp nd).2 (by simpa using h1) (by simpa using h2) hk
theorem mG{kindOf:Str->Option Kd}{x:Str}{v:Kc}:∀{P:ao}{vs:aP}{i:Nat}{m:bj},P.Nodup->P[i]?=some x->vs[i]?=some v->kindOf x≠some .local->
  bindC kindOf (P.zip vs) m x=some v
 |[],_,_,_,_,h,_,_=>by simp at h
 |_::_,[],_,_,_,_,h,_=>by simp at h
 |p::P,w::vs,0,m,nd,h1,h2,hk=>by
  simp at h1 h2;subst h1;subst h2;show bindC kindOf ((p,w)::P.zip vs) m p=_;unfold bindC;rw[nn λv hv=>(List.nodup_cons.mp nd).1 (HC hv).1,if_neg hk];simp
 |p::P,w::vs,i+1,m,nd,h1,h2,hk=>by
  show bindC kindOf ((p,w)::P.zip vs) m x=_;unfold bindC;exact mG (i:=i) (List.nodup_cons.mp nd).2 (by simpa using h1) (by simpa using h2) hk
noncomputable def start(N:ao)(vs:az):St:=vs.map some++List.replicate (N.length-vs.length) none
noncomputable def eK(CX:qd)(P:Kj)(w:Ki)(K:Jo)(mg:bj)(base:Kl)(N:ao)(qual:Str)(scope:Kq)(f:Ke)(cd:Kc)(A:Kp)(outer:List Env)(s:Kh)(H:Hp)(E:XK):Cx where
 prog:=P
 w:=w
 K:=K
 mg:=mg
 base:=base
 A:=A.deeper (envOfC qual scope s.heap.objs.size f cd)
 N:=N
 s₀:=s
 H₀:=H
 env:=envOfC qual scope s.heap.objs.size f cd
 outer:=outer
 stack:=envOfC qual scope s.heap.objs.size f cd::outer
 ex:=[]
 calm:=true
 fn:=λ_=>true
 pn:=[]
 xe:=λe s'=>Kt (model P w) (A.deeper (envOfC qual scope s.heap.objs.size f cd)) (leaving (envOfC qual scope s.heap.objs.size f cd) e) (λ_ s''=>CX outer H s E e s'') (λe' s''=>CX outer H s E e' s'') s'
theorem pA{sc:Kq}{n:Nat}{x:Str}(h:sc.names.lookup x=some .cell):∃c,(cellsFrom n sc.names []).lookup x=some c:=by
 have q:=JD sc.names n [] (.inl h);exact Option.isSome_iff_exists.mp q
theorem ug{CX:qd}{P:Kj}{w:Ki}{K:Jo}{mg:bj}{base:Kl}{N ps:ao}{qual:Str}{scope:Kq}{f:Ke}{cd:Kc}{A:Kp}{outer:List Env}{s s1:Kh}{H:Hp}{E:XK}{us:aP}{vs:az}
  (S:bP N ps scope) (hd:A.handled=none) (e0:tH P w K mg base A outer s H) (hl:vs.length=ps.length) (r:Vals vs us)
  (x:InCallC s s.heap.objs.size (bindL (envOfC qual scope s.heap.objs.size f cd).kindOf (ps.zip us) λ_=>none) (cellsFrom (s.heap.objs.size+1) scope.names []) (bindC (envOfC qual scope s.heap.objs.size f cd).kindOf (ps.zip us) λ_=>none) s1):
  Inv (eK CX P w K mg base N qual scope f cd A outer s H E) [] (start N vs) H s1:=by
 have hpl:ps.length<=N.length:=by have:=congrArg List.length S.pre;rw[HD]at this;omega
 obtain⟨h1,tk,rfl,hk⟩:=x.done;have noA:∀b:Ke,b∉(eK CX P w K mg base N qual scope f cd A outer s H E).ex:=λb z=>absurd (show b∈([]:ay)from z) `h;refine⟨⟨e0.mod,S.kind,rfl,rfl,Hs _,λy z c h1 h2=>?_,λy hy=>?_,λy c _ h=>?_,λ_=>hd,Around.frames_deeper e0.frames,.inr ⟨rfl,rfl⟩,λb z=>absurd z (noA b),e0.bs,e0.bsz,λb _ _=>noA b,λb z=>absurd z (noA b),e0.funs,e0.frf⟩,
  rfl,e0.bare,Un.kept hk,⟨_,x.toInCall.ns,λi y v h1 h2 h3=>?_⟩,λy c h=>⟨_,x.cell y c h⟩,e0.hok.fresh (Hs _),λy c h=>?_,λp hp=>absurd (show p∈([]:aK)from hp) `h,e0.hok.kept hk,?_⟩
 ·exact name_of_addr x.apart (PySem.mem_of_lookup h1) (PySem.mem_of_lookup h2)
 ·have hy:scope.names.lookup y=some .cell\/scope.names.lookup y=some .free:=hy;rcases hy with hy|hy
  ·exact pA hy
  ·exact absurd rfl (S.nofree _ (PySem.mem_of_lookup hy))
 ·exact Hh (x.above y c (PySem.mem_of_lookup h))
 ·have hi:i<vs.length:=by
   unfold start at h2;by_cases hi:i<vs.length
   ·exact hi
   ·rw[HE (by simpa using hi)]at h2;rw[HF]at h2;split at h2<;>cases h2
  have ha:vs[i]?=some v:=by
   unfold start at h2;rw[HG (by simpa using hi),HH]at h2;cases e:vs[i]? with
   |none=>rw[e]at h2;cases h2
   |some a=>rw[e]at h2;cases h2;rfl
  obtain⟨u,hu,rv⟩:=r.get ha;have hp:ps[i]?=some y:=by
   rw[<-S.pre,List.getElem?_take_of_lt `o];exact h1
  have ndP:ps.Nodup:=by rw[<-S.pre];exact S.nd.sublist (List.take_sublist _ _)
  refine⟨u,rv,?_⟩;rcases S.par y (HI hp)with k|k
  ·exact .inl ⟨k,mI ndP hp hu k⟩
  ·obtain⟨c,e⟩:=pA (n:=s.heap.objs.size+1) k;refine .inr ⟨.inl k,c,e,?_⟩;have q:=x.cell y c e;rw[mG ndP hp hu (by show scope.names.lookup y≠_;rw[k];decide)]at q;exact q
 ·exact e0.hok.fresh (Hh (x.above y c (PySem.mem_of_lookup h)))
 ·unfold start;show _=N.length;rw[HJ,Hy,List.length_replicate];omega
theorem zr{CX:qd}{P:Kj}{w:Ki}{K:Jo}{mg:bj}{base:Kl}{k:Nat}{f:Ke}{name qual:Str}{params:Arguments}{body:b7}{scope:Kq}{dV kV doc pm cdv ct oc:Kc}{an od:Option Ke}
  {osl:Array (Option Kc)} {N ps:ao} {sp:Sp} (lk:K.lookup f=some ⟨oc,od,.func (JE name qual params body scope dV kV doc pm an cdv ct),osl⟩) (hcd:JF K cdv qual=true) (S:bP N ps scope)
  (len:∀vs H Q E,sp vs H Q E->vs.length=ps.length)
  (hbody:∀ (A:Kp) (outer:List Env) (s:Kh) (H:Hp) (vs:az) (Q:VK) (E:XK),cz k (A.deeper (envOfC qual scope s.heap.objs.size f cdv))->sp vs H Q E ->
   ∃t,oM (eK CX P w K mg base N qual scope f cdv A outer s H E) body t/\t {nx:=λ_ H'=>Q .non H',rt:=Q} (start N vs) H):
  dJ P w K mg base CX (k+1) f (JE name qual params body scope dV kV doc pm an cdv ct) ps sp:=by
 refine⟨len,λA outer s H args us vs Q E hr e0 hb r hsp=>?_⟩;have hl:=len _ _ _ _ hsp;have KX:K.In s.heap:=e0.mod.kin.keeps λb o e=>(e0.bs b o e).1;have lim:s.heap.NoLimit:=e0.mod.nolimit.keeps λb o e=>(e0.bs b o e).1;have hkind:∀y∈ps.zip us,scope.names.lookup y.1=some .local\/(scope.names.lookup y.1=some .cell/\((cellsFrom (s.heap.objs.size+1) scope.names []).lookup y.1).isSome=true):=λ⟨n,v⟩ hy=>by
  rcases S.par n (HC hy).1 with q|q
  ·exact .inl q
  ·exact .inr ⟨q,JD _ _ _ (.inl q)⟩
 refine codeAny_call_function hr.depth (KX _ _ lk) rfl S.co S.gen rfl (PySem.W.codeRec_of KX hcd) (hb _ _ _ _ ?_);refine wpAny_newFunctionEnv_cells S.kind hkind λenv he s1 x=>?_;subst he;refine⟨lim.keeps x.toInCall.keep,codeAny_func ?_⟩;obtain⟨t,ht,hq⟩:=hbody A outer s H vs Q E (hr.deeper _) hsp;have I:Inv (eK CX P w K mg base N qual scope f cdv A outer s H E) [] (start N vs) H s1:=ug S hr.hd e0 hl r x;refine Kv (ht [] s1 (start N vs) H _ I hq) (λfl s' hs=>?_) λe s' hs=>hs;have fin:∀{σ':St}{H':Hp}{v:V}{u:Kc},Inv (eK CX P w K mg base N qual scope f cdv A outer s H E) [] σ' H' s'->RelV v u->Q v H'->CE outer P w H s Q u s':=
  λ{σ' H' v u} J rv q=>⟨v,H',J.os,J.bare,J.base,J.hok,rv,q⟩
 cases fl with
 |ret u=>
  obtain⟨v,σ',H',J,rv,q⟩:=hs;exact fin J rv q
 |next=>
  obtain⟨σ',H',J,q⟩:=hs;exact fin (v:=V.non) (u:=Value.none) J rfl q
 |brk=>
  obtain⟨_,_,_,q⟩:=hs;exact False.elim q
 |cont=>
  obtain⟨_,_,_,q⟩:=hs;exact False.elim q
section
variable{X:Cx}{x:Str}{p pos:Pos}{e:Kf}{es:aX}{t:TA}{id T:String}{r:az->Hp->VK->Prop}
noncomputable def DM(r:az->Hp->VK->Prop)(t:TA):TE:=λσ H Q=>t σ H λvs H1=>r vs H1 Q
theorem eL(hc:dA X (.builtin id) r)(hg:Gl X x)(hm:X.mg x=none)(hv:Ko x=some (.builtin id))(ha:PA X (e::es) t)(hn:x≠"__name__":=by decide)(hdb:(x==("__debug__":Str))=false:=by decide)
  (he:Ku (e::es) X.env=(false,eval e X.env)::Ku es X.env:=by rfl) (hpl:(backTo pos (Ku es X.env)).any (·.1)=false:=by rfl):PE X (.Call (.Name x p) (e::es) [] pos) (DM r t):=by
 intro pins s σ H Q I h;refine K1 (lu I hg hm hv ?_ hn hdb);exact PyProof.Rows.callWith_builtin1 (b9 (ha pos pins s σ H _ I h) λus s1 zq=>zq.elim λvs zq=>zq.elim λH1 zq=>zq.elim λI1 zq=>zq.elim λr1 q1=>hc pins s1 σ H1 vs us Q I1 r1 q1) he hpl
theorem m9(hc:dA X (.type T) r)(hg:Gl X x)(hm:X.mg x=none)(hv:Ko x=some (.type T))(ha:PA X (e::es) t)(hn:x≠"__name__":=by decide)(hdb:(x==("__debug__":Str))=false:=by decide)
  (he:Ku (e::es) X.env=(false,eval e X.env)::Ku es X.env:=by rfl) (hpl:(backTo pos (Ku es X.env)).any (·.1)=false:=by rfl):PE X (.Call (.Name x p) (e::es) [] pos) (DM r t):=by
 intro pins s σ H Q I h;refine K1 (lu I hg hm hv ?_ hn hdb);exact J3 (b9 (ha pos pins s σ H _ I h) λus s1 zq=>zq.elim λvs zq=>zq.elim λH1 zq=>zq.elim λI1 zq=>zq.elim λr1 q1=>hc pins s1 σ H1 vs us Q I1 r1 q1) he hpl
end
end L2
namespace HT
open PySem PyProof.Rows
theorem BQ(A:Kp)(s:Kh)(a:Int)(t:Tok)(c:Int)(u:Tok)(prog:Kj)(w:Ki)(E:Kc->Kh->Prop)(Q:Kc->Kh->Prop)(h:Q (.bool (decide (a<c))) s):
  Kt `j A (richCompare .Lt (.int a t) (.int c u)) Q E s:=
 (PyProof.Rows.lt_int h:Kt `j A (KL .Lt (.int a t) (.int c u)) Q E s)
section
open PySem.SeqAt
open PySem.AutoSeq1 (wpAny_loadPart')
open PySem.MeetsSeq PySem.MeetsSeq2 PySem.MeetsSeq3
end
section
variable{prog:Kj}{w:Ki}{A:Kp}{E:Kc->Kh->Prop}{s:Kh}
theorem DE{t b:Ke}{vs ws:List Kc}{Q:Kc->Kh->Prop}(ht:IsTup s.heap t vs.toArray)(hb:IsTup s.heap b ws.toArray)(hv:vs≠[])
  (h1:ws=[]->Q (.ref t) s) (h2:ws≠[]->Q (.ref s.heap.objs.size) {s with heap:=s.heap.push {cls:=.type "tuple",data:=.seq (vs++ws).toArray}})
  (hsz:vs.length+ws.length<=Km):Kt `j A (KJ .Add (.ref t) (.ref b)) Q E s:=by
 obtain⟨⟨cls,dd,data,sl⟩,ho,hc,n,hd⟩:=id ht;obtain⟨⟨cls2,dd2,data2,sl2⟩,ho2,hc2,n2,hd2⟩:=id hb;simp only at hc hd hc2 hd2;subst hc hd hc2 hd2;have e:vs.toArray++ws.toArray=(vs++ws).toArray:=by simp
 by_cases hw:ws=[]
 ·exact K2 ⟨_,ho,rfl⟩ ⟨_,ho2,rfl⟩ K3 K4 J9 Ka (Kb _ _)
   (tuple_addW1 t b vs.toArray ws.toArray n n2 dd dd2 sl sl2 (by simpa using hv) (by simp[hw])) ⟨ho,ho2,h1 hw⟩
 ·refine K2 ⟨_,ho,rfl⟩ ⟨_,ho2,rfl⟩ K3 K4 J9 Ka (Kb _ _)
   (tuple_addW2 t b vs.toArray ws.toArray n n2 dd dd2 sl sl2 (by simpa using hv) (by simpa using hw) (by rw[Hu,Hu];exact hsz)) ⟨ho,ho2,?_⟩
  rw[e];exact h2 hw
noncomputable def sIx(n d:Nat):Option Int->Nat
 |none=>d
 |some v=>if v<0 then(v+(n:Int)).toNat else min v.toNat n
theorem BI(n d:Nat):sIx n d none=d:=rfl
theorem DL(n d k:Nat):sIx n d (some (k:Int))=min k n:=by
 show(if(k:Int)<0 then((k:Int)+(n:Int)).toNat else min (k:Int).toNat n)=min k n;rw[if_neg `o,HK]
theorem AO(n d:Nat)(hd:d<=n)(o:Option Int):sIx n d o<=n:=by
 cases o with
 |none=>exact hd
 |some v=>
  show(if v<0 then(v+(n:Int)).toNat else min v.toNat n)<=n;by_cases hv:v<0
  ·rw[if_pos hv];omega
  ·rw[if_neg hv];exact Nat.min_le_right _ _
theorem sf(v:Int)(n d:Nat):(if v<0 then max (v+(n:Int)) 0 else min v (n:Int))=((sIx n d (some v):Nat):Int):=by
 show(if v<0 then max (v+(n:Int)) 0 else min v (n:Int))=(((if v<0 then(v+(n:Int)).toNat else min v.toNat n):Nat):Int)
 by_cases hv:v<0
 ·simp only[if_pos hv];omega
 ·simp only[if_neg hv];omega
theorem qU(lo hi:Option Int)(n:Nat):Builtin.Slice.sliceAdjust lo hi 1 (n:Int)=(((sIx n 0 lo:Nat):Int),((sIx n n hi:Nat):Int)):=by
 have h1:¬((1:Int)<0):=by omega
 unfold Builtin.Slice.sliceAdjust;simp only[h1,if_false];refine Prod.ext ?_ ?_
 ·cases lo with
  |none=>rfl
  |some v=>exact sf v n 0
 ·cases hi with
  |none=>rfl
  |some v=>exact sf v n n
theorem qZ(i j:Nat):Builtin.Slice.slicePlaces (i:Int) (j:Int) 1=j-i:=by
 unfold Builtin.Slice.slicePlaces;have h1:(1:Int)>0:=by omega
 simp only[h1,if_true,Int.ediv_one];split<;>omega
theorem md{v:Kc}{o:Option Int}{Q:Option Int->Kh->Prop}(p:K5 v o)(h:Q o s):Kt `j A (Builtin.Slice.slicePartIndex v) Q E s:=by
 cases p with
 |none=>exact slicePart_none h
 |int i t=>exact slicePart_int h
theorem j8{sl:Ke}{vl vu:Kc}{lo hi:Option Int}{n:Nat}{Q:Int×Int×Nat->Kh->Prop}(hs:s.heap.IsSliceOf sl vl vu .none)(pl:K5 vl lo)(pu:K5 vu hi)
  (h:Q (((sIx n 0 lo:Nat):Int),1,sIx n n hi-sIx n 0 lo) s):Kt `j A (Builtin.Slice.sliceApplied (.ref sl) (pure (n:Int))) Q E s:=by
 obtain⟨os,hos,hcs,hds⟩:=id hs;unfold Builtin.Slice.sliceApplied Builtin.Slice.sliceFields;refine Ky (Ky (K6 hos hds (x:=vl) rfl (Ky (K6 hos hds (x:=vu) rfl (Ky (K6 hos hds (x:=.none) rfl (KC ?_)))))));refine Ky (slicePart_none ?_);show Kt _ _ (if((1:Int)==0)=true then _ else _) _ _ s;rw[if_neg (by decide)];refine Ky (md pl (Ky (md pu (Ky (KC ?_)))));show Kt _ _ (match Builtin.Slice.sliceAdjust lo hi 1 (n:Int)with|(lo,hi)=>pure (lo,(1:Int),Builtin.Slice.slicePlaces lo hi 1)) _ _ s;rw[qU lo hi n];show Kt _ _ (pure (((sIx n 0 lo:Nat):Int),(1:Int),Builtin.Slice.slicePlaces ((sIx n 0 lo:Nat):Int) ((sIx n n hi:Nat):Int) 1)) _ _ s;rw[qZ];exact KC h
theorem wU(xs:Array Kc)(i k:Nat):((List.range k).filterMap λ(m:Nat)=>xs[((i:Int)+(m:Int)*1).toNat]?).toArray=((xs.toList.drop i).take k).toArray:=by
 have e:(λ(m:Nat)=>xs[((i:Int)+(m:Int)*1).toNat]?)=λm=>xs[i+m]?:=by
  funext m
  have:((i:Int)+(m:Int)*1).toNat=i+m:=by omega
  rw[this]
 rw[e]
 have:=pick_run xs i k
 rw[List.filterMap_map]at this;have e2:((λx=>xs[x]?)∘λx=>i+x)=λm=>xs[i+m]?:=rfl;rw[e2]at this;rw[this]
theorem rT{t sl:Ke}{items:Array Kc}{vl vu:Kc}{lo hi:Option Int}{Q:Kc->Kh->Prop}(ht:IsTup s.heap t items)(hs:s.heap.IsSliceOf sl vl vu .none)(pl:K5 vl lo)(pu:K5 vu hi)
  (hw:¬(sIx items.size 0 lo=0/\sIx items.size items.size hi=items.size))
  (h:Q (.ref s.heap.objs.size) {s with heap:=s.heap.push {cls:=.type "tuple",data:=.seq ((items.toList.drop (sIx items.size 0 lo)).take (sIx items.size items.size hi-sIx items.size 0 lo)).toArray}})
  (hsz:items.size<=Km):Kt `j A (getItem (.ref t) (.ref sl)) Q E s:=by
 have htake:sizeOk (.seq ((items.toList.drop (sIx items.size 0 lo)).take (sIx items.size items.size hi-sIx items.size 0 lo)).toArray):=by
  show((items.toList.drop (sIx items.size 0 lo)).take (sIx items.size items.size hi-sIx items.size 0 lo)).toArray.size<=Km;rw[Hu,HD,HL,Array.length_toList];omega
 have hj:sIx items.size items.size hi<=items.size:=AO _ _ (Hs _) hi;obtain⟨os,hos,hcs,hds⟩:=id hs;have hTs:s.TypeIs (.ref sl) "slice":=⟨os,hos,hcs⟩
 unfold getItem
 try with_reducible refine Kz ?_
 first|refine Ky (KC ?_)|skip
 refine Ky (wpAny_sequenceKey ht.typeIs (by decide) ?_);refine Ky (K8 (name:=Str.ofString "__getitem__") ht.typeIs J4
  (K9 J4 ht.typeIs entry_tuple_getitem ?_ (args_tuple_getitem _ _)))
 show Kt _ _ (Builtin.Tuple.tupleItemsOf (.ref t) >>= _) _ _ s;refine Ky (tupleItemsOf_ ht ?_);refine Ky (wpAny_typeOf hTs ?_);rw[if_pos (by decide)];refine Ky (j8 hs pl pu ?_);have hno:¬((((sIx items.size 0 lo:Nat):Int)==0&&(1:Int)==1&&(sIx items.size items.size hi-sIx items.size 0 lo)==items.size)=true):=by
  intro q;rw[HM,HM]at q;have q1:((sIx items.size 0 lo:Nat):Int)=0:=eq_of_beq q.1.1;have q2:sIx items.size items.size hi-sIx items.size 0 lo=items.size:=eq_of_beq q.2;exact hw ⟨by omega,by omega⟩
 show Kt _ _ (if(((sIx items.size 0 lo:Nat):Int)==0&&(1:Int)==1&&(sIx items.size items.size hi-sIx items.size 0 lo)==items.size)=true then _ else _) _ _ s;rw[if_neg hno,wU]
 first
  |exact Ky (m:=Builtin.Tuple.tupleExact _) (La (KC ⟨_,rfl,KC h⟩) htake)
  |exact Ky (m:=Builtin.Tuple.tupleExact _) (La (Ky (KC (KC ⟨_,rfl,KC h⟩))) htake)
  |exact Ky (Ky (m:=Builtin.Tuple.tupleExact _) (La (KC (KC ⟨_,rfl,KC h⟩)) htake))
  |exact Ky (Ky (m:=Builtin.Tuple.tupleExact _) (La (KC ⟨_,rfl,KC h⟩) htake))
end
end HT
namespace L2
open PySem PySem.Spec PyProof.Rows
noncomputable abbrev TO:=St->Hp->(bn->Hp->Prop)->Prop
noncomputable def PO(X:Cx)(e:Option Kf)(t:TO):Prop:=
 ∀(pins:aK)(s:Kh)(σ:St)(H:Hp)(Q:bn->Hp->Prop),Inv X pins σ H s->t σ H Q->
  Kt `i X.A (evalPart e X.env) (λu s'=>∃o H',Inv X pins σ H' s'/\K5 u o/\Q o H') X.xe s
noncomputable def xE:TO:=λ_ H Q=>Q none H
noncomputable def Dg(t:TE):TO:=λσ H Q=>t σ H λx H1=>∃i,x=.int i/\Q (some i) H1
section
variable{X:Cx}{e:Kf}{te:TE}{lo hi:Option Kf}{tl th:TO}{pos p2:Pos}
theorem zi:PO X none xE:=by
 intro pins s σ H Q I h;rw[evalPart_none];exact KC ⟨none,H,I,.none,h⟩
theorem xO(h:PE X e te):PO X (some e) (Dg te):=by
 intro pins s σ H Q I hw;rw[evalPart_some];refine b9 (h pins s σ H _ I hw) λu s1 zq=>zq.elim λx zq=>zq.elim λH1 zq=>zq.elim λI1 zq=>zq.elim λr1 q1=>?_;obtain⟨i,rfl,q⟩:=q1;obtain⟨t,rfl⟩:=r1;exact⟨some i,H1,I1,.int i t,q⟩
noncomputable def Dw(X:Cx)(r:V->bn->bn->Hp->VK->Prop):Prop:=
 ∀(pins:aK)(s:Kh)(σ:St)(H:Hp)(x:V)(v vl vu:Kc)(lo hi:bn)(sl:Ke)(Q:VK),Inv X pins σ H s->RelV x v->s.heap.IsSliceOf sl vl vu .none->K5 vl lo->K5 vu hi->r x lo hi H Q->
  ∃T id,typeLookup (.type T) "__getitem__"=pure (some (.builtin id))/\s.TypeIs v T/\Kt `i X.A (getItem v (.ref sl)) (EP X pins σ Q) X.xe s
noncomputable def G4(r:V->bn->bn->Hp->VK->Prop)(te:TE)(tl th:TO):TE:=λσ H Q=>te σ H λx H1=>tl σ H1 λl H2=>th σ H2 λu H3=>r x l u H3 Q
theorem vK{r:V->bn->bn->Hp->VK->Prop}(hr:Dw X r)(he:PE X e te)(hl:PO X lo tl)(hu:PO X hi th):PE X (.Subscript e (.Slice lo hi none p2) pos) (G4 r te tl th):=by
 intro pins s σ H Q I h;refine Lb (b9 (he pins s σ H _ I h) λv s1 zq=>zq.elim λx zq=>zq.elim λH1 zq=>zq.elim λI1 zq=>zq.elim λr1 q1=>?_);refine wpAny_Slice (b9 (hl pins s1 σ H1 _ I1 q1) λvl s2 zq=>zq.elim λl zq=>zq.elim λH2 zq=>zq.elim λI2 zq=>zq.elim λpl q2=>b9 (hu pins s2 σ H2 _ I2 q2) λvu s3 zq=>zq.elim λu zq=>zq.elim λH3 zq=>zq.elim λI3 zq=>zq.elim λpu q3=>?_);rw[evalPart_none];refine KC ?_;have I4:Inv X pins σ H3 {s3 with heap:=s3.heap.push {cls:=.type "slice",data:=.fields #[vl,vu,.none]}}:=I3.kept (t':=s3.toks) λb ob q=>JX _ q;obtain⟨T,id,hT,ht,hg⟩:=hr pins {s3 with heap:=s3.heap.push {cls:=.type "slice",data:=.fields #[vl,vu,.none]}} σ H3 x v vl vu l u s3.heap.objs.size Q I4 r1 (Heap.IsSliceOf.new ..) pl pu q3;show Kt `i X.A (subscriptTail e (.Slice lo hi none p2) v (.ref s3.heap.objs.size)) (EP X pins σ Q) X.xe {s3 with heap:=s3.heap.push {cls:=.type "slice",data:=.fields #[vl,vu,.none]}};exact tail_any (ops:=[.ref s3.heap.objs.size,v]) ht hT hg (by with_unfolding_all rfl)
noncomputable def oW(xs:az)(lo hi:bn):az:=(xs.drop (HT.sIx xs.length 0 lo)).take (HT.sIx xs.length xs.length hi-HT.sIx xs.length 0 lo)
theorem km(xs:az)(lo hi:bn):(oW xs lo hi).length<=xs.length:=by
 unfold oW;rw[HD,HL];omega
noncomputable def E5(K:Jo):V->bn->bn->Hp->VK->Prop:=λx lo hi H Q=>∃a xs,x=.ref a/\kq K H a xs/\
 ¬(HT.sIx xs.length 0 lo=0/\HT.sIx xs.length xs.length hi=xs.length)/\∀p,H p=none->Q (.ref p) (upd H p (.tup (oW xs lo hi)))
theorem Bs:Dw X (E5 X.K):=by
 intro pins s σ H x v vl vu lo hi sl Q I rx hs pl pu h;obtain⟨a,xs,rfl,hx,hw,q⟩:=h;cases rx;obtain⟨its,r,ht,hz⟩:=I.tuple hx;have hlen:its.toArray.size=xs.length:=by rw[Hu];exact r.length.symm
 refine⟨"tuple",_,PyProof.Rows.slot_tuple_getitem.lookup,ht.typeIs,?_⟩;refine HT.rT ht hs pl pu (by rw[hlen];exact hw) ?_ (by rw[hlen];exact hz);rw[hlen];refine⟨.ref s.heap.objs.size,_,I.laid (t':=s.toks) (o:=.tup (oW xs lo hi)) (λb ob q=>JX _ q) (Hs _) ?_,rfl,q _ (I.hok.fresh (Hs _))⟩;exact⟨Hg (km xs lo hi) hz,_,(r.drop (HT.sIx xs.length 0 lo)).take (HT.sIx xs.length xs.length hi-HT.sIx xs.length 0 lo),IsTup.new _ _⟩
noncomputable def BV(K:Jo):R2:=λx y H Q=>∃a b xs ys,x=.ref a/\y=.ref b/\kq K H a xs/\kq K H b ys/\xs≠[]/\xs.length+ys.length<=Km/\
 (ys=[]->Q (.ref a) H)/\(ys≠[]->∀p,H p=none->Q (.ref p) (upd H p (.tup (xs++ys))))
theorem Vals.nil_iff{xs:az}{us:aP}(r:Vals xs us):us=[]↔xs=[]:=by
 cases r with
 |nil=>simp
 |cons _ _=>simp
theorem x6:iG X (KJ .Add) (BV X.K):=by
 intro pins s σ H x y v u Q I rx ry h;obtain⟨a,b,xs,ys,rfl,rfl,ha,hb,hx,hz,q1,q2⟩:=h;cases rx;cases ry;obtain⟨its,r1,p1,_⟩:=I.tuple ha;obtain⟨its2,r2,p2,_⟩:=I.tuple hb;refine HT.DE p1 p2 (λz=>hx (r1.nil_iff.mp z)) (λz=>⟨.ref a,H,I,rfl,q1 (r2.nil_iff.mp z)⟩) (λz=>?_) (by rw[<-r1.length,<-r2.length];exact hz);refine⟨.ref s.heap.objs.size,_,I.laid (t':=s.toks) (o:=.tup (xs++ys)) (λb ob q=>JX _ q) (Hs _) ?_,rfl,q2 (λw=>z (r2.nil_iff.mpr w)) _ (I.hok.fresh (Hs _))⟩;exact⟨by rw[HJ];exact hz,_,r1.append r2,IsTup.new _ _⟩
end
noncomputable def p6(n:Nat)(i:Int):Option Nat:=if 0<=i then(if i<n then some i.toNat else none)else if -(n:Int)<=i then some (i+n).toNat else none
noncomputable def jI{α:Type}(xs:List α)(i:Int):Option α:=(p6 xs.length i).bind λj=>xs[j]?
theorem rk{n:Nat}{i:Int}{j:Nat}(h:p6 n i=some j):seqIndex? i n=some j/\j<n/\-(n:Int)<=i/\i<n:=by
 unfold p6 at h;by_cases h0:0<=i
 ·rw[if_pos h0]at h;by_cases h1:i<n
  ·rw[if_pos h1]at h;have e:i.toNat=j:=Option.some.inj h;exact⟨by rw[seqIndex_of h0 h1,e],by omega,by omega,h1⟩
  ·rw[if_neg h1]at h;cases h
 ·rw[if_neg h0]at h;by_cases h1:-(n:Int)<=i
  ·rw[if_pos h1]at h;have e:(i+n).toNat=j:=Option.some.inj h;exact⟨by rw[seqIndex_neg `o h1,e],by omega,h1,by omega⟩
  ·rw[if_neg h1]at h;cases h
theorem oF{α:Type}{xs:List α}{i:Int}{v:α}(h:jI xs i=some v):∃j,seqIndex? i xs.length=some j/\xs[j]?=some v/\j<xs.length/\-(xs.length:Int)<=i/\i<xs.length:=by
 unfold jI at h;cases e:p6 xs.length i with
 |none=>rw[e]at h;cases h
 |some j=>
  rw[e]at h;obtain⟨h1,h2,h3,h4⟩:=rk e;exact⟨j,h1,h,h2,h3,h4⟩
noncomputable def oA(b:Kf):Prop:=∀o i,subscripted b false o i=operate [o,i] (getItem o i)
noncomputable def Cq(X:Cx)(r:R2):Prop:=
 ∀(value slice:Kf)(pins:aK)(s:Kh)(σ:St)(H:Hp)(x y:V)(v u:Kc)(Q:VK),Inv X pins σ H s->RelV x v->RelV y u->r x y H Q->
  subscripted slice false v u=operate [v,u] (getItem v u)->Kt `i X.A (subscriptTail value slice v u) (EP X pins σ Q) X.xe s
noncomputable def Ga(X:Cx)(id:String)(r:V->az->Hp->VK->Prop):Prop:=
 ∀(pins:aK)(s:Kh)(σ:St)(H:Hp)(x:V)(xs:az)(v:Kc)(us:aP)(Q:VK),Inv X pins σ H s->RelV x v->Vals xs us->r x xs H Q->
  Kt `i X.A (call (.builtin id) (v::us)) (EP X pins σ Q) X.xe s
section
variable{X:Cx}{a b:Kf}{ta tb:TE}{pos:Pos}
theorem Dc{r:R2}(hr:Cq X r)(ha:PE X a ta)(hb:PE X b tb)(hs:oA b):PE X (.Subscript a b pos) (Cp r ta tb):=by
 intro pins s σ H Q I h;exact Lb (Au ha hb I h λv u s2 x y H2 I2 rx ry q=>hr a b pins s2 σ H2 x y v u Q I2 rx ry q (hs _ _))
noncomputable def Eu(K:Jo):R2:=λx y H Q=>∃p xs i v,x=.ref p/\y=.int i/\iW K H p xs/\jI xs i=some v/\Q v H
noncomputable def Es(K:Jo):R2:=λx y H Q=>∃p xs i v,x=.ref p/\y=.int i/\kq K H p xs/\jI xs i=some v/\Q v H
noncomputable def EI:R2:=λx y H Q=>∃z i c,x=.str z/\y=.int i/\z.length<=Km/\jI z.cps.toList i=some c/\Q (.str ⟨#[c]⟩) H
theorem yt:Cq X (Eu X.K):=by
 intro value slice pins s σ H x y v u Q I rx ry h hs;obtain⟨p,xs,i,z,rfl,rfl,hq,he,q⟩:=h;cases rx;obtain⟨t,rfl⟩:=ry;obtain⟨its,r,pl,hz⟩:=I.list hq;obtain⟨j,h1,h2,h3,h4,h5⟩:=oF he;obtain⟨w,ew,rw'⟩:=r.get h2;have hl:=r.length;have hn:=iP;have fin:EP X pins σ Q w s:=⟨z,H,I,rw',q⟩
 by_cases h0:0<=i
 ·have hj:i.toNat=j:=by
   rw[seqIndex_of h0 h5]at h1;exact Option.some.inj h1
  exact item_listR pl.isList h0 `o (by rw[hj];simpa using ew) fin hs
 ·have hj:(i+(its.toArray.size:Int)).toNat=j:=by
   rw[seqIndex_neg `o h4]at h1;rw[Hu,<-hl];exact Option.some.inj h1
  exact subscriptTail_builtinR (x:=w) pl.isList.typeIs slot_list_getitem.lookup
   (wpAny_getItem_list_neg (Q:=λr s'=>r=w/\EP X pins σ Q r s') pl.isList `o (by rw[Hu]<;>omega) `o (by rw[hj];simpa using ew) ⟨rfl,fin⟩) hs
theorem Am:Cq X (Es X.K):=by
 intro value slice pins s σ H x y v u Q I rx ry h hs;obtain⟨p,xs,i,z,rfl,rfl,hq,he,q⟩:=h;cases rx;obtain⟨t,rfl⟩:=ry;obtain⟨its,r,pl,hz⟩:=I.tuple hq;obtain⟨j,h1,h2,h3,h4,h5⟩:=oF he;obtain⟨w,ew,rw'⟩:=r.get h2;have hl:=r.length;have hn:=iP;have fin:EP X pins σ Q w s:=⟨z,H,I,rw',q⟩
 exact subscriptTail_builtinR (x:=w) pl.typeIs slot_tuple_getitem.lookup
  (getItem_tuple (j:=j) (Q:=λr s'=>r=w/\EP X pins σ Q r s') pl `o `o (by rw[Hu,<-hl];exact h1) (by simpa using ew) ⟨rfl,fin⟩) hs
theorem z7:Cq X EI:=by
 intro value slice pins s σ H x y v u Q I rx ry h hs;obtain⟨z,i,c,rfl,rfl,hz,he,q⟩:=h;obtain⟨t,rfl⟩:=rx;obtain⟨t',rfl⟩:=ry;obtain⟨j,h1,h2,h3,h4,h5⟩:=oF he;have hl:z.cps.toList.length=z.length:=by simp[Str.length]
 rw[hl]at h1 h4 h5;have hn:=iP;exact tail_any (typeIs_str s z t) slot_str_getitem.lookup (getItem_str (c:=c) (by
  have e1:decide (i < -(2^63:Int))=false:=decide_eq_false `o;have e2:decide (i>=2^63)=false:=decide_eq_false `o;rw[e1,e2,Bool.or_false]) (by rw[h1];simpa using h2) ⟨.str ⟨#[c]⟩,H,I.tok _,⟨_,rfl⟩,q⟩) hs
theorem qe(its:aP)(n j:Nat)(u:Kc):Obj.mapSeq (·.setIfInBounds j u) {cls:=.type "list",data:=.seq its.toArray n}={cls:=.type "list",data:=.seq (its.set j u).toArray n}:=by
 simp[Obj.mapSeq]
theorem Inv.lst{pins:aK}{σ:St}{H:Hp}{s:Kh}{p:Ke}{xs:az}(I:`g)(h:H p=some (.lst xs)):
  ∃(its:aP)(n:Nat),Vals xs its/\s.heap.get? p=some {cls:=.type "list",data:=.seq its.toArray n}/\xs.length<=Km:=by
 obtain⟨z,its,n,r,e⟩:=I.hok p _ h;exact⟨its,n,r,e,z⟩
theorem Inv.lstUpd{pins:aK}{σ:St}{H:Hp}{s:Kh}{p:Ke}{xs ys:az}{its its':aP}{n n':Nat}{f:Obj->Obj}(I:`g)(h:H p=some (.lst xs))
  (ho:s.heap.get? p=some {cls:=.type "list",data:=.seq its.toArray n}) (hf:f {cls:=.type "list",data:=.seq its.toArray n}={cls:=.type "list",data:=.seq its'.toArray n'}) (r:Vals ys its') (hz:ys.length<=Km) (t:Nat):
  Inv X pins σ (upd H p (.lst ys)) {s with heap:=s.heap.update p f,toks:=t}:=by
 have e:(s.heap.update p f).get? p=some {cls:=.type "list",data:=.seq its'.toArray n'}:=by
  rw[J0 f ho (by rw[hf]<;>rfl),hf]
 refine I.write (x:=p) (e:=p) (by rw[h];trivial) (.inl rfl) (λb u hb q=>(J1 _ _ (Ne.symm hb)).trans q) ⟨_,e⟩ ?_;exact⟨hz,its',n',r,e⟩
noncomputable def zL:V->V->V->Hp->(Hp->Prop)->Prop:=λo i v H Q=>∃p xs k j,o=.ref p/\i=.int k/\H p=some (.lst xs)/\p6 xs.length k=some j/\Q (upd H p (.lst (xs.set j v)))
theorem set_list:C4 X zL:=by
 intro pins s σ H o i v ov iv u Q I ro ri rv h;obtain⟨p,xs,k,j,rfl,rfl,hp,hj,q⟩:=h;cases ro;obtain⟨t,rfl⟩:=ri;obtain⟨its,n,r,ho,hz⟩:=I.lst hp;obtain⟨h1,h2,h3,h4⟩:=rk hj;have hl:=r.length;have hn:=iP;have I':Inv X pins σ (upd H p (.lst (xs.set j v))) {s with heap:=s.heap.update p (Obj.mapSeq (·.setIfInBounds j u))}:=
  I.lstUpd hp ho (qe its n j u) (r.set rv j) (by rw[HN];exact hz) s.toks
 by_cases h0:0<=k
 ·have hk:k.toNat=j:=by
   rw[seqIndex_of h0 h4]at h1;exact Option.some.inj h1
  exact PySem.W.ki_setAt ho h0 `o (by rw[Hu,<-hl];exact h4) (by rw[hk];exact⟨_,I',q⟩)
 ·have hk:(k+(its.toArray.size:Int)).toNat=j:=by
   rw[seqIndex_neg `o h3]at h1;rw[Hu,<-hl];exact Option.some.inj h1
  exact PySem.W.ki_setBack ho `o (by rw[Hu,<-hl];exact h3) `o (by rw[hk];exact⟨_,I',q⟩)
theorem oq(lo hi:bn)(n:Nat):(sliceBounds lo hi none n).1=((HT.sIx n 0 lo:Nat):Int)/\(sliceBounds lo hi none n).2.1=((HT.sIx n n hi:Nat):Int)/\(sliceBounds lo hi none n).2.2=1:=by
 refine⟨?_,?_,rfl⟩
 ·cases lo with
  |none=>simp[sliceBounds,HT.sIx]
  |some i=>
   simp only[sliceBounds,HT.sIx,HP,show(1:Int)>0 by decide,if_true];by_cases h:i<0
   ·simp only[h,if_true]<;>omega
   ·simp only[h,if_false]<;>omega
 ·cases hi with
  |none=>simp[sliceBounds,HT.sIx]
  |some i=>
   simp only[sliceBounds,HT.sIx,HP,show(1:Int)>0 by decide,if_true];by_cases h:i<0
   ·simp only[h,if_true]<;>omega
   ·simp only[h,if_false]<;>omega
theorem mq(its:aP)(lo hi:bn):slicePick its.toArray lo hi none=((its.drop (HT.sIx its.length 0 lo)).take (HT.sIx its.length its.length hi-HT.sIx its.length 0 lo)).toArray:=by
 obtain⟨h1,h2,h3⟩:=oq lo hi its.toArray.size;unfold slicePick;rw[h1,h2,h3];simp only[sliceRange_one,pick_run,Hu]<;>rfl
noncomputable def Ek(K:Jo):V->bn->bn->Hp->VK->Prop:=λx lo hi H Q=>∃a xs,x=.ref a/\iW K H a xs/\∀p,H p=none->Q (.ref p) (upd H p (.lst (oW xs lo hi)))
theorem yc:Dw X (Ek X.K):=by
 intro pins s σ H x v vl vu lo hi sl Q I rx hs pl pu h;obtain⟨a,xs,rfl,hx,q⟩:=h;cases rx;obtain⟨its,r,ht,hz⟩:=I.list hx;have hlen:=r.length;refine⟨"list",_,slot_list_getitem.lookup,ht.isList.typeIs,?_⟩;refine Lc ht.isList hs pl pu .none `h ?_ (by rw[Hu]<;>omega);rw[mq,<-hlen];refine⟨.ref s.heap.objs.size,_,I.laid (t':=s.toks) (o:=.lst (oW xs lo hi)) (λb ob q=>JX _ q) (Hs _) ?_,rfl,q _ (I.hok.fresh (Hs _))⟩;exact⟨Hg (km xs lo hi) hz,_,0,(r.drop (HT.sIx xs.length 0 lo)).take (HT.sIx xs.length xs.length hi-HT.sIx xs.length 0 lo),JY _ rfl⟩
noncomputable def xj:V->Bool
 |.non=>true
 |.bl _=>true
 |.int _=>true
 |.str _=>true
 |_=>false
noncomputable def DT:V->V->Bool
 |.non,.non=>true
 |.bl a,.bl b=>a==b
 |.bl a,.int b=>(if a then 1 else 0)==b
 |.int a,.bl b=>a==(if b then 1 else 0)
 |.int a,.int b=>a==b
 |.str a,.str b=>a==b
 |_,_=>false
theorem AR{A:Kp}{s:Kh}{y x:V}{u v:Kc}(ry:RelV y u)(rx:RelV x v)(fy:xj y=true)(fx:xj x=true):SeqAt.EqAt A s u v (DT y x):=by
 cases y with
 |non=>
  cases ry;cases x with
  |non=>cases rx;exact SeqAt.EqAt.same _
  |bl b=>cases rx;exact SeqAt.EqAt.none_bool b
  |int b=>obtain⟨t,rfl⟩:=rx;exact SeqAt.EqAt.none_int b t
  |str b=>obtain⟨t,rfl⟩:=rx;exact SeqAt.EqAt.none_str b t
  |_=>exact absurd (show false=true from fx) Hv
 |bl a=>
  cases ry;cases x with
  |non=>cases rx;exact SeqAt.EqAt.bool_none a
  |bl b=>cases rx;exact SeqAt.EqAt.bool_bool a b
  |int b=>obtain⟨t,rfl⟩:=rx;exact SeqAt.EqAt.bool_int a b t
  |str b=>obtain⟨t,rfl⟩:=rx;exact SeqAt.EqAt.bool_str a b t
  |_=>exact absurd (show false=true from fx) Hv
 |int a=>
  obtain⟨t',rfl⟩:=ry;cases x with
  |non=>cases rx;exact SeqAt.EqAt.int_none a t'
  |bl b=>cases rx;exact SeqAt.EqAt.int_bool a t' b
  |int b=>obtain⟨t,rfl⟩:=rx;exact SeqAt.EqAt.int_int a t' b t
  |str b=>obtain⟨t,rfl⟩:=rx;exact SeqAt.EqAt.int_str a t' b t
  |_=>exact absurd (show false=true from fx) Hv
 |str a=>
  obtain⟨t',rfl⟩:=ry;cases x with
  |non=>cases rx;exact SeqAt.EqAt.str_none a t'
  |bl b=>cases rx;exact SeqAt.EqAt.str_bool a t' b
  |int b=>obtain⟨t,rfl⟩:=rx;exact SeqAt.EqAt.str_int a t' b t
  |str b=>obtain⟨t,rfl⟩:=rx;exact SeqAt.EqAt.str_str a t' b t
  |_=>exact absurd (show false=true from fx) Hv
 |_=>exact absurd (show false=true from fy) Hv
theorem jn:dA X (.builtin "len") (λxs H Q=>∃p ys,xs=[.ref p]/\(iW X.K H p ys\/kq X.K H p ys)/\Q (.int ys.length) H):=by
 intro pins s σ H xs us Q I r h;obtain⟨p,ys,rfl,hq,q⟩:=h;obtain⟨u,rfl,rx⟩:=vals1 r;cases rx;have hn:=iP;rcases hq with hq|hq
 ·obtain⟨its,r',pl,hz⟩:=I.list hq;have hlen:=r'.length;exact Calls.call_len_list pl.isList (by simp only[Hu]<;>omega) ⟨.int ys.length,H,I.tok _,⟨s.toks+1,by rw[Hu,hlen]⟩,q⟩
 ·obtain⟨its,r',pl,hz⟩:=I.tuple hq;have hlen:=r'.length;exact len_tuple pl (by simp only[Hu]<;>omega) ⟨.int ys.length,H,I.tok _,⟨s.toks+1,by rw[Hu,hlen]⟩,q⟩
theorem oG:dA X (.builtin "len") (λxs H Q=>∃z,xs=[.str z]/\z.length<=Km/\Q (.int z.length) H):=by
 intro pins s σ H xs us Q I r h;obtain⟨z,rfl,hz,q⟩:=h;obtain⟨u,rfl,t,rfl⟩:=vals1 r;have hn:=iP;exact len_str `o ⟨.int z.length,H,I.tok _,⟨_,rfl⟩,q⟩
theorem iM:dA X (.type "tuple") (λxs H Q=>∃p ys,xs=[.ref p]/\((iW X.K H p ys/\∀l,H l=none->Q (.ref l) (upd H l (.tup ys)))\/(kq X.K H p ys/\Q (.ref p) H))):=by
 intro pins s σ H xs us Q I r h;obtain⟨p,ys,rfl,h⟩:=h;obtain⟨u,rfl,rx⟩:=vals1 r;cases rx;rcases h with⟨hq,q⟩|⟨hq,q⟩
 ·obtain⟨its,r',pl,hz⟩:=I.list hq;have hlen:=r'.length;refine call_tuple_list pl.isList (λh' kp=>?_) (by simp only[Hu]<;>omega);have I1:Inv X pins σ H {s with heap:=h'}:=I.kept (t':=s.toks) kp;have I2:Inv X pins σ (upd H h'.objs.size (.tup ys)) {s with heap:=h'.push {cls:=.type "tuple",data:=.seq its.toArray}}:=
   I1.laid (t':=s.toks) (λb o e=>JX _ e) (Hs _) (show bL X.prog X.w _ _ _ (.tup ys)from⟨hz,its,r',IsTup.new _ _⟩)
  exact⟨.ref h'.objs.size,_,I2,rfl,q _ (I1.hok.fresh (Hs _))⟩
 ·obtain⟨its,r',pl,hz⟩:=I.tuple hq;exact call_tuple_same pl ⟨.ref p,H,I,rfl,q⟩
noncomputable def FD(K:Jo)(T:String)(x:V)(H:Hp):Prop:=match x with
 |.str _=>T="str"
 |.int _=>T="int"
 |.ref p=>(T="list"/\∃xs,iW K H p xs)\/(T="tuple"/\∃o,K.lookup p=some o/\o.cls=.type "tuple"/\o.dict=none) \/
   (T="dict"/\((∃kvs,H p=some (.dK kvs))\/∃kvs,H p=some (.dT kvs)))\/(T="set"/\∃S n,H p=some (.set S n))
 |_=>False
theorem Ae{pins:aK}{σ:St}{H:Hp}{s:Kh}{T:String}{x:V}{v:Kc}(I:`g)(r:RelV x v)(ty:FD X.K T x H):
  s.TypeIs v T/\∀a,v=.ref a->∃ob,s.heap.get? a=some ob/\ob.dict=none:=by
 cases x with
 |str z=>
  obtain⟨t,rfl⟩:=r;cases(show T="str"from ty);exact⟨typeIs_str s z t,λ_ e=>nomatch e⟩
 |int i=>
  obtain⟨t,rfl⟩:=r;cases(show T="int"from ty);exact⟨typeIs_int s i t,λ_ e=>nomatch e⟩
 |ref p=>
  cases r;rcases ty with⟨rfl,xs,hq⟩|⟨rfl,o,hk,hc,hd⟩|⟨rfl,hk⟩|⟨rfl,S,n,hk⟩
  ·obtain⟨its,_,pl,_⟩:=I.list hq;refine⟨pl.isList.typeIs,λa e=>?_⟩;cases e;obtain⟨o,n,e,c,hd,_⟩:=pl;exact⟨o,e,hd⟩
  ·refine⟨⟨o,I.kIn p o hk,hc⟩,λa e=>?_⟩;cases e;exact⟨o,I.kIn _ o hk,hd⟩
  ·have z:∃o,s.heap.get? p=some o/\o.ExactDict:=by
    rcases hk with⟨kvs,hk⟩|⟨kvs,hk⟩
    ·obtain⟨_,_,_,_,o,_,_,e,ex,_⟩:=I.hok p _ hk;exact⟨o,e,ex⟩
    ·obtain⟨_,_,_,_,o,_,_,e,ex,_⟩:=I.hok p _ hk;exact⟨o,e,ex⟩
   obtain⟨o,e,ex⟩:=z;refine⟨⟨o,e,ex.1⟩,λa e2=>?_⟩;cases e2;exact⟨o,e,ex.2.1⟩
  ·obtain⟨o,_,_,_,e,ex,_⟩:=I.hok p _ hk;refine⟨⟨o,e,ex.1⟩,λa e2=>?_⟩;cases e2;exact⟨o,e,ex.2.1⟩
 |_=>exact False.elim ty
noncomputable def GI(K:Jo)(T:String)(r:V->az->Hp->VK->Prop)(to:TE)(t:TA):TE:=λσ H Q=>to σ H λx H1=>FD K T x H1/\t σ H1 λxs H2=>r x xs H2 Q
variable{o e:Kf}{es:aX}{to:TE}{t:TA}{name:Str}{apos cpos:Pos}{T id:String}{r:V->az->Hp->VK->Prop}
theorem zG(pa:PlainAttrs T)(slot:Slot T name id)(hty:typeOf (.builtin id)=pure (.type "method_descriptor"))(hm:Ga X id r)(ho:PE X o to)(ha:PA X (e::es) t)
  (hbase:KP o name X.env (eval o X.env)=eval o X.env:=by rfl)
  (hfew:((backTo cpos (Ku (e::es) X.env)).all (fun x=>!x.1) && (backToKw cpos (KR [] X.env)).all (fun x=>x.1.isSome)
   && decide ((e::es).length+([]:List Ld).length+(if([]:List Ld).isEmpty then 0 else 1)<30))=true:=by rfl)
  (hline:(apos.endLine==cpos.line)=true:=by rfl) (hs:Ku (e::es) X.env=(false,eval e X.env)::Ku es X.env:=by rfl) (hplain:(backTo cpos (Ku es X.env)).any (·.1)=false:=by rfl):
  PE X (.Call (.Attribute o name apos) (e::es) [] cpos) (GI X.K T r to t):=by
 intro pins s σ H Q I h;refine wpAny_Call_method_late hbase hfew hline rfl (b9 (ho pins s σ H _ I h) λv s1 zq=>zq.elim λx zq=>zq.elim λH1 zq=>zq.elim λI1 zq=>zq.elim λr1 zq=>zq.elim λty q1=>?_);obtain⟨h1,h2⟩:=Ae I1 r1 ty;refine⟨T,id,pa,slot,hty,h1,h2,?_⟩;have hA:=ha cpos pins s1 σ H1 _ I1 q1;rw[hs]at hA ⊢;refine Calls.callWith_builtin (by show(false||(backTo cpos (Ku es X.env)).any (·.1))=false;rw[hplain]<;>rfl) (Calls.evalArgs_plain ?_);exact b9 hA λus s2 zq=>zq.elim λvs zq=>zq.elim λH2 zq=>zq.elim λI2 zq=>zq.elim λr2 q2=>hm pins s2 σ H2 x vs v us Q I2 r1 r2 q2
end
noncomputable def FV(X:Cx)(id:String)(r:V->az->Hp->VK->Prop):Prop:=
 ∀(pins:aK)(s:Kh)(σ:St)(H:Hp)(x:V)(xs:az)(v:Kc)(us:aP)(Q:VK),Inv X pins σ H s->RelV x v->Vals xs us->r x xs H Q->
  Kt `i X.A (call (.builtin id) (v::us)) (EP X pins σ Q) X.xe s
theorem Vals.one{x:V}{us:aP}(h:Vals [x] us):∃u,us=[u]/\RelV x u:=by
 cases h with|cons r t=>
 cases t;exact⟨_,rfl,r⟩
section
variable{X:Cx}{pins:aK}{σ:St}{H:Hp}{s:Kh}{l b:Ke}{xs ys zs:az}
theorem Inv.lset{its its':aP}{n:Nat}{f:Array Kc->Array Kc}{t':Nat}(I:`g)(hH:H l=some (.lst xs))
  (e:s.heap.get? l=some {cls:=.type "list",data:=.seq its.toArray n}) (hf:f its.toArray=its'.toArray) (hv:Vals ys its') (hz:ys.length<=Km):
  Inv X pins σ (upd H l (.lst ys)) {s with heap:=s.heap.update l (Obj.mapSeq f),toks:=t'}:=by
 have q:=PySem.IsL.update e f;rw[hf]at q;refine I.write (x:=l) (e:=l) (by rw[hH];exact trivial) (.inl rfl) (λb' u hb hu=>(J1 s.heap (Obj.mapSeq f) (Ne.symm hb)).trans hu) ⟨_,q⟩ ?_;exact⟨hz,its',_,hv,q⟩
theorem Inv.lnew{its:aP}{t':Nat}(I:`g)(hv:Vals ys its)(hz:ys.length<=Km):
  Inv X pins σ (upd H s.heap.objs.size (.lst ys)) {s with heap:=s.heap.push {cls:=.type "list",data:=.seq its.toArray},toks:=t'}:=
 I.laid (λ_ _ q=>JX _ q) (Hs _) ⟨hz,its,0,hv,JY _ rfl⟩
theorem Inv.fresh(I:`g):H s.heap.objs.size=none:=I.hok.fresh (Hs _)
theorem Inv.lstM(I:`g)(hH:H l=some (.lst xs)):xs.length<=Km/\∃(its:aP)(n:Nat),Vals xs its/\xs.length=its.length/\s.heap.get? l=some {cls:=.type "list",data:=.seq its.toArray n}:=by
 obtain⟨z,its,n,r,e⟩:=I.hok l _ hH;exact⟨z,its,n,r,r.length,e⟩
end
section
variable{X:Cx}
noncomputable def rS:V->az->Hp->VK->Prop:=λx vs H Q=>∃l xs y,x=.ref l/\vs=[y]/\H l=some (.lst xs)/\xs.length<Km/\Q .non (upd H l (.lst (xs++[y])))
theorem nM:FV X "list.append" rS:=by
 intro pins s σ H x vs v us Q I rx rv h;obtain⟨l,xs,y,rfl,rfl,hH,hz,q⟩:=h;cases rx;obtain⟨u,rfl,ru⟩:=rv.one;obtain⟨z,its,n,r,hl,e⟩:=I.lstM hH;refine call_meets F.slot_list_append ⟨_,e,rfl⟩ F.entry_list_append (F.args_list_append_2 _ _) (PySem.list_append l its.toArray n u (by rw[Hu];omega)) ⟨e,?_⟩;refine⟨.non,_,I.lset (its':=its++[u]) hH e `h (r.append (.cons ru .nil)) ?_,rfl,q⟩;rw[HJ,HQ];omega
end
end L2
namespace Att
open PySem PySem.W PySem.Calls PyProof.Rows
theorem kG{P:Params}{h:Kl}:∀(ns:List Int)(vs:List Kc),WellAll P h vs (ns.map WData.int)->IntsAre vs ns:=by
 intro ns
 induction ns with
 |nil=>
  intro vs w;rw[HR]at w;cases w;exact .nil
 |cons n ns ih=>
  intro vs w;rw[Hx]at w;cases w with
  |cons a b=>
   cases a;exact .cons _ _ (ih _ b)
theorem t8{l:OpenLaw}{n:Nat}(hn:l.most=some n){P:Params}{h:Kl}{args:List WData}{vals:List Kc}
  (hpre:l.row.toRowW.claim.pre args=true) (hwl:WellAll P h vals args):
  ∃a vs ns,vals=[Value.ref a]/\args=[WData.list (ns.map WData.int)]/\h.get? a=some {cls:=.type "list",data:=.seq vs.toArray}/\IntsAre vs ns/\ns.length<=n:=by
 have hsh:WShape.hasAll [] args [.list .int]=true:=(pre_splitW hpre).1;have hc:l.pre.holds [] {args:=args}=true:=(pre_splitW hpre).2;obtain⟨d,r,rfl,h1,h2⟩:=hasAllW_cons hsh;obtain rfl:=hasAllW_nil h2;obtain⟨xs,rfl,h3⟩:=hasW_list h1;obtain⟨ns,rfl⟩:=items_int h3;have hlen:ns.length<=n:=by
  unfold OpenLaw.pre at hc;have h4:(WTm.not (.lt (.lit (.int (n:Int))) (.len (.arg 0)))).holds [] {args:=[.list (ns.map .int)]}=true:=by
   have h4:=(holds_andW hc).1;rw[hn]at h4;exact h4
  have h5:=condW_of h4 (w_not (w_lt w_lit (w_len_list (w_arg rfl))));rw[Hy]at h5;refine Nat.le_of_not_lt λq=>?_;have q':(n:Int)<((ns.length:Nat):Int):=by omega
  first
   |(rw[decide_eq_true q']at h5;exact absurd h5 (by decide))
   |(simp at h5;omega)
 cases hwl with
 |cons w1 w2=>
  cases w2;cases w1 with
  |list ho hall=>exact⟨_,_,ns,rfl,rfl,ho,kG ns _ hall,hlen⟩
theorem ui(l:OpenLaw)(args:List WData):l.row.toRowW.claim.post args (.bool true) args=true:=
 postW_of (r:=l.row.toRowW) (X:=(true==true))
  (show WShape.has [] (.bool true) .bool=true by first|rfl|decide|simp[WShape.has,WShape.arms,WShape.armsAll])
  (show(WTm.eq .res (.lit (.bool true))).value [] {args:=args,res:=some (.bool true),after:=args}=some (.bool (true==true))from w_eq_bool (w_res rfl) w_lit) rfl
theorem zF{l:OpenLaw}{n:Nat}{q:Kj}{loose:List Str}{XP:(Str->Option Kc)->Kl->Prop}{YP:Ki->Kl->Prop}{d:DefRec}
  (hn:l.most=some n) (hdf:d.params.defaults=[])
  (call:∀ (w:Ki) (s₀ s₁:Kh) (mg mb:Str->Option Kc) (fa:Ke) (o:Obj) (pm cd doc:Kc) (a:Ke) (vs:List Kc) (ns:List Int),
   Ground q loose [] XP w s₀ mg mb s₁.heap->YP w s₁.heap->
   s₁.heap.get? fa=some o->o.data=.func (docDef d.name d.params d.body d.scope pm cd doc)->s₁.heap.CodeRec cd d.name->mg d.name=some (.ref fa)->
   s₁.heap.get? a=some {cls:=.type "list",data:=.seq vs.toArray}->IntsAre vs ns->ns.length<=n->s₁.gens=#[]->
   KO (model l.prog w) callerA (.call (.ref fa) ⟨[.ref a],[]⟩) (λr s'=>r=.ok (.ret (.bool true))/\OldK s₁.heap s'.heap/\s'.os=s₁.os/\AllBare s'.gens) s₁):
  WalkO q loose XP YP l.row.toRowW d [] (λf vs=>PySem.call f vs):=by
 intro w s₀ s₁ mg mb G Y fa o pm cd doc dV kV ho hd hcd hD hmg hg args vals as hpre hlay hrd hwl hlo;obtain rfl:dV=.none:=Dflts.none hD hdf;obtain rfl:kV=.none:=Dflts.noKw hD;obtain⟨a,vs,ns,rfl,rfl,hobj,hints,hlen⟩:=t8 hn hpre hwl;refine enter_call (KZ (call w s₀ s₁ mg mb fa o pm cd doc a vs ns G Y ho (fd_plain hd) hcd hmg hobj hints hlen hg) λr s' hq=>?_);obtain⟨rfl,h2,h3,h4⟩:=hq;exact⟨.inl ⟨.bool true,.bool true,[],rfl,λ_=>rfl,.bool true,ui l _,λ_=>⟨List.Pairwise.nil,λ_ hm=>(nomatch hm)⟩⟩,h2,h3,h4⟩
section
variable{prog:Kj}{w:Ki}{A:Kp}{E:Kc->Kh->Prop}{s:Kh}{K:Frag}
end
end Att
namespace L2
open PySem PySem.Spec PyProof.Rows
theorem mK:∀{vs:aP}{ns:List Int},IntsAre vs ns->Vals (ns.map V.int) vs
 |_,_,.nil=>.nil
 |_,_,.cons n t h=>.cons ⟨t,rfl⟩ (mK h)
noncomputable def Only(H:Hp):Prop:=∀b,H b=none\/∃o xs,H b=some (.frz o (.lst xs))
theorem vn{P:Kj}{w:Ki}{K:Jo}{mg mb:bj}{CX:qd}{k:Nat}{fa a:Ke}{fd:KU}{x:Str}{sp:Sp}{s₁:Kh}{vs:aP}{ns:List Int}
  (KX:K.In s₁.heap) (hns:s₁.heap.Ns Kn mg) (hb:s₁.heap.Ns builtinsNs mb) (hbb:∀x:Str,x≠"__name__"->mb x=Ko x) (hlim:s₁.heap.NoLimit) (hg:s₁.gens=#[])
  (ha:s₁.heap.get? a=some {cls:=.type "list",data:=.seq vs.toArray}) (hi:IntsAre vs ns) (hl:ns.length<=Km) (hr:cz k callerA)
  (F:∀base:Kl,K.In base->base.Ns Kn mg->dJ P w K mg base CX k fa fd [x] sp) (hbind:∀(s:Kh)(u:Kc),KW s fd ⟨[u],[]⟩ [(x,u)])
  (hsp:∀H:Hp,Only H->iW K H a (ns.map V.int)->sp [.ref a] H (λv _=>v=.bl true) λ_ _ _=>False)
  (hCX:∀H e s',CX [] H s₁ (λ_ _ _=>False) e s'->False):
  KO (model P w) callerA (.call (.ref fa) ⟨[.ref a],[]⟩) (λr s'=>r=.ok (.ret (.bool true))/\OldK s₁.heap s'.heap/\s'.os=s₁.os/\AllBare s'.gens) s₁:=by
 have rv:=mK hi;have lenV:=hi.length;have core:∀H:Hp,Only H->iW K H a (ns.map V.int)->jN P w H s₁.heap->(∀b,H b≠none->b=a)->(H a≠none->K.lookup a=none)->
   KO (model P w) callerA (.call (.ref fa) ⟨[.ref a],[]⟩) (λr s'=>r=.ok (.ret (.bool true))/\OldK s₁.heap s'.heap/\s'.os=s₁.os/\AllBare s'.gens) s₁:=by
  intro H hO hS hok hA hK;have base_of:∀{b:Ke}{o:Obj},s₁.heap.get? b=some o->H b=none->(j6 s₁.heap H).get? b=some o:=λe n=>oO e n;have noA:∀{b:Ke}{o:Obj}{es:Array DictEntry}{ep:Nat},s₁.heap.get? b=some o->o.data=.dict es ep->H b=none:=λ{b o es ep} e d=>by
   cases q:H b with
   |none=>rfl
   |some u=>
    have e':b=a:=hA b (by rw[q];simp);subst e';rw[ha]at e;cases e;have d':Data.seq vs.toArray _=Data.dict es ep:=d;cases d'
  have nsK:∀{b:Ke}{m:bj},s₁.heap.Ns b m->(j6 s₁.heap H).Ns b m:=λ{b m} ⟨o,es,ep,e,d,r⟩=>⟨o,es,ep,base_of e (noA e d),d,r⟩
  have hKb:K.In (j6 s₁.heap H):=λb o e=>base_of (KX b o e) (by
   cases q:H b with
   |none=>rfl
   |some u=>
    have e':b=a:=hA b (by rw[q];simp);subst e';rw[hK (by rw[q];simp)]at e;cases e)
  have hM:Mod K mg (j6 s₁.heap H):=⟨hKb,nsK hns,⟨mb,nsK hb,hbb⟩,let ⟨mc,h1,h2⟩:=hlim;⟨mc,nsK h1,h2⟩⟩
  have e0:tH P w K mg (j6 s₁.heap H) callerA [] s₁ H:=⟨rfl,hM,λb o e=>si e,Hz (sS _ _),trivial,λb hb=>absurd (show b∈([]:ay)from hb) `h,hok,.of_eq hg⟩
  refine KZ ((F _ hKb (nsK hns)).run callerA [] s₁ H ⟨[.ref a],[]⟩ [.ref a] [.ref a] _ _ hr e0 (hbind s₁ (.ref a)) (.cons rfl .nil) (hsp H hO hS)) λr s' h=>?_;cases r with
  |error e=>exact(hCX H e s' h).elim
  |ok fl=>
   cases fl with
   |next=>exact False.elim h
   |brk=>exact False.elim h
   |cont=>exact False.elim h
   |ret u=>
    obtain⟨v,H',os,bare,un,hok',r',q⟩:=h;have q':v=.bl true:=q;subst q';obtain rfl:u=Value.bool true:=r';refine⟨rfl,OldK.of_keep λb o e=>?_,os,bare⟩;cases q:H b with
    |none=>exact un.keep b o e q (by intro z;exact absurd (show b∈([]:ay)from z) `h) `h
    |some u=>
     rcases hO b with z|⟨ob,xs,z⟩
     ·rw[q]at z;cases z
     ·have z2:=un.frzs b ob _ z;obtain⟨e1,_⟩:=hok b _ z;obtain⟨e2,_⟩:=hok' b _ z2;rw[e]at e1;cases e1;exact e2
 cases hk:K.lookup a with
 |some o=>
  have e:=KX a o hk;rw[ha]at e;cases e;refine core (λ_=>none) (λ_=>.inl rfl) (.inr ⟨_,vs.toArray,_,hk,rfl,rfl,rfl,by rw[Hu,lenV];exact hl,by simpa using rv⟩) (λb u z=>by have z':(none:Option HO)=some u:=z;cases z') (λb z=>absurd rfl z) λz=>absurd rfl z
 |none=>
  refine core (λb=>if b=a then some (.frz {cls:=.type "list",data:=.seq vs.toArray} (.lst (ns.map V.int)))else none) (λb=>?_) (.inl (.inr ⟨{cls:=.type "list",data:=.seq vs.toArray},if_pos rfl⟩)) (λb u z=>?_) (λb z=>?_) λ_=>hk
  ·by_cases hb:b=a
   ·exact .inr ⟨_,_,if_pos hb⟩
   ·exact .inl (if_neg hb)
  ·by_cases hb:b=a
   ·have z':=(if_pos hb).symm.trans z;cases z';subst hb;exact⟨ha,by rw[Hy];exact hl,vs,_,rv,ha⟩
   ·have z':=(if_neg hb).symm.trans z;cases z'
  ·by_cases hb:b=a
   ·exact hb
   ·exact absurd (if_neg hb) z
theorem DC{l:JG}{n k:Nat}{q:Kj}{loose:ao}{XP:(bj)->Kl->Prop}{YP:Ki->Kl->Prop}{d:DefRec}{K:Params->Jo}{CX:Ki->qd}{sp:Ki->Sp}{x:Str}
  (hn:l.most=some n) (hn2:n<=Km) (hdf:d.params.defaults=[]) (hr:cz k callerA)
  (hY:∀(w:Ki)(h:Kl),YP w h->(K w.params).In h)
  (F:∀ (w:Ki) (mg:bj) (fa:Ke) (h:Kl),(K w.params).In h->h.Ns Kn mg->mg d.name=some (.ref fa) ->
   ∃fd:KU,(∀(s:Kh)(u:Kc),KW s fd ⟨[u],[]⟩ [(x,u)])/\
    ∀base:Kl,(K w.params).In base->base.Ns Kn mg->dJ l.prog w (K w.params) mg base (CX w) k fa fd [x] (sp w))
  (hsp:∀(w:Ki)(H:Hp)(a:Ke)(ns:List Int),ns.length<=n->Only H->iW (K w.params) H a (ns.map V.int)->sp w [.ref a] H (λv _=>v=.bl true) λ_ _ _=>False)
  (hCX:∀(w:Ki)(H:Hp)(s:Kh)(e:Kc)(s':Kh),CX w [] H s (λ_ _ _=>False) e s'->False):
  PySem.W.WalkO q loose XP YP l.row.toRowW d [] (λf vs=>PySem.call f vs):=by
 refine Att.zF hn hdf λw s₀ s₁ mg mb fa o pm cd doc a vs ns G Y ho hd hcd hmg hobj hints hlen hg=>?_;have KX:=hY w _ Y;obtain⟨fd,hb,hF⟩:=F w mg fa _ KX G.T.g hmg;exact vn KX G.T.g G.T.b G.T.builtins G.T.nolimit hg hobj hints (Hg hlen hn2) hr hF hb (λH hO hS=>hsp w H a ns hlen hO hS) λH e s'=>hCX w H s₁ e s'
noncomputable def inClass(s:Kg)(j:Nat):Kg:=match s with
 |.ClassDef _ _ _ body _ _ _ _ _ _ _=>body.getD j (.Pass ⟨0,0,0,0⟩)
 |_=>.Pass ⟨0,0,0,0⟩
noncomputable def fQ(s:Kg):Arguments:=match s with
 |.FunctionDef _ a _ _ _ _ _ _ _ _=>a
 |_=>{posonlyargs:=[],args:=[],vararg:=none,kwonlyargs:=[],kw_defaults:=[],kwarg:=none,defaults:=[]}
noncomputable def ca(s:Kg):b7:=match s with
 |.FunctionDef _ _ b _ _ _ _ _ _ _=>b
 |_=>[]
noncomputable def aq(s:Kg):Kq:=match s with
 |.FunctionDef _ _ _ _ _ _ sc _ _ _=>sc
 |_=>{kind:=.function,names:=[],isGenerator:=false,isCoroutine:=false}
noncomputable abbrev Dv:qd:=λ_ _ _ _ _ _=>False
noncomputable abbrev E0:XK:=λ_ _ _=>False
structure oN(K:Jo)(x qual:Str)(st:Kg)(f:Ke)(fd:KU):Prop where
 ex:∃(oc:Kc)(od:Option Ke)(kV doc pm:Kc)(an:Option Ke)(cdv ct:Kc)(osl:Array (Option Kc)),
  fd=JE x qual (fQ st) (ca st) (aq st) .none kV doc pm an cdv ct/\K.lookup f=some ⟨oc,od,.func fd,osl⟩/\JF K cdv qual=true
 kp:JB K (.ref f)=true
section
variable{P:Kj}{w:Ki}{K:Jo}{mg:bj}{base:Kl}
theorem oN.ok{x qual:Str}{st:Kg}{f:Ke}{fd:KU}{N ps:ao}{k:Nat}{sp:Sp}(F:oN K x qual st f fd)(S:bP N ps (aq st))(len:∀vs H Q E,sp vs H Q E->vs.length=ps.length)
  (hbody:∀ (cdv:Kc) (A:Kp) (outer:List Env) (s:Kh) (H:Hp) (vs:az) (Q:VK) (E:XK),cz k (A.deeper (envOfC qual (aq st) s.heap.objs.size f cdv))->sp vs H Q E ->
   ∃t,oM (eK Dv P w K mg base N qual (aq st) f cdv A outer s H E).nox (ca st) t/\t {nx:=λ_ H'=>Q .non H',rt:=Q} (start N vs) H):dJ P w K mg base Dv (k+1) f fd ps sp:=by
 obtain⟨oc,od,kV,doc,pm,an,cdv,ct,osl,rfl,lk,hcd⟩:=F.ex;refine zr lk hcd S len λA outer s H vs Q E hr hsp=>?_;obtain⟨t,h,q⟩:=hbody cdv A outer s H vs Q E hr hsp;exact⟨t,h.nox,q⟩
theorem oN.binds{x qual:Str}{st:Kg}{f:Ke}{fd:KU}{ps:ao}(F:oN K x qual st f fd)
  (h:∀(kV doc pm:Kc)(an:Option Ke)(cdv ct:Kc)(us:aP),us.length=ps.length->bindArgs (JE x qual (fQ st) (ca st) (aq st) .none kV doc pm an cdv ct) ⟨us,[]⟩=pure (ps.zip us)):Binds K fd ps []:=by
 obtain⟨oc,od,kV,doc,pm,an,cdv,ct,osl,rfl,lk,hcd⟩:=F.ex;exact .all (h kV doc pm an cdv ct)
theorem b6{x qual:Str}{st:Kg}{f:Ke}{oc:Kc}{od an:Option Ke}{osl:Array (Option Kc)}{kV doc pm cdv ct:Kc}(l:K.lookup f=some ⟨oc,od,.func (JE x qual (fQ st) (ca st) (aq st) .none kV doc pm an cdv ct),osl⟩)
  (c:JF K cdv qual=true) (k:JB K (.ref f)=true):oN K x qual st f (JE x qual (fQ st) (ca st) (aq st) .none kV doc pm an cdv ct):=⟨⟨oc,od,kV,doc,pm,an,cdv,ct,osl,rfl,l,c⟩,k⟩
end
section
variable{X:Cx}
theorem pv(i:Nat){x:Str}{pos:Pos}(hN:X.N[i]?=some x:=by rfl)(hv:zZ X.env.scope x:=by first|exact Or.inl rfl|exact Or.inr (Or.inl rfl)|exact Or.inr (Or.inr rfl))(hd:(x==("__debug__":Str))=false:=by decide)
  (hcd:(x==("__classdict__":Str))=false:=by decide):PE X (.Name x pos) (n5 i):=Av hN hv hd hcd
end
theorem yy{A B:Prop}(h:B):if false=true then A else B:=by
 rw[if_neg Hv];exact h
theorem yx{A B:Prop}(h:A):if true=true then A else B:=by
 rw[if_pos rfl];exact h
noncomputable def aL(H H':Hp):Prop:=∀b o,H b=some o->H' b=some o
theorem aL.refl(H:Hp):aL H H:=λ_ _ h=>h
theorem aL.trans{H H1 H2:Hp}(a:aL H H1)(b:aL H1 H2):aL H H2:=λc o h=>b c o (a c o h)
theorem aL.free{H H':Hp}(e:aL H H'){l:Ke}(h:H' l=Option.none):H l=Option.none:=by
 cases q:H l with
 |none=>rfl
 |some o=>
  rw[e l o q]at h;cases h
theorem aL.seq{K:Jo}{H H':Hp}{a:Ke}{xs:az}(e:aL H H')(h:iW K H a xs):iW K H' a xs:=by
 rcases h with(h|⟨o,h⟩)|h
 ·exact .inl (.inl (e _ _ h))
 ·exact .inl (.inr ⟨o,e _ _ h⟩)
 ·exact .inr h
section
variable{κ:Type}[DecidableEq κ]
noncomputable def iS(kvs:List (κ×V))(k:κ):Option V:=(kvs.find? λkv=>decide (kv.1=k)).map (·.2)
noncomputable def putK(kvs:List (κ×V))(k:κ)(v:V):List (κ×V):=
 if(kvs.any λkv=>decide (kv.1=k))=true then kvs.map (λkv=>if kv.1=k then(kv.1,v)else kv)else kvs++[(k,v)]
theorem jf{p:κ×V}{r:List (κ×V)}{k:κ}(e:p.1=k):iS (p::r) k=some p.2:=by simp[iS,HS,e]
theorem ja{p:κ×V}{r:List (κ×V)}{k:κ}(e:¬p.1=k):iS (p::r) k=iS r k:=by simp[iS,HS,e]
theorem pF(k:κ):∀kvs:List (κ×V),(kvs.any λkv=>decide (kv.1=k))=(iS kvs k).isSome
 |[]=>rfl
 |p::r=>by
  rw[HU];by_cases e:p.1=k
  ·simp only[jf e,decide_eq_true e,Bool.true_or,Option.isSome_some]
  ·rw[ja e,decide_eq_false e,Bool.false_or];exact pF k r
theorem kF(kvs:List (κ×V))(k:κ)(v:V):(putK kvs k v).length<=kvs.length+1:=by
 unfold putK;split
 ·rw[Hy];omega
 ·rw[HJ,Hw,HV];omega
theorem oa.isSome_eq{o:Option V}{u:Option Kc}(r:oa o u):o.isSome=u.isSome:=by
 cases o with
 |none=>cases u with
  |none=>rfl
  |some _=>exact(show False from r).elim
 |some _=>cases u with
  |none=>exact(show False from r).elim
  |some _=>rfl
theorem KV.val{kvs:List (κ×V)}{vs:List (κ×Kc)}(r:KV kvs vs)(k:κ):oa (iS kvs k) (valueAt vs k):=by
 unfold KV at r
 induction r with
 |nil=>exact True.intro
 |@cons p q ps qs h t ih=>
  obtain⟨h1,h2⟩:=h;by_cases e:p.1=k
  ·have e':q.1=k:=h1.symm.trans e;have b:valueAt (q::qs) k=some q.2:=(by simp[valueAt,HS,e']);rw[jf e,b];exact h2
  ·have e':¬q.1=k:=λz=>e (h1.trans z);have b:valueAt (q::qs) k=valueAt qs k:=(by simp[valueAt,HS,e']);rw[ja e,b];exact ih
theorem KV.any{kvs:List (κ×V)}{vs:List (κ×Kc)}(r:KV kvs vs)(k:κ):(kvs.any λkv=>decide (kv.1=k))=vs.any λkv=>decide (kv.1=k):=by
 unfold KV at r
 induction r with
 |nil=>rfl
 |cons h t ih=>rw[HU,HU,ih,h.1]
theorem KV.repl{kvs:List (κ×V)}{vs:List (κ×Kc)}(r:KV kvs vs)(k:κ){y:V}{u:Kc}(ry:RelV y u):
  KV (kvs.map λkv=>if kv.1=k then(kv.1,y)else kv) (vs.map λkv=>if kv.1=k then(kv.1,u)else kv):=by
 unfold KV at r ⊢
 induction r with
 |nil=>exact .nil
 |@cons p q ps qs h t ih=>
  rw[Hx,Hx];refine .cons ?_ ih;obtain⟨h1,h2⟩:=h;by_cases e:p.1=k
  ·rw[if_pos e,if_pos (h1.symm.trans e)];exact⟨h1,ry⟩
  ·rw[if_neg e,if_neg (λz=>e (h1.trans z))];exact⟨h1,h2⟩
theorem KV.put{kvs:List (κ×V)}{vs:List (κ×Kc)}(r:KV kvs vs)(k:κ){y:V}{u:Kc}(ry:RelV y u):KV (putK kvs k y) (stored vs k u):=by
 unfold putK stored;rw[r.any k];by_cases e:(vs.any λkv=>decide (kv.1=k))=true
 ·rw[if_pos e,if_pos e];exact r.repl k ry
 ·rw[if_neg e,if_neg e];exact Paired.snoc r ⟨rfl,ry⟩
theorem KV.keys{kvs:List (κ×V)}{vs:List (κ×Kc)}(r:KV kvs vs):kvs.map (·.1)=vs.map (·.1):=by
 unfold KV at r
 induction r with
 |nil=>rfl
 |cons h t ih=>rw[Hx,Hx,ih,h.1]
theorem KV.length{kvs:List (κ×V)}{vs:List (κ×Kc)}(r:KV kvs vs):kvs.length=vs.length:=Paired.length r
end
theorem sG{P:Kj}{w:Ki}{k:Key}{u:Kc}(r:RelV (kV k) u):(bz P w).is k u=true:=by
 cases k with
 |inl i=>obtain⟨t,e⟩:=(show∃t,u=Value.int i t from r);subst e;exact o6 P w i t
 |inr x=>obtain⟨t,e⟩:=(show∃t,u=Value.str x t from r);subst e;exact oZ P w x t
theorem mZ{P:Kj}{w:Ki}:∀{ks:List Key}{us:aP},Vals (ks.map kV) us->ItemsAre (bz P w) ks us
 |[],_,r=>by rw[HR]at r;cases r;exact .nil
 |k::ks,_,r=>by
  rw[Hx]at r;cases r with
  |cons h t=>exact .cons (sG h) (mZ t)
noncomputable abbrev KT(H:Hp):List (List Key×V)->List (List Key×Ke×Kc)->Prop:=Kk λp q=>p.1=q.1/\H q.2.1=some (.tup (p.1.map kV))/\RelV p.2 q.2.2
theorem KT.val{H:Hp}{kvs:List (List Key×V)}{xs:List (List Key×Ke×Kc)}(r:KT H kvs xs)(k:List Key):oa (iS kvs k) ((atKey xs k).map (·.2)):=by
 induction r with
 |nil=>exact True.intro
 |@cons p q ps qs h t ih=>
  obtain⟨h1,_,h2⟩:=h;by_cases e:p.1=k
  ·have e':q.1=k:=h1.symm.trans e;have b:atKey (q::qs) k=some q.2:=(by simp[atKey,HS,e']);rw[jf e,b];exact h2
  ·have e':¬q.1=k:=λz=>e (h1.trans z);have b:atKey (q::qs) k=atKey qs k:=(by simp[atKey,HS,e']);rw[ja e,b];exact ih
theorem KT.repl{H:Hp}{kvs:List (List Key×V)}{xs:List (List Key×Ke×Kc)}(r:KT H kvs xs)(k:List Key){y:V}{u:Kc}(ry:RelV y u):
  KT H (kvs.map λkv=>if kv.1=k then(kv.1,y)else kv) (xs.map (putAt k u)):=by
 induction r with
 |nil=>exact .nil
 |@cons p q ps qs h t ih=>
  rw[Hx,Hx];refine .cons ?_ ih;obtain⟨h1,h2,h3⟩:=h;unfold putAt;by_cases e:p.1=k
  ·rw[if_pos e,if_pos (h1.symm.trans e)];exact⟨h1,h2,ry⟩
  ·rw[if_neg e,if_neg (λz=>e (h1.trans z))];exact⟨h1,h2,h3⟩
theorem KT.put{H:Hp}{kvs:List (List Key×V)}{xs:List (List Key×Ke×Kc)}(r:KT H kvs xs)(k:List Key){b:Ke}{y:V}{u:Kc}(hb:H b=some (.tup (k.map kV)))(ry:RelV y u):
  KT H (putK kvs k y) (storedH xs k b u):=by
 have e:(kvs.any λkv=>decide (kv.1=k))=(atKey xs k).isSome:=by
  rw[pF,(r.val k).isSome_eq,HW]
 unfold putK storedH;rw[e];by_cases q:(atKey xs k).isSome=true
 ·rw[if_pos q,if_pos q];exact r.repl k ry
 ·rw[if_neg q,if_neg q];exact Paired.snoc r ⟨rfl,hb,ry⟩
theorem KT.keeps{H H':Hp}{kvs:List (List Key×V)}{xs:List (List Key×Ke×Kc)}(r:KT H kvs xs)(ht:∀b ys,H b=some (.tup ys)->H' b=some (.tup ys)):KT H' kvs xs:=
 Paired.mapP r λ_ _ z=>⟨z.1,ht _ _ z.2.1,z.2.2⟩
section
variable{P:Kj}{w:Ki}{H:Hp}{h:Kl}{a:Ke}
theorem zx{u:HO}(ok:jN P w H h)(e:Rd H a u):bL P w H h a u:=e.ok ok
theorem sF{kvs:List (Key×V)}(ok:jN P w H h)(e:Rd H a (.dK kvs)):kvs.length<=Km/\(a==sysModules)=false/\∃vs,KV kvs vs/\h.DictOf (bz P w) a vs:=
 show bL P w H h a (.dK kvs)from zx ok e
theorem rq{kvs:List (Key×V)}(ok:jN P w H h)(e:H a=some (.dK kvs)):kvs.length<=Km/\(a==sysModules)=false/\∃vs,KV kvs vs/\h.DictOf (bz P w) a vs:=sF ok (.inl e)
theorem oo{ks:List Key}(ok:jN P w H h)(e:H a=some (.tup (ks.map kV))):(tupleKind (bz P w)).is h ks a:=by
 obtain⟨_,its,r,o,h1,h2,n,h3⟩:=(show bL P w H h a (.tup (ks.map kV))from ok a _ e)
 exact⟨o,its.toArray,n,h1,h2,h3,by simpa using mZ r⟩
theorem rZ{kvs:List (List Key×V)}(ok:jN P w H h)(e:Rd H a (.dT kvs)):kvs.length<=Km/\(a==sysModules)=false/\
  ∃xs,KT H kvs xs/\h.DictOfH (tupleKind (bz P w)) a xs:=by
 obtain⟨z,y,xs,r,o,es,ep,h1,h2,h3,h4,h5⟩:=(show bL P w H h a (.dT kvs)from zx ok e)
 refine⟨z,y,xs,r,o,es,ep,h1,h2,h3,h4,λx hx=>?_,h5⟩;have all:∀{l:List (List Key×V)}{m:List (List Key×Ke×Kc)},KT H l m->∀x∈m,(tupleKind (bz P w)).is h x.1 x.2.1:=by
  intro l m q
  induction q with
  |nil=>intro x hx;exact nomatch hx
  |@cons p q ps qs hq t ih=>
   intro x hx;rcases List.mem_cons.mp hx with e|hx
   ·subst e;exact oo ok (by rw[<-hq.1];exact hq.2.1)
   ·exact ih x hx
 exact all r x hx
theorem BK{kvs:List (List Key×V)}(ok:jN P w H h)(e:H a=some (.dT kvs)):kvs.length<=Km/\(a==sysModules)=false/\
  ∃xs,KT H kvs xs/\h.DictOfH (tupleKind (bz P w)) a xs:=rZ ok (.inl e)
end
noncomputable def uf(H:Hp)(a:Ke)(y:V)(r:Option V):Prop:=
 (∃kvs k,Rd H a (.dK kvs)/\y=kV k/\r=iS kvs k)\/∃kvs k b,Rd H a (.dT kvs)/\y=.ref b/\H b=some (.tup (k.map kV))/\r=iS kvs k
noncomputable def BZ(H:Hp)(a:Ke)(y v:V)(H':Hp):Prop:=
 (∃kvs k,H a=some (.dK kvs)/\y=kV k/\kvs.length<Km/\H'=upd H a (.dK (putK kvs k v))) \/
 ∃kvs k b,H a=some (.dT kvs)/\y=.ref b/\H b=some (.tup (k.map kV))/\kvs.length<Km/\H'=upd H a (.dT (putK kvs k v))
theorem uf.k{H:Hp}{a:Ke}{kvs:List (Key×V)}{k:Key}(e:H a=some (.dK kvs)):uf H a (kV k) (iS kvs k):=.inl ⟨kvs,k,.inl e,rfl,rfl⟩
theorem BZ.k{H:Hp}{a:Ke}{kvs:List (Key×V)}{k:Key}{v:V}(e:H a=some (.dK kvs))(hl:kvs.length<Km):BZ H a (kV k) v (upd H a (.dK (putK kvs k v))):=.inl ⟨kvs,k,e,rfl,hl,rfl⟩
section
variable{X:Cx}{pins:aK}{σ:St}{H:Hp}{s:Kh}{a:Ke}{y v:V}{u r:Kc}{o:Option V}{A:Kp}{E:bf}
theorem Inv.big(I:`g):sysModules<s.heap.objs.size:=by
 have h:Kn<s.heap.objs.size:=(I.mod.glob.keeps I.bk).lt;exact Nat.lt_trans (by decide) h
theorem uE{Q:bf}(hu:A.units+1<KS)(I:`g)(g:uf H a y (some v))(ry:RelV y u)(h:∀w' s',Inv X pins σ H s'->RelV v w'->Q w' s'):
  Kt `i A (getItem (.ref a) u) Q E s:=by
 rcases g with⟨kvs,k,e,ey,l⟩|⟨kvs,k,b,e,ey,eb,l⟩
 ·subst ey;obtain⟨z,hd,vs,rel,dd⟩:=sF I.hok e;obtain⟨w',hw,rw'⟩:=oa.some_of (v:=v) (o:=valueAt vs k) (by rw[l];exact rel.val k);exact wpAny_getItem_of (sG ry) dd.mapOf hw (h w' _ (I.tok _) rw')
 ·subst ey;cases(show u=Value.ref b from ry);obtain⟨z,hd,xs,rel,dd⟩:=rZ I.hok e;obtain⟨w',hw,rw'⟩:=oa.some_of (v:=v) (o:=(atKey xs k).map (·.2)) (by rw[l];exact rel.val k);obtain⟨p,hp,hp2⟩:=Option.map_eq_some_iff.mp hw;refine wpAny_getItem_heap (Le hu) (oo I.hok eb) dd hp ?_;rw[hp2];exact h w' _ (I.tok _) rw'
theorem x9{Q:bf}(hu:A.units+1<KS)(I:`g)(g:uf H a y o)(ry:RelV y u)(h:∀s',Inv X pins σ H s'->Q (.bool (!o.isSome)) s'):
  Kt `i A (KL .NotIn u (.ref a)) Q E s:=by
 rcases g with⟨kvs,k,e,ey,l⟩|⟨kvs,k,b,e,ey,eb,l⟩
 ·subst ey;obtain⟨z,hd,vs,rel,dd⟩:=sF I.hok e;refine wpAny_notIn_of (sG ry) hd dd.mapOf ?_;rw[<-(rel.val k).isSome_eq,<-l];exact h _ (I.tok _)
 ·subst ey;cases(show u=Value.ref b from ry);obtain⟨z,hd,xs,rel,dd⟩:=rZ I.hok e;refine wpAny_notIn_heap (Le hu) (oo I.hok eb) hd dd ?_;have q:=(rel.val k).isSome_eq;rw[HW]at q;rw[<-q,<-l];exact h _ (I.tok _)
theorem kO{h':Kl}{t':Nat}{ob:HO}(I:`g)(mu:B6 (H a))(hs:JW a s.heap h')(he:∃q,h'.get? a=some q)(new:bL X.prog X.w (upd H a ob) h' a ob):
  Inv X pins σ (upd H a ob) {s with heap:=h',toks:=t'}:=
 I.write (x:=a) (e:=a) mu (.inl rfl) (λb q hb z=>(hs.2 b hb).trans z) he new
theorem AK{P:Kj}{w:Ki}{H':Hp}{h':Kl}{kvs:List (Key×V)}{vs:List (Key×Kc)}(z:kvs.length<=Km)(hd:(a==sysModules)=false)(rel:KV kvs vs)(dd:h'.DictOf (bz P w) a vs):
  bL P w H' h' a (.dK kvs):=⟨z,hd,vs,rel,dd⟩
theorem nD{H':Hp}{Q:Unit->gq}(hu:A.units+1<KS)(I:`g)(g:BZ H a y v H')(ry:RelV y u)(rv:RelV v r)(h:∀s',Inv X pins σ H' s'->Q () s'):
  Kt `i A (setItem (.ref a) u r) Q E s:=by
 rcases g with⟨kvs,k,e,ey,l,eH⟩|⟨kvs,k,b,e,ey,eb,l,eH⟩
 ·subst ey eH;obtain⟨z,hd,vs,rel,dd⟩:=rq I.hok e;have hz:vs.length<=Km:=by rw[<-rel.length];exact z
  have hl:(putK kvs k v).length<=Km:=by have:=kF kvs k v;omega
  refine wpAny_setItem_pairs (hsz:=hz) (sG ry) dd λh' dd' hs=>h _ ?_;have he:∃q,h'.get? a=some q:=let ⟨q,_,_,hq,_⟩:=dd';⟨q,hq⟩
  exact kO I (by rw[e];exact True.intro) hs he (AK hl hd (rel.put k rv) dd')
 ·subst ey eH;cases(show u=Value.ref b from ry);obtain⟨z,hd,xs,rel,dd⟩:=BK I.hok e;have hz:xs.length<=Km:=by rw[<-Paired.length rel];exact z
  have hl:(putK kvs k v).length<=Km:=by have:=kF kvs k v;omega
  refine wpAny_setItem_heap (hsz:=hz) (Le hu) (oo I.hok eb) dd λh' dd' hs=>h _ ?_;obtain⟨q,es,ep,hq,h2,h3,h4,_,h5⟩:=dd';refine kO I (by rw[e];exact True.intro) hs ⟨q,hq⟩ ⟨hl,hd,_,(rel.put k eb rv).keeps λc ys ec=>?_,q,es,ep,hq,h2,h3,h4,h5⟩;rw[ax (CF ec e (λz=>nomatch z))];exact ec
end
noncomputable def Bf(i:Kf):Prop:=∀ov iv,subscripted i false ov iv=operate [ov,iv] (getItem ov iv)
theorem yG{prog:Kj}{w:Ki}{A:Kp}{E:bf}{s:Kh}{env:Env}{value slice:Kf}{pos:Pos}{T id:String}{Q:bf}
  (hl:typeLookup (.type T) "__getitem__"=pure (some (.builtin id))) (hs:Bf slice)
  (h:Kt `j A (eval value env) (λo s₁=>Kt `j A (eval slice env) (λi s₂=>s₂.TypeIs o T/\Kt `j A (getItem o i) Q E s₂) E s₁) E s):
  Kt `j A (eval (.Subscript value slice pos) env) Q E s:=by
 refine Lb (Kv h (λo s₁ h₁=>Kv h₁ (λi s₂ h₂=>?_) λ_ _ x=>x) λ_ _ x=>x);obtain⟨hT,h₂⟩:=h₂;unfold subscriptTail;refine Ky ?_;rw[getitemInPython_of_ne hT.not_modules];refine Ky (wpAny_specialOf hT hl ?_);have fin:Kt `j A (subscripted slice false o i) (λr s₃=>Kt `j A (letTemporaryGo value o r >>= λ_=>pure r) Q E s₃) E s₂:=by
  rw[hs o i];exact wpAny_operating (Kv h₂ (λr s₃ h₃=>Ky (wpAny_letTemporaryGo (KC h₃))) λ_ _ x=>x)
 first
  |exact KC (Ky fin)
  |exact Ky (KC (Ky fin))
  |exact Ky fin
theorem pE{X:Cx}{pins:aK}{σ:St}{H:Hp}{s:Kh}{a:Ke}{y:V}{o:Option V}(I:`g)(g:uf H a y o):s.TypeIs (.ref a) "dict":=by
 rcases g with⟨kvs,k,e,_,_⟩|⟨kvs,k,b,e,_,_,_⟩
 ·obtain⟨_,_,vs,_,dd⟩:=sF I.hok e;exact dd.typeIs
 ·obtain⟨_,_,xs,_,dd⟩:=rZ I.hok e;exact dd.typeIs
noncomputable def B8(td ty:TE):TE:=λσ H Q=>td σ H λx H1=>ty σ H1 λy H2=>∃a v,x=.ref a/\uf H2 a y (some v)/\Q v H2
section
variable{X:Cx}{o i e value:Kf}{pos pos' tpos:Pos}{td ty tv:TE}
theorem yW(hu:X.A.units+1<KS)(ho:PE X o td)(hi:PE X i ty)(hs:Bf i):PE X (.Subscript o i pos) (B8 td ty):=by
 intro pins s σ H Q I h;refine yG PySem.F.slot_dict_getitem.lookup hs (b9 (ho pins s σ H _ I h) λu s1 zq=>zq.elim λx zq=>zq.elim λH1 zq=>zq.elim λI1 zq=>zq.elim λrx q1=>b9 (hi pins s1 σ H1 _ I1 q1) λiv s2 zq=>zq.elim λy zq=>zq.elim λH2 zq=>zq.elim λI2 zq=>zq.elim λry zq=>zq.elim λa zq=>zq.elim λv zq=>zq.elim λex zq=>zq.elim λg q2=>?_);subst ex;obtain rfl:u=Value.ref a:=rx;exact⟨pE I2 g,uE hu I2 g ry λw' s3 I3 rw'=>⟨v,H2,I3,rw',q2⟩⟩
end
theorem uU{P:Kj}{w:Ki}{H:Hp}(h:Kl)(hb:sysModules<h.objs.size):bL P w H (h.push {cls:=.type "dict",data:=.dict #[]}) h.objs.size (.dT []):=
 ⟨HA _,beq_eq_false_iff_ne.mpr (Ne.symm (Hf hb)),[],.nil,_,#[],0,JY _ rfl,⟨rfl,rfl,rfl⟩,rfl,rfl,List.nodup_nil⟩
noncomputable def Bq:TE:=λ_ H Q=>∀p,H p=none->Q (.ref p) (upd H p (.dT []))
section
variable{X:Cx}{pos:Pos}
theorem wm:PE X (.Dict [] [] pos) Bq:=λpins s σ H Q I h=>
 wpAny_Dict_empty ⟨.ref s.heap.objs.size,_,I.laid (a:=s.heap.objs.size) (o:=.dT []) (t':=s.toks) (λ_ _ q=>JX _ q) (Hs _) (uU s.heap I.big),rfl,h _ (I.hok.fresh (Hs _))⟩
end
noncomputable def bT(cells:ki):lC->ki->ki
 |[],acc=>acc
 |(n,k)::r,acc=>if k=.free then(match cells.lookup n with|some c=>bT cells r ((n,c)::acc)|none=>bT cells r acc)else bT cells r acc
theorem g6{cells:ki}:∀(names:lC)(acc:ki),(∀x c,acc.lookup x=some c->cells.lookup x=some c)->
  ∀x c,(bT cells names acc).lookup x=some c->cells.lookup x=some c
 |[],acc,h=>h
 |(n,k)::r,acc,h=>by
  unfold bT;by_cases hk:k=.free
  ·rw[if_pos hk];cases e:cells.lookup n with
   |none=>exact g6 r acc h
   |some c0=>
    refine g6 r _ λx c q=>?_;rw[HX]at q;cases hx:x==n with
    |true=>
     rw[hx]at q;have e1:x=n:=(by simpa using hx);cases q;rw[e1];exact e
    |false=>rw[hx]at q;exact h x c q
  ·rw[if_neg hk];exact g6 r acc h
theorem fP{cells:ki}:∀(names:lC)(acc:ki)(x:Str),(acc.lookup x).isSome=true->((bT cells names acc).lookup x).isSome=true
 |[],acc,x,h=>h
 |(n,k)::r,acc,x,h=>by
  unfold bT;by_cases hk:k=.free
  ·rw[if_pos hk];cases e:cells.lookup n with
   |none=>exact fP r acc x h
   |some c0=>
    refine fP r _ x ?_;rw[HX];cases hx:x==n with
    |true=>rfl
    |false=>exact h
  ·rw[if_neg hk];exact fP r acc x h
theorem fK{cells:ki}:∀(names:lC)(acc:ki)(x:Str),(x,NameKind.free)∈names->(∃c,cells.lookup x=some c)->((bT cells names acc).lookup x).isSome=true
 |[],acc,x,h,_=>absurd h `h
 |(n,k)::r,acc,x,h,hc=>by
  unfold bT;rcases List.mem_cons.mp h with e|h
  ·cases e;rw[if_pos rfl];obtain⟨c,e⟩:=hc;rw[e];refine fP r _ _ ?_;rw[HX];simp
  ·by_cases hk:k=.free
   ·rw[if_pos hk];cases e:cells.lookup n with
    |none=>exact fK r acc x h hc
    |some c0=>exact fK r _ x h hc
   ·rw[if_neg hk];exact fK r acc x h hc
theorem jo{scope:Kq}{env:Env}(h:∀p∈scope.names,p.2=.free->∃c,env.cells.lookup p.1=some c):closureFor scope env=pure (bT env.cells scope.names []):=by
 have go:∀(names:lC)(acc:ki),(∀p∈names,p.2=.free->∃c,env.cells.lookup p.1=some c)->
   (forIn names acc λx cs=>(match x with|(name,kind)=>if(kind==NameKind.free)=true then do let a<-cellOf env name;pure (ForInStep.yield ((name,a)::cs))else pure (ForInStep.yield cs):Sem (ForInStep ki)))=pure (bT env.cells names acc):=by
  intro names
  induction names with
  |nil=>intro acc _;rfl
  |cons p r ih=>
   intro acc hp;obtain⟨n,k⟩:=p;rw[List.forIn_cons];by_cases hk:k=.free
   ·obtain⟨c,e⟩:=hp (n,k) Hj hk;subst hk;have e2:cellOf env n=pure c:=(by unfold cellOf;rw[e]);simp only[beq_self_eq_true,if_true,e2,pure_bind];rw[ih _ λq hq=>hp q (Hk _ hq)]
    conv=>rhs;rw[bT]
    simp[e]
   ·have hb:(k==NameKind.free)=false:=(by simpa using hk);simp only[hb,HY,if_false,pure_bind];rw[ih _ λq hq=>hp q (Hk _ hq)]
    conv=>rhs;rw[bT,if_neg hk]
 have:=go scope.names [] h
 unfold closureFor;simp only[];rw[this];rfl
noncomputable def bo(X:Cx)(scope:Kq)(N:ao)(cl:ki)(C:Ke)(fp:ay)(s:Kh)(H:Hp)(E:bf):Cx where
 prog:=X.prog
 w:=X.w
 K:=X.K
 mg:=X.mg
 base:=X.base
 A:=X.A
 N:=N
 s₀:=s
 H₀:=H
 env:=compEnvC scope cl C X.env
 outer:=X.stack
 stack:=X.stack
 ex:=fp
 fn:=λ_=>false
 calm:=X.calm
 pn:=[]
 xe:=E
noncomputable def ow(XN N:ao)(names:lC)(ix:dF):Bool:=
 decide (ix.length=N.length)&&(N.zip ix).all λp=>match p.2 with
  |some i=>decide (XN[i]?=some p.1)&&decide (names.lookup p.1=some .free)
  |none=>true
noncomputable def inBlock(ix:dF)(σ:St):St:=ix.map λo=>match o with
 |some i=>(σ[i]?).getD none
 |none=>none
theorem ow.len{XN N:ao}{names:lC}{ix:dF}(h:ow XN N names ix=true):ix.length=N.length:=by
 unfold ow at h;rw[HM]at h;exact of_decide_eq_true h.1
theorem ow.at_{XN N:ao}{names:lC}{ix:dF}(h:ow XN N names ix=true){j i:Nat}{x:Str}(h1:N[j]?=some x)(h2:ix[j]?=some (some i)):XN[i]?=some x/\names.lookup x=some .free:=by
 unfold ow at h;rw[HM]at h;have hm:(x,some i)∈N.zip ix:=by
  have e:(N.zip ix)[j]?=some (x,some i):=by rw[List.getElem?_zip_eq_some];exact⟨h1,h2⟩
  exact HI e
 have q:=List.all_eq_true.mp h.2 _ hm;simp only[HM]at q;exact⟨of_decide_eq_true q.1,of_decide_eq_true q.2⟩
theorem gQ{env:Env}:∀{names:lC}{x:Str}{k:Kd},
  (names.map λ(n,k)=>if(k==NameKind.free&&env.scope.kind==.function&&env.kindOf n==some .cell)then(n,NameKind.cell)else(n,k)).lookup x=some k->
  names.lookup x=some k\/(names.lookup x=some .free/\k=.cell)
 |[],_,_,h=>by simp at h
 |(n,k0)::r,x,k,h=>by
  have ih:=@gQ env r x k
  replace h:List.lookup x ((if(k0==NameKind.free&&env.scope.kind==.function&&env.kindOf n==some .cell)=true then(n,NameKind.cell)else(n,k0))::(r.map λ(n,k)=>if(k==NameKind.free&&env.scope.kind==.function&&env.kindOf n==some .cell)then(n,NameKind.cell)else(n,k)))=some k:=h
  by_cases hc:(k0==NameKind.free&&env.scope.kind==.function&&env.kindOf n==some .cell)=true
  ·rw[if_pos hc]at h;have hk0:k0=.free:=by
    simp only[HM]at hc
    simpa using hc.1.1
   cases hx:x==n with
   |true=>
    simp only[HX,hx]at h;simp only[HX,hx];cases h;exact .inr ⟨by rw[hk0],rfl⟩
   |false=>
    simp only[HX,hx]at h ⊢;exact ih h
  ·rw[if_neg hc]at h;cases hx:x==n with
   |true=>
    simp only[HX,hx]at h ⊢;exact .inl h
   |false=>
    simp only[HX,hx]at h ⊢;exact ih h
noncomputable def zX(X:Cx)(ifs:aX)(t:TT):Prop:=
 ∀(pins:aK)(s:Kh)(σ:St)(H:Hp)(Q:Bool->Hp->Prop),Inv X pins σ H s->t σ H Q->
  Kt `i X.A (forIn ifs true λc r=>if r=true then do let ok<-isTrue c X.env (eval c X.env);pure (ForInStep.yield ok)else pure (ForInStep.yield r)) (TP X pins σ Q) X.xe s
noncomputable def C5:TT:=λ_ H Q=>Q true H
theorem zg{X:Cx}:zX X [] C5:=λ_ _ _ H _ I h=>wpAny_tests_nil ⟨H,I,h⟩
theorem yU{X:Cx}{c:Kf}{t:TT}(h:PT X c t):zX X [c] t:=λpins s σ H Q I q=>wpAny_tests_one (h pins s σ H Q I q)
theorem gz{prog:Kj}{w:Ki}{A:Kp}{R:Result->gq}{s:Kh}{elt target iter:Kf}{ifs:aX}{scope:Kq}{pos:Pos}{it acc:Kc}{env:Env}(I:Nat->gq)
  (turn:∀ n s,I n s->Kt `j A (pyNext it) (fun r s₁=>match r with
   |none=>R (.ok .next) s₁
   |some v=>Kt `j A (letOwnedTupleGo target it v) (λ_ s₁'=>Kt `j A (assign target env v) (λ_ s₂=>
     Kt `j A (forIn ifs true λc r=>if r=true then do let ok<-isTrue c env (eval c env);pure (ForInStep.yield ok)else pure (ForInStep.yield r)) (λok s₃=>
      if ok=true then Kt `j A (eval elt env) (λx s₄=>
       Kt `j A (call (.builtin "list.append") [acc,x]) (λ_ s₅=>∃m,m<n/\I m s₅) (notedBy `j A env λe s'=>R (.error e) s') s₄) (notedBy `j A env λe s'=>R (.error e) s') s₃
      else∃m,m<n/\I m s₃) (notedBy `j A env λe s'=>R (.error e) s') s₂) (notedBy `j A env λe s'=>R (.error e) s') s₁') (notedBy `j A env λe s'=>R (.error e) s') s₁) (notedBy `j A env λe s'=>R (.error e) s') s)
  (n:Nat) (h:I n s):
  KO `j A (.compLoop (.ListComp elt [⟨target,iter,ifs,0⟩] scope pos) 0 it acc env) R s:=by
 refine codeAny_loop rfl I (λn s hI=>?_) n h;show Kt _ A ((compTurn (.ListComp elt [⟨target,iter,ifs,0⟩] scope pos) 0 it acc env).onRaise (λx=>do noteFrame x env;theTreesLotGoes x)) _ _ s;refine wpAny_noted ?_;rw[compTurn_list];refine Ky (KA (Ky (Kv (turn n s hI) (λr s₁ h₁=>?_) λ_ _ h'=>h')));cases r with
 |none=>exact KC h₁
 |some v=>
  refine Ky (Kv h₁ (λ_ s₁' h₁'=>?_) λ_ _ h'=>h');refine Ky (Kv h₁' (λ_ s₂ h₂=>Ky (Kv h₂ (λok s₃ h₃=>?_) λ_ _ h'=>h')) λ_ _ h'=>h');cases ok with
  |false=>exact KC ⟨rfl,h₃⟩
  |true=>
   exact Ky (Ky (Kv h₃ (λx s₄ h₄=>Ky (Kv h₄ (λ_ s₅ h₅=>KC (KC ⟨rfl,h₅⟩)) λ_ _ h'=>h')) λ_ _ h'=>h'))
noncomputable def Dz(wi:TI)(g:TG)(tc:TT)(te:TE)(ix:dF):TE:=λσ H Q=>
 wi σ H λJ H1=>∀D,H1 D=none->∃W:Nat->Nat->St->Hp->Prop,(∃m,W 0 m (inBlock ix σ) (upd H1 D (.lst [])))/\
  ∀i m σ' H',W i m σ' H'->(J.stop i H'/\Q (.ref D) H') \/
   (J.go i H'/\∀ x H2,J.yld i H' x H2->g x σ' H2 fun σ3 H3=>tc σ3 H3 fun b H4 =>
    if b=true then te σ3 H4 λv H5=>∃acc,H5 D=some (.lst acc)/\acc.length<Km/\∃m',m'<m/\W (i+1) m' σ3 (upd H5 D (.lst (acc++[v])))
    else∃m',m'<m/\W (i+1) m' σ3 H4)
section
variable{X:Cx}{elt tg iter:Kf}{ifs:aX}{scope:Kq}{pos:Pos}{N:ao}{ix:dF}{wi:TI}{g:TG}{tc:TT}{te:TE}
theorem lL{pins:aK}{σ:St}{s2:Kh}{H2:Hp}{it:Ke}{fp:ay}{tn:Nat->Kl->Prop}{J:It}{Q:V->Hp->Prop}{E:bf}{RR:Kc->Ke->Result->gq}
    (hc:X.calm=true) (hcell:∀y∈scope.names,y.2≠.cell) (hkind:scope.kind=.function)
    (hfr:∀y∈scope.names,y.2=.free->X.env.scope.names.lookup y.1=some .cell\/X.env.scope.names.lookup y.1=some .free)
    (hix:ow X.N N scope.names ix=true)
    (hb:∀cl C fp s H E,PG (bo X scope N cl C fp s H E) tg g/\zX (bo X scope N cl C fp s H E) ifs tc/\PE (bo X scope N cl C fp s H E) elt te)
    (I2:Inv X pins σ H2 s2) (T:Turn X.prog X.w X.K tg J fp it tn) (st2:tn 0 s2.heap) (f2:∀b∈fp,mn X pins H2 b)
    (q:∀ D,H2 D=none->∃ W:Nat->Nat->St->Hp->Prop,(∃ m,W 0 m (inBlock ix σ) (upd H2 D (.lst []))) /\
      ∀i m σ' H',W i m σ' H'->(J.stop i H'/\Q (.ref D) H') \/
        (J.go i H'/\∀ x H3,J.yld i H' x H3->g x σ' H3 fun σ3 H3=>tc σ3 H3 fun b H4 =>
          if b=true then te σ3 H4 λv H5=>∃acc,H5 D=some (.lst acc)/\acc.length<Km/\∃m',m'<m/\W (i+1) m' σ3 (upd H5 D (.lst (acc++[v])))
          else∃m',m'<m/\W (i+1) m' σ3 H4))
    (hRR:∀D C H' s' m,H2 D=none->s2.heap.objs.size<=C->H' C=none->s'.heap.Ns C m->(∀h',JW C s'.heap h'->Inv X pins σ H' {s' with heap:=h'})->Q (.ref D) H'->RR (.ref D) C (.ok .next) s'):
    Kt `i X.A (newList []) (λacc s₃=>Kt `i X.A (newFunctionEnv scope X.env.globals (bT X.env.cells scope.names []) [] X.env.qual none .none (some X.env)) (λcenv s₄=>
      KO `i X.A (.compStart (.ListComp elt [⟨tg,iter,ifs,0⟩] scope pos) 0 (.ref it) acc {cenv with scope:=relabel scope X.env}) (RR acc cenv.locals) s₄) E s₃) E s2:=by
  refine La (wpAny_newFunctionEnv hcell (by intro y hy;simp at hy) (λh₁ hns₁ hsb₁=>?_) hkind);dsimp only at hns₁ hsb₁ ⊢;have I3:Inv X pins σ (upd H2 s2.heap.objs.size (.lst [])) {s2 with heap:=s2.heap.push {cls:=.type "list",dict:=none,data:=.seq ([]:aP).toArray},toks:=s2.toks}:=I2.lnew (its:=[]) (t':=s2.toks) .nil (HA _);generalize hs3:({s2 with heap:=s2.heap.push {cls:=.type "list",dict:=none,data:=.seq ([]:aP).toArray},toks:=s2.toks}:Kh)=s3 at I3;have eh3:s2.heap.push {cls:=.type "list",dict:=none,data:=.seq ([]:aP).toArray}=s3.heap:=by rw[<-hs3]
  rw[eh3]at hns₁ hsb₁ ⊢;have hC3:s3.heap.objs.size=s2.heap.objs.size+1:=by rw[<-eh3,JZ]
  have hD:H2 s2.heap.objs.size=none:=I2.fresh;obtain⟨W,⟨m0,w0⟩,turn⟩:=q s2.heap.objs.size hD;generalize hH3:upd H2 s2.heap.objs.size (.lst [])=H3 at I3 w0;have old:∀b o,s3.heap.get? b=some o->h₁.get? b=some o:=λb o e=>hsb₁.extBut b o (Hf (JV e)) (JX _ e);have fpH3:∀b∈fp,H3 b=none:=λb hb'=>by
    rw[<-hH3,ax]
    ·exact(f2 b hb').1
    · obtain⟨o,e,_⟩:=T.obj _ _ st2 b hb'
      exact Hf (JV e)
  have fpLt:∀b∈fp,b<s3.heap.objs.size:=λb hb'=>by
    obtain⟨o,e,_⟩:=T.obj _ _ st2 b hb';rw[hC3];exact Nat.lt_succ_of_lt (JV e)
  have hfree:∀p∈scope.names,p.2=.free->∃c,X.env.cells.lookup p.1=some c:=λp hp hk=>I2.ok.has p.1 (hfr p hp hk);have csub:∀x c,(bT X.env.cells scope.names []).lookup x=some c->X.env.cells.lookup x=some c:=g6 scope.names [] (λx c e=>by simp at e);have names':∀x k,(relabel scope X.env).names.lookup x=some k->scope.names.lookup x=some k\/(scope.names.lookup x=some .free/\k=.cell):=λx k h=>gQ h;have ok:(bo X scope N (bT X.env.cells scope.names []) s3.heap.objs.size fp s3 H3 (notedBy `i X.A (compEnvC scope (bT X.env.cells scope.names []) s3.heap.objs.size X.env) λe s'=>RR (.ref s2.heap.objs.size) s3.heap.objs.size (.error e) s')).Ok:=
    { mod:=I3.ok.mod
      kind:=hkind
      glob:=I3.ok.glob
      blt:=I3.ok.blt
      above:=Hs _
      inj:=λx y c h1 h2=>I3.ok.inj x y c (csub x c h1) (csub y c h2)
      has:=λx hx=>by
        have fr:scope.names.lookup x=some .free:=by
          rcases hx with hx|hx
          · rcases names' x .cell hx with h|⟨h,_⟩
            ·exact absurd rfl (hcell _ (PySem.mem_of_lookup h))
            ·exact h
          · rcases names' x .free hx with h|⟨_,h⟩
            ·exact h
            ·cases h
        have hm:=PySem.mem_of_lookup fr;exact Option.isSome_iff_exists.mp (fK scope.names [] x hm (hfree _ hm rfl))
      cab:=λx c h _=>by cases h
      hd:=I3.ok.hd
      frames:=I3.ok.frames
      stk:=.inl rfl
      exf:=λb hb'=>⟨Hf (fpLt b hb'),λx c e=>(f2 b hb').2.2.2.2.1 x c (csub x c e)⟩
      bs:=λb o e=>I3.bs b o e
      bsz:=Hg I3.ok.bsz I3.sz
      noex:=λb o e hb'=>by
        obtain⟨_,_,_,h4,_⟩:=f2 b hb';rcases h4 with h4|h4
        ·exact I3.ok.noex b o e h4
        ·exact absurd (Hc (JV (I3.ok.bs b o e).1) h4) (He _)
      exfs:=λb hb' hs=>by
        obtain⟨_,h2,h3,_⟩:=f2 b hb';rcases List.mem_cons.mp (I3.stkSub b hs)with e|e
        ·exact h2 e
        ·exact h3 e
      funs:=I3.stack
      frf:=λb hb'=>I3.stkFree b hb'}
  generalize hE:(notedBy `i X.A (compEnvC scope (bT X.env.cells scope.names []) s3.heap.objs.size X.env) λe s'=>RR (.ref s2.heap.objs.size) s3.heap.objs.size (.error e) s')=E' at ok;obtain⟨hg,htc,hel⟩:=hb (bT X.env.cells scope.names []) s3.heap.objs.size fp s3 H3 E';have Istart:∀tk,Inv (bo X scope N (bT X.env.cells scope.names []) s3.heap.objs.size fp s3 H3 E') [] (inBlock ix σ) H3 {s3 with heap:=h₁,toks:=tk}:=λtk=>by
    refine⟨ok,rfl,I3.bare,Un.kept old,⟨_,hns₁,λj x v e1 e2 _=>?_⟩,λx c e=>?_,I3.fresh,λx c e=>I3.freeC x c (csub x c e),λp hp=>absurd (show p∈([]:aK)from hp) `h,I3.hok.kept old,?_⟩
    ·
      unfold inBlock at e2;rw[HH]at e2;cases q1:ix[j]? with
      |none=>rw[q1]at e2;simp at e2
      |some o=>
        rw[q1]at e2;cases o with
        |none=>simp at e2
        |some i=>
          obtain⟨n1,n2⟩:=ow.at_ hix e1 q1;have e2':(σ[i]?).getD none=some v:=Option.some.inj e2;have e3:σ[i]?=some (some v):=by
            cases q2:σ[i]? with
            |none=>rw[q2]at e2';simp at e2'
            |some o2=>rw[q2]at e2';simpa using e2'
          obtain⟨m,hn,hl⟩:=I3.loc;have hm:=PySem.mem_of_lookup n2;have hk:=hfr _ hm rfl;have hv:zZ X.env.scope x:=by
            rcases hk with hk|hk
            ·exact .inr (.inl hk)
            ·exact .inr (.inr hk)
          obtain⟨u,r,l⟩:=hl i x v n1 e3 hv;refine⟨u,r,.inr ?_⟩;rcases l with⟨kl,_⟩|⟨_,c,hcx,hcell'⟩
          · have kl':X.env.scope.names.lookup x=some .local:=kl
            rcases hk with hk|hk
            ·rw[kl']at hk;cases hk
            ·rw[kl']at hk;cases hk
          · obtain⟨c',hc'⟩:=Option.isSome_iff_exists.mp (fK (cells:=X.env.cells) scope.names [] x hm ⟨c,hcx⟩)
            have ec:c'=c:=Option.some.inj ((csub x c' hc').symm.trans hcx);subst ec;refine⟨?_,c',hc',?_⟩
            ·
              show(relabel scope X.env).names.lookup x=some .cell\/(relabel scope X.env).names.lookup x=some .free;have gen:∀names:lC,names.lookup x=some .free->((names.map λ(n,k)=>if(k==NameKind.free&&X.env.scope.kind==.function&&X.env.kindOf n==some .cell)then(n,NameKind.cell)else(n,k)).lookup x=some .cell\/(names.map λ(n,k)=>if(k==NameKind.free&&X.env.scope.kind==.function&&X.env.kindOf n==some .cell)then(n,NameKind.cell)else(n,k)).lookup x=some .free):=by
                intro names
                induction names with
                |nil=>intro h;simp at h
                |cons p r ih=>
                  obtain⟨n,k⟩:=p;intro h;show List.lookup x ((if(k==NameKind.free&&X.env.scope.kind==.function&&X.env.kindOf n==some .cell)=true then(n,NameKind.cell)else(n,k))::_)=_\/List.lookup x ((if(k==NameKind.free&&X.env.scope.kind==.function&&X.env.kindOf n==some .cell)=true then(n,NameKind.cell)else(n,k))::_)=_;cases hx:x==n with
                  |true=>
                    simp only[HX,hx]at h;by_cases hcc:(k==NameKind.free&&X.env.scope.kind==.function&&X.env.kindOf n==some .cell)=true
                    ·rw[if_pos hcc];left;simp only[HX,hx]
                    ·rw[if_neg hcc];right;simp only[HX,hx];exact h
                  |false=>
                    simp only[HX,hx]at h;by_cases hcc:(k==NameKind.free&&X.env.scope.kind==.function&&X.env.kindOf n==some .cell)=true
                    ·rw[if_pos hcc];simp only[HX,hx];exact ih h
                    ·rw[if_neg hcc];simp only[HX,hx];exact ih h
              exact gen scope.names n2
            ·exact hcell'.keeps old
    · obtain⟨v,z⟩:=I3.cell x c (csub x c e)
      exact⟨v,z.keeps old⟩
    · show(inBlock ix σ).length=N.length
      unfold inBlock;rw[Hy];exact ow.len hix
  have stat:∀{H':Hp},(∀b∈fp,H' b=none)->∀b∈fp,mn (bo X scope N (bT X.env.cells scope.names []) s3.heap.objs.size fp s3 H3 E') [] H' b:=λhn b hb'=>
    ⟨hn b hb',(ok.exf b hb').1,ok.exfs b hb',.inl hb',(ok.exf b hb').2,λp hp=>absurd (show p∈([]:aK)from hp) `h⟩
  have tn1:tn 0 h₁:=T.keep _ _ _ st2 λb hb' o e=>old b o (by rw[<-eh3];exact JX _ e);have loop:∀tk,KO `i X.A (.compLoop (.ListComp elt [⟨tg,iter,ifs,0⟩] scope pos) 0 (.ref it) (.ref s2.heap.objs.size) (compEnvC scope (bT X.env.cells scope.names []) s3.heap.objs.size X.env))
      (RR (.ref s2.heap.objs.size) s3.heap.objs.size) {s3 with heap:=h₁,toks:=tk}:=by
    intro tk;refine gz (λn s'=>∃i σ' H',Inv (bo X scope N (bT X.env.cells scope.names []) s3.heap.objs.size fp s3 H3 E') [] σ' H' s'/\tn i s'.heap/\(∀b∈fp,H' b=none)/\W i n σ' H') ?_ m0 ⟨0,_,_,Istart tk,tn1,fpH3,w0⟩;rintro n s5 ⟨i,σ5,H5,I5,st5,fr5,w5⟩;rw[hE];rcases turn i n σ5 H5 w5 with⟨stop,qn⟩|⟨go,step⟩
    · refine b9 (T.done (bo X scope N (bT X.env.cells scope.names []) s3.heap.objs.size fp s3 H3 E') rfl rfl rfl hc i [] s5 σ5 H5 _ I5 (stat fr5) st5 stop) λr s6 zq=>zq.elim λhr I6=>?_
      subst hr;obtain⟨m6,hn6,_⟩:=I6.loc;refine hRR s2.heap.objs.size s3.heap.objs.size H5 s6 m6 hD (by rw[hC3];exact Nat.le_succ _) I6.free hn6 (λh' sb=>?_) qn;have ne:∀b o,s3.heap.get? b=some o->b≠s3.heap.objs.size:=λb o e=>Hf (JV e);refine I3.call' (s':={s6 with heap:=h'}) (H':=H5) (ch:=fp) I6.os ⟨λb o e n hb' hx=>?_,λb o e n hb' hx=>?_,λb o e n hx=>?_,λb o e hx=>?_,I6.base.tups,I6.base.frzs,I6.base.tbls⟩ ?_ I6.bare λb hb'=>?_
      ·exact(sb.2 b (ne b o e)).trans (I6.base.keep b o e n hb' hx)
      · obtain⟨sl,e1⟩:=I6.base.slot b o e n hb' hx
        exact⟨sl,(sb.2 b (ne b o e)).trans e1⟩
      ·exact I6.base.free b o e n hx
      · obtain⟨o',e1⟩:=I6.base.there b o e hx
        exact⟨o',(sb.2 b (ne b o e)).trans e1⟩
      · intro b ob e
        have hfreeC:H5 s3.heap.objs.size=none:=I6.free;refine(I6.hok b ob e).stay (λc v hcc q=>(sb.2 c ?_).trans q) (λ_ q=>q) λ_ _ q=>q;rintro rfl;rcases hcc with rfl|hcc
        ·rw[hfreeC]at e;cases e
        ·rw[hfreeC]at hcc;cases hcc
      · obtain⟨_,h2',_,h4',h5',h6'⟩:=f2 b hb'
        exact⟨h4',h2',h5',h6'⟩
    · refine b9 (T.item (bo X scope N (bT X.env.cells scope.names []) s3.heap.objs.size fp s3 H3 E') rfl rfl rfl hc i [] s5 σ5 H5 _ I5 (stat fr5) st5 go) λr s6 zq=>zq.elim λu zq=>zq.elim λhr h6=>?_
      subst hr;refine b9 h6 λ_ s7 zq=>zq.elim λx zq=>zq.elim λH7 zq=>zq.elim λI7 zq=>zq.elim λr7 zq=>zq.elim λy7 zq=>zq.elim λst7 fr7=>?_;have I7':=I7.pinned (stat fr7) (T.obj _ _ st7);refine b9 (hg _ s7 σ5 H7 x u _ I7' r7 (step x H7 y7)) λ_ s8 zq=>zq.elim λσ8 zq=>zq.elim λH8 zq=>zq.elim λI8 q8=>?_;refine b9 (htc _ s8 σ8 H8 _ I8 q8) λb s9 zq=>zq.elim λH9 zq=>zq.elim λI9 q9=>?_;have again:∀{σ':St}{H':Hp}{s':Kh}{m':Nat},Inv (bo X scope N (bT X.env.cells scope.names []) s3.heap.objs.size fp s3 H3 E') ([]++lr fp s7.heap) σ' H' s'->m'<n->W (i+1) m' σ' H'->
          ∃m,m<n/\∃i σ' H',Inv (bo X scope N (bT X.env.cells scope.names []) s3.heap.objs.size fp s3 H3 E') [] σ' H' s'/\tn i s'.heap/\(∀b∈fp,H' b=none)/\W i m σ' H':=λ{σ' H' s' m'} I' hm w'=>by
        refine⟨m',hm,i+1,σ',H',I'.unpinned,T.keep _ _ _ st7 λb hb' o e=>(I'.pin (b,o) (Ht _ (Ht _ (fZ hb' e)))).1,λb hb'=>?_,w'⟩;obtain⟨o,e,d⟩:=T.obj _ _ st7 b hb';exact(I'.pin (b,o) (Ht _ (Ht _ (fZ hb' e)))).2.1
      cases b with
      |false=>
        rw[if_neg Hv]at q9 ⊢;obtain⟨m',hm,w9⟩:=q9;exact again I9 hm w9
      |true=>
        rw[if_pos rfl]at q9 ⊢;refine b9 (hel _ s9 σ8 H9 _ I9 q9) λy s10 zq=>zq.elim λv zq=>zq.elim λH10 zq=>zq.elim λI10 zq=>zq.elim λr10 q10=>?_;obtain⟨acc,ha,hz,m',hm,w10⟩:=q10;refine b9 (nM _ s10 σ8 H10 (.ref s2.heap.objs.size) [v] (.ref s2.heap.objs.size) [y] (λ_ H'=>H'=upd H10 s2.heap.objs.size (.lst (acc++[v]))) I10 rfl (.cons r10 .nil) ⟨_,acc,v,rfl,rfl,ha,hz,rfl⟩) λ_ s11 zq=>zq.elim λ_ zq=>zq.elim λH11 zq=>zq.elim λI11 zq=>zq.elim λ_ EQ=>?_;subst EQ;exact again I11 hm w10
  subst hs3;exact codeAny_compStart_list (loop _) (T.self _ 0 _ _ _ tn1 (loop _))
theorem zH(hc:X.calm=true)(hcell:∀y∈scope.names,y.2≠.cell)(hkind:scope.kind=.function)(hnames:∀y∈scope.names,y.2=.local->scope.names.lookup y.1=some .local)
  (hfr:∀y∈scope.names,y.2=.free->X.env.scope.names.lookup y.1=some .cell\/X.env.scope.names.lookup y.1=some .free)
  (hix:ow X.N N scope.names ix=true) (hi:PI X tg iter wi)
  (hb:∀cl C fp s H E,PG (bo X scope N cl C fp s H E) tg g/\zX (bo X scope N cl C fp s H E) ifs tc/\PE (bo X scope N cl C fp s H E) elt te)
  (hs:∀x,KH iter X.env x=pure x:=by intro _;rfl):PE X (.ListComp elt [⟨tg,iter,ifs,0⟩] scope pos) (Dz wi g tc te ix):=by
 intro pins s σ H Q I h;rw[eval_ListComp];refine Lf (use:=none) rfl hs (jo λp hp hk=>I.ok.has p.1 (hfr p hp hk)) hkind hnames (b9 (hi pins s σ H _ I h) λv s1 h1=>b9 h1 λitv s2 h2=>?_);obtain⟨it,fp,tn,J,H2,e,I2,T,st2,f2,q⟩:=h2;subst e;refine lL (Q:=Q) (RR:=λacc C=>compPost `i X.A X.xe none (EP X pins σ Q) acc C) hc hcell hkind hfr hix hb I2 T st2 f2 q ?_;intro D C H' s' m _ _ _ hn hI hq;exact⟨m,hn,λh' sb=>⟨.ref D,H',hI h' sb,rfl,hq⟩⟩
theorem zp{i:Nat}{y:Str}{py spos:Pos}(hN:X.N.Nodup)(hi':X.N[i]?=some y)(hx:Loc X.env.scope y)
  (hc:X.calm=true) (hcell:∀y∈scope.names,y.2≠.cell) (hkind:scope.kind=.function) (hnames:∀y∈scope.names,y.2=.local->scope.names.lookup y.1=some .local)
  (hfr:∀y∈scope.names,y.2=.free->X.env.scope.names.lookup y.1=some .cell\/X.env.scope.names.lookup y.1=some .free)
  (hix:ow X.N N scope.names ix=true) (hi:PI X tg iter wi)
  (hb:∀cl C fp s H E,PG (bo X scope N cl C fp s H E) tg g/\zX (bo X scope N cl C fp s H E) ifs tc/\PE (bo X scope N cl C fp s H E) elt te)
  (hsw:swapsWith (.ListComp elt [⟨tg,iter,ifs,0⟩] scope pos) (some (.Name y py)) spos.line X.env=pure true:=by rfl)
  (hs:∀x,KH iter X.env x=pure x:=by intro _;rfl)
  (hf:X.fn y=true\/X.env.scope.names.lookup y=some .local:=by first|exact .inl rfl|exact .inr rfl|assumption):
  PS X (.Assign [.Name y py] (.ListComp elt [⟨tg,iter,ifs,0⟩] scope pos) spos) (wN (Dz wi g tc te ix) (mJ i)):=by
 intro pins s σ H D0 I h;rw[exec_Assign_Name_used _ _ _ _ hsw];refine Ky (KA (Ky ?_));show Kt _ X.A (do let _<-comprehension (.ListComp elt [⟨tg,iter,ifs,0⟩] scope pos) scope X.env _ (newList []) false (eval iter X.env) (some (assign (.Name y py) X.env))) _ _ s;refine Ky (b9 (Lf (use:=some (assign (.Name y py) X.env)) (Q:=λ_ s'=>SP X pins D0 .next s') rfl hs (jo λp hp hk=>I.ok.has p.1 (hfr p hp hk)) hkind hnames
  (b9 (hi pins s σ H _ I h) λv s1 h1=>b9 h1 λitv s2 h2=>?_)) λ_ s' hq=>KC (KC hq))
 obtain⟨it,fp,tn,J,H2,e,I2,T,st2,f2,q⟩:=h2;subst e;refine lL (Q:=λv H'=>mJ i v σ H' D0.nx) (RR:=λacc C=>compPost `i X.A X.xe (some (assign (.Name y py) X.env)) (λ_ s'=>SP X pins D0 .next s') acc C) hc hcell hkind hfr hix hb I2 T st2 f2 q ?_;intro D C H' s' m _ hC hfree hn hI hq;have I':Inv X pins σ H' s':=hI s'.heap (.refl ..);have nL:C≠X.env.locals:=Hr (Hc I2.lt hC);have nC:∀x c,X.env.cells.lookup x=some c->c≠C:=λx c e z=>by
  obtain⟨v,q⟩:=I2.cell x c e;exact absurd (Hc q.lt (by rw[z];exact hC)) (He _)
 have nP:∀p∈X.pn++pins,p.1≠C:=λp hp z=>absurd (Hc (JV (I2.pin p hp).1) (by rw[z];exact hC)) (He _);show Kt _ X.A (assign (.Name y py) X.env (.ref D)) _ _ _;refine wpAny_assign_Name (nu I' hN hi' hx (v:=.ref D) rfl (λs'' I'' ch=>?_) hf);obtain⟨a,sb,ha⟩:=ch;have hCa:C≠a:=by
  rcases ha with ha|ha
  ·rw[ha];exact nL
  ·exact Ne.symm (nC y a ha)
 refine⟨m,hn.sameBut sb hCa,λh' sb'=>⟨_,H',?_,hq⟩⟩;exact I''.turned (t':=s''.toks) (λb o hb' e=>(sb'.2 b hb').trans e) hfree nL (.inr (Hg I2.sz hC)) nC nP
end
end L2
namespace TG
open PySem PySem.Spec
noncomputable def DP{α:Type}:Sem α->Prop
 |.pure _=>True
 |.raise _=>True
 |.unsupported _=>True
 |.finish _=>True
 |.rule _ k=>DP (k ())
 |.at _ k=>DP (k ())
 |.load _ _ k=>∀o,DP (k o)
 |.update _ _ f k=>(∀o,(f o).dict=o.dict)/\DP (k ())
 |.loadIfAlive _ k=>∀o,DP (k o)
 |.point _ k=>DP (k ())
 |.alloc _ k=>∀a,DP (k a)
 |.fresh k=>∀a,DP (k a)
 |.ask k=>∀a,DP (k a)
 |.stack k=>∀a,DP (k a)
 |_=>False
theorem DP.bind{α β:Type}{f:α->Sem β}(hf:∀a,DP (f a)):∀{m:Sem α},DP m->DP (m >>= f):=λ{m} h=>by
 show DP (m.bind f)
 induction m with
 |pure a=>exact hf a
 |raise _=>trivial
 |unsupported _=>trivial
 |finish _=>trivial
 |rule _ k ih=>exact ih () h
 |«at» _ k ih=>exact ih () h
 |load _ _ k ih=>exact λo=>ih o (h o)
 |update _ _ g k ih=>exact⟨h.1,ih () h.2⟩
 |loadIfAlive _ k ih=>exact λo=>ih o (h o)
 |point _ k ih=>exact ih () h
 |alloc _ k ih=>exact λo=>ih o (h o)
 |fresh k ih=>exact λo=>ih o (h o)
 |ask k ih=>exact λo=>ih o (h o)
 |stack k ih=>exact λo=>ih o (h o)
 |_=>exact h.elim
noncomputable def DS(h h':Kl):Prop:=∀(a:Nat)(o:Obj),h.objs[a]?=some o->∃o',h'.objs[a]?=some o'/\o'.dict=o.dict
theorem DS.refl(h:Kl):DS h h:=λ_ o e=>⟨o,e,rfl⟩
theorem DS.trans{h1 h2 h3:Kl}(x:DS h1 h2)(y:DS h2 h3):DS h1 h3:=λa o e=>by
 obtain⟨o1,e1,d1⟩:=x a o e;obtain⟨o2,e2,d2⟩:=y a o1 e1;exact⟨o2,e2,d2.trans d1⟩
theorem pG{h:Kl}{a:Ke}{o:Obj}(e:h.get? a=some o):h.objs[a]?=some o:=by
 unfold Heap.get? at e;split at e
 ·cases e
 ·exact e
theorem DS.dict{h h':Kl}(x:DS h h'){a:Ke}{o o':Obj}(e:h.get? a=some o)(e':h'.get? a=some o'):o'.dict=o.dict:=by
 obtain⟨o1,e1,d1⟩:=x a o (pG e);rw[pG e']at e1;cases e1;exact d1
theorem DS.push(h:Kl)(o:Obj):DS h (h.push o):=λa u e=>⟨u,by
 show(h.objs.push o)[a]?=_
 have:=(Array.getElem?_eq_some_iff.mp e).1
 rw[Array.getElem?_push,if_neg `o];exact e,rfl⟩
theorem DS.upd(h:Kl)(b:Ke){f:Obj->Obj}(hf:∀o,(f o).dict=o.dict):DS h (h.update b f):=λa u e=>by
 show∃o',(h.objs.modify b f)[a]?=some o'/\_;rw[Array.getElem?_modify,e];split
 ·exact⟨_,rfl,hf u⟩
 ·exact⟨_,rfl,rfl⟩
theorem DP.wp{α:Type}{M:Kr}{Γ:PySem.Ctx}{Q:α->Pos->Kh->Prop}{E:Kc->Pos->Kh->Prop}{t:Sem α}(d:DP t){p:Pos}{s:Kh}(h:Sem.wp M Γ t Q E p s):Sem.wp M Γ t (λa p' s'=>Q a p' s'/\DS s.heap s'.heap) (λa p' s'=>E a p' s'/\DS s.heap s'.heap) p s:=by
 have go:∀(h0:Kl)(p:Pos)(s:Kh),DS h0 s.heap->Sem.wp M Γ t Q E p s->Sem.wp M Γ t (λa p' s'=>Q a p' s'/\DS h0 s'.heap) (λa p' s'=>E a p' s'/\DS h0 s'.heap) p s:=by
  intro h0;clear h
  induction t with
  |pure a=>exact λp s z h=>⟨h,z⟩
  |raise a=>exact λp s z h=>⟨h,z⟩
  |unsupported _=>exact λp s z h=>h
  |finish _=>exact λp s z h=>h
  |rule _ k ih=>exact λp s z h=>ih () d p s z h
  |«at» q k ih=>exact λp s z h=>ih () d q s z h
  |load a _ k ih=>exact λp s z h=>let ⟨o,ho,h⟩:=h;⟨o,ho,ih o (d o) p s z h⟩
  |update a _ f k ih=>exact λp s z h=>⟨h.1,ih () d.2 p _ (z.trans (DS.upd _ a d.1)) h.2⟩
  |loadIfAlive a k ih=>exact λp s z h=>ih _ (d _) p s z h
  |point _ k ih=>exact λp s z h=>ih () d p s z h
  |alloc o k ih=>exact λp s z h=>ih _ (d _) p _ (z.trans (DS.push _ o)) h
  |fresh k ih=>exact λp s z h=>ih _ (d _) p _ z h
  |ask k ih=>exact λp s z h=>ih _ (d _) p _ z h
  |stack k ih=>exact λp s z h=>ih _ (d _) p _ z h
  |_=>exact d.elim
 exact go s.heap p s (DS.refl _) h
theorem DP.any{α:Type}{M:Kr}{A:Kp}{Q:α->Kh->Prop}{E:Kc->Kh->Prop}{t:Sem α}{s:Kh}(d:DP t)(h:Kt M A t Q E s):Kt M A t (λa s'=>Q a s'/\DS s.heap s'.heap) E s:=λΓ p hi=>Sem.wp_mono _ _ _ (λ_ _ _ x=>x) (λ_ _ _ x=>x.1) _ _ (d.wp (h Γ p hi))
theorem DP.go{M:Kr}{A:Kp}{Q:Unit->Kh->Prop}{E:Kc->Kh->Prop}{t:Sem Unit}{s:Kh}{P:Kl->Prop}(d:DP t)(h:Kt M A t (λ_ s'=>∃h',s'={s with heap:=h'}/\P h') E s)(k:∀h',P h'->DS s.heap h'->Q () {s with heap:=h'}):Kt M A t Q E s:=Kv (d.any h) (λ_ s' z=>by
 obtain⟨⟨h',rfl,p⟩,ds⟩:=z;exact k h' p ds) λ_ _ z=>z
theorem je(v:Kc)(i:Nat):DP (field v i):=by
 unfold field fieldsOf;cases v with
 |ref a=>
  refine DP.bind (λxs=>?_) ?_
  ·split<;>trivial
  ·refine DP.bind (λo=>?_) (λo=>trivial);split<;>trivial
 |_=>exact DP.bind (λxs=>by split<;>trivial) trivial
theorem rh(a:Ke):DP (load a):=λ_=>trivial
theorem A6(f:Array Kc->Array Kc)(o:Obj):(Obj.mapFields f o).dict=o.dict:=by
 unfold Obj.mapFields;split<;>rfl
theorem qx(v:Kc)(i:Nat)(x:Kc):DP (setField v i x):=by
 unfold setField;cases v with
 |ref a=>
  unfold updateField;refine DP.bind (λo=>?_) (rh a);split
  ·split
   ·exact⟨A6 _,trivial⟩
   ·trivial
  ·trivial
 |_=>trivial
theorem jY(e:Kc)(f:Option Ke):DP (setFlight e f):=by
 unfold setFlight;refine DP.bind (λtb=>?_) (je _ _);split
 ·exact qx _ _ _
 ·trivial
theorem vU:DP stack:=λ_=>trivial
theorem vW:DP underTheClaimsCaller:=by
 unfold underTheClaimsCaller;exact λ_=>trivial
theorem pQ:∀l:List Env,DP (readyFrames l)
 |[]=>trivial
 |env::outer=>by
  unfold readyFrames;cases env.frame with
  |none=>trivial
  |some f=>
   refine DP.bind ?_ (rh f);intro o;split
   ·trivial
   ·refine DP.bind ?_ ?_
    ·intro b;refine DP.bind ?_ ?_
     ·intro b;refine DP.bind ?_ ?_
      ·intro _;exact pQ outer
      ·exact⟨λ_=>rfl,trivial⟩
     ·unfold keptBack;split
      ·split
       ·trivial
       ·refine DP.bind ?_ vW;intro _;trivial
      ·trivial
    ·unfold behindIsImport;split
     ·trivial
     ·split
      ·trivial
      ·refine DP.bind ?_ (je _ _);intro _;trivial
theorem yS:DP frameEnvs:=λ_=>trivial
theorem qE(env:Env):DP (frameOf env):=by
 unfold frameOf;refine DP.bind ?_ yS;intro l;refine DP.bind ?_ ?_
 ·intro f;split<;>trivial
 ·unfold frameObject;split
  ·trivial
  ·refine DP.bind ?_ (pQ _);intro _;trivial
theorem Af(ty:String)(vs:List Kc):DP (newFields ty vs):=by
 unfold newFields newObj;dsimp only;split
 ·trivial
 ·exact λ_=>trivial
theorem uW(f:Ke)(b:Bool):DP (entryPlaceOf f b):=by
 unfold entryPlaceOf;refine DP.bind ?_ vU;intro l;split<;>trivial
theorem sd(e:Kc)(env:Env):DP (noteFrame e env):=by
 unfold noteFrame;cases env.frame with
 |none=>trivial
 |some f=>
  have tl:∀head:Kc,DP (do setField e 1 (<-EntryCells.newEntry head (<-frameOf env) .none (rawInt f) .none (<-entryPlaceOf f (head !=.none)))):=λhead=>by
   refine DP.bind ?_ (qE env);intro a;refine DP.bind ?_ (uW _ _);intro b;refine DP.bind ?_ (Af _ _);intro c;exact qx _ _ _
  refine DP.bind ?_ (je _ _);intro head;dsimp only;split
  ·refine DP.bind ?_ (je _ _);intro x;split
   ·trivial
   ·refine DP.bind ?_ (qx _ _ _);intro _;exact tl head
  ·exact tl head
theorem qb(env:Env)(e:Kc):DP (leaving env e):=by
 unfold leaving;refine DP.bind ?_ (sd _ _);intro _;exact jY _ _
open PySem PySem.Spec L2
inductive D where
 |non|bl (b:Bool)|int (i:Int)|str (x:Str)|tup (xs:List D)|lst (xs:List D)
 |dct (ks vs:List D)|obj (c:Str) (fs:ao) (vs:List D)|exc (c:Str) (fs:ao) (vs:List D)
noncomputable abbrev aV:=Option D
noncomputable def bK:Key->D
 |.inl i=>.int i
 |.inr x=>.str x
noncomputable def clsAt(K:Jo)(c:Str)(C:Ke):Prop:=JI K Kn c=some (some (.ref C))
noncomputable def qI(C a:Ke)(dx:Option Ke):(Ke->Prop)->Kl->Prop:=λ_ h=>∃o,h.get? a=some o/\o.cls=.ref C/\o.dict=dx/\JK o=true
mutual
noncomputable def bp(K:Jo)(H:Hp):D->V->Prop
 |.non,v=>v=.non
 |.bl b,v=>v=.bl b
 |.int i,v=>v=.int i
 |.str x,v=>v=.str x
 |.tup xs,v=>∃a vs,v=.ref a/\H a=some (.tup vs)/\aF K H xs vs
 |.lst xs,v=>∃a vs,v=.ref a/\iW K H a vs/\aF K H xs vs
 |.dct ks ds,v=>∃a vs,v=.ref a/\aF K H ds vs/\((∃kvs:List (Key×V),H a=some (.dK kvs)/\ks=kvs.map (λp=>bK p.1)/\vs=kvs.map (·.2)) \/
   (∃kvs:List (List Key×V),H a=some (.dT kvs)/\ks=kvs.map (λp=>.tup (p.1.map bK))/\vs=kvs.map (·.2)) \/
   ∃(kvs:List (List Key×V))(o:Obj),H a=some (.frz o (.dT kvs))/\ks=.non::kvs.map (λp=>.tup (p.1.map bK))/\vs=kvs.map (·.2))
 |.obj c fs ds,v=>∃a vs,v=.ref a/\aF K H ds vs/\fs.length=vs.length/\∃C dx,clsAt K c C/\H a=some (.ins C dx (fs.zip vs))
 |.exc c fs ds,v=>∃a vs,v=.ref a/\aF K H ds vs/\fs.length=vs.length/\∃C dx,clsAt K c C/\H a=some (.ext (qI C a dx))/\(fs=[]\/∃d,dx=some d/\H d=some (.xd (fs.zip vs)))
noncomputable def aF(K:Jo)(H:Hp):List D->az->Prop
 |[],vs=>vs=[]
 |x::xs,vs=>∃v r,vs=v::r/\bp K H x v/\aF K H xs r
end
theorem sU{K:Jo}{H H':Hp}{a:Ke}{xs:az}(e:aL H H')(h:kq K H a xs):kq K H' a xs:=by
 rcases h with(h|⟨o,h⟩)|h
 ·exact .inl (.inl (e _ _ h))
 ·exact .inl (.inr ⟨o,e _ _ h⟩)
 ·exact .inr h
theorem bJ{K:Jo}{H H':Hp}{a:Ke}{xs:az}(e:aL H H')(h:H a=some (.tup xs)):kq K H' a xs:=kq.of (e _ _ h)
mutual
theorem bp.mono{K:Jo}{H H':Hp}(e:aL H H'):∀{d:D}{v:V},bp K H d v->bp K H' d v
 |.non,_,h=>by unfold bp at h ⊢;exact h
 |.bl _,_,h=>by unfold bp at h ⊢;exact h
 |.int _,_,h=>by unfold bp at h ⊢;exact h
 |.str _,_,h=>by unfold bp at h ⊢;exact h
 |.tup xs,_,h=>by
  unfold bp at h ⊢;obtain⟨a,vs,e1,h1,h2⟩:=h;exact⟨a,vs,e1,e _ _ h1,aF.mono e h2⟩
 |.lst xs,_,h=>by
  unfold bp at h ⊢;obtain⟨a,vs,e1,h1,h2⟩:=h;exact⟨a,vs,e1,e.seq h1,aF.mono e h2⟩
 |.dct _ ds,_,h=>by
  unfold bp at h ⊢;obtain⟨a,vs,e1,h1,h2⟩:=h;refine⟨a,vs,e1,aF.mono e h1,?_⟩;rcases h2 with⟨kvs,h2,h3⟩|⟨kvs,h2,h3⟩|⟨kvs,o,h2,h3⟩
  ·exact .inl ⟨kvs,e _ _ h2,h3⟩
  ·exact .inr (.inl ⟨kvs,e _ _ h2,h3⟩)
  ·exact .inr (.inr ⟨kvs,o,e _ _ h2,h3⟩)
 |.obj _ _ ds,_,h=>by
  unfold bp at h ⊢;obtain⟨a,vs,e1,h1,h2,C,dx,h3,h4⟩:=h;exact⟨a,vs,e1,aF.mono e h1,h2,C,dx,h3,e _ _ h4⟩
 |.exc _ _ ds,_,h=>by
  unfold bp at h ⊢;obtain⟨a,vs,e1,h1,h2,C,dx,h3,h4,h5⟩:=h;exact⟨a,vs,e1,aF.mono e h1,h2,C,dx,h3,e _ _ h4,h5.imp id λzq=>zq.elim λd zq=>zq.elim λq1 q2=>⟨d,q1,e _ _ q2⟩⟩
theorem aF.mono{K:Jo}{H H':Hp}(e:aL H H'):∀{ds:List D}{vs:az},aF K H ds vs->aF K H' ds vs
 |[],_,h=>by unfold aF at h ⊢;exact h
 |x::xs,_,h=>by
  unfold aF at h ⊢;obtain⟨v,r,e1,h1,h2⟩:=h;exact⟨v,r,e1,bp.mono e h1,aF.mono e h2⟩
end
section
variable{K:Jo}{H:Hp}
theorem fW{v:V}:bp K H .non v↔v=.non:=by unfold bp;rfl
theorem gD{b:Bool}{v:V}:bp K H (.bl b) v↔v=.bl b:=by unfold bp;rfl
theorem dP{i:Int}{v:V}:bp K H (.int i) v↔v=.int i:=by unfold bp;rfl
theorem dq{x:Str}{v:V}:bp K H (.str x) v↔v=.str x:=by unfold bp;rfl
theorem bB{xs:List D}{v:V}:bp K H (.tup xs) v↔∃a vs,v=.ref a/\H a=some (.tup vs)/\aF K H xs vs:=by unfold bp;rfl
theorem bC{xs:List D}{v:V}:bp K H (.lst xs) v↔∃a vs,v=.ref a/\iW K H a vs/\aF K H xs vs:=by unfold bp;rfl
theorem DI{ks ds : List D}{v : V}: bp K H (.dct ks ds) v ↔ ∃ a vs, v = .ref a /\ aF K H ds vs /\ ((∃ kvs : List (Key × V), H a = some (.dK kvs) /\ ks = kvs.map (fun p => bK p.1) /\ vs = kvs.map (·.2)) \/
      (∃kvs:List (List Key×V),H a=some (.dT kvs)/\ks=kvs.map (λp=>.tup (p.1.map bK))/\vs=kvs.map (·.2)) \/
      ∃(kvs:List (List Key×V))(o:Obj),H a=some (.frz o (.dT kvs))/\ks=.non::kvs.map (λp=>.tup (p.1.map bK))/\vs=kvs.map (·.2)):=by unfold bp;rfl
theorem DQ{c:Str}{fs:ao}{ds:List D}{v:V}:bp K H (.obj c fs ds) v↔∃a vs,v=.ref a/\aF K H ds vs/\fs.length=vs.length/\∃C dx,clsAt K c C/\H a=some (.ins C dx (fs.zip vs)):=by unfold bp;rfl
theorem DK{c:Str}{fs:ao}{ds:List D}{v:V}:bp K H (.exc c fs ds) v↔∃a vs,v=.ref a/\aF K H ds vs/\fs.length=vs.length/\∃C dx,clsAt K c C/\H a=some (.ext (qI C a dx))/\(fs=[]\/∃d,dx=some d/\H d=some (.xd (fs.zip vs))):=by unfold bp;rfl
theorem bQ{vs:az}:aF K H [] vs↔vs=[]:=by unfold aF;rfl
theorem aQ{x:D}{xs:List D}{vs:az}:aF K H (x::xs) vs↔∃v r,vs=v::r/\bp K H x v/\aF K H xs r:=by conv=>lhs;unfold aF
theorem aF.length:∀{ds:List D}{vs:az},aF K H ds vs->ds.length=vs.length
 |[],_,h=>by rw[bQ]at h;rw[h];rfl
 |_::xs,_,h=>by
  rw[aQ]at h;obtain⟨v,r,e,_,h⟩:=h;rw[e,Hw,Hw,aF.length h]
theorem aF.get:∀{ds:List D}{vs:az}{i:Nat}{d:D},aF K H ds vs->ds[i]?=some d->∃v,vs[i]?=some v/\bp K H d v
 |[],_,_,_,_,e=>by simp at e
 |x::xs,_,0,d,h,e=>by
  rw[aQ]at h;obtain⟨v,r,rfl,h1,_⟩:=h;simp at e;subst e;exact⟨v,rfl,h1⟩
 |x::xs,_,i+1,d,h,e=>by
  rw[aQ]at h;obtain⟨v,r,rfl,_,h2⟩:=h;obtain⟨w,e1,e2⟩:=aF.get (i:=i) h2 (by simpa using e);exact⟨w,by simpa using e1,e2⟩
theorem aF.append:∀{ds es:List D}{vs ws:az},aF K H ds vs->aF K H es ws->aF K H (ds++es) (vs++ws)
 |[],_,_,_,h,h'=>by rw[bQ]at h;subst h;exact h'
 |x::xs,_,_,_,h,h'=>by
  rw[aQ]at h;obtain⟨v,r,rfl,h1,h2⟩:=h;rw[HZ,aQ];exact⟨v,_,rfl,h1,aF.append h2 h'⟩
theorem aF.take:∀{ds:List D}{vs:az}(n:Nat),aF K H ds vs->aF K H (ds.take n) (vs.take n)
 |_,_,0,_=>by rw[Ia,Ia,bQ]
 |[],_,_+1,h=>by rw[bQ]at h;subst h;rw[G9,G9,bQ]
 |x::xs,_,n+1,h=>by
  rw[aQ]at h;obtain⟨v,r,rfl,h1,h2⟩:=h;rw[Ib,Ib,aQ];exact⟨v,_,rfl,h1,aF.take n h2⟩
theorem aF.drop:∀{ds:List D}{vs:az}(n:Nat),aF K H ds vs->aF K H (ds.drop n) (vs.drop n)
 |_,_,0,h=>by rw[Ic,Ic];exact h
 |[],_,_+1,h=>by rw[bQ]at h;subst h;rw[Ha,Ha,bQ]
 |x::xs,_,n+1,h=>by
  rw[aQ]at h;obtain⟨v,r,rfl,h1,h2⟩:=h;rw[Ie,Ie];exact aF.drop n h2
theorem aF.snoc{ds:List D}{vs:az}{d:D}{v:V}(h:aF K H ds vs)(h':bp K H d v):aF K H (ds++[d]) (vs++[v]):=
 h.append (aQ.mpr ⟨v,[],rfl,h',bQ.mpr rfl⟩)
theorem aF.set{d:D}{v:V}(h':bp K H d v):∀{ds:List D}{vs:az}(n:Nat),aF K H ds vs->aF K H (ds.set n d) (vs.set n v)
 |[],_,_,h=>by rw[bQ]at h;subst h;exact bQ.mpr rfl
 |x::xs,_,0,h=>by
  rw[aQ]at h;obtain⟨w,r,rfl,h1,h2⟩:=h;exact aQ.mpr ⟨v,r,rfl,h',h2⟩
 |x::xs,_,n+1,h=>by
  rw[aQ]at h;obtain⟨w,r,rfl,h1,h2⟩:=h;exact aQ.mpr ⟨w,_,rfl,h1,aF.set h' n h2⟩
theorem aF.one{d:D}{vs:az}(h:aF K H [d] vs):∃v,vs=[v]/\bp K H d v:=by
 rw[aQ]at h;obtain⟨v,r,rfl,h1,h2⟩:=h;rw[bQ]at h2;subst h2;exact⟨v,rfl,h1⟩
theorem mS:∀ns:List Int,aF K H (ns.map D.int) (ns.map V.int)
 |[]=>bQ.mpr rfl
 |n::ns=>aQ.mpr ⟨_,_,rfl,dP.mpr rfl,mS ns⟩
end
noncomputable def hid(H:Hp)(O:ay):Hp:=λb=>if b∈O then none else H b
theorem aC(H:Hp)(O:ay):aL (hid H O) H:=λb o h=>by
 unfold hid at h;split at h
 ·cases h
 ·exact h
theorem bh{H H':Hp}{O:ay}(e:aL H H'):aL (hid H O) (hid H' O):=λb o h=>by
 unfold hid at h ⊢;by_cases hb:b∈O
 ·rw[if_pos hb]at h;cases h
 ·rw[if_neg hb]at h ⊢;exact e b o h
theorem dE{H:Hp}{O O':ay}(s:∀a∈O,a∈O'):aL (hid H O') (hid H O):=λb o h=>by
 unfold hid at h ⊢;by_cases hb:b∈O'
 ·rw[if_pos hb]at h;cases h
 ·rw[if_neg hb]at h;rw[if_neg λz=>hb (s b z)];exact h
theorem ym(H:Hp):hid H []=H:=by funext b;unfold hid;simp
theorem rK{H:Hp}{O:ay}{p:Ke}{o:HO}(h:H p=none):aL (hid H O) (hid (upd H p o) O):=λb u q=>by
 unfold hid at q ⊢;by_cases hb:b∈O
 ·rw[if_pos hb]at q;cases q
 ·rw[if_neg hb]at q ⊢;rw[ax (aR q h)];exact q
theorem bM{H:Hp}{p:Ke}(h:H p=none)(o:HO):aL H (upd H p o):=λb u q=>by rw[ax (aR q h)];exact q
theorem j0{H:Hp}{O:ay}{p:Ke}(h:p∉O):hid H O p=H p:=by unfold hid;rw[if_neg h]
theorem jq{H:Hp}{O:ay}{p:Ke}{o:HO}(h:p∈O):aL (hid H O) (hid (upd H p o) O):=λb u q=>by
 unfold hid at q ⊢;by_cases hb:b∈O
 ·rw[if_pos hb]at q;cases q
 ·rw[if_neg hb]at q ⊢;rw[ax (λz=>hb (by rw[z];exact h))];exact q
inductive S where
 |val (d:D)|own (d:D)|nest (d:D)
noncomputable abbrev ai:=List (Option S)
noncomputable def kH:HO->Prop
 |.lst _=>True
 |.dK _=>True
 |.dT _=>True
 |_=>False
class aj where
 tab:Hp->Prop
 same:∀{H H':Hp},tab H->aL H H'->tab H'
 own:∀{H:Hp}{p:Ke}{o o':HO},tab H->H p=some o->kH o->tab (upd H p o')
variable[aj]
noncomputable def bV(H:Hp)(O:ay):Prop:=aj.tab H/\∀a∈O,∃o,H a=some o/\kH o
theorem bV.not{H:Hp}{O:ay}(h:bV H O){p:Ke}(n:H p=none):p∉O:=λz=>by
 obtain⟨vs,e,_⟩:=h.2 p z;rw[n]at e;cases e
theorem bV.same{H H':Hp}{O:ay}(h:bV H O)(e:aL H H'):bV H' O:=⟨aj.same h.1 e,λa ha=>let ⟨vs,q,m⟩:=h.2 a ha;⟨vs,e _ _ q,m⟩⟩
theorem bV.upd{H:Hp}{O:ay}{p:Ke}{o:HO}(h:bV H O)(hp:p∈O)(m:kH o):bV (L2.upd H p o) O:=⟨let ⟨_,q,r⟩:=h.2 p hp;aj.own h.1 q r,λa ha=>by
 by_cases z:a=p
 ·rw[z];exact⟨o,aD,m⟩
 ·obtain⟨u,q,r⟩:=h.2 a ha;exact⟨u,by rw[ax z];exact q,r⟩⟩
theorem bV.cons{H:Hp}{O:ay}{p:Ke}{o:HO}(h:bV H O)(hp:H p=some o)(m:kH o):bV H (p::O):=⟨h.1,λa ha=>by
 rcases List.mem_cons.mp ha with z|z
 ·rw[z];exact⟨o,hp,m⟩
 ·exact h.2 a z⟩
noncomputable def dD(K:Jo)(H:Hp)(O:ay)(a:Ke)(d:D):Prop:=∃o vs,H a=some o/\match d with
 |.lst xs=>o=.lst vs/\aF K (hid H O) xs vs
 |.dct ks ds=>aF K (hid H O) ds vs/\((∃kvs:List (Key×V),o=.dK kvs/\ks=kvs.map (λp=>bK p.1)/\vs=kvs.map (·.2)) \/
   ∃kvs:List (List Key×V),o=.dT kvs/\ks=kvs.map (λp=>.tup (p.1.map bK))/\vs=kvs.map (·.2))
 |_=>False
theorem dD.mono{K:Jo}{H H':Hp}{O O':ay}{a:Ke}{d:D}(h:dD K H O a d)(e:H a=H' a)(s:aL (hid H O) (hid H' O')):dD K H' O' a d:=by
 obtain⟨o,vs,h1,h2⟩:=h;refine⟨o,vs,by rw[<-e];exact h1,?_⟩;cases d with
 |lst xs=>exact⟨h2.1,h2.2.mono s⟩
 |dct ks ds=>exact⟨h2.1.mono s,h2.2⟩
 |_=>exact h2
theorem dD.some{K:Jo}{H:Hp}{O:ay}{a:Ke}{d:D}(h:dD K H O a d):∃o,H a=some o:=let ⟨o,_,e,_⟩:=h;⟨o,e⟩
theorem dD.den{K:Jo}{H:Hp}{O O':ay}{a:Ke}{d:D}(h:dD K H O a d)(s:aL (hid H O) (hid H O'))(ha:a∉O'):bp K (hid H O') d (.ref a):=by
 obtain⟨o,vs,h1,h2⟩:=h;have h1':hid H O' a=Option.some o:=by rw[j0 ha];exact h1
 cases d with
 |lst xs=>
  obtain⟨e,g⟩:=h2;subst e;exact bC.mpr ⟨a,vs,rfl,iW.of h1',g.mono s⟩
 |dct ks ds=>
  obtain⟨g,q⟩:=h2;refine DI.mpr ⟨a,vs,rfl,g.mono s,?_⟩;rcases q with⟨kvs,e,q⟩|⟨kvs,e,q⟩
  ·subst e;exact .inl ⟨kvs,h1',q⟩
  ·subst e;exact .inr (.inl ⟨kvs,h1',q⟩)
 |_=>exact h2.elim
structure b8(K:Jo)(O:ay)(H:Hp)(ρ:ai)(σ:St):Prop where
 val:∀(i:Nat) d,ρ[i]?=some (some (.val d))->∃v,σ[i]?=some (some v)/\bp K (hid H O) d v
 own:∀(i:Nat) d,ρ[i]?=some (some (.own d))->∃a,σ[i]?=some (some (.ref a))/\a∈O/\dD K H O a d
 one:∀(i j:Nat) xs ys a,ρ[i]?=some (some (.own xs))->ρ[j]?=some (some (.own ys))->σ[i]?=some (some (.ref a))->σ[j]?=some (some (.ref a))->i=j
 all:bV H O
theorem oi{H H':Hp}(e:aL H H'){a:Ke}{o:HO}(h:H a=some o):H a=H' a:=by rw[h,e _ _ h]
theorem b8.same{K:Jo}{O:ay}{H H':Hp}{ρ:ai}{σ:St}(h:b8 K O H ρ σ)(e:aL H H'):b8 K O H' ρ σ:=
  ⟨fun i d q=>let ⟨v,a,b⟩:=h.val i d q; ⟨v,a,b.mono (bh e)⟩,
   λi xs q=>let ⟨a,q1,q2,q3⟩:=h.own i xs q;⟨a,q1,q2,q3.mono (let ⟨_,z⟩:=q3.some;oi e z) (bh e)⟩,h.one,h.all.same e⟩
structure Ex where
 c:Str
 fs:ao
 vs:List D
noncomputable abbrev R(α:Type):=Except (Option Ex) α
noncomputable abbrev aH:=ai->R (List D)
noncomputable abbrev bq:=ai->R Bool
noncomputable abbrev bv:=List D->R D
noncomputable abbrev un{α:Type}:R α:=.error none
noncomputable def rO{α:Type}:Option α->R α
 |some a=>.ok a
 |none=>.error none
noncomputable def BM(K:Jo)(Hd:Hp)(x:Ex)(C:Ke)(dx:Option Ke):Prop:=clsAt K x.c C/\∃ws,aF K Hd x.vs ws/\x.fs.length=ws.length/\(x.fs=[]\/∃d,dx=some d/\Hd d=some (.xd (x.fs.zip ws)))
theorem BM.mono{K:Jo}{H H':Hp}{x:Ex}{C:Ke}{dx:Option Ke}(h:BM K H x C dx)(e:aL H H'):BM K H' x C dx:=by
 obtain⟨h1,ws,h2,h3,h4⟩:=h;exact⟨h1,ws,h2.mono e,h3,h4.imp id λzq=>zq.elim λd zq=>zq.elim λq1 q2=>⟨d,q1,e _ _ q2⟩⟩
end TG
namespace TG
open PySem PySem.Spec L2
variable[aj]
open PyProof.Rows (AllBare)
theorem vL{P:Kj}{w:Ki}{H:Hp}{h:Kl}{a:Ke}{o:HO}(x:bL P w H h a o):∃u,h.get? a=some u:=by
 cases o with
 |lst xs=>obtain⟨_,_,_,_,e⟩:=x;exact⟨_,e⟩
 |tup xs=>obtain⟨_,_,_,o,e,_⟩:=x;exact⟨_,e⟩
 |dK kvs=>obtain⟨_,_,_,_,o,_,_,e,_⟩:=x;exact⟨_,e⟩
 |dT kvs=>obtain⟨_,_,_,_,o,_,_,e,_⟩:=x;exact⟨_,e⟩
 |set S n=>obtain⟨o,_,_,_,e,_⟩:=x;exact⟨_,e⟩
 |ins C dx fs=>obtain⟨_,_,_,e,_⟩:=x;exact⟨_,e⟩
 |own y=>exact x
 |xd fs=>obtain⟨_,⟨_,_,_,e,_⟩,_⟩:=x;exact⟨_,e⟩
 |rng lo hi=>obtain⟨_,_,_,e⟩:=x;exact⟨_,e⟩
 |frz ob u=>obtain⟨e,_⟩:=x;exact⟨_,e⟩
 |tbl ps=>exact⟨_,(show h.get? a=some _ from x)⟩
 |met f y=>exact⟨_,(show h.get? a=some _ from x)⟩
 |ext φ=>obtain⟨_,e,_⟩:=x;exact e
noncomputable def gA(X:Cx)(H:Hp)(b:Ke):Prop:=((∃o,X.s₀.heap.get? b=some o)/\b∉X.ex)\/H b≠none\/(∃o,(b,o)∈X.pn)\/∃x,X.env.cells.lookup x=some b
noncomputable def GR(B:Kl)(e:Ke)(cls a0:Kc)(h:Kl):Prop:=h.TracedW B e cls a0\/∃oe vs,h.get? e=some oe/\oe.cls=cls/\oe.data=.fields vs/\vs[1]?=some .none/\vs[0]?=some a0
noncomputable def sA(X:Cx)(H:Hp)(s:Kh)(e C:Ke)(dx:Option Ke):Prop:=(∀oe,s.heap.get? e=some oe->oe.dict=dx)/\∃B a0,B.StaysIn s.heap/\B.get? e=none/\s.heap.FunFrames B X.stack/\GR B e (.ref C) a0 s.heap/\∀b o,s.heap.get? b=some o->gA X H b->b∉frs X.stack->B.get? b=some o
noncomputable def Gs(X:Cx)(H:Hp)(O:ay)(s:Kh)(u:Kc)(x:Ex):Prop:=∃e C dx,u=.ref e/\BM X.K (hid H O) x C dx/\sA X H s e C dx
noncomputable def gu(P:Kj)(w:Ki):qd:=λouter H s E u s'=>∃e C dx H' B a0,u=.ref e/\(∀oe,s'.heap.get? e=some oe->oe.dict=dx)/\s'.os=s.os/\AllBare s'.gens/\Un (frs outer) [] H H' s.heap s'.heap/\jN P w H' s'.heap/\J2 B outer e (.ref C) a0 s'.heap/\
 (∀b o,s'.heap.get? b=some o->((∃o',s.heap.get? b=some o')\/H' b≠none)->b∉frs outer->B.get? b=some o)/\E (.ref C) dx H'
noncomputable def Dl(K:Jo)(H:Hp)(O:ay)(x:Ex)(E:XK):Prop:=∀C dx H',aL H H'->BM K (hid H' O) x C dx->E (.ref C) dx H'
noncomputable def zJ(X:Cx)(σ:St)(O:ay)(H:Hp)(x:Ex):Prop:=∀pins s u H',Inv X pins σ H' s->aL H H'->Gs X H' O s u x->X.xe u s
theorem zJ.mono{X:Cx}{σ:St}{O:ay}{H H':Hp}{x:Ex}(h:zJ X σ O H x)(s:aL H H'):zJ X σ O H' x:=λpins st u H2 I s2 f=>h pins st u H2 I (s.trans s2) f
noncomputable def nT(X:Cx)(O:ay)(H:Hp)(x:Ex):XK:=λu dx H'=>∃C,u=.ref C/\aL H H'/\BM X.K (hid H' O) x C dx
noncomputable def eQ(CX:qd)(X:Cx)(σ:St)(E:XK):Prop:=∀(pins:aK)(H:Hp)(s:Kh)(e:Kc)(s':Kh),Inv X pins σ H s->CX X.stack H s E e s'->X.xe e s'
theorem kR{X:Cx}{σ:St}{O:ay}{H:Hp}{x:Ex}(h:zJ X σ O H x):eQ (gu X.prog X.w) X σ (nT X O H x):=by
 rintro pins H1 s u s' I ⟨e,C,dx,H',B,a0,rfl,hdx,os,bare,un,hok,⟨f1,f2,f3,f4⟩,kp,C',eC,sm,hd⟩;cases eC;have I':Inv X pins σ H' s':=I.call' os un hok bare (ch:=[]) λb z=>absurd z `h;refine h pins s' _ H' I' sm ⟨e,C,dx,rfl,hd,hdx,B,a0,f1,f2,f3,.inl f4,λb o eb hb nf=>kp b o eb ?_ nf⟩;rcases hb with⟨⟨o',hb⟩,nx⟩|hb|⟨o',hb⟩|⟨y,hb⟩
 ·exact .inl (I.base.there b o' hb nx)
 ·exact .inr hb
 ·exact .inl ⟨_,(I.pin _ (Hl _ hb)).1⟩
 ·obtain⟨v,o,q,_⟩:=I.cell y b hb;exact .inl ⟨o,q⟩
theorem kQ{X:Cx}{σ:St}:eQ (gu X.prog X.w) X σ E0:=λ_ _ _ _ _ _ h=>by
 obtain⟨_,_,_,_,_,_,_,_,_,_,_,_,_,_,z⟩:=h;exact z.elim
theorem iZ{X:Cx}{O:ay}{H:Hp}{x:Ex}:Dl X.K H O x (nT X O H x):=λC dx H' s e=>⟨C,rfl,s,e⟩
section
variable{X:Cx}{pins:aK}{σ:St}{H:Hp}{s:Kh}{h':Kl}
theorem rW(I:`g)(k:∀b o,s.heap.get? b=some o->gA X H b->b∉frs X.stack->h'.get? b=some o):jN X.prog X.w H h':=λa ob ea=>
 (I.hok a ob ea).stay (λb u hb q=>by
  have hn:H b≠none:=by
   rcases hb with e|e
   ·rw[e,ea];intro z;cases z
   ·rw[e];intro z;cases z
  exact k b u q (.inr (.inl hn)) λhf=>hn (I.stkFree b hf)) (λ_ q=>q) λ_ _ q=>q
theorem nB(I:`g)(us:s.heap.UpToSlots h'){b:Ke}{o:Obj}(hb:b∈frs X.stack)(e:s.heap.get? b=some o):∃sl,h'.get? b=some {o with slots:=sl}:=by
 obtain⟨_,o',e',nf⟩:=I.stack.mem hb;rw[e]at e';cases e';exact us b o e nf
theorem wx(I:`g)(hx:X.ex=[])(hst:X.stack=X.env::X.outer)(hf:X.env.frame=some X.env.locals)(us:s.heap.UpToSlots h')(k:∀b o,s.heap.get? b=some o->gA X H b->b∉frs X.stack->h'.get? b=some o):
  Un (frs X.outer) [] X.H₀ H X.s₀.heap h':=by
 have U:=I.base;rw[hx]at U;have fr:frs X.stack=X.env.locals::frs X.outer:=by rw[hst];show List.filterMap _ (_::_)=_;rw[Hi,hf];rfl
 have nl:∀b o,X.s₀.heap.get? b=some o->b≠X.env.locals:=λb o q z=>by
  have h1:=JV q;have h2:=I.ok.above;rw[z]at h1;exact He _ (Hc h1 h2)
 have nfr:∀b o,X.s₀.heap.get? b=some o->b∉frs X.outer->b∉frs X.stack:=λb o q nb z=>by
  rw[fr]at z;rcases List.mem_cons.mp z with z|z
  ·exact nl b o q z
  ·exact nb z
 refine⟨λb o q n nb _=>k b o (U.keep b o q n nb `h) (.inl ⟨⟨o,q⟩,by rw[hx];simp⟩) (nfr b o q nb),λb o q n hb _=>?_,λb o q n _=>U.free b o q n `h,λb o q _=>?_,U.tups,U.frzs,U.tbls⟩
 ·obtain⟨sl,e⟩:=U.slot b o q n hb `h;obtain⟨sl',e'⟩:=nB I us (by rw[fr];exact Hk _ hb) e;exact⟨sl',e'⟩
 ·obtain⟨o1,e1⟩:=U.there b o q `h;by_cases hb:b∈frs X.stack
  ·obtain⟨sl,e⟩:=nB I us hb e1;exact⟨_,e⟩
  ·exact⟨o1,k b o1 e1 (.inl ⟨⟨o,q⟩,by rw[hx];simp⟩) hb⟩
end
theorem vp{P:Kj}{w:Ki}{K:Jo}{mg:bj}{base:Kl}{N:ao}{qual:Str}{scope:Kq}{f:Ke}{cd:Kc}{A:Kp}{outer:List Env}{s:Kh}{H:Hp}{E:XK}{σ:St}{O O':ay}{H':Hp}{x:Ex}
  (hx:Dl K H O x E) (sm:aL H H') (hs:∀a∈O,a∈O'):zJ (eK (gu P w) P w K mg base N qual scope f cd A outer s H E) σ O' H' x:=by
 rintro pins s1 u H1 I s2 ⟨e,C,dx,rfl,hd,hdx,B,a0,b1,b2,b3,b4,b5⟩;have fin:∀h',J2 B outer e (.ref C) a0 h'->s1.heap.UpToSlots h'->DS s1.heap h'->gu P w outer H s E (.ref e) {s1 with heap:=h'}:=λh' fl us ds=>by
  have k:∀b o,s1.heap.get? b=some o->gA (eK (gu P w) P w K mg base N qual scope f cd A outer s H E) H1 b->b∉frs (eK (gu P w) P w K mg base N qual scope f cd A outer s H E).stack->h'.get? b=some o:=λb o q kb nf=>fl.1 b o (b5 b o q kb nf);have un:=wx I rfl rfl rfl us k;have hok:=rW I k;refine⟨e,C,dx,H1,B,a0,rfl,λoe' q=>?_,I.os,I.bare,un,hok,fl,λb o q hb nf=>?_,hx C dx H1 (sm.trans s2) (hd.mono (dE hs))⟩
  ·obtain⟨oe,q1⟩:∃oe,s1.heap.get? e=some oe:=by
    rcases b4 with⟨oe,_,_,_,_,h1,_⟩|⟨oe,_,h1,_⟩
    ·exact⟨oe,h1⟩
    ·exact⟨oe,h1⟩
   exact(ds.dict q1 q).trans (hdx oe q1)
  have nf2:b∉frs (eK (gu P w) P w K mg base N qual scope f cd A outer s H E).stack:=λz=>by
   rcases List.mem_cons.mp (show b∈s.heap.objs.size::frs outer from z)with z|z
   ·rcases hb with hb|hb
    ·obtain⟨o',hb⟩:=hb
     have:=JV hb
     rw[z]at this;exact He _ this
    ·rw[z]at hb;exact hb I.free
   ·exact nf z
  have kb:gA (eK (gu P w) P w K mg base N qual scope f cd A outer s H E) H1 b:=hb.elim (λz=>.inl ⟨z,λy=>nomatch y⟩) λz=>.inr (.inl z);obtain⟨o1,e1⟩:∃o1,s1.heap.get? b=some o1:=by
   rcases hb with⟨o',hb⟩|hb
   ·exact I.base.there b o' hb (λz=>nomatch z)
   ·cases q0:H1 b with
    |none=>exact absurd q0 hb
    |some ob=>exact vL (I.hok b ob q0)
  have:=k b o1 e1 kb nf2
  rw[q]at this;cases this;exact b5 b _ e1 kb nf2
 show Kt _ _ (leaving (J5 qual scope s.heap.objs.size f cd) (.ref e)) _ _ s1;refine DP.go (qb _ _) (P:=λh'=>J2 B outer e (.ref C) a0 h'/\s1.heap.UpToSlots h') ?_ λh' z ds=>fin h' z.1 z.2 ds;rcases b4 with b4|⟨oe,vs,c1,c2,c3,c4,c5⟩
 ·exact wpAny_leaves_onW I.ok.frames rfl ⟨b1,b2,b3,b4⟩ λh' fl us=>⟨h',rfl,fl,us⟩
 ·refine wpAny_leaving_firstW I.ok.frames b3 rfl c1 b1 b2 c3 c4 c5 λh' hL=>?_;obtain⟨k1,⟨_,_,k2⟩,k3,k4⟩:=hL;exact⟨h',rfl,⟨k1,b2,k2,c2 ▸ k3⟩,k4⟩
end TG
namespace TG
open PySem PySem.Spec L2
variable[aj]
noncomputable def cR(X:Cx)(σ:St)(O:ay)(H:Hp){α:Type}(r:R α)(Q:α->Prop):Prop:=match r with
 |.ok a=>Q a
 |.error (some x)=>zJ X σ O H x
 |.error none=>False
section
variable{X:Cx}{σ:St}{O:ay}{H H':Hp}{α β:Type}
theorem cR.bind{r:R α}{G:α->R β}{Q:β->Prop}(h:cR X σ O H (r.bind G) Q):cR X σ O H r λa=>cR X σ O H (G a) Q:=by
 match r,h with
 |.ok a,h=>exact h
 |.error (some x),h=>exact h
 |.error none,h=>exact h
theorem cR.imp{r:R α}{Q Q':α->Prop}(h:cR X σ O H r Q)(f:∀a,Q a->Q' a):cR X σ O H r Q':=by
 match r,h with
 |.ok a,h=>exact f a h
 |.error (some x),h=>exact h
 |.error none,h=>exact h
theorem cR.mono{r:R α}{Q:α->Prop}(h:cR X σ O H r Q)(s:aL H H'):cR X σ O H' r Q:=by
 match r,h with
 |.ok a,h=>exact h
 |.error (some x),h=>exact zJ.mono h s
 |.error none,h=>exact h
theorem cR.rO{o:Option α}{Q:α->Prop}(h:cR X σ O H (rO o) Q):∃a,o=some a/\Q a:=by
 match o,h with
 |some a,h=>exact⟨a,rfl,h⟩
 |none,h=>exact h.elim
end
noncomputable abbrev FX:=ai->R D
noncomputable def tF(X:Cx)(F:FX):TE:=λσ H Q=>∃O ρ,b8 X.K O H ρ σ/\cR X σ O H (F ρ) λd=>∀v H',aL H H'->bp X.K (hid H' O) d v->Q v H'
noncomputable def Dq(X:Cx)(F:bq):TT:=λσ H Q=>∃O ρ,b8 X.K O H ρ σ/\cR X σ O H (F ρ) λb=>∀H',aL H H'->Q b H'
noncomputable def Dt(X:Cx)(F:aH):TA:=λσ H Q=>∃O ρ,b8 X.K O H ρ σ/\cR X σ O H (F ρ) λds=>∀vs H',aL H H'->aF X.K (hid H' O) ds vs->Q vs H'
noncomputable def FE(X:Cx)(e:Kf)(F:FX):Prop:=PE X e (tF X F)
noncomputable def FT(X:Cx)(e:Kf)(F:bq):Prop:=PT X e (Dq X F)
noncomputable def FW(X:Cx)(e:Kf)(F:bq):Prop:=PW X e (Dq X F)
noncomputable def FA(X:Cx)(es:aX)(F:aH):Prop:=PA X es (Dt X F)
theorem PE.weak{X:Cx}{e:Kf}{t t':TE}(h:PE X e t)(w:∀σ H Q,t' σ H Q->t σ H Q):PE X e t':=λpins s σ H Q I q=>h pins s σ H Q I (w σ H Q q)
theorem PT.weak{X:Cx}{e:Kf}{t t':TT}(h:PT X e t)(w:∀σ H Q,t' σ H Q->t σ H Q):PT X e t':=λpins s σ H Q I q=>h pins s σ H Q I (w σ H Q q)
theorem PW.weak{X:Cx}{e:Kf}{t t':TT}(h:PW X e t)(w:∀σ H Q,t' σ H Q->t σ H Q):PW X e t':=λwhole pins s σ H Q I q=>h whole pins s σ H Q I (w σ H Q q)
theorem PA.weak{X:Cx}{es:aX}{t t':TA}(h:PA X es t)(w:∀σ H Q,t' σ H Q->t σ H Q):PA X es t':=λpos pins s σ H Q I q=>h pos pins s σ H Q I (w σ H Q q)
theorem PS.weak{X:Cx}{st:Kg}{t t':TS}(h:PS X st t)(w:∀D σ H,t' D σ H->t D σ H):PS X st t':=λpins s σ H Q I q=>h pins s σ H Q I (w Q σ H q)
theorem oM.weak{X:Cx}{st:b7}{t t':TS}(h:oM X st t)(w:∀D σ H,t' D σ H->t D σ H):oM X st t':=λpins s σ H Q I q=>h pins s σ H Q I (w Q σ H q)
noncomputable def mx(ρ:ai)(i:Nat):R D:=match ρ[i]? with
 |some (some (.val d))=>.ok d
 |_=>un
theorem zc{ρ:ai}{i:Nat}{d:D}(h:mx ρ i=.ok d):ρ[i]?=some (some (.val d)):=by
 unfold mx at h;split at h
 ·rename_i e;cases h;exact e
 ·cases h
noncomputable def ae(i:Nat):FX:=λρ=>mx ρ i
noncomputable def fC(d:D):FX:=λ_=>.ok d
section
variable{X:Cx}
theorem ua{σ:St}{O:ay}{H:Hp}{ρ:ai}{i:Nat}{Q:D->Prop}(h:cR X σ O H (mx ρ i) Q):∃d,ρ[i]?=some (some (.val d))/\Q d:=by
 cases e:mx ρ i with
 |ok d=>rw[e]at h;exact⟨d,zc e,h⟩
 |error z=>
  rw[e]at h;cases z with
  |none=>exact h.elim
  |some x=>
   exfalso;unfold mx at e;split at e
   ·cases e
   ·have:=Except.error.inj e;cases this
theorem lV{e:Kf}{d:D}{v:V}(h:PE X e (tC v))(hd:∀K H,bp K H d v):FE X e (fC d):=
 PE.weak h λσ H Q zq=>zq.elim λO zq=>zq.elim λρ zq=>zq.elim λE q=>q v H (aL.refl H) (hd _ _)
noncomputable def noStar:Kf->Bool
 |.Starred _ _=>false
 |_=>true
theorem aZ{e:Kf}{es:aX}{env:Env}(h:noStar e=true):Ku (e::es) env=(false,eval e env)::Ku es env:=by
 cases e<;>first|rfl|cases h
theorem bH{pos:Pos}{env:Env}:∀{es:aX},es.all noStar=true->(backTo pos (Ku es env)).any (·.1)=false
 |[],_=>rfl
 |e::es,h=>by
  rw[Ig,HM]at h;rw[aZ h.1];exact bH h.2
noncomputable def ah:aH:=λ_=>.ok []
noncomputable def aa(f:FX)(g:aH):aH:=λρ=>(f ρ).bind λx=>(g ρ).bind λxs=>.ok (x::xs)
theorem EE:FA X [] ah:=PA.weak jz λσ H Q zq=>zq.elim λO zq=>zq.elim λρ zq=>zq.elim λE q=>q [] H (aL.refl H) (bQ.mpr rfl)
theorem bind_some{α β:Type}{o:Option α}{f:α->Option β}{b:β}(h:o.bind f=some b):∃a,o=some a/\f a=some b:=by
 cases o with
 |none=>cases h
 |some a=>exact⟨a,rfl,h⟩
theorem kW{ε α β:Type}{o:Except ε α}{f:α->Except ε β}{b:β}(h:o.bind f=.ok b):∃a,o=.ok a/\f a=.ok b:=by
 cases o with
 |error _=>cases h
 |ok a=>exact⟨a,rfl,h⟩
theorem Dj{e:Kf}{es:aX}{f:FX}{g:aH}(he:FE X e f)(hs:FA X es g)(hns:noStar e=true:=by rfl):FA X (e::es) (aa f g):=
 PA.weak (cC he hs (aZ hns)) λσ H Q ⟨O,ρ,E,h⟩=>
  ⟨O,ρ,E,(cR.bind h).imp λx h v H1 s1 d1=>⟨O,ρ,E.same s1,((cR.bind h).mono s1).imp λxs q vs H2 s2 d2=>q (v::vs) H2 (s1.trans s2) (aQ.mpr ⟨v,vs,rfl,d1.mono (bh s2),d2⟩)⟩⟩
noncomputable def small(n:Nat):Bool:=decide (n<=100000)
theorem bU{n:Nat}(h:small n=true):n<=Km:=Hg (of_decide_eq_true h) (by decide)
theorem cJ{n:Nat}(h:n<=100000):small n=true:=decide_eq_true h
noncomputable def iF(xs:List D):aV:=if small xs.length then some (.tup xs)else none
noncomputable def iE(xs:List D):aV:=if small xs.length then some (.lst xs)else none
noncomputable def bF(g:aH):FX:=λρ=>(g ρ).bind λxs=>rO (iF xs)
noncomputable def gr(g:aH):FX:=λρ=>(g ρ).bind λxs=>rO (iE xs)
theorem aW{α:Type}{c:Bool}{a b:α}(h:(if c then some a else none)=some b):c=true/\a=b:=by
 cases c with
 |true=>exact⟨rfl,Option.some.inj h⟩
 |false=>cases h
theorem dz{K:Jo}{H:Hp}{O:ay}{p:Ke}{ds:List D}{vs:az}(hO:bV H O)(hp:H p=none)(d:aF K (hid H O) ds vs):bp K (hid (upd H p (.tup vs)) O) (.tup ds) (.ref p):=
 bB.mpr ⟨p,vs,rfl,by rw[j0 (hO.not hp),aD],d.mono (rK hp)⟩
theorem dB{K:Jo}{H:Hp}{O:ay}{p:Ke}{ds:List D}{vs:az}(hO:bV H O)(hp:H p=none)(d:aF K (hid H O) ds vs):bp K (hid (upd H p (.lst vs)) O) (.lst ds) (.ref p):=
 bC.mpr ⟨p,vs,rfl,iW.of (by rw[j0 (hO.not hp),aD]),d.mono (rK hp)⟩
noncomputable def xN(K:Jo)(r:V->Hp->VK->Prop)(g:D->aV):Prop:=
 ∀(a d:D)(x:V)(O:ay)(H:Hp)(Q:VK),bV H O->g a=some d->bp K (hid H O) a x->(∀v H',aL H H'->bp K (hid H' O) d v->Q v H')->r x H Q
noncomputable def f1(g:D->aV)(f:FX):FX:=λρ=>(f ρ).bind λa=>rO (g a)
noncomputable def dI(K:Jo)(r:R2)(g:D->D->aV):Prop:=
 ∀(a b d:D)(x y:V)(O:ay)(H:Hp)(Q:VK),bV H O->g a b=some d->bp K (hid H O) a x->bp K (hid H O) b y->(∀v H',aL H H'->bp K (hid H' O) d v->Q v H')->r x y H Q
noncomputable def f2(g:D->D->aV)(f1 f2:FX):FX:=λρ=>(f1 ρ).bind λa=>(f2 ρ).bind λb=>rO (g a b)
theorem nZ{r:R2}{g:D->D->aV}{fa fb:FX}(s:dI X.K r g):∀σ H Q,tF X (f2 g fa fb) σ H Q->Cp r (tF X fa) (tF X fb) σ H Q:=λσ H Q zq=>zq.elim λO zq=>zq.elim λρ zq=>zq.elim λE hF=>
 ⟨O,ρ,E,(cR.bind hF).imp fun a hF x H1 s1 d1=>⟨O,ρ,E.same s1,((cR.bind hF).mono s1).imp fun b hF y H2 s2 d2=>by
  obtain⟨d,e,q⟩:=cR.rO hF;exact s a b d x y O H2 Q (E.all.same (s1.trans s2)) e (d1.mono (bh s2)) d2 λv H3 s3 d3=>q v H3 ((s1.trans s2).trans s3) d3⟩⟩
noncomputable def Em:D->Option Bool
 |.bl b=>some b
 |_=>none
noncomputable def fB(f:FX):bq:=λρ=>(f ρ).bind λd=>rO (Em d)
theorem wB{t:TE}{f:FX}(h:∀σ H Q,tF X f σ H Q->t σ H Q):∀σ H Q,Dq X (fB f) σ H Q->zK t σ H Q:=λσ H Q zq=>zq.elim λO zq=>zq.elim λρ zq=>zq.elim λE hF=>
 h σ H _ ⟨O,ρ,E,(cR.bind hF).imp λd hF v H1 s1 d1=>by
  obtain⟨b,e,q⟩:=cR.rO hF;cases d with
  |bl b'=>
   cases e;exact⟨b,gD.mp d1,q H1 s1⟩
  |_=>cases e⟩
noncomputable def sC(K:Jo)(r:az->Hp->VK->Prop)(g:List D->aV):Prop:=
 ∀(ds:List D)(d:D)(xs:az)(O:ay)(H:Hp)(Q:VK),bV H O->g ds=some d->aF K (hid H O) ds xs->(∀v H',aL H H'->bp K (hid H' O) d v->Q v H')->r xs H Q
noncomputable def fL(g:List D->aV)(f:aH):FX:=λρ=>(f ρ).bind λds=>rO (g ds)
noncomputable def fR(g:bv)(f:aH):FX:=λρ=>(f ρ).bind g
theorem vc{r:az->Hp->VK->Prop}{g:List D->aV}{f:aH}(s:sC X.K r g):∀σ H Q,tF X (fL g f) σ H Q->DM r (Dt X f) σ H Q:=λσ H Q zq=>zq.elim λO zq=>zq.elim λρ zq=>zq.elim λE hF=>
 ⟨O,ρ,E,(cR.bind hF).imp fun ds hF vs H1 s1 d1=>by
  obtain⟨d,e,q⟩:=cR.rO hF;exact s ds d vs O H1 Q (E.all.same s1) e d1 λv H2 s2 d2=>q v H2 (s1.trans s2) d2⟩
noncomputable def fM(f:bq):bq:=λρ=>(f ρ).bind λb=>.ok (!b)
noncomputable def EJ(f g:bq):bq:=λρ=>(f ρ).bind λb=>if b then g ρ else .ok false
noncomputable def qj(f g:bq):bq:=λρ=>(f ρ).bind λb=>if b then .ok true else g ρ
variable{a b c:Kf}{rest:aX}{pos:Pos}{f g:bq}
theorem FW.ft{e:Kf}(h:FW X e f):FT X e f:=PW.pt h
noncomputable def truth:D->Option Bool
 |.non=>some false
 |.bl b=>some b
 |.int i=>some (i !=0)
 |.str x=>if small x.length then some (x.length !=0)else none
 |.tup xs=>some (!xs.isEmpty)
 |.lst xs=>some (!xs.isEmpty)
 |_=>none
noncomputable def bA(f:FX):bq:=λρ=>(f ρ).bind λd=>rO (truth d)
noncomputable def qR(d:D)(k:R D):R D:=match d with
 |.bl true=>k
 |.bl false=>.ok (.bl false)
 |_=>un
noncomputable def CA(d:D)(k:R D):R D:=match d with
 |.bl false=>k
 |.bl true=>.ok (.bl true)
 |_=>un
noncomputable def Ag:D->aV
 |.bl b=>some (.bl (!b))
 |_=>none
noncomputable def nN(f g:FX):FX:=λρ=>(f ρ).bind λd=>qR d (g ρ)
noncomputable def Fq(f g:FX):FX:=λρ=>(f ρ).bind λd=>CA d (g ρ)
noncomputable def C1(f:FX):FX:=f1 Ag f
variable{fa fb:FX}
noncomputable def Gf(t:bq)(f g:FX):FX:=λρ=>(t ρ).bind λc=>if c then f ρ else g ρ
end
end TG
namespace TG
open PySem PySem.Spec L2
variable[aj]
open PySem.SeqAt (EqAt RcAt RcNeAt)
mutual
noncomputable def pyEq:D->D->Bool
 |.non,.non=>true
 |.bl a,.bl b=>a==b
 |.bl a,.int b=>(if a then 1 else 0)==b
 |.int a,.bl b=>a==(if b then 1 else 0)
 |.int a,.int b=>a==b
 |.str a,.str b=>a==b
 |.tup xs,.tup ys=>gR xs ys
 |.lst xs,.lst ys=>gR xs ys
 |.dct _ _,.dct _ _=>true
 |.obj _ _ _,.obj _ _ _=>true
 |.exc _ _ _,.exc _ _ _=>true
 |_,_=>false
noncomputable def gR:List D->List D->Bool
 |[],[]=>true
 |x::xs,y::ys=>pyEq x y&&gR xs ys
 |_,_=>false
end
mutual
theorem eN:∀d:D,pyEq d d=true
 |.non=>by unfold pyEq;rfl
 |.bl b=>by unfold pyEq;simp
 |.int i=>by unfold pyEq;simp
 |.str x=>by unfold pyEq;simp
 |.tup xs=>by unfold pyEq;exact iQ xs
 |.lst xs=>by unfold pyEq;exact iQ xs
 |.dct _ _=>by unfold pyEq;rfl
 |.obj _ _ _=>by unfold pyEq;rfl
 |.exc _ _ _=>by unfold pyEq;rfl
theorem iQ:∀ds:List D,gR ds ds=true
 |[]=>by unfold gR;rfl
 |d::ds=>by unfold gR;rw[eN d,iQ ds];rfl
end
noncomputable def qc(xs ys:List D)(j:Nat):Bool:=match xs[j]?,ys[j]? with
 |some a,some b=>pyEq a b
 |_,_=>false
theorem dj:∀xs ys:List D,((List.range (min xs.length ys.length)).all (qc xs ys)&&xs.length==ys.length)=gR xs ys
 |[],[]=>by unfold gR;rfl
 |[],_::_=>by unfold gR;simp
 |_::_,[]=>by unfold gR;simp
 |x::xs,y::ys=>by
  have ih:=dj xs ys
  conv=>rhs;unfold gR
  rw[<-ih];have e:min (x::xs).length (y::ys).length=min xs.length ys.length+1:=by simp only[Hw];omega
  rw[e,Ih,Ig,List.all_map];have e2:((x::xs).length==(y::ys).length)=(xs.length==ys.length):=by simp
  rw[e2,Bool.and_assoc];have e3:(List.range (min xs.length ys.length)).all (qc (x::xs) (y::ys)∘Nat.succ)=(List.range (min xs.length ys.length)).all (qc xs ys):=by
   congr 1
  rw[e3];rfl
mutual
noncomputable def pl:D->Bool
 |.tup xs=>kI xs
 |.lst xs=>kI xs
 |.dct _ _=>false
 |.obj _ _ _=>false
 |.exc _ _ _=>false
 |_=>true
noncomputable def kI:List D->Bool
 |[]=>true
 |x::xs=>pl x&&kI xs
end
theorem cQ{ks vs:List D}(h:pl (.dct ks vs)=true):False:=by unfold pl at h;cases h
theorem cZ{c:Str}{fs:ao}{vs:List D}(h:pl (.obj c fs vs)=true):False:=by unfold pl at h;cases h
theorem cY{c:Str}{fs:ao}{vs:List D}(h:pl (.exc c fs vs)=true):False:=by unfold pl at h;cases h
theorem gZ:∀{xs:List D},kI xs=true->∀x∈xs,pl x=true
 |[],_,_,h=>nomatch h
 |x::xs,h,y,hy=>by
  unfold kI at h;rw[HM]at h;rcases List.mem_cons.mp hy with z|z
  ·rw[z];exact h.1
  ·exact gZ h.2 y z
theorem uX:∀{xs:List D},(∀x∈xs,pl x=true)->kI xs=true
 |[],_=>by unfold kI;rfl
 |x::xs,h=>by
  unfold kI;rw[HM];exact⟨h x Hj,uX λy hy=>h y (Hk _ hy)⟩
theorem cc{xs:List D}:pl (.tup xs)=kI xs:=by rw[pl]
theorem cm{xs:List D}:pl (.lst xs)=kI xs:=by rw[pl]
noncomputable def cM:Nat->D->Bool
 |n+1,.tup xs=>xs.all (cM n)
 |n+1,.lst xs=>xs.all (cM n)
 |0,.tup _=>false
 |0,.lst _=>false
 |_,.dct _ _=>false
 |_,.obj _ _ _=>false
 |_,.exc _ _ _=>false
 |_,_=>true
section
variable{X:Cx}{pins:aK}{σ:St}{H:Hp}{s:Kh}
theorem Inv.not_both(I:`g){a:Ke}{xs ys:az}(h:kq X.K H a xs)(h':iW X.K H a ys):False:=by
 obtain⟨its,_,ht,_⟩:=I.tuple h;obtain⟨its2,_,hl,_⟩:=I.list h';exact absurd rfl (SeqAt.ne_of_list_tuple hl.isList (show s.heap.IsTuple a its.toArray from ht))
mutual
theorem Inv.den_inj(I:`g):∀{a b:D}{v:V},pl a=true->pl b=true->bp X.K H a v->bp X.K H b v->a=b
 |.non,b,v,pa,pb,h,h'=>by
  rw[fW]at h;subst h;cases b with
  |non=>rfl
  |bl _=>rw[gD]at h';cases h'
  |int _=>rw[dP]at h';cases h'
  |str _=>rw[dq]at h';cases h'
  |tup _=>rw[bB]at h';obtain⟨_,_,e,_⟩:=h';cases e
  |lst _=>rw[bC]at h';obtain⟨_,_,e,_⟩:=h';cases e
  |dct _ _=>exact(cQ pb).elim
  |obj _ _ _=>exact(cZ pb).elim
  |exc _ _ _=>exact(cY pb).elim
 |.bl x,b,v,pa,pb,h,h'=>by
  rw[gD]at h;subst h;cases b with
  |non=>rw[fW]at h';cases h'
  |bl _=>rw[gD]at h';cases h';rfl
  |int _=>rw[dP]at h';cases h'
  |str _=>rw[dq]at h';cases h'
  |tup _=>rw[bB]at h';obtain⟨_,_,e,_⟩:=h';cases e
  |lst _=>rw[bC]at h';obtain⟨_,_,e,_⟩:=h';cases e
  |dct _ _=>exact(cQ pb).elim
  |obj _ _ _=>exact(cZ pb).elim
  |exc _ _ _=>exact(cY pb).elim
 |.int x,b,v,pa,pb,h,h'=>by
  rw[dP]at h;subst h;cases b with
  |non=>rw[fW]at h';cases h'
  |bl _=>rw[gD]at h';cases h'
  |int _=>rw[dP]at h';cases h';rfl
  |str _=>rw[dq]at h';cases h'
  |tup _=>rw[bB]at h';obtain⟨_,_,e,_⟩:=h';cases e
  |lst _=>rw[bC]at h';obtain⟨_,_,e,_⟩:=h';cases e
  |dct _ _=>exact(cQ pb).elim
  |obj _ _ _=>exact(cZ pb).elim
  |exc _ _ _=>exact(cY pb).elim
 |.str x,b,v,pa,pb,h,h'=>by
  rw[dq]at h;subst h;cases b with
  |non=>rw[fW]at h';cases h'
  |bl _=>rw[gD]at h';cases h'
  |int _=>rw[dP]at h';cases h'
  |str _=>rw[dq]at h';cases h';rfl
  |tup _=>rw[bB]at h';obtain⟨_,_,e,_⟩:=h';cases e
  |lst _=>rw[bC]at h';obtain⟨_,_,e,_⟩:=h';cases e
  |dct _ _=>exact(cQ pb).elim
  |obj _ _ _=>exact(cZ pb).elim
  |exc _ _ _=>exact(cY pb).elim
 |.tup xs,b,v,pa,pb,h,h'=>by
  rw[bB]at h;obtain⟨a,vs,e,h1,h2⟩:=h;subst e;cases b with
  |non=>rw[fW]at h';cases h'
  |bl _=>rw[gD]at h';cases h'
  |int _=>rw[dP]at h';cases h'
  |str _=>rw[dq]at h';cases h'
  |tup ys=>
   rw[bB]at h';obtain⟨a',vs',e,h1',h2'⟩:=h';cases e;have ev:=I.tuple_inj (kq.of h1) (kq.of h1');subst ev;rw[Inv.denL_inj I (by first|rw[<-cc];exact pa|rw[<-cm];exact pa) (by first|rw[<-cc];exact pb|rw[<-cm];exact pb) h2 h2']
  |lst _=>rw[bC]at h';obtain⟨_,_,e,h1',_⟩:=h';cases e;exact(Inv.not_both I (kq.of h1) h1').elim
  |dct _ _=>exact(cQ pb).elim
  |obj _ _ _=>exact(cZ pb).elim
  |exc _ _ _=>exact(cY pb).elim
 |.lst xs,b,v,pa,pb,h,h'=>by
  rw[bC]at h;obtain⟨a,vs,e,h1,h2⟩:=h;subst e;cases b with
  |non=>rw[fW]at h';cases h'
  |bl _=>rw[gD]at h';cases h'
  |int _=>rw[dP]at h';cases h'
  |str _=>rw[dq]at h';cases h'
  |lst ys=>
   rw[bC]at h';obtain⟨a',vs',e,h1',h2'⟩:=h';cases e;have ev:=I.list_inj h1 h1';subst ev;rw[Inv.denL_inj I (by first|rw[<-cc];exact pa|rw[<-cm];exact pa) (by first|rw[<-cc];exact pb|rw[<-cm];exact pb) h2 h2']
  |tup _=>rw[bB]at h';obtain⟨_,_,e,h1',_⟩:=h';cases e;exact(Inv.not_both I (kq.of h1') h1).elim
  |dct _ _=>exact(cQ pb).elim
  |obj _ _ _=>exact(cZ pb).elim
  |exc _ _ _=>exact(cY pb).elim
 |.dct _ _,_,_,pa,_,_,_=>(cQ pa).elim
 |.obj _ _ _,_,_,pa,_,_,_=>(cZ pa).elim
 |.exc _ _ _,_,_,pa,_,_,_=>(cY pa).elim
theorem Inv.denL_inj(I:`g):∀{as bs:List D}{vs:az},kI as=true->kI bs=true->aF X.K H as vs->aF X.K H bs vs->as=bs
 |[],bs,vs,pa,pb,h,h'=>by
  rw[bQ]at h;subst h;cases bs with
  |nil=>rfl
  |cons b bs=>rw[aQ]at h';obtain⟨_,_,e,_⟩:=h';cases e
 |a::as,bs,vs,pa,pb,h,h'=>by
  rw[aQ]at h;obtain⟨v,r,e,h1,h2⟩:=h;subst e;cases bs with
  |nil=>rw[bQ]at h';cases h'
  |cons b bs=>
   rw[aQ]at h';obtain⟨v',r',e,h1',h2'⟩:=h';cases e;unfold kI at pa pb;rw[HM]at pa pb;rw[Inv.den_inj I pa.1 pb.1 h1 h1',Inv.denL_inj I pa.2 pb.2 h2 h2']
end
noncomputable def iI:D->Option V
 |.non=>some .non
 |.bl b=>some (.bl b)
 |.int i=>some (.int i)
 |.str x=>some (.str x)
 |_=>none
theorem jG{K:Jo}{d:D}{v x:V}(h:iI d=some x)(hd:bp K H d v):v=x/\xj x=true:=by
 cases d with
 |non=>cases h;exact⟨fW.mp hd,rfl⟩
 |bl b=>cases h;exact⟨gD.mp hd,rfl⟩
 |int i=>cases h;exact⟨dP.mp hd,rfl⟩
 |str y=>cases h;exact⟨dq.mp hd,rfl⟩
 |_=>cases h
theorem yO{a b:D}{x y:V}(ha:iI a=some x)(hb:iI b=some y):DT x y=pyEq a b:=by
 cases a<;>cases ha<;>cases b<;>cases hb<;>(unfold pyEq DT;rfl)
theorem pN{a:D}{x:V}(n:Nat)(h:iI a=some x):cM n a=true:=by
 cases a with
 |tup _=>cases h
 |lst _=>cases h
 |dct _ _=>cases h
 |obj _ _ _=>cases h
 |exc _ _ _=>cases h
 |_=>cases n<;>rfl
theorem pU{a:D}(h:iI a=none):cM 0 a=false:=by
 cases a with
 |tup _=>rfl
 |lst _=>rfl
 |dct _ _=>rfl
 |obj _ _ _=>rfl
 |exc _ _ _=>rfl
 |_=>cases h
theorem in1_units(A:Kp):A.in1.units=A.units+1:=rfl
theorem ju{vs:az}{us:aP}(r:Vals vs us){j:Nat}(h:j<us.toArray.size):∃x,vs[j]?=some x/\RelV x us.toArray[j]:=by
 have hj:j<us.length:=by simpa using h
 have hl:=r.length;have hv:j<vs.length:=by omega
 obtain⟨u,e,ru⟩:=r.get (i:=j) (x:=vs[j]) (by simp[hv]);refine⟨vs[j],by simp[hv],?_⟩;have e2:us.toArray[j]=u:=by
  rw[Ii hj]at e
  simpa using Option.some.inj e
 rw[e2];exact ru
theorem jk{K:Jo}{ds:List D}{vs:az}(h:aF K H ds vs){j:Nat}{x:V}(e:vs[j]?=some x):∃d,ds[j]?=some d/\bp K H d x:=by
 have hj:j<vs.length:=(List.getElem?_eq_some_iff.mp e).1;have hl:=h.length;have hd:j<ds.length:=by omega
 obtain⟨v,e1,e2⟩:=h.get (i:=j) (d:=ds[j]) (by simp[hd]);rw[e]at e1;cases e1;exact⟨ds[j],by simp[hd],e2⟩
theorem qq(I:`g):∀(n:Nat)(a b:D)(x y:V)(u v:Kc)(A:Kp),pl a=true->pl b=true->(cM n a=true\/cM n b=true)->bp X.K H a x->bp X.K H b y->RelV x u->RelV y v->A.units+n<KS->EqAt A s u v (pyEq a b):=by
 intro n
 induction n with
 |zero=>
  intro a b x y u v A pa pb hd ha hb ru rv hA;have hu:A.units<KS:=hA;cases ha':iI a with
  |some x'=>
   obtain⟨e,f⟩:=jG ha' ha;subst e;cases hb':iI b with
   |some y'=>
    obtain⟨e,f'⟩:=jG hb' hb;subst e;rw[<-yO ha' hb'];exact AR ru rv f f'
   |none=>
    cases b with
    |tup ys=>
     rw[bB]at hb;obtain⟨p,vs,e,h1,h2⟩:=hb;subst e;cases rv;obtain⟨its,_,ht,_⟩:=I.tuple (kq.of h1);have ht':s.heap.IsTuple p its.toArray:=ht;cases a with
     |non=>cases ha';cases ru;unfold pyEq;exact .none_tuple ht' hu
     |bl z=>cases ha';cases ru;unfold pyEq;exact .bool_tuple z ht' hu
     |int z=>cases ha';obtain⟨t,rfl⟩:=ru;unfold pyEq;exact .int_tuple z t ht' hu
     |str z=>cases ha';obtain⟨t,rfl⟩:=ru;unfold pyEq;exact .str_tuple z t ht' hu
     |_=>cases ha'
    |lst ys=>
     rw[bC]at hb;obtain⟨p,vs,e,h1,h2⟩:=hb;subst e;cases rv;obtain⟨its,_,ht,_⟩:=I.list h1;have ht':s.heap.IsList p its.toArray:=ht.isList;cases a with
     |non=>cases ha';cases ru;unfold pyEq;exact .none_list ht' hu
     |bl z=>cases ha';cases ru;unfold pyEq;exact .bool_list z ht' hu
     |int z=>cases ha';obtain⟨t,rfl⟩:=ru;unfold pyEq;exact .int_list z t ht' hu
     |str z=>cases ha';obtain⟨t,rfl⟩:=ru;unfold pyEq;exact .str_list z t ht' hu
     |_=>cases ha'
    |dct _ _=>exact(cQ pb).elim
    |obj _ _ _=>exact(cZ pb).elim
    |exc _ _ _=>exact(cY pb).elim
    |_=>cases hb'
  |none=>
   have hdb:cM 0 b=true:=by
    rcases hd with hd|hd
    ·rw[pU ha']at hd;cases hd
    ·exact hd
   cases hb':iI b with
   |none=>rw[pU hb']at hdb;cases hdb
   |some y'=>
    obtain⟨e,f'⟩:=jG hb' hb;subst e;cases a with
    |tup xs=>
     rw[bB]at ha;obtain⟨p,vs,e,h1,h2⟩:=ha;subst e;cases ru;obtain⟨its,_,ht,_⟩:=I.tuple (kq.of h1);have ht':s.heap.IsTuple p its.toArray:=ht;cases b with
     |non=>cases hb';cases rv;unfold pyEq;exact .tuple_none ht' hu
     |bl z=>cases hb';cases rv;unfold pyEq;exact .tuple_bool z ht' hu
     |int z=>cases hb';obtain⟨t,rfl⟩:=rv;unfold pyEq;exact .tuple_int z t ht' hu
     |str z=>cases hb';obtain⟨t,rfl⟩:=rv;unfold pyEq;exact .tuple_str z t ht' hu
     |_=>cases hb'
    |lst xs=>
     rw[bC]at ha;obtain⟨p,vs,e,h1,h2⟩:=ha;subst e;cases ru;obtain⟨its,_,ht,_⟩:=I.list h1;have ht':s.heap.IsList p its.toArray:=ht.isList;cases b with
     |non=>cases hb';cases rv;unfold pyEq;exact .list_none ht' hu
     |bl z=>cases hb';cases rv;unfold pyEq;exact .list_bool z ht' hu
     |int z=>cases hb';obtain⟨t,rfl⟩:=rv;unfold pyEq;exact .list_int z t ht' hu
     |str z=>cases hb';obtain⟨t,rfl⟩:=rv;unfold pyEq;exact .list_str z t ht' hu
     |_=>cases hb'
    |dct _ _=>exact(cQ pa).elim
    |obj _ _ _=>exact(cZ pa).elim
    |exc _ _ _=>exact(cY pa).elim
    |_=>cases ha'
 |succ n ih=>
  intro a b x y u v A pa pb hd ha hb ru rv hA;have hu:A.units<KS:=by omega
  have flatWay:(∀xs ys,¬(a=.tup xs/\b=.tup ys))->(∀xs ys,¬(a=.lst xs/\b=.lst ys))->EqAt A s u v (pyEq a b):=by
   intro n1 n2;cases ha':iI a with
   |some x'=>exact ih a b x y u v A pa pb (.inl (pN n ha')) ha hb ru rv `o
   |none=>
    cases hb':iI b with
    |some y'=>exact ih a b x y u v A pa pb (.inr (pN n hb')) ha hb ru rv `o
    |none=>
     cases a with
     |tup xs=>
      cases b with
      |tup ys=>exact absurd ⟨rfl,rfl⟩ (n1 xs ys)
      |lst ys=>
       rw[bB]at ha;obtain⟨p,vs,e,h1,h2⟩:=ha;subst e;rw[bC]at hb;obtain⟨p',vs',e,h1',h2'⟩:=hb;subst e;cases ru;cases rv;obtain⟨its,_,ht,_⟩:=I.tuple (kq.of h1);obtain⟨its2,_,ht2,_⟩:=I.list h1';unfold pyEq;exact .tuple_list (show s.heap.IsTuple p its.toArray from ht) ht2.isList hu
      |dct _ _=>exact(cQ pb).elim
      |obj _ _ _=>exact(cZ pb).elim
      |exc _ _ _=>exact(cY pb).elim
      |_=>cases hb'
     |lst xs=>
      cases b with
      |lst ys=>exact absurd ⟨rfl,rfl⟩ (n2 xs ys)
      |tup ys=>
       rw[bC]at ha;obtain⟨p,vs,e,h1,h2⟩:=ha;subst e;rw[bB]at hb;obtain⟨p',vs',e,h1',h2'⟩:=hb;subst e;cases ru;cases rv;obtain⟨its,_,ht,_⟩:=I.list h1;obtain⟨its2,_,ht2,_⟩:=I.tuple (kq.of h1');unfold pyEq;exact .list_tuple ht.isList (show s.heap.IsTuple p' its2.toArray from ht2) hu
      |dct _ _=>exact(cQ pb).elim
      |obj _ _ _=>exact(cZ pb).elim
      |exc _ _ _=>exact(cY pb).elim
      |_=>cases hb'
     |dct _ _=>exact(cQ pa).elim
     |obj _ _ _=>exact(cZ pa).elim
     |exc _ _ _=>exact(cY pa).elim
     |_=>cases ha'
  have items:∀(xs ys:List D)(vs vs':az)(its its':aP),kI xs=true->kI ys=true->(cM (n+1) (.tup xs)=true\/cM (n+1) (.tup ys)=true)->aF X.K H xs vs->aF X.K H ys vs'->Vals vs its->Vals vs' its'->
    ∀j (h1:j<its.toArray.size) (h2:j<its'.toArray.size),EqAt A.in1 s its.toArray[j] its'.toArray[j] (qc xs ys j):=by
   intro xs ys vs vs' its its' px py hdd hx hy rx ry j h1 h2;obtain⟨w1,e1,r1⟩:=ju rx h1;obtain⟨w2,e2,r2⟩:=ju ry h2;obtain⟨d1,f1,g1⟩:=jk hx e1;obtain⟨d2,f2,g2⟩:=jk hy e2;have e3:qc xs ys j=pyEq d1 d2:=(by unfold qc;rw[f1,f2]);rw[e3];refine ih d1 d2 w1 w2 _ _ A.in1 (gZ px _ (HI f1)) (gZ py _ (HI f2)) ?_ g1 g2 r1 r2 (by rw[in1_units];omega);rcases hdd with hdd|hdd
   ·exact .inl (List.all_eq_true.mp hdd d1 (HI f1))
   ·exact .inr (List.all_eq_true.mp hdd d2 (HI f2))
  by_cases hT:∃xs ys,a=.tup xs/\b=.tup ys
  ·obtain⟨xs,ys,rfl,rfl⟩:=hT;have da:=ha;have db:=hb;rw[bB]at ha hb;obtain⟨p,vs,e,h1,h2⟩:=ha;subst e;obtain⟨p',vs',e,h1',h2'⟩:=hb;subst e;cases ru;cases rv;by_cases hp:p=p'
   ·subst hp;have e:=Inv.den_inj I pa pb da db;rw[e,eN];exact EqAt.same _
   ·obtain⟨its,rv1,ht,_⟩:=I.tuple (kq.of h1);obtain⟨its2,rv2,ht2,_⟩:=I.tuple (kq.of h1');refine EqAt.of_refs hp ?_;have q:=RcAt.tuples (e:=qc xs ys) (show s.heap.IsTuple p its.toArray from ht) (show s.heap.IsTuple p' its2.toArray from ht2) hu (items xs ys vs vs' its its2 (by first|rw[<-cc];exact pa|rw[<-cm];exact pa) (by first|rw[<-cc];exact pb|rw[<-cm];exact pb) hd h2 h2' rv1 rv2);have z1:its.toArray.size=xs.length:=(by rw[Hu,<-rv1.length,<-h2.length]);have z2:its2.toArray.size=ys.length:=(by rw[Hu,<-rv2.length,<-h2'.length]);rw[z1,z2,dj]at q;unfold pyEq;exact q
  ·by_cases hL:∃xs ys,a=.lst xs/\b=.lst ys
   ·obtain⟨xs,ys,rfl,rfl⟩:=hL;have da:=ha;have db:=hb;rw[bC]at ha hb;obtain⟨p,vs,e,h1,h2⟩:=ha;subst e;obtain⟨p',vs',e,h1',h2'⟩:=hb;subst e;cases ru;cases rv;by_cases hp:p=p'
    ·subst hp;have e:=Inv.den_inj I pa pb da db;rw[e,eN];exact EqAt.same _
    ·obtain⟨its,rv1,ht,_⟩:=I.list h1;obtain⟨its2,rv2,ht2,_⟩:=I.list h1';refine EqAt.of_refs hp ?_;have z1:its.toArray.size=xs.length:=(by rw[Hu,<-rv1.length,<-h2.length]);have z2:its2.toArray.size=ys.length:=(by rw[Hu,<-rv2.length,<-h2'.length]);have er:=dj xs ys;by_cases hz:its.toArray.size=its2.toArray.size
     ·have q:=RcAt.lists (e:=qc xs ys) ht.isList ht2.isList hz hu (items xs ys vs vs' its its2 (by first|rw[<-cc];exact pa|rw[<-cm];exact pa) (by first|rw[<-cc];exact pb|rw[<-cm];exact pb) hd h2 h2' rv1 rv2);rw[z1]at q;have hz':xs.length=ys.length:=(by omega);rw[<-hz',Ij]at er;simp only[beq_self_eq_true,Ik]at er;rw[er]at q;unfold pyEq;exact q
     ·have hne:(its.toArray.size !=its2.toArray.size)=true:=(by simpa using hz);have q:=RcAt.lists_lengths (A:=A) ht.isList ht2.isList hne hu;have hz':(xs.length==ys.length)=false:=by
       rw[z1,z2]at hz
       simpa using hz
      rw[hz',Il]at er;unfold pyEq;rw[<-er];exact q
   ·exact flatWay (λxs ys z=>hT ⟨xs,ys,z⟩) λxs ys z=>hL ⟨xs,ys,z⟩
end
end TG
namespace TG
open PySem PySem.Spec L2
variable[aj]
open PySem.SeqAt (EqAt RcAt RcNeAt)
section
variable{X:Cx}{pins:aK}{σ:St}{H:Hp}{s:Kh}
theorem kY(I:`g){n:Nat}{xs ys:List D}{vs vs':az}{its its':aP}{A:Kp}(px:kI xs=true)(py:kI ys=true)(hdd:cM (n+1) (.tup xs)=true\/cM (n+1) (.tup ys)=true)(hx:aF X.K H xs vs)(hy:aF X.K H ys vs')(rx:Vals vs its)(ry:Vals vs' its')(hA:A.units+n<KS):
  ∀j (h1:j<its.toArray.size) (h2:j<its'.toArray.size),EqAt A s its.toArray[j] its'.toArray[j] (qc xs ys j):=by
 intro j h1 h2;obtain⟨w1,e1,r1⟩:=ju rx h1;obtain⟨w2,e2,r2⟩:=ju ry h2;obtain⟨d1,f1,g1⟩:=jk hx e1;obtain⟨d2,f2,g2⟩:=jk hy e2;have e3:qc xs ys j=pyEq d1 d2:=by unfold qc;rw[f1,f2]
 rw[e3];refine qq I n d1 d2 w1 w2 _ _ A (gZ px _ (HI f1)) (gZ py _ (HI f2)) ?_ g1 g2 r1 r2 hA;rcases hdd with hdd|hdd
 ·exact .inl (List.all_eq_true.mp hdd d1 (HI f1))
 ·exact .inr (List.all_eq_true.mp hdd d2 (HI f2))
inductive Way(I:`g):D->Kc->Prop where
 |non:Way I .non .none
 |bl (b:Bool):Way I (.bl b) (.bool b)
 |int (i:Int) (t:Tok):Way I (.int i) (.int i t)
 |str (x:Str) (t:Tok):Way I (.str x) (.str x t)
 |tup {xs:List D} {p:Ke} {vs:az} {its:aP} (h:aF X.K H xs vs) (r:Vals vs its) (t:s.heap.IsTuple p its.toArray):Way I (.tup xs) (.ref p)
 |lst {xs:List D} {p:Ke} {vs:az} {its:aP} (h:aF X.K H xs vs) (r:Vals vs its) (t:s.heap.IsList p its.toArray):Way I (.lst xs) (.ref p)
noncomputable def top:D->Bool
 |.dct _ _=>false
 |.obj _ _ _=>false
 |.exc _ _ _=>false
 |_=>true
theorem cK{d:D}(h:pl d=true):top d=true:=by
 cases d with
 |dct _ _=>exact(cQ h).elim
 |obj _ _ _=>exact(cZ h).elim
 |exc _ _ _=>exact(cY h).elim
 |_=>rfl
theorem cw(I:`g){d:D}{v:V}{u:Kc}(pd:top d=true)(h:bp X.K H d v)(r:RelV v u):Way I d u:=by
 cases d with
 |non=>rw[fW]at h;subst h;cases r;exact .non
 |bl b=>rw[gD]at h;subst h;cases r;exact .bl b
 |int i=>rw[dP]at h;subst h;obtain⟨t,rfl⟩:=r;exact .int i t
 |str x=>rw[dq]at h;subst h;obtain⟨t,rfl⟩:=r;exact .str x t
 |tup xs=>
  rw[bB]at h;obtain⟨p,vs,e,h1,h2⟩:=h;subst e;cases r;obtain⟨its,rv,ht,_⟩:=I.tuple (kq.of h1);exact .tup h2 rv ht
 |lst xs=>
  rw[bC]at h;obtain⟨p,vs,e,h1,h2⟩:=h;subst e;cases r;obtain⟨its,rv,ht,_⟩:=I.list h1;exact .lst h2 rv ht.isList
 |dct _ _=>cases pd
 |obj _ _ _=>cases pd
 |exc _ _ _=>cases pd
theorem Ac(I:`g){n:Nat}{a b:D}{x y:V}{u v:Kc}{A:Kp}(pa:pl a=true)(pb:pl b=true)(hd:cM (n+1) a=true\/cM (n+1) b=true)(ha:bp X.K H a x)(hb:bp X.K H b y)(ru:RelV x u)(rv:RelV y v)(hA:A.units+n+1<KS):RcAt A s u v (pyEq a b):=by
 have hu:A.units<KS:=by omega
 cases cw I (cK pa) ha ru with
 |non=>cases cw I (cK pb) hb rv with
  |non=>unfold pyEq;exact .none_none
  |bl b=>unfold pyEq;exact .none_bool b
  |int i t=>unfold pyEq;exact .none_int i t
  |str x t=>unfold pyEq;exact .none_str x t
  |tup h r t=>unfold pyEq;exact .none_tuple t hu
  |lst h r t=>unfold pyEq;exact .none_list t hu
 |bl z=>cases cw I (cK pb) hb rv with
  |non=>unfold pyEq;exact .bool_none z
  |bl b=>unfold pyEq;exact .bool_bool z b
  |int i t=>unfold pyEq;exact .bool_int z i t
  |str x t=>unfold pyEq;exact .bool_str z x t
  |tup h r t=>unfold pyEq;exact .bool_tuple z t hu
  |lst h r t=>unfold pyEq;exact .bool_list z t hu
 |int z tz=>cases cw I (cK pb) hb rv with
  |non=>unfold pyEq;exact .int_none z tz
  |bl b=>unfold pyEq;exact .int_bool z tz b
  |int i t=>unfold pyEq;exact .int_int z tz i t
  |str x t=>unfold pyEq;exact .int_str z tz x t
  |tup h r t=>unfold pyEq;exact .int_tuple z tz t hu
  |lst h r t=>unfold pyEq;exact .int_list z tz t hu
 |str z tz=>cases cw I (cK pb) hb rv with
  |non=>unfold pyEq;exact .str_none z tz
  |bl b=>unfold pyEq;exact .str_bool z tz b
  |int i t=>unfold pyEq;exact .str_int z tz i t
  |str x t=>unfold pyEq;exact .str_str z tz x t
  |tup h r t=>unfold pyEq;exact .str_tuple z tz t hu
  |lst h r t=>unfold pyEq;exact .str_list z tz t hu
 |@tup xs p vs its h1 r1 t1=>cases cw I (cK pb) hb rv with
  |non=>unfold pyEq;exact .tuple_none t1 hu
  |bl b=>unfold pyEq;exact .tuple_bool b t1 hu
  |int i t=>unfold pyEq;exact .tuple_int i t t1 hu
  |str x t=>unfold pyEq;exact .tuple_str x t t1 hu
  |@tup ys p' vs' its' h2 r2 t2=>
   have q:=RcAt.tuples (e:=qc xs ys) t1 t2 hu (kY (A:=A.in1) I (by first|rw[<-cc];exact pa|rw[<-cm];exact pa) (by first|rw[<-cc];exact pb|rw[<-cm];exact pb) hd h1 h2 r1 r2 (by rw[in1_units];omega));have z1:its.toArray.size=xs.length:=(by rw[Hu,<-r1.length,<-h1.length]);have z2:its'.toArray.size=ys.length:=(by rw[Hu,<-r2.length,<-h2.length]);rw[z1,z2,dj]at q;unfold pyEq;exact q
  |lst h r t=>unfold pyEq;exact .tuple_list t1 t hu
 |@lst xs p vs its h1 r1 t1=>cases cw I (cK pb) hb rv with
  |non=>unfold pyEq;exact .list_none t1 hu
  |bl b=>unfold pyEq;exact .list_bool b t1 hu
  |int i t=>unfold pyEq;exact .list_int i t t1 hu
  |str x t=>unfold pyEq;exact .list_str x t t1 hu
  |tup h r t=>unfold pyEq;exact .list_tuple t1 t hu
  |@lst ys p' vs' its' h2 r2 t2=>
   have z1:its.toArray.size=xs.length:=(by rw[Hu,<-r1.length,<-h1.length]);have z2:its'.toArray.size=ys.length:=(by rw[Hu,<-r2.length,<-h2.length]);have er:=dj xs ys;by_cases hz:its.toArray.size=its'.toArray.size
   ·have q:=RcAt.lists (e:=qc xs ys) t1 t2 hz hu (kY (A:=A.in1) I (by first|rw[<-cc];exact pa|rw[<-cm];exact pa) (by first|rw[<-cc];exact pb|rw[<-cm];exact pb) hd h1 h2 r1 r2 (by rw[in1_units];omega));rw[z1]at q;have hz':xs.length=ys.length:=(by omega);rw[<-hz',Ij]at er;simp only[beq_self_eq_true,Ik]at er;rw[er]at q;unfold pyEq;exact q
   ·have q:=RcAt.lists_lengths (A:=A) t1 t2 (by simpa using hz) hu;have hz':(xs.length==ys.length)=false:=by
     rw[z1,z2]at hz
     simpa using hz
    rw[hz',Il]at er;unfold pyEq;rw[<-er];exact q
theorem vd(I:`g){n:Nat}{a b:D}{x y:V}{u v:Kc}{A:Kp}(pa:pl a=true)(pb:pl b=true)(hd:cM (n+1) a=true\/cM (n+1) b=true)(ha:bp X.K H a x)(hb:bp X.K H b y)(ru:RelV x u)(rv:RelV y v)(hA:A.units+n+1<KS):RcNeAt A s u v (!pyEq a b):=by
 have hu:A.units<KS:=by omega
 cases cw I (cK pa) ha ru with
 |non=>cases cw I (cK pb) hb rv with
  |non=>unfold pyEq;exact .none_none
  |bl b=>unfold pyEq;exact .none_bool b
  |int i t=>unfold pyEq;exact .none_int i t
  |str x t=>unfold pyEq;exact .none_str x t
  |tup h r t=>unfold pyEq;exact .none_tuple t hu
  |lst h r t=>unfold pyEq;exact .none_list t hu
 |bl z=>cases cw I (cK pb) hb rv with
  |non=>unfold pyEq;exact .bool_none z
  |bl b=>unfold pyEq;exact .bool_bool z b
  |int i t=>unfold pyEq;exact .bool_int z i t
  |str x t=>unfold pyEq;exact .bool_str z x t
  |tup h r t=>unfold pyEq;exact .bool_tuple z t hu
  |lst h r t=>unfold pyEq;exact .bool_list z t hu
 |int z tz=>cases cw I (cK pb) hb rv with
  |non=>unfold pyEq;exact .int_none z tz
  |bl b=>unfold pyEq;exact .int_bool z tz b
  |int i t=>unfold pyEq;exact .int_int z tz i t
  |str x t=>unfold pyEq;exact .int_str z tz x t
  |tup h r t=>unfold pyEq;exact .int_tuple z tz t hu
  |lst h r t=>unfold pyEq;exact .int_list z tz t hu
 |str z tz=>cases cw I (cK pb) hb rv with
  |non=>unfold pyEq;exact .str_none z tz
  |bl b=>unfold pyEq;exact .str_bool z tz b
  |int i t=>unfold pyEq;exact .str_int z tz i t
  |str x t=>unfold pyEq;exact .str_str z tz x t
  |tup h r t=>unfold pyEq;exact .str_tuple z tz t hu
  |lst h r t=>unfold pyEq;exact .str_list z tz t hu
 |@tup xs p vs its h1 r1 t1=>cases cw I (cK pb) hb rv with
  |non=>unfold pyEq;exact .tuple_none t1 hu
  |bl b=>unfold pyEq;exact .tuple_bool b t1 hu
  |int i t=>unfold pyEq;exact .tuple_int i t t1 hu
  |str x t=>unfold pyEq;exact .tuple_str x t t1 hu
  |@tup ys p' vs' its' h2 r2 t2=>
   have q:=RcNeAt.tuples (e:=qc xs ys) t1 t2 hu (kY (A:=A.in1) I (by first|rw[<-cc];exact pa|rw[<-cm];exact pa) (by first|rw[<-cc];exact pb|rw[<-cm];exact pb) hd h1 h2 r1 r2 (by rw[in1_units];omega));have z1:its.toArray.size=xs.length:=(by rw[Hu,<-r1.length,<-h1.length]);have z2:its'.toArray.size=ys.length:=(by rw[Hu,<-r2.length,<-h2.length]);rw[z1,z2,dj]at q;unfold pyEq;exact q
  |lst h r t=>unfold pyEq;exact .tuple_list t1 t hu
 |@lst xs p vs its h1 r1 t1=>cases cw I (cK pb) hb rv with
  |non=>unfold pyEq;exact .list_none t1 hu
  |bl b=>unfold pyEq;exact .list_bool b t1 hu
  |int i t=>unfold pyEq;exact .list_int i t t1 hu
  |str x t=>unfold pyEq;exact .list_str x t t1 hu
  |tup h r t=>unfold pyEq;exact .list_tuple t1 t hu
  |@lst ys p' vs' its' h2 r2 t2=>
   have z1:its.toArray.size=xs.length:=(by rw[Hu,<-r1.length,<-h1.length]);have z2:its'.toArray.size=ys.length:=(by rw[Hu,<-r2.length,<-h2.length]);have er:=dj xs ys;by_cases hz:its.toArray.size=its'.toArray.size
   ·have q:=RcNeAt.lists (e:=qc xs ys) t1 t2 hz hu (kY (A:=A.in1) I (by first|rw[<-cc];exact pa|rw[<-cm];exact pa) (by first|rw[<-cc];exact pb|rw[<-cm];exact pb) hd h1 h2 r1 r2 (by rw[in1_units];omega));rw[z1]at q;have hz':xs.length=ys.length:=(by omega);rw[<-hz',Ij]at er;simp only[beq_self_eq_true,Ik]at er;rw[er]at q;unfold pyEq;exact q
   ·have q:=RcNeAt.lists_lengths (A:=A) t1 t2 (by simpa using hz) hu;have hz':(xs.length==ys.length)=false:=by
     rw[z1,z2]at hz
     simpa using hz
    rw[hz',Il]at er;unfold pyEq;rw[<-er];exact q
end
section
variable{X:Cx}
noncomputable def rD(K:Jo)(g:D->D->aV):R2:=λx y H Q=>∃O a b d,bV H O/\bp K (hid H O) a x/\bp K (hid H O) b y/\g a b=some d/\∀v H',aL H H'->bp K (hid H' O) d v->Q v H'
theorem aT{K:Jo}{g:D->D->aV}:dI K (rD K g) g:=λa b d x y O H Q hO hg ha hb q=>⟨O,a,b,d,hO,ha,hb,hg,q⟩
theorem eB{f : Kc -> Kc -> Sem Kc}{g : D -> D -> aV}(h : ∀ (pins : aK) (s : Kh) (σ : St) (H : Hp) (a b d : D) (x y : V) (u v : Kc), Inv X pins σ H s -> bp X.K H a x -> bp X.K H b y -> RelV x u -> RelV y v -> g a b = some d ->
      ∃c,d=.bl c/\∀(Q:bf),Q (.bool c) s->Kt `i X.A (f u v) Q X.xe s):iG X f (rD X.K g):=by
  rintro pins s σ H x y u v Q I rx ry ⟨O,a,b,d,hO,ha,hb,hg,q⟩;obtain⟨c,rfl,hq⟩:=h pins s σ H a b d x y u v I (ha.mono (aC H O)) (hb.mono (aC H O)) rx ry hg;exact hq _ ⟨.bl c,H,I,rfl,q _ H (aL.refl H) (gD.mpr rfl)⟩
noncomputable def uM(a b:D):aV:=if(pl a&&pl b)&&(cM 8 a||cM 8 b)then some (.bl (pyEq a b))else none
noncomputable def qJ(a b:D):aV:=if(pl a&&pl b)&&(cM 8 a||cM 8 b)then some (.bl (!pyEq a b))else none
theorem wI(hu:X.A.units+64<KS):iG X (KL .Eq) (rD X.K uM):=eB λpins s σ H a b d x y u v I ha hb ru rv hg=>by
 obtain⟨h1,h2⟩:=aW hg;subst h2;rw[HM,HM,Im]at h1;exact⟨_,rfl,λQ q=>Ac (n:=7) (A:=X.A) I h1.1.1 h1.1.2 h1.2 ha hb ru rv `o X.prog X.w X.xe Q q⟩
theorem vG(hu:X.A.units+64<KS):iG X (KL .NotEq) (rD X.K qJ):=eB λpins s σ H a b d x y u v I ha hb ru rv hg=>by
 obtain⟨h1,h2⟩:=aW hg;subst h2;rw[HM,HM,Im]at h1;exact⟨_,rfl,λQ q=>vd (n:=7) (A:=X.A) I h1.1.1 h1.1.2 h1.2 ha hb ru rv `o X.prog X.w X.xe Q q⟩
noncomputable def inD(x:D)(ys:List D):Bool:=ys.any λy=>pyEq y x
noncomputable def Bz(x y:D):aV:=match y with
 |.tup ys=>if(pl x&&kI ys)&&cM 8 x then some (.bl (inD x ys))else none
 |.lst ys=>if(pl x&&kI ys)&&cM 8 x then some (.bl (inD x ys))else none
 |_=>none
open Classical in
theorem zt{pins:aK}{σ:St}{H:Hp}{s:Kh}(I:`g){xd:D}{x:V}{u:Kc}{A:Kp}(px:pl xd=true)(hd:cM 8 xd=true)(hx:bp X.K H xd x)(ru:RelV x u)(hA:A.units+8<KS){ys:List D}{vs:az}{its:aP}(py:kI ys=true)(hy:aF X.K H ys vs)(rv:Vals vs its):
  ∃e:Kc->Bool,(∀y,y∈its.toArray->EqAt A s y u (e y))/\its.toArray.any e=inD xd ys:=by
 let e:Kc->Bool:=λy=>decide (∃d w,pl d=true/\bp X.K H d w/\RelV w y/\pyEq d xd=true)
 have he:∀d w y,pl d=true->bp X.K H d w->RelV w y->e y=pyEq d xd:=λd w y h0 h1 h2=>by
  cases hq:pyEq d xd with
  |true=>exact decide_eq_true ⟨d,w,h0,h1,h2,hq⟩
  |false=>
   refine decide_eq_false ?_;rintro⟨d',w',g0,g1,g2,g3⟩;have ew:=RelV.inj h2 g2;subst ew;rw[Inv.den_inj I h0 g0 h1 g1,g3]at hq;cases hq
 refine⟨e,λy hy'=>?_,?_⟩
 ·have hm:y∈its:=by simpa using hy'
  obtain⟨j,hj,rfl⟩:=List.getElem_of_mem hm;obtain⟨w,e1,r1⟩:=ju rv (j:=j) (by simpa using hj);obtain⟨d,f1,g1⟩:=jk hy e1;have r1':RelV w its[j]:=by simpa using r1
  have pd:=gZ py _ (HI f1);rw[he d w _ pd g1 r1'];exact qq I 8 d xd w x _ u A pd px (.inr hd) g1 hx r1' ru hA
 ·unfold inD;have go:∀(ys:List D)(vs:az)(its:aP),kI ys=true->aF X.K H ys vs->Vals vs its->its.any e=ys.any λy=>pyEq y xd:=by
   intro ys
   induction ys with
   |nil=>
    intro vs its py h r;rw[bQ]at h;subst h;cases r;rfl
   |cons y ys ih=>
    intro vs its py h r;unfold kI at py;rw[HM]at py;rw[aQ]at h;obtain⟨v,r',e1,h1,h2⟩:=h;subst e1;cases r with
    |cons q1 q2=>rw[HU,HU,he y v _ py.1 h1 q1,ih _ _ py.2 h2 q2]
  rw[List.any_toArray];exact go ys vs its py hy rv
theorem vf(hu:X.A.units+64<KS):iG X (KL .In) (rD X.K Bz):=eB λpins s σ H a b d x y u v I ha hb ru rv hg=>by
 cases b with
 |tup ys=>
  obtain⟨h1,h2⟩:=aW hg;subst h2;rw[HM,HM]at h1;rw[bB]at hb;obtain⟨p,vs,e,g1,g2⟩:=hb;subst e;cases rv;obtain⟨its,r,t,_⟩:=I.tuple (kq.of g1);obtain⟨e,he,ea⟩:=zt (A:=X.A.in1) I h1.1.1 h1.2 ha ru (by rw[in1_units];omega) h1.1.2 g2 r;exact⟨_,rfl,λQ q=>SeqAt.in_tupleAt e (show s.heap.IsTuple p its.toArray from t) he (by rw[ea];exact q)⟩
 |lst ys=>
  obtain⟨h1,h2⟩:=aW hg;subst h2;rw[HM,HM]at h1;rw[bC]at hb;obtain⟨p,vs,e,g1,g2⟩:=hb;subst e;cases rv;obtain⟨its,r,t,_⟩:=I.list g1;obtain⟨e,he,ea⟩:=zt (A:=X.A.in1) I h1.1.1 h1.2 ha ru (by rw[in1_units];omega) h1.1.2 g2 r;exact⟨_,rfl,λQ q=>SeqAt.in_listAt e t.isList he (by rw[ea];exact q)⟩
 |_=>cases hg
noncomputable def Bx(p:Int->Int->D)(a b:D):aV:=match a,b with
 |.int i,.int j=>some (p i j)
 |_,_=>none
noncomputable def G7:=Bx λi j=>.bl (decide (i<j))
noncomputable def Gr:=Bx λi j=>.bl (decide (i<=j))
noncomputable def GY:=Bx λi j=>.bl (decide (j<i))
noncomputable def GB:=Bx λi j=>.bl (decide (j<=i))
theorem qv{K:Jo}{g:Int->Int->Int}:dI K (As λi j=>.int (g i j)) (Bx λi j=>.int (g i j)):=λa b d x y O H Q hO hg ha hb q=>by
 cases a with
 |int i=>
  cases b with
  |int j=>cases hg;exact⟨i,j,dP.mp ha,dP.mp hb,q _ H (aL.refl H) (dP.mpr rfl)⟩
  |_=>cases hg
 |_=>cases hg
noncomputable def BF(c:Int->Int->Bool)(p:Int->Int->Int)(a b:D):aV:=match a,b with
 |.int i,.int j=>if c i j then some (.int (p i j))else none
 |_,_=>none
theorem ir{K:Jo}{C:Int->Int->Prop}{c:Int->Int->Bool}{g:Int->Int->Int}(hc:∀i j,c i j=true->C i j):dI K (rI C λi j=>.int (g i j)) (BF c g):=λa b d x y O H Q hO hg ha hb q=>by
 cases a with
 |int i=>
  cases b with
  |int j=>
   obtain⟨h1,h2⟩:=aW hg;subst h2;exact⟨i,j,dP.mp ha,dP.mp hb,hc i j h1,q _ H (aL.refl H) (dP.mpr rfl)⟩
  |_=>cases hg
 |_=>cases hg
noncomputable def qm:=Bx λi j=>.int (i-j)
noncomputable def oS:=BF (λi j=>decide ((-(2^64)<i/\i<2^64)\/(-(2^64)<j/\j<2^64))) (·*·)
noncomputable def zu(_ j:Int):Prop:=0<j/\j<10^200
theorem uR:iG X (KJ .FloorDiv) (rI zu λi j=>.int (i/j)):=Dp λi j _ _ _ _ _ hc q=>by
 have h1:(0:Int)<j:=hc.1;have h2:j<10^200:=hc.2;refine PyProof.Rows.floordiv_int `o (by rw[Int.fdiv_eq_ediv_of_nonneg i `o];exact q) (.inl (PyProof.noPylong_of_log2 ?_));have h3:j.natAbs<10^200:=by omega
 rw[Nat.log2_lt `o];exact Nat.lt_trans h3 (by decide +kernel)
noncomputable def fG:=BF (λ_ j=>decide (0<j/\j<10^200)) (·/·)
noncomputable def dH:=BF (λ_ j=>decide (0<j)) (·%·)
noncomputable def iz:=BF (λi j=>decide (0<=j/\j<=1000000/\i.natAbs<2^64)) λi j=>i^j.toNat
theorem AU{K:Jo}:dI K (As λi j=>.int (i-j)) qm:=qv
theorem AI{K:Jo}:dI K (rI AH λi j=>.int (i*j)) oS:=ir λi j h=>by have q:=of_decide_eq_true h;exact q
theorem Ai{K:Jo}:dI K (rI zu λi j=>.int (i/j)) fG:=ir λi j h=>by have q:=of_decide_eq_true h;exact q
theorem AX{K:Jo}:dI K (rI (λ_ j=>0<j) λi j=>.int (i%j)) dH:=ir λ_ _ h=>of_decide_eq_true h
theorem A9{K:Jo}:dI K (rI B5 λi j=>.int (i^j.toNat)) iz:=ir λi j h=>by have q:=of_decide_eq_true h;exact q
noncomputable def Ci(K:Jo):R2:=λx y H Q=>∃l b xs zs,x=.ref l/\y=.ref b/\iW K H l xs/\iW K H b zs/\xs.length+zs.length<=Km/\∀p,H p=none->Q (.ref p) (upd H p (.lst (xs++zs)))
theorem yX:iG X (KJ .Add) (Ci X.K):=by
 intro pins s σ H x y v u Q I rx ry h;obtain⟨l,b,xs,zs,rfl,rfl,hH,hB,hz,q⟩:=h;cases rx;cases ry;obtain⟨its,r,t1,_⟩:=I.list hH;obtain⟨its2,r2,t2,_⟩:=I.list hB;obtain⟨⟨c1,d1,dt1,sl1⟩,n1,ho,hc,hd,hdt⟩:=t1;obtain⟨⟨c2,d2,dt2,sl2⟩,n2,ho2,hc2,hd2,hdt2⟩:=t2;simp only at hc hd hdt hc2 hd2 hdt2;subst hc hd hdt hc2 hd2 hdt2;have z1:=r.length;have z2:=r2.length;refine K2 ⟨_,ho,rfl⟩ ⟨_,ho2,rfl⟩ noFill_list_add seq_list_add F.slot_list_add F.entry_list_add (F.args_list_add_2 _ _) (PyProof.Rows.list_addW l b its.toArray its2.toArray n1 n2 none none sl1 sl2 (by rw[Hu,Hu];omega)) ⟨ho,ho2,?_⟩;have ea:its.toArray++its2.toArray=(its++its2).toArray:=by simp
 rw[ea];exact⟨.ref _,_,I.lnew (t':=s.toks) (r.append r2) (by rw[HJ];omega),rfl,q _ I.fresh⟩
noncomputable def A3(K:Jo):R2:=λx y H Q=>∃a b xs ys,x=.ref a/\y=.ref b/\kq K H a xs/\kq K H b ys/\xs.length+ys.length<=Km/\
 (xs=[]->Q (.ref b) H)/\(xs≠[]->ys=[]->Q (.ref a) H)/\(xs≠[]->ys≠[]->∀p,H p=none->Q (.ref p) (upd H p (.tup (xs++ys))))
theorem uZ:iG X (KJ .Add) (A3 X.K):=by
 intro pins s σ H x y v u Q I rx ry h;obtain⟨a,b,xs,ys,ex,ey,ha,hb,hz,q0,q1,q2⟩:=h;by_cases hx:xs=[]
 ·subst ex ey;cases rx;cases ry;obtain⟨its,r1,p1,_⟩:=I.tuple ha;obtain⟨its2,r2,p2,_⟩:=I.tuple hb;obtain⟨⟨cls,dd,data,sl⟩,ho,hc,n,hd⟩:=id p1;obtain⟨⟨cls2,dd2,data2,sl2⟩,ho2,hc2,n2,hd2⟩:=id p2;simp only at hc hd hc2 hd2;subst hc hd hc2 hd2;have e:its=[]:=r1.nil_iff.mpr hx;exact K2 ⟨_,ho,rfl⟩ ⟨_,ho2,rfl⟩ K3 K4 F.slot_tuple_add F.entry_tuple_add (F.args_tuple_add_2 _ _)
   (PyProof.Rows.tuple_addW0 a b its.toArray its2.toArray n n2 dd dd2 sl sl2 (by rw[e];rfl)) ⟨ho,ho2,⟨.ref b,H,I,rfl,q0 hx⟩⟩
 ·exact x6 pins s σ H x y v u Q I rx ry ⟨a,b,xs,ys,ex,ey,ha,hb,hx,hz,q1 hx,q2 hx⟩
noncomputable def bX(a b:D):aV:=match a,b with
 |.int i,.int j=>some (.int (i+j))
 |.str x,.str y=>if small (x.length+y.length)then some (.str (x++y))else none
 |.lst xs,.lst ys=>if small (xs.length+ys.length)then some (.lst (xs++ys))else none
 |.tup xs,.tup ys=>if small (xs.length+ys.length)then some (.tup (xs++ys))else none
 |_,_=>none
theorem yj:iG X (KJ .Add) (rD X.K bX):=by
 rintro pins s σ H x y u v Q I rx ry ⟨O,a,b,d,hO,ha,hb,hg,q⟩;cases a with
 |int i=>
  cases b with
  |int j=>
   cases hg;exact Bl pins s σ H x y u v Q I rx ry ⟨i,j,dP.mp ha,dP.mp hb,q _ H (aL.refl H) (dP.mpr rfl)⟩
  |_=>cases hg
 |str i=>
  cases b with
  |str j=>
   obtain⟨h1,h2⟩:=aW hg;subst h2;exact qt pins s σ H x y u v Q I rx ry ⟨i,j,dq.mp ha,dq.mp hb,bU h1,q _ H (aL.refl H) (dq.mpr rfl)⟩
  |_=>cases hg
 |lst xs=>
  cases b with
  |lst ys=>
   obtain⟨h1,h2⟩:=aW hg;subst h2;rw[bC]at ha hb;obtain⟨p,vs,ex,g1,g2⟩:=ha;obtain⟨p',vs',ey,g1',g2'⟩:=hb;refine yX pins s σ H x y u v Q I rx ry ⟨p,p',vs,vs',ex,ey,(aC H O).seq g1,(aC H O).seq g1',?_,λr hr=>?_⟩
   ·rw[<-g2.length,<-g2'.length];exact bU h1
   ·exact q _ _ (bM hr _) (dB hO hr (g2.append g2'))
  |_=>cases hg
 |tup xs=>
  cases b with
  |tup ys=>
   obtain⟨h1,h2⟩:=aW hg;subst h2;have da:=ha;have db:=hb;rw[bB]at ha hb;obtain⟨p,vs,ex,g1,g2⟩:=ha;obtain⟨p',vs',ey,g1',g2'⟩:=hb;have l1:=g2.length;have l2:=g2'.length;refine uZ pins s σ H x y u v Q I rx ry ⟨p,p',vs,vs',ex,ey,bJ (aC H O) g1,bJ (aC H O) g1',?_,λz=>?_,λz z'=>?_,λz z' r hr=>?_⟩
   ·rw[<-l1,<-l2];exact bU h1
   ·have e:xs=[]:=List.length_eq_zero_iff.mp (by rw[l1,z];rfl);rw[<-ey];refine q _ H (aL.refl H) ?_;rw[e,Io];exact db
   ·have e:ys=[]:=List.length_eq_zero_iff.mp (by rw[l2,z'];rfl);rw[<-ex];refine q _ H (aL.refl H) ?_;rw[e,HB];exact da
   ·exact q _ _ (bM hr _) (dz hO hr (g2.append g2'))
  |_=>cases hg
 |_=>cases hg
noncomputable def aI(a b:D):aV:=match a,b with
 |.tup xs,.int i=>jI xs i
 |.lst xs,.int i=>jI xs i
 |.str x,.int i=>if small x.length then(jI x.cps.toList i).bind λc=>some (.str ⟨#[c]⟩)else none
 |_,_=>none
theorem sB{K:Jo}{H:Hp}{ds:List D}{vs:az}{i:Int}{d:D}(h:aF K H ds vs)(e:jI ds i=some d):∃v,jI vs i=some v/\bp K H d v:=by
 unfold jI at e ⊢;obtain⟨j,e1,e2⟩:=bind_some e;rw[<-h.length,e1];exact h.get e2
theorem El:Cq X (rD X.K aI):=by
 rintro value slice pins s σ H x y u v Q I rx ry ⟨O,a,b,d,hO,ha,hb,hg,q⟩ hsub;cases a with
 |tup xs=>
  cases b with
  |int i=>
   rw[bB]at ha;obtain⟨p,vs,ex,g1,g2⟩:=ha;obtain⟨w,e1,e2⟩:=sB g2 hg;refine Am value slice pins s σ H x y u v Q I rx ry ?_ hsub;exact⟨p,vs,i,w,ex,dP.mp hb,bJ (aC H O) g1,e1,q w H (aL.refl H) e2⟩
  |_=>cases hg
 |lst xs=>
  cases b with
  |int i=>
   rw[bC]at ha;obtain⟨p,vs,ex,g1,g2⟩:=ha;obtain⟨w,e1,e2⟩:=sB g2 hg;refine yt value slice pins s σ H x y u v Q I rx ry ?_ hsub;exact⟨p,vs,i,w,ex,dP.mp hb,(aC H O).seq g1,e1,q w H (aL.refl H) e2⟩
  |_=>cases hg
 |str z=>
  cases b with
  |int i=>
   have hg':(if small z.length then(jI z.cps.toList i).bind λc=>some (D.str ⟨#[c]⟩)else none)=some d:=hg;cases hs:small z.length with
   |false=>rw[hs]at hg';cases hg'
   |true=>
    rw[hs]at hg';obtain⟨c,e1,e2⟩:=bind_some hg';cases e2;refine z7 value slice pins s σ H x y u v Q I rx ry ?_ hsub;exact⟨z,i,c,dq.mp ha,dP.mp hb,bU hs,e1,q _ H (aL.refl H) (dq.mpr rfl)⟩
  |_=>cases hg
 |_=>cases hg
noncomputable def cutD{α:Type}(xs:List α)(lo hi:bn):List α:=(xs.drop (HT.sIx xs.length 0 lo)).take (HT.sIx xs.length xs.length hi-HT.sIx xs.length 0 lo)
theorem pD{α:Type}(xs:List α)(lo hi:bn):(cutD xs lo hi).length<=xs.length:=by
 unfold cutD;rw[HD,HL];omega
theorem mC{M:Kr}{A:Kp}{E:bf}{s:Kh}{t:Ke}{items:Array Kc}{Q:Bool->gq}(ht:J6 s.heap t items)(h:Q true s):Kt M A (Builtin.Tuple.tupleIsExact (.ref t)) Q E s:=by
 unfold Builtin.Tuple.tupleIsExact;refine Ky (wpAny_typeOf ht.typeIs ?_);exact KC h
theorem iB{prog:Kj}{w:Ki}{A:Kp}{E:bf}{s:Kh}{t sl:Ke}{items:Array Kc}{vl vu:Kc}{lo hi:bn}{Q:bf}(ht:J6 s.heap t items)(hs:s.heap.IsSliceOf sl vl vu .none)(pl:K5 vl lo)(pu:K5 vu hi)
  (hw:HT.sIx items.size 0 lo=0/\HT.sIx items.size items.size hi=items.size) (h:Q (.ref t) s):Kt `j A (getItem (.ref t) (.ref sl)) Q E s:=by
 obtain⟨os,hos,hcs,hds⟩:=id hs;have hTs:s.TypeIs (.ref sl) "slice":=⟨os,hos,hcs⟩
 unfold getItem
 try with_reducible refine Kz ?_
 first|refine Ky (KC ?_)|skip
 refine Ky (wpAny_sequenceKey ht.typeIs (by decide) ?_);refine Ky (K8 (name:=Str.ofString "__getitem__") ht.typeIs J4
  (K9 J4 ht.typeIs PyProof.Rows.entry_tuple_getitem ?_ (PyProof.Rows.args_tuple_getitem _ _)))
 show Kt _ _ (Builtin.Tuple.tupleItemsOf (.ref t) >>= _) _ _ s;refine Ky (PyProof.Rows.tupleItemsOf_ ht ?_);refine Ky (wpAny_typeOf hTs ?_);rw[if_pos (by decide)];refine Ky (HT.j8 hs pl pu ?_);have hyes:(((HT.sIx items.size 0 lo:Nat):Int)==0&&(1:Int)==1&&(HT.sIx items.size items.size hi-HT.sIx items.size 0 lo)==items.size)=true:=by
  rw[hw.1,hw.2];simp
 show Kt _ _ (if(((HT.sIx items.size 0 lo:Nat):Int)==0&&(1:Int)==1&&(HT.sIx items.size items.size hi-HT.sIx items.size 0 lo)==items.size)=true then _ else _) _ _ s;rw[if_pos hyes];refine Ky (mC ht ?_);rw[if_pos rfl]
 first
  |exact Ky (wpAny_rule (KC ⟨_,rfl,KC h⟩))
  |exact Ky (wpAny_rule (Ky (KC (KC ⟨_,rfl,KC h⟩))))
noncomputable def lS(a:D)(lo hi:bn):aV:=match a with
 |.lst xs=>some (.lst (cutD xs lo hi))
 |.tup xs=>some (.tup (cutD xs lo hi))
 |.str x=>if small x.length then some (.str ⟨(cutD x.cps.toList lo hi).toArray⟩)else none
 |_=>none
theorem zm(v:bn)(d n:Nat)(hd:d<=n):(match v with|none=>(d:Int)|some i=>if(1:Int)>0 then max 0 (min (if i<0 then i+(n:Int)else i) (n:Int))else max (-1) (min (if i<0 then i+(n:Int)else i) ((n:Int)-1)))=((HT.sIx n d v:Nat):Int):=by
 cases v with
 |none=>rfl
 |some i=>
  show(if(1:Int)>0 then max 0 (min (if i<0 then i+(n:Int)else i) (n:Int))else max (-1) (min (if i<0 then i+(n:Int)else i) ((n:Int)-1)))=(((if i<0 then(i+(n:Int)).toNat else min i.toNat n):Nat):Int)
  rw[if_pos (by decide)];by_cases h:i<0
  ·rw[if_pos h,if_pos h];omega
  ·rw[if_neg h,if_neg h];omega
theorem v6(lo hi:bn)(n:Nat):Builtin.Str.strSliceIndices lo hi 1 n=(List.range (HT.sIx n n hi-HT.sIx n 0 lo)).map λk=>HT.sIx n 0 lo+k:=by
 have e1:=zm lo 0 n (HA _);have e2:=zm hi n n (Hs _);have e:Builtin.Str.strSliceIndices lo hi 1 n=sliceRange ((HT.sIx n 0 lo:Nat):Int) ((HT.sIx n n hi:Nat):Int) 1:=by
  rw[<-e1,<-e2];cases lo<;>cases hi<;>rfl
 rw[e];unfold sliceRange;dsimp only;rw[if_pos (by decide:(1:Int)>0)];have e3:(if((HT.sIx n 0 lo:Nat):Int)<((HT.sIx n n hi:Nat):Int)then(((HT.sIx n n hi:Nat):Int)-((HT.sIx n 0 lo:Nat):Int)+1-1)/1 else 0:Int).toNat=HT.sIx n n hi-HT.sIx n 0 lo:=by
  rw[Int.ediv_one];split<;>omega
 rw[e3];refine Ip λk _=>?_;omega
theorem vM{α:Type}(l:List α)(a:Nat):∀n:Nat,((List.range n).map λk=>a+k).filterMap (λi=>l[i]?)=(l.drop a).take n
 |0=>by simp
 |n+1=>by
  rw[List.range_succ,Iq,List.filterMap_append,vM l a n,List.take_add_one,List.getElem?_drop];cases e:l[a+n]?<;>simp[e]
theorem uL(x:Str)(lo hi:bn):Txt.slice x lo hi=⟨(cutD x.cps.toList lo hi).toArray⟩:=by
 have hl:x.cps.toList.length=x.length:=by simp[Str.length]
 have pick:(Builtin.Str.strSliceIndices lo hi 1 x.length).filterMap (x.cps[·]?)=cutD x.cps.toList lo hi:=by
  rw[v6];have q:=vM x.cps.toList (HT.sIx x.length 0 lo) (HT.sIx x.length x.length hi-HT.sIx x.length 0 lo);unfold cutD;rw[hl,<-q];congr 1;funext i;simp
 unfold Txt.slice;split
 ·rename_i h;have h':(Builtin.Str.strSliceIndices lo hi 1 x.length).length=x.length:=by simpa using h
  rw[v6,Hy,Ir]at h';have h1:=HT.AO x.length x.length (Hs _) hi;have z1:HT.sIx x.length 0 lo=0\/x.length=0:=by omega
  have e:cutD x.cps.toList lo hi=x.cps.toList:=by
   unfold cutD;rw[hl,h'];rcases z1 with z1|z1
   ·rw[z1,Ic,<-hl,List.take_length]
   ·have:x.cps.toList=[]:=List.length_eq_zero_iff.mp (by rw[hl];exact z1)
    rw[this];simp
  rw[e]
 ·rw[pick]
noncomputable def Ej(K:Jo):V->bn->bn->Hp->VK->Prop:=λx lo hi H Q=>∃O a d,bV H O/\bp K (hid H O) a x/\lS a lo hi=some d/\∀v H',aL H H'->bp K (hid H' O) d v->Q v H'
theorem aF.cut{K:Jo}{H:Hp}{ds:List D}{vs:az}(h:aF K H ds vs)(lo hi:bn):aF K H (cutD ds lo hi) (oW vs lo hi):=by
 unfold cutD oW;rw[h.length];exact(h.drop _).take _
theorem EZ:Dw X (Ej X.K):=by
 rintro pins s σ H x v vl vu lo hi sl Q I rx hs pl pu ⟨O,a,d,hO,ha,hg,q⟩;cases a with
 |lst xs=>
  cases hg;rw[bC]at ha;obtain⟨p,vs,ex,g1,g2⟩:=ha;exact yc pins s σ H x v vl vu lo hi sl Q I rx hs pl pu ⟨p,vs,ex,(aC H O).seq g1,λr hr=>q _ _ (bM hr _) (dB hO hr (g2.cut lo hi))⟩
 |tup xs=>
  cases hg;have da:=ha;rw[bB]at ha;obtain⟨p,vs,ex,g1,g2⟩:=ha;by_cases hw:HT.sIx vs.length 0 lo=0/\HT.sIx vs.length vs.length hi=vs.length
  ·subst ex;cases rx;obtain⟨its,r,ht,hz⟩:=I.tuple (bJ (aC H O) g1);have hlen:its.toArray.size=vs.length:=(by rw[Hu];exact r.length.symm);refine⟨"tuple",_,PyProof.Rows.slot_tuple_getitem.lookup,ht.typeIs,iB ht hs pl pu (by rw[hlen];exact hw) ⟨.ref p,H,I,rfl,q _ H (aL.refl H) ?_⟩⟩;have e:cutD xs lo hi=xs:=by
    unfold cutD;rw[g2.length,hw.1,hw.2,Iu,Ic,<-g2.length,List.take_length]
   rw[e];exact da
  ·exact Bs pins s σ H x v vl vu lo hi sl Q I rx hs pl pu ⟨p,vs,ex,bJ (aC H O) g1,hw,λr hr=>q _ _ (bM hr _) (dz hO hr (g2.cut lo hi))⟩
 |str z=>
  obtain⟨h1,h2⟩:=aW hg;subst h2;rw[dq]at ha;subst ha;obtain⟨t,rfl⟩:=rx;have fin:∀t' tk,EP X pins σ Q (.str (Txt.slice z lo hi) t') {s with toks:=tk}:=λt' tk=>by
   rw[uL];exact⟨.str _,H,I.tok _,⟨_,rfl⟩,q _ H (aL.refl H) (dq.mpr rfl)⟩
  obtain⟨os,hos,hcs,hds⟩:=id hs;have hz:=bU h1;refine⟨"str",_,F.slot_str_getitem.lookup,typeIs_str _ _ _,?_⟩;cases pl with
  |none=>
   cases pu with
   |none=>exact Lg (l:=none) (u:=none) (st:=none) ⟨os,hos,hcs,hds⟩ rfl (Lh ⟨Hg (Txt.slice_le z _ _) hz,λt' k=>fin t' k⟩)
   |int j tj=>exact Lg (l:=none) (u:=some (j,tj)) (st:=none) ⟨os,hos,hcs,hds⟩ rfl (Lh ⟨Hg (Txt.slice_le z _ _) hz,λt' k=>fin t' k⟩)
  |int i ti=>
   cases pu with
   |none=>exact Lg (l:=some (i,ti)) (u:=none) (st:=none) ⟨os,hos,hcs,hds⟩ rfl (Lh ⟨Hg (Txt.slice_le z _ _) hz,λt' k=>fin t' k⟩)
   |int j tj=>exact Lg (l:=some (i,ti)) (u:=some (j,tj)) (st:=none) ⟨os,hos,hcs,hds⟩ rfl (Lh ⟨Hg (Txt.slice_le z _ _) hz,λt' k=>fin t' k⟩)
 |_=>cases hg
noncomputable def iX:ai->R (bn):=λ_=>.ok none
noncomputable def qC:D->Option (bn)
 |.int i=>some (some i)
 |_=>none
noncomputable def ce(f:FX):ai->R (bn):=λρ=>(f ρ).bind λd=>rO (qC d)
noncomputable def GH(X:Cx)(F:ai->R bn):TO:=λσ H Q=>∃O ρ,b8 X.K O H ρ σ/\cR X σ O H (F ρ) λo=>∀H',aL H H'->Q o H'
noncomputable def FO(X:Cx)(e:Option Kf)(F:ai->R bn):Prop:=PO X e (GH X F)
noncomputable def gv(f:FX)(l h:ai->R bn):FX:=λρ=>(f ρ).bind λa=>(l ρ).bind λlo=>(h ρ).bind λhi=>rO (lS a lo hi)
end
end TG
namespace TG
open PySem PySem.Spec L2
variable[aj]
noncomputable def Az(K:Jo)(g:List D->aV):az->Hp->VK->Prop:=λxs H Q=>∃O ds d,bV H O/\aF K (hid H O) ds xs/\g ds=some d/\∀v H',aL H H'->bp K (hid H' O) d v->Q v H'
theorem lK{K:Jo}{g:List D->aV}:sC K (Az K g) g:=λds d xs O H Q hO hg hd q=>⟨O,ds,d,hO,hd,hg,q⟩
section
variable{X:Cx}{x:Str}{p pos:Pos}{e:Kf}{es:aX}{id T:String}{g:List D->aV}{f:aH}
noncomputable def og:List D->aV
 |[.lst xs]=>some (.int xs.length)
 |[.tup xs]=>some (.int xs.length)
 |[.str x]=>if small x.length then some (.int x.length)else none
 |_=>none
theorem ue:dA X (.builtin "len") (Az X.K og):=by
 rintro pins s σ H xs us Q I r ⟨O,ds,d,hO,hd,hg,q⟩;unfold og at hg;split at hg
 ·rename_i ys;cases hg;obtain⟨v,ev,h1⟩:=hd.one;rw[bC]at h1;obtain⟨p,vs,ep,g1,g2⟩:=h1;exact jn pins s σ H xs us Q I r ⟨p,vs,by rw[ev,ep],.inl ((aC H O).seq g1),q _ H (aL.refl H) (dP.mpr (by rw[g2.length]))⟩
 ·rename_i ys;cases hg;obtain⟨v,ev,h1⟩:=hd.one;rw[bB]at h1;obtain⟨p,vs,ep,g1,g2⟩:=h1;exact jn pins s σ H xs us Q I r ⟨p,vs,by rw[ev,ep],.inr (bJ (aC H O) g1),q _ H (aL.refl H) (dP.mpr (by rw[g2.length]))⟩
 ·rename_i z;obtain⟨h1,h2⟩:=aW hg;subst h2;obtain⟨v,ev,h1'⟩:=hd.one;exact oG pins s σ H xs us Q I r ⟨z,by rw[ev,dq.mp h1'],bU h1,q _ H (aL.refl H) (dP.mpr rfl)⟩
 ·cases hg
noncomputable def gK:List D->aV
 |[.lst xs]=>some (.tup xs)
 |[.tup xs]=>some (.tup xs)
 |_=>none
theorem o9:dA X (.type "tuple") (Az X.K gK):=by
 rintro pins s σ H xs us Q I r ⟨O,ds,d,hO,hd,hg,q⟩;unfold gK at hg;split at hg
 ·rename_i ys;cases hg;obtain⟨v,ev,h1⟩:=hd.one;rw[bC]at h1;obtain⟨p,vs,ep,g1,g2⟩:=h1;exact iM pins s σ H xs us Q I r ⟨p,vs,by rw[ev,ep],.inl ⟨(aC H O).seq g1,λl hl=>q _ _ (bM hl _) (dz hO hl g2)⟩⟩
 ·rename_i ys;cases hg;obtain⟨v,ev,h1⟩:=hd.one;have h0:=h1;rw[bB]at h1;obtain⟨p,vs,ep,g1,g2⟩:=h1;rw[ep]at h0;exact iM pins s σ H xs us Q I r ⟨p,vs,by rw[ev,ep],.inr ⟨bJ (aC H O) g1,q _ H (aL.refl H) h0⟩⟩
 ·cases hg
noncomputable def BD:List D->aV
 |[.int i,.int j]=>some (.int (if j>i then j else i))
 |_=>none
noncomputable def CY:List D->aV
 |[.int i,.int j]=>some (.int (if j<i then j else i))
 |_=>none
noncomputable def pO:List D->aV
 |[.int i]=>some (.int i)
 |[.bl k]=>some (.int (if k then 1 else 0))
 |_=>none
theorem qW:dA X (.type "int") (Az X.K pO):=by
 rintro pins s σ H xs us Q I r ⟨O,ds,d,hO,hd,hg,q⟩;unfold pO at hg;split at hg
 ·rename_i i;cases hg;obtain⟨v,ev,h1⟩:=hd.one;exact nU pins s σ H xs us Q I r (.inl ⟨i,by rw[ev,dP.mp h1],q _ H (aL.refl H) (dP.mpr rfl)⟩)
 ·rename_i k;cases hg;obtain⟨v,ev,h1⟩:=hd.one;exact nU pins s σ H xs us Q I r (.inr ⟨k,by rw[ev,gD.mp h1],q _ H (aL.refl H) (dP.mpr rfl)⟩)
 ·cases hg
noncomputable def zV:D->String
 |.non=>"NoneType"
 |.bl _=>"bool"
 |.int _=>"int"
 |.str _=>"str"
 |.tup _=>"tuple"
 |.lst _=>"list"
 |.dct _ _=>"dict"
 |_=>""
noncomputable def yJ(T:String)(d:D):Bool:=match d with
 |.bl _=>T=="bool"||T=="int"
 |.non=>T=="NoneType"
 |.int _=>T=="int"
 |.str _=>T=="str"
 |.tup _=>T=="tuple"
 |.lst _=>T=="list"
 |.dct _ _=>T=="dict"
 |_=>false
noncomputable def xB(K:Jo)(T:String):Prop:=∀d:D,top d=true->JL K (.type (zV d)) (.type T)=some (yJ T d)
noncomputable def Eo(K:Jo)(T:String):az->Hp->VK->Prop:=λxs H Q=>∃O x d,xs=[x,.ty T]/\top d=true/\bp K (hid H O) d x/\Q (.bl (yJ T d)) H
theorem we(ok:xB X.K T):dA X (.builtin "isinstance") (Eo X.K T):=by
 rintro pins s σ H xs us Q I r ⟨O,x,d,ex,td,hd,q⟩;subst ex;obtain⟨u,w',rfl,rx,rt⟩:=vals2 r;cases rt;have e:=ok d td;have fin:∀tk,EP X pins σ Q (.bool (yJ T d)) {s with toks:=tk}:=λtk=>⟨.bl _,H,I.tok _,rfl,q⟩
 cases cw I td (hd.mono (aC H O)) rx with
 |non=>exact JM PySem.W.kitx_none I.kIn True.intro e (λz=>nomatch z) fin
 |bl b=>exact JM PySem.W.kitx_bool I.kIn True.intro e (λz=>nomatch z) fin
 |int i t=>exact JM PySem.W.kitx_int I.kIn True.intro e (λz=>nomatch z) fin
 |str y t=>exact JM PySem.W.kitx_str I.kIn True.intro e (λz=>nomatch z) fin
 |tup h rv t=>
  obtain⟨o,h1,h2,_⟩:=t;exact JM PySem.W.kitx_tuple I.kIn ⟨o,h1,h2⟩ e (λz=>nomatch z) fin
 |lst h rv t=>
  obtain⟨o,h1,h2,_⟩:=t;exact JM PySem.W.kitx_list I.kIn ⟨o,h1,h2⟩ e (λz=>nomatch z) fin
theorem gL:Ko "isinstance"=some (.builtin "isinstance"):=by first|rfl|decide +kernel
noncomputable def Ad(T:String)(d:D):aV:=if top d then some (.bl (yJ T d))else none
noncomputable def xU(T:String)(f:FX):FX:=f1 (Ad T) f
end
section
variable{X:Cx}{a:Kf}{f:FX}{pos:Pos}
noncomputable def isNon:D->Bool
 |.non=>true
 |_=>false
noncomputable def ED(d:D):aV:=some (.bl (isNon d))
noncomputable def BH(d:D):aV:=some (.bl (!isNon d))
noncomputable def D6(f:FX):FX:=f1 ED f
noncomputable def CZ(f:FX):FX:=f1 BH f
end
noncomputable def Walk(K:Jo)(Hd:Hp)(J:It)(ds:List D):Prop:=
 ∀(Hn:Hp)(O':ay)(i:Nat),bV Hn O'->aL Hd (hid Hn O')->(∀d,ds[i]?=some d->J.go i Hn/\∀x H2,J.yld i Hn x H2->aL Hn H2/\bp K (hid H2 O') d x)/\(i=ds.length->J.stop i Hn)
noncomputable def DR(X:Cx)(G:aH):TI:=λσ H RR=>∃O ρ,b8 X.K O H ρ σ/\cR X σ O H (G ρ) λds=>∀J H1,aL H H1->Walk X.K (hid H1 O) J ds->RR J H1
noncomputable def FI(X:Cx)(tg iter:Kf)(G:aH):Prop:=PI X tg iter (DR X G)
noncomputable def lq:D->Option (List D)
 |.lst xs=>some xs
 |.tup xs=>some xs
 |_=>none
noncomputable def em(f:FX):aH:=λρ=>(f ρ).bind λd=>rO (lq d)
section
variable{X:Cx}{tg:Kf}
theorem tJ{K:Jo}{Hd:Hp}{a:Ke}{ds:List D}{vs:az}(h:iW K Hd a vs)(g:aF K Hd ds vs):Walk K Hd (EH K a) ds:=λHn O' i hO s=>
  have s':aL Hd Hn:=s.trans (aC Hn O')
  ⟨fun d e=>by
    obtain⟨v,ev,dv⟩:=g.get e;refine⟨⟨vs,v,s'.seq h,ev⟩,λx H2 zq=>zq.elim λe2 y=>?_⟩;have q:=y vs (s'.seq h);rw[ev]at q;cases q;subst e2;exact⟨aL.refl _,dv.mono s⟩,
   λhl=>⟨vs,s'.seq h,by rw[<-g.length];exact Hz hl.symm⟩⟩
theorem vN{K:Jo}{Hd:Hp}{a:Ke}{ds:List D}{vs:az}(h:Hd a=some (.tup vs))(g:aF K Hd ds vs):Walk K Hd (D1 K a) ds:=λHn O' i hO s=>
  have s':aL Hd Hn:=s.trans (aC Hn O')
  ⟨fun d e=>by
    obtain⟨v,ev,dv⟩:=g.get e;refine⟨⟨vs,v,bJ s' h,ev⟩,λx H2 zq=>zq.elim λe2 y=>?_⟩;have q:=y vs (bJ s' h);rw[ev]at q;cases q;subst e2;exact⟨aL.refl _,dv.mono s⟩,
   λhl=>⟨vs,bJ s' h,by rw[<-g.length];exact Hz hl.symm⟩⟩
noncomputable def cG(lo:Int)(n:Nat):List D:=(List.range n).map λ(k:Nat)=>D.int (lo+(k:Int))
theorem my(lo:Int)(n:Nat):(cG lo n).length=n:=by unfold cG;rw[Hy,Ir]
theorem qo{K:Jo}{Hd:Hp}(lo:Int)(n:Nat):Walk K Hd (Dy lo n) (cG lo n):=λHn O' i hO s=>
  ⟨fun d e=>by
    unfold cG at e;rw[HH]at e;cases hi:(List.range n)[i]? with
    |none=>rw[hi]at e;cases e
    |some k=>
      rw[hi]at e;cases e;have hlt:i<n:=by
        have:=(List.getElem?_eq_some_iff.mp hi).1
        rwa [Ir]at this
      have ek:k=i:=by
        rw[Iw hlt]at hi;exact(Option.some.inj hi).symm
      subst ek;exact⟨hlt,λx H2 zq=>zq.elim λe1 e2=>by subst e1;exact⟨aL.refl _,dP.mpr e2⟩⟩,
   λhl=>by rw[my]at hl;exact Hz hl.symm⟩
noncomputable def okR(j:Int):Bool:=decide (-(2^62)<=j/\j<2^62)
noncomputable def kT:List D->Option (List D)
 |[.int j]=>if okR j then some (cG 0 j.toNat)else none
 |_=>none
noncomputable def rR:List D->Option (List D)
 |[.int i,.int j]=>if okR i&&okR j then some (cG i (j-i).toNat)else none
 |_=>none
noncomputable def eI(f:aH):aH:=λρ=>(f ρ).bind λds=>rO (kT ds)
noncomputable def yq(f:aH):aH:=λρ=>(f ρ).bind λds=>rO (rR ds)
end
noncomputable abbrev GF:=D->ai->Option ai
noncomputable def DF(K:Jo)(g:GF):TG:=λv σ H Q=>∃O ρ d ρ',b8 K O H ρ σ/\bp K (hid H O) d v/\g d ρ=some ρ'/\∀σ',b8 K O H ρ' σ'->(∀(i:Nat) x,ρ'[i]?=some (some x)->(∀d,x≠.val d)->σ'[i]?=σ[i]?/\ρ[i]?=some (some x))->Q σ' H
noncomputable def FG(X:Cx)(tg:Kf)(g:GF):Prop:=PG X tg (DF X.K g)
noncomputable def setV(i:Nat)(d:D)(ρ:ai):ai:=ρ.set i (some (.val d))
theorem aO{α:Type}{l:List α}{i j:Nat}{a b:α}(h:(l.set i a)[j]?=some b):(j=i/\b=a)\/(j≠i/\l[j]?=some b):=by
 by_cases e:j=i
 ·subst e;left;have hj:j<(l.set j a).length:=(List.getElem?_eq_some_iff.mp h).1;rw[HN]at hj;rw[Ho hj]at h;exact⟨rfl,(Option.some.inj h).symm⟩
 ·right;rw[Hq (Ne.symm e)]at h;exact⟨e,h⟩
theorem b8.setV{K:Jo}{O:ay}{H:Hp}{ρ:ai}{σ:St}(E:b8 K O H ρ σ){i:Nat}{d:D}{v:V}(hi:i<σ.length)(hd:bp K (hid H O) d v):b8 K O H (setV i d ρ) (σ.set i (some v)):=
  ⟨fun j d' e=>by
    rcases aO e with⟨hj,eq⟩|⟨ne,eq⟩
    ·cases eq;rw[hj];exact⟨v,Ho hi,hd⟩
    · obtain⟨w,e1,e2⟩:=E.val j d' eq
      exact⟨w,by rw[Hq (Ne.symm ne)];exact e1,e2⟩,
   λj xs e=>by
    rcases aO e with⟨_,eq⟩|⟨ne,eq⟩
    ·cases eq
    · obtain⟨a,e1,e2⟩:=E.own j xs eq
      exact⟨a,by rw[Hq (Ne.symm ne)];exact e1,e2⟩,
   λj k xs ys a e1 e2 e3 e4=>by
    rcases aO e1 with⟨_,q1⟩|⟨ne1,q1⟩
    ·cases q1
    · rcases aO e2 with⟨_,q2⟩|⟨ne2,q2⟩
      ·cases q2
      · rw[Hq (Ne.symm ne1)]at e3
        rw[Hq (Ne.symm ne2)]at e4;exact E.one j k xs ys a q1 q2 e3 e4,E.all⟩
section
variable{X:Cx}{pos:Pos}
noncomputable def gN(i:Nat):GF:=λd ρ=>some (setV i d ρ)
noncomputable abbrev xm:=List D->ai->Option ai
noncomputable def DY(K:Jo)(g:xm):zI:=λvs σ H Q=>∃O ρ ds ρ',b8 K O H ρ σ/\aF K (hid H O) ds vs/\g ds ρ=some ρ'/\∀σ',b8 K O H ρ' σ'->(∀(i:Nat) x,ρ'[i]?=some (some x)->(∀d,x≠.val d)->σ'[i]?=σ[i]?/\ρ[i]?=some (some x))->Q σ' H
noncomputable def Gz(X:Cx)(ts:aX)(g:xm):Prop:=CG X ts (DY X.K g)
noncomputable def zk:xm:=λds ρ=>match ds with
 |[]=>some ρ
 |_=>none
noncomputable def vP(g:GF)(h:xm):xm:=λds ρ=>match ds with
 |d::r=>(g d ρ).bind λρ1=>h r ρ1
 |_=>none
noncomputable def gT(n:Nat)(g:xm):GF:=λd ρ=>match d with
 |.tup xs=>if xs.length=n then g xs ρ else none
 |_=>none
end
noncomputable def y9{α:Type}(r:R α):R α:=match r with
 |.ok a=>.ok a
 |.error _=>un
theorem wn{α:Type}{r:R α}{a:α}(h:y9 r=.ok a):r=.ok a:=by
 cases r with
 |ok b=>exact h
 |error z=>cases h
noncomputable def inB(ix:dF)(ρ:ai):ai:=ix.map λo=>match o with
 |some i=>match ρ[i]? with
  |some (some (.val d))=>some (.val d)
  |_=>none
 |none=>none
noncomputable def vk(ρ:ai)(g:GF)(C:bq)(Fe:FX):List D->R (List D)
 |[]=>.ok []
 |d::ds=>(rO (g d ρ)).bind λρ1=>(y9 (C ρ1)).bind λc=>if c then(y9 (Fe ρ1)).bind λv=>(vk ρ g C Fe ds).bind λr=>.ok (v::r)else vk ρ g C Fe ds
theorem pB(ρ:ai)(g:GF)(C:bq)(Fe:FX)(d:D)(ds:List D):vk ρ g C Fe (d::ds)=(rO (g d ρ)).bind λρ1=>(y9 (C ρ1)).bind λc=>if c then(y9 (Fe ρ1)).bind λv=>(vk ρ g C Fe ds).bind λr=>.ok (v::r)else vk ρ g C Fe ds:=rfl
noncomputable def kU(ix:dF)(G:aH)(g:GF)(C:bq)(Fe:FX):FX:=λρ=>(G ρ).bind λds=>if small ds.length then y9 ((vk (inB ix ρ) g C Fe ds).bind λr=>.ok (.lst r))else un
noncomputable def D3(X:Cx)(ifs:aX)(F:bq):Prop:=zX X ifs (Dq X F)
noncomputable def gk:bq:=λ_=>.ok true
theorem DG{X:Cx}:D3 X [] gk:=λpins s σ H Q I zq=>zq.elim λO zq=>zq.elim λρ zq=>zq.elim λE q=>zg pins s σ H Q I (q H (aL.refl H))
theorem jj{ix:dF}{ρ:ai}{j:Nat}{x:S}(e:(inB ix ρ)[j]?=some (some x)):∃i d,ix[j]?=some (some i)/\ρ[i]?=some (some (.val d))/\x=.val d:=by
 unfold inB at e;rw[HH]at e;cases q:ix[j]? with
 |none=>rw[q]at e;cases e
 |some o=>
  rw[q]at e;cases o with
  |none=>cases e
  |some i=>
   have e':(match ρ[i]? with|some (some (.val d))=>some (S.val d)|_=>none)=some x:=Option.some.inj e;split at e'
   ·rename_i d hd;cases e';exact⟨i,d,rfl,hd,rfl⟩
   ·cases e'
theorem ya{K:Jo}{O:ay}{H:Hp}{ρ:ai}{σ:St}(ix:dF)(E:b8 K O H ρ σ):b8 K O H (inB ix ρ) (inBlock ix σ):=by
 refine⟨λj d e=>?_,λj xs e=>?_,λj k xs ys a e=>?_,E.all⟩
 ·obtain⟨i,d',q1,q2,q3⟩:=jj e;cases q3;obtain⟨v,e1,e2⟩:=E.val i d q2;refine⟨v,?_,e2⟩;unfold inBlock;rw[HH,q1];show some ((σ[i]?).getD none)=some (some v);rw[e1];rfl
 ·obtain⟨_,_,_,_,q3⟩:=jj e;cases q3
 ·obtain⟨_,_,_,_,q3⟩:=jj e;cases q3
theorem lW{H:Hp}{O:ay}{p:Ke}{o:HO}(hp:H p=none):aL (hid H O) (hid (upd H p o) (p::O)):=λb u h=>by
 unfold hid at h ⊢;by_cases hb:b∈O
 ·rw[if_pos hb]at h;cases h
 ·rw[if_neg hb]at h;have ne:=aR h hp;rw[if_neg (by intro z;rcases List.mem_cons.mp z with z|z;exact ne z;exact hb z),ax ne];exact h
theorem b8.hideNew{K:Jo}{O:ay}{H:Hp}{ρ:ai}{σ:St}{p:Ke}{o:HO}(m:kH o)(E:b8 K O H ρ σ)(hp:H p=none):b8 K (p::O) (upd H p o) ρ σ:=by
 have s:aL (hid H O) (hid (upd H p o) (p::O)):=lW hp;refine⟨λi d e=>let ⟨v,a,b⟩:=E.val i d e;⟨v,a,b.mono s⟩,λi xs e=>?_,E.one,(E.all.same (bM hp o)).cons aD m⟩;obtain⟨a,e1,e2,e3⟩:=E.own i xs e;obtain⟨u,hu⟩:=e3.some;exact⟨a,e1,Hk _ e2,e3.mono (by rw[ax (aR hu hp)]) s⟩
theorem b8.rewrite{K:Jo}{O:ay}{H:Hp}{ρ:ai}{σ:St}{p:Ke}{o:HO}(m:kH o)(E:b8 K O H ρ σ)(hp:p∈O)(hs:∀(i:Nat) xs,ρ[i]?=some (some (.own xs))->σ[i]?≠some (some (.ref p))):b8 K O (upd H p o) ρ σ:=by
 have s:aL (hid H O) (hid (upd H p o) O):=jq hp;refine⟨λi d e=>let ⟨v,a,b⟩:=E.val i d e;⟨v,a,b.mono s⟩,λi xs e=>?_,E.one,E.all.upd hp m⟩;obtain⟨a,e1,e2,e3⟩:=E.own i xs e;have ne:a≠p:=λz=>hs i xs e (by rw[<-z];exact e1);exact⟨a,e1,e2,e3.mono (by rw[ax ne]) s⟩
theorem b8.forget{K:Jo}{O:ay}{H:Hp}{ρ ρ':ai}{σ:St}(E:b8 K O H ρ σ)(h:∀(i:Nat) x,ρ'[i]?=some (some x)->ρ[i]?=some (some x)):b8 K O H ρ' σ:=
 ⟨λi d e=>E.val i d (h i _ e),λi xs e=>E.own i xs (h i _ e),λi j xs ys a e1 e2=>E.one i j xs ys a (h i _ e1) (h j _ e2),E.all⟩
noncomputable def Fills(ρ:ai)(g:GF):Prop:=∀d ρ1,g d ρ=some ρ1->∀(i:Nat) x,ρ[i]?=some (some x)->ρ1[i]?=some (some x)
theorem nQ(ix:dF)(ρ:ai):∀(i:Nat) xs,(inB ix ρ)[i]?≠some (some (.own xs)):=by
 intro j xs e;obtain⟨_,_,_,_,q3⟩:=jj e;cases q3
theorem BP{α:Type}{o:Option α}{a:α}(h:rO o=.ok a):o=some a:=by
 cases o with
 |none=>cases h
 |some b=>cases h;rfl
end TG
namespace TG
open PySem PySem.Spec L2
variable[aj]
section
variable{X:Cx}{elt tg iter:Kf}{ifs:aX}{scope:Kq}{pos:Pos}{N:ao}{ix:dF}{G:aH}{g:GF}{C:bq}{Fe:FX}
structure kK(ix:dF)(g:GF):Prop where
 fill:∀ρ,Fills (inB ix ρ) g
 own:∀ρ d ρ1,g d (inB ix ρ)=some ρ1->∀(i:Nat) xs,ρ1[i]?≠some (some (.own xs))
theorem o7{ρ:ai}{i:Nat}(h:ix[i]?=some none):∀x,(inB ix ρ)[i]?≠some (some x):=λx e=>by
 obtain⟨_,_,q,_⟩:=jj e;rw[h]at q;cases q
theorem ik{i:Nat}(h:ix[i]?=some none):kK ix (gN i):=
  ⟨fun ρ d ρ1 e j x q=>by
    cases e;by_cases z:j=i
    ·subst z;exact absurd q (o7 h x)
    ·unfold setV;rw[Hq (Ne.symm z)];exact q,
   λρ d ρ1 e j xs q=>by
    cases e;rcases aO q with⟨_,z⟩|⟨_,z⟩
    ·cases z
    ·exact nQ ix ρ j xs z⟩
noncomputable def xM(ix:dF)(is:List Nat):Bool:=is.all λi=>match ix[i]? with
 |some none=>true
 |_=>false
noncomputable def pZ:List Nat->xm
 |[]=>zk
 |i::is=>vP (gN i) (pZ is)
theorem sr:∀(is:List Nat)(ds:List D)(ρ ρ1:ai),pZ is ds ρ=some ρ1->∀(k:Nat)(x:S),ρ1[k]?=some (some x)->(k∈is/\∃d,x=.val d)\/ρ[k]?=some (some x)
 |[],ds,ρ,ρ1,h,k,x,e=>by
  cases ds with
  |nil=>cases h;exact .inr e
  |cons _ _=>cases h
 |i::is,ds,ρ,ρ1,h,k,x,e=>by
  cases ds with
  |nil=>cases h
  |cons d ds=>
   rcases sr is ds (setV i d ρ) ρ1 h k x e with⟨a,b⟩|q
   ·exact .inl ⟨Hk _ a,b⟩
   ·rcases aO q with⟨z,w⟩|⟨_,w⟩
    ·exact .inl ⟨by rw[z];exact Hj,d,Option.some.inj w⟩
    ·exact .inr w
theorem pM:∀(is:List Nat)(ds:List D)(ρ ρ1:ai),pZ is ds ρ=some ρ1->∀(k:Nat)(x:S),k∉is->ρ[k]?=some (some x)->ρ1[k]?=some (some x)
 |[],ds,ρ,ρ1,h,k,x,_,e=>by
  cases ds with
  |nil=>cases h;exact e
  |cons _ _=>cases h
 |i::is,ds,ρ,ρ1,h,k,x,n,e=>by
  cases ds with
  |nil=>cases h
  |cons d ds=>
   refine pM is ds (setV i d ρ) ρ1 h k x (λz=>n (Hk _ z)) ?_;unfold setV;rw[Hq (λz=>n (by rw[z];exact Hj))];exact e
theorem fN{is:List Nat}{n:Nat}(h:xM ix is=true):kK ix (gT n (pZ is)):=by
 have hn:∀i∈is,ix[i]?=some none:=λi hi=>by
  have:=List.all_eq_true.mp h i hi
  cases e:ix[i]? with
  |none=>rw[e]at this;cases this
  |some o=>cases o with
   |none=>rfl
   |some _=>rw[e]at this;cases this
 have shape:∀ρ d ρ1,gT n (pZ is) d ρ=some ρ1->∃ds,pZ is ds ρ=some ρ1:=λρ d ρ1 e=>by
  cases d with
  |tup xs=>
   have e':(if xs.length=n then pZ is xs ρ else none)=some ρ1:=e;by_cases hl:xs.length=n
   ·rw[if_pos hl]at e';exact⟨xs,e'⟩
   ·rw[if_neg hl]at e';cases e'
  |_=>cases e
 refine⟨λρ d ρ1 e k x q=>?_,λρ d ρ1 e k xs q=>?_⟩
 ·obtain⟨ds,e⟩:=shape _ d ρ1 e;exact pM is ds _ ρ1 e k x (λz=>o7 (hn k z) x q) q
 ·obtain⟨ds,e⟩:=shape _ d ρ1 e;rcases sr is ds _ ρ1 e k _ q with⟨_,d,z⟩|z
  ·cases z
  ·exact nQ ix ρ k xs z
structure jp(X:Cx)(scope:Kq)(N:ao)(ix:dF):Prop where
 cell:∀y∈scope.names,y.2≠.cell
 kind:scope.kind=.function
 names:∀y∈scope.names,y.2=.local->scope.names.lookup y.1=some .local
 free:∀y∈scope.names,y.2=.free->X.env.scope.names.lookup y.1=some .cell\/X.env.scope.names.lookup y.1=some .free
 ix:ow X.N N scope.names ix=true
noncomputable def gS(XS:lC)(XN:ao)(scope:Kq)(N:ao)(ix:dF):Bool:=
 scope.names.all (λy=>decide (y.2≠.cell))&&decide (scope.kind=.function)&&scope.names.all (λy=>decide (y.2≠.local)||decide (scope.names.lookup y.1=some .local)) &&
  scope.names.all (λy=>decide (y.2≠.free)||(decide (XS.lookup y.1=some .cell)||decide (XS.lookup y.1=some .free)))&&ow XN N scope.names ix
theorem jp.of(h:gS X.env.scope.names X.N scope N ix=true):jp X scope N ix:=by
 unfold gS at h;simp only[HM]at h;obtain⟨⟨⟨⟨h1,h2⟩,h3⟩,h4⟩,h5⟩:=h;refine⟨λy hy=>of_decide_eq_true (List.all_eq_true.mp h1 y hy),of_decide_eq_true h2,λy hy e=>?_,λy hy e=>?_,h5⟩
 ·rcases Im _ _ ▸ List.all_eq_true.mp h3 y hy with q|q
  ·exact absurd e (of_decide_eq_true q)
  ·exact of_decide_eq_true q
 ·rcases Im _ _ ▸ List.all_eq_true.mp h4 y hy with q|q
  ·exact absurd e (of_decide_eq_true q)
  ·rcases Im _ _ ▸ q with q|q
   ·exact .inl (of_decide_eq_true q)
   ·exact .inr (of_decide_eq_true q)
noncomputable def FK(X:Cx)(scope:Kq)(N:ao)(tg elt:Kf)(ifs:aX)(g:GF)(C:bq)(Fe:FX):Prop:=
 ∀cl C' fp s H E,FG (bo X scope N cl C' fp s H E) tg g/\D3 (bo X scope N cl C' fp s H E) ifs C/\FE (bo X scope N cl C' fp s H E) elt Fe
noncomputable def Bm(K:Jo)(F:bq):TT:=λσ H Q=>∃O ρ b,b8 K O H ρ σ/\F ρ=.ok b/\∀H',aL H H'->Q b H'
noncomputable def Fp(K:Jo)(F:FX):TE:=λσ H Q=>∃O ρ d,b8 K O H ρ σ/\F ρ=.ok d/\∀v H',aL H H'->bp K (hid H' O) d v->Q v H'
theorem FK.k(hb:FK X scope N tg elt ifs g C Fe):∀cl C' fp s H E,PG (bo X scope N cl C' fp s H E) tg (DF X.K g)/\zX (bo X scope N cl C' fp s H E) ifs (Bm X.K C)/\PE (bo X scope N cl C' fp s H E) elt (Fp X.K Fe):=λcl C' fp s H E=>by
 obtain⟨h1,h2,h3⟩:=hb cl C' fp s H E;refine⟨h1,λpins s σ H Q I zq=>zq.elim λO zq=>zq.elim λρ zq=>zq.elim λb zq=>zq.elim λe1 zq=>zq.elim λe2 q=>h2 pins s σ H Q I ⟨O,ρ,e1,by rw[e2];exact q⟩,λpins s σ H Q I zq=>zq.elim λO zq=>zq.elim λρ zq=>zq.elim λd zq=>zq.elim λe1 zq=>zq.elim λe2 q=>h3 pins s σ H Q I ⟨O,ρ,e1,by rw[e2];exact q⟩⟩
noncomputable def Ed(X:Cx)(F:FX):TE:=λσ H Q=>∃O ρ,b8 X.K O H ρ σ/\cR X σ O H (F ρ) λd=>∀D H' total acc,d=.lst total->aL H H'->H D=none->H' D=some (.lst acc)->aF X.K (hid H' (D::O)) total acc->Q (.ref D) H'
theorem D9{F:FX}:∀σ H Q,tF X F σ H Q->Ed X F σ H Q:=λσ H Q zq=>zq.elim λO zq=>zq.elim λρ zq=>zq.elim λE hF=>⟨O,ρ,E,hF.imp λd q D H' total acc e sm hD hD' dn=>by
 subst e;have DO:D∉O:=E.all.not hD;exact q _ H' sm (bC.mpr ⟨D,acc,rfl,iW.of (by rw[j0 DO];exact hD'),dn.mono (dE λa ha=>Hk _ ha)⟩)⟩
theorem vj(tk:kK ix g):∀σ H Q,Ed X (kU ix G g C Fe) σ H Q->Dz (DR X G) (DF X.K g) (Bm X.K C) (Fp X.K Fe) ix σ H Q:=λσ H Q zq=>zq.elim λO zq=>zq.elim λρ zq=>zq.elim λE hF=>by
 refine⟨O,ρ,E,(cR.bind hF).imp λds hF=>?_⟩;have hz:small ds.length=true:=by
  cases e:small ds.length with
  |true=>rfl
  |false=>rw[e]at hF;exact hF.elim
 rw[hz,if_pos rfl]at hF;cases hL:vk (inB ix ρ) g C Fe ds with
 |error z=>rw[hL]at hF;exact hF.elim
 |ok total=>
 rw[hL]at hF;have q:∀D H' total' acc,TG.D.lst total=.lst total'->aL H H'->H D=none->H' D=some (.lst acc)->aF X.K (hid H' (D::O)) total' acc->Q (.ref D) H':=hF;have e2:=hL;have hfill:=tk.fill;have hown:=tk.own;refine λJ H1 s1 wk D hD=>?_;have E1:b8 X.K (D::O) (upd H1 D (.lst [])) (inB ix ρ) (inBlock ix σ):=((ya ix E).same s1).hideNew trivial hD;have DO:D∉O:=(E.all.same s1).not hD;refine⟨λi m σ' H'=>m=ds.length-i/\i<=ds.length/\aL H1 H'/\b8 X.K (D::O) H' (inB ix ρ) σ'/\∃acc dn rest,H' D=some (.lst acc)/\acc.length<=i/\aF X.K (hid H' (D::O)) dn acc/\vk (inB ix ρ) g C Fe (ds.drop i)=.ok rest/\dn++rest=total,
  ⟨ds.length,by rw[Iu],HA _,bM hD _,E1,[],[],total,aD,Hs _,bQ.mpr rfl,by rw[Ic];exact e2,rfl⟩,?_⟩
 rintro i m σ' H' ⟨rfl,hi,sm,E',acc,dn,rest,hacc,hlen,hdn,hrest,htot⟩;have sH:aL (hid H1 O) (hid H' (D::O)):=λb o h=>by
  have h2:=sm b o (aC H1 O b o h);unfold hid at h ⊢;by_cases hb:b∈O
  ·rw[if_pos hb]at h;cases h
  ·rw[if_neg hb]at h;have ne:b≠D:=aR h hD;rw[if_neg (by intro z;rcases List.mem_cons.mp z with z|z;exact ne z;exact hb z)];exact h2
 by_cases hlt:i<ds.length
 ·right;obtain⟨go,yl⟩:=(wk H' (D::O) i E'.all sH).1 ds[i] (by simp[hlt]);refine⟨go,λx H2 y=>?_⟩;obtain⟨s2,dx'⟩:=yl x H2 y;have E':=E'.same s2;have sm:=sm.trans s2;have hacc:=s2 _ _ hacc;have hdn:=hdn.mono (bh s2);rw[Iy hlt,pB]at hrest;obtain⟨ρ1,g1,hrest⟩:=kW hrest;have g1:=BP g1;obtain⟨c,c1,hrest⟩:=kW hrest;have c1:=wn c1;refine⟨D::O,inB ix ρ,ds[i],ρ1,E',dx',g1,λσ3 E3 _=>?_⟩;refine⟨D::O,ρ1,c,E3,c1,λH4 s4=>?_⟩;have E4:=E3.same s4;have back:∀{H5:Hp},b8 X.K (D::O) H5 ρ1 σ3->b8 X.K (D::O) H5 (inB ix ρ) σ3:=λz=>z.forget λj x e=>hfill ρ _ _ g1 j x e;cases c with
  |true=>
   refine yx ?_;rw[if_pos rfl]at hrest;obtain⟨v,v1,hrest⟩:=kW hrest;have v1:=wn v1;obtain⟨r,r1,hrest⟩:=kW hrest;cases hrest;refine⟨D::O,ρ1,v,E4,v1,λw H5 s5 dw=>?_⟩;have s45:=s4.trans s5;have ha5:H5 D=some (.lst acc):=s45 _ _ hacc;have hzl:ds.length<Km:=Iz (of_decide_eq_true hz) (by decide);refine⟨acc,ha5,by omega,ds.length-(i+1),by omega,rfl,hlt,?_,?_,acc++[w],dn++[v],r,aD,by rw[HJ,HQ];omega,?_,r1,by rw[IB];exact htot⟩
   ·intro b o h;rw[ax (aR h hD)];exact s45 _ _ (sm _ _ h)
   ·exact back ((E3.same s45).rewrite trivial Hj λj xs e=>absurd e (hown ρ _ _ g1 j xs))
   ·have s6:aL (hid H5 (D::O)) (hid (upd H5 D (.lst (acc++[w]))) (D::O)):=jq Hj;exact(hdn.mono ((bh s45).trans s6)).snoc (dw.mono s6)
  |false=>
   refine yy ?_;rw[if_neg Hv]at hrest;exact⟨ds.length-(i+1),by omega,rfl,hlt,sm.trans s4,back E4,acc,dn,rest,s4 _ _ hacc,by omega,hdn.mono (bh s4),hrest,htot⟩
 ·left;have ei:i=ds.length:=by omega
  subst ei;refine⟨(wk H' (D::O) ds.length E'.all sH).2 rfl,?_⟩;rw[List.drop_length]at hrest;cases hrest;rw[HB]at htot;subst htot;exact q D H' _ acc rfl (s1.trans sm) (s1.free hD) hacc hdn
theorem zn(tk:kK ix g):∀σ H Q,tF X (kU ix G g C Fe) σ H Q->Dz (DR X G) (DF X.K g) (Bm X.K C) (Fp X.K Fe) ix σ H Q:=λσ H Q h=>vj tk σ H Q (D9 σ H Q h)
end
structure Ks where
 nx:ai->R D
 bk:ai->R D:=λ_=>un
 ct:ai->R D:=λ_=>un
 ex:Ex->ai->R D:=λx _=>.error (some x)
noncomputable abbrev bu:=Ks->ai->R D
noncomputable def kL{α:Type}(r:R α)(k:Ks)(ρ:ai)(f:α->R D):R D:=match r with
 |.ok a=>f a
 |.error (some x)=>k.ex x ρ
 |.error none=>un
structure Base(Hb:Hp)(Ob:ay)(H:Hp)(O:ay):Prop where
 same:aL Hb H
 sub:∀a∈Ob,a∈O
 new:∀a∈O,a∈Ob\/Hb a=none
noncomputable def vm(K:Jo)(H:Hp)(O:ay):ay->List D->Prop
 |[],[]=>True
 |b::bs,x::xs=>dD K H O b x/\vm K H O bs xs
 |_,_=>False
noncomputable def sk(K:Jo)(H:Hp)(O:ay)(a:Ke)(bs:ay)(d:D):Prop:=
 ∃xs,vm K H O bs xs/\((d=.lst xs/\H a=some (.lst (bs.map .ref)))\/(∃kvs:List (List Key×V),d=.dct (kvs.map λp=>.tup (p.1.map bK)) xs/\H a=some (.dT kvs)/\kvs.map (·.2)=bs.map .ref)\/(d=.dct [] xs/\bs=[]/\H a=some (.dK [])))
noncomputable def vI(K:Jo)(Hb:Hp)(Ob O:ay)(H:Hp)(ρ:ai)(σ:St)(i:Nat)(d:D):Prop:=
 ∃a bs,σ[i]?=some (some (.ref a))/\sk K H O a bs d/\(a::bs).Nodup/\(∀b∈a::bs,b∈O/\Hb b=none/\b∉Ob/\∀(j:Nat) d',ρ[j]?=some (some (.own d'))->σ[j]?≠some (some (.ref b)))/\∀(j:Nat) d',ρ[j]?=some (some (.nest d'))->j=i
theorem vm.mono{K:Jo}{H H':Hp}{O O':ay}(s:aL (hid H O) (hid H' O')):∀{bs:ay}{xs:List D},vm K H O bs xs->(∀b∈bs,(∃o,H b=some o)->H' b=H b)->vm K H' O' bs xs
 |[],[],_,_=>trivial
 |b::bs,x::xs,h,e=>⟨h.1.mono (e b Hj h.1.some).symm s,vm.mono s h.2 λb' hb=>e b' (Hk _ hb)⟩
 |[],_::_,h,_=>h.elim
 |_::_,[],h,_=>h.elim
theorem vm.some{K:Jo}{H:Hp}{O:ay}:∀{bs:ay}{xs:List D},vm K H O bs xs->∀b∈bs,∃o,H b=some o
 |[],_,_,_,hb=>nomatch hb
 |b::bs,x::xs,h,b',hb=>by
  rcases List.mem_cons.mp hb with z|z
  ·rw[z];exact h.1.some
  ·exact vm.some h.2 b' z
 |_::_,[],h,_,_=>h.elim
theorem sk.some{K:Jo}{H:Hp}{O:ay}{a:Ke}{bs:ay}{d:D}(h:sk K H O a bs d):∀b∈a::bs,∃o,H b=some o:=λb hb=>by
 obtain⟨xs,h1,h2⟩:=h;rcases List.mem_cons.mp hb with z|z
 ·rw[z];rcases h2 with⟨_,q⟩|⟨_,_,q,_⟩|⟨_,_,q⟩<;>exact⟨_,q⟩
 ·exact h1.some b z
theorem sk.mono{K:Jo}{H H':Hp}{O O':ay}{a:Ke}{bs:ay}{d:D}(h:sk K H O a bs d)(s:aL (hid H O) (hid H' O'))(e:∀b∈a::bs,(∃o,H b=Option.some o)->H' b=H b):sk K H' O' a bs d:=by
 have ea:=e a Hj (h.some a Hj);obtain⟨xs,h1,h2⟩:=h;refine⟨xs,h1.mono s λb hb=>e b (Hk _ hb),?_⟩;rw[ea];exact h2
theorem vI.to{K:Jo}{Hb Hb':Hp}{Ob O O':ay}{H H':Hp}{ρ ρ':ai}{σ σ':St}{i:Nat}{d:D}(h:vI K Hb Ob O H ρ σ i d)(hσ:σ'[i]?=σ[i]?)(s:aL (hid H O) (hid H' O'))
  (k:∀b,b∈O->Hb b=none->b∉Ob->(∀(j:Nat) d',ρ[j]?=some (some (.own d'))->σ[j]?≠some (some (.ref b)))->(∃o,H b=some o)->H' b=H b/\b∈O'/\Hb' b=none/\∀(j:Nat) d',ρ'[j]?=some (some (.own d'))->σ'[j]?≠some (some (.ref b)))
  (n:∀(j:Nat) d',ρ'[j]?=some (some (.nest d'))->∃d2,ρ[j]?=some (some (.nest d2))):vI K Hb' Ob O' H' ρ' σ' i d:=by
 obtain⟨a,bs,h1,h2,h3,h4,h5⟩:=h;refine⟨a,bs,hσ.trans h1,h2.mono s λb hb ho=>?_,h3,λb hb=>?_,λj d' q=>?_⟩
 ·obtain⟨q1,q2,q3,q4⟩:=h4 b hb;exact(k b q1 q2 q3 q4 ho).1
 ·obtain⟨q1,q2,q3,q4⟩:=h4 b hb;obtain⟨_,w2,w3,w4⟩:=k b q1 q2 q3 q4 (h2.some b hb);exact⟨w2,w3,q3,w4⟩
 ·obtain⟨d2,q⟩:=n j d' q;exact h5 j d2 q
structure cg(K:Jo)(Hb:Hp)(Ob O:ay)(H:Hp)(ρ:ai)(σ:St):Prop where
 env:b8 K O H ρ σ
 base:Base Hb Ob H O
 mine:∀(i:Nat) xs a,ρ[i]?=some (some (.own xs))->σ[i]?=some (some (.ref a))->Hb a=none/\a∉Ob
 nst:∀(i:Nat) d,ρ[i]?=some (some (.nest d))->vI K Hb Ob O H ρ σ i d
theorem Base.same'{Hb:Hp}{Ob:ay}{H H':Hp}{O:ay}(b:Base Hb Ob H O)(s:aL H H'):Base Hb Ob H' O:=⟨b.same.trans s,b.sub,b.new⟩
theorem cg.same{K:Jo}{Hb:Hp}{Ob O:ay}{H H':Hp}{ρ:ai}{σ:St}(h:cg K Hb Ob O H ρ σ)(s:aL H H'):cg K Hb Ob O H' ρ σ:=⟨h.env.same s,h.base.same' s,h.mine,λi d q=>(h.nst i d q).to rfl (bh s) (λb q1 q2 q3 q4 zq=>zq.elim λo ho=>⟨by rw[ho,s _ _ ho],q1,q2,q4⟩) λj d' z=>⟨d',z⟩⟩
theorem cg.after{K:Jo}{Hb:Hp}{Ob O:ay}{H:Hp}{ρ ρ':ai}{σ σ':St}(S:cg K Hb Ob O H ρ σ)(E':b8 K O H ρ' σ')(own:∀(i:Nat) x,ρ'[i]?=some (some x)->(∀d,x≠.val d)->σ'[i]?=σ[i]?/\ρ[i]?=some (some x)):cg K Hb Ob O H ρ' σ':=
 ⟨E',S.base,fun i xs a q1 q2=>by
  obtain⟨w1,w2⟩:=own i _ q1 (λ_ z=>nomatch z);rw[w1]at q2;exact S.mine i xs a w2 q2,λi d q=>by
  obtain⟨w1,w2⟩:=own i _ q (λ_ z=>nomatch z);refine(S.nst i d w2).to w1 (λ_ _ z=>z) (λb q1 q2 q3 q4 _=>⟨rfl,q1,q2,λl d' w=>?_⟩) λl d' w=>⟨d',(own l _ w (λ_ z=>nomatch z)).2⟩
  obtain⟨z1,z2⟩:=own l _ w (λ_ z=>nomatch z);rw[z1];exact q4 l d' z2⟩
structure Bw(X:Cx)(Hb:Hp)(Ob:ay)(E:Ends)(k:Ks)(r:R D):Prop where
 ne:r≠un
 nx:∀O ρ σ H,cg X.K Hb Ob O H ρ σ->k.nx ρ=r->E.nx σ H
 bk:∀O ρ σ H,cg X.K Hb Ob O H ρ σ->k.bk ρ=r->E.bk σ H
 ct:∀O ρ σ H,cg X.K Hb Ob O H ρ σ->k.ct ρ=r->E.ct σ H
 rt:∀d O v H,r=.ok d->Base Hb Ob H O->bp X.K (hid H O) d v->E.rt v H
 ex:∀O ρ σ H x,cg X.K Hb Ob O H ρ σ->k.ex x ρ=r->zJ X σ O H x
noncomputable def Fu(X:Cx)(Hb:Hp)(Ob:ay)(F:bu):TS:=λE σ H=>∃O ρ k r,cg X.K Hb Ob O H ρ σ/\F k ρ=r/\Bw X Hb Ob E k r
noncomputable def FS(X:Cx)(st:Kg)(F:bu):Prop:=∀Hb Ob,PS X st (Fu X Hb Ob F)
noncomputable def DB(X:Cx)(st:b7)(F:bu):Prop:=∀Hb Ob,oM X st (Fu X Hb Ob F)
theorem cR.on{X:Cx}{Hb:Hp}{Ob O:ay}{H:Hp}{ρ:ai}{σ:St}{E:Ends}{k:Ks}{r:R D}{α:Type}{fr:R α}{G:α->R D}{Q:α->Prop}(h:kL fr k ρ G=r)(hk:Bw X Hb Ob E k r)(S:cg X.K Hb Ob O H ρ σ)(q:∀a,G a=r->Q a):cR X σ O H fr Q:=by
 match fr,h with
 |.ok a,h=>exact q a h
 |.error (some x),h=>exact hk.ex O ρ σ H x S h
 |.error none,h=>exact absurd h.symm hk.ne
section
variable{X:Cx}{st:Kg}{rest body:b7}{pos:Pos}
noncomputable def bR:bu:=λk ρ=>k.nx ρ
noncomputable def aB(F1 F2:bu):bu:=λk ρ=>F1 {k with nx:=F2 k} ρ
noncomputable def bw(f:FX):bu:=λk ρ=>kL (f ρ) k ρ .ok
noncomputable def Cw:bu:=λ_ _=>.ok .non
noncomputable def rM(f:FX):bu:=λk ρ=>kL (f ρ) k ρ λ_=>k.nx ρ
noncomputable def kE(c:bq)(A B:bu):bu:=λk ρ=>kL (c ρ) k ρ λb=>if b then A k ρ else B k ρ
noncomputable def bb(i:Nat)(f:FX):bu:=λk ρ=>kL (f ρ) k ρ λd=>k.nx (setV i d ρ)
theorem cg.setV{K:Jo}{Hb:Hp}{Ob O:ay}{H:Hp}{ρ:ai}{σ:St}(E:cg K Hb Ob O H ρ σ){i:Nat}{d:D}{v:V}(hi:i<σ.length)(hd:bp K (hid H O) d v):cg K Hb Ob O H (setV i d ρ) (σ.set i (some v)):=
  ⟨E.env.setV hi hd,E.base,fun j xs a e1 e2=>by
    rcases aO e1 with⟨_,q⟩|⟨ne,q⟩
    ·cases q
    · rw[Hq (Ne.symm ne)]at e2
      exact E.mine j xs a q e2,
   λj dn e=>by
    rcases aO e with⟨_,q⟩|⟨ne,q⟩
    ·cases q
    · refine(E.nst j dn q).to (Hq (Ne.symm ne)) (λ_ _ z=>z) (λb q1 q2 q3 q4 _=>⟨rfl,q1,q2,λl d' w=>?_⟩) λl d' w=>?_
      · rcases aO w with⟨_,z⟩|⟨nl,z⟩
        ·cases z
        ·rw[Hq (Ne.symm nl)];exact q4 l d' z
      · rcases aO w with⟨_,z⟩|⟨_,z⟩
        ·cases z
        ·exact⟨d',z⟩⟩
theorem mH{f:FX}{i:Nat}(hi:i<X.N.length)(h:PS X st (wN (tF X f) (mJ i))):FS X st (bb i f):=λHb Ob pins s σ H E I zq=>zq.elim λO zq=>zq.elim λρ zq=>zq.elim λk zq=>zq.elim λr zq=>zq.elim λS zq=>zq.elim λhF hk=>
 h pins s σ H E I ⟨O,ρ,S.env,cR.on hF hk S λd e v H1 s1 d1=>hk.nx O _ _ H1 ((S.same s1).setV (by rw[I.len];exact hi) d1) e⟩
noncomputable def kill(is:List Nat)(ρ:ai):ai:=is.foldl (λρ i=>ρ.set i none) ρ
theorem eM:∀(is:List Nat)(ρ:ai)(i:Nat)(x:S),(kill is ρ)[i]?=some (some x)->ρ[i]?=some (some x)
 |[],ρ,i,x,e=>e
 |j::is,ρ,i,x,e=>by
  rcases aO (eM is (ρ.set j none) i x e)with⟨_,q⟩|⟨_,q⟩
  ·cases q
  ·exact q
theorem cg.kill{K:Jo}{Hb:Hp}{Ob O:ay}{H:Hp}{ρ:ai}{σ:St}(E:cg K Hb Ob O H ρ σ)(is:List Nat):cg K Hb Ob O H (kill is ρ) σ:=
 ⟨E.env.forget (eM is ρ),E.base,λi xs a e1 e2=>E.mine i xs a (eM is ρ i _ e1) e2,λi d q=>(E.nst i d (eM is ρ i _ q)).to rfl (λ_ _ z=>z) (λb q1 q2 q3 q4 _=>⟨rfl,q1,q2,λl d' w=>q4 l d' (eM is ρ l _ w)⟩) λl d' w=>⟨d',eM is ρ l _ w⟩⟩
noncomputable def du(is:List Nat)(F:bu):bu:=λk ρ=>F k (kill is ρ)
end
noncomputable def cq(g:GF)(B:bu)(k:Ks):List D->ai->R D
 |[],ρ=>k.nx ρ
 |d::ds,ρ=>(rO (g d ρ)).bind λρ1=>B ⟨cq g B k ds,k.nx,cq g B k ds,k.ex⟩ ρ1
noncomputable def oC(G:aH)(g:GF)(B:bu):bu:=λk ρ=>kL (G ρ) k ρ λds=>cq g B k ds ρ
noncomputable def lb(H:Hp)(O Ob:ay):Hp:=λb=>if b∈O/\b∉Ob then none else H b
theorem oE{H:Hp}{O Ob:ay}{b:Ke}(h1:b∈O)(h2:b∉Ob):lb H O Ob b=none:=by unfold lb;rw[if_pos ⟨h1,h2⟩]
theorem xX{H:Hp}{O Ob:ay}{b:Ke}{o:HO}(h:lb H O Ob b=some o):H b=some o/\¬(b∈O/\b∉Ob):=by
 unfold lb at h;split at h
 ·cases h
 ·rename_i n;exact⟨h,n⟩
theorem vt{H:Hp}{O Ob:ay}{b:Ke}{o:HO}(h:H b=some o)(n:¬(b∈O/\b∉Ob)):lb H O Ob b=some o:=by unfold lb;rw[if_neg n];exact h
theorem Base.loop{Hb:Hp}{Ob:ay}{H:Hp}{O:ay}(b:Base Hb Ob H O):Base (lb H O Ob) Ob H O:=
 ⟨fun c o h=>(xX h).1,b.sub,fun a ha=>by
  by_cases h:a∈Ob
  ·exact .inl h
  ·exact .inr (oE ha h)⟩
theorem Base.back{Hb:Hp}{Ob:ay}{H H':Hp}{O O':ay}(b:Base Hb Ob H O)(b':Base (lb H O Ob) Ob H' O'):Base Hb Ob H' O':=by
 have up:aL Hb (lb H O Ob):=λc o h=>vt (b.same c o h) λzq=>zq.elim λz1 z2=>by
  rcases b.new c z1 with z|z
  ·exact z2 z
  ·rw[z]at h;cases h
 exact⟨up.trans b'.same,b'.sub,λa ha=>(b'.new a ha).imp id up.free⟩
theorem cg.loop{K:Jo}{Hb:Hp}{Ob O:ay}{H:Hp}{ρ:ai}{σ:St}(E:cg K Hb Ob O H ρ σ):cg K (lb H O Ob) Ob O H ρ σ:=
 ⟨E.env,E.base.loop,fun i xs a e1 e2=>by
  obtain⟨_,n⟩:=E.mine i xs a e1 e2;obtain⟨a',e3,e4,_⟩:=E.env.own i xs e1;rw[e2]at e3;cases e3;exact⟨oE e4 n,n⟩,λi d q=>(E.nst i d q).to rfl (λ_ _ z=>z) (λb q1 q2 q3 q4 _=>⟨rfl,q1,oE q1 q3,q4⟩) λl d' w=>⟨d',w⟩⟩
theorem cg.back{K:Jo}{Hb:Hp}{Ob O O':ay}{H H':Hp}{ρ':ai}{σ':St}(b:Base Hb Ob H O)(E:cg K (lb H O Ob) Ob O' H' ρ' σ'):cg K Hb Ob O' H' ρ' σ':=
 have up:aL Hb (lb H O Ob):=λc o h=>vt (b.same c o h) λzq=>zq.elim λz1 z2=>by
  rcases b.new c z1 with z|z
  ·exact z2 z
  ·rw[z]at h;cases h
 ⟨E.env,b.back E.base,fun i xs a e1 e2=>by
  obtain⟨z,n⟩:=E.mine i xs a e1 e2;exact⟨up.free z,n⟩,λi d q=>(E.nst i d q).to rfl (λ_ _ z=>z) (λb q1 q2 q3 q4 _=>⟨rfl,q1,up.free q2,q4⟩) λl d' w=>⟨d',w⟩⟩
theorem xc{Hb:Hp}{Ob O O':ay}{H H':Hp}(b:Base Hb Ob H O)(b':Base (lb H O Ob) Ob H' O'):aL (hid H O) (hid H' O'):=λc o h=>by
 unfold hid at h ⊢;by_cases hc:c∈O
 ·rw[if_pos hc]at h;cases h
 ·rw[if_neg hc]at h;have h1:lb H O Ob c=some o:=vt h λz=>hc z.1;rw[if_neg]
  ·exact b'.same _ _ h1
  ·intro z;rcases b'.new c z with z|z
   ·exact hc (b.sub c z)
   ·rw[h1]at z;cases z
theorem Bw.loop{X:Cx}{Hb:Hp}{Ob O:ay}{H:Hp}{E E':Ends}{k k':Ks}{r:R D}(hk:Bw X Hb Ob E k r)(b:Base Hb Ob H O)(hn:∀O' ρ' σ' H',cg X.K (lb H O Ob) Ob O' H' ρ' σ'->k'.nx ρ'=r->E'.nx σ' H')(hc:∀O' ρ' σ' H',cg X.K (lb H O Ob) Ob O' H' ρ' σ'->k'.ct ρ'=r->E'.ct σ' H')
    (eb:k'.bk=k.nx) (ee:k'.ex=k.ex) (Eb:E'.bk=E.nx) (Er:E'.rt=E.rt):Bw X (lb H O Ob) Ob E' k' r:=
  ⟨hk.ne,hn,fun O' ρ' σ' H' S e=>by rw [Eb]; exact hk.nx O' ρ' σ' H' (S.back b) (by rw [<- eb]; exact e),hc,fun d O' v H' e b' dv=>by rw [Er]; exact hk.rt d O' v H' e (b.back b') dv,
   λO' ρ' σ' H' x S e=>hk.ex O' ρ' σ' H' x (S.back b) (by rw[<-ee];exact e)⟩
section
variable{X:Cx}{st:Kg}{rest body:b7}{pos:Pos}
end
end TG
namespace TG
open PySem PySem.Spec L2
variable[aj]
theorem cg.setO{K:Jo}{Hb:Hp}{Ob O:ay}{H:Hp}{ρ:ai}{σ:St}(E:cg K Hb Ob O H ρ σ){i:Nat}{d d':D}{a:Ke}{o:HO}(hi:ρ[i]?=some (some (.own d)))(ha:σ[i]?=some (some (.ref a)))(m:kH o)(new:dD K (upd H a o) O a d'):
  cg K Hb Ob O (upd H a o) (ρ.set i (some (.own d'))) σ:=by
 obtain⟨a',ha',haO,hat⟩:=E.env.own i d hi;rw[ha]at ha';cases ha';obtain⟨m1,m2⟩:=E.mine i d a hi ha;have s:aL (hid H O) (hid (upd H a o) O):=jq haO;have own:∀(j:Nat) ys,(ρ.set i (some (.own d')))[j]?=some (some (.own ys))->∃ys',ρ[j]?=some (some (.own ys')):=λj ys q=>by
  rcases aO q with⟨hj,_⟩|⟨_,q⟩
  ·rw[hj];exact⟨d,hi⟩
  ·exact⟨ys,q⟩
 refine⟨⟨λj d1 e=>?_,λj ys e=>?_,λj l ys zs b q1 q2 q3 q4=>?_,E.env.all.upd haO m⟩,⟨λb u h=>?_,E.base.sub,E.base.new⟩,λj ys b q1 q2=>?_,λj dn q=>?_⟩
 ·rcases aO e with⟨_,q⟩|⟨ne,q⟩
  ·cases q
  ·obtain⟨w,q1,q2⟩:=E.env.val j d1 q;exact⟨w,q1,q2.mono s⟩
 ·rcases aO e with⟨hj,q⟩|⟨ne,q⟩
  ·cases q;rw[hj];exact⟨a,ha,haO,new⟩
  ·obtain⟨b,q1,q2,q3⟩:=E.env.own j ys q;have nb:b≠a:=λz=>ne (E.env.one j i ys d a q hi (by rw[<-z];exact q1) ha);exact⟨b,q1,q2,q3.mono (by rw[ax nb]) s⟩
 ·obtain⟨_,q1'⟩:=own j ys q1;obtain⟨_,q2'⟩:=own l zs q2;exact E.env.one j l _ _ b q1' q2' q3 q4
 ·have nb:b≠a:=λz=>by rw[z,m1]at h;cases h
  rw[ax nb];exact E.base.same b u h
 ·obtain⟨ys',q⟩:=own j ys q1;exact E.mine j ys' b q q2
 ·have q:ρ[j]?=some (some (.nest dn)):=by
   rcases aO q with⟨_,z⟩|⟨_,z⟩
   ·cases z
   ·exact z
  refine(E.nst j dn q).to rfl s (λb q1 q2 q3 q4 _=>⟨ax λz=>q4 i d hi (by rw[z];exact ha),q1,q2,λl d1 w=>?_⟩) λl d1 w=>?_
  ·obtain⟨_,w'⟩:=own l d1 w;exact q4 l _ w'
  ·rcases aO w with⟨_,z⟩|⟨_,z⟩
   ·cases z
   ·exact⟨d1,z⟩
theorem cg.setNew{K:Jo}{Hb:Hp}{Ob O:ay}{H H':Hp}{ρ:ai}{σ:St}(E:cg K Hb Ob O H ρ σ){i:Nat}{d:D}{p:Ke}(hi:i<σ.length)(sm:aL H H')(hp:H p=none)(m:∃o,H' p=some o/\kH o)(new:dD K H' (p::O) p d):
  cg K Hb Ob (p::O) H' (ρ.set i (some (.own d))) (σ.set i (some (.ref p))):=by
 have hpO:p∉O:=E.env.all.not hp;have s:aL (hid H O) (hid H' (p::O)):=λb o h=>by
  unfold hid at h ⊢;by_cases hb:b∈O
  ·rw[if_pos hb]at h;cases h
  ·rw[if_neg hb]at h;have ne:=aR h hp;rw[if_neg (by intro z;rcases List.mem_cons.mp z with z|z;exact ne z;exact hb z)];exact sm _ _ h
 have other:∀(j:Nat) xs,ρ[j]?=some (some (.own xs))->σ[j]?≠some (some (.ref p)):=λj xs e z=>by
  obtain⟨a,e1,e2,e3⟩:=E.env.own j xs e;rw[z]at e1;cases e1;obtain⟨o,e3⟩:=e3.some;rw[hp]at e3;cases e3
 refine⟨⟨λj d' e=>?_,λj xs e=>?_,λj k xs ys a e1 e2 e3 e4=>?_,⟨(E.env.all.same sm).1,λa ha=>?_⟩⟩,⟨E.base.same.trans sm,λa ha=>Hk _ (E.base.sub a ha),λa ha=>?_⟩,λj xs a e1 e2=>?_,λj dn e=>?_⟩
 ·rcases aO e with⟨_,q⟩|⟨ne,q⟩
  ·cases q
  ·obtain⟨v,q1,q2⟩:=E.env.val j d' q;exact⟨v,by rw[Hq (Ne.symm ne)];exact q1,q2.mono s⟩
 ·rcases aO e with⟨hj,q⟩|⟨ne,q⟩
  ·cases q;rw[hj];exact⟨p,Ho hi,Hj,new⟩
  ·obtain⟨a,q1,q2,q3⟩:=E.env.own j xs q;obtain⟨o,ho⟩:=q3.some;exact⟨a,by rw[Hq (Ne.symm ne)];exact q1,Hk _ q2,q3.mono (oi sm ho) s⟩
 ·rcases aO e1 with⟨hj,q1⟩|⟨nj,q1⟩
  ·rcases aO e2 with⟨hk,q2⟩|⟨nk,q2⟩
   ·exact hj.trans hk.symm
   ·rw[hj,Ho hi]at e3;cases e3;rw[Hq (Ne.symm nk)]at e4;exact absurd e4 (other k ys q2)
  ·rcases aO e2 with⟨hk,q2⟩|⟨nk,q2⟩
   ·rw[hk,Ho hi]at e4;cases e4;rw[Hq (Ne.symm nj)]at e3;exact absurd e3 (other j xs q1)
   ·rw[Hq (Ne.symm nj)]at e3;rw[Hq (Ne.symm nk)]at e4;exact E.env.one j k xs ys a q1 q2 e3 e4
 ·rcases List.mem_cons.mp ha with rfl|ha
  ·exact m
  ·exact(E.env.all.same sm).2 a ha
 ·rcases List.mem_cons.mp ha with rfl|ha
  ·exact .inr (E.base.same.free hp)
  ·exact E.base.new a ha
 ·rcases aO e1 with⟨hj,q1⟩|⟨nj,q1⟩
  ·rw[hj,Ho hi]at e2;cases e2;exact⟨E.base.same.free hp,λz=>hpO (E.base.sub p z)⟩
  ·rw[Hq (Ne.symm nj)]at e2;exact E.mine j xs a q1 e2
 ·rcases aO e with⟨_,q⟩|⟨ne,q⟩
  ·cases q
  ·refine(E.nst j dn q).to (Hq (Ne.symm ne)) s (λb q1 q2 q3 q4 zq=>zq.elim λo ho=>⟨by rw[ho,sm _ _ ho],Hk _ q1,q2,λl d1 w=>?_⟩) λl d1 w=>?_
   ·rcases aO w with⟨hl,z⟩|⟨nl,z⟩
    ·rw[hl,Ho hi];intro z;cases z;rw[hp]at ho;cases ho
    ·rw[Hq (Ne.symm nl)];exact q4 l d1 z
   ·rcases aO w with⟨_,z⟩|⟨_,z⟩
    ·cases z
    ·exact⟨d1,z⟩
noncomputable def Du(X:Cx)(F:FX):TE:=λσ H Q=>∃O ρ,b8 X.K O H ρ σ/\cR X σ O H (F ρ) λd=>∀p H',aL H H'->H p=none->(∃o,H' p=some o/\kH o)->dD X.K H' (p::O) p d->Q (.ref p) H'
noncomputable def FN(X:Cx)(e:Kf)(F:FX):Prop:=PE X e (Du X F)
section
variable{X:Cx}{pos:Pos}
theorem pC{K:Jo}{H:Hp}{O:ay}{p:Ke}{ds:List D}{vs:az}(hp:H p=none)(d:aF K (hid H O) ds vs):dD K (upd H p (.lst vs)) (p::O) p (.lst ds):=⟨_,vs,aD,rfl,d.mono (lW hp)⟩
noncomputable def lB:FX:=λ_=>.ok (.dct [] [])
theorem C3:FN X (.Dict [] [] pos) lB:=PE.weak wm λσ H Q ⟨O,ρ,E,q⟩ p hp=>q p _ (bM hp _) hp ⟨_,aD,trivial⟩ ⟨_,[],aD,bQ.mpr rfl,.inr ⟨[],rfl,rfl,rfl⟩⟩
noncomputable def iA(i:Nat)(f:FX):bu:=λk ρ=>kL (f ρ) k ρ λd=>k.nx (ρ.set i (some (.own d)))
theorem nq{st:Kg}{f:FX}{i:Nat}(hi:i<X.N.length)(h:PS X st (wN (Du X f) (mJ i))):FS X st (iA i f):=λHb Ob pins s σ H E I zq=>zq.elim λO zq=>zq.elim λρ zq=>zq.elim λk zq=>zq.elim λr zq=>zq.elim λS zq=>zq.elim λhF hk=>
 h pins s σ H E I ⟨O,ρ,S.env,cR.on hF hk S λd e p H1 s1 hp m o=>hk.nx _ _ _ H1 (S.setNew (by rw[I.len];exact hi) s1 hp m o) e⟩
end
theorem zj{X:Cx}{F:FX}:∀σ H Q,Du X F σ H Q->Ed X F σ H Q:=λσ H Q zq=>zq.elim λO zq=>zq.elim λρ zq=>zq.elim λE hF=>⟨O,ρ,E,hF.imp λd q D H' total acc e sm hD hD' dn=>by
 subst e;exact q D H' sm hD ⟨_,hD',trivial⟩ ⟨_,acc,hD',rfl,dn⟩⟩
noncomputable def zD(i:Nat)(u:List D->List D->Option (List D))(f:aH):bu:=λk ρ=>match ρ[i]? with
 |some (some (.own (.lst xs)))=>kL (f ρ) k ρ λds=>(rO (u xs ds)).bind λys=>k.nx (ρ.set i (some (.own (.lst ys))))
 |_=>un
noncomputable def zE(K:Jo)(r:V->az->Hp->VK->Prop)(u:List D->List D->Option (List D)):Prop:=
 ∀(H:Hp)(O:ay)(a:Ke)(xs ys as:List D)(ws vs:az)(Q:VK),bV H O->a∈O->H a=some (.lst ws)->aF K (hid H O) xs ws->aF K (hid H O) as vs->u xs as=some ys->(∀ws' v,aF K (hid H O) ys ws'->Q v (upd H a (.lst ws')))->r (.ref a) vs H Q
theorem kD{K:Jo}{H:Hp}{O:ay}{a:Ke}{ys:List D}{ws:az}(ha:a∈O)(h:aF K (hid H O) ys ws):dD K (upd H a (.lst ws)) O a (.lst ys):=⟨_,ws,aD,rfl,h.mono (jq ha)⟩
noncomputable def nX(xs:List D)(ds:List D):Option (List D):=match ds with
 |[y]=>if small (xs.length+1)then some (xs++[y])else none
 |_=>none
theorem uJ{K:Jo}:zE K rS nX:=λH O a xs ys as ws vs Q hO haO ha dx da hu q=>by
 unfold nX at hu;split at hu
 ·rename_i y;obtain⟨h1,h2⟩:=aW hu;subst h2;obtain⟨v,rfl,dv⟩:=da.one
  have:=bU h1
  rw[dx.length]at this;exact⟨a,ws,v,rfl,rfl,ha,by omega,q _ _ (dx.snoc dv)⟩
 ·cases hu
noncomputable def G8(xs:List D)(ds:List D):Option (List D):=match ds with
 |[.int i,y]=>if decide (0<=i/\i<=xs.length)&&small (xs.length+1)then some (xs.take i.toNat++y::xs.drop i.toNat)else none
 |_=>none
noncomputable def lM(i:Nat)(fi fv:FX):bu:=λk ρ=>match ρ[i]? with
 |some (some (.own (.lst xs)))=>kL ((fv ρ).bind λy=>(fi ρ).bind λj=>.ok (y,j)) k ρ λp=>match p.2 with
  |.int j=>match p6 xs.length j with
   |some n=>k.nx (ρ.set i (some (.own (.lst (xs.set n p.1)))))
   |none=>un
  |_=>un
 |_=>un
theorem xS{X:Cx}{i:Nat}{x:Str}{idx value:Kf}{fi fv:FX}{npos tpos pos:Pos}(hx:PE X (.Name x npos) (n5 i))(hi:FE X idx fi)(hv:FE X value fv)
  (hs:swapsWithSole [.Subscript (.Name x npos) idx tpos] value pos.line X.env=pure false:=by rfl) (hw:swappedStores [.Subscript (.Name x npos) idx tpos] value X.env=pure none:=by rfl)
  (h1:(assignEach [.Subscript (.Name x npos) idx tpos] X.env).map (·.2)=[assign (.Subscript (.Name x npos) idx tpos) X.env]:=by rfl)
  (hg:PG X (.Subscript (.Name x npos) idx tpos) (L2.qm (n5 i) (tF X fi) zL)):
  FS X (.Assign [.Subscript (.Name x npos) idx tpos] value pos) (lM i fi fv):=λHb Ob pins s σ H E I zq=>zq.elim λO zq=>zq.elim λρ zq=>zq.elim λk zq=>zq.elim λrr zq=>zq.elim λS zq=>zq.elim λhF hk=>by
 unfold lM at hF;split at hF
 ·rename_i xs hxs;obtain⟨a,ha,haO,hat⟩:=S.env.own i _ hxs;obtain⟨o,vs0,ho,eo,dn⟩:=hat;subst eo;have hP:=cR.on hF hk S (Q:=λp=>(match p.2 with|.int j=>(match p6 xs.length j with|some n=>k.nx (ρ.set i (some (.own (.lst (xs.set n p.1)))))|none=>un)|_=>un)=rr) λp e=>e;refine Bc hv hg hs hw h1 pins s σ H E I ⟨O,ρ,S.env,(cR.bind hP).imp λy hP v H1 s1 d1=>?_⟩;have S1:=S.same s1;refine⟨.ref a,ha,O,ρ,S1.env,((cR.bind hP).mono s1).imp λj hP w H2 s2 d2=>?_⟩;have S2:=S1.same s2;cases j with
  |int j=>
   cases hn:p6 xs.length j with
   |none=>
    have e:(match p6 xs.length j with|some n=>k.nx (ρ.set i (some (.own (.lst (xs.set n y)))))|none=>un)=rr:=hP;rw[hn]at e;exact absurd e.symm hk.ne
   |some n=>
    have e:(match p6 xs.length j with|some n=>k.nx (ρ.set i (some (.own (.lst (xs.set n y)))))|none=>un)=rr:=hP;rw[hn]at e;have s12:=s1.trans s2;refine⟨a,vs0,j,n,rfl,dP.mp d2,s12 _ _ ho,by rw[<-dn.length];exact hn,hk.nx O _ σ _ (S2.setO hxs ha trivial (kD haO ?_)) e⟩;exact(dn.mono (bh s12)).set (d1.mono (bh s2)) n
  |_=>exact absurd (show un=rr from hP).symm hk.ne
 ·exact absurd hF.symm hk.ne
noncomputable def frz(i:Nat)(ρ:ai):ai:=match ρ[i]? with
 |some (some (.own d))=>setV i d ρ
 |_=>ρ
theorem b8.frz{K:Jo}{O:ay}{H:Hp}{ρ:ai}{σ:St}(E:b8 K O H ρ σ)(i:Nat):∃O',b8 K O' H (frz i ρ) σ/\(∀b∈O',b∈O)/\∀b∈O,b∉O'->∃d,ρ[i]?=some (some (.own d))/\σ[i]?=some (some (.ref b)):=by
 unfold TG.frz;split
 ·rename_i d hd;obtain⟨a,ha,haO,hat⟩:=E.own i d hd;have sub:∀b∈O.filter (λb=>decide (b≠a)),b∈O:=λb hb=>(List.mem_filter.mp hb).1;have s:aL (hid H O) (hid H (O.filter λb=>decide (b≠a))):=dE sub;have na:a∉O.filter λb=>decide (b≠a):=λz=>absurd rfl (of_decide_eq_true (List.mem_filter.mp z).2);refine⟨O.filter λb=>decide (b≠a),⟨λj d' e=>?_,λj ys e=>?_,λj l ys zs b q1 q2 q3 q4=>?_,⟨E.all.1,λb hb=>E.all.2 b (sub b hb)⟩⟩,sub,λb hb nb=>?_⟩
  ·rcases aO e with⟨hj,q⟩|⟨ne,q⟩
   ·cases q;rw[hj];exact⟨.ref a,ha,hat.den s na⟩
   ·obtain⟨w,q1,q2⟩:=E.val j d' q;exact⟨w,q1,q2.mono s⟩
  ·rcases aO e with⟨_,q⟩|⟨ne,q⟩
   ·cases q
   ·obtain⟨b,q1,q2,q3⟩:=E.own j ys q;have nb:b≠a:=λz=>ne (E.one j i ys d a q hd (by rw[<-z];exact q1) ha);exact⟨b,q1,List.mem_filter.mpr ⟨q2,decide_eq_true nb⟩,q3.mono rfl s⟩
  ·rcases aO q1 with⟨_,q⟩|⟨_,q⟩
   ·cases q
   ·rcases aO q2 with⟨_,q'⟩|⟨_,q'⟩
    ·cases q'
    ·exact E.one j l ys zs b q q' q3 q4
  ·by_cases z:b=a
   ·exact⟨d,hd,by rw[z];exact ha⟩
   ·exact absurd (List.mem_filter.mpr ⟨hb,decide_eq_true z⟩) nb
 ·exact⟨O,E,λ_ z=>z,λb hb nb=>absurd hb nb⟩
theorem cg.frz{K:Jo}{Hb:Hp}{Ob O:ay}{H:Hp}{ρ:ai}{σ:St}(E:cg K Hb Ob O H ρ σ)(i:Nat):∃O',cg K Hb Ob O' H (frz i ρ) σ:=by
 obtain⟨O',E',sub,gone⟩:=E.env.frz i;refine⟨O',E',⟨E.base.same,λa ha=>?_,λa ha=>E.base.new a (sub a ha)⟩,λj xs a q1 q2=>?_,λj dn q1=>?_⟩
 ·by_cases z:a∈O'
  ·exact z
  ·obtain⟨d,e1,e2⟩:=gone a (E.base.sub a ha) z;exact absurd ha (E.mine i d a e1 e2).2
 ·have q:ρ[j]?=some (some (.own xs)):=by
   unfold TG.frz at q1;split at q1
   ·rcases aO q1 with⟨_,q⟩|⟨_,q⟩
    ·cases q
    ·exact q
   ·exact q1
  exact E.mine j xs a q q2
 ·have bk:∀(l:Nat) x,(TG.frz i ρ)[l]?=some (some x)->(∀d,x≠.val d)->ρ[l]?=some (some x):=λl x e nv=>by
   unfold TG.frz at e;split at e
   ·rcases aO e with⟨_,q⟩|⟨_,q⟩
    ·cases q;exact absurd rfl (nv _)
    ·exact q
   ·exact e
  refine(E.nst j dn (bk j _ q1 (λ_ z=>nomatch z))).to rfl (dE sub) (λb w1 w2 w3 w4 _=>⟨rfl,?_,w2,λl d1 w=>w4 l d1 (bk l _ w (λ_ z=>nomatch z))⟩) λl d1 w=>⟨d1,bk l _ w (λ_ z=>nomatch z)⟩
  by_cases z:b∈O'
  ·exact z
  ·obtain⟨d,e1,e2⟩:=gone b w1 z;exact absurd e2 (w4 i d e1)
noncomputable def oK(i:Nat)(F:bu):bu:=λk ρ=>F k (frz i ρ)
noncomputable def frzs(is:List Nat)(ρ:ai):ai:=is.foldl (λρ i=>frz i ρ) ρ
theorem b8.frzs{K:Jo}{H:Hp}{σ:St}:∀(is:List Nat){O:ay}{ρ:ai},b8 K O H ρ σ->∃O',b8 K O' H (frzs is ρ) σ
 |[],O,_,E=>⟨O,E⟩
 |i::is,_,_,E=>by
  obtain⟨O',E',_⟩:=E.frz i;exact b8.frzs is E'
noncomputable def lX(is:List Nat)(f:bq):bq:=λρ=>y9 (f (frzs is ρ))
end TG
namespace TG
open PySem PySem.Spec L2
variable[aj]
noncomputable def uN(K:Jo)(n:Nat)(g:bv):Sp:=λvs H Q E=>∃O ds,vs.length=n/\bV H O/\aF K (hid H O) ds vs/\match g ds with
 |.ok d=>∀v H',aL H H'->bp K (hid H' O) d v->Q v H'
 |.error (some x)=>Dl K H O x E
 |.error none=>False
section
variable{X:Cx}{k:Nat}{f C:Ke}{fd:KU}{ps:ao}{sp:Sp}{x m:Str}{p pos apos:Pos}{e o:Kf}{es:aX}{ta:TE}{t:TA}
theorem kM{pins:aK}{σ:St}{H:Hp}{s:Kh}{Q:VK}{E:XK}{us:aP}{vs:az}(F:dJ X.prog X.w X.K X.mg X.base (gu X.prog X.w) k f fd ps sp)(hr:cz k X.A)(hb:Binds X.K fd ps [])(hx:eQ (gu X.prog X.w) X σ E)
  (I:`g) (r:Vals vs us) (h:sp vs H Q E):Kt `i X.A (call (.ref f) us) (EP X pins σ Q) X.xe s:=by
 have hl:(us++[]).length=ps.length:=by rw[HB,<-r.length];exact F.len _ _ _ _ h
 have hb':=hb s us I.kIn hl;rw[HB]at hb';refine KY (KZ (F.run X.A X.stack s H ⟨us,[]⟩ us vs Q E hr I.env0 hb' r h) λr s' hq=>?_);cases r with
 |error e=>exact hx pins H s e s' I hq
 |ok fl=>
  cases fl with
  |ret u=>exact I.after hq
  |next=>exact False.elim hq
  |brk=>exact False.elim hq
  |cont=>exact False.elim hq
noncomputable def p7(X:Cx)(sp:Sp)(t:TA):TE:=λσ H Q=>t σ H λvs H1=>∃E,eQ (gu X.prog X.w) X σ E/\sp vs H1 Q E
theorem pW(F:dJ X.prog X.w X.K X.mg X.base (gu X.prog X.w) k f fd ps sp)(hr:cz k X.A)(hg:Gl X x)(hm:X.mg x=some (.ref f))(hk:JB X.K (.ref f)=true)(hb:Binds X.K fd ps [])
  (ha:PA X (e::es) t) (hdb:(x==("__debug__":Str))=false:=by decide) (he:Ku (e::es) X.env=(false,eval e X.env)::Ku es X.env:=by rfl) (hpl:(backTo pos (Ku es X.env)).any (·.1)=false:=by rfl):
  PE X (.Call (.Name x p) (e::es) [] pos) (p7 X sp t):=by
 intro pins s σ H Q I h;refine K1 (jh I hg hm ?_ hdb);refine JC (h₀:=X.base) I.ok.mod.kin hk (b9 (ha pos pins s σ H _ I h) λus s1 zq=>zq.elim λvs zq=>zq.elim λH1 zq=>zq.elim λI1 zq=>zq.elim λr zq=>zq.elim λE zq=>zq.elim λhx q=>⟨I1.kIn,?_⟩) he hpl;exact kM F hr hb hx I1 r q
theorem tu{n:Nat}{g:bv}{f:aH}(hn:∀ds,g ds≠un->ds.length=n):∀σ H Q,tF X (fR g f) σ H Q->p7 X (uN X.K n g) (Dt X f) σ H Q:=λσ H Q zq=>zq.elim λO zq=>zq.elim λρ zq=>zq.elim λE hF=>
 ⟨O,ρ,E,(cR.bind hF).imp fun ds hF vs H1 s1 d1=>by
  cases hg:g ds with
  |ok d=>
   rw[hg]at hF;refine⟨E0,kQ,O,ds,by rw[<-d1.length];exact hn ds (by rw[hg];intro z;cases z),E.all.same s1,d1,?_⟩;rw[hg];exact λv H2 s2 d2=>hF v H2 (s1.trans s2) d2
  |error z=>
   rw[hg]at hF;cases z with
   |none=>exact hF.elim
   |some x=>
    refine⟨nT X O H1 x,kR (zJ.mono hF s1),O,ds,by rw[<-d1.length];exact hn ds (by rw[hg];intro z;cases z),E.all.same s1,d1,?_⟩;rw[hg];exact iZ⟩
end
noncomputable def Callee(P:Kj)(w:Ki)(K:Jo)(mg:bj)(base:Kl)(k:Nat)(x:Str)(ps:ao)(g:bv):Prop:=
 ∃f fd,dJ P w K mg base (gu P w) k f fd ps (uN K ps.length g)/\Binds K fd ps []/\JB K (.ref f)=true/\mg x=some (.ref f)
noncomputable def Ar(n:Nat)(g:bv):Prop:=∀ds,g ds≠un->ds.length=n
noncomputable def K0:Ks:={nx:=λ_=>.ok .non}
noncomputable def env0(n:Nat)(ds:List D):ai:=ds.map (λd=>some (.val d))++List.replicate (n-ds.length) none
noncomputable def aA(B:bu)(np n:Nat):bv:=λds=>if ds.length=np then B K0 (env0 n ds)else un
theorem gM{B:bu}{np n:Nat}:Ar np (aA B np n):=λds h=>by
 unfold aA at h;split at h
 ·assumption
 ·exact absurd rfl h
theorem ej{n:Nat}{ds:List D}(i:Nat)(x:S)(e:(env0 n ds)[i]?=some (some x)):∃d,ds[i]?=some d/\x=.val d:=by
 unfold env0 at e;by_cases hi:i<ds.length
 ·rw[HG (by rw[Hy];exact hi),HH,Ii hi]at e;have e':some (S.val ds[i])=some x:=Option.some.inj e;exact⟨ds[i],by rw[Ii hi],(Option.some.inj e').symm⟩
 ·rw[HE (by rw[Hy];omega),Hy,HF]at e;split at e
  ·cases e
  ·cases e
theorem lh{K:Jo}{O:ay}{H:Hp}{N:ao}{ds:List D}{vs:az}(hO:bV H O)(h:aF K (hid H O) ds vs):b8 K O H (env0 N.length ds) (L2.start N vs):=by
 refine⟨λi d e=>?_,λi xs e=>?_,λi j xs ys a e=>?_,hO⟩
 ·obtain⟨d',e1,e2⟩:=ej i _ e;cases e2;obtain⟨v,e3,e4⟩:=h.get e1;refine⟨v,?_,e4⟩;unfold L2.start;have hi:i<vs.length:=(List.getElem?_eq_some_iff.mp e3).1;rw[HG (by rw[Hy];exact hi),HH,e3];rfl
 ·obtain⟨d',_,e2⟩:=ej i _ e;cases e2
 ·obtain⟨d',_,e2⟩:=ej i _ e;cases e2
section
variable{P:Kj}{w:Ki}{K:Jo}{mg:bj}{base:Kl}
structure BodyOk(P:Kj)(w:Ki)(K:Jo)(mg:bj)(base:Kl)(k:Nat)(N:ao)(qual:Str)(st:Kg)(f:Ke)(B:bu):Prop where
 h:∀(cdv:Kc)(A:Kp)(outer:List Env)(s:Kh)(H:Hp)(E:XK),cz k (A.deeper (J5 qual (aq st) s.heap.objs.size f cdv))->KG (model P w) (A.deeper (J5 qual (aq st) s.heap.objs.size f cdv)) (J5 qual (aq st) s.heap.objs.size f cdv) (eK (gu P w) P w K mg base N qual (aq st) f cdv A outer s H E).xe->
  DB (eK (gu P w) P w K mg base N qual (aq st) f cdv A outer s H E) (ca st) B
theorem CQ{x qual:Str}{st:Kg}{f:Ke}{fd:KU}{N ps:ao}{k:Nat}{sp:Sp}{CX:qd}(F:oN K x qual st f fd)(S:bP N ps (aq st))(len:∀vs H Q E,sp vs H Q E->vs.length=ps.length)
  (hbody:∀ (cdv:Kc) (A:Kp) (outer:List Env) (s:Kh) (H:Hp) (vs:az) (Q:VK) (E:XK),cz k (A.deeper (J5 qual (aq st) s.heap.objs.size f cdv))->sp vs H Q E ->
   ∃t,oM (eK CX P w K mg base N qual (aq st) f cdv A outer s H E) (ca st) t/\t {nx:=λ_ H'=>Q .non H',rt:=Q} (L2.start N vs) H):dJ P w K mg base CX (k+1) f fd ps sp:=by
 obtain⟨oc,od,kV,doc,pm,an,cdv,ct,osl,rfl,lk,hcd⟩:=F.ex;exact zr lk hcd S len λA outer s H vs Q E hr hsp=>hbody cdv A outer s H vs Q E hr hsp
theorem dJ.any{CX:qd}{k:Nat}{f:Ke}{fd:KU}{ps:ao}{sp:Sp}(F:dJ P w K mg base Dv k f fd ps sp):dJ P w K mg base CX k f fd ps sp:=
 ⟨F.len,fun A outer s H args us vs Q E hr he hb hv hs=>KZ (F.run A outer s H args us vs Q E hr he hb hv hs) fun r s' h=>by
  cases r with
  |error e=>exact False.elim h
  |ok fl=>cases fl<;>exact h⟩
theorem n9{x qual:Str}{st:Kg}{f:Ke}{fd:KU}{N ps:ao}{k:Nat}{B:bu}(F:oN K x qual st f fd)(SC:bP N ps (aq st))(hb:BodyOk P w K mg base k N qual st f B):
  dJ P w K mg base (gu P w) (k+1) f fd ps (uN K ps.length (aA B ps.length N.length)):=by
 refine CQ F SC (λvs H Q E h=>?_) λcdv A outer s H vs Q E hr h=>?_
 ·obtain⟨O,ds,h1,_⟩:=h;exact h1
 ·obtain⟨O,ds,h1,h2,h3,h4⟩:=h;have hl:ds.length=ps.length:=h3.length.trans h1;have e4:aA B ps.length N.length ds=B K0 (env0 N.length ds):=by unfold aA;rw[if_pos hl]
  rw[e4]at h4;refine⟨_,hb.h cdv A outer s H E hr PassesOwn.leaving H O,O,env0 N.length ds,K0,_,⟨lh h2 h3,⟨aL.refl H,λ_ z=>z,λa z=>.inl z⟩,λi xs a e=>?_,λi d e=>by obtain⟨d',_,e2⟩:=ej i _ e;cases e2⟩,rfl,?_⟩
  ·obtain⟨d',_,e2⟩:=ej i _ e;cases e2
  ·generalize B K0 (env0 N.length ds)=r at h4;refine⟨λz=>by rw[z]at h4;exact h4,λO' ρ' σ' H' S e=>?_,λO' ρ' σ' H' S e=>?_,λO' ρ' σ' H' S e=>?_,λd O' v H' e b dv=>?_,λO' ρ' σ' H' x S e=>?_⟩
   ·have e:(.ok .non:R D)=r:=e;subst e;exact h4 .non H' S.base.same (fW.mpr rfl)
   ·have e:(un:R D)=r:=e;subst e;exact h4.elim
   ·have e:(un:R D)=r:=e;subst e;exact h4.elim
   ·subst e;exact h4 v H' b.same (dv.mono (dE b.sub))
   ·have e:(.error (some x):R D)=r:=e;subst e;exact vp h4 S.base.same S.base.sub
theorem uz{x qual:Str}{st:Kg}{f:Ke}{fd:KU}{N ps:ao}{k:Nat}{B:bu}(F:oN K x qual st f fd)(b:Binds K fd ps [])(m:mg x=some (.ref f))(SC:bP N ps (aq st))(hb:BodyOk P w K mg base k N qual st f B):
  Callee P w K mg base (k+1) x ps (aA B ps.length N.length):=⟨f,fd,n9 F SC hb,b,F.kp,m⟩
end
theorem xq{K:Jo}{T:String}(h1:JL K (.type "NoneType") (.type T)=some (T=="NoneType"))(h2:JL K (.type "bool") (.type T)=some (T=="bool"||T=="int"))(h3:JL K (.type "int") (.type T)=some (T=="int"))(h4:JL K (.type "str") (.type T)=some (T=="str"))
  (h5:JL K (.type "tuple") (.type T)=some (T=="tuple")) (h6:JL K (.type "list") (.type T)=some (T=="list")):xB K T:=λd hd=>by
 cases d with
 |dct _ _=>cases hd
 |obj _ _ _=>cases hd
 |exc _ _ _=>cases hd
 |non=>exact h1
 |bl _=>exact h2
 |int _=>exact h3
 |str _=>exact h4
 |tup _=>exact h5
 |lst _=>exact h6
theorem qQ{K:Jo}:xB K "tuple":=xq rfl rfl rfl rfl rfl rfl
end TG
namespace TG
open PySem PySem.Spec L2
variable[aj]
section
variable{X:Cx}{a b c:Kf}{fa fb fc:FX}{pos:Pos}
theorem Bk{r:V->Hp->VK->Prop}{g:D->aV}(s:xN X.K r g):∀σ H Q,tF X (f1 g fa) σ H Q->FC r (tF X fa) σ H Q:=λσ H Q zq=>zq.elim λO zq=>zq.elim λρ zq=>zq.elim λE hF=>⟨O,ρ,E,(cR.bind hF).imp λa hF x H1 s1 d1=>by
 obtain⟨d,e,q⟩:=cR.rO hF;exact s a d x O H1 Q (E.all.same s1) e d1 λv H2 s2 d2=>q v H2 (s1.trans s2) d2⟩
noncomputable def Bn(g g':D->D->aV)(fa fb fc:FX):FX:=λρ=>(fa ρ).bind λx=>(fb ρ).bind λy=>(rO (g x y)).bind λz=>qR z ((fc ρ).bind λw=>rO (g' y w))
noncomputable def Ah:D->aV
 |.int i=>some (.int (-i))
 |_=>none
noncomputable def v7(f:FX):FX:=f1 Ah f
noncomputable def xh:D->aV
 |.str x=>if small x.length then some (.str (Txt.upper x))else none
 |_=>none
noncomputable def Bo(f:FX):FX:=f1 xh f
noncomputable def Bg:D->aV
 |.lst xs=>some (.lst xs.reverse)
 |.tup xs=>some (.tup xs.reverse)
 |_=>none
noncomputable def Eh(f:FX):FX:=f1 Bg f
end
end TG
namespace ZI
open PySem PySem.Spec PyProof.Rows
section
variable{prog:Kj}{w:Ki}{A:Kp}{E:Kc->Kh->Prop}{s:Kh}
theorem qB{it t:Ke}{i:Nat}{its:Array Kc}{x:Kc}{Q:Kc->Kh->Prop}(hit:s.heap.IsTupleIter it t i)(ht:s.heap.IsTuple t its)(hx:its[i]?=some x)
  (hQ:∀g,g.IsTupleIter it t (i+1)->JW it s.heap g->Q x {s with heap:=g}):Kt `j A (Builtin.SmallTypes.nextOf (.ref it)) Q E s:=by
 obtain⟨ob,h1,h2,h3⟩:=id hit;obtain⟨ol,g1,_,n,g2⟩:=ht;unfold Builtin.SmallTypes.nextOf;refine Ky (K8 (name:=Str.ofString "__next__") hit.typeIs F.slot_tuple_iterator_next (K9 F.slot_tuple_iterator_next hit.typeIs F.entry_tuple_iterator_next ?_ (F.args_tuple_iterator_next_1 _)));show Kt _ _ (field (.ref it) 0 >>= _) _ _ s;refine Ky (K6 h1 h3 (x:=.ref t) rfl ?_);show Kt _ _ (if(Value.ref t==Value.none)=true then _ else _) _ _ s;rw[if_neg (show¬((Value.ref t==Value.none)=true)from λz=>Hv z)];show Kt _ _ (field (.ref it) 1 >>= _) _ _ s;refine Ky (K6 h1 h3 (x:=.int i 0) rfl ?_);show Kt _ _ (seqItems? (.ref t) >>= _) _ _ s;refine Ky (wpAny_seqItems g1 g2 ?_);simp only[HK,hx];refine Ky (wpAny_setField h1 h3 `h (KC ⟨x,rfl,KC (hQ _ ⟨_,J0 _ h1 (Obj.isFreed_of_fields (Obj.data_mapFields h3 _)),(Obj.cls_mapFields ..).trans h2,by rw[Obj.data_mapFields h3];simp[rawInt]⟩ (Heap.SameBut.update ..))⟩))
theorem uy{it t:Ke}{i:Nat}{its:Array Kc}{Q:Kc->Kh->Prop}(hh:A.handled=none)(hit:s.heap.IsTupleIter it t i)(ht:s.heap.IsTuple t its)(hx:its[i]?=none)
  (hE:∀g e,Heap.ExtBut it s.heap g->(∃o,g.get? e=some o/\o.cls=.type "StopIteration")->E (.ref e) {s with heap:=g}):Kt `j A (Builtin.SmallTypes.nextOf (.ref it)) Q E s:=by
 obtain⟨ob,h1,h2,h3⟩:=id hit;obtain⟨ol,g1,_,n,g2⟩:=ht;unfold Builtin.SmallTypes.nextOf;refine Ky (K8 (name:=Str.ofString "__next__") hit.typeIs F.slot_tuple_iterator_next (K9 F.slot_tuple_iterator_next hit.typeIs F.entry_tuple_iterator_next ?_ (F.args_tuple_iterator_next_1 _)));show Kt _ _ (field (.ref it) 0 >>= _) _ _ s;refine Ky (K6 h1 h3 (x:=.ref t) rfl ?_);show Kt _ _ (if(Value.ref t==Value.none)=true then _ else _) _ _ s;rw[if_neg (show¬((Value.ref t==Value.none)=true)from λz=>Hv z)];show Kt _ _ (field (.ref it) 1 >>= _) _ _ s;refine Ky (K6 h1 h3 (x:=.int i 0) rfl ?_);show Kt _ _ (seqItems? (.ref t) >>= _) _ _ s;refine Ky (wpAny_seqItems g1 g2 ?_);simp only[HK,hx];refine Ky (wpAny_rule (Ky (wpAny_setField h1 h3 `h ?_)));show Kt _ _ (newExc (.type "StopIteration") [] >>= _) _ _ _;refine Ky ?_;simp only[newExc,newTuple];refine Ky (La ?_ (by size_fits));refine Ky (m:=firstArgMember _ _) (wpAny_of_eq (a:=Value.none) (by first|rfl|(simp only[firstArgMember];rfl)) ?_);refine La ?_ (by size_fits);simp only[raiseNew];refine Ky (wpAny_handled ?_)
 first|rw[show A.in1.handled=none from hh]|rw[hh]
 refine Ky (KC (wpAny_throw ?_));exact hE _ _ (((Heap.SameBut.update ..).extBut.push _).push _) ⟨_,JY _ rfl,rfl⟩
end
theorem A4{prog:Kj}{w:Ki}{A:Kp}(hh:A.handled=none)(it t:Ke)(hne:t≠it)(its:Array Kc):Draws prog w A it [it,t] its.size (λi v=>its[i]?=some v) (λi h=>h.IsTupleIter it t i/\h.IsTuple t its)where
 live:=λi h ⟨⟨o,e,_⟩,_⟩=>⟨o,e⟩
 frame:=λi h h' ⟨x,y⟩ k=>⟨x.at λo e=>k it `h o e,let ⟨o,e,r⟩:=y;⟨o,k t `h o e,r⟩⟩
 item:=λi s Q E hi ⟨x,y⟩ hQ=>qB x y (Array.getElem?_eq_getElem hi) λg hg hs=>hQ _ g s.toks (Array.getElem?_eq_getElem hi) ⟨hg,let ⟨o,e,r⟩:=y;⟨o,(hs.2 t hne).trans e,r⟩⟩ hs
 done:=λs Q E ⟨x,y⟩ hE=>uy hh x y `h hE
noncomputable def SQ(b:Bool)(h:Kl)(l:Ke)(xs:Array Kc):Prop:=if b then h.IsList l xs else h.IsTuple l xs
noncomputable def SI(b:Bool)(h:Kl)(i l:Ke)(k:Nat):Prop:=if b then h.IsListIter i l k else h.IsTupleIter i l k
noncomputable def Ez(b:Bool):String:=if b then"list_iterator"else"tuple_iterator"
theorem SI.keep{b:Bool}{h h':Kl}{i l:Ke}{n:Nat}(x:SI b h i l n)(k:∀o,h.get? i=some o->h'.get? i=some o):SI b h' i l n:=by
 cases b with
 |true=>exact Heap.IsListIter.at x k
 |false=>exact Heap.IsTupleIter.at x k
theorem SQ.lt{b:Bool}{h:Kl}{l:Ke}{xs:Array Kc}(x:SQ b h l xs):l<h.objs.size:=by
 cases b with
 |true=>obtain⟨o,e,_⟩:=(show h.IsList l xs from x);exact JV e
 |false=>obtain⟨o,e,_⟩:=(show h.IsTuple l xs from x);exact JV e
theorem SI.get{b:Bool}{h:Kl}{i l:Ke}{n:Nat}(x:SI b h i l n):∃o,h.get? i=some o/\∀v,o.data≠.cell v:=by
 cases b with
 |true=>obtain⟨o,e,_,d⟩:=(show h.IsListIter i l n from x);exact⟨o,e,λv z=>by rw[d]at z;cases z⟩
 |false=>obtain⟨o,e,_,d⟩:=(show h.IsTupleIter i l n from x);exact⟨o,e,λv z=>by rw[d]at z;cases z⟩
theorem SI.new{b:Bool}{h:Kl}{l:Ke}:SI b (h.push {cls:=.type (Ez b),data:=.fields #[.ref l,.int 0 0]}) h.objs.size l 0:=by
 cases b with
 |true=>exact⟨_,JY _ rfl,rfl,rfl⟩
 |false=>exact⟨_,JY _ rfl,rfl,rfl⟩
theorem qw{b:Bool}{prog:Kj}{w:Ki}{A:Kp}{E:Kc->Kh->Prop}{s:Kh}{l:Ke}{xs:Array Kc}{Q:Kc->Kh->Prop}(h:SQ b s.heap l xs)
  (hQ:Q (.ref s.heap.objs.size) {s with heap:=s.heap.push {cls:=.type (Ez b),data:=.fields #[.ref l,.int 0 0]}}):Kt `j A (pyIter (.ref l)) Q E s:=by
 cases b with
 |true=>exact wpAny_pyIter_list h hQ
 |false=>exact wpAny_pyIter_tuple h hQ
theorem rP{prog:Kj}{w:Ki}{A:Kp}(b:Bool)(hh:A.handled=none)(it l:Ke)(hne:l≠it)(its:Array Kc):Draws prog w A it [it,l] its.size (λi v=>its[i]?=some v) (λi h=>SI b h it l i/\SQ b h l its):=by
 cases b with
 |true=>exact Draws.list hh it l hne its
 |false=>exact A4 hh it l hne its
noncomputable abbrev BA(b1:Bool)(h:Kl)(l1:Ke):Kl:=h.push {cls:=.type (Ez b1),data:=.fields #[.ref l1,.int 0 0]}
theorem sR(b : Bool)(l : Ke)(xs : Array Kc): Meets (Builtin.«enumerate.__new__» ⟨[.type "enumerate", .ref l], []⟩) (fun _ R s => SQ b s.heap l xs /\
      R (.ok (.ret (.ref (BA b s.heap l).objs.size))) {s with heap:=(BA b s.heap l).push {cls:=.type "enumerate",data:=.fields #[.none,.bool false,.ref s.heap.objs.size,rawInt 0,.none,.none]}}):=
  .of_wp λprog w A R s h=>by
    obtain⟨hp,g,d,tk,os⟩:=s;obtain⟨q1,h⟩:=h;have hsub:=sub_enumerate;have e1:SQ b (Shared.heap ⟨hp,g,d,tk,os⟩) l xs:=q1
    wp_walk using qw e1
    refine wpAny_stack_any λst=>KC ?_;split
    · rename_i c _ _ _ _ _
      cases(c==Value.type "enumerate")<;>(wp_walk using qw e1;exact⟨_,rfl,h⟩)
    · wp_walk using qw e1
      exact⟨_,rfl,h⟩
end ZI
namespace TG
open PySem PySem.Spec L2 ZI
variable[aj]
section
variable{X:Cx}{pins:aK}{σ:St}{H:Hp}{s:Kh}{h':Kl}
theorem Inv.turnedL{ch:ay}{p:Ke}{o:HO}{t':Nat}(I:`g)(hf:∀b∈ch,mn X pins H b)(k:∀b u,b∉ch->s.heap.get? b=some u->h'.get? b=some u)(hp:s.heap.objs.size<=p)(new:bL X.prog X.w (upd H p o) h' p o):
  Inv X pins σ (upd H p o) {s with heap:=h',toks:=t'}:=by
 have hn:=I.hok.fresh hp;have nch:∀b u,H b=some u->b∉ch:=λb u e z=>by rw[(hf b z).1]at e;cases e
 refine I.step (g':=s.gens) (d':=s.drawn) (ch:=ch) (λb hb=>?_) (λb o _ _ hc e _=>k b o hc e) (λb o _ _ hc e _=>⟨o.slots,k b o hc e⟩) (λb u _ q n=>by rw[ax (Hf (Hc (JV q) hp))];exact n)
  (λb o hc e=>⟨o,k b o hc e⟩) (λb xs q=>by rw[ax (aR q hn)];exact q) (λb u xs q=>by rw[ax (aR q hn)];exact q) (λb ps q=>⟨#[],by rw[ax (aR q hn),q];simp⟩) (λm hm=>?_) (λb u e=>?_) I.bare
 ·obtain⟨_,f1,_,f3,f4,f5⟩:=hf b hb;exact⟨f3,f1,f4,f5⟩
 ·obtain⟨o,es,ep,ho,r⟩:=hm;exact⟨o,es,ep,k _ o (λz=>(hf _ z).2.1 rfl) ho,r⟩
 ·by_cases hb:b=p
  ·subst hb;rw[aD]at e;cases e;exact new
  ·rw[ax hb]at e;refine(I.hok b u e).stay (λc v hc q=>k c v ?_ q) (λc q=>by rw[ax (aR q hn)];exact q) λc xs q=>by rw[ax (aR q hn)];exact q
   rcases hc with z|z
   ·rw[z];exact nch b u e
   ·exact nch c _ z
theorem Inv.turned0{ch:ay}{t':Nat}(I:`g)(hf:∀b∈ch,mn X pins H b)(k:∀b u,b∉ch->s.heap.get? b=some u->h'.get? b=some u):Inv X pins σ H {s with heap:=h',toks:=t'}:=by
 have nch:∀b u,H b=some u->b∉ch:=λb u e z=>by rw[(hf b z).1]at e;cases e
 refine I.step (g':=s.gens) (d':=s.drawn) (ch:=ch) (λb hb=>?_) (λb o _ _ hc e _=>k b o hc e) (λb o _ _ hc e _=>⟨o.slots,k b o hc e⟩) (λ_ _ _ _ n=>n)
  (λb o hc e=>⟨o,k b o hc e⟩) (λ_ _ e=>e) (λ_ _ _ e=>e) (λb ps e=>⟨#[],by rw[e];simp⟩) (λm hm=>?_) (λb u e=>?_) I.bare
 ·obtain⟨_,f1,_,f3,f4,f5⟩:=hf b hb;exact⟨f3,f1,f4,f5⟩
 ·obtain⟨o,es,ep,ho,r⟩:=hm;exact⟨o,es,ep,k _ o (λz=>(hf _ z).2.1 rfl) ho,r⟩
 ·refine(I.hok b u e).stay (λc v hc q=>k c v ?_ q) (λ_ q=>q) λ_ _ q=>q;rcases hc with z|z
  ·rw[z];exact nch b u e
  ·exact nch c _ z
end
noncomputable def SX(K:Jo)(b:Bool)(H:Hp)(a:Ke)(xs:az):Prop:=if b then iW K H a xs else kq K H a xs
theorem SX.same{K:Jo}{b:Bool}{H H':Hp}{a:Ke}{xs:az}(e:aL H H')(h:SX K b H a xs):SX K b H' a xs:=by
 cases b with
 |true=>exact e.seq (show iW K H a xs from h)
 |false=>exact sU e (show kq K H a xs from h)
section
variable{X:Cx}{pins:aK}{σ:St}{H:Hp}{s:Kh}
theorem Inv.sx(I:`g){b:Bool}{a:Ke}{xs:az}(h:SX X.K b H a xs):∃its:aP,Vals xs its/\SQ b s.heap a its.toArray/\xs.length<=Km:=by
 cases b with
 |true=>obtain⟨its,r,p,z⟩:=I.list (show iW X.K H a xs from h);exact⟨its,r,p.isList,z⟩
 |false=>obtain⟨its,r,p,z⟩:=I.tuple (show kq X.K H a xs from h);exact⟨its,r,p,z⟩
theorem Inv.sx_inj(I:`g){b:Bool}{a:Ke}{xs ys:az}(h:SX X.K b H a xs)(h':SX X.K b H a ys):xs=ys:=by
 cases b with
 |true=>exact I.list_inj h h'
 |false=>exact I.tuple_inj h h'
end
noncomputable def yE:D->Option (Bool×List D)
 |.lst xs=>some (true,xs)
 |.tup xs=>some (false,xs)
 |_=>none
theorem u9{K:Jo}{H:Hp}{d:D}{b:Bool}{xs:List D}{v:V}(e:yE d=some (b,xs))(h:bp K H d v):∃a vs,v=.ref a/\SX K b H a vs/\aF K H xs vs:=by
 cases d with
 |lst ys=>cases e;exact bC.mp h
 |tup ys=>cases e;obtain⟨a,vs,e1,e2,e3⟩:=bB.mp h;exact⟨a,vs,e1,kq.of e2,e3⟩
 |_=>cases e
noncomputable def Cu:List D->List D->List D
 |x::xs,y::ys=>.tup [x,y]::Cu xs ys
 |_,_=>[]
noncomputable def Dh:List D->Option (List D)
 |[a,b]=>(yE a).bind λx=>(yE b).bind λy=>some (Cu x.2 y.2)
 |_=>none
noncomputable def E8(f:aH):aH:=λρ=>(f ρ).bind λds=>rO (Dh ds)
section
variable{X:Cx}
theorem G0{a b c:Ke}(h1:a≠b)(h2:a≠c):a∉[b,c]:=λh=>by
 rcases List.mem_cons.mp h with z|z
 ·exact h1 z
 ·exact h2 (List.mem_singleton.mp z)
end
noncomputable def FJ(K:Jo)(b:Bool)(a:Ke):It:=
  ⟨fun i H=>∃ xs,SX K b H a xs/\i < xs.length,
   λi H v H'=>∃p x,v=.ref p/\H p=none/\H'=upd H p (.tup [.int i,x])/\∀xs,SX K b H a xs->xs[i]?=some x,
   λi H=>∃xs,SX K b H a xs/\i=xs.length⟩
theorem sV{P:Kj}{w:Ki}{K:Jo}{es:aX}{k:Nat}{pos:Pos}{b:Bool}{a e it:Ke}(n1:a≠it)(n2:e≠it)(n3:e≠a):Turn P w K (.Tuple es k pos) (FJ K b a) [e,it] e (λi h=>(∃old,IsEnum h e it i old)/\SI b h it a i)where
 mem:=by simp
 obj:=λi h ⟨⟨old,he⟩,s1⟩ c hc=>by
  simp only[IC,IE,or_false]at hc;rcases hc with rfl|rfl
  ·exact⟨_,he,λv q=>by cases q⟩
  ·exact s1.get
 keep:=λi h h' ⟨⟨old,he⟩,s1⟩ kp=>⟨⟨old,kp e `h _ he⟩,s1.keep λo q=>kp it `h o q⟩
 item:=by
  rintro X hP hw hK hc i pins s σ H E I hf ⟨⟨old,he⟩,s1⟩ hg;subst hP hw hK;obtain⟨xs,g1,l1⟩:=hg;obtain⟨its,r1,q1,z1⟩:=Inv.sx I g1;have hh:X.A.in1.handled=none:=I.ok.hd hc;refine wpAny_pyNext_enum_itemD (rP (A:=X.A.in1) b hh it a n1 its.toArray) he ⟨s1,q1⟩ (by rw[Hu,<-r1.length];exact l1) n2 (G0 n2 n3) λu g tk p1 ho t1 hp sz kp=>?_;have e1:its[i]?=some u:=by simpa using p1
  obtain⟨u',hu,ru⟩:=r1.get (i:=i) (x:=xs[i]) (by simp[l1]);rw[e1]at hu;cases hu;refine⟨_,rfl,wpAny_letOwnedTupleGo_enum ho λg' he' sb=>?_⟩;have hpe:s.heap.objs.size≠e:=Hr (JV he);have hp':=sb.extBut _ _ hpe hp;have I':Inv X pins σ (upd H s.heap.objs.size (.tup [.int i,xs[i]])) {s with heap:=g',toks:=tk+1}:=Inv.turnedL (ch:=[e,it]) I hf (λc o hc q=>by
   simp only[IC,IE,or_false,not_or]at hc;exact sb.extBut _ _ hc.1 (kp c o hc.1 hc.2 q)) (Hs _) ⟨by show 2<=Km;decide,[.int i tk,u],.cons ⟨_,rfl⟩ (.cons ru .nil),_,hp',rfl,_,rfl⟩
  have ne:∀c∈[e,it],c≠s.heap.objs.size:=λc hc q=>by
   simp only[IC,IE,or_false]at hc;rcases hc with rfl|rfl
   ·exact hpe q.symm
   ·obtain⟨o,q',_⟩:=s1.get;exact absurd (JV q') (by rw[q];exact He _)
  refine⟨.ref s.heap.objs.size,_,I',rfl,⟨_,xs[i],rfl,I.fresh,rfl,λxs' h=>by rw[Inv.sx_inj I h g1];simp[l1]⟩,⟨⟨u,?_⟩,t1.1.keep λo q=>sb.extBut _ _ n2.symm q⟩,λc hc=>by rw[ax (ne c hc)];exact(hf c hc).1⟩;have ei:((i+1:Nat):Int)=(i:Int)+1:=by omega
  rw[ei];exact he'
 done:=by
  rintro X hP hw hK hc i pins s σ H E I hf ⟨⟨old,he⟩,s1⟩ hg;subst hP hw hK;obtain⟨xs,g1,l1⟩:=hg;obtain⟨its,r1,q1,z1⟩:=Inv.sx I g1;have hh:X.A.in1.handled=none:=I.ok.hd hc;have el:i=its.toArray.size:=by rw[Hu,<-r1.length];exact l1
  refine wpAny_pyNext_enum_endD (rP (A:=X.A.in1) b hh it a n1 its.toArray) he ⟨by rw[<-el];exact s1,q1⟩ λg kp=>⟨rfl,Inv.turned0 (ch:=[e,it]) I hf λc o hc q=>?_⟩
  simp only[IC,IE,or_false,not_or]at hc;exact kp c o hc.2 q
 self:=λ_ _ _ _ _ ⟨⟨old,he⟩,_⟩ h=>wpAny_pyIter_enum he h
noncomputable def eh(i:Nat):List D->List D
 |[]=>[]
 |x::xs=>.tup [.int i,x]::eh (i+1) xs
theorem jr:∀(i:Nat)(xs:List D),(eh i xs).length=xs.length
 |_,[]=>rfl
 |i,x::xs=>by rw[eh,Hw,jr (i+1) xs,Hw]
theorem mO:∀{xs:List D}{k i:Nat}{d:D},(eh k xs)[i]?=some d->∃x,xs[i]?=some x/\d=.tup [.int ((k+i:Nat):Int),x]
 |[],k,i,d,h=>by simp[eh]at h
 |x::xs,k,0,d,h=>by
  rw[eh,IG]at h;cases h;exact⟨x,rfl,rfl⟩
 |x::xs,k,i+1,d,h=>by
  rw[eh,IH]at h;obtain⟨y,h1,h2⟩:=mO h;refine⟨y,by rw[IH];exact h1,?_⟩;rw[h2];congr 4;omega
theorem uj{K:Jo}{Hd:Hp}{b:Bool}{a:Ke}{ds:List D}{vs:az}(h1:SX K b Hd a vs)(g1:aF K Hd ds vs):Walk K Hd (FJ K b a) (eh 0 ds):=λHn O' i hO sm=>
  have s':aL Hd Hn:=sm.trans (aC Hn O')
  ⟨fun d e=>by
    obtain⟨x,e1,rfl⟩:=mO e;have l1:i<ds.length:=(List.getElem?_eq_some_iff.mp e1).1;obtain⟨v,ev,dv⟩:=g1.get e1;refine⟨⟨vs,h1.same s',by rw[<-g1.length];exact l1⟩,λu H2 zq=>zq.elim λp zq=>zq.elim λx' zq=>zq.elim λeu zq=>zq.elim λhp zq=>zq.elim λeH q1=>?_⟩;have z1:=q1 vs (h1.same s');rw[ev]at z1;cases z1;subst eH eu;rw[II];exact⟨bM hp _,dz hO hp (aQ.mpr ⟨.int i,_,rfl,dP.mpr rfl,aQ.mpr ⟨v,_,rfl,dv.mono sm,bQ.mpr rfl⟩⟩)⟩,
   λhl=>by
    rw[jr]at hl;exact⟨vs,h1.same s',by rw[<-g1.length];exact hl⟩⟩
noncomputable def mM:List D->Option (List D)
 |[a]=>(yE a).bind λx=>some (eh 0 x.2)
 |_=>none
noncomputable def fT(f:aH):aH:=λρ=>(f ρ).bind λds=>rO (mM ds)
section
variable{X:Cx}
theorem tP{prog:Kj}{w:Ki}{A:Kp}{E:bf}{s:Kh}{b:Bool}{l:Ke}{xs:Array Kc}{Q:bf}(h1:SQ b s.heap l xs)
  (h:∀g,IsEnum g (s.heap.objs.size+1) s.heap.objs.size 0 .none->SI b g s.heap.objs.size l 0->(∀c o,s.heap.get? c=some o->g.get? c=some o)->Q (.ref (s.heap.objs.size+1)) {s with heap:=g}):Kt `j A (call (.type "enumerate") [.ref l]) Q E s:=by
 refine callType_new F.called_enumerate (by decide) (F.typeCall_enumerate_1 _) (F.newCall_enumerate_1 _) (λobj=>F.args_object_init_2 obj _) F.entry_enumerate_new (sR b l xs) ⟨h1,?_⟩;have z1:(BA b s.heap l).objs.size=s.heap.objs.size+1:=JZ ..
 have g2:=JY (BA b s.heap l) (o:={cls:=.type "enumerate",data:=.fields #[.none,.bool false,.ref s.heap.objs.size,rawInt 0,.none,.none]}) rfl;have g1:SI b ((BA b s.heap l).push {cls:=.type "enumerate",data:=.fields #[.none,.bool false,.ref s.heap.objs.size,rawInt 0,.none,.none]}) s.heap.objs.size l 0:=SI.keep SI.new λo e=>JX _ e;show _/\_;rw[z1]at g2 ⊢;exact⟨⟨_,g2,rfl⟩,h _ g2 g1 λc o e=>JX _ (JX _ e)⟩
theorem yT{pins:aK}{s:Kh}{σ:St}{H:Hp}{O:ay}{es:aX}{k:Nat}{tpos:Pos}{ds r:List D}{vs:az}{us:aP}{RR:It->Hp->Prop}(I:`g)(hc:mM ds=some r)(d1:aF X.K (hid H O) ds vs)(rv:Vals vs us)(q:∀J,Walk X.K (hid H O) J r->RR J H):
  Kt `i X.A (call (.type "enumerate") us) (λv s1=>Kt `i X.A (pyIter v) (PIE X pins σ (.Tuple es k tpos) RR) X.xe s1) X.xe s:=by
 unfold mM at hc;split at hc
 ·rename_i a;obtain⟨⟨b1,xs⟩,e1,hc⟩:=bind_some hc;cases hc;obtain⟨va,rfl,da⟩:=d1.one;obtain⟨u1,rfl,r1⟩:=vals1 rv;obtain⟨a1,ws1,rfl,x1,y1⟩:=u9 e1 da;cases r1;obtain⟨its1,rr1,q1,_⟩:=Inv.sx I (x1.same (aC H O));refine tP q1 λg he s1 kp=>wpAny_pyIter_enum he ?_;refine⟨_,_,_,_,H,rfl,I.kept (t':=s.toks) kp,sV (b:=b1) (Hf q1.lt) (Hr (Nat.lt_add_of_pos_right (by decide))) (Hr (Hc q1.lt (Nat.le_add_right _ 1))),⟨⟨_,he⟩,s1⟩,λb hb=>?_,q _ (uj x1 y1)⟩;have le:s.heap.objs.size<=b:=by
   simp only[IC,IE,or_false]at hb;rcases hb with rfl|rfl
   ·exact Nat.le_add_right _ _
   ·exact Hs _
  exact I.fpOk le (I.hok.fresh le)
 ·cases hc
end
end TG
namespace TG
open PySem PySem.Spec L2
variable[aj]
theorem bO{K:Jo}{c:Str}{C C':Ke}(h:clsAt K c C)(h':clsAt K c C'):C=C':=by
 unfold clsAt at h h';rw[h]at h';cases h';rfl
theorem lw{K:Jo}{H:Hp}{f:Str}:∀{fs:ao}{ds:List D}{vs:az}{d:D},aF K H ds vs->(fs.zip ds).lookup f=some d->∃v,(fs.zip vs).lookup f=some v/\bp K H d v
 |[],_,_,_,_,e=>by simp at e
 |_::_,[],_,_,_,e=>by simp at e
 |g::fs,x::ds,vs,d,h,e=>by
  rw[aQ]at h;obtain⟨v,r,rfl,h1,h2⟩:=h;rw[IJ,HX]at e ⊢;cases hg:f==g with
  |true=>rw[hg]at e;cases e;exact⟨v,rfl,h1⟩
  |false=>rw[hg]at e;exact lw h2 e
theorem jA{f:Str}:∀{fs:ao}{vs:az},fs.contains f=false->(fs.zip vs).lookup f=none
 |[],_,_=>by simp
 |_::_,[],_=>by simp
 |g::fs,x::vs,h=>by
  rw[IK,IL]at h;rw[IJ,HX,h.1];exact jA h.2
noncomputable def bZ(f:Str)(cs:ao)(d:D):aV:=match d with
 |.obj c fs vs=>if cs.contains c then(fs.zip vs).lookup f else none
 |_=>none
noncomputable def gJ(K:Jo)(f:Str)(cs:ao):Prop:=∀c∈cs,∀C,clsAt K c C->me K C/\eA K C f
section
variable{X:Cx}{a o e:Kf}{es:aX}{fa fo:FX}{fas:aH}{f m x:Str}{cs:ao}{pos apos p:Pos}{k k':Nat}{ps:ao}
noncomputable def MethAt(P:Kj)(w:Ki)(K:Jo)(mg:bj)(base:Kl)(k:Nat)(c m:Str)(ps:ao)(g:bv):Prop:=
 ∃C f fd,clsAt K c C/\me K C/\Meth K C m f/\dJ P w K mg base (gu P w) k f fd ps (uN K ps.length g)/\Binds K fd ps []
noncomputable def bi(m:Str)(tbl:List (Str×(bv)))(fo:FX)(fas:aH):FX:=λρ=>(fo ρ).bind λo=>match o with
 |.obj c fs vs=>match tbl.lookup c with
  |some g=>if fs.contains m then un else(fas ρ).bind λas=>g (o::as)
  |none=>un
 |_=>un
noncomputable def lz(P:Kj)(w:Ki)(K:Jo)(mg:bj)(base:Kl)(k:Nat)(m:Str)(ps:ao)(tbl:List (Str×(bv))):Prop:=
 ∀c g,tbl.lookup c=some g->MethAt P w K mg base k c m ps g/\Ar ps.length g
theorem xR{P:Kj}{w:Ki}{K:Jo}{mg:bj}{base:Kl}:lz P w K mg base k m ps []:=λ_ _ h=>nomatch h
theorem u5{P:Kj}{w:Ki}{K:Jo}{mg:bj}{base:Kl}{c:Str}{g:bv}{tbl:List (Str×(bv))}(h:MethAt P w K mg base k c m ps g)(hn:Ar ps.length g)(t:lz P w K mg base k m ps tbl):lz P w K mg base k m ps ((c,g)::tbl):=λc' g' e=>by
 rw[HX]at e;cases hc:c'==c with
 |true=>
  rw[hc]at e;cases e
  have:c'=c:=by simpa using hc
  subst this;exact⟨h,hn⟩
 |false=>rw[hc]at e;exact t c' g' e
theorem MethAt.mono{P:Kj}{w:Ki}{K:Jo}{mg:bj}{base:Kl}{c:Str}{g:bv}(h:MethAt P w K mg base k c m ps g)(hk:k<=k'):MethAt P w K mg base k' c m ps g:=by
 obtain⟨C,f,fd,h1,h2,h3,h4,h5⟩:=h;exact⟨C,f,fd,h1,h2,h3,h4.mono hk,h5⟩
theorem pH{tbl:List (Str×(bv))}{args:aX}{pl:Sem Bool}(tb:lz X.prog X.w X.K X.mg X.base k m ps tbl)(hr:cz k X.A)(ho:FE X o fo)
  (hc:∀ (pins:aK) (s1:Kh) (σ:St) (H1:Hp) (O:ay) (ρ:ai) (a f:Ke) (od:D) (Q:VK) (g:bv) (fd:KU) (w0:V),JB X.K (.ref f)=true->dJ X.prog X.w X.K X.mg X.base (gu X.prog X.w) k f fd ps (uN X.K ps.length g)->Binds X.K fd ps []->Ar ps.length g->Inv X pins σ H1 s1->b8 X.K O H1 ρ σ->bp X.K (hid H1 O) od (.ref a) ->
   (cR X σ O H1 ((fas ρ).bind λas=>g (od::as)) λd=>∀v H',aL H1 H'->bp X.K (hid H' O) d v->Q v H')->
   Kt `i X.A (KQ pos (.ref f) [.ref a] (backTo pos (Ku args X.env)) (backToKw pos (KR [] X.env))) (EP X pins σ Q) X.xe s1)
  (ht:eval (.Call (.Attribute o m apos) args [] pos) X.env=(do
   let ov<-eval o X.env
   standAt apos.atName
   let (f,first)<-holding [ov] (getMethod ov m pl)
   KQ pos f first (backTo pos (Ku args X.env)) (backToKw pos (KR [] X.env)))):
  FE X (.Call (.Attribute o m apos) args [] pos) (bi m tbl fo fas):=by
 rintro pins s σ H Q I ⟨O,ρ,E,hF⟩;refine kx ho I ?_ ht;refine⟨O,ρ,E,(cR.bind hF).imp λd hF v H1 s1 d1=>?_⟩;cases d with
 |obj c fs vs=>
  have hF':cR X σ O H (match tbl.lookup c with|some g=>if fs.contains m then un else(fas ρ).bind λas=>g (.obj c fs vs::as)|none=>un) _:=hF;cases hg:tbl.lookup c with
  |none=>rw[hg]at hF';exact hF'.elim
  |some g=>
   rw[hg]at hF';have hF2:cR X σ O H (if fs.contains m then un else(fas ρ).bind λas=>g (.obj c fs vs::as)) _:=hF';cases hm:fs.contains m with
   |true=>rw[hm]at hF2;exact hF2.elim
   |false=>
    rw[hm]at hF2;have hF3:cR X σ O H ((fas ρ).bind λas=>g (.obj c fs vs::as)) _:=hF2;have d0:=d1;obtain⟨a,ws,ev,g1,g2,C,dx,g3,g4⟩:=DQ.mp d1;obtain⟨⟨C',f,fd,m1,m2,m3,m4,m5⟩,ar⟩:=tb c g hg;have eC:=bO g3 m1;subst eC;subst ev;refine⟨a,C,dx,_,f,rfl,aC H1 O _ _ g4,m2,m3,jA hm,λs2 I2=>?_⟩;exact hc pins s2 σ H1 O ρ a f _ Q g fd (.ref a) m3.kp m4 m5 ar I2 (E.same s1) d0 ((hF3.mono s1).imp λd q v H2 s2 d2=>q v H2 (s1.trans s2) d2)
 |_=>exact hF.elim
theorem lF{σ:St}{O:ay}{H:Hp}{g:bv}{ds:List D}{vs:az}{Q:VK}{n:Nat}(ar:Ar n g)(hO:bV H O)(d1:aF X.K (hid H O) ds vs)(h:cR X σ O H (g ds) λd=>∀v H',aL H H'->bp X.K (hid H' O) d v->Q v H'):∃E,eQ (gu X.prog X.w) X σ E/\uN X.K n g vs H Q E:=by
 cases hg:g ds with
 |ok d=>
  rw[hg]at h;refine⟨E0,kQ,O,ds,by rw[<-d1.length];exact ar ds (by rw[hg];intro z;cases z),hO,d1,?_⟩;rw[hg];exact h
 |error z=>
  rw[hg]at h;cases z with
  |none=>exact h.elim
  |some x=>
   refine⟨nT X O H x,kR h,O,ds,by rw[<-d1.length];exact ar ds (by rw[hg];intro z;cases z),hO,d1,?_⟩;rw[hg];exact iZ
theorem tN{P:Kj}{w:Ki}{K:Jo}{mg:bj}{base:Kl}{c y qual:Str}{C f:Ke}{fd:KU}{st:Kg}{N:ao}{B:bu}(h1:clsAt K c C)(h2:me K C)(h3:Meth K C m f)(F:oN K y qual st f fd)(b:Binds K fd ps [])(SC:bP N ps (aq st))(hb:BodyOk P w K mg base k N qual st f B):
  MethAt P w K mg base (k+1) c m ps (aA B ps.length N.length):=⟨C,f,fd,h1,h2,h3,n9 F SC hb,b⟩
noncomputable def Gm(C:Ke)(fs:ao):Sp:=λvs H Q _=>∃x dx as,vs=.ref x::as/\as.length=fs.length/\H x=some (.ins C dx [])/\Q .non (upd H x (.ins C dx (fs.zip as)))
noncomputable def gE(P:Kj)(w:Ki)(K:Jo)(mg:bj)(base:Kl)(k:Nat)(c:Str)(ps fs:ao):Prop:=
 ∃C f fd,clsAt K c C/\Mk K C f/\dJ P w K mg base (gu P w) k f fd ps (Gm C fs)/\Binds K fd ps []/\mg c=some (.ref C)
noncomputable def fNew(c:Str)(fs:ao)(fas:aH):FX:=λρ=>(fas ρ).bind λas=>if as.length=fs.length then .ok (.obj c fs as)else un
theorem o4{K:Jo}{H1:Hp}{O:ay}{c:Str}{fs:ao}{as:List D}{vs:az}{C x dx:Ke}(hc:clsAt K c C)(hl:as.length=fs.length)(d1:aF K (hid H1 O) as vs)(hO:bV H1 O)(hx:H1 x=none)(hd:H1 dx=none)(ne:dx≠x):
  aL H1 (upd (upd (upd H1 dx (.own x)) x (.ins C dx [])) x (.ins C dx (fs.zip vs)))/\bp K (hid (upd (upd (upd H1 dx (.own x)) x (.ins C dx [])) x (.ins C dx (fs.zip vs))) O) (.obj c fs as) (.ref x):=by
 have sm:aL H1 (upd (upd (upd H1 dx (.own x)) x (.ins C dx [])) x (.ins C dx (fs.zip vs))):=λb o h=>by
  have n1:=aR h hx;have n2:=aR h hd;rw[ax n1,ax n1,ax n2];exact h
 exact⟨sm,DQ.mpr ⟨x,vs,rfl,d1.mono (bh sm),by rw[<-d1.length,hl],C,dx,hc,by rw[j0 (hO.not hx),aD]⟩⟩
theorem Cj{X:Cx}:qy (gu X.prog X.w) X E0:=λ_ _ _ _ _ _ _ h=>by
 obtain⟨_,_,_,_,_,_,_,_,_,_,_,_,_,_,z⟩:=h;exact z.elim
theorem lG(f:Str)(v:V):∀{fs:List (Str×V)},(fs.map (·.1)).contains f=false->gl f v fs=fs++[(f,v)]
 |[],_=>rfl
 |(g,w)::fs,h=>by
  rw[Hx,IK,IL]at h;have ne:¬g=f:=λz=>by
   have:=h.1
   rw[z]at this;simp at this
  have:=lG f v (fs:=fs) h.2
  unfold gl;simp only[ne,if_false,this,HZ]
noncomputable def rH(X:Cx)(cs:ao)(body:b7)(fs:ao)(i:Nat):Prop:=
 ∃t,oM X body t/\∀(D:Ends)(σ:St)(H:Hp)(x dx C:Ke)(done:List (Str×V))(as:az),σ[0]?=some (some (.ref x))->(∀j v,as[j]?=some v->σ[i+j]?=some (some v))->as.length=fs.length->me X.K C->(∀f∈fs,eA X.K C f)->done.length+fs.length<1000->(done.map (·.1)++fs).Nodup->H x=some (.ins C dx done)->
  D.nx σ (upd H x (.ins C dx (done++fs.zip as)))->t D σ H
theorem j7{st:Kg}{f:Str}{i:Nat}{o v:Kf}{p1 p2:Pos}(hst:st=.Assign [.Attribute o f p1] v p2)(ho:PE X o (n5 0))(hv:PE X v (n5 i))(hs:swapsWith v (some (.Attribute o f p1)) p2.line X.env=pure false):rH X cs [st] [f] i:=by
 subst hst;refine⟨_,kN (xf ho hv hs),λD σ H x dx C done as h0 ha hl cl na hz nd hx q=>?_⟩;obtain⟨a,rfl⟩:∃a,as=[a]:=by
  match as,hl with
  |[a],_=>exact⟨a,rfl⟩
 refine⟨a,ha 0 a rfl,.ref x,h0,x,C,dx,done,rfl,hx,cl,na f (List.mem_singleton.mpr rfl),by simp at hz;omega,?_⟩;rw[lG f a (by
  have:=nd
  rw[IM]at this;have h3:=this.2.2;cases hc:(done.map (·.1)).contains f with
  |false=>rfl
  |true=>exact absurd rfl (h3 f (List.contains_iff_mem.mp hc) f (List.mem_singleton.mpr rfl)))]
 exact q
theorem ly{st:Kg}{rest:b7}{f:Str}{fs:ao}{i:Nat}{o v:Kf}{p1 p2:Pos}(hst:st=.Assign [.Attribute o f p1] v p2)(ho:PE X o (n5 0))(hv:PE X v (n5 i))(hs:swapsWith v (some (.Attribute o f p1)) p2.line X.env=pure false)(hr:rH X cs rest fs (i+1)):rH X cs (st::rest) (f::fs) i:=by
 subst hst;obtain⟨t,ht,hq⟩:=hr;refine⟨_,lJ (xf ho hv hs) ht,λD σ H x dx C done as h0 ha hl cl na hz nd hx q=>?_⟩;obtain⟨a,as,rfl⟩:∃a r,as=a::r:=by
  match as,hl with
  |a::r,_=>exact⟨a,r,rfl⟩
 have hno:(done.map (·.1)).contains f=false:=by
  have:=nd
  rw[IM]at this;have h3:=this.2.2;cases hc:(done.map (·.1)).contains f with
  |false=>rfl
  |true=>exact absurd rfl (h3 f (List.contains_iff_mem.mp hc) f Hj)
 refine⟨a,ha 0 a rfl,.ref x,h0,x,C,dx,done,rfl,hx,cl,na f Hj,by simp at hz;omega,?_⟩;rw[lG f a hno];refine hq D σ _ x dx C (done++[(f,a)]) as h0 (λj v e=>?_) (by simpa using hl) cl (λg hg=>na g (Hk _ hg)) (by simp at hz ⊢;omega) (by simpa [IB]using nd) (by rw[aD]) ?_
 ·have:=ha (j+1) v (by simpa using e)
  rw[show i+1+j=i+(j+1)by omega];exact this
 ·rw[yZ,IB];exact q
theorem jH{P:Kj}{w:Ki}{K:Jo}{mg:bj}{base:Kl}{c qual:Str}{C f:Ke}{fd:KU}{st:Kg}{fs:ao}(h1:clsAt K c C)(hM:Mk K C f)(cl:me K C)(na:∀g∈fs,eA K C g)(F:oN K "__init__" qual st f fd)(b:Binds K fd ps [])(hmg:mg c=some (.ref C))(SC:bP ps ps (aq st))(hps:ps.length=fs.length+1)(hnd:fs.Nodup)(hlen:fs.length<1000)
  (hb:∀(cdv:Kc)(A:Kp)(outer:List Env)(s:Kh)(H:Hp)(E:XK),rH (eK Dv P w K mg base ps qual (aq st) f cdv A outer s H E).nox [] (ca st) fs 1):gE P w K mg base (k+1) c ps fs:=by
 refine⟨C,f,fd,h1,hM,?_,b,hmg⟩;refine dJ.any (F.ok SC (λvs H Q E h=>?_) λcdv A outer s H vs Q E hr h=>?_)
 ·obtain⟨x,dx,as,rfl,hl,_⟩:=h;rw[Hw,hl,hps]
 ·obtain⟨t,ht,hq⟩:=hb cdv A outer s H E;obtain⟨x,dx,as,rfl,hl,hx,q⟩:=h;have hst:L2.start ps (.ref x::as)=(.ref x::as).map some:=by
   unfold L2.start;rw[Hw,hl,hps,IP,IQ,HB]
  refine⟨t,ht,hq _ _ H x dx C [] as (by rw[hst];rfl) (λj v e=>?_) hl cl na (by simpa using hlen) (by simpa using hnd) hx q⟩;rw[hst,Nat.add_comm,Hx,IH,HH,e];rfl
end
end TG
namespace TG
open PySem PySem.Spec L2
variable[aj]
section
variable{X:Cx}
noncomputable def js:List D->Option (ao)
 |[]=>some []
 |.str x::r=>(js r).bind λys=>some (x::ys)
 |_=>none
theorem nS:∀{ds:List D}{ys:ao},js ds=some ys->ds=ys.map .str
 |[],ys,h=>by cases h;rfl
 |d::ds,ys,h=>by
  cases d with
  |str x=>
   have h':(js ds).bind (λys=>some (x::ys))=some ys:=h;cases e:js ds with
   |none=>rw[e]at h';cases h'
   |some zs=>
    rw[e]at h';cases h';rw[nS e];rfl
  |_=>cases h
theorem nA{K:Jo}{H:Hp}:∀{ys:ao}{vs:az},aF K H (ys.map .str) vs->vs=ys.map .str
 |[],vs,h=>bQ.mp h
 |y::ys,vs,h=>by
  obtain⟨v,r,rfl,h1,h2⟩:=aQ.mp h;rw[dq.mp h1,nA h2];rfl
theorem sy:∀{ys:ao}{its:aP},Vals (ys.map .str) its->PyProof.Rows.StrsAre its ys
 |[],_,.nil=>.nil
 |y::ys,_,.cons h t=>by
  obtain⟨t',rfl⟩:=h;exact .cons y t' (sy t)
noncomputable def rJoin(K:Jo):V->az->Hp->VK->Prop:=λx xs H Q=>∃z l ys,x=.str z/\xs=[.ref l]/\iW K H l (ys.map V.str)/\(ys.map (λy=>y.length)).sum+ys.length*z.length<=100000/\Q (.str (Txt.join z ys)) H
theorem yR:Ga X "str.join" (rJoin X.K):=by
 rintro pins s σ H x xs v us Q I rx rs ⟨z,l,ys,ex,exs,hl,hz,q⟩;subst ex exs;obtain⟨t,rfl⟩:=rx;obtain⟨u,rfl⟩:∃u,us=[u]:=by
  cases rs with
  |cons _ t=>cases t;exact⟨_,rfl⟩
 have ru:RelV (.ref l) u:=by cases rs with|cons h _=>exact h
 cases ru;obtain⟨its,r,ht,_⟩:=I.list hl;exact PyProof.Rows.join_list ht.isList (sy r) `o λt' k=>⟨.str _,H,I.tok _,⟨_,rfl⟩,q⟩
noncomputable def Ds:D->Option Str
 |.str z=>some z
 |_=>none
theorem yh{K:Jo}{H:Hp}{d:D}{z:Str}{v:V}(e:Ds d=some z)(h:bp K H d v):v=.str z:=by
 cases d with
 |str y=>cases e;exact dq.mp h
 |_=>cases e
noncomputable def nO(z:Str)(as:List D):aV:=match as with
 |[.lst xs]=>(js xs).bind λys=>if small ((ys.map (λy=>y.length)).sum+ys.length*z.length)then some (.str (Txt.join z ys))else none
 |_=>none
noncomputable def rm(f:FX)(g:aH):FX:=λρ=>(f ρ).bind λa=>(rO (Ds a)).bind λz=>(g ρ).bind λds=>rO (nO z ds)
theorem nY{K:Jo}{H:Hp}{O:ay}{z:Str}{ds:List D}{d:D}{vs:az}{Q:VK}(hg:nO z ds=some d)(hd:aF K (hid H O) ds vs)(q:∀v,bp K (hid H O) d v->Q v H):rJoin K (.str z) vs H Q:=by
 unfold nO at hg;split at hg
 ·rename_i xs;cases e:js xs with
  |none=>rw[e]at hg;cases hg
  |some ys=>
   rw[e]at hg;obtain⟨h1,h2⟩:=aW hg;subst h2;obtain⟨v,ev,h1'⟩:=hd.one;obtain⟨l,ws,el,hl,hw⟩:=bC.mp h1';rw[nS e]at hw;rw[nA hw]at hl;exact⟨z,l,ys,rfl,by rw[ev,el],(aC H O).seq hl,of_decide_eq_true h1,q _ (dq.mpr rfl)⟩
 ·cases hg
noncomputable def EG(a b:D):aV:=match a,b with
 |.bl c,.bl d=>some (.bl (c==d))
 |_,_=>none
noncomputable def x4(a b:D):aV:=match a,b with
 |.bl c,.bl d=>some (.bl (!(c==d)))
 |_,_=>none
end
section
variable{X:Cx}{C:Ke}{pins:aK}{σ:St}{H:Hp}{s:Kh}{Q:VK}
end
noncomputable def v5(K:Jo)(mg:bj)(x:Str)(cs:ao):Prop:=∃C,mg x=some (.ref C)/\∀c∈cs,∀D,clsAt K c D->JN K (.ref D) C=true
noncomputable def pR(cs:ao)(d:D):aV:=match d with
 |.obj c _ _=>if cs.contains c then some (.bl true)else none
 |_=>none
noncomputable def B9(K:Jo)(C:Ke):az->Hp->VK->Prop:=λxs H Q=>∃p D dx fs,xs=[.ref p,.ref C]/\H p=some (.ins D dx fs)/\JN K (.ref D) C=true/\Q (.bl true) H
section
variable{X:Cx}{p pos:Pos}{e:Kf}{C:Ke}
theorem tM:dA X (.builtin "isinstance") (B9 X.K C):=by
 rintro pins s σ H xs us Q I r ⟨p,D,dx,fs,ex,hp,hi,q⟩;subst ex;obtain⟨u,w',rfl,rx,rt⟩:=vals2 r;cases rx;cases rt;obtain⟨_,_,_,ob,_⟩:=(show bL X.prog X.w H s.heap p (.ins D dx fs)from I.hok p _ hp)
 exact PySem.W.isi_call I.kIn (λM=>show PySem.W.Looks M s.heap (typeOf (.ref p)) (.ref D)from(PySem.W.Looks.ld ob).andThen .now) hi (λz=>nomatch z) ⟨.bl true,H,I,rfl,q⟩
end
end TG
namespace TG
open PySem PySem.Spec PyProof.Rows L2
variable[aj]
noncomputable def o5:List D->List D->Option Bool
 |[],[]=>some false
 |[],_::_=>some true
 |_::_,[]=>some false
 |a::as,b::bs=>match a,b with
  |.int i,.int j=>if i=j then o5 as bs else some (decide (i<j))
  |.str x,.str y=>if x=y then o5 as bs else some (decide (x.cps.toList<y.cps.toList))
  |_,_=>none
inductive eX:aP->List D->Prop where
 |nil:eX [] []
 |int (i:Int) (t:Tok) {vs:aP} {ds:List D} (h:eX vs ds):eX (.int i t::vs) (.int i::ds)
 |str (x:Str) (t:Tok) {vs:aP} {ds:List D} (h:eX vs ds):eX (.str x t::vs) (.str x::ds)
theorem eX.length{vs:aP}{ds:List D}(h:eX vs ds):vs.length=ds.length:=by
 induction h with
 |nil=>rfl
 |int _ _ _ ih=>rw[Hw,Hw,ih]
 |str _ _ _ ih=>rw[Hw,Hw,ih]
theorem CI(A:Kp)(s:Kh)(a:Int)(t:Tok)(c:Int)(u:Tok):∃e,SeqAt.EqAt A s (.int a t) (.int c u) e/\(e=true↔a=c):=
 ⟨(a==c),SeqAt.EqAt.int_int a t c u,by simp⟩
theorem BC(A:Kp)(s:Kh)(a:Str)(t:Tok)(c:Str)(u:Tok):∃e,SeqAt.EqAt A s (.str a t) (.str c u) e/\(e=true↔a=c):=
 ⟨(a==c),SeqAt.EqAt.str_str a t c u,by simp⟩
theorem C7(A:Kp)(s:Kh)(a:Str)(t:Tok)(c:Str)(u:Tok)(prog:Kj)(w:Ki)(E:bf)(Q:bf)(h:Q (.bool (decide (a.cps.toList<c.cps.toList))) s):
  Kt `j A (richCompare .Lt (.str a t) (.str c u)) Q E s:=
 (PySem.P.lt_str h:Kt `j A (KL .Lt (.str a t) (.str c u)) Q E s)
section
open PySem.SeqAt
open PySem.AutoSeq1 (wpAny_loadPart')
open PySem.MeetsSeq PySem.MeetsSeq2 PySem.MeetsSeq3
set_option maxHeartbeats 1000000 in
theorem mr(l b:Ke)(items items2:Array Kc)(n n2:Nat)(dd dd2:Option Ke)(sl sl2:Array (Option Kc))(ns ms:List D)(r:Bool)(hi:eX items.toList ns)(hj:eX items2.toList ms)(hr:o5 ns ms=some r):
  Meets (Builtin.«tuple.__lt__» ⟨[.ref l,.ref b],[]⟩)
   (fun _ R s=>s.heap.get? l=some { cls:=.type "tuple",dict:=dd,data:=.seq items n,slots:=sl }/\s.heap.get? b=some { cls:=.type "tuple",dict:=dd2,data:=.seq items2 n2,slots:=sl2 } /\
    R (.ok (.ret (.bool r))) s):=
 .of_wp λprog w A R s h=>by
  obtain⟨hp,g,d,tk,os⟩:=s;obtain⟨hl,hb,h⟩:=h;have f2:=AutoSeq1.sub_tuple_tuple;have z1:items.size=ns.length:=by rw[<-hi.length];simp
  have z2:items2.size=ms.length:=by rw[<-hj.length];simp
  wp_walk using wpAny_loadPart' hl,wpAny_loadPart' hb,wpAny_forIn_list _ (λrest b s'=>b.1=none/\s'=⟨hp,g,d,tk,os⟩/\∃(vs ws:aP)(ns' ms':List D),rest=vs.zip ws/\
   eX vs ns'/\eX ws ms'/\ns'.length+items2.size=ms'.length+items.size/\o5 ns' ms'=some r/\R (.ok (.ret (.bool r))) ⟨hp,g,d,tk,os⟩) _
  case turn=>
   rintro⟨y,x⟩ rest b s' ⟨hb',rfl,vs,ws,ns',ms',hz,hvi,hwi,hlen,hL,hR⟩;cases hvi with
   |nil=>rw[List.zip_nil_left]at hz;cases hz
   |int a t hvi'=>
    cases hwi with
    |nil=>rw[IR]at hz;cases hz
    |str c u hwi'=>cases hL
    |int c u hwi'=>
     rw[IJ]at hz;injection hz with hyx hrest;injection hyx with hy hx;subst hy hx;have hL':(if a=c then o5 _ _ else some (decide (a<c)))=some r:=hL;simp only[Hw]at hlen;obtain⟨e,he,hiff⟩:=CI A.in1 ⟨hp,g,d,tk,os⟩ a t c u;refine Ky (he prog w _ _ ?_);cases e with
     |true=>
      rw[if_pos (hiff.mp rfl)]at hL'
      wp_walk
      exact⟨rfl,rfl,_,_,_,_,hrest,hvi',hwi',by omega,hL',hR⟩
     |false=>
      rw[if_neg (λq=>absurd (hiff.mpr q) Hv)]at hL';cases hL';have hri:=HT.BQ A.in1 ⟨hp,g,d,tk,os⟩ a t c u prog w
      wp_walk using hri
      exact⟨_,rfl,by simpa using hR⟩
   |str a t hvi'=>
    cases hwi with
    |nil=>rw[IR]at hz;cases hz
    |int c u hwi'=>cases hL
    |str c u hwi'=>
     rw[IJ]at hz;injection hz with hyx hrest;injection hyx with hy hx;subst hy hx;have hL':(if a=c then o5 _ _ else some (decide (a.cps.toList<c.cps.toList)))=some r:=hL;simp only[Hw]at hlen;obtain⟨e,he,hiff⟩:=BC A.in1 ⟨hp,g,d,tk,os⟩ a t c u;refine Ky (he prog w _ _ ?_);cases e with
     |true=>
      rw[if_pos (hiff.mp rfl)]at hL'
      wp_walk
      exact⟨rfl,rfl,_,_,_,_,hrest,hvi',hwi',by omega,hL',hR⟩
     |false=>
      rw[if_neg (λq=>absurd (hiff.mpr q) Hv)]at hL';cases hL';have hri:=C7 A.in1 ⟨hp,g,d,tk,os⟩ a t c u prog w
      wp_walk using hri
      exact⟨_,rfl,by simpa using hR⟩
  case fin=>
   rintro⟨b1,b2⟩ s' ⟨hb',rfl,vs,ws,ns',ms',hz,hvi,hwi,hlen,hL,hR⟩;simp only at hb';subst hb';have hv:r=decide (items.size<items2.size):=by
    have l1:=hvi.length;have l2:=hwi.length;cases ns' with
    |nil=>
     cases ms' with
     |nil=>
      simp only[HV]at hlen;cases hL;exact(decide_eq_false `o).symm
     |cons c u=>
      simp only[HV,Hw]at hlen;cases hL;exact(decide_eq_true `o).symm
    |cons a t=>
     cases ms' with
     |nil=>
      simp only[HV,Hw]at hlen;cases hL;exact(decide_eq_false `o).symm
     |cons c u=>
      have:=congrArg List.length hz
      simp only[HV,List.length_zip,l1,l2,Hw]at this;omega
   rw[hv]at hR
   wp_walk
   exact⟨_,rfl,by simpa [Builtin.Tuple.tupleCompareSizes]using hR⟩
  case h=>
   exact⟨rfl,rfl,items.toList,items2.toList,ns,ms,rfl,hi,hj,by omega,hr,h⟩
end
section
variable{X:Cx}
theorem ux{α:Type}{c:Bool}{o:Option α}{a:α}(h:(if c then o else none)=some a):c=true/\o=some a:=by
 cases c with
 |true=>exact⟨rfl,h⟩
 |false=>cases h
theorem qX{prog:Kj}{w:Ki}{A:Kp}{E:bf}{s:Kh}{l b:Ke}{items items2:Array Kc}{ns ms:List D}{r:Bool}{Q:bf}(hl:IsTup s.heap l items)(hb:IsTup s.heap b items2)(hi:eX items.toList ns)(hj:eX items2.toList ms)(hr:o5 ns ms=some r)
  (hu:A.units<KS) (h:Q (.bool r) s):Kt `j A (KL .Lt (.ref l) (.ref b)) Q E s:=by
 obtain⟨⟨cls,dd,data,sl⟩,ho,hc,n,hd⟩:=id hl;obtain⟨⟨cls2,dd2,data2,sl2⟩,ho2,hc2,n2,hd2⟩:=id hb;simp only at hc hd hc2 hd2;subst hc hd hc2 hd2;exact richCompare_meets_room (op:=.Lt) ⟨_,ho,rfl⟩ ⟨_,ho2,rfl⟩ PySem.F.slot_tuple_lt PySem.F.entry_tuple_lt (PySem.F.args_tuple_lt_2 _ _) (mr l b items items2 n n2 dd dd2 sl sl2 ns ms r hi hj hr)
  ⟨ho,ho2,show Value.bool r≠Value.notImplemented/\Q (.bool r) s from⟨(λx=>nomatch x),h⟩⟩ hu
noncomputable def pq:List D->Bool
 |[]=>true
 |.int _::r=>pq r
 |.str _::r=>pq r
 |_=>false
theorem jc{K:Jo}{H:Hp}:∀{ds:List D}{vs:az}{us:aP},pq ds=true->aF K H ds vs->Vals vs us->eX us ds
 |[],vs,us,_,h,r=>by
  rw[bQ]at h;subst h;cases r;exact .nil
 |d::ds,vs,us,hf,h,r=>by
  obtain⟨v,r',e,h1,h2⟩:=aQ.mp h;subst e;cases r with
  |cons q1 q2=>
   cases d with
   |int i=>
    rw[dP]at h1;subst h1;obtain⟨t,rfl⟩:=q1;exact .int i t (jc hf h2 q2)
   |str x=>
    rw[dq]at h1;subst h1;obtain⟨t,rfl⟩:=q1;exact .str x t (jc hf h2 q2)
   |_=>cases hf
noncomputable def pI(a b:D):aV:=match a,b with
 |.int i,.int j=>some (.bl (decide (i<j)))
 |.str x,.str y=>some (.bl (decide (x.cps.toList<y.cps.toList)))
 |.tup xs,.tup ys=>if pq xs&&pq ys then(o5 xs ys).bind λr=>some (.bl r)else none
 |_,_=>none
theorem uP(hu:X.A.units+64<KS):iG X (KL .Lt) (rD X.K pI):=by
 rintro pins s σ H x y u v Q I rx ry ⟨O,a,b,d,hO,ha,hb,hg,q⟩;cases a with
 |int i=>
  cases b with
  |int j=>
   cases hg;exact Ce pins s σ H x y u v Q I rx ry ⟨i,j,dP.mp ha,dP.mp hb,q _ H (aL.refl H) (gD.mpr rfl)⟩
  |_=>cases hg
 |str i=>
  cases b with
  |str j=>
   cases hg;exact uK pins s σ H x y u v Q I rx ry ⟨i,j,dq.mp ha,dq.mp hb,q _ H (aL.refl H) (gD.mpr rfl)⟩
  |_=>cases hg
 |tup xs=>
  cases b with
  |tup ys=>
   obtain⟨h1,h2⟩:=ux hg;obtain⟨r,e1,e2⟩:=bind_some h2;cases e2;rw[HM]at h1;obtain⟨p,vs,ex,g1,g2⟩:=bB.mp ha;obtain⟨p',vs',ey,g1',g2'⟩:=bB.mp hb;subst ex ey;cases rx;cases ry;obtain⟨its,r1,t1,_⟩:=I.tuple (bJ (aC H O) g1);obtain⟨its2,r2,t2,_⟩:=I.tuple (bJ (aC H O) g1');exact qX t1 t2 (jc h1.1 g2 r1) (jc h1.2 g2' r2) e1 `o (vR I (q _ H (aL.refl H) (gD.mpr rfl)) rfl)
  |_=>cases hg
 |_=>cases hg
end
end TG
namespace TG
open PySem PySem.Spec L2
variable[aj]
end TG
namespace TG
open PySem PySem.Spec PyProof.Rows PySem.W L2
variable[aj]
end TG
namespace TG
open PySem PySem.Spec PyProof.Rows PySem.W L2
noncomputable abbrev setG(st:SortSt)(g:Nat):SortSt:=SortSt.mk' (kindOf st) (arrOf st) (pendingOf st) g (failedOf st)
structure Jn(R:Nat->Nat->Prop)(B0 out a b:List Nat):Prop where
 so:out.Pairwise R
 sa:a.Pairwise R
 sb:b.Pairwise R
 la:∀x∈out,∀y∈a,R x y
 lb:∀x∈out,∀y∈b,R x y
 pm:(out++(a++b)).Perm B0
noncomputable abbrev S7:=Option (Array Li)×Array Li×Nat×Nat×Nat×Nat×Nat
section
variable{prog:Kj}{w:Ki}{A:Kp}{E:bf}{s:Kh}{κ:SortKind}{it:Array Li}{r:Nat->Nat}{N:Nat}{a b:Array Nat}{B0:List Nat}
noncomputable def En(it:Array Li)(r:Nat->Nat)(B0:List Nat)(x:Array Li):Prop:=∃q:Array Nat,x=q.map (kas_item it)/\(q.toList.Pairwise λx y=>r x<=r y)/\q.toList.Perm B0
end
noncomputable abbrev Cv(a b out:Array Li)(na nb:Nat):Array Li:=a.extract 0 na++b.extract 0 nb++out.reverse
noncomputable abbrev EA(a b out:Array Li)(na nb:Nat):Array Li:=b.extract 0 nb++a.extract 0 na++out.reverse
noncomputable abbrev H6:=Option (Array Li)×Nat×Nat×Array Li×Nat×Nat
noncomputable abbrev H7:=Option (Array Li)×Nat×Nat×Array Li×Nat×Nat×Nat
noncomputable abbrev H5:=Option (Array Li)×Nat×Nat×Array Li×Nat
noncomputable def hi1(a b:Array Li)(mg:Nat)(na nb:Nat)(out:Array Li)(ac bc:Nat):StateT SortSt Sem (ForInStep H6):=do
 let y<-elem' b (nb-1)
 let x<-elem' a (na-1)
 let c<-lt' y x
 match c with
 |some aw=>
  if aw=true then do
   let x<-elem' a (na-1)
   if(na-1==0)=true then pure (.done (some (Cv a b (out.push x) (na-1) nb),na-1,nb,out.push x,ac+1,0))
   else if ac+1>=mg then pure (.done (none,na-1,nb,out.push x,ac+1,0))else pure (.yield (none,na-1,nb,out.push x,ac+1,0))
  else do
   let y<-elem' b (nb-1)
   if(nb-1==1)=true then pure (.done (some (EA a b (out.push y) na (nb-1)),na,nb-1,out.push y,0,bc+1))
   else if bc+1>=mg then pure (.done (none,na,nb-1,out.push y,0,bc+1))else pure (.yield (none,na,nb-1,out.push y,0,bc+1))
 |_=>pure (.done (some (Cv a b out na nb),na,nb,out,ac,bc))
section
variable{prog:Kj}{w:Ki}{A:Kp}{E:bf}{s:Kh}{κ:SortKind}{it:Array Li}{r:Nat->Nat}{N:Nat}{a b:Array Nat}{B0:List Nat}{st:SortSt}
noncomputable abbrev JH(r:Nat->Nat)(B0:List Nat)(a b out:Array Nat)(na nb:Nat):Prop:=Jn (λx y=>r y<=r x) B0 out.toList (a.toList.take na).reverse (b.toList.take nb).reverse
noncomputable def K7(it:Array Li)(r:Nat->Nat)(B0:List Nat)(a b:Array Nat)(m:Nat)(c:H7):Prop:=∃out na nb mg ac bc,c=(none,na,nb,out.map (kas_item it),mg,ac,bc)/\JH r B0 a b out na nb/\0<na/\1<nb/\na<=a.size/\nb<=b.size/\na+nb+m<=a.size+b.size
noncomputable abbrev F7(it : Array Li)(r : Nat -> Nat)(B0 : List Nat)(a b : Array Nat)(m : Nat)(st : SortSt)(c : ForInStep H7)(st' : SortSt): Prop := (∃ g, st' = setG st g) /\ match c with
      |.done c=>(∃x,c.1=some x/\En it r B0 x)\/K7 it r B0 a b m c
      |.yield c=>K7 it r B0 a b m c
end
variable[aj]
end TG
namespace TG
open PySem PySem.Spec PyProof.Rows PySem.W L2
variable[aj]
end TG
namespace TG
open PySem PySem.Spec PyProof.Rows PySem.W L2
variable[aj]
end TG
namespace TG
open PySem PySem.Spec PyProof.Rows PySem.W L2
variable[aj]
end TG
namespace TG
open PySem PySem.Spec PyProof.Rows PySem.W L2
variable[aj]
end TG
namespace TG
open PySem PySem.Spec L2
variable[aj]
section
variable{X:Cx}{tg:Kf}
end
end TG
namespace TG
open PySem PySem.Spec L2
variable[aj]
end TG
namespace TG
open PySem PySem.Spec L2
variable[aj]
end TG
namespace TG
open PySem PySem.Spec L2
variable[aj]
noncomputable def keyOf:D->Option Key
 |.int i=>some (.inl i)
 |.str x=>some (.inr x)
 |_=>none
noncomputable def keysOf:List D->Option (List Key)
 |[]=>some []
 |d::r=>(keyOf d).bind λk=>(keysOf r).map (k::·)
theorem jd{d:D}{k:Key}(h:keyOf d=some k):d=bK k:=by
 cases d with
 |int i=>cases h;rfl
 |str x=>cases h;rfl
 |_=>cases h
theorem j9:∀{ds:List D}{ks:List Key},keysOf ds=some ks->ds=ks.map bK
 |[],_,h=>by cases h;rfl
 |d::r,ks,h=>by
  unfold keysOf at h;cases e1:keyOf d with
  |none=>rw[e1]at h;cases h
  |some k=>
   rw[e1]at h;cases e2:keysOf r with
   |none=>rw[e2]at h;cases h
   |some ks'=>rw[e2]at h;cases h;rw[jd e1,j9 e2];rfl
theorem eF:∀ks:List Key,keysOf (ks.map bK)=some ks
 |[]=>rfl
 |k::r=>by
  show(keyOf (bK k)).bind _=_;have e:keyOf (bK k)=some k:=by cases k<;>rfl
  rw[e];show(keysOf (r.map bK)).map (k::·)=_;rw[eF r];rfl
theorem iY{K:Jo}{H:Hp}{k:Key}{v:V}(h:bp K H (bK k) v):v=kV k:=by
 cases k with
 |inl i=>exact dP.mp h
 |inr x=>exact dq.mp h
section
variable{P:Kj}{w:Ki}{H H':Hp}{h:Kl}{a:Ke}
theorem wQ(x:bL P w H h a (.dK [])):bL P w H' h a (.dT []):=by
 obtain⟨z,hd,vs,rel,o,es,ep,h1,h2,h3,h4,h5,h6⟩:=x;have e:vs=[]:=by have:=rel.length;simpa using this.symm
 subst e;refine⟨HA _,hd,[],.nil,o,es,ep,h1,h2,h3,?_,by simp⟩
 have:=h5.length
 simpa using this
theorem li(x:bL P w H h a (.dT [])):bL P w H' h a (.dK []):=by
 obtain⟨z,hd,xs,rel,o,es,ep,h1,h2,h3,h4,h5⟩:=x;have e:xs=[]:=by have:=rel.length;simpa using this.symm
 subst e;have e2:es=#[]:=by simpa using h4
 subst e2;exact⟨HA _,hd,[],.nil,o,#[],ep,h1,h2,h3,λe he=>by simp at he,.nil,by simp⟩
end
section
variable{X:Cx}{pins:aK}{σ:St}{H:Hp}{s:Kh}{a:Ke}
theorem CB(I:`g)(h1:H a=some (.dK [])):Inv X pins σ (upd H a (.dT [])) s:=by
 have hx:=I.hok a _ h1;have hq:∃q,s.heap.get? a=some q:=by obtain⟨_,_,_,_,o,_,_,e,_⟩:=id hx;exact⟨o,e⟩
 exact kO (ob:=.dT []) (h':=s.heap) (t':=s.toks) I (by rw[h1];exact trivial) ⟨rfl,λ_ _=>rfl⟩ hq (wQ hx)
theorem Bt(I:`g)(h1:H a=some (.dT [])):Inv X pins σ (upd H a (.dK [])) s:=by
 have hx:=I.hok a _ h1;have hq:∃q,s.heap.get? a=some q:=by obtain⟨_,_,_,_,o,_,_,e,_⟩:=id hx;exact⟨o,e⟩
 exact kO (ob:=.dK []) (h':=s.heap) (t':=s.toks) I (by rw[h1];exact trivial) ⟨rfl,λ_ _=>rfl⟩ hq (li hx)
end
theorem wJ{H:Hp}{a:Ke}{o1 o2:HO}(h:H a=some o1):upd (upd H a o2) a o1=H:=by
 funext b;by_cases e:b=a
 ·subst e;rw[aD,h]
 ·rw[ax e,ax e]
theorem wC{H:Hp}{a:Ke}{o1 o2:HO}:upd (upd H a o1) a o2=upd H a o2:=by
 funext b;by_cases e:b=a
 ·subst e;rw[aD,aD]
 ·rw[ax e,ax e,ax e]
end TG
namespace TG
open PySem PySem.Spec L2
variable[aj]
end TG
namespace TG
open PySem PySem.Spec PySem.W PySem.Calls PyProof.Rows Builtin Builtin.ObjectAttr Builtin.Getset_descriptor
variable[aj]
section
variable{prog:Kj}{w:Ki}{A:Kp}{E:Kc->Kh->Prop}{s:Kh}{K:Frag}{x D:Ke}{ox:Obj}{R:Result->Kh->Prop}
theorem uS{M:Kr}{h:Kl}(X:K.In h)(q1:findIn K (.ref D) "__class__"=some (some (.builtin "object.__class__")))(q2:specialIn K (.builtin "object.__class__") "__get__"=some (some (.builtin "getset_descriptor.__get__")))(q3:takesIn K (.builtin "object.__class__")=some true):
  Looks M h (find (.ref x) (.ref D) "__class__") (.bind (.builtin "getset_descriptor.__get__") (.builtin "object.__class__")):=by
 have y1:=looks_findIn (M:=M) X q1;have y2:Looks M h (getOf (some (.builtin "object.__class__"))) (some (.builtin "getset_descriptor.__get__")):=looks_specialIn X q2;have y3:=looks_takesIn (M:=M) X q3;refine y1.andThen (y2.andThen ?_);refine Looks.andThen (a:=some (.builtin "getset_descriptor.__get__",.builtin "object.__class__")) (y3.andThen .now) ?_;exact Looks.tag .now
theorem x5{tp:Kc}(y0:Looks `j s.heap (typeOf (.ref x)) (.ref D))(y1:Looks `j s.heap (isSubtype (.ref D) (.type "object")) true)(h:R (.ok (.ret (.ref D))) s):
  KO `j A (.call (.builtin "getset_descriptor.__get__") ⟨[.builtin "object.__class__",.ref x,tp],[]⟩) R s:=by
 obtain⟨h₁,g₁,d₁,t₁,o₁⟩:=s;refine codeAny_call_builtin KF.slot_gs.plain KF.entry_gs
  (KF.slot_gs.check _ _ _ _ _ _ _ _ KF.type_class (KF.args_gs _ _ _) ?_)
 unfold Builtin.«getset_descriptor.__get__»;unfold descrGet;rw[dga_obj];refine Ky (KC ?_);unfold descrGetter descrCheckInstance;unfold descrNameAndClass isInstance;simp only[KF.owner_class]
 repeat lk
 refine⟨Code.quiet_builtin _ (by decide +kernel),
  Lj KF.entry_class ?_⟩
 unfold Builtin.«object.__class__»;unfold shownTypeOf
 repeat lk
 exact h
structure oV(K:Frag)(D:Ke):Prop where
 ga:findIn K (.ref D) "__getattribute__"=some (some (.builtin "BaseException.__getattribute__"))
 gn:findIn K (.ref D) "__getattr__"=some none
 fc:findIn K (.ref D) "__class__"=some (some (.builtin "object.__class__"))
 sg:specialIn K (.builtin "object.__class__") "__get__"=some (some (.builtin "getset_descriptor.__get__"))
 tk:takesIn K (.builtin "object.__class__")=some true
 ob:mroIn K D (.type "object")=some true
 be:mroIn K D (.type "BaseException")=some true
theorem sY{Q:Option Kc->Kh->Prop}(Z:oV K D)(X:K.In s.heap)(y0:∀M,Looks M s.heap (typeOf (.ref x)) (.ref D))(h:Q (some (.ref D)) {s with toks:=s.toks+1}):Kt `j A (getAttr? (.ref x) "__class__") Q E s:=by
 obtain⟨hh,g,d,t,os⟩:=s;have L0:=y0 `j;have L1:=looks_findIn (M:=model prog w) X Z.ga;have L2:=looks_findIn (M:=model prog w) X Z.gn;have L3:=looks_mroIn (M:=model prog w) X Z.be;have L4:=uS (M:=model prog w) (x:=x) X Z.fc Z.sg Z.tk;have L5:=looks_mroIn (M:=model prog w) X Z.ob;unfold getAttr? getAttrBy? getAttrBy;refine Ky (wpAny_mkText (Ky
  (wpAny_attempt (Kz (Ky (L0.at (Ky (L1.at ?_))))))))
 show Kt _ _ (getAttrByItsOwn _ _ _ _ _ _) _ _ _;unfold getAttrByItsOwn;refine Ky ?_;show Kt _ _ (typeLookup (Value.ref D) "__getattr__") _ _ _;refine L2.at ?_;refine Ky (wpAny_attempt (Kz ?_));show Kt _ _ (boundAndCalled _ _ _) _ _ _;unfold boundAndCalled;rw[PySem.F.attrBase_ValueError.ga.bind (.ref x)];refine Ky (KC ?_);have ha:=F.args_bexc_ga (.ref x) (Value.str (Str.ofString "__class__") t);have hk:builtinKind "BaseException.__getattribute__"=some .slot:=by
  decide +kernel
 have hsplit:splitId "BaseException.__getattribute__"=some ("BaseException","__getattribute__"):=by
  decide +kernel
 refine KY (codeAny_call_builtin PySem.F.attrBase_ValueError.ga.plain F.entry_bexc_ga ?_);have LI:Looks `j hh (isInstance (.ref x) (.type "BaseException")) true:=L0.andThen L3;have hT:∀A' (Q':Unit->Kh->Prop) E',Q' () ⟨hh,g,d,t+1,os⟩->Kt `j A' (checkBuiltinCall "BaseException.__getattribute__" ⟨[.ref x,Value.str (Str.ofString "__class__") t],[]⟩) Q' E' ⟨hh,g,d,t+1,os⟩:=λA' Q' E' hq=>by
  simp only[checkBuiltinCall,hk,hsplit];refine Ky (LI.at ?_)
  repeat (first|exact hq|wp_step)
 refine hT _ _ _ ?_;show Kt _ _ (Builtin.«object.__getattribute__» ⟨[.ref x,Value.str (Str.ofString "__class__") t],[]⟩) _ _ _;unfold Builtin.«object.__getattribute__»;refine Ky (KC ?_);refine Ky (KC ?_);refine Ky (L0.at ?_);refine Ky (L4.at ?_);show Kt _ _ (Builtin.ObjectAttr.bindTo (.builtin "getset_descriptor.__get__") (.builtin "object.__class__") (.ref x) (.ref D)) _ _ _;unfold Builtin.ObjectAttr.bindTo;dsimp only;refine Ky (Kz (KY (x5 (s:=⟨hh,g,d,t+1,os⟩) L0 L5 ?_)));exact KC (handed_on rfl (KC h))
theorem wK(F:oV K D):KitX K (.ref x) (.ref D) (λh=>∃o,h.get? x=some o/\o.cls=.ref D):=by
 have cl:∃c d cd sl,K.lookup D=some ⟨c,d,.cls cd,sl⟩:=by
  have z:=F.fc;unfold findIn at z;dsimp only at z;split at z
  ·rename_i ho;exact⟨_,_,_,_,ho⟩
  ·cases z
 have ty:∀(M:Kr)(h:Kl),(∃o,h.get? x=some o/\o.cls=.ref D)->Looks M h (typeOf (.ref x)) (.ref D):=λM h ⟨o,e,c⟩=>c ▸ (Looks.ld e).andThen .now;refine⟨λM h _ I=>ty M h I,λM h X _=>?_,λh tp dd its n sl X htp=>?_,λX I k=>sY F X (λM=>ty M _ I) k⟩
 ·obtain⟨c,d,cd,sl,ho⟩:=cl;intro A' Q' E' s' k q;unfold isType loadHead;exact Ky (wpAny_loadPart (k _ _ (X _ _ ho)) (KC q))
 ·obtain⟨c,d,cd,sl,ho⟩:=cl;cases hb:(Value.ref D==Value.ref tp)with
  |false=>rfl
  |true=>
   have e:D=tp:=Value.ref.inj (beq_iff_eq.mp hb);subst e;cases(X _ _ ho).symm.trans htp
end
end TG
namespace TG
open PySem PySem.Spec PySem.W PySem.Calls PyProof.Rows Builtin Builtin.ObjectAttr Builtin.Getset_descriptor
end TG
namespace TG
open PySem PySem.Spec L2
variable[aj]
open PyProof.Rows (AllBare OwnCls)
section
variable{X:Cx}{pins:aK}{σ:St}{H:Hp}{s:Kh}{h':Kl}
theorem rE(I:`g)(hx:X.ex=[])(hst:X.stack=X.env::X.outer)(hf:X.env.frame=some X.env.locals)(hfn:∀x,X.fn x=true)(us:s.heap.UpToSlots h')(k:∀b o,s.heap.get? b=some o->gA X H b->b∉frs X.stack->h'.get? b=some o):
  Inv X [] σ H {s with heap:=h'}:=by
 have un:=wx I hx hst hf us k;have cellF:∀x c,X.env.cells.lookup x=some c->c∉frs X.stack:=λx c e z=>by
  obtain⟨v,o,q,d⟩:=I.cell x c e;rw[hst]at z;have z':c∈X.env.locals::frs X.outer:=by
   have:frs (X.env::X.outer)=X.env.locals::frs X.outer:=(by show List.filterMap _ (_::_)=_;rw[Hi,hf];rfl);rw[this]at z;exact z
  rcases List.mem_cons.mp z' with z|z
  ·obtain⟨m,⟨o2,es,ep,e2,d2,_⟩,_⟩:=I.loc;rw[<-z,q]at e2;cases e2;rw[d]at d2;cases d2
  ·obtain⟨_,o2,e2,_⟩:=I.ok.funs.mem z;exact He _ (Hc (JV e2) (I.ok.cab x c (hfn x) e))
 have cellK:∀x c v,X.env.cells.lookup x=some c->s.heap.IsCell c v->h'.IsCell c v:=λx c v e zq=>zq.elim λo zq=>zq.elim λq d=>⟨o,k c o q (.inr (.inr (.inr ⟨x,e⟩))) (cellF x c e),d⟩
 obtain⟨m,hn,hl⟩:=I.loc;refine⟨I.ok,I.os,I.bare,by rw[hx];exact un,⟨m,us.ns hn,λi x v e1 e2 e3=>?_⟩,λx c e=>?_,I.free,I.freeC,λp hp=>?_,rW I k,I.len⟩
 ·obtain⟨u,r,q⟩:=hl i x v e1 e2 e3;refine⟨u,r,?_⟩;rcases q with q|⟨q1,c,q2,q3⟩
  ·exact .inl q
  ·exact .inr ⟨q1,c,q2,cellK x c _ q2 q3⟩
 ·obtain⟨v,q⟩:=I.cell x c e;exact⟨v,cellK x c v e q⟩
 ·rw[HB]at hp;obtain⟨e,n,ne,nf,d⟩:=I.pin p (Hl _ hp);have nfs:p.1∉frs X.stack:=λz=>by
   have:frs X.stack=X.env.locals::frs X.outer:=(by rw[hst];show List.filterMap _ (_::_)=_;rw[Hi,hf];rfl);rw[this]at z;rcases List.mem_cons.mp z with z|z
   ·exact ne z
   ·exact nf z
  exact⟨k _ _ e (.inr (.inr (.inl ⟨p.2,hp⟩))) nfs,n,ne,nf,d⟩
theorem sP{e C:Ke}{oe:Obj}(I:`g)(hx:X.ex=[])(hn:H e=none)(he:s.heap.get? e=some oe)(hc:oe.cls=.ref C)(hno:JK oe=true)(h0:X.s₀.heap.get? e=none)(hL:e≠X.env.locals)(hcl:∀x,X.env.cells.lookup x≠some e)(hp:∀p∈X.pn++pins,p.1≠e):
  Inv X pins σ (upd H e (.ext (qI C e oe.dict))) s:=by
 have ne:∀b u,H b=some u->b≠e:=λb u q z=>by rw[z,hn]at q;cases q
 have U:=I.base;refine⟨I.ok,I.os,I.bare,⟨U.keep,U.slot,λb o q n nx=>?_,U.there,λb xs q=>?_,λb o u q=>?_,λb ps q=>?_⟩,I.loc,I.cell,?_,λx c q=>?_,λp q=>?_,λa o q=>?_,I.len⟩
 ·rw[ax λz=>by rw[z,h0]at q;cases q];exact U.free b o q n nx
 ·have:=U.tups b xs q;rw[ax (ne _ _ this)];exact this
 ·have:=U.frzs b o u q;rw[ax (ne _ _ this)];exact this
 ·obtain⟨more,z⟩:=U.tbls b ps q;exact⟨more,by rw[ax (ne _ _ z)];exact z⟩
 ·rw[ax hL.symm];exact I.free
 ·rw[ax λz=>hcl x (by rw[<-z];exact q)];exact I.freeC x c q
 ·obtain⟨a1,a2,a3⟩:=I.pin p q;exact⟨a1,by rw[ax (hp p q)];exact a2,a3⟩
 ·by_cases z:a=e
  ·subst z;rw[aD]at q;cases q;exact⟨⟨oe,he,hc,rfl,hno⟩,⟨oe,he⟩,λ_ _ h1 h2 ⟨o,q1,q2⟩ _ k=>⟨o,k _ o (.inl rfl) q1,q2⟩⟩
  ·rw[ax z]at q;exact(I.hok a o q).stay (λb u _ q=>q) (λb q=>by rw[ax (ne _ _ q)];exact q) λb xs q=>by rw[ax (ne _ _ q)];exact q
end
abbrev Dn:aP:=[.type "ValueError",.type "Exception",.type "BaseException",.type "object"]
theorem x8{K:Jo}{h:Kl}{C:Ke}{bmB:aP}{newId:String}(X:K.In h)(q:JO K C bmB newId=true)(x:Str):OwnCls x C bmB newId (λ_=>some (.ref C)) h:=by
 constructor
 ·rfl
 ·unfold JO at q;split at q
  ·rename_i od data slots look;split at q
   ·rename_i C0 tl s0 s1 s2 s3 nid s5 e1 e2;simp only[HM,beq_iff_eq,IT]at q;obtain⟨⟨⟨⟨⟨y1,y2⟩,y3⟩,y4⟩,y5⟩,y6⟩:=q;subst y1 y2;obtain⟨d1,d2,d3,d4,d5,d6,d7,d8,d9,d10,d11⟩:=data;dsimp only at e1 y3 y5 y6;subst e1 y3;have hs:slots=#[s0,s1,s2,s3,some (.builtin nid),s5]:=by
     cases slots with
     |mk l=>rw[show l=_ from e2]
    subst hs;exact⟨tl,d4,d1,d5,d2,d6,d7,d8,d9,d10,od,s0,s1,s2,s3,s5,_,X _ _ look,.of_isNs (PySem.W.isNs_of_in X y5),PySem.W.nsMap_none_of_in X y5 y6,PySem.W.tail_of_in X y4⟩
   ·cases q
  ·cases q
noncomputable def ExcAt(K:Jo)(mg:bj)(x:Str):Prop:=∃C,clsAt K x C/\mg x=some (.ref C)/\JO K C Dn "ValueError.__new__"=true
noncomputable def iO(c:Str)(f:aH):bu:=λk ρ=>kL (f ρ) k ρ λds=>if small ds.length then k.ex ⟨c,[],[]⟩ ρ else un
theorem jt{base B h h':Kl}(k:∀b o,h.get? b=some o->h'.get? b=some o):∀{l:List Env},(∀b∈frs l,B.get? b=none)->h.FunFrames base l->h'.FunFrames B l
 |[],_,_=>trivial
 |env::l,hb,⟨h1,⟨L,o,h2,_,h3,h4⟩,h5⟩=>by
  have mem:L∈frs (env::l):=by show L∈List.filterMap _ (_::_);rw[Hi,h2];exact Hj
  refine⟨h1,⟨L,o,h2,hb L mem,k _ _ h3,h4⟩,jt k (λb z=>hb b ?_) h5⟩;show b∈List.filterMap _ (_::_);rw[Hi,h2];exact Hk _ z
section
variable{X:Cx}{pos:Pos}
theorem wD{pins:aK}{σ:St}{H:Hp}{s:Kh}{h':Kl}{e C:Ke}{us:aP}(I:`g)(m:Heap.MadeExcOf s.heap h' e (.ref C) us):sA X H {s with heap:=h'} e C none:=by
 have hd:∀b o,(j6 s.heap (λb=>if b∈frs X.stack then some (.tup [])else none)).get? b=some o->s.heap.get? b=some o/\b∉frs X.stack:=λb o q=>by
  obtain⟨q1,q2⟩:=si q;refine⟨q1,λz=>?_⟩;rw[if_pos z]at q2;cases q2
 obtain⟨t,m1,m2,m3⟩:=m.there;refine⟨λoe q=>by rw[m1]at q;cases q;rfl,j6 s.heap (λb=>if b∈frs X.stack then some (.tup [])else none),.ref t,λb o q=>m.keeps b o (hd b o q).1,?_,jt m.keeps (λb hb=>?_) I.stack,.inr ⟨_,_,m1,rfl,rfl,rfl,rfl⟩,λb o q kb nf=>?_⟩
 ·cases q:(j6 s.heap (λb=>if b∈frs X.stack then some (.tup [])else none)).get? e with
  |none=>rfl
  |some o=>have:=(hd e o q).1;rw[m.new]at this;cases this
 ·cases q:(j6 s.heap (λb=>if b∈frs X.stack then some (.tup [])else none)).get? b with
  |none=>rfl
  |some o=>exact absurd hb (hd b o q).2
 ·obtain⟨o1,e1⟩:∃o1,s.heap.get? b=some o1:=by
   rcases kb with⟨⟨o0,z⟩,nx⟩|z|⟨o0,z⟩|⟨y,z⟩
   ·exact I.base.there b o0 z nx
   ·cases q0:H b with
    |none=>exact absurd q0 z
    |some ob=>exact vL (I.hok b ob q0)
   ·exact⟨_,(I.pin _ (Hl _ z)).1⟩
   ·obtain⟨v,o0,z0,_⟩:=I.cell y b z;exact⟨o0,z0⟩
  have:=m.keeps b o1 e1
  rw[show h'.get? b=some o from q]at this;cases this;exact oO e1 (if_neg nf)
end
end TG
namespace TG
open PySem PySem.Spec L2
variable[aj]
noncomputable abbrev oR(X:Cx)(E:bf)(pn:aK):Cx:={X with xe:=E,pn:=pn}
noncomputable abbrev lY(X:Cx)(A:Kp)(pn:aK):Cx:={X with A:=A,xe:=λ_ _=>False,calm:=false,pn:=pn}
section
variable{X:Cx}{pins:aK}{σ:St}{H:Hp}{s:Kh}{E:bf}{A:Kp}
theorem xW(I:L2.Inv X pins σ H s)(E:bf):L2.Inv (oR X E (X.pn++pins)) [] σ H s:=
 ⟨⟨I.ok.mod,I.ok.kind,I.ok.glob,I.ok.blt,I.ok.above,I.ok.inj,I.ok.has,I.ok.cab,I.ok.hd,I.ok.frames,I.ok.stk,I.ok.exf,I.ok.bs,I.ok.bsz,I.ok.noex,I.ok.exfs,I.ok.funs,I.ok.frf⟩,
  I.os,I.bare,I.base,I.loc,I.cell,I.free,I.freeC,λp hp=>I.pin p (by simpa using hp),I.hok,I.len⟩
theorem gP{E':bf}{A':Kp}{c':Bool}(ok:X.Ok)(I:L2.Inv {X with A:=A',xe:=E',calm:=c',pn:=X.pn++pins} [] σ H s):L2.Inv X pins σ H s:=
 ⟨ok,I.os,I.bare,I.base,I.loc,I.cell,I.free,I.freeC,λp hp=>I.pin p (by simpa using hp),I.hok,I.len⟩
theorem ph{pn:aK}{ps:aK}(I:L2.Inv (oR X E pn) ps σ H s)(hA:A.frames=X.A.frames):L2.Inv (lY X A pn) ps σ H s:=
 ⟨⟨I.ok.mod,I.ok.kind,I.ok.glob,I.ok.blt,I.ok.above,I.ok.inj,I.ok.has,I.ok.cab,(fun z=>nomatch z),by rw [show (lY X A pn).A=A from rfl,hA]; exact I.ok.frames,I.ok.stk,I.ok.exf,I.ok.bs,I.ok.bsz,I.ok.noex,I.ok.exfs,I.ok.funs,I.ok.frf⟩,
  I.os,I.bare,I.base,I.loc,I.cell,I.free,I.freeC,I.pin,I.hok,I.len⟩
theorem wW{i:Nat}{n:Str}{v:Option Kc}{m:bj}{h9:Kl}{t:Nat}(I:L2.Inv X pins σ H s)(hN:X.N.Nodup)(hi:X.N[i]?=some n)(hn:s.heap.Ns X.env.locals m)
  (hl:∀(i:Nat)(x:Str)(v:V),X.N[i]?=some x->σ[i]?=some (some v)->zZ X.env.scope x->∃u,RelV v u/\Look X.env s.heap m x u)
  (ns:h9.Ns X.env.locals (λx=>if x=n then v else m x)) (sb:JW X.env.locals s.heap h9):L2.Inv X pins (σ.set i none) H {s with heap:=h9,toks:=t}:=by
 have old:∀b o,X.s₀.heap.get? b=some o->b≠X.env.locals:=λb o q z=>by
  have h1:=JV q;rw[z]at h1;exact He _ (Hc h1 I.ok.above)
 have go:∀b o,b≠X.env.locals->s.heap.get? b=some o->h9.get? b=some o:=λb o ne q=>(sb.2 b ne).trans q;have cne:∀c w,s.heap.IsCell c w->c≠X.env.locals:=λc w ⟨o,q,d⟩ z=>by
  obtain⟨o2,es,ep,e2,d2,_⟩:=hn;rw[z,e2]at q;cases q;rw[d2]at d;cases d
 have U:=I.base;refine⟨I.ok,I.os,I.bare,⟨λb o q n nb nx=>go b o (old b o q) (U.keep b o q n nb nx),λb o q n nb nx=>?_,U.free,λb o q nx=>?_,U.tups,U.frzs,U.tbls⟩,⟨_,ns,λj y v' e1 e2 e3=>?_⟩,λx c q=>?_,I.free,I.freeC,λp hp=>?_,λa o q=>?_,by rw[HN];exact I.len⟩
 ·obtain⟨sl,z⟩:=U.slot b o q n nb nx;exact⟨sl,go b _ (old b o q) z⟩
 ·obtain⟨o1,z⟩:=U.there b o q nx;exact⟨o1,go b _ (old b o q) z⟩
 ·by_cases hj:j=i
  ·subst hj;have hlt:j<σ.length:=(by rw[I.len];exact(List.getElem?_eq_some_iff.mp hi).1);rw[Ho hlt]at e2;cases e2
  ·rw[Hq (Ne.symm hj)]at e2;have hy:y≠n:=λz=>by
    subst z;obtain⟨l1,g1⟩:=List.getElem?_eq_some_iff.mp e1;obtain⟨l2,g2⟩:=List.getElem?_eq_some_iff.mp hi;exact hj (Hm hN |>.mp (g1.trans g2.symm))
   obtain⟨u,r,q⟩:=hl j y v' e1 e2 e3;refine⟨u,r,?_⟩;rcases q with⟨q1,q2⟩|⟨q1,c,q2,q3⟩
   ·exact .inl ⟨q1,by show(if y=n then v else m y)=some u;rw[if_neg hy];exact q2⟩
   ·obtain⟨o,z1,z2⟩:=id q3;exact .inr ⟨q1,c,q2,o,go c o (cne c _ q3) z1,z2⟩
 ·obtain⟨w,z⟩:=I.cell x c q;obtain⟨o,z1,z2⟩:=id z;exact⟨w,o,go c o (cne c _ z) z1,z2⟩
 ·obtain⟨e,n',ne,r⟩:=I.pin p hp;exact⟨go _ _ ne e,n',ne,r⟩
 ·refine(I.hok a o q).stay (λb u hb z=>go b u (λw=>?_) z) (λ_ q=>q) λ_ _ q=>q;have hz:=I.free;rw[<-w]at hz;rcases hb with e|e
  ·rw[e,q]at hz;cases hz
  ·rw[e]at hz;cases hz
theorem uG{e C:Ke}{dx:Option Ke}(fl:sA X H s e C dx):∃oe vs,s.heap.get? e=some oe/\oe.cls=.ref C/\oe.data=.fields vs:=by
 obtain⟨_,B,a0,_,_,_,b4,_⟩:=fl;rcases b4 with⟨oe,vs,T,oT,ts,h1,h2,h3,_⟩|⟨oe,vs,h1,h2,h3,_⟩
 ·exact⟨oe,vs,h1,h2.1,h3⟩
 ·exact⟨oe,vs,h1,h2,h3⟩
theorem wz{M:Kr}{e C:Ke}{dx:Option Ke}{Q:Unit->gq}(hfr:A.frames=some X.stack)(hst:X.stack=X.env::X.outer)(hf:X.env.frame=some X.env.locals)(fl:sA X H s e C dx)
  (hQ:∀B a0 h',Heap.HeldW B X.stack e (.ref C) a0 X.env.locals h'->s.heap.UpToSlots h'->(∀b o,s.heap.get? b=some o->gA X H b->b∉frs X.stack->B.get? b=some o)->DS s.heap h'->Q () {s with heap:=h'}):
  Kt M A (noteFrame (.ref e) X.env) Q E s:=by
 obtain⟨_,B,a0,b1,b2,b3,b4,b5⟩:=fl;rw[hst]at hfr b3;refine DP.go (sd _ _) (P:=λh'=>Heap.HeldW B X.stack e (.ref C) a0 X.env.locals h'/\s.heap.UpToSlots h') ?_ λh' z ds=>hQ B a0 h' z.1 z.2 b5 ds;rcases b4 with b4|⟨oe,vs,c1,c2,c3,c4,c5⟩
 ·exact wpAny_looks_onW hfr hf ⟨b1,b2,b3,b4⟩ λh' hd us=>⟨h',rfl,by rw[hst];exact hd,us⟩
 ·unfold noteFrame;simp only[hf];refine Ky (K6 c1 c3 c4 ?_);rw[if_neg (by decide)];refine wpAny_entryW hfr b3 hf c1 b1 b2 c3 (Array.getElem?_eq_some_iff.mp c4).1 c5 λh' hN=>?_;obtain⟨k1,k2,k3,k4⟩:=hN;exact⟨h',rfl,⟨k1,b2,by rw[hst];exact k2,c2 ▸ k3⟩,k4⟩
end
theorem cg.unset{K:Jo}{Hb:Hp}{Ob O:ay}{H:Hp}{ρ:ai}{σ:St}(T:cg K Hb Ob O H ρ σ)(i:Nat):cg K Hb Ob O H (ρ.set i none) (σ.set i none):=by
 have key:∀(j:Nat)(x:S),(ρ.set i none)[j]?=some (some x)->j≠i/\ρ[j]?=some (some x):=λj x e=>by
  rcases aO e with⟨_,q⟩|⟨ne,q⟩
  ·cases q
  ·exact⟨ne,q⟩
 refine⟨⟨λj d e=>?_,λj d e=>?_,λj l xs ys a e1 e2 e3 e4=>?_,T.env.all⟩,T.base,λj xs a e1 e2=>?_,λj dn e=>?_⟩
 ·obtain⟨ne,q⟩:=key j _ e;obtain⟨v,q1,q2⟩:=T.env.val j d q;exact⟨v,by rw[Hq ne.symm];exact q1,q2⟩
 ·obtain⟨ne,q⟩:=key j _ e;obtain⟨a,q1,q2⟩:=T.env.own j d q;exact⟨a,by rw[Hq ne.symm];exact q1,q2⟩
 ·obtain⟨n1,q1⟩:=key j _ e1;obtain⟨n2,q2⟩:=key l _ e2;rw[Hq n1.symm]at e3;rw[Hq n2.symm]at e4;exact T.env.one j l xs ys a q1 q2 e3 e4
 ·obtain⟨ne,q⟩:=key j _ e1;rw[Hq ne.symm]at e2;exact T.mine j xs a q e2
 ·obtain⟨ne,q⟩:=key j _ e;refine(T.nst j dn q).to (Hq ne.symm) (λ_ _ z=>z) (λb q1 q2 q3 q4 _=>⟨rfl,q1,q2,λl d1 w=>?_⟩) λl d1 w=>⟨d1,(key l _ w).2⟩
  obtain⟨nl,z⟩:=key l _ w;rw[Hq nl.symm];exact q4 l d1 z
noncomputable def pL(K:Jo)(mg:bj)(g:Str)(cs:ao):Prop:=∃G,mg g=some (.ref G)/\∀c∈cs,∀C,clsAt K c C->JP K (.ref C) (.ref G)=some true
noncomputable def CH(i:Nat)(k:Ks):Ks:=⟨λρ=>k.nx (ρ.set i none),λρ=>k.bk (ρ.set i none),λρ=>k.ct (ρ.set i none),λ_ _=>un⟩
noncomputable def w6(cs:ao)(i:Nat)(F Fh:bu):bu:=λk ρ=>F {k with ex:=λx ρ1=>if cs.contains x.c=true then Fh (CH i k) (setV i (.exc x.c x.fs x.vs) ρ1)else un} ρ
section
variable{X:Cx}{pos:Pos}
theorem ER{body suite:b7}{b₀:Kg}{g n:Str}{gp hpos:Pos}{F Fh:bu}{cs:ao}{i:Nat}(hx:X.ex=[])(hst:X.stack=X.env::X.outer)(hf:X.env.frame=some X.env.locals)(hfn:∀x,X.fn x=true)
  (hT:pL X.K X.mg g cs) (hg:Gl X g) (hN:X.N.Nodup) (hi:X.N[i]?=some n) (hl:X.env.scope.names.lookup n=some .local)
  (hb:∀E pn,KG `i X.A X.env E->DB (oR X E pn) body F) (hs:∀A pn,A.depth=X.A.depth->A.units=X.A.units->DB (lY X A pn) (b₀::suite) Fh) (hdb:(g==("__debug__":Str))=false:=by decide):
  FS X (.Try body [.ExceptHandler (some (.Name g gp)) (some n) (b₀::suite) hpos] [] [] pos) (w6 cs i F Fh):=λHb Ob pins s σ H E I zq=>zq.elim λO zq=>zq.elim λρ zq=>zq.elim λk zq=>zq.elim λr zq=>zq.elim λS zq=>zq.elim λhF hk=>by
 obtain⟨G,hG,hcs⟩:=hT;refine wpAny_Try_except ?_;have land:∀O1 ρ1 σ1 H1 x,cg X.K Hb Ob O1 H1 ρ1 σ1->(if cs.contains x.c=true then Fh (CH i k) (setV i (.exc x.c x.fs x.vs) ρ1)else un)=r->
   zJ (oR X (λe s₁=>Kt `i X.A (noteFrame e X.env) (λ_ s₂=>Kt `i X.A (setFlight e none) (λ_ s₃=>Kt `i X.A (handleBy e X.env [.ExceptHandler (some (.Name g gp)) (some n) (b₀::suite) hpos]) (SP X pins E) X.xe s₃) X.xe s₂) X.xe s₁) (X.pn++pins)) σ1 O1 H1 x:=by
  rintro O1 ρ1 σ1 H1 x S1 ex pins' s1 u H2 I1 sm ⟨e,C,dx,rfl,hd,fl⟩;have cond:cs.contains x.c=true:=by
   cases z:cs.contains x.c with
   |true=>rfl
   |false=>rw[z]at ex;exact absurd ex.symm hk.ne
  rw[if_pos cond]at ex;obtain⟨oe1,vs1,he1,hc1,hd1⟩:=uG fl;have nfr:e∉frs X.stack:=λz=>by
   obtain⟨_,o,q,nf⟩:=I1.stack.mem z;rw[he1]at q;cases q;exact nf _ hd1
  refine wz (X:=oR X _ (X.pn++pins)) I1.ok.frames hst hf fl λB a0 h4 held us4 kb ds4=>?_;have nk:¬gA (oR X _ (X.pn++pins)) H2 e:=λz=>by
   have:=kb e oe1 he1 z nfr
   rw[held.2.1]at this;cases this
  refine DP.go (jY _ _) (P:=λh'=>J2 B X.stack e (.ref C) a0 h'/\h4.UpToSlots h') (wpAny_landsW held λh' x y=>⟨h',rfl,x,y⟩) λh5 z5 ds5=>?_;obtain⟨fl5,us5⟩:=z5;have I5:=rE I1 hx hst hf hfn (us4.trans us5) λb o q kb' nf=>fl5.1 b o (kb b o q kb' nf);obtain⟨oe5,he5,hc5⟩:=fl5.there;have I5h:=ph (A:=X.A.mark (some (.ref e))) I5 rfl;refine wpAny_handleBy_cons (codeAny_handlers_test (jh (X:=lY X (X.A.mark (some (.ref e))) (X.pn++pins)) I5h hg hG ?_ hdb)) (by intro z;cases z);refine(PySem.W.exm_one I5.kIn (show PySem.W.Looks _ h5 (typeOf (.ref e)) (.ref C)from hc5 ▸ (PySem.W.Looks.ld he5).andThen .now) (hcs x.c (by simpa using cond) C hd.1)).at ?_;refine codeAny_handlers_suite_as ?_;refine DP.go (jY _ _) (P:=λh'=>J2 B X.stack e (.ref C) a0 h'/\h5.UpToSlots h') (PyProof.Rows.lands_againW fl5 λh' x y=>⟨h',rfl,x,y⟩) λh6 z6 ds6=>?_;obtain⟨fl6,us6⟩:=z6;have I6:=rE I1 hx hst hf hfn ((us4.trans us5).trans us6) λb o q kb' nf=>fl6.1 b o (kb b o q kb' nf);obtain⟨oe6,ws6,he6,hc6,hd6,_⟩:=fl6.first;have hdx:oe6.dict=dx:=(((ds4.trans ds5).trans ds6).dict he1 he6).trans (fl.1 _ he1);have hn:H2 e=none:=by
   cases q:H2 e with
   |none=>rfl
   |some ob=>exact absurd (.inr (.inl (by rw[q];intro z;cases z))) nk
  have I6a:=sP (C:=C) I6 hx hn he6 hc6 (by unfold JK;rw[hd6]) (by
    cases q:X.s₀.heap.get? e with
    |none=>rfl
    |some o=>exact absurd (.inl ⟨⟨o,q⟩,by rw[show(oR X _ (X.pn++pins)).ex=X.ex from rfl,hx];simp⟩) nk) (λz=>by
    apply nfr;rw[hst,z];show X.env.locals∈List.filterMap _ (_::_);rw[Hi,hf];exact Hj)
   (λy q=>nk (.inr (.inr (.inr ⟨y,q⟩)))) (λp hp q=>by
    rw[HB]at hp;exact nk (.inr (.inr (.inl ⟨p.2,by rw[<-q];exact hp⟩))))
  have I6h:=ph (A:=X.A.mark (some (.ref e))) I6a rfl;have same26:aL H2 (upd H2 e (.ext (qI C e oe6.dict))):=λb o q=>by rw[ax λz=>by rw[z,hn]at q;cases q];exact q
  have eO:e∉O1:=(S1.env.all.same sm).not hn;refine lN (X:=lY X (X.A.mark (some (.ref e))) (X.pn++pins)) I6h hN hi (.inl hl) (show RelV (.ref e) (.ref e)from rfl) (λs7 I7=>?_) (.inl (hfn n));have S7:=(S1.same (sm.trans same26)).setV (i:=i) (d:=.exc x.c x.fs x.vs) (v:=.ref e) (by rw[I1.len];exact(List.getElem?_eq_some_iff.mp hi).1)
   (by
    obtain⟨c1,ws,w1,w2,w3⟩:=hd;have sh:aL (hid H2 O1) (hid (upd H2 e (.ext (qI C e oe6.dict))) O1):=bh same26;exact DK.mpr ⟨e,ws,rfl,w1.mono sh,w2,C,oe6.dict,c1,by rw[j0 eO];exact aD,w3.imp id λzq=>zq.elim λd zq=>zq.elim λq1 q2=>⟨d,hdx.trans q1,sh _ _ q2⟩⟩)
  refine Kv (hs (X.A.mark (some (.ref e))) (X.pn++pins) rfl rfl Hb Ob [] s7 _ _ {nx:=λσ' H'=>E.nx (σ'.set i none) H',rt:=E.rt,bk:=λσ' H'=>E.bk (σ'.set i none) H',ct:=λσ' H'=>E.ct (σ'.set i none) H'} I7
   ⟨O1,_,CH i k,r,S7,ex,hk.ne,λO' ρ' σ' H' S' q=>hk.nx O' _ _ H' (S'.unset i) q,λO' ρ' σ' H' S' q=>hk.bk O' _ _ H' (S'.unset i) q,λO' ρ' σ' H' S' q=>hk.ct O' _ _ H' (S'.unset i) q,hk.rt,λO' ρ' σ' H' y S' q=>absurd q.symm hk.ne⟩) (λf s8 h8=>?_) λ_ _ z=>z.elim
  have fin:∀σ' H',L2.Inv (lY X (X.A.mark (some (.ref e))) (X.pn++pins)) [] σ' H' s8->∀Q:gq,(∀s9,L2.Inv X pins (σ'.set i none) H' s9->Q s9)->
    Kt `i X.A (do bindName X.env n .none;unbindBehindTheSuite X.env n hpos) (λ_ s₃=>Q s₃) X.xe s8:=λσ' H' I8 Q q=>by
   obtain⟨m,hm,hlk⟩:=I8.loc;exact wpAny_nameGoes_keeps hl hm (by rw[I8.ok.kind];rfl) λh9 v ns9 sb9=>q _ (gP I.ok (wW I8 hN hi hm hlk ns9 sb9))
  cases f with
  |next=>obtain⟨σ',H',I8,q⟩:=h8;exact fin σ' H' I8 _ λs9 I9=>⟨_,H',I9,q⟩
  |brk=>obtain⟨σ',H',I8,q⟩:=h8;exact fin σ' H' I8 _ λs9 I9=>⟨_,H',I9,q⟩
  |cont=>obtain⟨σ',H',I8,q⟩:=h8;exact fin σ' H' I8 _ λs9 I9=>⟨_,H',I9,q⟩
  |ret u=>obtain⟨v,σ',H',I8,rv,q⟩:=h8;exact fin σ' H' I8 _ λs9 I9=>⟨v,_,H',I9,rv,q⟩
 refine Kv (hb _ (X.pn++pins) PassesOwn.looking Hb Ob [] s σ H E (xW I _) ⟨O,ρ,_,r,S,hF,hk.ne,hk.nx,hk.bk,hk.ct,hk.rt,land⟩) (λf s1 h1=>?_) λ_ _ z=>z;cases f with
 |next=>obtain⟨σ',H',I1,q⟩:=h1;exact rj pins s1 σ' H' E (gP I.ok I1) q
 |brk=>obtain⟨σ',H',I1,q⟩:=h1;exact⟨σ',H',gP I.ok I1,q⟩
 |cont=>obtain⟨σ',H',I1,q⟩:=h1;exact⟨σ',H',gP I.ok I1,q⟩
 |ret u=>obtain⟨v,σ',H',I1,rv,q⟩:=h1;exact⟨v,σ',H',gP I.ok I1,rv,q⟩
end
end TG
namespace TG
open PySem PySem.Spec L2
variable[aj]
noncomputable def pS(K:Jo)(T:Kc)(tbl:List (Str×Bool)):Prop:=∀c b,tbl.lookup c=some b->∀D,clsAt K c D->oV K D/\JL K (.ref D) T=some b
noncomputable def dr(tbl:List (Str×Bool))(d:D):aV:=match d with
 |.exc c _ _=>(tbl.lookup c).map .bl
 |_=>none
noncomputable def jl(K:Jo)(mg:bj)(x:Str)(tbl:List (Str×Bool)):Prop:=∃C,mg x=some (.ref C)/\pS K (.ref C) tbl
theorem gC{K:Jo}{T:Kc}:pS K T []:=λ_ _ h=>by cases h
theorem bm{K:Jo}{T:Kc}{c:Str}{D:Ke}{b:Bool}{tbl:List (Str×Bool)}(ac:clsAt K c D)(F:oV K D)(k:JL K (.ref D) T=some b)(r:pS K T tbl):pS K T ((c,b)::tbl):=λc' b' h D' hD=>by
 rw[HX]at h;split at h
 ·rename_i e;have e:=beq_iff_eq.mp e;subst e;cases h;cases bO hD ac;exact⟨F,k⟩
 ·exact r c' b' h D' hD
theorem pJ{K:Jo}{C:Ke}{v:Kc}(h:JQ K C v=some true):(PySem.W.clsIn K C).isSome=true:=by
 unfold JQ at h;cases e:PySem.W.clsIn K C with
 |none=>rw[e]at h;cases h
 |some c=>rfl
theorem cu{K:Jo}{C D:Ke}{b:Bool}(hs:JR K (.ref D) (.ref C)=some b)(ho:JQ K C (.type "object")=some true)(ht:Jz K (.ref C)=some (.type "type"))(hn:b=true\/D≠C):JL K (.ref D) (.ref C)=some b:=by
 unfold JL;by_cases e:D=C
 ·rcases hn with hn|hn
  ·rw[if_pos (by rw[e];simp),hn]
  ·exact absurd e hn
 ·rw[if_neg (by simpa using e)];unfold JS;dsimp only;rw[if_pos (by rw[pJ ho,ht];rfl)];exact hs
theorem qi{K:Jo}{D:Ke}{b:Bool}(hs:JR K (.ref D) (.type "ValueError")=some b):JL K (.ref D) (.type "ValueError")=some b:=by
 unfold JL;rw[if_neg `h];unfold JS;dsimp only;rw[if_pos (by decide +kernel)];exact hs
theorem oz{K:Jo}{C G:Ke}(hb:JR K (.ref G) (.type "BaseException")=some true)(hs:JR K (.ref C) (.ref G)=some true)(ho:JQ K G (.type "object")=some true)(ht:Jz K (.ref G)=some (.type "type")):JP K (.ref C) (.ref G)=some true:=by
 unfold JP;rw[if_pos (by rw[hb];rfl)];unfold JS;dsimp only;rw[if_pos (by rw[pJ ho,ht];rfl)];exact hs
theorem ww{K:Jo}{mg:bj}{g:Str}{G:Ke}{cs:ao}(hm:mg g=some (.ref G))(h:∀c∈cs,∃C,clsAt K c C/\JP K (.ref C) (.ref G)=some true):pL K mg g cs:=⟨G,hm,λc hc C hC=>by
 obtain⟨C',h1,h2⟩:=h c hc;cases bO hC h1;exact h2⟩
section
variable{X:Cx}{p pos:Pos}{e:Kf}
noncomputable def zy(K:Jo)(tv:V)(T:Kc):az->Hp->VK->Prop:=λxs H Q=>∃a D dx b,xs=[.ref a,tv]/\H a=some (.ext (qI D a dx))/\oV K D/\JL K (.ref D) T=some b/\Q (.bl b) H
theorem ng{tv:V}{T:Kc}(hT:∀u,RelV tv u->u=T):dA X (.builtin "isinstance") (zy X.K tv T):=by
 rintro pins s σ H xs us Q I r ⟨a,D,dx,b,ex,ha,F,hk,q⟩;subst ex;obtain⟨u,w',rfl,rx,rt⟩:=vals2 r;cases rx;cases hT _ rt;obtain⟨⟨o,e1,e2,_⟩,_⟩:=(show bL X.prog X.w H s.heap a (.ext (qI D a dx))from I.hok a _ ha)
 exact JM (wK F) I.kIn ⟨o,e1,e2⟩ hk (λz=>nomatch z) λtk=>⟨.bl _,H,I.tok _,rfl,q⟩
theorem qz{tbl:List (Str×Bool)}{a d:D}(h:dr tbl a=some d):∃c fs vs b,a=.exc c fs vs/\tbl.lookup c=some b/\d=.bl b:=by
 unfold dr at h;split at h
 ·rename_i c fs vs;cases e:tbl.lookup c with
  |none=>rw[e]at h;cases h
  |some b=>rw[e]at h;cases h;exact⟨c,fs,vs,b,rfl,e,rfl⟩
 ·cases h
theorem zo{tbl:List (Str×Bool)}{tv:V}{T:Kc}{f:FX}(h:pS X.K T tbl):∀σ H Q,tF X (f1 (dr tbl) f) σ H Q->DM (zy X.K tv T) (vS (tF X f) (vS (tC tv) CD)) σ H Q:=λσ H Q zq=>zq.elim λO zq=>zq.elim λρ zq=>zq.elim λE hF=>⟨O,ρ,E,(cR.bind hF).imp λa hF v H1 s1 d1=>by
  obtain⟨d,e,q⟩:=cR.rO hF;obtain⟨c,fs,vs,b,rfl,e2,rfl⟩:=qz e;obtain⟨a,ws,rfl,_,_,D,dx,hcl,ha,_⟩:=DK.mp d1;obtain⟨F,hk⟩:=h c b e2 D hcl;exact⟨a,D,dx,b,rfl,aC _ _ _ _ ha,F,hk,q _ H1 s1 (gD.mpr rfl)⟩⟩
end
end TG
namespace TG
open PySem PySem.Spec L2
variable[aj]
end TG
namespace TG
open PySem PySem.Spec L2
open PySem PySem.Spec PyProof.Rows PySem.W L2
variable[aj]
end TG
namespace TG
open PySem PySem.Spec PyProof.Rows PySem.W L2
variable[aj]
end TG
namespace TG
open PySem PySem.Spec PyProof.Rows PySem.W L2
variable[aj]
end TG
namespace TG
open PySem PySem.Spec PyProof.Rows PySem.W L2
end TG
namespace TG
open PySem PySem.Spec PySem.Calls L2
open PySem.SeqAt (EqAt list_indexAt)
variable[aj]
section
variable{X:Cx}{p pos:Pos}{e:Kf}
end
end TG
namespace TG
open PySem PySem.Spec L2
variable[aj]
end TG
namespace TG
open PySem PySem.Spec PySem.Calls L2
open PySem.SeqAt (EqAt list_countAt)
variable[aj]
noncomputable def cy:List D->List D->Option (List (Key×D))
 |[],[]=>some []
 |k::ks,d::ds=>(keyOf k).bind λk=>(cy ks ds).map ((k,d)::·)
 |_,_=>none
noncomputable abbrev bY(al:List (Key×D)):List D:=al.map λp=>bK p.1
noncomputable abbrev af(al:List (Key×D)):D:=.dct (bY al) (al.map (·.2))
theorem fO(k:Key):keyOf (bK k)=some k:=by cases k<;>rfl
theorem vH{a b:Key}(h:bK a=bK b):a=b:=by
 have e:=congrArg keyOf h;rw[fO,fO]at e;exact Option.some.inj e
theorem ef:∀{ks ds:List D}{al:List (Key×D)},cy ks ds=some al->ks=bY al/\ds=al.map (·.2)
 |[],[],_,h=>by cases h;exact⟨rfl,rfl⟩
 |k::ks,d::ds,al,h=>by
  unfold cy at h;cases e1:keyOf k with
  |none=>rw[e1]at h;cases h
  |some k'=>
   rw[e1]at h;cases e2:cy ks ds with
   |none=>rw[e2]at h;cases h
   |some al'=>
    rw[e2]at h;cases h;obtain⟨h1,h2⟩:=ef e2;rw[jd e1,h1,h2];exact⟨rfl,rfl⟩
 |[],_::_,_,h=>by cases h
 |_::_,[],_,h=>by cases h
theorem cO:∀al:List (Key×D),cy (bY al) (al.map (·.2))=some al
 |[]=>rfl
 |p::r=>by
  show(keyOf (bK p.1)).bind _=_;rw[fO];show(cy (bY r) (r.map (·.2))).map ((p.1,p.2)::·)=_;rw[cO r];rfl
theorem jO:∀{al:List (Key×D)}{ks:List Key},bY al=ks.map bK->al.map (·.1)=ks
 |[],[],_=>rfl
 |p::r,k::ks,h=>by
  have h:bK p.1::bY r=bK k::ks.map bK:=h;injection h with h1 h2;rw[Hx,vH h1,jO h2]
 |[],_::_,h=>by cases h
 |_::_,[],h=>by cases h
theorem Fs{K:Jo}{H:Hp}{O:ay}{a:Ke}{al:List (Key×D)}(h:dD K H O a (af al)):
  (∃kvs:List (Key×V),H a=some (.dK kvs)/\kvs.map (·.1)=al.map (·.1)/\aF K (hid H O) (al.map (·.2)) (kvs.map (·.2)))\/(H a=some (.dT [])/\al=[]):=by
 obtain⟨o,vs,h1,h2,h3⟩:=h;rcases h3 with⟨kvs,e,e1,e2⟩|⟨kvs,e,e1,e2⟩
 ·subst e;refine .inl ⟨kvs,h1,?_,by rw[<-e2];exact h2⟩;exact(jO (ks:=kvs.map (·.1)) (by rw[IU];exact e1)).symm
 ·subst e;cases kvs with
  |nil=>
   refine .inr ⟨h1,?_⟩
   simpa using e1
  |cons p r=>
   cases al with
   |nil=>cases e1
   |cons q r'=>
    have e1:bK q.1::bY r'=D.tup (p.1.map bK)::r.map (λp=>D.tup (p.1.map bK)):=e1;injection e1 with e1 _;rcases q with⟨k,v⟩
    cases k<;>cases e1
section
variable{κ:Type}[DecidableEq κ]
noncomputable def bG(al:List (κ×D))(k:κ)(v:D):List (κ×D):=if(al.any λp=>decide (p.1=k))=true then al.map (λp=>if p.1=k then(p.1,v)else p)else al++[(k,v)]
theorem tO{kvs:List (κ×V)}{al:List (κ×D)}(e:kvs.map (·.1)=al.map (·.1))(k:κ)(w:V)(d:D):(putK kvs k w).map (·.1)=(bG al k d).map (·.1):=by
 have e2:(kvs.any λp=>decide (p.1=k))=(al.any λp=>decide (p.1=k)):=by
  have:=congrArg (λl=>l.any λq=>decide (q=k)) e
  simpa [IV,Function.comp_def]using this
 unfold putK bG;rw[e2];split
 ·have e3:∀(l:List (κ×V)),(l.map λkv=>if kv.1=k then(kv.1,w)else kv).map (·.1)=l.map (·.1):=λl=>by
   rw[IU];refine Ip λp _=>?_;show(if p.1=k then(p.1,w)else p).1=p.1;split<;>rfl
  have e4:∀(l:List (κ×D)),(l.map λkv=>if kv.1=k then(kv.1,d)else kv).map (·.1)=l.map (·.1):=λl=>by
   rw[IU];refine Ip λp _=>?_;show(if p.1=k then(p.1,d)else p).1=p.1;split<;>rfl
  rw[e3,e4,e]
 ·rw[Iq,Iq,e];rfl
theorem nV{K:Jo}{H:Hp}{k:κ}{w:V}{d:D}(hw:bp K H d w):∀{kvs:List (κ×V)}{al:List (κ×D)},kvs.map (·.1)=al.map (·.1)->aF K H (al.map (·.2)) (kvs.map (·.2))->
  aF K H ((al.map λp=>if p.1=k then(p.1,d)else p).map (·.2)) ((kvs.map λp=>if p.1=k then(p.1,w)else p).map (·.2))
 |[],[],_,h=>h
 |p::r,q::r',e,h=>by
  rw[Hx,Hx]at e;injection e with e1 e2;rw[Hx,Hx,aQ]at h;obtain⟨v,ws,h0,h1,h2⟩:=h;injection h0 with h0 h0';subst h0 h0';have ih:=nV (k:=k) hw e2 h2;rw[Hx,Hx,Hx,Hx,aQ];refine⟨_,_,rfl,?_,ih⟩;rw[e1];split
  ·exact hw
  ·exact h1
 |[],_::_,e,_=>by cases e
 |_::_,[],e,_=>by cases e
theorem wH{K:Jo}{H:Hp}{k:κ}{w:V}{d:D}(hw:bp K H d w){kvs:List (κ×V)}{al:List (κ×D)}(e:kvs.map (·.1)=al.map (·.1))(h:aF K H (al.map (·.2)) (kvs.map (·.2))):
  aF K H ((bG al k d).map (·.2)) ((putK kvs k w).map (·.2)):=by
 have e2:(kvs.any λp=>decide (p.1=k))=(al.any λp=>decide (p.1=k)):=by
  have:=congrArg (λl=>l.any λq=>decide (q=k)) e
  simpa [IV,Function.comp_def]using this
 unfold putK bG;rw[e2];split
 ·exact nV hw e h
 ·rw[Iq,Iq];exact h.append (aQ.mpr ⟨w,[],rfl,hw,bQ.mpr rfl⟩)
end
noncomputable def ky(ks ds:List D)(k v:D):Option (List (Key×D)):=(cy ks ds).bind λal=>(keyOf k).bind λk=>if small al.length then some (bG al k v)else none
noncomputable def dN(i:Nat)(fk fv:FX):bu:=λk ρ=>match ρ[i]? with
 |some (some (.own (.dct ks ds)))=>kL ((fv ρ).bind λv=>(fk ρ).bind λq=>rO (ky ks ds q v)) k ρ λal=>k.nx (ρ.set i (some (.own (af al))))
 |_=>un
theorem qY{ks ds:List D}{k v:D}{al':List (Key×D)}(h:ky ks ds k v=some al'):∃al q,ks=bY al/\ds=al.map (·.2)/\k=bK q/\small al.length=true/\al'=bG al q v:=by
 unfold ky at h;cases e1:cy ks ds with
 |none=>rw[e1]at h;cases h
 |some al=>
  rw[e1]at h;cases e2:keyOf k with
  |none=>rw[e2]at h;cases h
  |some q=>
   rw[e2]at h;obtain⟨h3,h4⟩:=aW (show(if small al.length then some (bG al q v)else none)=some al' from h);obtain⟨h1,h2⟩:=ef e1;exact⟨al,q,h1,h2,jd e2,h3,h4.symm⟩
theorem yz{kvs:List (Key×V)}{al:List (Key×D)}(e:kvs.map (·.1)=al.map (·.1)):bY al=kvs.map λp=>bK p.1:=by
 have:=congrArg (List.map bK) e
 rw[IU,IU]at this;exact this.symm
noncomputable def z4(td ty tv:TE):TS:=λD σ H=>tv σ H λv H1=>td σ H1 λx H2=>ty σ H2 λy H3=>∃a k kvs,x=.ref a/\y=kV k/\(H3 a=some (.dK kvs)\/(H3 a=some (.dT [])/\kvs=[]))/\kvs.length<Km/\D.nx σ (upd H3 a (.dK (putK kvs k v)))
section
variable{X:Cx}{o idx value:Kf}{pos pos':Pos}{td ty tv:TE}
theorem wV(hu:X.A.units+1<KS)(ho:PE X o td)(hi:PE X idx ty)(hv:PE X value tv)(hs:swapsWith value (some (.Subscript o idx pos')) pos.line X.env=pure false):PS X (.Assign [.Subscript o idx pos'] value pos) (z4 td ty tv):=by
 intro pins s σ H D I h;refine wpAny_Assign_Subscript (b9 (hv pins s σ H _ I h) λr s1 zq=>zq.elim λv zq=>zq.elim λH1 zq=>zq.elim λI1 zq=>zq.elim λrv q1=>b9 (ho pins s1 σ H1 _ I1 q1) λu s2 zq=>zq.elim λx zq=>zq.elim λH2 zq=>zq.elim λI2 zq=>zq.elim λrx q2=>b9 (hi pins s2 σ H2 _ I2 q2) λiv s3 h3=>?_) hs;obtain⟨y,H3,I3,ry,a,k,kvs,ex,ey,ha,hl,q3⟩:=h3;subst ex ey;obtain rfl:u=Value.ref a:=rx;rcases ha with ha|⟨ha,rfl⟩
 ·exact nD hu I3 (BZ.k ha hl) ry rv λs4 I4=>⟨σ,_,I4,q3⟩
 ·refine nD hu (Bt I3 ha) (BZ.k aD hl) ry rv λs4 I4=>⟨σ,_,I4,?_⟩
  rw[wC];exact q3
end
section
variable{X:Cx}
theorem Fb{pins:aK}{σ:St}{H:Hp}{s:Kh}{O:ay}{ks ds:List D}{v:V}{qs:List Key}(I:`g)(h:bp X.K (hid H O) (.dct ks ds) v)(hk:keysOf ks=some qs):
  ∃a vs,v=.ref a/\qs.length<=Km/\(a==sysModules)=false/\s.heap.DictOf (bz X.prog X.w) a vs/\vs.map (·.1)=qs:=by
 obtain⟨a,vs,e,_,h2⟩:=DI.mp h;have ek:=j9 hk;rcases h2 with⟨kvs,h3,h4,_⟩|⟨kvs,h3,h4,_⟩|⟨kvs,o,h3,h4,_⟩
 rotate_left 2
 ·rw[h4]at hk;cases hk
 ·obtain⟨z,hd,us,rel,dd⟩:=rq I.hok ((aC H O) _ _ h3);have e1:kvs.map (·.1)=qs:=by
   have:(kvs.map (·.1)).map bK=qs.map bK:=(by rw[IU,<-ek,h4];rfl);have e2:=congrArg keysOf this;rw[eF,eF]at e2;exact Option.some.inj e2
  refine⟨a,us,e,?_,hd,dd,?_⟩
  ·have:=congrArg List.length e1
   rw[Hy]at this;omega
  ·rw[<-rel.keys,e1]
 ·cases kvs with
  |nil=>
   rw[h4]at hk;cases hk;obtain⟨z,hd,us,rel,dd⟩:=(show bL X.prog X.w H s.heap a (.dK [])from li (I.hok a _ ((aC H O) _ _ h3)))
   refine⟨a,us,e,HA _,hd,dd,?_⟩;rw[<-rel.keys];rfl
  |cons p r=>
   rw[h4]at hk;cases hk
theorem tV{k:Key}{v:Kc}(h:kC k v=true):RelV (kV k) v:=by
 rcases bD h with⟨i,t,rfl,rfl⟩|⟨x,t,rfl,rfl⟩
 ·exact⟨_,rfl⟩
 ·exact⟨_,rfl⟩
theorem mY{P:Kj}{w:Ki}:∀{vs:List (Key×Kc)}{its:aP},its.length=vs.length->(∀(j:Nat)(v:Kc),its[j]?=some v->∃(k:Key)(x:Kc),vs[j]?=some (k,x)/\(bz P w).is k v=true)->Vals (vs.map λp=>kV p.1) its
 |[],[],_,_=>.nil
 |p::r,u::us,hl,h=>by
  obtain⟨k,x,e,hk⟩:=h 0 u rfl;cases e;exact .cons (tV (by rw[qO]at hk;exact hk)) (mY (by simpa using hl) λj v e=>h (j+1) v (by simpa using e))
 |[],_::_,hl,_=>by cases hl
 |_::_,[],hl,_=>by cases hl
theorem nz{K:Jo}{H:Hp}:∀qs:List Key,aF K H (qs.map bK) (qs.map kV)
 |[]=>bQ.mpr rfl
 |k::r=>aQ.mpr ⟨kV k,_,rfl,by cases k with
  |inl i=>exact dP.mpr rfl
  |inr x=>exact dq.mpr rfl,nz r⟩
noncomputable def lm:List D->aV
 |[.dct ks _]=>(keysOf ks).bind λ_=>some (.lst ks)
 |_=>none
theorem qa(hc:X.calm=true):dA X (.type "list") (Az X.K lm):=by
 rintro pins s σ H xs us Q I r ⟨O,ds,d,hO,hd,hg,q⟩;unfold lm at hg;split at hg
 ·rename_i ks vs0;cases hk:keysOf ks with
  |none=>rw[hk]at hg;cases hg
  |some qs=>
   rw[hk]at hg;cases hg;obtain⟨v,ev,h1⟩:=hd.one;obtain⟨a,vs,e,z,hs,dd,e1⟩:=Fb I h1 hk;subst ev e;obtain⟨u,rfl,ru⟩:=vals1 r;cases ru;have hl:vs.length=qs.length:=(by have:=congrArg List.length e1;simpa using this);obtain⟨ep,da⟩:=dd.dictAt;refine PySem.W.kdl_call (PySem.W.kdl_dict hs) (I.ok.hd hc) da `o λh' tk acc' c' kp e2 it=>?_;have rv:Vals (qs.map kV) acc'.toList:=by
    have:=mY (P:=X.prog) (w:=X.w) (vs:=vs) (its:=acc'.toList) (by rw[Array.length_toList];exact it.1) λj v e=>it.2 j v (by rw[<-Array.getElem?_toList];exact e)
    rw[<-e1,IU];exact this
   refine⟨.ref s.heap.objs.size,_,I.laid (t':=tk) kp (Hs _) (show bL X.prog X.w _ h' _ (.lst (qs.map kV))from⟨by rw[Hy];exact z,acc'.toList,c',rv,by simpa using e2⟩),rfl,?_⟩;have hf:=I.hok.fresh (Hs s.heap.objs.size);refine q _ _ (bM hf _) ?_;rw[j9 hk];exact dB hO hf (nz qs)
 ·cases hg
end
end TG
namespace TG
open PySem PySem.Spec L2
variable[aj]
end TG
namespace TG
open PySem PySem.Spec PySem.Calls L2
variable[aj]
end TG
namespace TG
open PySem PySem.Spec L2
variable[aj]
end TG
namespace TG
open PySem PySem.Spec L2
variable[aj]
end TG
namespace TG
open PySem PySem.Spec L2
variable[aj]
end TG
namespace TG
open PySem PySem.Spec PySem.Calls L2
variable[aj]
end TG
namespace TG
open PySem PySem.Spec L2
variable[aj]
end TG
namespace TG
open PySem PySem.Spec L2
variable[aj]
end TG
namespace TG
open PySem PySem.Spec L2
variable[aj]
theorem lg{α β:Type}{R:α->β->Prop}:∀{xs:List α}{ys:List β},Kk R xs ys->∀{i:Nat}{x:α},xs[i]?=some x->∃y,ys[i]?=some y/\R x y:=λh=>by
 induction h with
 |nil=>intro i x e;simp at e
 |cons hq _ ih=>
  intro i x e;cases i with
  |zero=>rw[IG]at e;cases e;exact⟨_,rfl,hq⟩
  |succ i=>rw[IH]at e ⊢;exact ih e
end TG
namespace TG
open PySem PySem.Spec L2
variable[aj]
end TG
namespace TG
open PySem PySem.Spec PySem.Calls L2
variable[aj]
end TG
namespace L2
open PySem PySem.Spec PyProof.Rows
end L2
namespace TG
open PySem PySem.Spec L2
variable[aj]
end TG
namespace TG
open PySem PySem.Spec L2
variable[aj]
end TG
namespace TG
open PySem PySem.Spec L2
variable[aj]
end TG
namespace TG
open PySem PySem.Spec L2
variable[aj]
end TG
namespace TG
open PySem PySem.Spec L2
variable[aj]
end TG
namespace L2
open PySem PySem.Spec PyProof.Rows
end L2
namespace TG
open PySem PySem.Spec L2
variable[aj]
end TG
namespace TG
open PySem PySem.Spec PySem.Calls L2
variable[aj]
theorem eU{K:Jo}{H:Hp}{v:V}{al:List (Key×D)}(h:bp K H (af al) v):
  ∃a,v=.ref a/\((∃kvs:List (Key×V),H a=some (.dK kvs)/\kvs.map (·.1)=al.map (·.1)/\aF K H (al.map (·.2)) (kvs.map (·.2)))\/(H a=some (.dT [])/\al=[])):=by
 obtain⟨a,vs,e0,h2,h3⟩:=DI.mp h;refine⟨a,e0,?_⟩;rcases h3 with⟨kvs,e,e1,e2⟩|⟨kvs,e,e1,e2⟩|⟨kvs,o,e,e1,e2⟩
 ·refine .inl ⟨kvs,e,?_,by rw[<-e2];exact h2⟩;exact(jO (ks:=kvs.map (·.1)) (by rw[IU];exact e1)).symm
 ·cases kvs with
  |nil=>exact .inr ⟨e,by simpa using e1⟩
  |cons p r=>
   cases al with
   |nil=>cases e1
   |cons q r'=>
    have e1:bK q.1::bY r'=D.tup (p.1.map bK)::r.map (λp=>D.tup (p.1.map bK)):=e1;injection e1 with e1 _;rcases q with⟨k,v⟩
    cases k<;>cases e1
 ·cases al with
  |nil=>cases e1
  |cons q r=>
   have e1:bK q.1::bY r=D.non::kvs.map (λp=>D.tup (p.1.map bK)):=e1;injection e1 with e1 _;rcases q with⟨k,v⟩
   cases k<;>cases e1
noncomputable def cA(al:List (Key×D))(q:Key):aV:=(al.find? λp=>decide (p.1=q)).map (·.2)
theorem jm{K:Jo}{H:Hp}(q:Key):∀{kvs:List (Key×V)}{al:List (Key×D)},kvs.map (·.1)=al.map (·.1)->aF K H (al.map (·.2)) (kvs.map (·.2))->(iS kvs q=none/\cA al q=none)\/∃v d,iS kvs q=some v/\cA al q=some d/\bp K H d v
 |[],[],_,_=>.inl ⟨rfl,rfl⟩
 |p::r,a::al,e,h=>by
  rw[Hx,Hx]at e;injection e with e1 e2;rw[Hx,Hx,aQ]at h;obtain⟨v,ws,h0,h1,h2⟩:=h;injection h0 with h0 h0';subst h0 h0';by_cases z:p.1=q
  ·refine .inr ⟨p.2,a.2,jf z,?_,h1⟩;unfold cA;rw[List.find?_cons_of_pos (by rw[<-e1];simpa using z)];rfl
  ·have ih:=jm q e2 h2;have g:cA (a::al) q=cA al q:=by
    unfold cA;rw[List.find?_cons_of_neg (by rw[<-e1];simpa using z)]
   rw[ja z,g];exact ih
 |[],_::_,e,_=>by cases e
 |_::_,[],e,_=>by cases e
noncomputable def zB(dd k:D):Option (aV):=match dd with
 |.dct ks ds=>(cy ks ds).bind λal=>(keyOf k).map λq=>cA al q
 |_=>none
noncomputable def dM(dd k:D):aV:=(zB dd k).bind id
noncomputable def dS(x y:D):aV:=(zB y x).map λo=>.bl (!o.isSome)
theorem pK{dd k:D}{o:aV}(h:zB dd k=some o):∃al q,dd=af al/\k=bK q/\o=cA al q:=by
 unfold zB at h;split at h
 ·rename_i ks ds;cases e1:cy ks ds with
  |none=>rw[e1]at h;cases h
  |some al=>
   rw[e1]at h;cases e2:keyOf k with
   |none=>rw[e2]at h;cases h
   |some q=>
    rw[e2]at h;cases h;obtain⟨h1,h2⟩:=ef e1;exact⟨al,q,by rw[h1,h2],jd e2,rfl⟩
 ·cases h
theorem Bp{X:Cx}{pins:aK}{σ:St}{H:Hp}{s:Kh}{O:ay}{al:List (Key×D)}{q:Key}{x y:V}(I:`g)(hb:bp X.K (hid H O) (af al) y)(ha:bp X.K (hid H O) (bK q) x):
  ∃(a:Ke)(o:Option V)(H':Hp),y=.ref a/\Inv X pins σ H' s/\uf H' a x o/\(∀s',Inv X pins σ H' s'->Inv X pins σ H s')/\((o=none/\cA al q=none)\/∃v d,o=some v/\cA al q=some d/\bp X.K (hid H O) d v):=by
 obtain⟨a,ey,hh⟩:=eU hb;have ex:=iY ha;subst ex;rcases hh with⟨kvs,k1,k2,k3⟩|⟨k1,rfl⟩
 ·exact⟨a,iS kvs q,H,ey,I,uf.k ((aC H O) _ _ k1),λs' z=>z,jm q k2 k3⟩
 ·have k1':=(aC H O) _ _ k1;refine⟨a,iS [] q,upd H a (.dK []),ey,Bt I k1',uf.k aD,λs' I4=>?_,.inl ⟨rfl,rfl⟩⟩;have I5:=CB I4 aD;rw[wJ k1']at I5;exact I5
section
variable{X:Cx}
theorem nE(hu:X.A.units+64<KS):iG X (KL .NotIn) (rD X.K dS):=by
 rintro pins s σ H x y u v Q I rx ry ⟨O,a,b,d,hO,ha,hb,hg,q⟩;unfold dS at hg;cases e:zB b a with
 |none=>rw[e]at hg;cases hg
 |some o=>
  rw[e]at hg;cases hg;obtain⟨al,qk,rfl,rfl,rfl⟩:=pK e;obtain⟨p,o,H',ey,I',g,bk,z⟩:=Bp I hb ha;subst ey;cases ry;refine x9 `o I' g rx λs3 I3=>⟨.bl (!o.isSome),H,bk s3 I3,rfl,q _ H (aL.refl H) (gD.mpr ?_)⟩
  rcases z with⟨z1,z2⟩|⟨v,d,z1,z2,_⟩<;>rw[z1,z2]<;>rfl
end
end TG
namespace TG
open PySem PySem.Spec PySem.Calls L2
variable[aj]
end TG
namespace TG
open PySem PySem.Spec L2
variable[aj]
end TG
namespace TG
open PySem PySem.Spec PySem.Calls L2
variable[aj]
end TG
namespace TG
open PySem PySem.Spec PySem.Calls L2
variable[aj]
end TG
namespace L2
open PySem PySem.Spec PyProof.Rows
end L2
namespace TG
open PySem PySem.Spec L2
variable[aj]
end TG
namespace TG
open PySem PySem.Spec PySem.Calls L2
variable[aj]
end TG
namespace TG
open PySem PySem.Spec PyProof.Rows L2
noncomputable def BO(lo hi:bn)(st:Int)(n:Nat):List Nat:=sliceRange (sliceBounds lo hi (some st) n).1 (sliceBounds lo hi (some st) n).2.1 (sliceBounds lo hi (some st) n).2.2
noncomputable def lT{α:Type}(xs:List α)(is:List Nat):List α:=is.filterMap (xs[·]?)
noncomputable def ck{α:Type}(xs:List α)(lo hi:bn)(st:Int):List α:=lT xs (BO lo hi st xs.length)
theorem kt(its:aP)(lo hi:bn)(st:Int):slicePick its.toArray lo hi (some st)=(ck its lo hi st).toArray:=by
 unfold slicePick ck lT BO;rw[Hu];congr 2;funext i;exact List.getElem?_toArray
theorem Vals.ats:∀{xs:az}{us:aP},Vals xs us->∀is:List Nat,Vals (lT xs is) (lT us is)
 |xs,us,h,[]=>.nil
 |xs,us,h,i::is=>by
  have ih:=Vals.ats h is;unfold lT at ih ⊢;rw[Hi,Hi];cases e:xs[i]? with
  |none=>
   have l:=h.length
   have:us[i]?=none:=IW (by have:=List.getElem?_eq_none_iff.mp e;omega)
   rw[this];exact ih
  |some x=>
   obtain⟨u,eu,ru⟩:=h.get e;rw[eu];exact .cons ru ih
theorem aF.ats{K:Jo}{H:Hp}{ds:List D}{vs:az}(h:aF K H ds vs):∀is:List Nat,aF K H (lT ds is) (lT vs is)
 |[]=>bQ.mpr rfl
 |i::is=>by
  have ih:=aF.ats h is;unfold lT at ih ⊢;rw[Hi,Hi];cases e:ds[i]? with
  |none=>
   have l:=h.length
   have:vs[i]?=none:=IW (by have:=List.getElem?_eq_none_iff.mp e;omega)
   rw[this];exact ih
  |some x=>
   obtain⟨u,eu,ru⟩:=h.get e;rw[eu];exact aQ.mpr ⟨u,_,rfl,ru,ih⟩
section
variable[aj]{X:Cx}{e:Kf}{te:TE}{lo hi:Option Kf}{sx:Kf}{tl th ts:TO}{pos p2:Pos}
noncomputable def EB(r:V->bn->bn->bn->Hp->VK->Prop)(te:TE)(tl th ts:TO):TE:=λσ H Q=>te σ H λx H1=>tl σ H1 λl H2=>th σ H2 λu H3=>ts σ H3 λst H4=>r x l u st H4 Q
noncomputable def kP(a:D)(lo hi st:bn):aV:=match a,st with
 |.lst xs,some st=>if !(st==0)&&small (ck xs lo hi st).length then some (.lst (ck xs lo hi st))else none
 |_,_=>none
noncomputable def D8(K:Jo):V->bn->bn->bn->Hp->VK->Prop:=λx lo hi st H Q=>∃O a d,bV H O/\bp K (hid H O) a x/\kP a lo hi st=some d/\∀v H',aL H H'->bp K (hid H' O) d v->Q v H'
theorem uH(he:PE X e te)(hl:PO X lo tl)(hu:PO X hi th)(hst:PO X (some sx) ts):PE X (.Subscript e (.Slice lo hi (some sx) p2) pos) (EB (D8 X.K) te tl th ts):=by
 intro pins s σ H Q I h;refine Lb (b9 (he pins s σ H _ I h) λv s1 zq=>zq.elim λx zq=>zq.elim λH1 zq=>zq.elim λI1 zq=>zq.elim λr1 q1=>?_);refine wpAny_Slice (b9 (hl pins s1 σ H1 _ I1 q1) λvl s2 zq=>zq.elim λl zq=>zq.elim λH2 zq=>zq.elim λI2 zq=>zq.elim λpl q2=>b9 (hu pins s2 σ H2 _ I2 q2) λvu s3 zq=>zq.elim λu zq=>zq.elim λH3 zq=>zq.elim λI3 zq=>zq.elim λpu q3=>b9 (hst pins s3 σ H3 _ I3 q3) λvs s4 zq=>zq.elim λst zq=>zq.elim λH4 zq=>zq.elim λI4 zq=>zq.elim λpst q4=>?_);have I5:Inv X pins σ H4 {s4 with heap:=s4.heap.push {cls:=.type "slice",data:=.fields #[vl,vu,vs]}}:=I4.kept (t':=s4.toks) λb ob q=>JX _ q;obtain⟨O,a,d,hO,ha,hg,q⟩:=q4;cases a with
 |lst xs=>
  cases st with
  |none=>cases hg
  |some n=>
   obtain⟨nsm,rfl⟩:=aW (show(if !(n==0)&&small (ck xs l u n).length then some (D.lst (ck xs l u n))else none)=some d from hg);rw[HM]at nsm;obtain⟨n0',sm⟩:=nsm;have n0:n≠0:=(by simpa using n0');obtain⟨p,ws,rfl,g1,g2⟩:=bC.mp ha;cases r1;obtain⟨its,rv,ht,hz⟩:=I5.list ((aC H4 O).seq g1);have hlen:=rv.length;have hle:=g2.length;show Kt `i X.A (subscriptTail e (.Slice lo hi (some sx) p2) (.ref p) (.ref s4.heap.objs.size)) (EP X pins σ Q) X.xe {s4 with heap:=s4.heap.push {cls:=.type "slice",data:=.fields #[vl,vu,vs]}};refine tail_any (ops:=[.ref p,.ref s4.heap.objs.size]) ht.isList.typeIs slot_list_getitem.lookup ?_ (by with_unfolding_all rfl);refine Lc ht.isList (Heap.IsSliceOf.new ..) pl pu pst (λz=>n0 (Option.some.inj z)) ?_ (by rw[Hu];omega);rw[kt];have lv:(ck ws l u n).length<=Km:=by
    have e1:(ck xs l u n).length=(ck ws l u n).length:=by
     unfold ck;rw[hle];exact(aF.ats g2 _).length
    rw[<-e1];exact bU sm
   have rp:Vals (ck ws l u n) (ck its l u n):=by
    unfold ck;rw[<-hlen];exact Vals.ats rv _
   have hf:=I5.hok.fresh (Hs _);refine⟨.ref (s4.heap.push {cls:=.type "slice",data:=.fields #[vl,vu,vs]}).objs.size,_,I5.laid (t':=s4.toks) (o:=.lst (ck ws l u n)) (λb ob q=>JX _ q) (Hs _) ?_,rfl,q _ _ (bM hf _) (dB hO hf ?_)⟩
   ·exact⟨lv,_,0,rp,JY _ rfl⟩
   ·unfold ck;rw[hle];exact aF.ats g2 _
 |_=>cases hg
noncomputable def fS(f:FX)(l h s:ai->R bn):FX:=λρ=>(f ρ).bind λa=>(l ρ).bind λlo=>(h ρ).bind λhi=>(s ρ).bind λst=>rO (kP a lo hi st)
end
end TG
namespace TG
open PySem PySem.Spec L2
variable[aj]
end TG
namespace TG
open PySem PySem.Spec L2
variable[aj]
end TG
namespace TG
open PySem PySem.Spec PySem.Calls L2
variable[aj]
end TG
namespace TG
open PySem PySem.Spec L2
variable[aj]
end TG
namespace TG
open PySem PySem.Spec L2
variable[aj]
end TG
namespace TG
open PySem PySem.Spec L2
variable[aj]
end TG
namespace TG
open PySem PySem.Spec L2
variable[aj]
end TG
namespace TG
open PySem PySem.Spec L2
variable[aj]
end TG
namespace TG
open PySem PySem.Spec L2
variable[aj]
noncomputable def Bv(K:Jo)(n:Nat)(g:bv):Sp:=λvs H Q E=>∃O ds,vs.length=n/\bV H O/\aF K (hid H O) ds vs/\match g ds with
 |.ok d=>∀p H',aL H H'->H p=none->(∃o,H' p=some o/\kH o)->dD K H' (p::O) p d->Q (.ref p) H'
 |.error (some x)=>Dl K H O x E
 |.error none=>False
theorem uF{X:Cx}{n:Nat}{g:bv}{f:aH}(hn:∀ds,g ds≠un->ds.length=n):∀σ H Q,Du X (fR g f) σ H Q->p7 X (Bv X.K n g) (Dt X f) σ H Q:=λσ H Q zq=>zq.elim λO zq=>zq.elim λρ zq=>zq.elim λE hF=>
 ⟨O,ρ,E,(cR.bind hF).imp fun ds hF vs H1 s1 d1=>by
  cases hg:g ds with
  |ok d=>
   rw[hg]at hF;refine⟨E0,kQ,O,ds,by rw[<-d1.length];exact hn ds (by rw[hg];intro z;cases z),E.all.same s1,d1,?_⟩;rw[hg];exact λp H2 s2 hp ho own=>hF p H2 (s1.trans s2) (s1.free hp) ho own
  |error z=>
   rw[hg]at hF;cases z with
   |none=>exact hF.elim
   |some x=>
    refine⟨nT X O H1 x,kR (zJ.mono hF s1),O,ds,by rw[<-d1.length];exact hn ds (by rw[hg];intro z;cases z),E.all.same s1,d1,?_⟩;rw[hg];exact iZ⟩
noncomputable def xI(P:Kj)(w:Ki)(K:Jo)(mg:bj)(base:Kl)(k:Nat)(x:Str)(ps:ao)(g:bv):Prop:=
 ∃f fd,dJ P w K mg base (gu P w) k f fd ps (Bv K ps.length g)/\Binds K fd ps []/\JB K (.ref f)=true/\mg x=some (.ref f)
end TG
namespace TG
open PySem PySem.Spec L2
variable[aj]
end TG
namespace TG
open PySem PySem.Spec L2
variable[aj]
end TG
namespace TG
open PySem PySem.Spec L2
variable[aj]
section
variable{X:Cx}
noncomputable def Ab(K:Jo):az->Hp->VK->Prop:=λvs H Q=>∃(O:ay)(al:List (Key×D))(v:V),vs=[v]/\bV H O/\bp K (hid H O) (af al) v/\∀(l:Ke)(kvs:List (Key×V)),H l=none->kvs.map (·.1)=al.map (·.1)->aF K (hid H O) (al.map (·.2)) (kvs.map (·.2))->Q (.ref l) (upd H l (.dK kvs))
theorem qV:dA X (.type "dict") (Ab X.K):=by
 rintro pins s σ H xs us Q I r ⟨O,al,v,rfl,hO,hv,q⟩;obtain⟨u,rfl,ru⟩:=vals1 r;obtain⟨a,ev,hh⟩:=eU hv;subst ev;cases ru;have hf:=I.hok.fresh (Hs s.heap.objs.size);have fin:∀(H0:Hp)(kvs:List (Key×V)),Inv X pins σ H0 s->H0 a=some (.dK kvs)->kvs.map (·.1)=al.map (·.1)->aF X.K (hid H O) (al.map (·.2)) (kvs.map (·.2))->(∀p (s':Kh),Inv X pins σ (upd H0 p (.dK kvs)) s'->H p=none->p≠a->Inv X pins σ (upd H p (.dK kvs)) s')->Kt `i X.A (call (.type "dict") [.ref a]) (EP X pins σ Q) X.xe s:=λH0 kvs I0 h0 e1 e2 bk=>by
  obtain⟨z,hd,vs,rel,dd⟩:=rq I0.hok h0;have kl:kvs.length=vs.length:=Paired.length rel;refine PySem.kt_call_dict (knd:=bz X.prog X.w) hd dd `o λh' d' sb=>?_;have hf0:=I0.hok.fresh (Hs s.heap.objs.size);have kp:∀b o,s.heap.get? b=some o->h'.get? b=some o:=λb o e=>(sb.2 b (Hf (JV e))).trans (JX _ e);have I1:=I0.laid (t':=s.toks) kp (Hs _) (show bL X.prog X.w (upd H0 s.heap.objs.size (.dK kvs)) h' _ (.dK kvs)from⟨z,beq_eq_false_iff_ne.mpr (Ne.symm (Hf I0.big)),vs,rel,d'⟩);exact⟨.ref s.heap.objs.size,_,bk _ _ I1 hf (λz=>by rw[z,h0]at hf0;cases hf0),rfl,q _ kvs hf e1 e2⟩
 rcases hh with⟨kvs,k1,k2,k3⟩|⟨k1,k2⟩
 ·exact fin H kvs I ((aC H O) _ _ k1) k2 k3 λ_ _ z _ _=>z
 ·subst k2;have ha:=(aC H O) _ _ k1;refine fin _ [] (Bt I ha) aD rfl (bQ.mpr rfl) λp s' I1 hp ne=>?_;have e0:upd (upd H a (.dK [])) p (.dK []) a=some (.dK []):=by rw[ax (Ne.symm ne)];exact aD
  have I2:=CB I1 e0
  have:upd (upd (upd H a (.dK [])) p (.dK [])) a (.dT [])=upd H p (.dK []):=by
   funext b;by_cases z:b=a
   ·rw[z,aD,ax (Ne.symm ne),ha]
   ·rw[ax z];by_cases z2:b=p
    ·rw[z2,aD,aD]
    ·rw[ax z2,ax z2,ax z]
  rw[this]at I2;exact I2
noncomputable def fX:List D->aV
 |[.dct ks ds]=>(cy ks ds).map λal=>af al
 |_=>none
end
end TG
namespace TG
open PySem PySem.Spec L2 PySem.SeqAt
variable[aj]
noncomputable def zN(al bl:List (Key×D)):Bool:=al.length==bl.length&&al.all λp=>match cA bl p.1 with
 |some v=>pyEq p.2 v
 |none=>false
noncomputable def dy(al:List (Key×D)):Bool:=al.all λp=>pl p.2&&cM 8 p.2
noncomputable def lx(a b:D):Option Bool:=match a,b with
 |.dct k1 d1,.dct k2 d2=>(cy k1 d1).bind λal=>(cy k2 d2).bind λbl=>if dy al&&dy bl then some (zN al bl)else none
 |_,_=>none
noncomputable def sM(a b:D):aV:=(lx a b).map .bl
noncomputable def oQ(a b:D):aV:=(lx a b).map λe=>.bl (!e)
theorem jT{a b:D}{e:Bool}(h:lx a b=some e):∃al bl,a=af al/\b=af bl/\dy al=true/\dy bl=true/\e=zN al bl:=by
 unfold lx at h;split at h
 ·obtain⟨al,e1,h⟩:=Option.bind_eq_some_iff.mp h;obtain⟨bl,e2,h⟩:=Option.bind_eq_some_iff.mp h;obtain⟨g,h⟩:=aW h;rw[HM]at g;obtain⟨f1,f2⟩:=ef e1;obtain⟨f3,f4⟩:=ef e2;exact⟨al,bl,by rw[f1,f2],by rw[f3,f4],g.1,g.2,h.symm⟩
 ·cases h
section
variable{X:Cx}{pins:aK}{σ:St}{H Hd:Hp}{s:Kh}
theorem qu(I:`g)(sm:aL Hd H){al:List (Key×D)}{v:V}(h:bp X.K Hd (af al) v):∃(a:Ke)(kvs:List (Key×V))(vs:List (Key×Kc)),v=.ref a/\kvs.map (·.1)=al.map (·.1)/\aF X.K Hd (al.map (·.2)) (kvs.map (·.2))/\L2.KV kvs vs/\(a==sysModules)=false/\s.heap.DictOf (bz X.prog X.w) a vs:=by
 obtain⟨a,ev,hh⟩:=eU h;rcases hh with⟨kvs,k1,k2,k3⟩|⟨k1,k2⟩
 ·obtain⟨z,hd,vs,rel,dd⟩:=rq I.hok (sm _ _ k1);exact⟨a,kvs,vs,ev,k2,k3,rel,hd,dd⟩
 ·subst k2;obtain⟨z,hd,vs,rel,dd⟩:=(show bL X.prog X.w H s.heap a (.dK [])from li (I.hok a _ (sm _ _ k1)))
  exact⟨a,[],vs,ev,rfl,bQ.mpr rfl,rel,hd,dd⟩
theorem kS{A:Kp}(I:Inv X pins σ Hd s){bl:List (Key×D)}{kb:List (Key×V)}{vb:List (Key×Kc)}(hA:A.units+8<KS)(gb:dy bl=true)(e1:kb.map (·.1)=bl.map (·.1))(e2:aF X.K Hd (bl.map (·.2)) (kb.map (·.2)))(rb:L2.KV kb vb):
  ∀{al:List (Key×D)}{ka:List (Key×V)}{va:List (Key×Kc)},dy al=true->ka.map (·.1)=al.map (·.1)->aF X.K Hd (al.map (·.2)) (ka.map (·.2))->L2.KV ka va->PySem.W.KeqHits A s vb va (al.all λp=>match cA bl p.1 with
   |some v=>pyEq p.2 v
   |none=>false)
 |[],[],_,_,_,_,r=>by cases r;exact .nil
 |p::al,q::ka,va,g,f1,f2,r=>by
  cases r with
  |@cons _ w _ va' hq rr=>
   rw[Hx,Hx]at f1;injection f1 with f1 f1';rw[Hx,Hx,aQ]at f2;obtain⟨v0,ws,h0,d1,d2⟩:=f2;injection h0 with h0 h0';subst h0 h0';unfold dy at g;rw[Ig,HM]at g;have ih:=kS I hA gb e1 e2 rb (al:=al) g.2 f1' d2 rr;obtain⟨k,u⟩:=w;obtain⟨hk,hu⟩:=hq;have ek:k=p.1:=hk.symm.trans f1;subst ek;rw[Ig];have rv:=rb.val p.1;rcases jm p.1 e1 e2 with⟨z1,z2⟩|⟨v,d,z1,z2,z3⟩
   ·rw[z1]at rv;rw[z2];exact .miss (oa.none_of rv)
   ·rw[z1]at rv;obtain⟨y,hy,ry⟩:=oa.some_of rv;rw[z2];have gd:pl d=true/\cM 8 d=true:=by
     unfold cA at z2;obtain⟨p',hp',rfl⟩:=Option.map_eq_some_iff.mp z2
     have:=List.all_eq_true.mp gb p' (IX hp')
     rw[HM]at this;exact this
    rw[HM]at g;exact .hit hy (qq I 8 p.2 d _ _ _ _ A g.1.1 gd.1 (.inl g.1.2) d1 z3 hu ry hA) ih
 |[],_::_,_,_,f1,_,_=>by cases f1
 |_::_,[],_,_,f1,_,_=>by cases f1
end
section
variable{X:Cx}
theorem wv(hu:X.A.units+64<KS):iG X (KL .Eq) (rD X.K sM):=eB λpins s σ H a b d x y u v I ha hb ru rv hg=>by
 obtain⟨e,he,rfl⟩:=Option.map_eq_some_iff.mp hg;obtain⟨al,bl,rfl,rfl,ga,gb,rfl⟩:=jT he;obtain⟨p,ka,va,rfl,a1,a2,a3,a4,a5⟩:=qu I (aL.refl H) ha;obtain⟨p',kb,vb,rfl,b1,b2,b3,b4,b5⟩:=qu I (aL.refl H) hb;cases ru;cases rv;have l1:va.length=al.length:=by rw[<-Paired.length a3];have:=congrArg List.length a1;simpa using this
 have l2:vb.length=bl.length:=by rw[<-Paired.length b3];have:=congrArg List.length b1;simpa using this
 refine⟨_,rfl,λQ q=>JT a4 b4 a5 b5 `o (λ_=>kS I (by rw[in1_units];omega) gb b1 b2 b3 ga a1 a2 a3) ?_⟩;rw[l1,l2];exact q
theorem vZ(hu:X.A.units+64<KS):iG X (KL .NotEq) (rD X.K oQ):=eB λpins s σ H a b d x y u v I ha hb ru rv hg=>by
 obtain⟨e,he,rfl⟩:=Option.map_eq_some_iff.mp hg;obtain⟨al,bl,rfl,rfl,ga,gb,rfl⟩:=jT he;obtain⟨p,ka,va,rfl,a1,a2,a3,a4,a5⟩:=qu I (aL.refl H) ha;obtain⟨p',kb,vb,rfl,b1,b2,b3,b4,b5⟩:=qu I (aL.refl H) hb;cases ru;cases rv;have l1:va.length=al.length:=by rw[<-Paired.length a3];have:=congrArg List.length a1;simpa using this
 have l2:vb.length=bl.length:=by rw[<-Paired.length b3];have:=congrArg List.length b1;simpa using this
 refine⟨_,rfl,λQ q=>PySem.W.keq_ne a4 b4 a5 b5 `o (λ_=>kS I (by rw[in1_units];omega) gb b1 b2 b3 ga a1 a2 a3) ?_⟩;rw[l1,l2];exact q
end
end TG
namespace TG
open PySem PySem.Spec L2 PySem.SeqAt
open PySem.AutoSeq1 (wpAny_loadPart')
open PySem.MeetsSeq PySem.MeetsSeq2 PySem.MeetsSeq3
section
variable{prog:Kj}{w:Ki}
noncomputable def qF(prog:Kj)(w:Ki)(A:Kp)(s:Kh)(y x:Kc)(b:Bool):Prop:=∀(E:bf)(Q:Bool->gq),Q b s->Kt `j A (eqBool y x) Q E s
noncomputable def nh(m:Bool)(b:Bool):Bool:=if m then b else !b
theorem sj(m:Bool)(l b:Ke)(xs ys:Array Kc)(n n2:Nat)(dd dd2:Option Ke)(sl sl2:Array (Option Kc))(hsz:xs.size=ys.size)(e:Nat->Bool)(k:Nat):∀i:Nat,xs.size-i=k->∀(A:Kp)(R:Result->gq)(s:Kh),s.heap.get? l=some {cls:=.type "list",dict:=dd,data:=.seq xs n,slots:=sl}->s.heap.get? b=some {cls:=.type "list",dict:=dd2,data:=.seq ys n2,slots:=sl2}->(∀j (h1:j<xs.size) (h2:j<ys.size),qF prog w A.in1 s xs[j] ys[j] (e j))->R (.ok (.ret (.bool (nh m (((List.range xs.size).drop i).all e))))) s->
  Kt `j A.in1 (Builtin.«list.__eq__.loop» ⟨[.ref l,.ref b,rawInt i,rawInt (if m then 2 else 3)],[]⟩) (λfin s'=>match fin with|.done f=>R (.ok f) s'|.again c'=>c'.quiet=true/\KO `j A c' R s') (λe s'=>R (.error e) s') s:=by
 induction k with
 |zero=>
  intro i hk A R s hl hb he h;obtain⟨hp,g,d,tk,os⟩:=s;have hi1:xs[((i:Nat):Int).toNat]?=none:=by simp;omega
  have hi2:ys[((i:Nat):Int).toNat]?=none:=by simp;omega
  have hd:(List.range xs.size).drop i=[]:=by simp;omega
  rw[hd]at h;cases m <;>
  ·wp_walk using wpAny_loadPart' hl,wpAny_loadPart' hb
   rw[hi1,hi2]
   wp_walk using wpAny_loadPart' hl,wpAny_loadPart' hb
   first
    |(show R (.ok (.ret (.bool (xs.size==ys.size)))) _;rw[hsz];simpa [nh]using h)
    |(show R (.ok (.ret (.bool (xs.size !=ys.size)))) _;rw[hsz];simpa [nh]using h)
 |succ k ih=>
  intro i hk A R s hl hb he h;obtain⟨hp,g,d,tk,os⟩:=s;have hlt:i<xs.size:=by omega
  have hlt2:i<ys.size:=by omega
  have hi1:xs[((i:Nat):Int).toNat]?=some xs[i]:=by simp[hlt]
  have hi2:ys[((i:Nat):Int).toNat]?=some ys[i]:=by simp[hlt2]
  have hd:(List.range xs.size).drop i=i::(List.range xs.size).drop (i+1):=by simp[Iy,hlt]
  have hc:((i:Int)+1)=((i+1:Nat):Int):=by push_cast;rfl
  rw[hd,Ig]at h;have ih:=ih (i+1) `o;cases m <;>
  ·wp_walk using wpAny_loadPart' hl,wpAny_loadPart' hb
   rw[hi1,hi2];refine Ky (he i hlt hlt2 _ _ ?_);cases hb':e i with
   |true=>
    rw[hb']at h
    wp_walk
    rw[hc];exact⟨Ln plain_eq_loop _,Lj entry_eq_loop (by
     rw[Around.under_plainId plain_eq_loop _];exact ih A R _ hl hb he (by simpa using h))⟩
   |false=>
    rw[hb']at h
    wp_walk using wpAny_loadPart' hl,wpAny_loadPart' hb
    rw[hi1,hi2]
    wp_walk
    simpa [nh]using h
variable{A:Kp}{E:bf}{s:Kh}
theorem wy{l b:Ke}{xs ys:Array Kc}{e:Nat->Bool}{Q:bf}(hl:s.heap.IsList l xs)(hb:s.heap.IsList b ys)(hsz:xs.size=ys.size)(hu:A.units<KS)(he:∀j (h1:j<xs.size) (h2:j<ys.size),qF prog w A.in1 s xs[j] ys[j] (e j))(h:Q (.bool ((List.range xs.size).all e)) s):Kt `j A (richCompare .Eq (.ref l) (.ref b)) Q E s:=by
 obtain⟨⟨cls,dd,data,sl⟩,ho,hc,n,hd⟩:=id hl;obtain⟨⟨cls2,dd2,data2,sl2⟩,ho2,hc2,n2,hd2⟩:=id hb;simp only at hc hd hc2 hd2;subst hc hd hc2 hd2;refine Lp (op:=.Eq) ⟨_,ho,rfl⟩ ⟨_,ho2,rfl⟩ F.slot_list_eq (call_meetsIn (S:=λA R s=>s.heap.get? l=some {cls:=.type "list",dict:=dd,data:=.seq xs n,slots:=sl}/\s.heap.get? b=some {cls:=.type "list",dict:=dd2,data:=.seq ys n2,slots:=sl2}/\(∀j (h1:j<xs.size) (h2:j<ys.size),qF prog w A.in1 s xs[j] ys[j] (e j))/\R (.ok (.ret (.bool ((List.range xs.size).all e)))) s) F.slot_list_eq ⟨_,ho,rfl⟩ F.entry_list_eq (F.args_list_eq_2 _ _) (λA R s h=>?_) ⟨ho,ho2,he,(λx=>nomatch x),h⟩) hu;obtain⟨hp,g,d,tk,os⟩:=s;obtain⟨hl,hb,he,h⟩:=h;have f3:=AutoSeq1.sub_list_list;have hne:¬(xs.size !=ys.size)=true:=by simp[hsz]
 wp_walk using wpAny_loadPart' hl,wpAny_loadPart' hb
 exact⟨Ln plain_eq_loop _,Lj entry_eq_loop (by
  rw[Around.under_plainId plain_eq_loop _];exact sj true l b xs ys n n2 dd dd2 sl sl2 hsz e _ 0 rfl A R _ hl hb he (by simpa [nh]using h))⟩
theorem vi{l b:Ke}{xs ys:Array Kc}{e:Nat->Bool}{Q:bf}(hl:s.heap.IsList l xs)(hb:s.heap.IsList b ys)(hsz:xs.size=ys.size)(hu:A.units<KS)(he:∀j (h1:j<xs.size) (h2:j<ys.size),qF prog w A.in1 s xs[j] ys[j] (e j))(h:Q (.bool (!(List.range xs.size).all e)) s):Kt `j A (richCompare .NotEq (.ref l) (.ref b)) Q E s:=by
 obtain⟨⟨cls,dd,data,sl⟩,ho,hc,n,hd⟩:=id hl;obtain⟨⟨cls2,dd2,data2,sl2⟩,ho2,hc2,n2,hd2⟩:=id hb;simp only at hc hd hc2 hd2;subst hc hd hc2 hd2;refine Lp (op:=.NotEq) ⟨_,ho,rfl⟩ ⟨_,ho2,rfl⟩ F.slot_list_ne (call_meetsIn (S:=λA R s=>s.heap.get? l=some {cls:=.type "list",dict:=dd,data:=.seq xs n,slots:=sl}/\s.heap.get? b=some {cls:=.type "list",dict:=dd2,data:=.seq ys n2,slots:=sl2}/\(∀j (h1:j<xs.size) (h2:j<ys.size),qF prog w A.in1 s xs[j] ys[j] (e j))/\R (.ok (.ret (.bool (!(List.range xs.size).all e)))) s) F.slot_list_ne ⟨_,ho,rfl⟩ F.entry_list_ne (F.args_list_ne_2 _ _) (λA R s h=>?_) ⟨ho,ho2,he,(λx=>nomatch x),h⟩) hu;obtain⟨hp,g,d,tk,os⟩:=s;obtain⟨hl,hb,he,h⟩:=h;have f3:=AutoSeq1.sub_list_list;have hne:¬(xs.size !=ys.size)=true:=by simp[hsz]
 wp_walk using wpAny_loadPart' hl,wpAny_loadPart' hb
 exact⟨Ln plain_eq_loop _,Lj entry_eq_loop (by
  rw[Around.under_plainId plain_eq_loop _];exact sj false l b xs ys n n2 dd dd2 sl sl2 hsz e _ 0 rfl A R _ hl hb he (by simpa [nh]using h))⟩
end
end TG
namespace TG
open PySem PySem.Spec L2 PySem.SeqAt
variable[aj]
section
variable{X:Cx}{pins:aK}{σ:St}{H:Hp}{s:Kh}
theorem pX(I:`g):∀{al bl:List (Key×D)}{ws:az},dy al=true->dy bl=true->al.map (·.1)=bl.map (·.1)->aF X.K H (al.map (·.2)) ws->aF X.K H (bl.map (·.2)) ws->al=bl
 |[],[],_,_,_,_,_,_=>rfl
 |p::al,q::bl,ws,g1,g2,e,h1,h2=>by
  rw[Hx,aQ]at h1 h2;obtain⟨v,r,rfl,a1,a2⟩:=h1;obtain⟨v',r',e',b1,b2⟩:=h2;injection e' with e1 e2;subst e1 e2;unfold dy at g1 g2;rw[Ig,HM,HM]at g1 g2;rw[Hx,Hx]at e;injection e with k1 k2
  have:=Inv.den_inj I g1.1.1 g2.1.1 a1 b1
  rw[pX I g1.2 g2.2 k2 a2 b2,show p=q from Prod.ext k1 this]
 |[],_::_,_,_,_,e,_,_=>by cases e
 |_::_,[],_,_,_,e,_,_=>by cases e
theorem oY{al:List (Key×D)}(nd:(al.map (·.1)).Nodup):zN al al=true:=by
 unfold zN;rw[beq_self_eq_true,Bool.true_and];refine List.all_eq_true.mpr λp hp=>?_
 have:cA al p.1=some p.2:=by
  unfold cA;cases e:al.find? λq=>decide (q.1=p.1)with
  |none=>exact absurd (decide_eq_true rfl) (List.find?_eq_none.mp e p hp)
  |some q=>
   have h1:=IX e;have h2:q.1=p.1:=of_decide_eq_true (IY (p:=λ(q:Key×D)=>decide (q.1=p.1)) e)
   have:q=p:=by
    have K:∀(l:List (Key×D)),(l.map (·.1)).Nodup->q∈l->p∈l->q=p:=λl=>by
     induction l with
     |nil=>intro _ z;cases z
     |cons r l ih=>
      intro nd hq hp;rw[Hx,List.nodup_cons]at nd;rcases List.mem_cons.mp hq with z|z
      ·rcases List.mem_cons.mp hp with y|y
       ·rw[z,y]
       ·exact absurd (List.mem_map.mpr ⟨p,y,by rw[<-h2,z]⟩) nd.1
      ·rcases List.mem_cons.mp hp with y|y
       ·exact absurd (List.mem_map.mpr ⟨q,z,by rw[h2,y]⟩) nd.1
       ·exact ih nd.2 z y
    exact K al nd h1 hp
   rw[this];rfl
 rw[this];exact eN _
theorem AA{A:Kp}(I:`g)(hA:A.units+32<KS){al bl:List (Key×D)}{x y:V}{u v:Kc}(ga:dy al=true)(gb:dy bl=true)(ha:bp X.K H (af al) x)(hb:bp X.K H (af bl) y)(ru:RelV x u)(rv:RelV y v):qF X.prog X.w A s u v (zN al bl):=by
 obtain⟨p,ka,va,rfl,a1,a2,a3,a4,a5⟩:=qu I (aL.refl H) ha;obtain⟨p',kb,vb,rfl,b1,b2,b3,b4,b5⟩:=qu I (aL.refl H) hb;cases ru;cases rv;have l1:va.length=al.length:=by rw[<-Paired.length a3];have:=congrArg List.length a1;simpa using this
 have l2:vb.length=bl.length:=by rw[<-Paired.length b3];have:=congrArg List.length b1;simpa using this
 by_cases hp:p=p'
 ·subst hp;have kv:∀{ks:List (Key×V)}{vs:List (Key×Kc)},L2.KV ks vs->ks.map (·.1)=vs.map (·.1):=λ{ks vs} r=>by
   induction r with
   |nil=>rfl
   |cons h _ ih=>rw[Hx,Hx,h.1,ih]
  have nd:(al.map (·.1)).Nodup:=by
   obtain⟨o,es,ep,_,_,_,_,_,hn⟩:=a5;rw[<-a1,kv a3];exact hn
  have e:al=bl:=by
   obtain⟨q,e1,h1⟩:=eU ha;obtain⟨q',e2,h2⟩:=eU hb;cases e1;cases e2;rcases h1 with⟨k1,x1,x2,x3⟩|⟨x1,x2⟩
   ·rcases h2 with⟨k2,y1,y2,y3⟩|⟨y1,y2⟩
    ·rw[x1]at y1;cases y1;exact pX I ga gb (x2.symm.trans y2) x3 y3
    ·rw[x1]at y1;cases y1
   ·rcases h2 with⟨k2,y1,y2,y3⟩|⟨y1,y2⟩
    ·rw[x1]at y1;cases y1
    ·rw[x2,y2]
  rw[<-e,oY nd];exact λE Q h=>EqAt.same _ X.prog X.w E Q h
 ·intro E Q hq;unfold eqBool;refine Kz ?_;refine wpAny_ite_split (λhab=>absurd (by have:=eq_of_beq hab;injection this) hp) (λ_=>?_);refine Ky (JT a4 b4 a5 b5 `o (λ_=>kS I (by rw[in1_units];omega) gb b1 b2 b3 ga a1 a2 a3) ?_);rw[l1,l2];exact Kw hq
end
noncomputable def oj:List D->List D->Option Bool
 |[],[]=>some true
 |x::xs,y::ys=>(lx x y).bind λe=>(oj xs ys).map (e&&·)
 |_,_=>none
noncomputable def ub(a b:D):aV:=match a,b with
 |.lst xs,.lst ys=>(oj xs ys).map .bl
 |_,_=>none
noncomputable def oU(a b:D):aV:=match a,b with
 |.lst xs,.lst ys=>(oj xs ys).map λe=>.bl (!e)
 |_,_=>none
noncomputable def o3(xs ys:List D)(j:Nat):Bool:=match xs[j]?,ys[j]? with
 |some a,some b=>(lx a b).getD false
 |_,_=>false
theorem ib:∀{xs ys:List D}{e:Bool},oj xs ys=some e->xs.length=ys.length/\(∀(j:Nat)(a b:D),xs[j]?=some a->ys[j]?=some b->lx a b=some (o3 xs ys j))/\e=(List.range xs.length).all (o3 xs ys)
 |[],[],e,h=>by cases h;exact⟨rfl,λj a b z=>by simp at z,rfl⟩
 |x::xs,y::ys,e,h=>by
  obtain⟨e1,h1,h⟩:=Option.bind_eq_some_iff.mp (show((lx x y).bind λe=>(oj xs ys).map (e&&·))=some e from h);obtain⟨e2,h2,rfl⟩:=Option.map_eq_some_iff.mp h;obtain⟨i1,i2,i3⟩:=ib h2;have z0:o3 (x::xs) (y::ys) 0=e1:=by unfold o3;simp[h1]
  have zs:∀j,o3 (x::xs) (y::ys) (j+1)=o3 xs ys j:=λj=>by unfold o3;simp
  refine⟨by rw[Hw,Hw,i1],λj a b f1 f2=>?_,?_⟩
  ·cases j with
   |zero=>rw[IG]at f1 f2;cases f1;cases f2;rw[z0];exact h1
   |succ j=>rw[IH]at f1 f2;rw[zs];exact i2 j a b f1 f2
  ·rw[Hw,Ih,Ig,List.all_map,z0,i3];congr 1
 |[],_::_,_,h=>by cases h
 |_::_,[],_,h=>by cases h
section
variable{X:Cx}
theorem C8{pins:aK}{σ:St}{H:Hp}{s:Kh}{A:Kp}(I:`g)(hA:A.units+32<KS){xs ys:List D}{x y:V}{u v:Kc}{e:Bool}(he:oj xs ys=some e)(ha:bp X.K H (.lst xs) x)(hb:bp X.K H (.lst ys) y)(ru:RelV x u)(rv:RelV y v):
  ∃(l b:Ke)(as bs:Array Kc),u=.ref l/\v=.ref b/\s.heap.IsList l as/\s.heap.IsList b bs/\as.size=bs.size/\as.size=xs.length/\∀j (h1:j<as.size) (h2:j<bs.size),qF X.prog X.w A s as[j] bs[j] (o3 xs ys j):=by
 obtain⟨e1,e2,_⟩:=ib he;obtain⟨l,vs,rfl,a1,a2⟩:=bC.mp ha;obtain⟨b,ws,rfl,b1,b2⟩:=bC.mp hb;cases ru;cases rv;obtain⟨its,r1,t1,_⟩:=I.list a1;obtain⟨its2,r2,t2,_⟩:=I.list b1;have z1:its.toArray.size=xs.length:=by rw[Hu,<-r1.length,<-a2.length]
 have z2:its2.toArray.size=ys.length:=by rw[Hu,<-r2.length,<-b2.length]
 refine⟨l,b,its.toArray,its2.toArray,rfl,rfl,t1.isList,t2.isList,by omega,z1,λj h1 h2=>?_⟩;have hx:j<xs.length:=by omega
 have hy:j<ys.length:=by omega
 have g:=e2 j xs[j] ys[j] (Ii hx) (Ii hy);obtain⟨al,bl,q1,q2,ga,gb,q3⟩:=jT g;rw[q3];obtain⟨v1,f1,d1⟩:=a2.get (i:=j) (Ii hx);obtain⟨v2,f2,d2⟩:=b2.get (i:=j) (Ii hy);rw[q1]at d1;rw[q2]at d2;have hj1:j<its.length:=by rw[Hu]at h1;exact h1
 have hj2:j<its2.length:=by rw[Hu]at h2;exact h2
 have w1:RelV v1 its[j]:=by
  obtain⟨y,g1,g2⟩:=lg r1 f1;rw[Ii hj1]at g1;cases g1;exact g2
 have w2:RelV v2 its2[j]:=by
  obtain⟨y,g1,g2⟩:=lg r2 f2;rw[Ii hj2]at g1;cases g1;exact g2
 exact AA I hA ga gb d1 d2 w1 w2
theorem wZ(hu:X.A.units+64<KS):iG X (KL .Eq) (rD X.K ub):=eB λpins s σ H a b d x y u v I ha hb ru rv hg=>by
 unfold ub at hg;split at hg
 ·rename_i xs ys;obtain⟨e,he,rfl⟩:=Option.map_eq_some_iff.mp hg;obtain⟨l,b,as,bs,rfl,rfl,h1,h2,h3,h4,h5⟩:=C8 (A:=X.A.in1) I (by rw[in1_units];omega) he ha hb ru rv;refine⟨_,rfl,λQ q=>wy h1 h2 h3 `o h5 ?_⟩;rw[h4,<-(ib he).2.2];exact q
 ·cases hg
theorem vh(hu:X.A.units+64<KS):iG X (KL .NotEq) (rD X.K oU):=eB λpins s σ H a b d x y u v I ha hb ru rv hg=>by
 unfold oU at hg;split at hg
 ·rename_i xs ys;obtain⟨e,he,rfl⟩:=Option.map_eq_some_iff.mp hg;obtain⟨l,b,as,bs,rfl,rfl,h1,h2,h3,h4,h5⟩:=C8 (A:=X.A.in1) I (by rw[in1_units];omega) he ha hb ru rv;refine⟨_,rfl,λQ q=>vi h1 h2 h3 `o h5 ?_⟩;rw[h4,<-(ib he).2.2];exact q
 ·cases hg
end
end TG
namespace TG
open PySem PySem.Spec L2
variable[aj]
noncomputable def CP(F:bu):Prop:=∃step:ai->R ai,∀k ρ,F k ρ=match step ρ with
 |.ok ρ1=>k.nx ρ1
 |.error (some x)=>k.ex x ρ
 |.error none=>un
theorem iH{α:Type}{x:Ex}:(un:R α)≠.error (some x):=λz=>by unfold un at z;cases z
theorem vF{α:Type}{fr:ai->R α}{G:α->ai->ai}:CP (λk ρ=>kL (fr ρ) k ρ λa=>k.nx (G a ρ)):=⟨λρ=>match fr ρ with
 |.ok a=>.ok (G a ρ)
 |.error x=>.error x,λk ρ=>by
 dsimp only;generalize fr ρ=r
 match r with
 |.ok a=>rfl
 |.error (some x)=>rfl
 |.error none=>rfl⟩
theorem yi{i:Nat}{f:FX}:CP (bb i f):=vF (fr:=f) (G:=λd ρ=>setV i d ρ)
theorem xL{i:Nat}{f:FX}:CP (iA i f):=vF (fr:=f) (G:=λd ρ=>ρ.set i (some (.own d)))
theorem vx{i:Nat}{fk fv:FX}:CP (dN i fk fv):=⟨λρ=>match ρ[i]? with
 |some (some (.own (.dct ks ds)))=>((fv ρ).bind λv=>(fk ρ).bind λq=>rO (ky ks ds q v)).bind λal=>.ok (ρ.set i (some (.own (af al))))
 |_=>un,λk ρ=>by
 unfold dN;dsimp only;generalize ρ[i]?=o;rcases o with _|_|d
 ·rfl
 ·rfl
 ·cases d with
  |own d=>
   cases d with
   |dct ks ds=>
    dsimp only;generalize ((fv ρ).bind λv=>(fk ρ).bind λq=>rO (ky ks ds q v))=r
    match r with
    |.ok a=>rfl
    |.error (some x)=>rfl
    |.error none=>rfl
   |_=>rfl
  |_=>rfl⟩
section
variable{X:Cx}{st:Kg}{rest:b7}{pos:Pos}
noncomputable def Fw(X:Cx)(Hb:Hp)(Ob:ay)(F:bu):TS:=λE σ H=>∃O ρ r,cg X.K Hb Ob O H ρ σ/\F K0 ρ=r/\r≠un/\(∀d p H',r=.ok d->aL Hb H'->Hb p=none->(∃o,H' p=some o/\kH o)->dD X.K H' (p::Ob) p d->E.rt (.ref p) H')/\∀O ρ σ H x,cg X.K Hb Ob O H ρ σ->(.error (some x):R D)=r->zJ X σ O H x
noncomputable def FR(X:Cx)(st:b7)(F:bu):Prop:=∀Hb Ob,oM X st (Fw X Hb Ob F)
noncomputable def rG(i:Nat):bu:=λ_ ρ=>match ρ[i]? with
 |some (some (.own d))=>.ok d
 |_=>un
end
section
variable{P:Kj}{w:Ki}{K:Jo}{mg:bj}{base:Kl}
structure zv(P:Kj)(w:Ki)(K:Jo)(mg:bj)(base:Kl)(k:Nat)(N:ao)(qual:Str)(st:Kg)(f:Ke)(B:bu):Prop where
 h:∀(cdv:Kc)(A:Kp)(outer:List Env)(s:Kh)(H:Hp)(E:XK),cz k (A.deeper (J5 qual (aq st) s.heap.objs.size f cdv))->KG (model P w) (A.deeper (J5 qual (aq st) s.heap.objs.size f cdv)) (J5 qual (aq st) s.heap.objs.size f cdv) (eK (gu P w) P w K mg base N qual (aq st) f cdv A outer s H E).xe->
  FR (eK (gu P w) P w K mg base N qual (aq st) f cdv A outer s H E) (ca st) B
theorem wt{x qual:Str}{st:Kg}{f:Ke}{fd:KU}{N ps:ao}{k:Nat}{B:bu}(F:oN K x qual st f fd)(SC:bP N ps (aq st))(hb:zv P w K mg base k N qual st f B):
  dJ P w K mg base (gu P w) (k+1) f fd ps (Bv K ps.length (aA B ps.length N.length)):=by
 refine CQ F SC (λvs H Q E h=>?_) λcdv A outer s H vs Q E hr h=>?_
 ·obtain⟨O,ds,h1,_⟩:=h;exact h1
 ·obtain⟨O,ds,h1,h2,h3,h4⟩:=h;have hl:ds.length=ps.length:=h3.length.trans h1;have e4:aA B ps.length N.length ds=B K0 (env0 N.length ds):=by unfold aA;rw[if_pos hl]
  rw[e4]at h4;refine⟨_,hb.h cdv A outer s H E hr PassesOwn.leaving H O,O,env0 N.length ds,_,⟨lh h2 h3,⟨aL.refl H,λ_ z=>z,λa z=>.inl z⟩,λi xs a e=>?_,λi d e=>by obtain⟨d',_,e2⟩:=ej i _ e;cases e2⟩,rfl,?_,?_,?_⟩
  ·obtain⟨d',_,e2⟩:=ej i _ e;cases e2
  ·intro z;rw[z]at h4;exact h4
  ·intro d p H' e s1 hp m o;rw[e]at h4;exact h4 p H' s1 hp m o
  ·intro O' ρ' σ' H' x S e;rw[<-e]at h4;exact vp h4 S.base.same S.base.sub
end
end TG
namespace TG
open PySem PySem.Spec L2
variable[aj]
noncomputable def mU(P:Kj)(w:Ki)(K:Jo)(mg:bj)(base:Kl)(k:Nat)(c m:Str)(ps:ao)(g:bv):Prop:=
 ∃C f fd,clsAt K c C/\me K C/\Meth K C m f/\dJ P w K mg base (gu P w) k f fd ps (Bv K ps.length g)/\Binds K fd ps []
noncomputable def sL(P:Kj)(w:Ki)(K:Jo)(mg:bj)(base:Kl)(k:Nat)(m:Str)(ps:ao)(tbl:List (Str×(bv))):Prop:=
 ∀c g,tbl.lookup c=some g->mU P w K mg base k c m ps g/\Ar ps.length g
section
variable{P:Kj}{w:Ki}{K:Jo}{mg:bj}{base:Kl}{k k':Nat}{m:Str}{ps:ao}
theorem wo:sL P w K mg base k m ps []:=λ_ _ h=>nomatch h
theorem tq{c:Str}{g:bv}{tbl:List (Str×(bv))}(h:mU P w K mg base k c m ps g)(hn:Ar ps.length g)(t:sL P w K mg base k m ps tbl):sL P w K mg base k m ps ((c,g)::tbl):=λc' g' e=>by
 rw[HX]at e;cases hc:c'==c with
 |true=>
  rw[hc]at e;cases e;rw[eq_of_beq hc];exact⟨h,hn⟩
 |false=>
  rw[hc]at e;exact t c' g' e
theorem mU.mono{c:Str}{g:bv}(h:mU P w K mg base k c m ps g)(hk:k<=k'):mU P w K mg base k' c m ps g:=by
 obtain⟨C,f,fd,h1,h2,h3,h4,h5⟩:=h;exact⟨C,f,fd,h1,h2,h3,h4.mono hk,h5⟩
theorem wj{c y qual:Str}{C f:Ke}{fd:KU}{st:Kg}{N:ao}{B:bu}(h1:clsAt K c C)(h2:me K C)(h3:Meth K C m f)(F:oN K y qual st f fd)(b:Binds K fd ps [])(SC:bP N ps (aq st))(hb:zv P w K mg base k N qual st f B):
  mU P w K mg base (k+1) c m ps (aA B ps.length N.length):=⟨C,f,fd,h1,h2,h3,wt F SC hb,b⟩
end
section
variable{X:Cx}{k k':Nat}{m:Str}{ps:ao}{o e:Kf}{es:aX}{fo:FX}{fas:aH}{apos pos:Pos}
theorem oP{σ:St}{O:ay}{H:Hp}{g:bv}{ds:List D}{vs:az}{Q:VK}{n:Nat}(ar:Ar n g)(hO:bV H O)(d1:aF X.K (hid H O) ds vs)(h:cR X σ O H (g ds) λd=>∀p H',aL H H'->H p=none->(∃o,H' p=some o/\kH o)->dD X.K H' (p::O) p d->Q (.ref p) H'):∃E,eQ (gu X.prog X.w) X σ E/\Bv X.K n g vs H Q E:=by
 cases hg:g ds with
 |ok d=>
  rw[hg]at h;refine⟨E0,kQ,O,ds,by rw[<-d1.length];exact ar ds (by rw[hg];intro z;cases z),hO,d1,?_⟩;rw[hg];exact h
 |error z=>
  rw[hg]at h;cases z with
  |none=>exact h.elim
  |some x=>
   refine⟨nT X O H x,kR h,O,ds,by rw[<-d1.length];exact ar ds (by rw[hg];intro z;cases z),hO,d1,?_⟩;rw[hg];exact iZ
theorem yV{tbl:List (Str×(bv))}{pl:Sem Bool}(tb:sL X.prog X.w X.K X.mg X.base k m ps tbl)(hr:cz k' X.A)(hk:k<=k')(ho:FE X o fo)(ha:FA X (e::es) fas)
  (hns:(e::es).all noStar=true:=by rfl)
  (ht:eval (.Call (.Attribute o m apos) (e::es) [] pos) X.env=(do
   let ov<-eval o X.env
   standAt apos.atName
   let (f,first)<-holding [ov] (getMethod ov m pl)
   KQ pos f first (backTo pos (Ku (e::es) X.env)) (backToKw pos (KR [] X.env))):=by rfl):
  FN X (.Call (.Attribute o m apos) (e::es) [] pos) (bi m tbl fo fas):=by
 rintro pins s σ H Q I ⟨O,ρ,E,hF⟩;refine kx ho I ?_ ht;refine⟨O,ρ,E,(cR.bind hF).imp λd hF v H1 s1 d1=>?_⟩;cases d with
 |obj c fs vs=>
  have hF':cR X σ O H (match tbl.lookup c with|some g=>if fs.contains m then un else(fas ρ).bind λas=>g (.obj c fs vs::as)|none=>un) _:=hF;cases hg:tbl.lookup c with
  |none=>rw[hg]at hF';exact hF'.elim
  |some g=>
   rw[hg]at hF';have hF2:cR X σ O H (if fs.contains m then un else(fas ρ).bind λas=>g (.obj c fs vs::as)) _:=hF';cases hm:fs.contains m with
   |true=>rw[hm]at hF2;exact hF2.elim
   |false=>
    rw[hm]at hF2;have hF3:cR X σ O H ((fas ρ).bind λas=>g (.obj c fs vs::as)) _:=hF2;have d0:=d1;obtain⟨a,ws,ev,g1,g2,C,dx,g3,g4⟩:=DQ.mp d1;obtain⟨⟨C',f,fd,m1,m2,m3,m4,m5⟩,ar⟩:=tb c g hg;have eC:=bO g3 m1;subst eC;subst ev;refine⟨a,C,dx,_,f,rfl,aC H1 O _ _ g4,m2,m3,jA hm,λs2 I2=>?_⟩;have hP:=(hF3.mono s1).imp λd q p H2 s2 hp m o=>q p H2 (s1.trans s2) (s1.free hp) m o;have E1:=E.same s1;refine JC (first:=[.ref a]) (h₀:=X.base) I2.ok.mod.kin m3.kp (b9 (ha pos pins s2 σ H1 _ I2 ⟨O,ρ,E1,(cR.bind hP).imp λas hP vs H2 s2 d2=>oP (vs:=.ref a::vs) ar (E1.all.same s2) (aQ.mpr ⟨_,_,rfl,d0.mono (bh s2),d2⟩) ((hP.mono s2).imp λd q p H3 s3 hp m o=>q p H3 (s2.trans s3) (s2.free hp) m o)⟩) λus s3 zq=>zq.elim λvs zq=>zq.elim λH2 zq=>zq.elim λI3 zq=>zq.elim λr zq=>zq.elim λEx zq=>zq.elim λhx q2=>⟨I3.kIn,?_⟩) (aZ (HM _ _ ▸ hns).1) (bH (HM _ _ ▸ hns).2);exact kM (us:=.ref a::us) (vs:=.ref a::vs) m4 (hr.mono hk) m5 hx I3 (.cons rfl r) q2
 |_=>exact hF.elim
noncomputable def fV(m:Str)(tbl:List (Str×(bv)))(fo:FX)(fas:aH):FX:=bi m tbl fo fas
end
end TG
namespace TG
open PySem PySem.Spec L2
variable[aj]
section
variable{X:Cx}{e:Kf}{p pos:Pos}
noncomputable def Fo(K:Jo):az->Hp->VK->Prop:=λxs H Q=>∃O x al,xs=[x,.ty "dict"]/\bp K (hid H O) (af al) x/\Q (.bl true) H
theorem wA(ok:JL X.K (.type "dict") (.type "dict")=some true):dA X (.builtin "isinstance") (Fo X.K):=by
 rintro pins s σ H xs us Q I r ⟨O,x,al,ex,hd,q⟩;subst ex;obtain⟨u,w',rfl,rx,rt⟩:=vals2 r;cases rt;obtain⟨a,kvs,vs,rfl,_,_,_,_,dd⟩:=qu I (aC H O) hd;cases rx;obtain⟨o,es,ep,h1,h2,_⟩:=dd;exact JM PySem.W.kitx_dict I.kIn ⟨o,h1,h2.1⟩ ok (λz=>nomatch z) λtk=>⟨.bl _,H,I.tok _,rfl,q⟩
noncomputable def iU(d:D):aV:=match d with
 |.dct ks ds=>(cy ks ds).map λ_=>.bl true
 |_=>none
end
end TG
namespace TG
open PySem PySem.SetTable
noncomputable def rs(m:Nat)(h:Int):Nat->Nat×Nat
 |0=>(bits h%(m+1),bits h)
 |r+1=>leap m (rs m h r).1 (rs m h r).2
noncomputable def Gw(m:Nat)(p:Probe):Probe:=advance ⟨m,#[],#[],0,false,0,false⟩ p
noncomputable def st(m:Nat)(h:Int):Nat->Probe
 |0=>{j:=bits h%(m+1),more:=runEnd m (bits h%(m+1))-bits h%(m+1),i:=bits h%(m+1),perturb:=bits h,dummy:=none}
 |n+1=>Gw m (st m h n)
open PySem PySem.Spec PySem.SetTable L2
end TG
namespace TG
open PySem PySem.SetTable
open PySem PySem.Spec PySem.SetTable L2
noncomputable def lv(m:Nat)(owner:Array (Option Nat)):List (Nat×Nat):=(List.range (m+1)).filterMap λj=>(owner.getD j none).map (j,·)
open PySem PySem.Spec PySem.SetTable L2 PyProof.Rows
end TG
namespace TG
open PySem PySem.Spec PySem.SetTable PySem.Calls L2
open PySem PySem.Spec PySem.SetTable PySem.Calls L2 PySem.W PyProof.Rows
end TG
namespace TG
open PySem PySem.Spec L2
variable[aj]
noncomputable def dd:List (List Key)->List (List Key)
 |[]=>[]
 |k::ks=>if ks.any (λq=>decide (q=k))then dd ks else k::dd ks
end TG
namespace TX
open PySem PySem.Spec L2 TG
variable[aj]
structure XE(X:Cx)(e:Kf)(F:FX):Prop where h:FE X e F
structure XT(X:Cx)(e:Kf)(F:bq):Prop where h:FT X e F
structure XW(X:Cx)(e:Kf)(F:bq):Prop where h:FW X e F
structure XA(X:Cx)(e:aX)(F:aH):Prop where h:FA X e F
structure XS(X:Cx)(e:Kg)(F:bu):Prop where h:FS X e F
structure ot(X:Cx)(e:b7)(F:bu):Prop where h:DB X e F
structure XI(X:Cx)(t e:Kf)(F:aH):Prop where h:FI X t e F
structure XG(X:Cx)(e:Kf)(F:GF):Prop where h:FG X e F
structure zO(X:Cx)(e:aX)(F:xm):Prop where h:Gz X e F
structure XO(X:Cx)(e:Option Kf)(F:ai->R bn):Prop where h:FO X e F
structure XN(X:Cx)(e:Kf)(F:FX):Prop where h:FN X e F
structure XR(X:Cx)(e:b7)(F:bu):Prop where h:FR X e F
structure BW(X:Cx)(e:aX)(F:bq):Prop where h:D3 X e F
structure XV(X:Cx)(e:Kf)(i:Nat):Prop where h:PE X e (n5 i)
structure XB(X:Cx)(scope:Kq)(N:ao)(tg elt:Kf)(ifs:aX)(g:GF)(C:bq)(Fe:FX)(cl:ki)(C':Ke)(fp:ay)(s:Kh)(H:Hp)(E:bf):Prop where
 a:XG (bo X scope N cl C' fp s H E) tg g
 b:BW (bo X scope N cl C' fp s H E) ifs C
 c:XE (bo X scope N cl C' fp s H E) elt Fe
structure mh(X:Cx)(scope:Kq)(N:ao)(tg elt:Kf)(ifs:aX)(g:GF)(C:bq)(Fe:FX):Prop where
 q:∀cl C' fp s H E,XB X scope N tg elt ifs g C Fe cl C' fp s H E
theorem mh.h{X:Cx}{scope:Kq}{N:ao}{tg elt:Kf}{ifs:aX}{g:GF}{C:bq}{Fe:FX}(x:mh X scope N tg elt ifs g C Fe):FK X scope N tg elt ifs g C Fe:=λcl C' fp s H E=>⟨(x.q cl C' fp s H E).a.h,(x.q cl C' fp s H E).b.h,(x.q cl C' fp s H E).c.h⟩
theorem xv{X:Cx}(i:Nat){x:Str}{pos:Pos}(hN:X.N[i]?=some x:=by rfl)(hv:zZ X.env.scope x:=by first|exact Or.inl rfl|exact Or.inr (Or.inl rfl)|exact Or.inr (Or.inr rfl))(hd:(x==("__debug__":Str))=false:=by decide)
  (hcd:(x==("__classdict__":Str))=false:=by decide):XV X (.Name x pos) i:=⟨pv i hN hv hd hcd⟩
theorem Gq{X:Cx}{e:Kf}{f:bq}(h:XW X e f):XT X e f:=⟨FW.ft h.h⟩
theorem uY{X:Cx}{i:Nat}{x:Str}{idx value:Kf}{fi fv:FX}{npos tpos pos:Pos}(hx:XV X (.Name x npos) i)(hi:XE X idx fi)(hv:XE X value fv)
  (hs:swapsWithSole [.Subscript (.Name x npos) idx tpos] value pos.line X.env=pure false:=by rfl) (hw:swappedStores [.Subscript (.Name x npos) idx tpos] value X.env=pure none:=by rfl)
  (h1:(assignEach [.Subscript (.Name x npos) idx tpos] X.env).map (·.2)=[assign (.Subscript (.Name x npos) idx tpos) X.env]:=by rfl)
  (ha:∀ v,assign (.Subscript (.Name x npos) idx tpos) X.env v=(do
   let ov<-holding [v] (eval (.Name x npos) X.env)
   let iv<-holding [v,ov] (eval idx X.env)
   standAt tpos
   holding [v,ov,iv] (setItem ov iv v)
   release [v,ov,iv] []):=by intro _;rfl):XS X (.Assign [.Subscript (.Name x npos) idx tpos] value pos) (lM i fi fv):=⟨xS hx.h hi.h hv.h hs hw h1 (zT hx.h hi.h set_list ha)⟩
section
variable[aj]{X:Cx}
theorem yB{i:Nat}{x:Str}{pos:Pos}(h:XV X (.Name x pos) i):XE X (.Name x pos) (ae i):=⟨PE.weak h.h λσ H Q zq=>zq.elim λO zq=>zq.elim λρ zq=>zq.elim λE hF=>by
  obtain⟨d,e,q⟩:=ua hF;obtain⟨v,e,dv⟩:=E.val i d e;exact⟨v,e,q v H (aL.refl H) dv⟩⟩
theorem y8{i j pos}:XE X (.Constant (.int i) j pos) (fC (.int i)):=⟨lV Be λ_ _=>dP.mpr rfl⟩
theorem A8{b j pos}:XE X (.Constant (.bool b) j pos) (fC (.bl b)):=⟨lV C6 λ_ _=>gD.mpr rfl⟩
theorem yF{x j pos}:XE X (.Constant (.str x) j pos) (fC (.str x)):=⟨lV zS λ_ _=>dq.mpr rfl⟩
theorem rz:XA X [] ah:=⟨TG.EE ⟩
theorem lD{e:Kf}{es:aX}{f:FX}{g:aH}(he:XE X e f)(hs:XA X es g)(hns:noStar e=true:=by rfl):XA X (e::es) (aa f g):=⟨TG.Dj he.h hs.h hns⟩
theorem yn{es:aX}{g:aH}{k pos}(h:XA X es g):XE X (.Tuple es k pos) (bF g):=⟨PE.weak (AQ h.h) λσ H Q zq=>zq.elim λO zq=>zq.elim λρ zq=>zq.elim λE hF=>⟨O,ρ,E,(cR.bind hF).imp λxs hF vs H1 s1 d1=>by
  obtain⟨d,e,q⟩:=cR.rO hF;obtain⟨hz,e⟩:=aW e;subst e;refine⟨by rw[<-d1.length];exact bU hz,λp hp=>?_⟩;exact q _ _ (s1.trans (bM hp _)) (dz (E.all.same s1) hp d1)⟩⟩
theorem yA{es:aX}{g:aH}{pos}(h:XA X es g):XE X (.List es pos) (gr g):=⟨PE.weak (uV h.h) λσ H Q zq=>zq.elim λO zq=>zq.elim λρ zq=>zq.elim λE hF=>⟨O,ρ,E,(cR.bind hF).imp λxs hF vs H1 s1 d1=>by
  obtain⟨d,e,q⟩:=cR.rO hF;obtain⟨hz,e⟩:=aW e;subst e;refine⟨by rw[<-d1.length];exact bU hz,λp hp=>?_⟩;exact q _ _ (s1.trans (bM hp _)) (dB (E.all.same s1) hp d1)⟩⟩
theorem g9{a b:Kf}{op:Operator}{r:R2}{g:D->D->aV}{fa fb:FX}{pos:Pos}(ho:iG X (KJ op) r)(s:dI X.K r g)(ha:XE X a fa)(hb:XE X b fb):XE X (.BinOp a op b pos) (f2 g fa fb):=⟨PE.weak (Di ho ha.h hb.h) (nZ s)⟩
theorem dR{a b:Kf}{op:CmpOp}{r:R2}{g:D->D->aV}{fa fb:FX}{pos:Pos}(ho:iG X (KL op) r)(s:dI X.K r g)(ha:XE X a fa)(hb:XE X b fb)(hm:KN op b=false):XE X (.Compare a [op] [b] pos) (f2 g fa fb):=⟨PE.weak (yw ho ha.h hb.h hm) (nZ s)⟩
theorem dQ{a b:Kf}{op:CmpOp}{r:R2}{g:D->D->aV}{fa fb:FX}{pos:Pos}(ho:iG X (KL op) r)(s:dI X.K r g)(ha:XE X a fa)(hb:XE X b fb)(hm:KN op b=false):XT X (.Compare a [op] [b] pos) (fB (f2 g fa fb)):=⟨PT.weak (xQ ho ha.h hb.h hm) (wB (nZ s))⟩
end
section
variable[aj]{X:Cx}{a b c:Kf}{rest:aX}{pos:Pos}{f g:bq}
theorem xH(h:XT X a f):XT X (.UnaryOp .Not a pos) (fM f):=⟨PT.weak (AZ h.h) λσ H Q ⟨O,ρ,E,hF⟩=>⟨O,ρ,E,(cR.bind hF).imp λb q H1 s1=>q H1 s1⟩⟩
theorem xP(h:XT X a f):XW X (.BoolOp .Or [a] pos) f:=⟨z9 h.h⟩
theorem An(ha:XT X a f)(hb:XW X (.BoolOp .Or (b::rest) pos) g):XW X (.BoolOp .Or (a::b::rest) pos) (qj f g):=⟨PW.weak (CC ha.h hb.h) λσ H Q zq=>zq.elim λO zq=>zq.elim λρ zq=>zq.elim λE hF=>⟨O,ρ,E,(cR.bind hF).imp λc hF H1 s1=>by
 cases c with
 |false=>exact yy ⟨O,ρ,E.same s1,(hF.mono s1).imp λb q H2 s2=>q H2 (s1.trans s2)⟩
 |true=>exact yx (hF H1 s1)⟩⟩
end
section
variable[aj]{X:Cx}{a b c:Kf}{rest:aX}{pos:Pos}{f g:bq}{fa fb:FX}
theorem yQ{op}(h:XE X a fa):XE X (.BoolOp op [a] pos) fa:=⟨Bj h.h⟩
theorem xr(ha:XE X a fa)(hb:XE X (.BoolOp .And (b::rest) pos) fb):XE X (.BoolOp .And (a::b::rest) pos) (nN fa fb):=⟨PE.weak (Ak ha.h hb.h) λσ H Q zq=>zq.elim λO zq=>zq.elim λρ zq=>zq.elim λE hF=>⟨O,ρ,E,(cR.bind hF).imp λd hF x H1 s1 d1=>by
 cases d with
 |bl c=>
  refine⟨c,gD.mp d1,?_⟩;cases c with
  |true=>exact yx ⟨O,ρ,E.same s1,(hF.mono s1).imp λd q v H2 s2 d2=>q v H2 (s1.trans s2) d2⟩
  |false=>exact yy (hF _ H1 s1 (gD.mpr rfl))
 |_=>exact hF.elim⟩⟩
end
section
variable[aj]{X:Cx}
theorem Ax{a b:Kf}{fa fb:FX}{pos:Pos}(ha:XE X a fa)(hb:XE X b fb)(hs:oA b):XE X (.Subscript a b pos) (f2 aI fa fb):=⟨PE.weak (Dc El ha.h hb.h hs) (nZ aT)⟩
theorem xk:XO X none iX:=⟨λpins s σ H Q I zq=>zq.elim λO zq=>zq.elim λρ zq=>zq.elim λE q=>zi pins s σ H Q I (q H (aL.refl H))⟩
theorem wR{e:Kf}{f:FX}(h:XE X e f):XO X (some e) (ce f):=⟨λpins s σ H Q I zq=>zq.elim λO zq=>zq.elim λρ zq=>zq.elim λE hF=>
 xO h.h pins s σ H Q I ⟨O,ρ,E,(cR.bind hF).imp λd hF v H1 s1 d1=>by
  obtain⟨o,e,q⟩:=cR.rO hF;cases d with
  |int i=>
   cases e;exact⟨i,dP.mp d1,q H1 s1⟩
  |_=>cases e⟩⟩
theorem tI{e:Kf}{f:FX}{l h:ai->R bn}{lo hi:Option Kf}{p2 pos:Pos}(he:XE X e f)(hl:XO X lo l)(hh:XO X hi h):XE X (.Subscript e (.Slice lo hi none p2) pos) (gv f l h):=⟨PE.weak (vK EZ he.h hl.h hh.h) λσ H Q zq=>zq.elim λO zq=>zq.elim λρ zq=>zq.elim λE hF=>⟨O,ρ,E,(cR.bind hF).imp λa hF x H1 s1 d1=>⟨O,ρ,E.same s1,((cR.bind hF).mono s1).imp λlo' hF H2 s2=>⟨O,ρ,E.same (s1.trans s2),((cR.bind hF).mono (s1.trans s2)).imp λhi' hF H3 s3=>by
  obtain⟨d,e,q⟩:=cR.rO hF;exact⟨O,a,d,E.all.same ((s1.trans s2).trans s3),d1.mono (bh (s2.trans s3)),e,λv H4 s4 d4=>q v H4 (((s1.trans s2).trans s3).trans s4) d4⟩⟩⟩⟩⟩
end
section
variable[aj]{X:Cx}{x:Str}{p pos:Pos}{e:Kf}{es:aX}{id T:String}{g:List D->aV}{f:aH}
theorem uD(hc:dA X (.builtin id) (Az X.K g))(hg:Gl X x)(hm:X.mg x=none)(hv:Ko x=some (.builtin id))(ha:XA X (e::es) f)(hn:x≠"__name__":=by decide)(hdb:(x==("__debug__":Str))=false:=by decide)(hns:(e::es).all noStar=true:=by rfl):XE X (.Call (.Name x p) (e::es) [] pos) (fL g f):=⟨PE.weak (eL hc hg hm hv ha.h hn hdb (aZ (HM _ _ ▸ hns).1) (bH (HM _ _ ▸ hns).2)) (vc lK)⟩
theorem iT(hc:dA X (.type T) (Az X.K g))(hg:Gl X x)(hm:X.mg x=none)(hv:Ko x=some (.type T))(ha:XA X (e::es) f)(hn:x≠"__name__":=by decide)(hdb:(x==("__debug__":Str))=false:=by decide)(hns:(e::es).all noStar=true:=by rfl):XE X (.Call (.Name x p) (e::es) [] pos) (fL g f):=⟨PE.weak (m9 hc hg hm hv ha.h hn hdb (aZ (HM _ _ ▸ hns).1) (bH (HM _ _ ▸ hns).2)) (vc lK)⟩
theorem yf{f:FX}{xT:Str}{p2:Pos}(ok:xB X.K T)(hg:Gl X "isinstance")(hm:X.mg "isinstance"=none)(hgT:Gl X xT)(hmT:X.mg xT=none)(hvT:Ko xT=some (.type T))(he:XE X e f)(hn2:xT≠"__name__":=by decide)(hd2:(xT==("__debug__":Str))=false:=by decide)(hns:noStar e=true:=by rfl):XE X (.Call (.Name "isinstance" p) [e,.Name xT p2] [] pos) (xU T f):=⟨PE.weak (eL (we ok) hg hm gL (cC he.h (cC (n8 (v:=.ty T) hgT hmT hvT rfl hn2 hd2) jz (aZ rfl)) (aZ hns)) (by decide) (by decide) (aZ hns) (bH rfl)) λσ H Q zq=>zq.elim λO zq=>zq.elim λρ zq=>zq.elim λE hF=>⟨O,ρ,E,(cR.bind hF).imp λa hF v H1 s1 d1=>by
  obtain⟨d,e,q⟩:=cR.rO hF;obtain⟨h1,h2⟩:=aW e;subst h2;exact⟨O,v,a,rfl,h1,d1,q _ H1 s1 (gD.mpr rfl)⟩⟩⟩
end
section
variable[aj]{X:Cx}{a:Kf}{f:FX}{pos:Pos}
theorem uq(h:XE X a f)(he:∀whole,isTrue a X.env whole=(do let v<-whole;standAt a.pos;holding [v] (truthy v)):=by intro _;rfl):XT X a (bA f):=⟨PT.weak (vA h.h he) λσ H Q zq=>zq.elim λO zq=>zq.elim λρ zq=>zq.elim λE hF=>⟨O,ρ,E,(cR.bind hF).imp λd hF x H1 s1 d1=>by
 obtain⟨r,hF,q⟩:=cR.rO hF;refine⟨r,?_,q H1 s1⟩;cases d with
 |non=>cases hF;rw[fW.mp d1];rfl
 |bl b=>cases hF;rw[gD.mp d1];rfl
 |int i=>cases hF;rw[dP.mp d1];rfl
 |str y=>
  obtain⟨hz,e⟩:=aW hF;subst e;rw[dq.mp d1];refine⟨bU hz,?_⟩;show(y.length !=0)=((y.length:Int) !=0)
  cases y.length<;>rfl
 |tup xs=>
  cases hF;obtain⟨p,vs,e,g1,g2⟩:=bB.mp d1;rw[e];refine .inr (.inl ⟨vs,bJ (aC H1 O) g1,?_⟩);have l:=g2.length;cases xs<;>cases vs<;>first|rfl|(simp at l)
 |lst xs=>
  cases hF;obtain⟨p,vs,e,g1,g2⟩:=bC.mp d1;rw[e];refine .inl ⟨vs,(aC H1 O).seq g1,?_⟩;have l:=g2.length;cases xs<;>cases vs<;>first|rfl|(simp at l)
 |_=>cases hF⟩⟩
end
section
variable[aj]{X:Cx}{tg:Kf}
theorem yg{e:Kf}{f:FX}(h:XE X e f):XI X tg e (em f):=by
 refine⟨?_⟩;rintro pins s σ H R I ⟨O,ρ,E,hG⟩;have hG':=cR.bind hG;cases hf:f ρ with
 |error z=>exact rX h.h pins s σ H R I ⟨O,ρ,E,by rw[hf]at hG' ⊢;cases z with|none=>exact hG'.elim|some x=>exact hG'⟩
 |ok d=>
  rw[hf]at hG';obtain⟨ds,e1,q⟩:=cR.rO (α:=List D) (o:=lq d) hG';cases d with
  |lst xs=>
   cases e1;refine rX h.h pins s σ H R I ⟨O,ρ,E,?_⟩;rw[hf];refine λv H1 s1 d1=>?_;obtain⟨p,vs,ev,g1,g2⟩:=bC.mp d1;exact⟨p,ev,⟨vs,(aC H1 O).seq g1⟩,q _ H1 s1 (tJ g1 g2)⟩
  |tup xs=>
   cases e1;refine Aw h.h pins s σ H R I ⟨O,ρ,E,?_⟩;rw[hf];refine λv H1 s1 d1=>?_;obtain⟨p,vs,ev,g1,g2⟩:=bB.mp d1;exact⟨p,ev,⟨vs,bJ (aC H1 O) g1⟩,q _ H1 s1 (vN g1 g2)⟩
  |_=>cases e1
theorem ra{a:Kf}{f:aH}{p pos:Pos}(hg:Gl X "range")(hm:X.mg "range"=none)(ha:XA X [a] f)(hs:Ku [a] X.env=[(false,eval a X.env)]:=by rfl):XI X tg (.Call (.Name "range" p) [a] [] pos) (eI f):=by
 refine⟨?_⟩;rintro pins s σ H R I ⟨O,ρ,E,hG⟩;refine uA hg hm ha.h hs pins s σ H R I ⟨O,ρ,E,(cR.bind hG).imp λes hG' vs H1 s1 d1=>?_⟩;clear hG;obtain⟨ds,hG,q⟩:=cR.rO hG';clear hG';unfold kT at hG;split at hG
 ·rename_i j;obtain⟨h1,h2⟩:=aW hG;subst h2;obtain⟨j1,j2⟩:=of_decide_eq_true h1;obtain⟨v,ev,dv⟩:=d1.one;exact⟨j,by rw[ev,dP.mp dv],j1,j2,q _ H1 s1 (qo 0 _)⟩
 ·cases hG
end
section
variable[aj]{X:Cx}{pos:Pos}
theorem wr{i:Nat}{x:Str}(hN:X.N.Nodup)(hi:X.N[i]?=some x)(hx:Loc X.env.scope x)(hf:X.fn x=true\/X.env.scope.names.lookup x=some .local:=by first|exact .inl rfl|exact .inr rfl|assumption):XG X (.Name x pos) (gN i):=by
 refine⟨?_⟩;rintro pins s σ H v u Q I r ⟨O,ρ,d,ρ',E,hd,hg,q⟩;cases hg;have hiσ:i<σ.length:=by rw[I.len];exact(List.getElem?_eq_some_iff.mp hi).1
 refine xD hN hi hx hf pins s σ H v u Q I r (q _ (E.setV hiσ hd) λj x e nv=>?_);rcases aO e with⟨_,eq⟩|⟨ne,eq⟩
 ·cases eq;exact absurd rfl (nv _)
 ·exact⟨Hq (Ne.symm ne),eq⟩
theorem xg:zO X [] zk:=by
 refine⟨?_⟩;rintro pins s σ H vs us Q I r ⟨O,ρ,ds,ρ',E,hd,hg,q⟩;cases ds with
 |nil=>
  cases hg;rw[bQ]at hd;exact xV pins s σ H vs us Q I r ⟨hd,q _ E λi x e _=>⟨rfl,e⟩⟩
 |cons _ _=>cases hg
theorem tX{e:Kf}{es:aX}{g:GF}{h:xm}(h1:XG X e g)(h2:zO X es h)(hs:(assignEach (e::es) X.env).map (·.2)=assign e X.env::(assignEach es X.env).map (·.2):=by rfl):zO X (e::es) (vP g h):=by
 refine⟨?_⟩;rintro pins s σ H vs us Q I r ⟨O,ρ,ds,ρ',E,hd,hg,q⟩;cases ds with
 |nil=>cases hg
 |cons d ds=>
  obtain⟨ρ1,e1,e2⟩:=bind_some hg;rw[aQ]at hd;obtain⟨v,vr,ev,d1,d2⟩:=hd;exact wM h1.h h2.h hs pins s σ H vs us Q I r ⟨v,vr,ev,O,ρ,d,ρ1,E,d1,e1,λσ1 E1 k1=>⟨O,ρ1,ds,ρ',E1,d2,e2,λσ2 E2 k2=>q σ2 E2 λi x e nv=>by
   obtain⟨a1,a2⟩:=k2 i x e nv;obtain⟨b1,b2⟩:=k1 i x a2 nv;exact⟨a1.trans b1,b2⟩⟩⟩
theorem yr{es:aX}{k:Nat}{g:xm}{n:Nat}(hc:X.calm=true)(h:zO X es g)(hn:(assignEach es X.env).length=n:=by rfl)(hst:(assignEach es X.env).findIdx? (·.1)=none:=by rfl):XG X (.Tuple es k pos) (gT n g):=by
 refine⟨?_⟩;rintro pins s σ H v u Q I r ⟨O,ρ,d,ρ',E,hd,hg,q⟩;cases d with
 |tup xs=>
  obtain⟨p,vs,ev,g1,g2⟩:=bB.mp hd;have hg':(if xs.length=n then g xs ρ else none)=some ρ':=hg;by_cases hl:xs.length=n
  ·rw[if_pos hl]at hg';exact A5 hc h.h hn hst pins s σ H v u Q I r ⟨p,vs,ev,bJ (aC H O) g1,by rw[<-g2.length];exact hl,O,ρ,xs,ρ',E,g2,hg',q⟩
  ·rw[if_neg hl]at hg';cases hg'
 |_=>cases hg
end
section
variable[aj]
theorem v9{X:Cx}:BW X [] gk:=⟨TG.DG ⟩
theorem wl{X:Cx}{c:Kf}{F:bq}(h:XT X c F):BW X [c] F:=⟨yU h.h⟩
end
section
variable[aj]{X:Cx}{elt tg iter:Kf}{ifs:aX}{scope:Kq}{pos:Pos}{N:ao}{ix:dF}{G:aH}{g:GF}{C:bq}{Fe:FX}
theorem Bu(hc:X.calm=true)(ok:jp X scope N ix)(tk:kK ix g)(hi:XI X tg iter G)(hb:mh X scope N tg elt ifs g C Fe)(hs:∀x,KH iter X.env x=pure x:=by intro _;rfl):XE X (.ListComp elt [⟨tg,iter,ifs,0⟩] scope pos) (kU ix G g C Fe):=⟨PE.weak (zH hc ok.cell ok.kind ok.names ok.free ok.ix hi.h hb.h.k hs) (zn tk)⟩
end
section
variable[aj]{X:Cx}{st:Kg}{rest body:b7}{pos:Pos}
theorem wq:ot X [] bR:=⟨λHb Ob=>oM.weak rj λE σ H zq=>zq.elim λO zq=>zq.elim λρ zq=>zq.elim λk zq=>zq.elim λr zq=>zq.elim λS zq=>zq.elim λhF hk=>hk.nx O ρ σ H S hF⟩
theorem um{F1 F2:bu}(h1:XS X st F1)(h2:ot X rest F2):ot X (st::rest) (aB F1 F2):=⟨λHb Ob=>oM.weak (lJ (h1.h Hb Ob) (h2.h Hb Ob)) λE σ H zq=>zq.elim λO zq=>zq.elim λρ zq=>zq.elim λk zq=>zq.elim λr zq=>zq.elim λS zq=>zq.elim λhF hk=>
 ⟨O,ρ,{k with nx:=F2 k},r,S,hF,hk.ne,λO' ρ' σ' H' S' e=>⟨O',ρ',k,r,S',e,hk⟩,hk.bk,hk.ct,hk.rt,hk.ex⟩⟩
theorem vz{F1:bu}(h1:XS X st F1):ot X [st] F1:=⟨λHb Ob=>kN (h1.h Hb Ob)⟩
theorem yD{e:Kf}{f:FX}(h:XE X e f):XS X (.Return (some e) pos) (bw f):=⟨λHb Ob=>PS.weak (qp h.h) λE σ H zq=>zq.elim λO zq=>zq.elim λρ zq=>zq.elim λk zq=>zq.elim λr zq=>zq.elim λS zq=>zq.elim λhF hk=>
 ⟨O,ρ,S.env,cR.on hF hk S λd e v H' s' d'=>hk.rt d O v H' e.symm (S.base.same' s') d'⟩⟩
theorem w8:XS X (.Pass pos) bR:=⟨λHb Ob=>PS.weak zf λE σ H zq=>zq.elim λO zq=>zq.elim λρ zq=>zq.elim λk zq=>zq.elim λr zq=>zq.elim λS zq=>zq.elim λhF hk=>hk.nx O ρ σ H S hF⟩
theorem yK{x j pos'}:XS X (.Expr (.Constant (.str x) j pos) pos') bR:=⟨λHb Ob=>PS.weak zY λE σ H zq=>zq.elim λO zq=>zq.elim λρ zq=>zq.elim λk zq=>zq.elim λr zq=>zq.elim λS zq=>zq.elim λhF hk=>hk.nx O ρ σ H S hF⟩
theorem vC{e:Kf}{f:FX}(h:XE X e f)(hs:swapsWith e none pos.line X.env=pure false:=by rfl):XS X (.Expr e pos) (rM f):=⟨λHb Ob=>PS.weak (rB h.h hs) λE σ H zq=>zq.elim λO zq=>zq.elim λρ zq=>zq.elim λk zq=>zq.elim λr zq=>zq.elim λS zq=>zq.elim λhF hk=>
 ⟨O,ρ,S.env,cR.on hF hk S λd e v H' s' d'=>hk.nx O ρ σ H' (S.same s') e⟩⟩
theorem Ba{c:Kf}{a b:b7}{tc:bq}{A B:bu}(hc:XT X c tc)(ha:ot X a A)(hb:ot X b B):XS X (.If c a b pos) (kE tc A B):=⟨λHb Ob=>PS.weak (B7 hc.h (ha.h Hb Ob) (hb.h Hb Ob)) λE σ H zq=>zq.elim λO zq=>zq.elim λρ zq=>zq.elim λk zq=>zq.elim λr zq=>zq.elim λS zq=>zq.elim λhF hk=>
 ⟨O,ρ,S.env,cR.on hF hk S fun z e H1 s1=>by
  cases z with
  |true=>exact yx ⟨O,ρ,k,r,S.same s1,e,hk⟩
  |false=>exact yy ⟨O,ρ,k,r,S.same s1,e,hk⟩⟩⟩
theorem yH{i:Nat}{x:Str}{e:Kf}{f:FX}{pos':Pos}(hN:X.N.Nodup)(hi:X.N[i]?=some x)(hx:Loc X.env.scope x)(he:XE X e f)(hs:swapsWith e (some (.Name x pos')) pos.line X.env=pure false:=by rfl)(hf:X.fn x=true\/X.env.scope.names.lookup x=some .local:=by first|exact .inl rfl|exact .inr rfl|assumption):XS X (.Assign [.Name x pos'] e pos) (bb i f):=⟨mH (List.getElem?_eq_some_iff.mp hi).1 (u6 hN hi hx he.h hs hf)⟩
theorem AJ{elt tg iter:Kf}{ifs:aX}{scope:Kq}{N:ao}{ix:dF}{G:aH}{g:GF}{C:bq}{Fe:FX}{i:Nat}{y:Str}{lpos py spos:Pos}(hN:X.N.Nodup)(hi':X.N[i]?=some y)(hx:Loc X.env.scope y)(hc:X.calm=true)(ok:jp X scope N ix)(tk:kK ix g)(hi:XI X tg iter G)(hb:mh X scope N tg elt ifs g C Fe)(hsw:swapsWith (.ListComp elt [⟨tg,iter,ifs,0⟩] scope lpos) (some (.Name y py)) spos.line X.env=pure true:=by rfl)(hs:∀x,KH iter X.env x=pure x:=by intro _;rfl)(hf:X.fn y=true\/X.env.scope.names.lookup y=some .local:=by first|exact .inl rfl|exact .inr rfl|assumption):XS X (.Assign [.Name y py] (.ListComp elt [⟨tg,iter,ifs,0⟩] scope lpos) spos) (bb i (kU ix G g C Fe)):=⟨mH (List.getElem?_eq_some_iff.mp hi').1 (PS.weak (zp hN hi' hx hc ok.cell ok.kind ok.names ok.free ok.ix hi.h hb.h.k hsw hs hf) λE σ H q=>zn tk σ H _ q)⟩
theorem sK{st:b7}{F:bu}(is:List Nat)(h:ot X st F):ot X st (du is F):=⟨λHb Ob=>oM.weak (h.h Hb Ob) λE σ H zq=>zq.elim λO zq=>zq.elim λρ zq=>zq.elim λk zq=>zq.elim λr zq=>zq.elim λS zq=>zq.elim λhF hk=>⟨O,TG.kill is ρ,k,r,S.kill is,hF,hk⟩⟩
theorem za{tg iter:Kf}{G:aH}{g:GF}{B:bu}(hp:KG `i X.A X.env X.xe)(hc:X.calm=true)(hi:XI X tg iter G)(hg:XG X tg g)(hb:ot X body B)(hs:∀x,KH iter X.env x=pure x:=by intro _;rfl):XS X (.For tg iter body [] pos) (oC G g B):=⟨λHb Ob pins s σ H E I zq=>zq.elim λO zq=>zq.elim λρ zq=>zq.elim λk zq=>zq.elim λr zq=>zq.elim λS zq=>zq.elim λhF hk=>by
 have hall:oM X body (λE σ H=>∃Hb',Fu X Hb' Ob B E σ H):=λpins s σ H E I zq=>zq.elim λHb' q=>hb.h Hb' Ob pins s σ H E I q;refine Ay hp hc hi.h hg.h hall hs pins s σ H E I ⟨O,ρ,S.env,cR.on hF hk S λds hF J H1 s1 wk=>?_⟩;have E1:=S.same s1;refine⟨λi m σ H=>m=ds.length-i/\i<=ds.length/\∃O' ρ',cg X.K (lb H1 O Ob) Ob O' H ρ' σ/\cq g B k (ds.drop i) ρ'=r,
  ⟨ds.length,by rw[Iu],HA _,O,ρ,E1.loop,by rw[Ic];exact hF⟩,?_⟩
 rintro i m σ' H' ⟨rfl,hi',O',ρ',E',hr⟩;have sD:=xc E1.base E'.base;by_cases hlt:i<ds.length
 ·right;obtain⟨go,yl⟩:=(wk H' O' i E'.env.all sD).1 ds[i] (by simp[hlt]);refine⟨go,λσ2 H2=>ds.length-(i+1)=ds.length-(i+1)/\i+1<=ds.length/\∃O' ρ',cg X.K (lb H1 O Ob) Ob O' H2 ρ' σ2/\cq g B k (ds.drop (i+1)) ρ'=r,λσ2 H2 z=>⟨ds.length-(i+1),by omega,z⟩,λx H2 y=>?_⟩;obtain⟨s2,dx⟩:=yl x H2 y;have E':=E'.same s2;rw[Iy hlt]at hr;cases hg':g ds[i] ρ' with
  |none=>
   have hr':(rO (g ds[i] ρ')).bind (λρ1=>B ⟨cq g B k (ds.drop (i+1)),k.nx,cq g B k (ds.drop (i+1)),k.ex⟩ ρ1)=r:=hr;rw[hg']at hr';exact absurd hr'.symm hk.ne
  |some ρ1=>
   have hr':(rO (g ds[i] ρ')).bind (λρ1=>B ⟨cq g B k (ds.drop (i+1)),k.nx,cq g B k (ds.drop (i+1)),k.ex⟩ ρ1)=r:=hr;rw[hg']at hr';refine⟨O',ρ',ds[i],ρ1,E'.env,dx,hg',λσ3 E3 own=>?_⟩;have E3':cg X.K (lb H1 O Ob) Ob O' H2 ρ1 σ3:=E'.after E3 own;exact⟨lb H1 O Ob,O',ρ1,⟨cq g B k (ds.drop (i+1)),k.nx,cq g B k (ds.drop (i+1)),k.ex⟩,r,E3',hr',hk.loop E1.base (λO4 ρ4 σ4 H4 E4 z=>⟨rfl,hlt,O4,ρ4,E4,z⟩) (λO4 ρ4 σ4 H4 E4 z=>⟨rfl,hlt,O4,ρ4,E4,z⟩) rfl rfl rfl rfl⟩
 ·left;have ei:i=ds.length:=by omega
  subst ei;refine⟨(wk H' O' ds.length E'.env.all sD).2 rfl,?_⟩;rw[List.drop_length]at hr;exact hk.nx O' ρ' σ' H' (E'.back E1.base) hr⟩
end
section
variable[aj]{X:Cx}{pos:Pos}
theorem yC{es:aX}{g:aH}(h:XA X es g):XN X (.List es pos) (gr g):=⟨PE.weak (uV h.h) λσ H Q zq=>zq.elim λO zq=>zq.elim λρ zq=>zq.elim λE hF=>⟨O,ρ,E,(cR.bind hF).imp λxs hF vs H1 s1 d1=>by
  obtain⟨d,e,q⟩:=cR.rO hF;obtain⟨hz,e⟩:=aW e;subst e;refine⟨by rw[<-d1.length];exact bU hz,λp hp=>?_⟩;exact q p _ (s1.trans (bM hp _)) (s1.free hp) ⟨_,aD,trivial⟩ (pC hp d1)⟩⟩
theorem tK:XN X (.Dict [] [] pos) lB:=⟨TG.C3 ⟩
theorem xo{i:Nat}{x:Str}{e:Kf}{f:FX}{pos':Pos}(hN:X.N.Nodup)(hi:X.N[i]?=some x)(hx:Loc X.env.scope x)(he:XN X e f)(hs:swapsWith e (some (.Name x pos')) pos.line X.env=pure false:=by rfl)(hf:X.fn x=true\/X.env.scope.names.lookup x=some .local:=by first|exact .inl rfl|exact .inr rfl|assumption):XS X (.Assign [.Name x pos'] e pos) (iA i f):=⟨nq (List.getElem?_eq_some_iff.mp hi).1 (u6 hN hi hx he.h hs hf)⟩
end
section
variable[aj]
theorem t7{X:Cx}{elt tg iter:Kf}{ifs:aX}{scope:Kq}{N:ao}{ix:dF}{G:aH}{g:GF}{C:bq}{Fe:FX}{i:Nat}{y:Str}{lpos py spos:Pos}(hN:X.N.Nodup)(hi':X.N[i]?=some y)(hx:Loc X.env.scope y)(hc:X.calm=true)(ok:jp X scope N ix)(tk:kK ix g)(hi:XI X tg iter G)(hb:mh X scope N tg elt ifs g C Fe)(hsw:swapsWith (.ListComp elt [⟨tg,iter,ifs,0⟩] scope lpos) (some (.Name y py)) spos.line X.env=pure true:=by rfl)(hs:∀x,KH iter X.env x=pure x:=by intro _;rfl)(hf:X.fn y=true\/X.env.scope.names.lookup y=some .local:=by first|exact .inl rfl|exact .inr rfl|assumption):XS X (.Assign [.Name y py] (.ListComp elt [⟨tg,iter,ifs,0⟩] scope lpos) spos) (iA i (kU ix G g C Fe)):=⟨nq (List.getElem?_eq_some_iff.mp hi').1 (PS.weak (zp hN hi' hx hc ok.cell ok.kind ok.names ok.free ok.ix hi.h hb.h.k hsw hs hf) λE σ H q=>vj tk σ H _ (zj σ H _ q))⟩
theorem AD{X:Cx}{elt tg iter:Kf}{ifs:aX}{scope:Kq}{pos:Pos}{N:ao}{ix:dF}{G:aH}{g:GF}{C:bq}{Fe:FX}(hc:X.calm=true)(ok:jp X scope N ix)(tk:kK ix g)(hi:XI X tg iter G)(hb:mh X scope N tg elt ifs g C Fe)(hs:∀x,KH iter X.env x=pure x:=by intro _;rfl):XN X (.ListComp elt [⟨tg,iter,ifs,0⟩] scope pos) (kU ix G g C Fe):=⟨PE.weak (zH hc ok.cell ok.kind ok.names ok.free ok.ix hi.h hb.h.k hs) λσ H Q q=>vj tk σ H _ (zj σ H _ q)⟩
theorem Al{X : Cx}{i : Nat}{x m : Str}{id : String}{r : V -> az -> Hp -> VK -> Prop}{u : List D -> List D -> Option (List D)}{e : Kf}{es : aX}{f : aH}{npos apos cpos pos : Pos}(slot : Slot "list" m id)(hty : typeOf (.builtin id) = pure (.type "method_descriptor"))(hm : FV X id r)(ok : zE X.K r u)(hx : XV X (.Name x npos) i)(he : XA X (e :: es) f)(hbase : KP (.Name x npos) m X.env (eval (.Name x npos) X.env) = eval (.Name x npos) X.env := by rfl)(hfew : ((backTo cpos (Ku (e :: es) X.env)).all (fun x => !x.1) && (backToKw cpos (KR [] X.env)).all (fun x => x.1.isSome)
      && decide ((e::es:aX).length+([]:List Ld).length+(if([]:List Ld).isEmpty then 0 else 1)<30))=true:=by rfl)(hline:(apos.endLine==cpos.line)=true:=by rfl)(hs:Ku (e::es) X.env=(false,eval e X.env)::Ku es X.env:=by rfl)(hplain:(backTo cpos (Ku es X.env)).any (·.1)=false:=by rfl)(hsw:swapsWith (.Call (.Attribute (.Name x npos) m apos) (e::es) [] cpos) none pos.line X.env=pure false:=by rfl):XS X (.Expr (.Call (.Attribute (.Name x npos) m apos) (e::es) [] cpos) pos) (zD i u f):=⟨λHb Ob pins s σ H E I zq=>zq.elim λO zq=>zq.elim λρ zq=>zq.elim λk zq=>zq.elim λrr zq=>zq.elim λS zq=>zq.elim λhF hk=>by
  unfold zD at hF;split at hF
  · rename_i xs hxs
    obtain⟨a,ha,haO,hat⟩:=S.env.own i _ hxs;obtain⟨o,vs0,ho,eo,dn⟩:=hat;subst eo;refine rB (zG F.plainAttrs_list slot hty hm hx.h he.h hbase hfew hline hs hplain) hsw pins s σ H E I ⟨.ref a,ha,.inl ⟨rfl,vs0,iW.of ho⟩,O,ρ,S.env,cR.on hF hk S λds hr vs H1 s1 d1=>?_⟩;have S1:=S.same s1;cases hu1:u xs ds with
    |none=>rw[hu1]at hr;exact absurd hr.symm hk.ne
    |some ys=>
      rw[hu1]at hr;exact ok H1 O a xs ys ds vs0 vs _ S1.env.all haO (s1 _ _ ho) (dn.mono (bh s1)) d1 hu1 λws' v new=>hk.nx O _ σ _ (S1.setO hxs ha trivial (kD haO new)) hr
  ·exact absurd hF.symm hk.ne⟩
theorem vg{X:Cx}{st:b7}{F:bu}(i:Nat)(h:ot X st F):ot X st (oK i F):=⟨λHb Ob=>oM.weak (h.h Hb Ob) λE σ H zq=>zq.elim λO zq=>zq.elim λρ zq=>zq.elim λk zq=>zq.elim λr zq=>zq.elim λS zq=>zq.elim λhF hk=>by
 obtain⟨O',S'⟩:=S.frz i;exact⟨O',TG.frz i ρ,k,r,S',hF,hk⟩⟩
theorem wY{X:Cx}{e:Kf}{f:bq}(is:List Nat)(h:XT X e f):XT X e (lX is f):=⟨PT.weak h.h λσ H Q zq=>zq.elim λO zq=>zq.elim λρ zq=>zq.elim λE hF=>by
 obtain⟨O',E'⟩:=E.frzs is;refine⟨O',TG.frzs is ρ,E',?_⟩;unfold lX at hF;cases hf:f (TG.frzs is ρ)with
 |error z=>rw[hf]at hF;exact hF.elim
 |ok d=>rw[hf]at hF;exact hF⟩
theorem qH{X:Cx}{k k':Nat}{ps:ao}{g:bv}{h:aH}{x:Str}{p pos:Pos}{e:Kf}{es:aX}(C:Callee X.prog X.w X.K X.mg X.base k x ps g)(hn:Ar ps.length g)(hr:cz k' X.A)(hk:k<=k')(ha:XA X (e::es) h)(hg:Gl X x:=by rfl)(hdb:(x==("__debug__":Str))=false:=by decide)(hns:(e::es).all noStar=true:=by rfl):XE X (.Call (.Name x p) (e::es) [] pos) (fR g h):=by
 refine⟨?_⟩;obtain⟨f,fd,F,b,kp,m⟩:=C;exact PE.weak (pW F (hr.mono hk) hg m kp b ha.h hdb (aZ (HM _ _ ▸ hns).1) (bH (HM _ _ ▸ hns).2)) (tu hn)
end
section
variable[aj]{X:Cx}{a b c:Kf}{fa fb fc:FX}{pos:Pos}
theorem yY(ha:XE X a fa):XE X (.UnaryOp .USub a pos) (v7 fa):=⟨PE.weak (Cm Bb ha.h) (Bk λx d v O H Q _ e dv q=>by
 cases x with
 |int i=>cases e;exact⟨i,dP.mp dv,q _ H (aL.refl H) (dP.mpr rfl)⟩
 |_=>cases e)⟩
end
section
variable[aj]{X:Cx}
theorem mz{a:Kf}{es:aX}{k:Nat}{tpos:Pos}{f:aH}{p pos:Pos}(hg:Gl X "enumerate")(hm:X.mg "enumerate"=none)(ha:XA X [a] f)(hs:Ku [a] X.env=(false,eval a X.env)::Ku [] X.env:=by rfl)(hpl:(backTo pos (Ku [] X.env)).any (·.1)=false:=by rfl):XI X (.Tuple es k tpos) (.Call (.Name "enumerate" p) [a] [] pos) (fT f):=by
 refine⟨?_⟩;rintro pins s σ H RR I ⟨O,ρ,E,hG⟩;have hA:=ha.h pos pins s σ H (λvs H1=>∃ds r,mM ds=some r/\aF X.K (hid H1 O) ds vs/\∀J,Walk X.K (hid H1 O) J r->RR J H1) I ⟨O,ρ,E,(cR.bind hG).imp λds hG vs H1 s1 d1=>by
  obtain⟨r,e,q⟩:=cR.rO hG;exact⟨ds,r,e,d1,λJ wk=>q J H1 s1 wk⟩⟩
 refine PyProof.Rows.Call_ (lu I hg hm PyProof.Rows.boot_enumerate (J3 (b9 hA λus s1 zq=>zq.elim λvs zq=>zq.elim λH1 zq=>zq.elim λI1 zq=>zq.elim λr1 zq=>zq.elim λds zq=>zq.elim λr zq=>zq.elim λer zq=>zq.elim λd1 q=>?_) hs hpl));exact yT I1 er d1 r1 q
end
section
variable[aj]{X:Cx}{a o e:Kf}{es:aX}{fa fo:FX}{fas:aH}{f m x:Str}{cs:ao}{pos apos p:Pos}{k k':Nat}{ps:ao}
theorem xt(ok:gJ X.K f cs)(h:XE X a fa)(hb:KP a f X.env (eval a X.env)=eval a X.env:=by rfl):XE X (.Attribute a f pos) (f1 (bZ f cs) fa):=⟨PE.weak (Aa h.h hb) λσ H Q zq=>zq.elim λO zq=>zq.elim λρ zq=>zq.elim λE hF=>⟨O,ρ,E,(cR.bind hF).imp λd hF v H1 s1 d1=>by
  obtain⟨r,e,q⟩:=cR.rO hF;cases d with
  |obj c fs vs=>
   have e':(if cs.contains c then(fs.zip vs).lookup f else none)=some r:=e;cases hc:cs.contains c with
   |false=>rw[hc]at e';cases e'
   |true=>
    rw[hc]at e';obtain⟨a,ws,ev,g1,g2,C,dx,g3,g4⟩:=DQ.mp d1;obtain⟨w,l1,l2⟩:=lw g1 e';obtain⟨cl,na⟩:=ok c (List.contains_iff_mem.mp hc) C g3;exact⟨a,C,dx,_,w,ev,aC H1 O _ _ g4,cl,na,l1,q w H1 s1 l2⟩
  |_=>cases e⟩⟩
theorem wO{tbl : List (Str × (bv))}{pl : Sem Bool}(tb : lz X.prog X.w X.K X.mg X.base k m ps tbl)(hr : cz k' X.A)(hk : k <= k')(ho : XE X o fo)(ha : XA X (e :: es) fas)(hns : (e :: es).all noStar = true := by rfl)(ht : eval (.Call (.Attribute o m apos) (e :: es) [] pos) X.env = (do
      let ov<-eval o X.env
      standAt apos.atName
      let (f,first)<-holding [ov] (getMethod ov m pl)
      KQ pos f first (backTo pos (Ku (e::es) X.env)) (backToKw pos (KR [] X.env))):=by rfl):XE X (.Call (.Attribute o m apos) (e::es) [] pos) (bi m tbl fo fas):=⟨pH tb (hr.mono hk) ho.h (λpins s1 σ H1 O ρ a f od Q g fd _ kp F b ar I1 E1 dO hP=>by
    refine JC (first:=[.ref a]) (h₀:=X.base) I1.ok.mod.kin kp (b9 (ha.h pos pins s1 σ H1 _ I1 ⟨O,ρ,E1,(cR.bind hP).imp λas hP vs H2 s2 d2=>lF (vs:=.ref a::vs) ar (E1.all.same s2) (aQ.mpr ⟨_,_,rfl,dO.mono (bh s2),d2⟩) ((hP.mono s2).imp λd q v H3 s3 d3=>q v H3 (s2.trans s3) d3)⟩) λus s2 zq=>zq.elim λvs zq=>zq.elim λH2 zq=>zq.elim λI2 zq=>zq.elim λr zq=>zq.elim λEx zq=>zq.elim λhx q2=>⟨I2.kIn,?_⟩) (aZ (HM _ _ ▸ hns).1) (bH (HM _ _ ▸ hns).2);exact kM (us:=.ref a::us) (vs:=.ref a::vs) F (hr.mono hk) b hx I2 (.cons rfl r) q2) ht⟩
theorem uC{tbl : List (Str × (bv))}{pl : Sem Bool}(tb : lz X.prog X.w X.K X.mg X.base k m ps tbl)(hr : cz k' X.A)(hk : k <= k')(ho : XE X o fo)(ht : eval (.Call (.Attribute o m apos) [] [] pos) X.env = (do
      let ov<-eval o X.env
      standAt apos.atName
      let (f,first)<-holding [ov] (getMethod ov m pl)
      KQ pos f first (backTo pos (Ku [] X.env)) (backToKw pos (KR [] X.env))):=by rfl):XE X (.Call (.Attribute o m apos) [] [] pos) (bi m tbl fo ah):=⟨pH tb (hr.mono hk) ho.h (λpins s1 σ H1 O ρ a f od Q g fd _ kp F b ar I1 E1 dO hP=>by
    have hP':cR X σ O H1 (g [od]) λd=>∀v H',aL H1 H'->bp X.K (hid H' O) d v->Q v H':=hP;obtain⟨Ex,hx,q2⟩:=lF (vs:=[.ref a]) ar E1.all (aQ.mpr ⟨_,_,rfl,dO,bQ.mpr rfl⟩) hP';exact PySem.W.callWith_K0 (first:=[.ref a]) I1.kIn kp (kM (us:=[.ref a]) (vs:=[.ref a]) F (hr.mono hk) b hx I1 (.cons rfl .nil) q2)) ht⟩
theorem yv{c:Str}{fs:ao}(IA:gE X.prog X.w X.K X.mg X.base k c ps fs)(hr:cz k' X.A)(hk:k+1<=k')(hg:Gl X c)(ha:XA X (e::es) fas)(hdb:(c==("__debug__":Str))=false:=by decide)(hns:(e::es).all noStar=true:=by rfl):XE X (.Call (.Name c p) (e::es) [] pos) (fNew c fs fas):=by
 refine⟨?_⟩;obtain⟨C,f,fd,h1,h2,h3,h4,h5⟩:=IA;refine PE.weak (yu (dvs:=[]) (E:=E0) h2 h3 (hr.mono hk) hg h5 h4 .nil Cj ha.h hdb (aZ (HM _ _ ▸ hns).1) (bH (HM _ _ ▸ hns).2)) λσ H Q zq=>zq.elim λO zq=>zq.elim λρ zq=>zq.elim λE hF=>⟨O,ρ,E,(cR.bind hF).imp λas hF vs H1 s1 d1 x dx hx hd ne=>?_⟩
 by_cases hl:as.length=fs.length
 ·rw[if_pos hl]at hF;rw[HB];refine⟨x,dx,vs,rfl,by rw[<-d1.length,hl],by rw[aD],rfl,?_⟩;obtain⟨sm,dn⟩:=o4 h1 hl d1 (E.all.same s1) hx hd ne;exact hF _ _ (s1.trans sm) dn
 ·rw[if_neg hl]at hF;exact hF.elim
end
section
variable[aj]{X:Cx}
theorem uQ{a e : Kf}{es : aX}{fa : FX}{fs : aH}{apos cpos : Pos}(ha : XE X a fa)(hs : XA X (e :: es) fs)(hbase : KP a "join" X.env (eval a X.env) = eval a X.env := by rfl)(hfew : ((backTo cpos (Ku (e :: es) X.env)).all (fun x => !x.1) && (backToKw cpos (KR [] X.env)).all (fun x => x.1.isSome)
      && decide ((e::es).length+([]:List Ld).length+(if([]:List Ld).isEmpty then 0 else 1)<30))=true:=by rfl)(hline:(apos.endLine==cpos.line)=true:=by rfl)(hst:Ku (e::es) X.env=(false,eval e X.env)::Ku es X.env:=by rfl)(hplain:(backTo cpos (Ku es X.env)).any (·.1)=false:=by rfl):XE X (.Call (.Attribute a "join" apos) (e::es) [] cpos) (rm fa fs):=⟨PE.weak (zG F.plainAttrs_str F.slot_str_join F.type_str_join yR ha.h hs.h hbase hfew hline hst hplain) λσ H Q zq=>zq.elim λO zq=>zq.elim λρ zq=>zq.elim λE hF=>⟨O,ρ,E,(cR.bind hF).imp λx hF v H1 s1 d1=>by
    obtain⟨z,ez,hF⟩:=cR.rO (cR.bind hF);rw[yh ez d1];exact⟨rfl,O,ρ,E.same s1,((cR.bind hF).mono s1).imp λds hF vs H2 s2 d2=>by
      obtain⟨d,e,q⟩:=cR.rO hF;exact nY e d2 λw dw=>q w H2 (s1.trans s2) dw⟩⟩⟩
end
section
variable[aj]{X:Cx}{p pos:Pos}{e:Kf}{C:Ke}
theorem v3{f:FX}{x:Str}{p2:Pos}{cs:ao}(h:v5 X.K X.mg x cs)(hg:Gl X "isinstance")(hm:X.mg "isinstance"=none)(hgx:Gl X x)(he:XE X e f)(hd2:(x==("__debug__":Str))=false:=by decide)(hns:noStar e=true:=by rfl):XE X (.Call (.Name "isinstance" p) [e,.Name x p2] [] pos) (f1 (pR cs) f):=by
 refine⟨?_⟩;obtain⟨C,hC,hcs⟩:=h;exact PE.weak (eL tM hg hm gL (cC he.h (cC (sE (v:=.ref C) hgx hC rfl hd2) jz (aZ rfl)) (aZ hns)) (by decide) (by decide) (aZ hns) (bH rfl)) λσ H Q zq=>zq.elim λO zq=>zq.elim λρ zq=>zq.elim λE hF=>⟨O,ρ,E,(cR.bind hF).imp λa hF v H1 s1 d1=>by
  obtain⟨d,e,q⟩:=cR.rO hF;unfold pR at e;split at e
  ·rename_i c fs vs;obtain⟨h1,h2⟩:=aW e;subst h2;obtain⟨a,ws,rfl,_,_,D,dx,hcl,ha⟩:=DQ.mp d1;exact⟨a,D,dx,_,rfl,aC _ _ _ _ ha,hcs c (by simpa using h1) D hcl,q _ H1 s1 (gD.mpr rfl)⟩
  ·cases e⟩
end
section
variable[aj]{X:Cx}{pos:Pos}
theorem t9{x:Str}{e:Kf}{es:aX}{f:aH}{np cpos:Pos}(hc:X.calm=true)(hx:ExcAt X.K X.mg x)(hg:Gl X x)(ha:XA X (e::es) f)(hdb:(x==("__debug__":Str))=false:=by decide)(hns:(e::es).all noStar=true:=by rfl):XS X (.Raise (some (.Call (.Name x np) (e::es) [] cpos)) none pos) (iO x f):=⟨λHb Ob pins s σ H E I zq=>zq.elim λO zq=>zq.elim λρ zq=>zq.elim λk zq=>zq.elim λr zq=>zq.elim λS zq=>zq.elim λhF hk=>by
 obtain⟨C,cl,hm,hi⟩:=hx;obtain⟨tl,N,nm,q,bs,hdct,sn,sub,ab,col,dd,k0,k1,k2,k3,k5,mN,hC,hN,hni,T⟩:=(x8 I.mod.kin hi x).obj;have st:Ku (e::es) X.env=_:=aZ (HM _ _ ▸ hns).1;have plain:(backTo cpos (Ku (e::es) X.env)).any (·.1)=false:=bH hns;refine wpAny_Raise_call_subT (k5:=k5) (k3:=k3) (k2:=k2) (k1:=k1) (k0:=k0) (dd:=dd) (col:=col) (ab:=ab) (sub:=sub) (sn:=sn) (hdct:=hdct) (bs:=bs) (N:=N) (q:=q) (nm:=nm) PySem.F.excBase_ValueError (mN:=mN) (T.hasType PySem.F.excBase_ValueError.hasBase) (I.ok.hd hc) plain hni (jh I hg hm ⟨rfl,?_⟩ hdb);have A1:=ha.h cpos pins s σ H (λvs H1=>vs.length<=Km/\aL H H1/\k.ex ⟨x,[],[]⟩ ρ=r) I ⟨O,ρ,S.env,cR.on hF hk S λds e vs H' s' d'=>by
  have z:small ds.length=true:=by
   cases z:small ds.length with
   |true=>rfl
   |false=>rw[z]at e;exact absurd e.symm hk.ne
  rw[z]at e;exact⟨by rw[<-d'.length];exact bU z,s',e⟩⟩
 rw[st]at A1 ⊢;refine Calls.evalArgs_plain (b9 A1 λus s2 zq=>zq.elim λvs zq=>zq.elim λH1 zq=>zq.elim λI1 zq=>zq.elim λrv zq=>zq.elim λq1 zq=>zq.elim λq2 q3=>⟨rfl,by rw[<-rv.length];exact q1,I1.bk _ _ hC,hN.keeps I1.bk,T.keeps I1.bk,λh' a m=>?_⟩);exact hk.ex O ρ σ H1 _ (S.same q2) q3 pins _ _ H1 (I1.kept (t':=s2.toks) m.keeps) (aL.refl H1) ⟨a,C,none,rfl,⟨cl,[],bQ.mpr rfl,rfl,.inl rfl⟩,wD I1 m⟩⟩
end
section
variable[aj]{X:Cx}{p pos:Pos}{e:Kf}
theorem v4{f:FX}{x:Str}{p2:Pos}{tbl:List (Str×Bool)}(h:jl X.K X.mg x tbl)(hg:Gl X "isinstance")(hm:X.mg "isinstance"=none)(hgx:Gl X x)(he:XE X e f)(hd2:(x==("__debug__":Str))=false:=by decide)(hns:noStar e=true:=by rfl):XE X (.Call (.Name "isinstance" p) [e,.Name x p2] [] pos) (f1 (dr tbl) f):=by
 refine⟨?_⟩;obtain⟨C,hC,h⟩:=h;exact PE.weak (eL (ng (tv:=.ref C) (T:=.ref C) λu r=>r) hg hm gL (cC he.h (cC (sE (v:=.ref C) hgx hC rfl hd2) jz (aZ rfl)) (aZ hns)) (by decide) (by decide) (aZ hns) (bH rfl)) (zo h)
theorem t4{f:FX}{x:Str}{T:String}{p2:Pos}{tbl:List (Str×Bool)}(h:pS X.K (.type T) tbl)(hg:Gl X "isinstance")(hm:X.mg "isinstance"=none)(hgx:Gl X x)(hmx:X.mg x=none)(hv:Ko x=some (.type T))(he:XE X e f)(hn2:x≠"__name__":=by decide)(hd2:(x==("__debug__":Str))=false:=by decide)(hns:noStar e=true:=by rfl):XE X (.Call (.Name "isinstance" p) [e,.Name x p2] [] pos) (f1 (dr tbl) f):=⟨PE.weak (eL (ng (tv:=.ty T) (T:=.type T) λu r=>r) hg hm gL (cC he.h (cC (n8 (v:=.ty T) hgx hmx hv rfl hn2 hd2) jz (aZ rfl)) (aZ hns)) (by decide) (by decide) (aZ hns) (bH rfl)) (zo h)⟩
end
section
variable[aj]
theorem vQ{X:Cx}{i:Nat}{x:Str}{idx value:Kf}{fk fv:FX}{npos tpos pos:Pos}(hu:X.A.units+64<KS)(hx:XV X (.Name x npos) i)(hi:XE X idx fk)(hv:XE X value fv)(hs:swapsWith value (some (.Subscript (.Name x npos) idx tpos)) pos.line X.env=pure false:=by rfl):XS X (.Assign [.Subscript (.Name x npos) idx tpos] value pos) (dN i fk fv):=⟨λHb Ob pins s σ H E I zq=>zq.elim λO zq=>zq.elim λρ zq=>zq.elim λk zq=>zq.elim λrr zq=>zq.elim λS zq=>zq.elim λhF hk=>by
 unfold dN at hF;split at hF
 ·rename_i ks ds hxs;obtain⟨a,ha,haO,hat⟩:=S.env.own i _ hxs;have hP:=cR.on hF hk S (Q:=λal=>k.nx (ρ.set i (some (.own (af al))))=rr) λp e=>e;refine wV `o hx.h hi.h hv.h hs pins s σ H E I ⟨O,ρ,S.env,(cR.bind hP).imp λy hP v H1 s1 d1=>?_⟩;have S1:=S.same s1;refine⟨.ref a,ha,O,ρ,S1.env,((cR.bind hP).mono s1).imp λj hP w H2 s2 d2=>?_⟩;have S2:=S1.same s2;obtain⟨al',hg,e⟩:=cR.rO hP;obtain⟨al,q,f1,f2,f3,f4,f5⟩:=qY hg;subst f1 f2 f3 f5;have s12:=s1.trans s2;have hat2:dD X.K H2 O a (af al):=hat.mono (let ⟨_,z⟩:=hat.some;oi s12 z) (bh s12);have dv:bp X.K (hid H2 O) y v:=d1.mono (bh s2);have fin:∀kvs:List (Key×V),kvs.map (·.1)=al.map (·.1)->aF X.K (hid H2 O) (al.map (·.2)) (kvs.map (·.2))->dD X.K (upd H2 a (.dK (putK kvs q v))) O a (af (bG al q y)):=λkvs k2 k3=>
   ⟨_,_,aD,(wH dv k2 k3).mono (jq haO),.inl ⟨putK kvs q v,rfl,yz (tO k2 q v y),rfl⟩⟩
  rcases Fs hat2 with⟨kvs,k1,k2,k3⟩|⟨k1,rfl⟩
  ·have hl:kvs.length=al.length:=(by have:=congrArg List.length k2;simpa using this);exact⟨a,q,kvs,rfl,iY d2,.inl k1,by rw[hl];exact Iz (of_decide_eq_true f4) (by decide),hk.nx O _ σ _ (S2.setO hxs ha trivial (fin kvs k2 k3)) e⟩
  ·exact⟨a,q,[],rfl,iY d2,.inr ⟨k1,rfl⟩,by decide,hk.nx O _ σ _ (S2.setO hxs ha trivial (fin [] rfl (bQ.mpr rfl))) e⟩
 ·exact absurd hF.symm hk.ne⟩
end
section
variable[aj]{X:Cx}
theorem ve{o e:Kf}{fo fk:FX}{pos:Pos}(hu:X.A.units+64<KS)(ho:XE X o fo)(hi:XE X e fk)(hs:Bf e):XE X (.Subscript o e pos) (f2 dM fo fk):=⟨PE.weak (yW `o ho.h hi.h hs) λσ H Q zq=>zq.elim λO zq=>zq.elim λρ zq=>zq.elim λE hF=>⟨O,ρ,E,(cR.bind hF).imp λdd hF v H1 s1 d1=>⟨O,ρ,E.same s1,((cR.bind hF).mono s1).imp λk hF y H2 s2 d2=>by
  obtain⟨d,hg,q⟩:=cR.rO hF;unfold dM at hg;cases e:zB dd k with
  |none=>rw[e]at hg;cases hg
  |some o=>
   rw[e]at hg;have hg:o=some d:=hg;subst hg;obtain⟨al,qk,rfl,rfl,z0⟩:=pK e;obtain⟨a,ea,hh⟩:=eU (d1.mono (bh s2));have ey:=iY d2;subst ey;rcases hh with⟨kvs,k1,k2,k3⟩|⟨_,rfl⟩
   ·rcases jm qk k2 k3 with⟨_,z2⟩|⟨w,d',z1,z2,z3⟩
    ·rw[z2]at z0;cases z0
    ·rw[z2]at z0;cases z0;exact⟨a,w,ea,by rw[<-z1];exact uf.k ((aC H2 O) _ _ k1),q w H2 (s1.trans s2) z3⟩
   ·cases z0⟩⟩⟩
end
section
variable[aj]{X:Cx}{e:Kf}{te:TE}{lo hi:Option Kf}{sx:Kf}{tl th ts:TO}{pos p2:Pos}
theorem qg{f:FX}{l h g:ai->R bn}(he:XE X e f)(hl:XO X lo l)(hh:XO X hi h)(hs:XO X (some sx) g):XE X (.Subscript e (.Slice lo hi (some sx) p2) pos) (fS f l h g):=⟨PE.weak (uH he.h hl.h hh.h hs.h) λσ H Q zq=>zq.elim λO zq=>zq.elim λρ zq=>zq.elim λE hF=>⟨O,ρ,E,(cR.bind hF).imp λa hF x H1 s1 d1=>⟨O,ρ,E.same s1,((cR.bind hF).mono s1).imp λlo' hF H2 s2=>⟨O,ρ,E.same (s1.trans s2),((cR.bind hF).mono (s1.trans s2)).imp λhi' hF H3 s3=>⟨O,ρ,E.same ((s1.trans s2).trans s3),((cR.bind hF).mono ((s1.trans s2).trans s3)).imp λst' hF H4 s4=>by
  obtain⟨d,e,q⟩:=cR.rO hF;exact⟨O,a,d,E.all.same (((s1.trans s2).trans s3).trans s4),d1.mono (bh ((s2.trans s3).trans s4)),e,λv H5 s5 d5=>q v H5 ((((s1.trans s2).trans s3).trans s4).trans s5) d5⟩⟩⟩⟩⟩⟩
end
section
variable[aj]
theorem qM{X:Cx}{k k':Nat}{ps:ao}{g:bv}{h:aH}{x:Str}{p pos:Pos}{e:Kf}{es:aX}(C:xI X.prog X.w X.K X.mg X.base k x ps g)(hn:Ar ps.length g)(hr:cz k' X.A)(hk:k<=k')(ha:XA X (e::es) h)(hg:Gl X x:=by rfl)(hdb:(x==("__debug__":Str))=false:=by decide)(hns:(e::es).all noStar=true:=by rfl):XN X (.Call (.Name x p) (e::es) [] pos) (fR g h):=by
 refine⟨?_⟩;obtain⟨f,fd,F,b,kp,m⟩:=C;exact PE.weak (pW F (hr.mono hk) hg m kp b ha.h hdb (aZ (HM _ _ ▸ hns).1) (bH (HM _ _ ▸ hns).2)) (uF hn)
end
section
variable[aj]{X:Cx}
theorem mP{x:Str}{p pos:Pos}{e:Kf}{f:aH}(hg:Gl X x)(hm:X.mg x=none)(hv:Ko x=some (.type "dict"))(ha:XA X [e] f)(hn:x≠"__name__":=by decide)(hdb:(x==("__debug__":Str))=false:=by decide)(hns:noStar e=true:=by rfl):XN X (.Call (.Name x p) [e] [] pos) (fL fX f):=⟨PE.weak (m9 qV hg hm hv ha.h hn hdb (aZ hns) (bH rfl)) λσ H Q zq=>zq.elim λO zq=>zq.elim λρ zq=>zq.elim λE hF=>⟨O,ρ,E,(cR.bind hF).imp λds hF vs H1 s1 d1=>by
  obtain⟨d,hg,q⟩:=cR.rO hF;unfold fX at hg;split at hg
  ·rename_i ks dl;obtain⟨al,hk,hg⟩:=Option.map_eq_some_iff.mp hg;subst hg;obtain⟨f1,f2⟩:=ef hk;subst f1 f2;obtain⟨v,ev,h1⟩:=d1.one;exact⟨O,al,v,ev,E.all.same s1,h1,λl kvs hl k1 k2=>q l _ (s1.trans (bM hl _)) (s1.free hl) ⟨_,aD,trivial⟩ ⟨_,_,aD,k2.mono (lW hl),.inl ⟨kvs,rfl,by rw[show kvs.map (λp=>bK p.1)=(kvs.map (·.1)).map bK by rw[IU];rfl,k1,IU];rfl,rfl⟩⟩⟩
  ·cases hg⟩⟩
end
section
variable[aj]{X:Cx}{st:Kg}{rest:b7}{pos:Pos}
theorem vy{F1 F2:bu}(h1:XS X st F1)(l:CP F1)(h2:XR X rest F2):XR X (st::rest) (aB F1 F2):=⟨λHb Ob=>oM.weak (lJ (h1.h Hb Ob) (h2.h Hb Ob)) λE σ H zq=>by
 classical
 obtain⟨O,ρ,r,S,hF,ne,rt,ex⟩:=zq;obtain⟨step,hs⟩:=l;have hF:F1 {K0 with nx:=F2 K0} ρ=r:=hF;rw[hs]at hF
 match e:step ρ with
 |.ok ρ1=>
  rw[e]at hF;have hk:Bw X Hb Ob {E with nx:=Fw X Hb Ob F2 E} {nx:=λρ'=>if ρ'=ρ1 then .error (some ⟨"",[],[]⟩)else un,bk:=λ_=>un,ct:=λ_=>un,ex:=λ_ _=>un} (.error (some ⟨"",[],[]⟩)):=
   ⟨fun z=>iH z.symm,fun O' ρ' σ' H' S' z=>by
    by_cases c:ρ'=ρ1
    ·subst c;exact⟨O',ρ',r,S',hF,ne,rt,ex⟩
    ·have z:(if ρ'=ρ1 then(.error (some ⟨"",[],[]⟩):R D)else un)=_:=z;rw[if_neg c]at z;exact absurd z iH,λO' ρ' σ' H' S' z=>absurd z iH,λO' ρ' σ' H' S' z=>absurd z iH,λd O' v H' z=>(by cases z),λO' ρ' σ' H' x S' z=>absurd z iH⟩
  refine⟨O,ρ,_,_,S,?_,hk⟩;rw[hs,e];exact if_pos rfl
 |.error (some x)=>
  rw[e]at hF;have hk:Bw X Hb Ob {E with nx:=Fw X Hb Ob F2 E} {nx:=λ_=>un,bk:=λ_=>un,ct:=λ_=>un,ex:=λx' _=>if x'=x then .error (some ⟨"",[],[]⟩)else un} (.error (some ⟨"",[],[]⟩)):=
   ⟨fun z=>iH z.symm,fun O' ρ' σ' H' S' z=>absurd z iH,fun O' ρ' σ' H' S' z=>absurd z iH,fun O' ρ' σ' H' S' z=>absurd z iH,fun d O' v H' z=>(by cases z),fun O' ρ' σ' H' x' S' z=>by
    by_cases c:x'=x
    ·subst c;exact ex O' ρ' σ' H' x' S' hF
    ·have z:(if x'=x then(.error (some ⟨"",[],[]⟩):R D)else un)=_:=z;rw[if_neg c]at z;exact absurd z iH⟩
  refine⟨O,ρ,_,_,S,?_,hk⟩;rw[hs,e];exact if_pos rfl
 |.error none=>
  rw[e]at hF;exact absurd hF.symm ne⟩
theorem xx{e:Kf}{f:FX}(h:XN X e f):XR X [.Return (some e) pos] (bw f):=⟨λHb Ob=>oM.weak (kN (qp h.h)) λE σ H zq=>by
 obtain⟨O,ρ,r,S,hF,ne,rt,ex⟩:=zq;have hF:kL (f ρ) K0 ρ .ok=r:=hF;refine⟨O,ρ,S.env,?_⟩
 match e:f ρ with
 |.ok d=>
  rw[e]at hF;intro p H' s hp m o;exact rt d p H' hF.symm (S.base.same.trans s) (S.base.same.free hp) m (o.mono rfl (dE λb hb=>by
   rcases List.mem_cons.mp hb with z|z
   ·rw[z];exact Hj
   ·exact Hk _ (S.base.sub b z)))
 |.error (some x)=>
  rw[e]at hF;exact ex O ρ σ H x S hF
 |.error none=>rw[e]at hF;exact absurd hF.symm ne⟩
theorem yP{i:Nat}{x:Str}{npos:Pos}(h:XV X (.Name x npos) i):XR X [.Return (some (.Name x npos)) pos] (rG i):=⟨λHb Ob=>oM.weak (kN (qp h.h)) λE σ H zq=>by
 obtain⟨O,ρ,r,S,hF,ne,rt,ex⟩:=zq;unfold rG at hF;split at hF
 ·rename_i d hd;obtain⟨a,ha,haO,hat⟩:=S.env.own i d hd;have mi:=S.mine i d a hd ha;refine⟨.ref a,ha,rt d a H hF.symm S.base.same mi.1 (S.env.all.2 a haO) (hat.mono rfl (dE λb hb=>?_))⟩;rcases List.mem_cons.mp hb with z|z
  ·rw[z];exact haO
  ·exact S.base.sub b z
 ·exact absurd hF.symm ne⟩
end
section
variable[aj]
theorem rL{X:Cx}{e:Kf}{f:FX}(h:XN X e f):XE X e f:=⟨PE.weak h.h λσ H Q zq=>zq.elim λO zq=>zq.elim λρ zq=>zq.elim λE hF=>⟨O,ρ,E,hF.imp λd q p H' s hp m o=>q (.ref p) H' s (o.den (dE λb hb=>Hk _ hb) λz=>by
 obtain⟨u,q1,_⟩:=E.all.2 p z;rw[hp]at q1;cases q1)⟩⟩
end
section
variable[aj]{X:Cx}{k k':Nat}{m:Str}{ps:ao}{o e:Kf}{es:aX}{fo:FX}{fas:aH}{apos pos:Pos}
theorem mX{tbl : List (Str × (bv))}{pl : Sem Bool}(tb : sL X.prog X.w X.K X.mg X.base k m ps tbl)(hr : cz k' X.A)(hk : k <= k')(ho : XE X o fo)(ha : XA X (e :: es) fas)(hns : (e :: es).all noStar = true := by rfl)(ht : eval (.Call (.Attribute o m apos) (e :: es) [] pos) X.env = (do
      let ov<-eval o X.env
      standAt apos.atName
      let (f,first)<-holding [ov] (getMethod ov m pl)
      KQ pos f first (backTo pos (Ku (e::es) X.env)) (backToKw pos (KR [] X.env))):=by rfl):XN X (.Call (.Attribute o m apos) (e::es) [] pos) (fV m tbl fo fas):=⟨yV tb hr hk ho.h ha.h hns ht⟩
end
section
variable[aj]{X:Cx}{e:Kf}{p pos:Pos}
theorem ud{f:FX}{p2:Pos}(ok:JL X.K (.type "dict") (.type "dict")=some true)(hg:Gl X "isinstance")(hm:X.mg "isinstance"=none)(hgT:Gl X "dict")(hmT:X.mg "dict"=none)(hvT:Ko "dict"=some (.type "dict"))(he:XE X e f)(hns:noStar e=true:=by rfl):XE X (.Call (.Name "isinstance" p) [e,.Name "dict" p2] [] pos) (f1 iU f):=⟨PE.weak (eL (wA ok) hg hm gL (cC he.h (cC (n8 (v:=.ty "dict") hgT hmT hvT rfl (by decide) (by decide)) jz (aZ rfl)) (aZ hns)) (by decide) (by decide) (aZ hns) (bH rfl)) λσ H Q zq=>zq.elim λO zq=>zq.elim λρ zq=>zq.elim λE hF=>⟨O,ρ,E,(cR.bind hF).imp λa hF v H1 s1 d1=>by
  obtain⟨d,e,q⟩:=cR.rO hF;unfold iU at e;split at e
  ·obtain⟨al,e1,e2⟩:=Option.map_eq_some_iff.mp e;subst e2;obtain⟨f1,f2⟩:=ef e1;subst f1 f2;exact⟨O,v,al,rfl,d1,q _ H1 s1 (gD.mpr rfl)⟩
  ·cases e⟩⟩
end
theorem xF{X:Cx}{pos:Pos}{body suite:b7}{b₀:Kg}{g n:Str}{gp hpos:Pos}{F Fh:bu}{cs:ao}{i:Nat}(hx:X.ex=[])(hst:X.stack=X.env::X.outer)(hf:X.env.frame=some X.env.locals)(hfn:∀x,X.fn x=true)
  (hT:pL X.K X.mg g cs) (hg:Gl X g) (hN:X.N.Nodup) (hi:X.N[i]?=some n) (hl:X.env.scope.names.lookup n=some .local)
  (hb:∀E pn,KG `i X.A X.env E->ot (oR X E pn) body F) (hs:∀A pn,A.depth=X.A.depth->A.units=X.A.units->ot (lY X A pn) (b₀::suite) Fh) (hdb:(g==("__debug__":Str))=false:=by decide):
  XS X (.Try body [.ExceptHandler (some (.Name g gp)) (some n) (b₀::suite) hpos] [] [] pos) (w6 cs i F Fh):=⟨TG.ER hx hst hf hfn hT hg hN hi hl (λE pn hp=>(hb E pn hp).h) (λA pn h1 h2=>(hs A pn h1 h2).h) hdb⟩
noncomputable abbrev Lk(K:Jo)(f:Ke)(nm qual:Str)(st:Kg)(oc:Kc)(od:Option Ke)(kV dc pm:Kc)(an:Option Ke)(cd ct:Kc)(sl:Array (Option Kc)):Prop:=K.lookup f=some ⟨oc,od,.func (JE nm qual (fQ st) (ca st) (aq st) .none kV dc pm an cd ct),sl⟩
structure sI(P:Kj)(w:Ki)(K:Jo)(mg:bj)(base:Kl)(k:Nat)(N:ao)(qual:Str)(st:Kg)(f:Ke)(B:bu):Prop where
 h:∀(cdv:Kc)(A:Kp)(outer:List Env)(s:Kh)(H:Hp)(E:XK),cz k (A.deeper (J5 qual (aq st) s.heap.objs.size f cdv))->KG (model P w) (A.deeper (J5 qual (aq st) s.heap.objs.size f cdv)) (J5 qual (aq st) s.heap.objs.size f cdv) (eK (gu P w) P w K mg base N qual (aq st) f cdv A outer s H E).xe->
  ot (eK (gu P w) P w K mg base N qual (aq st) f cdv A outer s H E) (ca st) B
theorem sI.ok{P:Kj}{w:Ki}{K:Jo}{mg:bj}{base:Kl}{k:Nat}{N:ao}{qual:Str}{st:Kg}{f:Ke}{B:bu}(h:sI P w K mg base k N qual st f B):BodyOk P w K mg base k N qual st f B:=⟨λcdv A outer s H E hr hp=>(h.h cdv A outer s H E hr hp).h⟩
structure AC(P:Kj)(w:Ki)(K:Jo)(mg:bj)(base:Kl)(k:Nat)(N:ao)(qual:Str)(st:Kg)(f:Ke)(B:bu):Prop where
 h:∀(cdv:Kc)(A:Kp)(outer:List Env)(s:Kh)(H:Hp)(E:XK),cz k (A.deeper (J5 qual (aq st) s.heap.objs.size f cdv))->KG (model P w) (A.deeper (J5 qual (aq st) s.heap.objs.size f cdv)) (J5 qual (aq st) s.heap.objs.size f cdv) (eK (gu P w) P w K mg base N qual (aq st) f cdv A outer s H E).xe->
  XR (eK (gu P w) P w K mg base N qual (aq st) f cdv A outer s H E) (ca st) B
section
variable{X:Cx}{x:Str}{pos:Pos}
theorem xw(i:Nat)(hN:X.N[i]?=some x:=by rfl)(hv:zZ X.env.scope x:=by first|exact Or.inl rfl|exact Or.inr (Or.inl rfl)|exact Or.inr (Or.inr rfl))(hd:(x==("__debug__":Str))=false:=by decide)(hcd:(x==("__classdict__":Str))=false:=by decide):XE X (.Name x pos) (ae i):=yB (xv i hN hv hd hcd)
theorem xi{a b:Kf}{fa fb:FX}(ha:XE X a fa)(hb:XE X b fb)(hs:oA b:=by exact λ_ _=>rfl):XE X (.Subscript a b pos) (f2 aI fa fb):=Ax ha hb hs
theorem xa1{e:Kf}{f:FX}(he:XE X e f)(h:noStar e=true:=by rfl):XA X [e] (aa f ah):=lD he rz h
theorem xa2{e e':Kf}{f f':FX}(he:XE X e f)(he':XE X e' f')(h:noStar e=true:=by rfl)(h':noStar e'=true:=by rfl):XA X [e,e'] (aa f (aa f' ah)):=lD he (xa1 he' h') h
theorem xs(i:Nat){e:Kf}{f:FX}{pos':Pos}(hN:X.N.Nodup)(he:XE X e f)(hi:X.N[i]?=some x:=by rfl)(hx:Loc X.env.scope x:=by first|exact Or.inl rfl|exact Or.inr rfl)(hs:swapsWith e (some (.Name x pos')) pos.line X.env=pure false:=by rfl)(hf:X.fn x=true\/X.env.scope.names.lookup x=some .local:=by first|exact .inl rfl|exact .inr rfl|assumption):XS X (.Assign [.Name x pos'] e pos) (bb i f):=yH hN hi hx he hs hf
end
noncomputable def D4:ao->Bool
 |[]=>true
 |x::r=>!(r.contains x)&&D4 r
theorem mE{l:ao}(h:D4 l=true):l.Nodup:=by
 induction l with
 |nil=>exact List.nodup_nil
 |cons x r ih=>
  simp only[D4,HM,IT]at h;exact List.nodup_cons.mpr ⟨λm=>by rw[List.contains_iff_mem.mpr m]at h;exact absurd h.1 (by decide),ih h.2⟩
noncomputable def zM:Kf->ao
 |.Name x _=>[x]
 |.Tuple es _ _=>es.filterMap λe=>match e with
  |.Name x _=>some x
  |_=>none
 |_=>[]
noncomputable def vB(N:ao):dF->ao->ao
 |[],_=>[]
 |some j::r,t=>N.getD j ""::vB N r t
 |none::r,x::t=>x::vB N r t
 |none::r,[]=>""::vB N r []
section
variable{X:Cx}{elt tg iter:Kf}{ifs:aX}{scope:Kq}{ix:dF}{G:aH}{g:GF}{C:bq}{Fe:FX}{i:Nat}{y:Str}{lpos py pos:Pos}
theorem xl(hc:X.calm=true)(tk:kK ix g)(hi:XI X tg iter G)(hb:mh X scope (vB X.N ix (zM tg)) tg elt ifs g C Fe)(ok:gS X.env.scope.names X.N scope (vB X.N ix (zM tg)) ix=true:=by rfl)(hs:∀x,KH iter X.env x=pure x:=by intro _;rfl):XE X (.ListComp elt [⟨tg,iter,ifs,0⟩] scope pos) (kU ix G g C Fe):=Bu hc (.of ok) tk hi hb hs
theorem GD(hc:X.calm=true)(tk:kK ix g)(hi:XI X tg iter G)(hb:mh X scope (vB X.N ix (zM tg)) tg elt ifs g C Fe)(ok:gS X.env.scope.names X.N scope (vB X.N ix (zM tg)) ix=true:=by rfl)(hs:∀x,KH iter X.env x=pure x:=by intro _;rfl):XN X (.ListComp elt [⟨tg,iter,ifs,0⟩] scope pos) (kU ix G g C Fe):=AD hc (.of ok) tk hi hb hs
theorem Gy(hN:X.N.Nodup)(hc:X.calm=true)(tk:kK ix g)(hi:XI X tg iter G)(hb:mh X scope (vB X.N ix (zM tg)) tg elt ifs g C Fe)(hi':X.N[i]?=some y:=by rfl)(hx:Loc X.env.scope y:=by first|exact Or.inl rfl|exact Or.inr rfl)(ok:gS X.env.scope.names X.N scope (vB X.N ix (zM tg)) ix=true:=by rfl)(hsw:swapsWith (.ListComp elt [⟨tg,iter,ifs,0⟩] scope lpos) (some (.Name y py)) pos.line X.env=pure true:=by rfl)(hs:∀x,KH iter X.env x=pure x:=by intro _;rfl)(hf:X.fn y=true\/X.env.scope.names.lookup y=some .local:=by first|exact .inl rfl|exact .inr rfl|assumption):XS X (.Assign [.Name y py] (.ListComp elt [⟨tg,iter,ifs,0⟩] scope lpos) pos) (bb i (kU ix G g C Fe)):=AJ hN hi' hx hc (.of ok) tk hi hb hsw hs hf
theorem Gx(hN:X.N.Nodup)(hc:X.calm=true)(tk:kK ix g)(hi:XI X tg iter G)(hb:mh X scope (vB X.N ix (zM tg)) tg elt ifs g C Fe)(hi':X.N[i]?=some y:=by rfl)(hx:Loc X.env.scope y:=by first|exact Or.inl rfl|exact Or.inr rfl)(ok:gS X.env.scope.names X.N scope (vB X.N ix (zM tg)) ix=true:=by rfl)(hsw:swapsWith (.ListComp elt [⟨tg,iter,ifs,0⟩] scope lpos) (some (.Name y py)) pos.line X.env=pure true:=by rfl)(hs:∀x,KH iter X.env x=pure x:=by intro _;rfl)(hf:X.fn y=true\/X.env.scope.names.lookup y=some .local:=by first|exact .inl rfl|exact .inr rfl|assumption):XS X (.Assign [.Name y py] (.ListComp elt [⟨tg,iter,ifs,0⟩] scope lpos) pos) (iA i (kU ix G g C Fe)):=t7 hN hi' hx hc (.of ok) tk hi hb hsw hs hf
end
structure U where
 P:Kj
 w:Ki
 K:Jo
 mg:bj
 base:Kl
 cL:Ke
 T:Ke
noncomputable abbrev Ca(u:U)(k:Nat)(x:Str)(ps:ao)(g:bv):Prop:=Callee u.P u.w u.K u.mg u.base k x ps g
noncomputable abbrev CK(u:U)(k:Nat)(c m:Str)(ps:ao)(g:bv):Prop:=mU u.P u.w u.K u.mg u.base k c m ps g
noncomputable abbrev FY(u:U)(k:Nat)(m:Str)(ps:ao)(t:List (Str×(bv))):Prop:=sL u.P u.w u.K u.mg u.base k m ps t
noncomputable abbrev Ma(u:U)(k:Nat)(c m:Str)(ps:ao)(g:bv):Prop:=MethAt u.P u.w u.K u.mg u.base k c m ps g
noncomputable abbrev Ta(u:U)(k:Nat)(m:Str)(ps:ao)(t:List (Str×(bv))):Prop:=lz u.P u.w u.K u.mg u.base k m ps t
noncomputable def Df(u:U)(x:Str)(st:Kg):Prop:=∃f fd,oN u.K x x st f fd/\u.mg x=some (.ref f)
noncomputable def Dm(u:U)(c m qual:Str)(st:Kg):Prop:=∃C f fd,clsAt u.K c C/\me u.K C/\Meth u.K C m f/\oN u.K m qual st f fd
noncomputable def Bd(x qual:Str)(st:Kg)(ps:ao):Prop:=∀us:aP,us.length=ps.length->∀(kV doc pm:Kc)(an:Option Ke)(cdv ct:Kc),bindArgs (JE x qual (fQ st) (ca st) (aq st) .none kV doc pm an cdv ct) ⟨us,[]⟩=pure (ps.zip us)
theorem oN.bd{K:Jo}{x qual:Str}{st:Kg}{f:Ke}{fd:KU}{ps:ao}(F:oN K x qual st f fd)(h:Bd x qual st ps):Binds K fd ps []:=F.binds λkV doc pm an cdv ct us e=>h us e kV doc pm an cdv ct
section
variable{u:U}{x c m qual:Str}{st:Kg}{ps:ao}{k:Nat}{B:bu}
theorem Gh(M:ao)(d:Df u x st)(b:Bd x x st ps)(sc:bP (ps++M) ps (aq st))(h:(ps++M).Nodup->∀f,sI u.P u.w u.K u.mg u.base k (ps++M) x st f B):Ca u (k+1) x ps (aA B ps.length (ps++M).length):=by
 obtain⟨f,fd,F,e⟩:=d;exact uz F (oN.bd F b) e sc (h sc.nd f).ok
theorem Bi(d:Dm u c m qual st)(b:Bd m qual st ps):Ma u k c m ps λ_=>un:=by
 obtain⟨C,f,fd,h1,h2,h3,F⟩:=d;have no:∀vs H Q E,¬uN u.K ps.length (λ_=>un) vs H Q E:=λvs H Q E ⟨O,ds,_,_,_,e⟩=>e;exact⟨C,f,fd,h1,h2,h3,⟨λvs H Q E h=>absurd h (no vs H Q E),λA outer s H args us vs Q E _ _ _ _ h=>absurd h (no vs H Q E)⟩,oN.bd F b⟩
theorem Dx(M:ao)(d:Dm u c m qual st)(b:Bd m qual st ps)(sc:bP (ps++M) ps (aq st))(h:(ps++M).Nodup->∀f,sI u.P u.w u.K u.mg u.base k (ps++M) qual st f B):Ma u (k+1) c m ps (aA B ps.length (ps++M).length):=by
 obtain⟨C,f,fd,h1,h2,h3,F⟩:=d;exact tN h1 h2 h3 F (oN.bd F b) sc (h sc.nd f).ok
theorem BG(M:ao)(d:Dm u c m qual st)(b:Bd m qual st ps)(sc:bP (ps++M) ps (aq st))(h:(ps++M).Nodup->∀f,AC u.P u.w u.K u.mg u.base k (ps++M) qual st f B):CK u (k+1) c m ps (aA B ps.length (ps++M).length):=by
 obtain⟨C,f,fd,h1,h2,h3,F⟩:=d;exact wj h1 h2 h3 F (oN.bd F b) sc ⟨λcdv A outer s H E hr hp=>((h sc.nd f).h cdv A outer s H E hr hp).h⟩
theorem CU(d:Dm u c m qual st)(b:Bd m qual st ps):CK u k c m ps λ_=>un:=by
 obtain⟨C,f,fd,h1,h2,h3,F⟩:=d;have no:∀vs H Q E,¬Bv u.K ps.length (λ_=>un) vs H Q E:=λvs H Q E ⟨O,ds,_,_,_,e⟩=>e;exact⟨C,f,fd,h1,h2,h3,⟨λvs H Q E h=>absurd h (no vs H Q E),λA outer s H args us vs Q E _ _ _ _ h=>absurd h (no vs H Q E)⟩,oN.bd F b⟩
theorem GL(M:ao){f:Ke}{fd:KU}(F:oN u.K x x st f fd)(sc:bP (ps++M) ps (aq st))(h:(ps++M).Nodup->sI u.P u.w u.K u.mg u.base k (ps++M) x st f B):dJ u.P u.w u.K u.mg u.base (gu u.P u.w) (k+1) f fd ps (uN u.K ps.length (aA B ps.length (ps++M).length)):=n9 F sc (h sc.nd).ok
end
noncomputable def KD(K:Jo)(x:Str)(st:Kg):Prop:=∃f oc od kV dc pm an cd ct sl,JI K Kn x=some (some (.ref f))/\Lk K f x x st oc od kV dc pm an cd ct sl/\JF K cd x=true/\JB K (.ref f)=true
theorem KD.mk{K:Jo}{x:Str}{st:Kg}{f:Ke}{oc:Kc}{od:Option Ke}{kV dc pm:Kc}{an:Option Ke}{cd ct:Kc}{sl:Array (Option Kc)}(a:JI K Kn x=some (some (.ref f)))(l:Lk K f x x st oc od kV dc pm an cd ct sl)(c:JF K cd x=true)(k:JB K (.ref f)=true):KD K x st:=⟨f,oc,od,kV,dc,pm,an,cd,ct,sl,a,l,c,k⟩
noncomputable def KDs(K:Jo):List (Str×Kg)->Prop
 |[]=>True
 |p::r=>KD K p.1 p.2/\KDs K r
theorem KDs.mk{K:Jo}{x:Str}{st:Kg}{r:List (Str×Kg)}(h:KD K x st)(t:KDs K r):KDs K ((x,st)::r):=⟨h,t⟩
noncomputable def Fv(u:U)(Z:Prop):List (Str×Kg)->Prop
 |[]=>Z
 |p::r=>Fv u Z r/\Df u p.1 p.2
noncomputable def KZs(K:Jo):ao->Prop
 |[]=>True
 |x::r=>JI K Kn x=some none/\KZs K r
theorem KZs.mk{K:Jo}{x:Str}{r:ao}(h:JI K Kn x=some none)(t:KZs K r):KZs K (x::r):=⟨h,t⟩
noncomputable def Zs(u:U):ao->Prop
 |[]=>True
 |x::r=>Zs u r/\u.mg x=none
section
variable{u:U}{h:Kl}
theorem Fv.of{Z:Prop}(X:u.K.In h)(G:h.Ns Kn u.mg)(z:Z):∀{l:List (Str×Kg)},KDs u.K l->Fv u Z l
 |[],_=>z
 |_::_,h=>by
  obtain⟨⟨_,_,_,_,_,_,_,_,_,_,a,l,c,k⟩,r⟩:=h;exact⟨Fv.of X G z r,_,_,b6 l c k,JU X G a⟩
theorem Zs.of(X:u.K.In h)(G:h.Ns Kn u.mg):∀{l:ao},KZs u.K l->Zs u l
 |[],_=>trivial
 |_::_,⟨a,r⟩=>⟨Zs.of X G r,PySem.W.mg_none_of X G a⟩
end
theorem vq{us:aP}{n:Nat}(h:us.length=n+1):∃a r,us=a::r/\r.length=n:=by
 cases us with
 |nil=>cases h
 |cons a r=>exact⟨a,r,rfl,Nat.succ.inj h⟩
theorem CT{us:aP}(h:us.length=1):∃a,us=[a]:=List.length_eq_one_iff.mp h
theorem A7{us:aP}(h:us.length=2):∃a b,us=[a,b]:=by
 obtain⟨a,r,rfl,k⟩:=vq h;obtain⟨b,rfl⟩:=CT k;exact⟨a,b,rfl⟩
theorem xK{us:aP}(h:us.length=3):∃a b c,us=[a,b,c]:=by
 obtain⟨a,r,rfl,k⟩:=vq h;obtain⟨b,c,rfl⟩:=A7 k;exact⟨a,b,c,rfl⟩
theorem C9{us:aP}(h:us.length=4):∃a b c d,us=[a,b,c,d]:=by
 obtain⟨a,r,rfl,k⟩:=vq h;obtain⟨b,c,d,rfl⟩:=xK k;exact⟨a,b,c,d,rfl⟩
theorem Ec{us:aP}(h:us.length=5):∃a b c d e,us=[a,b,c,d,e]:=by
 obtain⟨a,r,rfl,k⟩:=vq h;obtain⟨b,c,d,e,rfl⟩:=C9 k;exact⟨a,b,c,d,e,rfl⟩
theorem DW{us:aP}(h:us.length=6):∃a b c d e f,us=[a,b,c,d,e,f]:=by
 obtain⟨a,r,rfl,k⟩:=vq h;obtain⟨b,c,d,e,f,rfl⟩:=Ec k;exact⟨a,b,c,d,e,f,rfl⟩
end TX
namespace TG
open L2
instance(priority:=low) noTabs:aj:=⟨λ_=>True,λ_ _=>trivial,λ_ _ _=>trivial⟩
open PySem PySem.Spec L2
theorem nr{α:Sort _}{a b:α}(h:a=b):a=b:=h
theorem bI{α β:Type}(a:α)(f:α->R β):Except.bind (Except.ok a:R α) f=f a:=nr rfl
theorem mL{α β:Type}(x:Option Ex)(f:α->R β):Except.bind (Except.error x:R α) f=.error x:=nr rfl
theorem lP{α:Type}(a:α)(k:Ks)(ρ:ai)(f:α->R D):kL (.ok a) k ρ f=f a:=nr rfl
theorem mW{α:Type}(x:Ex)(k:Ks)(ρ:ai)(f:α->R D):kL (.error (some x)) k ρ f=k.ex x ρ:=nr rfl
theorem ku{α:Type}(a:α):y9 (.ok a:R α)=.ok a:=nr rfl
theorem dk{α:Type}(a:α):rO (some a)=.ok a:=nr rfl
theorem ge_0(d:D)(ρ:ai):mx (some (.val d)::ρ) 0=.ok d:=rfl
theorem sX(x:Option S)(ρ:ai)(i:Nat):mx (x::ρ) (i+1)=mx ρ i:=rfl
theorem jS(i:Nat)(ρ:ai):ae i ρ=mx ρ i:=rfl
theorem t6(d:D)(ρ:ai):fC d ρ=.ok d:=rfl
theorem jW(ρ:ai):ah ρ=.ok []:=rfl
theorem iq(f:FX)(g:aH)(ρ:ai):aa f g ρ=(f ρ).bind λx=>(g ρ).bind λxs=>.ok (x::xs):=rfl
theorem jx(g:aH)(ρ:ai):bF g ρ=(g ρ).bind λxs=>rO (iF xs):=rfl
theorem jR(g:aH)(ρ:ai):gr g ρ=(g ρ).bind λxs=>rO (iE xs):=rfl
theorem t5(g:D->aV)(f:FX)(ρ:ai):f1 g f ρ=(f ρ).bind λa=>rO (g a):=rfl
theorem tY(g:D->D->aV)(f h:FX)(ρ:ai):f2 g f h ρ=(f ρ).bind λa=>(h ρ).bind λb=>rO (g a b):=rfl
theorem sQ(f:FX)(ρ:ai):fB f ρ=(f ρ).bind λd=>rO (Em d):=rfl
theorem sO(g:List D->aV)(f:aH)(ρ:ai):fL g f ρ=(f ρ).bind λds=>rO (g ds):=rfl
theorem tU(g:bv)(f:aH)(ρ:ai):fR g f ρ=(f ρ).bind g:=nr rfl
theorem jM(f:bq)(ρ:ai):fM f ρ=(f ρ).bind λb=>.ok (!b):=rfl
theorem jP(f g:bq)(ρ:ai):EJ f g ρ=(f ρ).bind λb=>if b then g ρ else .ok false:=rfl
theorem ni(f g:bq)(ρ:ai):qj f g ρ=(f ρ).bind λb=>if b then .ok true else g ρ:=rfl
theorem eR(f:FX)(ρ:ai):bA f ρ=(f ρ).bind λd=>rO (truth d):=rfl
theorem iu(f g:FX)(ρ:ai):nN f g ρ=(f ρ).bind λd=>qR d (g ρ):=rfl
theorem jK(f g:FX)(ρ:ai):Fq f g ρ=(f ρ).bind λd=>CA d (g ρ):=rfl
theorem iw(f:FX)(ρ:ai):C1 f ρ=(f ρ).bind λa=>rO (Ag a):=rfl
theorem nI(t:bq)(f g:FX)(ρ:ai):Gf t f g ρ=(t ρ).bind λc=>if c then f ρ else g ρ:=rfl
theorem jF(T:String)(f:FX)(ρ:ai):xU T f ρ=(f ρ).bind λa=>rO (Ad T a):=rfl
theorem jU(f:FX)(ρ:ai):D6 f ρ=(f ρ).bind λa=>.ok (.bl (isNon a)):=rfl
theorem hZ(f:FX)(ρ:ai):CZ f ρ=(f ρ).bind λa=>.ok (.bl (!isNon a)):=rfl
theorem jL(f:FX)(ρ:ai):v7 f ρ=(f ρ).bind λa=>rO (Ah a):=rfl
theorem fJ(f:FX)(ρ:ai):Bo f ρ=(f ρ).bind λa=>rO (xh a):=rfl
theorem jE(f:FX)(ρ:ai):Eh f ρ=(f ρ).bind λa=>rO (Bg a):=rfl
theorem fE(g g':D->D->aV)(fa fb fc:FX)(ρ:ai):Bn g g' fa fb fc ρ=(fa ρ).bind λx=>(fb ρ).bind λy=>(rO (g x y)).bind λz=>qR z ((fc ρ).bind λw=>rO (g' y w)):=rfl
theorem fj(f:FX)(ρ:ai):em f ρ=(f ρ).bind λd=>rO (lq d):=rfl
theorem ed(f:aH)(ρ:ai):eI f ρ=(f ρ).bind λds=>rO (kT ds):=rfl
theorem dZ(f:aH)(ρ:ai):yq f ρ=(f ρ).bind λds=>rO (rR ds):=rfl
theorem j5(f:aH)(ρ:ai):E8 f ρ=(f ρ).bind λds=>rO (Dh ds):=rfl
theorem h7(f:aH)(ρ:ai):fT f ρ=(f ρ).bind λds=>rO (mM ds):=rfl
theorem yL(f:FX)(g:aH)(ρ:ai):rm f g ρ=(f ρ).bind λa=>(rO (Ds a)).bind λz=>(g ρ).bind λds=>rO (nO z ds):=rfl
theorem iV(z:Str):Ds (.str z)=some z:=rfl
theorem dW(ρ:ai):iX ρ=.ok none:=rfl
theorem ia(f:FX)(ρ:ai):ce f ρ=(f ρ).bind λd=>rO (qC d):=rfl
theorem tT(f:FX)(l h s:ai->R bn)(ρ:ai):fS f l h s ρ=(f ρ).bind λa=>(l ρ).bind λlo=>(h ρ).bind λhi=>(s ρ).bind λst=>rO (kP a lo hi st):=rfl
theorem eT(f:FX)(l h:ai->R bn)(ρ:ai):gv f l h ρ=(f ρ).bind λa=>(l ρ).bind λlo=>(h ρ).bind λhi=>rO (lS a lo hi):=rfl
theorem gV(ρ:ai):gk ρ=.ok true:=rfl
theorem hJ(k:Ks)(ρ:ai):bR k ρ=k.nx ρ:=nr rfl
theorem gf(A B:bu)(k:Ks)(ρ:ai):aB A B k ρ=A {k with nx:=B k} ρ:=nr rfl
theorem ip(f:FX)(k:Ks)(ρ:ai):bw f k ρ=kL (f ρ) k ρ .ok:=nr rfl
theorem fA(k:Ks)(ρ:ai):Cw k ρ=.ok .non:=nr rfl
theorem jv(c:bq)(A B:bu)(k:Ks)(ρ:ai):kE c A B k ρ=kL (c ρ) k ρ λb=>if b then A k ρ else B k ρ:=nr rfl
theorem g7(i:Nat)(f:FX)(k:Ks)(ρ:ai):bb i f k ρ=kL (f ρ) k ρ λd=>k.nx (setV i d ρ):=nr rfl
theorem eW(is:List Nat)(F:bu)(k:Ks)(ρ:ai):du is F k ρ=F k (kill is ρ):=nr rfl
theorem fU(G:aH)(g:GF)(B:bu)(k:Ks)(ρ:ai):oC G g B k ρ=kL (G ρ) k ρ λds=>cq g B k ds ρ:=nr rfl
theorem tW(d:D)(x:Option S)(ρ:ai):setV 0 d (x::ρ)=some (.val d)::ρ:=rfl
theorem t3(i:Nat)(d:D)(x:Option S)(ρ:ai):setV (i+1) d (x::ρ)=x::setV i d ρ:=rfl
theorem kh(ρ:ai):kill [] ρ=ρ:=rfl
theorem gU(i:Nat)(is:List Nat)(ρ:ai):kill (i::is) ρ=kill is (ρ.set i none):=rfl
theorem oI(B:bu)(n:Nat)(a:D):aA B 1 n [a]=B K0 (env0 n [a]):=nr rfl
theorem dL(B:bu)(n:Nat)(a b:D):aA B 2 n [a,b]=B K0 (env0 n [a,b]):=nr rfl
theorem gG(B:bu)(n:Nat)(a b c:D):aA B 3 n [a,b,c]=B K0 (env0 n [a,b,c]):=nr rfl
theorem ql(B:bu)(n:Nat)(a b c d:D):aA B 4 n [a,b,c,d]=B K0 (env0 n [a,b,c,d]):=nr rfl
theorem jV(ρ:ai):inB [] ρ=[]:=rfl
theorem ic(ix:dF)(ρ:ai):inB (none::ix) ρ=none::inB ix ρ:=rfl
noncomputable def pick(ρ:ai)(i:Nat):Option S:=match ρ[i]? with
 |some (some (.val d))=>some (.val d)
 |_=>none
theorem gX(i:Nat)(ix:dF)(ρ:ai):inB (some i::ix) ρ=pick ρ i::inB ix ρ:=rfl
theorem uk(d:D)(ρ:ai):pick (some (.val d)::ρ) 0=some (.val d):=rfl
theorem tG(x:Option S)(ρ:ai)(i:Nat):pick (x::ρ) (i+1)=pick ρ i:=rfl
theorem ii(i:Nat)(f:FX)(k:Ks)(ρ:ai):iA i f k ρ=kL (f ρ) k ρ λd=>k.nx (ρ.set i (some (.own d))):=nr rfl
theorem hV(i:Nat)(F:bu)(k:Ks)(ρ:ai):oK i F k ρ=F k (frz i ρ):=nr rfl
theorem tL(d:D)(ρ:ai):frz 0 (some (.own d)::ρ)=some (.val d)::ρ:=rfl
theorem nJ(d:D)(ρ:ai):frz 0 (some (.val d)::ρ)=some (.val d)::ρ:=rfl
theorem uv(i:Nat)(x:Option S)(ρ:ai):frz (i+1) (x::ρ)=x::frz i ρ:=by
 unfold frz;rw[IH];split<;>rename_i h
 ·rw[h];rfl
 ·rfl
theorem wg(i:Nat)(u:List D->List D->Option (List D))(f:aH)(k:Ks)(ρ:ai){xs:List D}(h:ρ[i]?=some (some (.own (.lst xs)))):zD i u f k ρ=kL (f ρ) k ρ λds=>(rO (u xs ds)).bind λys=>k.nx (ρ.set i (some (.own (.lst ys)))):=by
 unfold zD;rw[h]
theorem qG{xs:List D}{y:D}(h:xs.length<100000):nX xs [y]=some (xs++[y]):=by
 show(if small (xs.length+1)then some (xs++[y])else none)=_;rw[cJ `o];rfl
theorem kd(i j:Int):bX (.int i) (.int j)=some (.int (i+j)):=nr rfl
theorem jC(i j:Int):TG.qm (.int i) (.int j)=some (.int (i-j)):=nr rfl
theorem mQ(i j:Int):G7 (.int i) (.int j)=some (.bl (decide (i<j))):=nr rfl
theorem jQ(i j:Int):pI (.int i) (.int j)=some (.bl (decide (i<j))):=nr rfl
theorem kg(x y:Str):pI (.str x) (.str y)=some (.bl (decide (x.cps.toList<y.cps.toList))):=nr rfl
theorem jB(c d:Bool):EG (.bl c) (.bl d)=some (.bl (c==d)):=nr rfl
theorem dX(c d:Bool):x4 (.bl c) (.bl d)=some (.bl (!(c==d))):=nr rfl
theorem mV(i j:Int):Gr (.int i) (.int j)=some (.bl (decide (i<=j))):=nr rfl
theorem nR(i j:Int):GY (.int i) (.int j)=some (.bl (decide (j<i))):=nr rfl
theorem mF(i j:Int):GB (.int i) (.int j)=some (.bl (decide (j<=i))):=nr rfl
theorem ke(i:Int):Ah (.int i)=some (.int (-i)):=nr rfl
theorem om{i j:Int}(h:0<j):dH (.int i) (.int j)=some (.int (i%j)):=by
 show(if decide (0<j)then some (D.int (i%j))else none)=_;rw[decide_eq_true h];rfl
theorem jD{i j:Int}(h:0<j)(h':j<10^200):fG (.int i) (.int j)=some (.int (i/j)):=by
 show(if decide (0<j/\j<10^200)then some (D.int (i/j))else none)=_;rw[decide_eq_true ⟨h,h'⟩];rfl
theorem ye{i j:Int}(h:-(2^64)<i)(h':i<2^64):oS (.int i) (.int j)=some (.int (i*j)):=by
 show(if decide ((-(2^64)<i/\i<2^64)\/(-(2^64)<j/\j<2^64))then some (D.int (i*j))else none)=_;rw[decide_eq_true (.inl ⟨h,h'⟩)];rfl
theorem xY{i j:Int}(h:-(2^64)<j)(h':j<2^64):oS (.int i) (.int j)=some (.int (i*j)):=by
 show(if decide ((-(2^64)<i/\i<2^64)\/(-(2^64)<j/\j<2^64))then some (D.int (i*j))else none)=_;rw[decide_eq_true (.inr ⟨h,h'⟩)];rfl
theorem oH(i:Int)(n:Nat)(h:n<=1000000)(h':i.natAbs<2^64):iz (.int i) (.int n)=some (.int (i^n)):=by
 show(if decide (0<=(n:Int)/\(n:Int)<=1000000/\i.natAbs<2^64)then some (D.int (i^(n:Int).toNat))else none)=_;rw[decide_eq_true ⟨by omega,by omega,h'⟩];rfl
theorem fq(i j:Int):uM (.int i) (.int j)=some (.bl (i==j)):=by unfold uM pyEq;rfl
theorem eY(i j:Str):uM (.str i) (.str j)=some (.bl (i==j)):=by unfold uM pyEq;rfl
theorem fz(i j:Bool):uM (.bl i) (.bl j)=some (.bl (i==j)):=by unfold uM pyEq;rfl
theorem fu(i j:Int):qJ (.int i) (.int j)=some (.bl (!(i==j))):=by unfold qJ pyEq;rfl
theorem fe(i j:Str):qJ (.str i) (.str j)=some (.bl (!(i==j))):=by unfold qJ pyEq;rfl
theorem eZ(i j:Bool):qJ (.bl i) (.bl j)=some (.bl (!(i==j))):=by unfold qJ pyEq;rfl
theorem tR{α:Type}(xs:List α)(n:Nat):jI xs (n:Int)=xs[n]?:=by
 unfold jI p6;rw[if_pos `o];by_cases h:n<xs.length
 ·rw[if_pos `o];rfl
 ·rw[if_neg `o,IW `o];rfl
theorem tE{α:Type}(a:α)(xs:List α):jI (a::xs) 0=some a:=tR (a::xs) 0
theorem tQ{α:Type}(a:α)(xs:List α)(n:Nat):jI (a::xs) ((n+1:Nat):Int)=jI xs (n:Int):=by
 rw[tR,tR,IH]
theorem Ew(xs:List D)(i:Int):aI (.tup xs) (.int i)=jI xs i:=nr rfl
theorem Cz(xs:List D)(i:Int):aI (.lst xs) (.int i)=jI xs i:=nr rfl
theorem m7(a:D)(xs:List D):aI (.tup (a::xs)) (.int 0)=some a:=tE a xs
theorem mR(a b:D)(xs:List D):aI (.tup (a::b::xs)) (.int 1)=some b:=(tQ a _ 0).trans (tE b xs)
theorem nG(a b c:D)(xs:List D):aI (.tup (a::b::c::xs)) (.int 2)=some c:=(tQ a _ 1).trans ((tQ b _ 0).trans (tE c xs))
theorem iL(a:D)(xs:List D):aI (.lst (a::xs)) (.int 0)=some a:=tE a xs
theorem iJ(a b:D)(xs:List D):aI (.lst (a::b::xs)) (.int 1)=some b:=(tQ a _ 0).trans (tE b xs)
theorem kr(a b c:D)(xs:List D):aI (.lst (a::b::c::xs)) (.int 2)=some c:=(tQ a _ 1).trans ((tQ b _ 0).trans (tE c xs))
theorem fh(xs:List D):og [.lst xs]=some (.int xs.length):=nr rfl
theorem eS(xs:List D):og [.tup xs]=some (.int xs.length):=nr rfl
theorem cN(xs:List D):gK [.lst xs]=some (.tup xs):=nr rfl
theorem cU(xs:List D):gK [.tup xs]=some (.tup xs):=nr rfl
theorem kc(b:Bool):Em (.bl b)=some b:=nr rfl
theorem dY(i:Int):qC (.int i)=some (some i):=nr rfl
theorem cS(b:Bool):truth (.bl b)=some b:=nr rfl
theorem cP(xs:List D):truth (.tup xs)=some (!xs.isEmpty):=nr rfl
theorem dh(xs:List D):truth (.lst xs)=some (!xs.isEmpty):=nr rfl
theorem jJ(i j:Int):BD [.int i,.int j]=some (.int (if j>i then j else i)):=nr rfl
theorem j4(i j:Int):CY [.int i,.int j]=some (.int (if j<i then j else i)):=nr rfl
theorem df(xs:List D):lq (.lst xs)=some xs:=nr rfl
theorem cV(xs:List D):lq (.tup xs)=some xs:=nr rfl
theorem fI(k:R D):qR (.bl true) k=k:=nr rfl
theorem fD(k:R D):qR (.bl false) k=.ok (.bl false):=nr rfl
theorem iy(k:R D):CA (.bl true) k=.ok (.bl true):=nr rfl
theorem gY(k:R D):CA (.bl false) k=k:=nr rfl
theorem eP(a b:Bool):qR (.bl a) (.ok (.bl b))=.ok (.bl (a&&b)):=by cases a<;>rfl
theorem ie(a b:Bool):CA (.bl a) (.ok (.bl b))=.ok (.bl (a||b)):=by cases a<;>rfl
theorem jw(b:Bool):Ag (.bl b)=some (.bl (!b)):=nr rfl
theorem jy(xs:List D):Bg (.lst xs)=some (.lst xs.reverse):=nr rfl
theorem jX(n:Nat)(h:n<2^62):kT [.int n]=some (cG 0 n):=by
 show(if okR (n:Int)then some (cG 0 ((n:Int).toNat))else none)=_
 have:okR (n:Int)=true:=decide_eq_true ⟨by omega,by omega⟩
 rw[this];rfl
theorem bN{xs:List D}(h:xs.length<=100000):iF xs=some (.tup xs):=by unfold iF;rw[cJ h];rfl
theorem nW{xs:List D}(h:xs.length<=100000):iE xs=some (.lst xs):=by unfold iE;rw[cJ h];rfl
theorem rN{α:Type}(f:α->D)(h:∀a,pl (f a)=true):∀xs:List α,kI (xs.map f)=true
 |[]=>rfl
 |x::xs=>by
  show(pl (f x)&&kI (xs.map f))=true;rw[h,rN f h xs];rfl
theorem yI(f:Str->D)(hf:f=D.str)(w:Str)(ws:ao):inD (.str w) (ws.map f)=ws.any λy=>y==w:=by
 subst hf;unfold inD;rw[IV];congr 1
theorem yN(w:Str)(ws:ao):Bz (.str w) (.tup (ws.map .str))=some (.bl (ws.contains w)):=by
 show(if(pl (.str w)&&kI (ws.map .str))&&cM 8 (.str w)then some (D.bl (inD (.str w) (ws.map .str)))else none)=_;rw[yI _ rfl,rN _ λ_=>rfl];show some (D.bl _)=_;congr 2
 induction ws with
 |nil=>rfl
 |cons x xs ih=>rw[HU,IK,ih,Bool.beq_comm]
theorem gI(xs ys:List D)(h:xs.length+ys.length<=100000):bX (.tup xs) (.tup ys)=some (.tup (xs++ys)):=by
 show(if small (xs.length+ys.length)then some (D.tup (xs++ys))else none)=_;rw[cJ h];rfl
theorem gW(xs:List D)(lo hi:bn):lS (.lst xs) lo hi=some (.lst (cutD xs lo hi)):=nr rfl
theorem g5(xs:List D)(lo hi:bn):lS (.tup xs) lo hi=some (.tup (cutD xs lo hi)):=nr rfl
theorem oy{ix:dF}{G:aH}{g:GF}{C:bq}{Fe:FX}{ρ:ai}{ds r:List D}(h1:G ρ=.ok ds)(h2:ds.length<=100000)(h3:vk (inB ix ρ) g C Fe ds=.ok r):kU ix G g C Fe ρ=.ok (.lst r):=by
 unfold kU;rw[h1,bI,cJ h2,h3];rfl
theorem lU{α:Type}{ρ:ai}{g:GF}{C:bq}{Fe:FX}(mk:α->D)(p:α->Bool)(v:α->D):∀xs:List α,(∀a∈xs,∃ρ1,g (mk a) ρ=some ρ1/\C ρ1=.ok (p a)/\Fe ρ1=.ok (v a))->
  vk ρ g C Fe (xs.map mk)=.ok ((xs.filter p).map v)
 |[],_=>rfl
 |a::xs,h=>by
  obtain⟨ρ1,h1,h2,h3⟩:=h a Hj;rw[Hx,pB,h1,dk,bI,h2,ku,bI,h3,ku,bI,lU mk p v xs λb hb=>h b (Hk _ hb)];cases e:p a with
  |true=>rw[if_pos rfl,List.filter_cons_of_pos e];rfl
  |false=>rw[if_neg Hv,List.filter_cons_of_neg (by simp[e])]
theorem rQ{α:Type}{ρ:ai}{g:GF}{C:bq}{Fe:FX}(mk:α->D)(v:α->D)(xs:List α)(h:∀a∈xs,∃ρ1,g (mk a) ρ=some ρ1/\C ρ1=.ok true/\Fe ρ1=.ok (v a)):vk ρ g C Fe (xs.map mk)=.ok (xs.map v):=by
 rw[lU mk (λ_=>true) v xs h,List.filter_eq_self.mpr λ_ _=>rfl]
theorem rF{g:GF}{B:bu}{k:Ks}(Iv:Nat->ai->Prop):∀(ds:List D)(i:Nat)(ρ:ai),(∀j d ρ (k':Ks),i<=j->ds[j-i]?=some d->Iv j ρ->∃ρ1 ρ2,g d ρ=some ρ1/\Iv (j+1) ρ2/\B k' ρ1=k'.nx ρ2)->Iv i ρ->∃ρ',Iv (i+ds.length) ρ'/\cq g B k ds ρ=k.nx ρ'
 |[],i,ρ,_,h=>⟨ρ,h,rfl⟩
 |d::ds,i,ρ,st,h=>by
  obtain⟨ρ1,ρ2,e1,h2,e2⟩:=st i d ρ ⟨cq g B k ds,k.nx,cq g B k ds,k.ex⟩ (Hs _) (by rw[IP];rfl) h;obtain⟨ρ',h3,e3⟩:=rF (g:=g) (B:=B) (k:=k) Iv ds (i+1) ρ2 (λj d' ρ k' hj hd=>st j d' ρ k' `o (by rw[show j-i=(j-(i+1))+1 by omega,IH];exact hd)) h2;refine⟨ρ',?_,?_⟩
  ·rw[Hw]
   have:i+(ds.length+1)=i+1+ds.length:=(by omega);rw[this];exact h3
  ·show((rO (g d ρ)).bind λρ1=>B ⟨cq g B k ds,k.nx,cq g B k ds,k.ex⟩ ρ1)=_;rw[e1,dk,bI,e2];exact e3
theorem kX{g:GF}{B:bu}{k:Ks}{ds:List D}{ρ:ai}{Q:R D->Prop}(Iv:Nat->ai->Prop)(st:∀i d ρ (k':Ks),ds[i]?=some d->Iv i ρ->∃ρ1 ρ2,g d ρ=some ρ1/\Iv (i+1) ρ2/\B k' ρ1=k'.nx ρ2)(h:Iv 0 ρ)(q:∀ρ',Iv ds.length ρ'->Q (k.nx ρ')):Q (cq g B k ds ρ):=by
 obtain⟨ρ',h1,e⟩:=rF (k:=k) Iv ds 0 ρ (λj d ρ k' _ hd=>st j d ρ k' hd) h;rw[e];rw[II]at h1;exact q ρ' h1
theorem fH{α:Type}{xs:List α}{i:Nat}{a:α}(h:xs[i]?=some a):i<xs.length:=by
 rcases Nat.lt_or_ge i xs.length with z|z
 ·exact z
 ·rw[IW z]at h;cases h
theorem xu{α β:Type}(f:α->β)(xs:List α)(i:Int):jI (xs.map f) i=(jI xs i).map f:=by
 unfold jI;rw[Hy];cases p6 xs.length i with
 |none=>rfl
 |some j=>simp
theorem pw{α:Type}{xs:List α}{k:Nat}(h:k<xs.length):jI xs (k:Int)=some xs[k]:=by
 unfold jI p6;rw[if_pos `o,if_pos `o];simp[h]
theorem xA{α:Type}{xs:List α}{i:Int}(h0:0<=i)(h:i<xs.length):jI xs i=some (xs[i.toNat]'`o):=by
 have e:i=((i.toNat:Nat):Int):=by omega
 conv=>lhs;rw[e]
 exact pw `o
noncomputable def BU:bu:=aB (kE (fB (f2 pI (ae 1) (fL og (aa (ae 0) ah)))) (bw (f2 aI (ae 0) (ae 1))) bR) (bw (fC (.int 0)))
theorem yM(ns:List Int)(k:Nat):aA BU 2 2 [.lst (ns.map .int),.int k]=.ok (.int (ns.getD k 0)):=by
 show(if decide ((k:Int)<((ns.map D.int).length:Int))then kL (rO (jI (ns.map D.int) (k:Int))) _ _ .ok else .ok (.int 0))=_;rw[Hy];by_cases h:k<ns.length
 ·rw[if_pos (by simpa using h),xu,pw h,IZ,Ja,Ii h];rfl
 ·rw[if_neg (by simpa using h),Ja,IW `o];rfl
theorem mD(lo:Int)(n:Nat):cG lo n=(List.range n).map λ(k:Nat)=>D.int (lo+(k:Int)):=nr rfl
theorem eE(lo:Int)(n:Nat):(cG lo n).length=n:=by unfold cG;rw[Hy,Ir]
theorem xJ{α β:Type}(f:α->β)(xs:List α)(lo hi:bn):cutD (xs.map f) lo hi=(cutD xs lo hi).map f:=by
 unfold cutD;rw[Hy,<-List.map_drop,<-List.map_take]
theorem lI:∀ys:ao,js (ys.map .str)=some ys
 |[]=>rfl
 |y::ys=>by
  show(js (ys.map .str)).bind (λzs=>some (y::zs))=_;rw[lI ys];rfl
theorem wf(n:Nat):∀ws:ao,(∀w∈ws,w.length<=n)->(ws.map (λy=>y.length)).sum<=ws.length*n
 |[],_=>by simp
 |w::ws,h=>by
  have:=wf n ws λw' h'=>h w' (Hk _ h')
  have h1:=h w Hj;rw[Hx,List.sum_cons,Hw,Nat.succ_mul];omega
theorem Bh{α:Type}(xs:List α)(m:Nat):cutD xs none (some (m:Int))=xs.take m:=by
 unfold cutD;rw[HT.BI,HT.DL,Ic,Iu];rcases Nat.le_total m xs.length with h|h
 ·rw[Nat.min_eq_left h]
 ·rw[Nat.min_eq_right h,Jb h,Jb (Hs _)]
theorem uT{α:Type}(xs:List α)(m:Nat):cutD xs (some (m:Int)) none=xs.drop m:=by
 unfold cutD;rw[HT.BI,HT.DL];rcases Nat.le_total m xs.length with h|h
 ·rw[Nat.min_eq_left h];exact Jb (by rw[HL];exact Hs _)
 ·rw[Nat.min_eq_right h,IP,Ia,List.drop_eq_nil_of_le h]
theorem Cg(g:GF)(B:bu)(k:Ks)(d:D)(ds:List D)(ρ:ai):cq g B k (d::ds) ρ=(rO (g d ρ)).bind λρ1=>B ⟨cq g B k ds,k.nx,cq g B k ds,k.ex⟩ ρ1:=nr rfl
theorem CM(g:GF)(B:bu)(k:Ks)(ρ:ai):cq g B k [] ρ=k.nx ρ:=nr rfl
local macro_rules
 |`(tactic| simp! only[$xs,*])=>`(tactic| simp only[bI,mL,lP,mW,ku,dk,ge_0,sX,jS,t6,jW,iq,jx,jR,t5,tY,sQ,sO,tU,jM,jP,ni,eR,iu,jK,iw,nI,jF,jU,hZ,jL,fJ,jE,fE,fj,ed,dZ,j5,h7,dW,ia,eT,gV,hJ,gf,ip,fA,jv,g7,eW,fU,ii,hV,tL,nJ,uv,tW,t3,kh,gU,jV,ic,gX,uk,tG,Jc,Jd,Hx,HR,HZ,Io,K0,env0,List.replicate,IQ,HB,II,Nat.reduceAdd,Nat.reduceSub,Hw,HV,kd,jC,mQ,jQ,kg,jB,dX,iV,mV,nR,mF,ke,fq,eY,fz,fu,fe,eZ,m7,mR,nG,iL,iJ,kr,fh,eS,cN,cU,kc,dY,cS,cP,dh,jJ,j4,df,cV,fI,fD,iy,gY,eP,ie,jw,jy,gW,g5,gN,if_true,if_false,Je,Jf,HY,$xs,*])
theorem FU(a b c:D):iF [a,b,c]=some (.tup [a,b,c]):=nr rfl
theorem By(a b:D):iF [a,b]=some (.tup [a,b]):=nr rfl
theorem DJ(a:D):iF [a]=some (.tup [a]):=nr rfl
theorem De:iF []=some (.tup []):=nr rfl
theorem FZ(a b:D):iE [a,b]=some (.lst [a,b]):=nr rfl
theorem Dk:iE []=some (.lst []):=nr rfl
inductive F2{α β:Type}(R:α->β->Prop):List α->List β->Prop where
 |nil:F2 R [] []
 |cons {a:α} {b:β} {as:List α} {bs:List β} (h:R a b) (t:F2 R as bs):F2 R (a::as) (b::bs)
end TG
namespace TD
open PySem PySem.Spec L2 TG TX
noncomputable def au:bu:=aB (kE (fB (f2 pI (ae 1) (fL og (aa (ae 0) ah)))) (bw (f2 aI (ae 0) (ae 1))) bR) (bw (fC (.int 0)))
noncomputable def dg:bu:=bw (fL gK (aa (kU [none] (em (f2 bX (f2 aI (ae 0) (fC (.int 0))) (f2 aI (ae 0) (fC (.int 1))))) (gN 0) gk (f2 aI (ae 0) (fC (.int 0)))) ah))
noncomputable def cT:bu:=bw (f2 bX (f2 bX (gv (ae 0) iX (ce (ae 1))) (ae 2)) (gv (ae 0) (ce (f2 bX (ae 1) (fC (.int 1)))) iX))
noncomputable def gw:bu:=bw (f2 pI (ae 1) (fL og (aa (f2 aI (ae 0) (fC (.int 0))) ah)))
noncomputable def cn:bu:=aB (kE (bA (fR (aA gw 2 2) (aa (ae 0) (aa (ae 1) ah)))) (bw (bF (aa (fR (aA cT 3 3) (aa (f2 aI (ae 0) (fC (.int 0))) (aa (ae 1) (aa (ae 2) ah)))) (aa (f2 aI (ae 0) (fC (.int 1))) ah)))) bR) (bw (bF (aa (f2 aI (ae 0) (fC (.int 0))) (aa (fR (aA cT 3 3) (aa (f2 aI (ae 0) (fC (.int 1))) (aa (f2 qm (ae 1) (fL og (aa (f2 aI (ae 0) (fC (.int 0))) ah))) (aa (ae 2) ah)))) ah))))
noncomputable def eV:bu:=bw (f2 aI (f2 aI (f2 bX (f2 aI (ae 0) (fC (.int 0))) (f2 aI (ae 0) (fC (.int 1)))) (ae 1)) (fC (.int 1)))
end TD
namespace TD
open PySem PySem.Spec L2 TG
local macro_rules
 |`(tactic| simp! only[$xs,*])=>`(tactic| simp only[bI,mL,lP,mW,ku,dk,ge_0,sX,jS,t6,jW,iq,jx,jR,t5,tY,sQ,sO,tU,jM,jP,ni,eR,iu,jK,iw,nI,jF,jU,hZ,jL,fJ,jE,fE,fj,ed,dZ,j5,h7,dW,ia,eT,gV,hJ,gf,ip,fA,jv,g7,eW,fU,ii,hV,tL,nJ,uv,tW,t3,kh,gU,jV,ic,gX,uk,tG,Jc,Jd,Hx,HR,HZ,Io,K0,env0,List.replicate,IQ,HB,II,Nat.reduceAdd,Nat.reduceSub,Hw,HV,kd,jC,mQ,jQ,kg,jB,dX,iV,mV,nR,mF,ke,fq,eY,fz,fu,fe,eZ,m7,mR,nG,iL,iJ,kr,fh,eS,cN,cU,kc,dY,cS,cP,dh,jJ,j4,df,cV,fI,fD,iy,gY,eP,ie,jw,jy,gW,g5,gN,if_true,if_false,Je,Jf,HY,$xs,*])
local macro_rules
 |`(tactic| simp! only[$xs,*])=>`(tactic| simp only[bI,mL,lP,mW,ku,dk,ge_0,sX,jS,t6,jW,iq,jx,jR,t5,tY,sQ,sO,tU,jM,jP,ni,eR,iu,jK,iw,nI,jF,jU,hZ,jL,fJ,jE,fE,fj,ed,dZ,j5,h7,dW,ia,eT,gV,hJ,gf,ip,fA,jv,g7,eW,fU,ii,hV,tL,nJ,uv,tW,t3,kh,gU,jV,ic,gX,uk,tG,Jc,Jd,Hx,HR,HZ,Io,K0,env0,List.replicate,IQ,HB,II,Nat.reduceAdd,Nat.reduceSub,Hw,HV,kd,jC,mQ,jQ,kg,jB,dX,iV,mV,nR,mF,ke,fq,eY,fz,fu,fe,eZ,m7,mR,nG,iL,iJ,kr,fh,eS,cN,cU,kc,dY,cS,cP,dh,jJ,j4,df,cV,fI,fD,iy,gY,eP,ie,jw,jy,gW,g5,gN,if_true,if_false,Je,Jf,HY,$xs,*])
theorem nc{g:GF}{B:bu}{k:Ks}{Q:R D->Prop}(Iv:Nat->ai->Prop):∀(ds:List D)(o i:Nat)(ρ:ai)(d:D),ds[i]?=some d->(∀j d ρ (k':Ks),j<i->ds[j]?=some d->Iv (o+j) ρ->∃ρ1 ρ2,g d ρ=some ρ1/\Iv (o+j+1) ρ2/\B k' ρ1=k'.nx ρ2)->Iv o ρ->
  (∀ρ (k':Ks),Iv (o+i) ρ->∃ρ1,g d ρ=some ρ1/\Q (B k' ρ1))->Q (cq g B k ds ρ)
 |[],_,_,_,_,h,_,_,_=>nomatch h
 |x::ds,o,0,ρ,d,h,_,hI,q=>by
  cases h;obtain⟨ρ1,e1,q1⟩:=q ρ ⟨cq g B k ds,k.nx,cq g B k ds,k.ex⟩ hI;show Q ((rO (g x ρ)).bind λρ1=>B ⟨cq g B k ds,k.nx,cq g B k ds,k.ex⟩ ρ1);rw[e1,dk,bI];exact q1
 |x::ds,o,i+1,ρ,d,h,st,hI,q=>by
  obtain⟨ρ1,ρ2,e1,h2,e2⟩:=st 0 x ρ ⟨cq g B k ds,k.nx,cq g B k ds,k.ex⟩ `o rfl hI;show Q ((rO (g x ρ)).bind λρ1=>B ⟨cq g B k ds,k.nx,cq g B k ds,k.ex⟩ ρ1);rw[e1,dk,bI,e2];refine nc Iv ds (o+1) i ρ2 d (by rw[IH]at h;exact h) (λj d' ρ' k' hj hd hI'=>?_) h2 (λρ' k' hI'=>q ρ' k' (by rw[show o+(i+1)=o+1+i by omega];exact hI'));obtain⟨a,b,c1,c2,c3⟩:=st (j+1) d' ρ' k' `o (by rw[IH];exact hd) (by rw[show o+(j+1)=o+1+j by omega];exact hI');exact⟨a,b,c1,by rw[show o+1+j+1=o+(j+1)+1 by omega];exact c2,c3⟩
noncomputable abbrev fld(p:Str×D):D:=.tup [.str p.1,p.2]
theorem lO(kf rf:List D)(ps:List (Str×D))(hl:ps.length<=100)(e:kf++rf=ps.map fld):aA dg 1 1 [.tup [.tup kf,.tup rf]]=.ok (.tup (ps.map λp=>.str p.1)):=by
 have hl':kf.length+rf.length<=100:=by have:=congrArg List.length e;rw[HJ,Hy]at this;omega
 have f0:kU [none] (em (f2 bX (f2 aI (ae 0) (fC (.int 0))) (f2 aI (ae 0) (fC (.int 1))))) (gN 0) gk (f2 aI (ae 0) (fC (.int 0))) [some (.val (.tup [.tup kf,.tup rf]))]=.ok (.lst (ps.map λp=>.str p.1)):=by
  refine oy (ds:=ps.map fld) ?_ (by rw[Hy];omega) ?_
  ·simp! only[];rw[gI _ _ `o,e];simp! only[]
  ·refine rQ _ _ ps λp _=>⟨_,rfl,rfl,?_⟩
   simp! only[]
 rw[oI];unfold dg;simp! only[f0]
theorem sZ(xs:List D):mM [.tup xs]=some (eh 0 xs):=nr rfl
theorem lE:∀(xs:List D)(k i:Nat),(eh k xs)[i]?=(xs[i]?).map λx=>.tup [.int ((k+i:Nat):Int),x]
 |[],k,i=>by simp[eh]
 |x::xs,k,0=>by simp[eh]
 |x::xs,k,i+1=>by
  rw[eh,IH,lE xs (k+1) i,IH];congr 1;funext y;rw[show k+1+i=k+(i+1)by omega]
theorem ur(kf rf:List D)(ps:List (Str×D))(hl:ps.length<=100)(e:kf++rf=ps.map fld)(i:Nat)(nm:Str)(k:D)(hi:ps[i]?=some (nm,k)):aA eV 2 2 [.tup [.tup kf,.tup rf],.int i]=.ok k:=by
 have hl':kf.length+rf.length<=100:=by have:=congrArg List.length e;rw[HJ,Hy]at this;omega
 have g:aI (.tup (ps.map fld)) (.int (i:Int))=some (.tup [.str nm,k]):=by
  rw[Ew,tR,HH,hi];rfl
 rw[dL];unfold eV;simp! only[gI kf rf `o,e,g]
theorem lQ(kf rf:List D)(i:Nat):aA gw 2 2 [.tup [.tup kf,.tup rf],.int i]=.ok (.bl (decide (i<kf.length))):=by
 rw[dL];unfold gw
 have:decide ((i:Int)<(kf.length:Int))=decide (i<kf.length):=by
  by_cases h:i<kf.length
  ·rw[decide_eq_true h,decide_eq_true `o]
  ·rw[decide_eq_false h,decide_eq_false `o]
 simp! only[this]
theorem m8(vs os:List D)(i:Nat)(h:vs.length+os.length<=10000):aA cT 3 3 [.tup vs,.int i,.tup os]=.ok (.tup (vs.take i++os++vs.drop (i+1))):=by
 have l1:(vs.take i).length<=vs.length:=by rw[HD];omega
 have l2:(vs.drop (i+1)).length<=vs.length:=by rw[HL];omega
 have c:((i:Int)+1)=((i+1:Nat):Int):=by omega
 have a1:=gI (vs.take i) os `o;have a2:=gI (vs.take i++os) (vs.drop (i+1)) (by rw[HJ];omega);rw[gG];unfold cT;simp! only[c,Bh,uT,a1,a2]
theorem sW(kf rf os:List D)(i:Nat)(h:kf.length+rf.length+os.length<=10000):aA cn 3 3 [.tup [.tup kf,.tup rf],.int i,.tup os]=.ok (if i<kf.length then .tup [.tup (kf.take i++os++kf.drop (i+1)),.tup rf]else .tup [.tup kf,.tup (rf.take (i-kf.length)++os++rf.drop (i-kf.length+1))]):=by
 rw[gG];unfold cn;by_cases hi:i<kf.length
 ·rw[if_pos hi];simp! only[lQ,decide_eq_true hi,m8 kf os i `o,By]
 ·rw[if_neg hi];have c:((i:Int)-(kf.length:Int))=((i-kf.length:Nat):Int):=by omega
  simp! only[lQ,decide_eq_false hi,c,m8 rf os (i-kf.length) `o,By]
end TD
namespace T4
open PySem PySem.Spec L2 TG TD
local macro_rules
 |`(tactic| simp! only[$xs,*])=>`(tactic| simp only[bI,mL,lP,mW,ku,dk,ge_0,sX,jS,t6,jW,iq,jx,jR,t5,tY,sQ,sO,tU,jM,jP,ni,eR,iu,jK,iw,nI,jF,jU,hZ,jL,fJ,jE,fE,fj,ed,dZ,j5,h7,dW,ia,eT,gV,hJ,gf,ip,fA,jv,g7,eW,fU,ii,hV,tL,nJ,uv,tW,t3,kh,gU,jV,ic,gX,uk,tG,Jc,Jd,Hx,HR,HZ,Io,K0,env0,List.replicate,IQ,HB,II,Nat.reduceAdd,Nat.reduceSub,Hw,HV,kd,jC,mQ,jQ,kg,jB,dX,iV,mV,nR,mF,ke,fq,eY,fz,fu,fe,eZ,m7,mR,nG,iL,iJ,kr,fh,eS,cN,cU,kc,dY,cS,cP,dh,jJ,j4,df,cV,fI,fD,iy,gY,eP,ie,jw,jy,gW,g5,gN,if_true,if_false,Je,Jf,HY,$xs,*])
theorem hX{i:Nat}{fk fv:FX}{k:Ks}{ρ:ai}{al:List (Key×D)}{q:Key}{d v:D}(h:ρ[i]?=some (some (.own (af al))))(ek:fk ρ=.ok d)(hd:d=bK q)(ev:fv ρ=.ok v)(hl:al.length<=1000):
  dN i fk fv k ρ=k.nx (ρ.set i (some (.own (af (bG al q v))))):=by
 subst hd;have e:ky (bY al) (al.map (·.2)) (bK q) v=some (bG al q v):=by
  unfold ky;rw[cO];show(keyOf (bK q)).bind _=_;rw[fO];show(if small al.length then _ else _)=_;rw[cJ `o];rfl
 unfold dN;rw[h];show kL ((fv ρ).bind λv=>(fk ρ).bind λq=>rO (ky (bY al) (al.map (·.2)) q v)) k ρ _=_;rw[ev,bI,ek,bI,e];rfl
theorem z8(B:bu)(n:Nat)(a b c d e f:D):aA B 6 n [a,b,c,d,e,f]=B K0 (env0 n [a,b,c,d,e,f]):=nr rfl
noncomputable abbrev fm(ps qs:List (Str×D)):D:=.tup [.tup (ps.map fld),.tup (qs.map fld)]
local macro_rules
 |`(tactic| simp! only[$xs,*])=>`(tactic| simp only[bI,mL,lP,mW,ku,dk,ge_0,sX,jS,t6,jW,iq,jx,jR,t5,tY,sQ,sO,tU,jM,jP,ni,eR,iu,jK,iw,nI,jF,jU,hZ,jL,fJ,jE,fE,fj,ed,dZ,j5,h7,dW,ia,eT,gV,hJ,gf,ip,fA,jv,g7,eW,fU,ii,hV,tL,nJ,uv,tW,t3,kh,gU,jV,ic,gX,uk,tG,Jc,Jd,Hx,HR,HZ,Io,K0,env0,List.replicate,IQ,HB,II,Nat.reduceAdd,Nat.reduceSub,Hw,HV,kd,jC,mQ,jQ,kg,jB,dX,iV,mV,nR,mF,ke,fq,eY,fz,fu,fe,eZ,m7,mR,nG,iL,iJ,kr,fh,eS,cN,cU,kc,dY,cS,cP,dh,jJ,j4,df,cV,fI,fD,iy,gY,eP,ie,jw,jy,gW,g5,gN,if_true,if_false,Je,Jf,HY,$xs,*])
noncomputable def stp(b:Int):Int:=([1,5,7,11,13,23]:List Int).getD (b%6).toNat 0
noncomputable def kk(b k:Int):Int:=(k*stp b+b/6)%24
section
open Classical
variable(m:Nat)
noncomputable def GJ(acc:List (List D))(r:List D):List (List D):=if r.take m∈acc then acc else acc++[r.take m]
noncomputable def fs(t:List (List D)):List (List D):=t.foldl (GJ m) []
noncomputable def gp(t:List (List D))(f:List D):List (List D):=(t.filter λr=>decide (r.take m=f)).map (List.drop m)
noncomputable def flat(t:List (List D)):List (List D):=(fs m t).flatMap λf=>(gp m t f).map (f++·)
end
end T4
namespace Tk60
open PySem PySem.Spec L2 TG TX TD
noncomputable def top(i:Nat):Kg:=PySem.Challenge.pw_twoglass_k60_leaves_and_steps_over.main.body.getD i (.Pass ⟨0,0,0,0⟩)
noncomputable abbrev gj:Kg:=inClass (top 9) 0
theorem kj:bP ["self","name"] ["self","name"] (aq gj):=⟨rfl,rfl,rfl,by decide +kernel,rfl,by decide +kernel,by decide +kernel⟩
noncomputable abbrev gh:Kg:=inClass (top 10) 0
theorem jZ:bP ["self","glass","step"] ["self","glass","step"] (aq gh):=⟨rfl,rfl,rfl,by decide +kernel,rfl,by decide +kernel,by decide +kernel⟩
noncomputable abbrev eG:Kg:=inClass (top 22) 0
theorem iR:bP ["self","old","new"] ["self","old","new"] (aq eG):=⟨rfl,rfl,rfl,by decide +kernel,rfl,by decide +kernel,by decide +kernel⟩
noncomputable def bg:bu:=aB (kE (fB (f2 dS (f1 (bZ "name" ["Leaf"]) (ae 0)) (ae 1))) (iO "NoTable" (aa (fC (.str "no table has this name")) ah)) bR) (bw (f2 dM (ae 1) (f1 (bZ "name" ["Leaf"]) (ae 0))))
noncomputable def eD:bu:=aB (oC (fT (aa (fR (aA dg 1 1) (aa (ae 0) ah)) ah)) (gT 2 (pZ [2,3])) (aB (kE (fB (f2 uM (ae 3) (ae 1))) (bw (ae 2)) bR) (du [2,3] bR))) (iO "NoField" (aa (fC (.str "no field has this name")) ah))
noncomputable def ak:bu:=aB (bb 2 (fR (aA eD 2 4) (aa (ae 1) (aa (f1 (bZ "old" ["Rename"]) (ae 0)) ah)))) (aB (kE (fB (f2 Bz (f1 (bZ "new" ["Rename"]) (ae 0)) (fR (aA dg 1 1) (aa (ae 1) ah)))) (iO "Twice" (aa (fC (.str "there is a field of the new name")) ah)) bR) (bw (fR (aA cn 3 3) (aa (ae 1) (aa (ae 2) (aa (bF (aa (bF (aa (f1 (bZ "new" ["Rename"]) (ae 0)) (aa (fR (aA eV 2 2) (aa (ae 1) (aa (ae 2) ah))) ah))) ah)) ah))))))
noncomputable def dC(aG:bv):bu:=bw (bi "view_form" [("Rename",(aA ak 2 3))] (f1 (bZ "step" ["Over"]) (ae 0)) (aa (bi "form" [("Leaf",(aA bg 2 2)),("Over",aG)] (f1 (bZ "glass" ["Over"]) (ae 0)) (aa (ae 1) ah)) ah))
noncomputable def aG:Nat->bv
 |0=>λ_=>un
 |n+1=>aA (dC (aG n)) 2 2
theorem cj(n:Nat):aG (n+1)=aA (dC (aG n)) 2 2:=by rw[aG]
theorem gO:∀n:Nat,Ar 2 (aG n)
 |0=>λ_ h=>absurd (by rw[aG]) h
 |n+1=>by rw[cj];exact gM
noncomputable def bS:bu:=aB (bb 2 (fC (.bl false))) (aB (w6 ["NoTable","NoField","Twice"] 3 (rM (bi "form" [("Leaf",(aA bg 2 2)),("Over",(aG 12))] (ae 0) (aa (ae 1) ah))) (aB (bb 2 (nN (f1 (dr [("NoTable",true),("NoField",false),("Twice",false)]) (ae 3)) (f1 (dr [("NoTable",true),("NoField",true),("Twice",true)]) (ae 3)))) (kE (qj (bA (f1 (dr [("NoTable",false),("NoField",true),("Twice",false)]) (ae 3))) (qj (bA (f1 (dr [("NoTable",false),("NoField",false),("Twice",false)]) (ae 3))) (bA (f1 (dr [("NoTable",false),("NoField",false),("Twice",true)]) (ae 3))))) (bb 2 (fC (.bl false))) bR))) (bw (ae 2)))
noncomputable def av:bu:=aB (bb 2 (fC (.str "abcdefghijklmnopqrstuvwxyz"))) (aB (bb 3 (f2 bX (fC (.int 1)) (f2 dH (ae 0) (fC (.int 8))))) (aB (bb 4 (f2 dH (f2 fG (ae 0) (fC (.int 8))) (ae 3))) (aB (iA 5 (kU [none,some 2,some 0] (eI (aa (ae 3) ah)) (gN 0) gk (f2 aI (ae 1) (f2 dH (f2 fG (ae 2) (f2 bX (fC (.int 64)) (f2 oS (f2 oS (fC (.int 7)) (ae 0)) (ae 0)))) (fC (.int 26)))))) (aB (lM 5 (ae 4) (f2 aI (ae 2) (f2 dH (f2 bX (f2 fG (ae 0) (fC (.int 64))) (ae 1)) (fC (.int 26))))) (oK 5 (bw (rm (fC (.str "")) (aa (ae 5) ah))))))))
noncomputable def bW:bu:=aB (iA 4 (fL fX (aa (ae 2) ah))) (aB (dN 4 (f1 (bZ "name" ["Leaf"]) (ae 0)) (ae 3)) (rG 4))
noncomputable def cf:bu:=bw (ae 3)
noncomputable def bE:bu:=bw (bF (aa (f2 dM (ae 1) (f1 (bZ "name" ["Leaf"]) (ae 0))) (aa (f2 dM (ae 2) (f1 (bZ "name" ["Leaf"]) (ae 0))) ah)))
noncomputable def cx:bu:=bw (ae 2)
noncomputable def eJ(aM:bv):bu:=aB (bb 3 (bi "seen" [("Leaf",(aA bE 3 3)),("Over",aM)] (f1 (bZ "glass" ["Over"]) (ae 0)) (aa (ae 1) (aa (ae 2) ah)))) (bw (bF (aa (bi "view_form" [("Rename",(aA ak 2 3))] (f1 (bZ "step" ["Over"]) (ae 0)) (aa (f2 aI (ae 3) (fC (.int 0))) ah)) (aa (bi "got" [("Rename",(aA cx 3 3))] (f1 (bZ "step" ["Over"]) (ae 0)) (aa (f2 aI (ae 3) (fC (.int 0))) (aa (f2 aI (ae 3) (fC (.int 1))) ah))) ah))))
noncomputable def aM:Nat->bv
 |0=>λ_=>un
 |n+1=>aA (eJ (aM n)) 3 4
theorem cW(n:Nat):aM (n+1)=aA (eJ (aM n)) 3 4:=by rw[aM]
theorem gB:∀n:Nat,Ar 3 (aM n)
 |0=>λ_ h=>absurd (by rw[aM]) h
 |n+1=>by rw[cW];exact gM
noncomputable def fY(aU:bv):bu:=aB (bb 4 (bi "seen" [("Leaf",(aA bE 3 3)),("Over",(aM 12))] (f1 (bZ "glass" ["Over"]) (ae 0)) (aa (ae 1) (aa (ae 2) ah)))) (bw (fV "put" [("Leaf",(aA bW 4 5)),("Over",aU)] (f1 (bZ "glass" ["Over"]) (ae 0)) (aa (ae 1) (aa (ae 2) (aa (bi "put" [("Rename",(aA cf 4 4))] (f1 (bZ "step" ["Over"]) (ae 0)) (aa (f2 aI (ae 4) (fC (.int 0))) (aa (f2 aI (ae 4) (fC (.int 1))) (aa (ae 3) ah)))) ah)))))
noncomputable def aU:Nat->bv
 |0=>λ_=>un
 |n+1=>aA (fY (aU n)) 4 5
theorem dG(n:Nat):aU (n+1)=aA (fY (aU n)) 4 5:=by rw[aU]
theorem iC:∀n:Nat,Ar 4 (aU n)
 |0=>λ_ h=>absurd (by rw[aU]) h
 |n+1=>by rw[dG];exact gM
noncomputable def cE:bu:=iO "NoTable" (aa (fC (.str "a glass by itself has no table")) ah)
noncomputable def aY:bu:=bw (f2 aI (bi "seen" [("Glass",(aA cE 3 3)),("Leaf",(aA bE 3 3)),("Over",(aM 12))] (ae 0) (aa (ae 1) (aa (ae 2) ah))) (fC (.int 1)))
noncomputable def bx:bu:=bw (bF (aa (f1 (bZ "name" ["Leaf"]) (ae 0)) ah))
noncomputable def dU(aJ:bv):bu:=bw (bi "names" [("Leaf",(aA bx 1 1)),("Over",aJ)] (f1 (bZ "glass" ["Over"]) (ae 0)) ah)
noncomputable def aJ:Nat->bv
 |0=>λ_=>un
 |n+1=>aA (dU (aJ n)) 1 1
theorem cI(n:Nat):aJ (n+1)=aA (dU (aJ n)) 1 1:=by rw[aJ]
theorem gi:∀n:Nat,Ar 1 (aJ n)
 |0=>λ_ h=>absurd (by rw[aJ]) h
 |n+1=>by rw[cI];exact gM
noncomputable def aN:bu:=aB (bb 6 (gr (aa (fL fX (aa (ae 1) ah)) (aa (fL fX (aa (ae 2) ah)) ah)))) (aB (kE (qj (fM (bA (f1 (pR ["Glass","Leaf","Over"]) (ae 0)))) (qj (fB (f2 qJ (bi "names" [("Leaf",(aA bx 1 1)),("Over",(aJ 12))] (ae 0) ah) (bF (aa (ae 3) ah)))) (fB (f2 qJ (bi "form" [("Leaf",(aA bg 2 2)),("Over",(aG 12))] (ae 0) (aa (ae 1) ah)) (ae 4))))) (bw (fC (.bl false))) bR) (aB (bb 7 (bi "got" [("Leaf",(aA aY 3 3)),("Over",(aA aY 3 3))] (ae 0) (aa (ae 1) (aa (ae 2) ah)))) (aB (kE (qj (fM (bA (xU "tuple" (ae 7)))) (fB (f2 qJ (ae 7) (f2 dM (ae 2) (ae 3))))) (bw (fC (.bl false))) bR) (aB (iA 8 (fV "put" [("Leaf",(aA bW 4 5)),("Over",(aU 12))] (ae 0) (aa (ae 1) (aa (ae 2) (aa (ae 5) ah))))) (aB (iA 9 (fL fX (aa (ae 2) ah))) (aB (dN 9 (ae 3) (ae 5)) (oK 9 (aB (kE (lX [8] (qj (fM (bA (f1 iU (ae 8)))) (qj (fB (f2 oQ (ae 8) (ae 9))) (fB (f2 oU (gr (aa (ae 1) (aa (ae 2) ah))) (ae 6)))))) (bw (fC (.bl false))) bR) (aB (dN 8 (ae 3) (bF ah)) (aB (dN 8 (fC (.str "more")) (bF ah)) (bw (nN (f2 ub (gr (aa (ae 1) (aa (ae 2) ah))) (ae 6)) (f2 sM (fV "put" [("Leaf",(aA bW 4 5)),("Over",(aU 12))] (ae 0) (aa (ae 1) (aa (ae 2) (aa (ae 5) ah)))) (ae 9))))))))))))))
noncomputable def aE:bu:=aB (kE (fB (f2 uM (f2 aI (f2 aI (f2 aI (ae 0) (fC (.int 0))) (fC (.int 0))) (fC (.int 0))) (ae 1))) (bw (bF (aa (bF (aa (bF (aa (ae 2) (aa (f2 aI (f2 aI (f2 aI (ae 0) (fC (.int 0))) (fC (.int 0))) (fC (.int 1))) ah))) ah)) (aa (f2 aI (ae 0) (fC (.int 1))) ah)))) bR) (aB (iA 3 (gr ah)) (aB (oC (em (f2 aI (ae 0) (fC (.int 1)))) (gT 2 (pZ [4,5])) (aB (zD 3 nX (aa (bF (aa (f2 aI (gr (aa (ae 4) (aa (ae 2) ah))) (fL pO (aa (f2 uM (ae 4) (ae 1)) ah))) (aa (ae 5) ah))) ah)) (du [4,5] bR))) (oK 3 (bw (bF (aa (f2 aI (ae 0) (fC (.int 0))) (aa (fL gK (aa (ae 3) ah)) ah)))))))
noncomputable def aS:bu:=aB (iA 2 (gr ah)) (aB (bb 3 (f2 aI (f2 aI (f2 aI (f2 aI (ae 0) (fC (.int 0))) (fC (.int 0))) (fC (.int 1))) (fC (.int 1)))) (du [0] (aB (oC (em (ae 1)) (gN 4) (aB (bb 3 (f2 bX (f2 bX (ae 3) (fC (.int 1))) (f2 dH (ae 4) (f2 aI (gr (aa (fC (.int 3)) (aa (f2 iz (fC (.int 10)) (fC (.int 40))) ah))) (f2 dH (ae 4) (fC (.int 2))))))) (aB (zD 2 nX (aa (bF (aa (ae 3) (aa (f2 aI (gr (aa (fC (.str "")) (aa (fC (.str "a")) (aa (fC (.str "b")) ah)))) (f2 dH (f2 fG (ae 4) (fC (.int 6))) (fC (.int 3)))) (aa (f2 dH (f2 fG (ae 4) (fC (.int 18))) (f2 iz (fC (.int 10)) (fC (.int 30)))) ah)))) ah)) (du [4] bR)))) (oK 2 (bw (fL gK (aa (ae 2) ah)))))))
noncomputable def cB:bu:=aB (iA 2 lB) (aB (bb 3 (fR (aA au 2 2) (aa (ae 0) (aa (fC (.int 1)) ah)))) (aB (oC (eI (aa (ae 1) ah)) (gN 4) (aB (bb 5 (f2 qm (f2 dH (f2 fG (fR (aA au 2 2) (aa (ae 0) (aa (fC (.int 2)) ah))) (f2 bX (ae 4) (fC (.int 1)))) (fC (.int 1000))) (fC (.int 500)))) (aB (bb 6 (bF (aa (fR (aA av 2 6) (aa (ae 3) (aa (ae 4) ah))) (aa (bF (aa (fC (.str "number")) (aa (ae 5) (aa (f2 iz (fC (.int 10)) (fC (.int 50))) ah)))) ah)))) (aB (bb 7 (bF (aa (fR (aA av 2 6) (aa (ae 3) (aa (f2 bX (fC (.int 5)) (ae 4)) ah))) (aa (bF (aa (fC (.str "word")) (aa (bF (aa (fC (.str "")) (aa (fC (.str "a")) (aa (fC (.str "b")) ah)))) ah))) ah)))) (aB (bb 8 (bF (aa (ae 7) (aa (bF (aa (fR (aA av 2 6) (aa (ae 3) (aa (f2 bX (fC (.int 10)) (ae 4)) ah))) (aa (bF (aa (fC (.str "number")) (aa (v7 (fC (.int 5))) (aa (f2 iz (fC (.int 10)) (fC (.int 30))) ah)))) ah))) ah)))) (aB (dN 2 (fR (aA av 2 6) (aa (fR (aA au 2 2) (aa (ae 0) (aa (fC (.int 0)) ah))) (aa (ae 4) ah))) (bF (aa (bF (aa (ae 6) ah)) (aa (ae 8) ah)))) (du [4,5,6,7,8] bR))))))) (oK 2 (bw (ae 2)))))
noncomputable def kB:bu:=aB (bb 1 (f2 bX (fC (.int 1)) (f2 dH (f2 fG (fR (aA au 2 2) (aa (ae 0) (aa (fC (.int 0)) ah))) (fC (.int 512))) (fC (.int 4))))) (aB (bb 2 (fR (aA cB 2 9) (aa (ae 0) (aa (ae 1) ah)))) (aB (bb 3 (fL lm (aa (ae 2) ah))) (aB (iA 4 lB) (aB (oC (eI (aa (ae 1) ah)) (gN 5) (aB (dN 4 (f2 aI (ae 3) (ae 5)) (fR (aA aS 2 5) (aa (f2 dM (ae 2) (f2 aI (ae 3) (ae 5))) (aa (fS (ae 0) (ce (f2 bX (fC (.int 3)) (ae 5))) (ce (fC (.int 43))) (ce (ae 1))) ah)))) (du [5] bR))) (aB (bb 6 (fR (aA au 2 2) (aa (ae 0) (aa (fC (.int 1)) ah)))) (oK 4 (du [5] (aB (oC (eI (aa (ae 1) ah)) (gN 5) (aB (bb 7 (f2 aI (ae 3) (ae 5))) (aB (bb 8 (f2 dM (ae 2) (ae 7))) (aB (bb 9 (f2 aI (kU [none,none] (em (f2 bX (f2 aI (ae 8) (fC (.int 0))) (f2 aI (ae 8) (fC (.int 1))))) (gT 2 (pZ [0,1])) gk (ae 0)) (f2 dH (f2 fG (fR (aA au 2 2) (aa (ae 0) (aa (fC (.int 2)) ah))) (f2 bX (ae 5) (fC (.int 3)))) (fC (.int 3))))) (aB (bb 10 (fR (aA aS 2 5) (aa (ae 8) (aa (gv (ae 0) (ce (f2 bX (fC (.int 4)) (ae 5))) (ce (fC (.int 24)))) ah)))) (aB (bb 11 (fNew "Leaf" ["name"] (aa (ae 7) ah))) (aB (bb 12 (fNew "Over" ["glass","step"] (aa (ae 11) (aa (fNew "Rename" ["old","new"] (aa (ae 9) (aa (fR (aA av 2 6) (aa (ae 6) (aa (fC (.int 20)) ah))) ah))) ah)))) (aB (bb 13 (fR (aA aE 3 6) (aa (ae 8) (aa (ae 9) (aa (fR (aA av 2 6) (aa (ae 6) (aa (fC (.int 20)) ah))) ah))))) (aB (bb 14 (fNew "Over" ["glass","step"] (aa (ae 12) (aa (fNew "Rename" ["old","new"] (aa (fR (aA av 2 6) (aa (ae 6) (aa (fC (.int 20)) ah))) (aa (fR (aA av 2 6) (aa (ae 6) (aa (fC (.int 21)) ah))) ah))) ah)))) (aB (bb 15 (fR (aA aE 3 6) (aa (ae 8) (aa (ae 9) (aa (fR (aA av 2 6) (aa (ae 6) (aa (fC (.int 21)) ah))) ah))))) (aB (kE (fM (bA (fR (aA aN 6 10) (aa (ae 11) (aa (ae 2) (aa (ae 4) (aa (ae 7) (aa (ae 8) (aa (ae 10) ah))))))))) (bw (fC (.bl false))) bR) (aB (kE (fM (bA (fR (aA aN 6 10) (aa (ae 12) (aa (ae 2) (aa (ae 4) (aa (ae 7) (aa (ae 13) (aa (ae 10) ah))))))))) (bw (fC (.bl false))) bR) (aB (kE (fM (bA (fR (aA aN 6 10) (aa (ae 14) (aa (ae 2) (aa (ae 4) (aa (ae 7) (aa (ae 15) (aa (ae 10) ah))))))))) (bw (fC (.bl false))) bR) (aB (kE (fM (bA (fR (aA aN 6 10) (aa (ae 11) (aa (ae 2) (aa (ae 4) (aa (ae 7) (aa (ae 8) (aa (bF ah) ah))))))))) (bw (fC (.bl false))) bR) (du [5,7,8,9,10,11,12,13,14,15] bR))))))))))))))) (aB (bb 16 (fNew "Leaf" ["name"] (aa (fR (aA av 2 6) (aa (fR (aA au 2 2) (aa (ae 0) (aa (fC (.int 0)) ah))) (aa (fC (.int 9)) ah))) ah))) (bw (nN (fR (aA bS 2 4) (aa (ae 16) (aa (ae 2) ah))) (fR (aA bS 2 4) (aa (fNew "Over" ["glass","step"] (aa (ae 16) (aa (fNew "Rename" ["old","new"] (aa (fC (.str "a")) (aa (fC (.str "b")) ah))) ah))) (aa (ae 2) ah))))))))))))))
set_option hygiene false
local macro_rules|`(tactic|ktr_call $p $e)=>`(tactic|((with_reducible show $p);refine $e))
local macro_rules|`(tactic|walk_at "A")=>`(tactic|first|ktr_call (ot _ _ (aB _ _)) (um ?_ ?_)|ktr_call (ot _ _ (du _ _)) (sK _ ?_)|ktr_call (ot _ _ (oK _ _)) (vg _ ?_)|ktr_call (ot _ _ bR) wq|refine vz ?_)
local macro_rules|`(tactic|walk_at "B")=>`(tactic|first|ktr_call (XS _ _ (bb _ (kU _ _ _ _ _))) (Gy (by first|assumption|exact mE rfl) rfl (by first|exact ik rfl|exact fN rfl) ?_ ?_)|ktr_call (XS _ _ (bb _ _)) (xs _ (by first|assumption|exact mE rfl) ?_)|ktr_call (XS _ _ (bw _)) (yD ?_)|ktr_call (XS _ _ (kE _ _ _)) (Ba ?_ ?_ ?_)|ktr_call (XS _ _ bR) w8|ktr_call (XS _ _ bR) yK|ktr_call (XS _ _ (iA _ (kU _ _ _ _ _))) (Gx (by first|assumption|exact mE rfl) rfl (by first|exact ik rfl|exact fN rfl) ?_ ?_)|ktr_call (XS _ _ (iA _ _)) (xo (by first|assumption|exact mE rfl) rfl (by first|exact Or.inl rfl|exact Or.inr rfl) ?_)|ktr_call (XS _ _ (oC _ _ _)) (za hp rfl ?_ ?_ ?_)|ktr_call (XS _ _ (dN _ _ _)) (vQ hr.units (xv _) ?_ ?_)|ktr_call (XS _ _ (iO _ _)) (t9 rfl (by walk_at "a") rfl ?_)|ktr_call (XS _ _ (zD _ nX _)) (Al PySem.F.slot_list_append PySem.F.type_list_append nM uJ (xv _) ?_)|ktr_call (XS _ _ (rM _)) (vC ?_)|ktr_call (XS _ _ (lM _ _ _)) (uY (xv _) ?_ ?_)|ktr_call (XS _ _ (w6 _ _ _ _)) (xF rfl rfl rfl (fun _=>rfl) (by walk_at "a") rfl (by first|assumption|exact mE rfl) rfl rfl (fun E' pn hp=>?_) (fun A' pn hA hU=>?_)))
local macro_rules|`(tactic|walk_at "C")=>`(tactic|first|ktr_call (XR _ _ (aB _ _)) (vy ?_ (by first|exact yi|exact xL|exact vx) ?_)|ktr_call (XR _ _ (bw _)) (xx ?_)|ktr_call (XR _ _ (rG _)) (yP (xv _)))
local macro_rules|`(tactic|walk_at "D")=>`(tactic|first|ktr_call (XE _ _ (fV _ _ _ _)) (rL (mX (by walk_at "a") hr ‹0› ?_ ?_))|ktr_call (XE _ _ (fL fX _)) (rL (mP rfl (by walk_at "a") J7 ?_))|ktr_call (XE _ _ (f1 iU _)) (ud rfl rfl (by walk_at "a") rfl (by walk_at "a") J7 ?_)|with_reducible refine yQ ?_|ktr_call (XE _ _ (ae _)) (xw _)|ktr_call (XE _ _ (fC (.int _))) y8|ktr_call (XE _ _ (fC (.str _))) yF|ktr_call (XE _ _ (fC (.bl _))) A8|ktr_call (XE _ _ (f2 aI _ _)) (xi ?_ ?_)|ktr_call (XE _ _ (bF _)) (yn ?_)|ktr_call (XE _ _ (gr _)) (yA ?_)|ktr_call (XE _ _ (f2 bX _ _)) (g9 yj aT ?_ ?_)|ktr_call (XE _ _ (f2 qm _ _)) (g9 AF AU ?_ ?_)|ktr_call (XE _ _ (f2 oS _ _)) (g9 zW AI ?_ ?_)|ktr_call (XE _ _ (f2 fG _ _)) (g9 uR Ai ?_ ?_)|ktr_call (XE _ _ (f2 dH _ _)) (g9 zR AX ?_ ?_)|ktr_call (XE _ _ (f2 iz _ _)) (g9 A0 A9 ?_ ?_)|ktr_call (XE _ _ (f2 uM _ _)) (dR (wI hr.units) aT ?_ ?_ (cD _))|ktr_call (XE _ _ (f2 qJ _ _)) (dR (vG hr.units) aT ?_ ?_ (cD _))|ktr_call (XE _ _ (f2 pI _ _)) (dR (uP hr.units) aT ?_ ?_ (cD _))|ktr_call (XE _ _ (f2 Bz _ _)) (dR (vf hr.units) aT ?_ ?_ rfl)|ktr_call (XE _ _ (f2 sM _ _)) (dR (wv hr.units) aT ?_ ?_ (cD _))|ktr_call (XE _ _ (f2 oQ _ _)) (dR (vZ hr.units) aT ?_ ?_ (cD _))|ktr_call (XE _ _ (f2 ub _ _)) (dR (wZ hr.units) aT ?_ ?_ (cD _))|ktr_call (XE _ _ (f2 oU _ _)) (dR (vh hr.units) aT ?_ ?_ (cD _))|ktr_call (XE _ _ (f2 dS _ _)) (dR (nE hr.units) aT ?_ ?_ rfl)|ktr_call (XE _ _ (v7 _)) (yY ?_)|ktr_call (XE _ _ (nN _ _)) (xr ?_ ?_)|ktr_call (XE _ _ (f2 dM _ _)) (ve hr.units ?_ ?_ (fun _ _=>rfl))|ktr_call (XE _ _ (gv _ _ _)) (tI ?_ ?_ ?_)|ktr_call (XE _ _ (fS _ _ _ _)) (qg ?_ ?_ ?_ ?_)|ktr_call (XE _ _ (f1 (bZ _ _) _)) (xt (by walk_at "a") ?_)|ktr_call (XE _ _ (kU _ _ _ _ _)) (xl rfl (by first|exact ik rfl|exact fN rfl) ?_ ?_)|ktr_call (XE _ _ (fR _ _)) (qH (by walk_at "a") (by first|exact gM|walk_at "a") hr ‹0› ?_)|ktr_call (XE _ _ (fNew _ _ _)) (yv (by walk_at "a") hr ‹0› rfl ?_)|ktr_call (XE _ _ (xU "tuple" _)) (yf qQ rfl (by walk_at "a") rfl (by walk_at "a") J8 ?_)|ktr_call (XE _ _ (f1 (dr _) _)) (v4 (by walk_at "a") rfl (by walk_at "a") rfl ?_)|ktr_call (XE _ _ (f1 (dr _) _)) (t4 (by walk_at "a") rfl (by walk_at "a") rfl (by walk_at "a") PyProof.Rows.Boot.«ValueError» ?_)|ktr_call (XE _ _ (f1 (pR _) _)) (v3 (by walk_at "a") rfl (by walk_at "a") rfl ?_)|ktr_call (XE _ _ (fL og _)) (uD ue rfl (by walk_at "a") PySem.boot_len ?_)|ktr_call (XE _ _ (fL gK _)) (iT o9 rfl (by walk_at "a") J8 ?_)|ktr_call (XE _ _ (fL pO _)) (iT qW rfl (by walk_at "a") PyProof.Rows.boot_int ?_)|ktr_call (XE _ _ (fL lm _)) (iT (qa rfl) rfl (by walk_at "a") PyProof.Rows.boot_list ?_)|ktr_call (XE _ _ (rm _ _)) (uQ ?_ ?_)|ktr_call (XE _ _ (bi _ _ _ (aa _ _))) (wO (by walk_at "a") hr ‹0› ?_ ?_)|ktr_call (XE _ _ (bi _ _ _ ah)) (uC (by walk_at "a") hr ‹0› ?_))
local macro_rules|`(tactic|walk_at "E")=>`(tactic|first|ktr_call (XN _ _ (fV _ _ _ _)) (mX (by walk_at "a") hr ‹0› ?_ ?_)|ktr_call (XN _ _ (fL fX _)) (mP rfl (by walk_at "a") J7 ?_)|ktr_call (XN _ _ (gr _)) (yC ?_)|ktr_call (XN _ _ lB) tK|ktr_call (XN _ _ (kU _ _ _ _ _)) (GD rfl (by first|exact ik rfl|exact fN rfl) ?_ ?_)|ktr_call (XN _ _ (fR _ _)) (qM (by walk_at "a") (by first|exact gM|walk_at "a") hr ‹0› ?_))
local macro_rules|`(tactic|walk_at "F")=>`(tactic|first|ktr_call (XT _ _ (bA _)) (uq ?_)|ktr_call (XT _ _ (fM _)) (xH ?_)|ktr_call (XT _ _ (qj _ _)) (Gq ?_)|ktr_call (XT _ _ (fB (f2 qJ _ _))) (dQ (vG hr.units) aT ?_ ?_ (cD _))|ktr_call (XT _ _ (fB (f2 uM _ _))) (dQ (wI hr.units) aT ?_ ?_ (cD _))|ktr_call (XT _ _ (fB (f2 Bz _ _))) (dQ (vf hr.units) aT ?_ ?_ rfl)|ktr_call (XT _ _ (fB (f2 oQ _ _))) (dQ (vZ hr.units) aT ?_ ?_ (cD _))|ktr_call (XT _ _ (fB (f2 oU _ _))) (dQ (vh hr.units) aT ?_ ?_ (cD _))|ktr_call (XT _ _ (fB (f2 dS _ _))) (dQ (nE hr.units) aT ?_ ?_ rfl)|ktr_call (XT _ _ (lX _ _)) (wY _ ?_)|ktr_call (XT _ _ (fB (f2 pI _ _))) (dQ (uP hr.units) aT ?_ ?_ (cD _))|ktr_call (XT _ _ (fB (f2 sM _ _))) (dQ (wv hr.units) aT ?_ ?_ (cD _))|ktr_call (XT _ _ (fB (f2 ub _ _))) (dQ (wZ hr.units) aT ?_ ?_ (cD _)))
local macro_rules|`(tactic|walk_at "I")=>`(tactic|first|ktr_call (XI _ _ _ (eI _)) (ra rfl (by walk_at "a") ?_)|ktr_call (XI _ _ _ (fT _)) (mz rfl (by walk_at "a") ?_)|ktr_call (XI _ _ _ (em _)) (yg ?_))
local macro_rules|`(tactic|walk_at "d")=>`(tactic|((first|((with_reducible show XA _ _ _);first|ktr_call (XA _ _ (aa _ _)) (lD ?_ ?_)|ktr_call (XA _ _ ah) rz)|((with_reducible show XS _ _ _);walk_at "B")|((with_reducible show ot _ _ _);walk_at "A")|((with_reducible show XR _ _ _);walk_at "C")|((with_reducible show XE _ _ _);walk_at "D")|((with_reducible show XT _ _ _);walk_at "F")|((with_reducible show XN _ _ _);walk_at "E")|((with_reducible show XW _ _ _);first|ktr_call (XW _ _ (qj _ _)) (An ?_ ?_)|refine xP ?_)|((with_reducible show XI _ _ _ _);walk_at "I")|((with_reducible show XG _ _ _);first|ktr_call (XG _ _ (gN _)) (wr (by first|assumption|exact mE rfl) rfl (by first|exact Or.inl rfl|exact Or.inr rfl))|ktr_call (XG _ _ (gT _ _)) (yr rfl ?_))|((with_reducible show zO _ _ _);first|ktr_call (zO _ _ (pZ (_ :: _))) (tX ?_ ?_)|ktr_call (zO _ _ (pZ [])) xg)|((with_reducible show XO _ _ _);first|ktr_call (XO _ _ iX) xk|ktr_call (XO _ _ (ce _)) (wR ?_))|((with_reducible show BW _ _ _);first|ktr_call (BW _ _ gk) v9|refine wl ?_)|((with_reducible show mh _ _ _ _ _ _ _ _ _);first|refine ⟨fun _ _ _ _ _ _=>⟨?_, ?_, ?_⟩⟩))<;>walk_at "d"))
local macro_rules | `(tactic| walk_at "a") => `(tactic| first | assumption | exact q.2 | exact q.1.2 | exact q.1.1.2 | exact q.1.1.1.2 | exact q.1.1.1.1.2 | exact q.1.1.1.1.1.2 | exact q.1.1.1.1.1.1.2 | exact q.1.1.1.1.1.1.1.2 | (replace q := q.1.1.1.1.1.1.1.1; walk_at "a") | exact q.1 | exact q.1.1 | exact q.1.1.1 | exact q.1.1.1.1 | exact q.1.1.1.1.1 | exact q.1.1.1.1.1.1 | exact q.1.1.1.1.1.1.1)
local macro_rules | `(tactic| walk_at "b") => `(tactic| (intro us hl _ _ _ _ _ _; first | (obtain ⟨a, rfl⟩ := CT hl; rfl) | (obtain ⟨a, b, rfl⟩ := A7 hl; rfl) | (obtain ⟨a, b, c, rfl⟩ := xK hl; rfl) | (obtain ⟨a, b, c, d, rfl⟩ := C9 hl; rfl) | (obtain ⟨a, b, c, d, e, f, rfl⟩ := DW hl; rfl)))
local macro_rules | `(tactic| walk_at "m") => `(tactic| ((· walk_at "a"); (· walk_at "b"); (· exact ⟨rfl, rfl, rfl, by decide +kernel, rfl, by decide +kernel, by decide +kernel⟩); first | refine fun nd f => ⟨fun cdv A outer s H E hr hp => ?_⟩ | intro nd f A outer s H E hr hp))
local macro_rules | `(tactic| ktn_call $m $b:ident) => `(tactic| ((first | (apply Gh $m; walk_at "m") | (apply Dx $m; walk_at "m")); unfold $b; walk_at "d"))
local macro_rules | `(tactic| walk_at "t") => `(tactic| first | exact xR | (refine u5 (MethAt.mono (by walk_at "a") (by first | decide | omega)) (by first | exact gM | walk_at "a") ?_; walk_at "t"))
local macro_rules | `(tactic| walk_at "u") => `(tactic| first | exact wo | (refine tq (mU.mono (by walk_at "a") (by first | decide | omega)) (by first | exact gM | walk_at "a") ?_; walk_at "u"))
section
variable{u:U}
noncomputable def Q0(u:U):Prop:=((((((((((((((((((((((((((((((((((Fv u (Zs u ["len","tuple","enumerate","isinstance","ValueError","range","dict","int","list"]) [("replaced",top 17),("in_key",top 16),("with_fields",top 18),("kind_at",top 15),("names_of",top 12),("place_of",top 13),("_law_refused",top 28),("_law_name",top 25),("_law_cell_at",top 24),("_law_right",top 29),("_law_renamed",top 30),("_law_table",top 27),("_law_forms",top 26)])/\gJ u.K "name" ["Leaf"])/\gJ u.K "old" ["Rename"])/\gJ u.K "new" ["Rename"])/\gJ u.K "step" ["Over"])/\gJ u.K "glass" ["Over"])/\gE u.P u.w u.K u.mg u.base 1 "Leaf" ["self","name"] ["name"])/\gE u.P u.w u.K u.mg u.base 1 "Over" ["self","glass","step"] ["glass","step"])/\gE u.P u.w u.K u.mg u.base 1 "Rename" ["self","old","new"] ["old","new"])/\v5 u.K u.mg "Glass" ["Glass","Leaf","Over"])/\ExcAt u.K u.mg "NoTable")/\ExcAt u.K u.mg "NoField")/\ExcAt u.K u.mg "Twice")/\pL u.K u.mg "GlassError" ["NoTable","NoField","Twice"])/\jl u.K u.mg "NoTable" [("NoTable",true),("NoField",false),("Twice",false)])/\jl u.K u.mg "NoField" [("NoTable",false),("NoField",true),("Twice",false)])/\jl u.K u.mg "NoForm" [("NoTable",false),("NoField",false),("Twice",false)])/\jl u.K u.mg "Twice" [("NoTable",false),("NoField",false),("Twice",true)])/\pS u.K (.type "ValueError") [("NoTable",true),("NoField",true),("Twice",true)])/\Dm u "Leaf" "form" "Leaf.form" (inClass (top 9) 2))/\Dm u "Rename" "view_form" "Rename.view_form" (inClass (top 22) 2))/\Dm u "Over" "form" "Over.form" (inClass (top 10) 2))/\Dm u "Leaf" "put" "Leaf.put" (inClass (top 9) 4))/\Dm u "Rename" "put" "Step.put" (inClass (top 20) 3))/\Dm u "Leaf" "seen" "Leaf.seen" (inClass (top 9) 3))/\Dm u "Rename" "got" "Step.got" (inClass (top 20) 2))/\Dm u "Over" "seen" "Over.seen" (inClass (top 10) 3))/\Dm u "Over" "put" "Over.put" (inClass (top 10) 4))/\Dm u "Glass" "seen" "Glass.seen" (inClass (top 8) 2))/\Dm u "Leaf" "got" "Glass.got" (inClass (top 8) 3))/\Dm u "Over" "got" "Glass.got" (inClass (top 8) 3))/\Dm u "Glass" "got" "Glass.got" (inClass (top 8) 3))/\Dm u "Leaf" "names" "Leaf.names" (inClass (top 9) 1))/\Dm u "Over" "names" "Over.names" (inClass (top 10) 1))
noncomputable def Q1(u:U):Prop:=Q0 u/\Ma u 1 "Leaf" "form" ["self","forms"] (aA bg 2 2)
theorem e1(q:Q0 u):Q1 u:=⟨q,(by ktn_call [] bg)⟩
noncomputable def Q2(u:U):Prop:=Q1 u/\Ca u 1 "replaced" ["values","place","others"] (aA cT 3 3)
theorem e2(q:Q1 u):Q2 u:=⟨q,(by ktn_call [] cT)⟩
noncomputable def Q3(u:U):Prop:=Q2 u/\Ca u 1 "in_key" ["form","place"] (aA gw 2 2)
theorem e3(q:Q2 u):Q3 u:=⟨q,(by ktn_call [] gw)⟩
noncomputable def Q4(u:U):Prop:=Q3 u/\Ca u 2 "with_fields" ["form","place","fields"] (aA cn 3 3)
theorem e4(q:Q3 u):Q4 u:=⟨q,(by ktn_call [] cn)⟩
noncomputable def Q5(u:U):Prop:=Q4 u/\Ca u 1 "kind_at" ["form","place"] (aA eV 2 2)
theorem e5(q:Q4 u):Q5 u:=⟨q,(by ktn_call [] eV)⟩
noncomputable def Q6(u:U):Prop:=Q5 u/\Ca u 1 "names_of" ["form"] (aA dg 1 1)
theorem e6(q:Q5 u):Q6 u:=⟨q,(by ktn_call [] dg)⟩
noncomputable def Q7(u:U):Prop:=Q6 u/\Ca u 2 "place_of" ["form","name"] (aA eD 2 4)
theorem e7(q:Q6 u):Q7 u:=⟨q,(by ktn_call ["place","other"] eD)⟩
noncomputable def Q8(u:U):Prop:=Q7 u/\Ma u 3 "Rename" "view_form" ["self","form"] (aA ak 2 3)
theorem e8(q:Q7 u):Q8 u:=⟨q,(by ktn_call ["place"] ak)⟩
noncomputable def Q9(u:U):Prop:=Q8 u/\Ta u 3 "view_form" ["self","form"] [("Rename",(aA ak 2 3))]
theorem e9(q:Q8 u):Q9 u:=⟨q,(by walk_at "t")⟩
theorem iK(q:Q9 u):∀n:Nat,Ma u (3+n) "Over" "form" ["self","forms"] (aG n)
 |0=>by
  rw[aG];exact Bi (by walk_at "a") (by walk_at "b")
 |n+1=>by
  have ih:=iK q n;have c0:=ih;have a0:=gO n;have t0:Ta u (3+n) "form" ["self","forms"] [("Leaf",(aA bg 2 2)),("Over",aG n)]:=by walk_at "t"
  rw[cj];apply Dx (k:=3+n) [];walk_at "m";unfold dC;walk_at "d"
noncomputable def Fc(u:U):Prop:=(Q9 u/\Ma u (15) "Over" "form" ["self","forms"] (aG 12))/\Ar 2 (aG 12)
theorem e10(q:Q9 u):Fc u:=⟨⟨q,(iK q 12)⟩,gO 12⟩
noncomputable def Fa(u:U):Prop:=Fc u/\Ta u 15 "form" ["self","forms"] [("Leaf",(aA bg 2 2)),("Over",(aG 12))]
theorem EQ(q:Fc u):Fa u:=⟨q,(by walk_at "t")⟩
noncomputable def Ee(u:U):Prop:=Fa u/\Ca u 16 "_law_refused" ["_law_glass","_law_forms_here"] (aA bS 2 4)
theorem GW(q:Fa u):Ee u:=⟨q,(by ktn_call ["_law_refused_here","e"] bS)⟩
noncomputable def Ep(u:U):Prop:=Ee u/\Ca u 1 "_law_name" ["_law_cell","_law_k"] (aA av 2 6)
theorem GQ(q:Ee u):Ep u:=⟨q,(by ktn_call ["_law_letters","_law_size","_law_at","_law_base"] av)⟩
noncomputable def Fx(u:U):Prop:=Ep u/\Ca u 1 "_law_cell_at" ["_law_script","_law_k"] (aA au 2 2)
theorem Gd(q:Ep u):Fx u:=⟨q,(by ktn_call [] au)⟩
noncomputable def D7(u:U):Prop:=Fx u/\CK u 1 "Leaf" "put" ["self","forms","house","view"] (aA bW 4 5)
theorem G5(q:Fx u):D7 u:=⟨q,(by apply BG ["after"];walk_at "m";unfold bW;walk_at "d")⟩
noncomputable def Ea(u:U):Prop:=D7 u/\Ma u 1 "Rename" "put" ["self","form","table","view"] (aA cf 4 4)
theorem Gp(q:D7 u):Ea u:=⟨q,(by ktn_call [] cf)⟩
noncomputable def EK(u:U):Prop:=Ea u/\Ma u 1 "Leaf" "seen" ["self","forms","house"] (aA bE 3 3)
theorem GA(q:Ea u):EK u:=⟨q,(by ktn_call [] bE)⟩
noncomputable def Fk(u:U):Prop:=EK u/\Ma u 1 "Rename" "got" ["self","form","table"] (aA cx 3 3)
theorem GK(q:EK u):Fk u:=⟨q,(by ktn_call [] cx)⟩
noncomputable def DN(u:U):Prop:=Fk u/\Ta u 1 "got" ["self","form","table"] [("Rename",(aA cx 3 3))]
theorem Gg(q:Fk u):DN u:=⟨q,(by walk_at "t")⟩
theorem iD(q:DN u):∀n:Nat,Ma u (3+n) "Over" "seen" ["self","forms","house"] (aM n)
 |0=>by
  rw[aM];exact Bi (by walk_at "a") (by walk_at "b")
 |n+1=>by
  have ih:=iD q n;have c0:=ih;have a0:=gB n;have t0:Ta u (3+n) "seen" ["self","forms","house"] [("Leaf",(aA bE 3 3)),("Over",aM n)]:=by walk_at "t"
  rw[cW];apply Dx (k:=3+n) ["beneath"];walk_at "m";unfold eJ;walk_at "d"
noncomputable def EC(u:U):Prop:=(DN u/\Ma u (15) "Over" "seen" ["self","forms","house"] (aM 12))/\Ar 3 (aM 12)
theorem e20(q:DN u):EC u:=⟨⟨q,(iD q 12)⟩,gB 12⟩
noncomputable def Fz(u:U):Prop:=EC u/\Ta u 15 "seen" ["self","forms","house"] [("Leaf",(aA bE 3 3)),("Over",(aM 12))]
theorem GO(q:EC u):Fz u:=⟨q,(by walk_at "t")⟩
noncomputable def DH(u:U):Prop:=Fz u/\Ta u 1 "put" ["self","form","table","view"] [("Rename",(aA cf 4 4))]
theorem GN(q:Fz u):DH u:=⟨q,(by walk_at "t")⟩
theorem jg(q:DH u):∀n:Nat,CK u (15+n) "Over" "put" ["self","forms","house","view"] (aU n)
 |0=>by
  rw[aU];exact CU (by walk_at "a") (by walk_at "b")
 |n+1=>by
  have ih:=jg q n;have c0:=ih;have a0:=iC n;have t0:FY u (15+n) "put" ["self","forms","house","view"] [("Leaf",(aA bW 4 5)),("Over",aU n)]:=by walk_at "u"
  rw[dG];apply BG (k:=15+n) ["beneath"];walk_at "m";unfold fY;walk_at "d"
noncomputable def Ff(u:U):Prop:=(DH u/\CK u (27) "Over" "put" ["self","forms","house","view"] (aU 12))/\Ar 4 (aU 12)
theorem GX(q:DH u):Ff u:=⟨⟨q,(jg q 12)⟩,iC 12⟩
noncomputable def D5(u:U):Prop:=Ff u/\Ma u 1 "Glass" "seen" ["self","forms","house"] (aA cE 3 3)
theorem GZ(q:Ff u):D5 u:=⟨q,(by ktn_call [] cE)⟩
noncomputable def EW(u:U):Prop:=D5 u/\Ta u 15 "seen" ["self","forms","house"] [("Glass",(aA cE 3 3)),("Leaf",(aA bE 3 3)),("Over",(aM 12))]
theorem GV(q:D5 u):EW u:=⟨q,(by walk_at "t")⟩
noncomputable def Ey(u:U):Prop:=((EW u/\Ma u 16 "Leaf" "got" ["self","forms","house"] (aA aY 3 3))/\Ma u 16 "Over" "got" ["self","forms","house"] (aA aY 3 3))/\Ma u 16 "Glass" "got" ["self","forms","house"] (aA aY 3 3)
theorem Gn(q:EW u):Ey u:=⟨⟨⟨q,(by ktn_call [] aY)⟩,(by ktn_call [] aY)⟩,(by ktn_call [] aY)⟩
noncomputable def Dr(u:U):Prop:=Ey u/\Ma u 1 "Leaf" "names" ["self"] (aA bx 1 1)
theorem Gv(q:Ey u):Dr u:=⟨q,(by ktn_call [] bx)⟩
theorem gx(q:Dr u):∀n:Nat,Ma u (1+n) "Over" "names" ["self"] (aJ n)
 |0=>by
  rw[aJ];exact Bi (by walk_at "a") (by walk_at "b")
 |n+1=>by
  have ih:=gx q n;have c0:=ih;have a0:=gi n;have t0:Ta u (1+n) "names" ["self"] [("Leaf",(aA bx 1 1)),("Over",aJ n)]:=by walk_at "t"
  rw[cI];apply Dx (k:=1+n) [];walk_at "m";unfold dU;walk_at "d"
noncomputable def EX(u:U):Prop:=(Dr u/\Ma u (13) "Over" "names" ["self"] (aJ 12))/\Ar 1 (aJ 12)
theorem G6(q:Dr u):EX u:=⟨⟨q,(gx q 12)⟩,gi 12⟩
noncomputable def Fd(u:U):Prop:=EX u/\Ta u 13 "names" ["self"] [("Leaf",(aA bx 1 1)),("Over",(aJ 12))]
theorem Gb(q:EX u):Fd u:=⟨q,(by walk_at "t")⟩
noncomputable def DU(u:U):Prop:=Fd u/\Ta u 16 "got" ["self","forms","house"] [("Leaf",(aA aY 3 3)),("Over",(aA aY 3 3))]
theorem Gu(q:Fd u):DU u:=⟨q,(by walk_at "t")⟩
noncomputable def D2(u:U):Prop:=DU u/\FY u 27 "put" ["self","forms","house","view"] [("Leaf",(aA bW 4 5)),("Over",(aU 12))]
theorem GU(q:DU u):D2 u:=⟨q,(by walk_at "u")⟩
noncomputable def Fm(u:U):Prop:=D2 u/\Ca u 28 "_law_right" ["_law_glass","_law_forms_here","_law_house","_law_name_here","_law_form","_law_view"] (aA aN 6 10)
theorem Ge(q:D2 u):Fm u:=⟨q,(by ktn_call ["_law_kept","_law_found","_law_made","_law_due"] aN)⟩
noncomputable def E7(u:U):Prop:=Fm u/\Ca u 1 "_law_renamed" ["_law_form","_law_old","_law_new"] (aA aE 3 6)
theorem Gi(q:Fm u):E7 u:=⟨q,(by ktn_call ["_law_rest","_law_name_here","_law_kind"] aE)⟩
noncomputable def DX(u:U):Prop:=E7 u/\Ca u 1 "_law_table" ["_law_form","_law_cells"] (aA aS 2 5)
theorem Gk(q:E7 u):DX u:=⟨q,(by ktn_call ["_law_rows","_law_at","_law_cell"] aS)⟩
noncomputable def FL(u:U):Prop:=DX u/\Ca u 2 "_law_forms" ["_law_script","_law_many"] (aA cB 2 9)
theorem GP(q:DX u):FL u:=⟨q,(by ktn_call ["_law_forms_here","_law_cell","_law_k","_law_low","_law_key","_law_word","_law_rest"] cB)⟩
theorem BR{f:Ke}{fd:KU}(F:oN u.K "law" "law" (top 31) f fd)(q:FL u):dJ u.P u.w u.K u.mg u.base (gu u.P u.w) 29 f fd ["_law_script"] (uN u.K 1 (aA kB 1 17)):=by
 refine GL ["_law_many","_law_forms_here","_law_names","_law_house","_law_k","_law_cell","_law_name_here","_law_form","_law_old","_law_view","_law_leaf","_law_first_over","_law_first","_law_again","_law_second","_law_nobody"] F ?_ ?_
 ·exact⟨rfl,rfl,rfl,by decide +kernel,rfl,by decide +kernel,by decide +kernel⟩
 refine λnd=>⟨λcdv A outer s H E hr hp=>?_⟩
 unfold kB;walk_at "d"
set_option hygiene true
variable{P:Kj}{w:Ki}{K:Jo}{mg:bj}{base:Kl}
theorem uh{C f:Ke}{fd:KU}(h1:clsAt K "Leaf" C)(hM:Mk K C f)(cl:me K C)(na:∀g∈(["name"]:ao),eA K C g)(F:oN K "__init__" "Leaf.__init__" gj f fd)(b:Binds K fd ["self","name"] [])(hmg:mg "Leaf"=some (.ref C)):gE P w K mg base 1 "Leaf" ["self","name"] ["name"]:=
 jH (k:=0) h1 hM cl na F b hmg kj rfl (by decide +kernel) (by decide) λcdv A outer s H E=>(j7 rfl (pv 0) (pv 1) rfl)
theorem uo{C f:Ke}{fd:KU}(h1:clsAt K "Over" C)(hM:Mk K C f)(cl:me K C)(na:∀g∈(["glass","step"]:ao),eA K C g)(F:oN K "__init__" "Over.__init__" gh f fd)(b:Binds K fd ["self","glass","step"] [])(hmg:mg "Over"=some (.ref C)):gE P w K mg base 1 "Over" ["self","glass","step"] ["glass","step"]:=
 jH (k:=0) h1 hM cl na F b hmg jZ rfl (by decide +kernel) (by decide) λcdv A outer s H E=>(ly rfl (pv 0) (pv 1) rfl (j7 rfl (pv 0) (pv 2) rfl))
theorem pp{C f:Ke}{fd:KU}(h1:clsAt K "Rename" C)(hM:Mk K C f)(cl:me K C)(na:∀g∈(["old","new"]:ao),eA K C g)(F:oN K "__init__" "Rename.__init__" eG f fd)(b:Binds K fd ["self","old","new"] [])(hmg:mg "Rename"=some (.ref C)):gE P w K mg base 1 "Rename" ["self","old","new"] ["old","new"]:=
 jH (k:=0) h1 hM cl na F b hmg iR rfl (by decide +kernel) (by decide) λcdv A outer s H E=>(ly rfl (pv 0) (pv 1) rfl (j7 rfl (pv 0) (pv 2) rfl))
end
theorem all_mk{l:JG}{w:Ki}{K:Jo}{h:Kl}{mg:bj}{fa:Ke}(X:K.In h)(G:h.Ns Kn mg)(hfa:mg "law"=some (.ref fa)){f1 f2:Ke}
  (ac0:JI K Kn "Leaf"=some (some (.ref Cl0)))
  (ac1:JI K Kn "Rename"=some (some (.ref Cl1)))
  (ac2:JI K Kn "Over"=some (some (.ref Cl2)))
  (ac3:JI K Kn "Glass"=some (some (.ref Cl3)))
  (a0:Js K (.ref Cl0) "form"=some (some (.ref f0)))
  (i0:Jv K (.ref f0)=true)
  (l0:Lk K f0 "form" "Leaf.form" (inClass (top 9) 2) oc0 od0 kV0 dc0 pm0 an0 cd0 ct0 sl0)
  (c0:JF K cd0 "Leaf.form"=true)
  (k0:JB K (.ref f0)=true)
  (a1:Js K (.ref Cl1) "view_form"=some (some (.ref f1)))
  (i1:Jv K (.ref f1)=true)
  (l1:Lk K f1 "view_form" "Rename.view_form" (inClass (top 22) 2) oc1 od1 kV1 dc1 pm1 an1 cd1 ct1 sl1)
  (c1:JF K cd1 "Rename.view_form"=true)
  (k1:JB K (.ref f1)=true)
  (a2:Js K (.ref Cl2) "form"=some (some (.ref f2)))
  (i2:Jv K (.ref f2)=true)
  (l2:Lk K f2 "form" "Over.form" (inClass (top 10) 2) oc2 od2 kV2 dc2 pm2 an2 cd2 ct2 sl2)
  (c2:JF K cd2 "Over.form"=true)
  (k2:JB K (.ref f2)=true)
  (a3:Js K (.ref Cl0) "put"=some (some (.ref f3)))
  (i3:Jv K (.ref f3)=true)
  (l3:Lk K f3 "put" "Leaf.put" (inClass (top 9) 4) oc3 od3 kV3 dc3 pm3 an3 cd3 ct3 sl3)
  (c3:JF K cd3 "Leaf.put"=true)
  (k3:JB K (.ref f3)=true)
  (a4:Js K (.ref Cl1) "put"=some (some (.ref f4)))
  (i4:Jv K (.ref f4)=true)
  (l4:Lk K f4 "put" "Step.put" (inClass (top 20) 3) oc4 od4 kV4 dc4 pm4 an4 cd4 ct4 sl4)
  (c4:JF K cd4 "Step.put"=true)
  (k4:JB K (.ref f4)=true)
  (a5:Js K (.ref Cl0) "seen"=some (some (.ref f5)))
  (i5:Jv K (.ref f5)=true)
  (l5:Lk K f5 "seen" "Leaf.seen" (inClass (top 9) 3) oc5 od5 kV5 dc5 pm5 an5 cd5 ct5 sl5)
  (c5:JF K cd5 "Leaf.seen"=true)
  (k5:JB K (.ref f5)=true)
  (a6:Js K (.ref Cl1) "got"=some (some (.ref f6)))
  (i6:Jv K (.ref f6)=true)
  (l6:Lk K f6 "got" "Step.got" (inClass (top 20) 2) oc6 od6 kV6 dc6 pm6 an6 cd6 ct6 sl6)
  (c6:JF K cd6 "Step.got"=true)
  (k6:JB K (.ref f6)=true)
  (a7:Js K (.ref Cl2) "seen"=some (some (.ref f7)))
  (i7:Jv K (.ref f7)=true)
  (l7:Lk K f7 "seen" "Over.seen" (inClass (top 10) 3) oc7 od7 kV7 dc7 pm7 an7 cd7 ct7 sl7)
  (c7:JF K cd7 "Over.seen"=true)
  (k7:JB K (.ref f7)=true)
  (a8:Js K (.ref Cl2) "put"=some (some (.ref f8)))
  (i8:Jv K (.ref f8)=true)
  (l8:Lk K f8 "put" "Over.put" (inClass (top 10) 4) oc8 od8 kV8 dc8 pm8 an8 cd8 ct8 sl8)
  (c8:JF K cd8 "Over.put"=true)
  (k8:JB K (.ref f8)=true)
  (a9:Js K (.ref Cl3) "seen"=some (some (.ref f9)))
  (i9:Jv K (.ref f9)=true)
  (l9:Lk K f9 "seen" "Glass.seen" (inClass (top 8) 2) oc9 od9 kV9 dc9 pm9 an9 cd9 ct9 sl9)
  (c9:JF K cd9 "Glass.seen"=true)
  (k9:JB K (.ref f9)=true)
  (a10:Js K (.ref Cl0) "got"=some (some (.ref f10)))
  (a10_2:Js K (.ref Cl2) "got"=some (some (.ref f10)))
  (a10_3:Js K (.ref Cl3) "got"=some (some (.ref f10)))
  (i10:Jv K (.ref f10)=true)
  (l10:Lk K f10 "got" "Glass.got" (inClass (top 8) 3) oc10 od10 kV10 dc10 pm10 an10 cd10 ct10 sl10)
  (c10:JF K cd10 "Glass.got"=true)
  (k10:JB K (.ref f10)=true)
  (a11:Js K (.ref Cl0) "names"=some (some (.ref f11)))
  (i11:Jv K (.ref f11)=true)
  (l11:Lk K f11 "names" "Leaf.names" (inClass (top 9) 1) oc11 od11 kV11 dc11 pm11 an11 cd11 ct11 sl11)
  (c11:JF K cd11 "Leaf.names"=true)
  (k11:JB K (.ref f11)=true)
  (a12:Js K (.ref Cl2) "names"=some (some (.ref f12)))
  (i12:Jv K (.ref f12)=true)
  (l12:Lk K f12 "names" "Over.names" (inClass (top 10) 1) oc12 od12 kV12 dc12 pm12 an12 cd12 ct12 sl12)
  (c12:JF K cd12 "Over.names"=true)
  (k12:JB K (.ref f12)=true)
  (a13:JI K Kn "law"=some (some (.ref f13)))
  (l13:Lk K f13 "law" "law" (top 31) oc13 od13 kV13 dc13 pm13 an13 cd13 ct13 sl13)
  (c13:JF K cd13 "law"=true)
  (k13:JB K (.ref f13)=true)
  (a14:Js K (.ref Cl0) "__init__"=some (some (.ref f14)))
  (i14:Jv K (.ref f14)=true)
  (l14:Lk K f14 "__init__" "Leaf.__init__" (inClass (top 9) 0) oc14 od14 kV14 dc14 pm14 an14 cd14 ct14 sl14)
  (c14:JF K cd14 "Leaf.__init__"=true)
  (k14:JB K (.ref f14)=true)
  (a15:Js K (.ref Cl2) "__init__"=some (some (.ref f15)))
  (i15:Jv K (.ref f15)=true)
  (l15:Lk K f15 "__init__" "Over.__init__" (inClass (top 10) 0) oc15 od15 kV15 dc15 pm15 an15 cd15 ct15 sl15)
  (c15:JF K cd15 "Over.__init__"=true)
  (k15:JB K (.ref f15)=true)
  (a16:Js K (.ref Cl1) "__init__"=some (some (.ref f16)))
  (i16:Jv K (.ref f16)=true)
  (l16:Lk K f16 "__init__" "Rename.__init__" (inClass (top 22) 0) oc16 od16 kV16 dc16 pm16 an16 cd16 ct16 sl16)
  (c16:JF K cd16 "Rename.__init__"=true)
  (k16:JB K (.ref f16)=true)
  (p0:Jq K Cl0 Str.empty=true)
  (q0:Jr K Cl0=true)
  (r0:Jw K Cl0=true)
  (s0:Js K (.ref Cl0) "__setattr__"=some (some (.builtin "object.__setattr__")))
  (n0_0:Js K (.ref Cl0) "name"=some none)
  (m0:Jy K Cl0=true)
  (kp0:JB K (.ref Cl0)=true)
  (p1:Jq K Cl1 Str.empty=true)
  (q1:Jr K Cl1=true)
  (r1:Jw K Cl1=true)
  (s1:Js K (.ref Cl1) "__setattr__"=some (some (.builtin "object.__setattr__")))
  (n1_0:Js K (.ref Cl1) "old"=some none)
  (n1_1:Js K (.ref Cl1) "new"=some none)
  (m1:Jy K Cl1=true)
  (kp1:JB K (.ref Cl1)=true)
  (p2:Jq K Cl2 Str.empty=true)
  (q2:Jr K Cl2=true)
  (r2:Jw K Cl2=true)
  (s2:Js K (.ref Cl2) "__setattr__"=some (some (.builtin "object.__setattr__")))
  (n2_0:Js K (.ref Cl2) "glass"=some none)
  (n2_1:Js K (.ref Cl2) "step"=some none)
  (m2:Jy K Cl2=true)
  (kp2:JB K (.ref Cl2)=true)
  (p3:Jq K Cl3 Str.empty=true)
  (q3:Jr K Cl3=true)
  (r3:Jw K Cl3=true)
  (s3:Js K (.ref Cl3) "__setattr__"=some (some (.builtin "object.__setattr__")))
  (y3_3:JN K (.ref Cl3) Cl3=true)
  (y3_0:JN K (.ref Cl0) Cl3=true)
  (y3_2:JN K (.ref Cl2) Cl3=true)
  (xa0:JI K Kn "NoTable"=some (some (.ref Xl0)))
  (xa1:JI K Kn "NoField"=some (some (.ref Xl1)))
  (xa2:JI K Kn "Twice"=some (some (.ref Xl2)))
  (xa3:JI K Kn "GlassError"=some (some (.ref Xl3)))
  (xa4:JI K Kn "NoForm"=some (some (.ref Xl4)))
  (xe0:JO K Xl0 Dn "ValueError.__new__"=true)
  (xe1:JO K Xl1 Dn "ValueError.__new__"=true)
  (xe2:JO K Xl2 Dn "ValueError.__new__"=true)
  (xsg:PySem.W.specialIn K (.builtin "object.__class__") "__get__"=some (some (.builtin "getset_descriptor.__get__")))
  (xtk:PySem.W.takesIn K (.builtin "object.__class__")=some true)
  (xg0:Js K (.ref Xl0) "__getattribute__"=some (some (.builtin "BaseException.__getattribute__")))
  (xn0:Js K (.ref Xl0) "__getattr__"=some none)
  (xf0:Js K (.ref Xl0) "__class__"=some (some (.builtin "object.__class__")))
  (xb0:JQ K Xl0 (.type "BaseException")=some true)
  (xg1:Js K (.ref Xl1) "__getattribute__"=some (some (.builtin "BaseException.__getattribute__")))
  (xn1:Js K (.ref Xl1) "__getattr__"=some none)
  (xf1:Js K (.ref Xl1) "__class__"=some (some (.builtin "object.__class__")))
  (xb1:JQ K Xl1 (.type "BaseException")=some true)
  (xg2:Js K (.ref Xl2) "__getattribute__"=some (some (.builtin "BaseException.__getattribute__")))
  (xn2:Js K (.ref Xl2) "__getattr__"=some none)
  (xf2:Js K (.ref Xl2) "__class__"=some (some (.builtin "object.__class__")))
  (xb2:JQ K Xl2 (.type "BaseException")=some true)
  (xo0:JQ K Xl0 (.type "object")=some true)
  (xt0:Jz K (.ref Xl0)=some (.type "type"))
  (xo1:JQ K Xl1 (.type "object")=some true)
  (xt1:Jz K (.ref Xl1)=some (.type "type"))
  (xo2:JQ K Xl2 (.type "object")=some true)
  (xt2:Jz K (.ref Xl2)=some (.type "type"))
  (xo3:JQ K Xl3 (.type "object")=some true)
  (xt3:Jz K (.ref Xl3)=some (.type "type"))
  (xo4:JQ K Xl4 (.type "object")=some true)
  (xt4:Jz K (.ref Xl4)=some (.type "type"))
  (xw3:JR K (.ref Xl3) (.type "BaseException")=some true)
  (xm3_0:JR K (.ref Xl0) (.ref Xl3)=some true)
  (xm3_1:JR K (.ref Xl1) (.ref Xl3)=some true)
  (xm3_2:JR K (.ref Xl2) (.ref Xl3)=some true)
  (xk0_0:JR K (.ref Xl0) (.ref Xl0)=some true)
  (xk0_1:JR K (.ref Xl1) (.ref Xl0)=some false)
  (vnx0_1:Xl1≠Xl0)
  (xk0_2:JR K (.ref Xl2) (.ref Xl0)=some false)
  (vnx0_2:Xl2≠Xl0)
  (xk1_0:JR K (.ref Xl0) (.ref Xl1)=some false)
  (vnx1_0:Xl0≠Xl1)
  (xk1_1:JR K (.ref Xl1) (.ref Xl1)=some true)
  (xk1_2:JR K (.ref Xl2) (.ref Xl1)=some false)
  (vnx1_2:Xl2≠Xl1)
  (xk4_0:JR K (.ref Xl0) (.ref Xl4)=some false)
  (vnx4_0:Xl0≠Xl4)
  (xk4_1:JR K (.ref Xl1) (.ref Xl4)=some false)
  (vnx4_1:Xl1≠Xl4)
  (xk4_2:JR K (.ref Xl2) (.ref Xl4)=some false)
  (vnx4_2:Xl2≠Xl4)
  (xk2_0:JR K (.ref Xl0) (.ref Xl2)=some false)
  (vnx2_0:Xl0≠Xl2)
  (xk2_1:JR K (.ref Xl1) (.ref Xl2)=some false)
  (vnx2_1:Xl1≠Xl2)
  (xk2_2:JR K (.ref Xl2) (.ref Xl2)=some true)
  (xv_ValueError_0:JR K (.ref Xl0) (.type "ValueError")=some true)
  (xv_ValueError_1:JR K (.ref Xl1) (.type "ValueError")=some true)
  (xv_ValueError_2:JR K (.ref Xl2) (.type "ValueError")=some true)
  (dd0:KDs K [("replaced",top 17),("in_key",top 16),("with_fields",top 18),("kind_at",top 15),("names_of",top 12),("place_of",top 13),("_law_refused",top 28),("_law_name",top 25),("_law_cell_at",top 24),("_law_right",top 29),("_law_renamed",top 30),("_law_table",top 27),("_law_forms",top 26)])
  (zz:KZs K ["len","tuple","enumerate","isinstance","ValueError","range","dict","int","list"]):
  ∃fd:KU,(∀(s:Kh)(v:Kc),KW s fd ⟨[v],[]⟩ [("_law_script",v)])/\∀base:Kl,K.In base->base.Ns Kn mg->dJ l.prog w K mg base (gu l.prog w) 29 fa fd ["_law_script"] (uN K 1 (aA kB 1 17)):=by
 have e:=hfa.symm.trans (JU X G a13);cases e;have F0:=b6 (st:=(inClass (top 9) 2)) l0 c0 k0;have F1:=b6 (st:=(inClass (top 22) 2)) l1 c1 k1;have F2:=b6 (st:=(inClass (top 10) 2)) l2 c2 k2;have F3:=b6 (st:=(inClass (top 9) 4)) l3 c3 k3;have F4:=b6 (st:=(inClass (top 20) 3)) l4 c4 k4;have F5:=b6 (st:=(inClass (top 9) 3)) l5 c5 k5;have F6:=b6 (st:=(inClass (top 20) 2)) l6 c6 k6;have F7:=b6 (st:=(inClass (top 10) 3)) l7 c7 k7;have F8:=b6 (st:=(inClass (top 10) 4)) l8 c8 k8;have F9:=b6 (st:=(inClass (top 8) 2)) l9 c9 k9;have F10:=b6 (st:=(inClass (top 8) 3)) l10 c10 k10;have F11:=b6 (st:=(inClass (top 9) 1)) l11 c11 k11;have F12:=b6 (st:=(inClass (top 10) 1)) l12 c12 k12;have F13:=b6 (st:=(top 31)) l13 c13 k13;have F14:=b6 (st:=(inClass (top 9) 0)) l14 c14 k14;have b14:=F14.binds (ps:=["self","name"]) λ_ _ _ _ _ _ us hl=>by obtain⟨u0,u1,rfl⟩:=A7 hl;rfl
 have F15:=b6 (st:=(inClass (top 10) 0)) l15 c15 k15;have b15:=F15.binds (ps:=["self","glass","step"]) λ_ _ _ _ _ _ us hl=>by obtain⟨u0,u1,u2,rfl⟩:=xK hl;rfl
 have F16:=b6 (st:=(inClass (top 22) 0)) l16 c16 k16;have b16:=F16.binds (ps:=["self","old","new"]) λ_ _ _ _ _ _ us hl=>by obtain⟨u0,u1,u2,rfl⟩:=xK hl;rfl
 have cl0:me K Cl0:=⟨p0,q0,r0,s0⟩
 have cl1:me K Cl1:=⟨p1,q1,r1,s1⟩
 have cl2:me K Cl2:=⟨p2,q2,r2,s2⟩
 have cl3:me K Cl3:=⟨p3,q3,r3,s3⟩
 have oB:gJ K "name" ["Leaf"]:=by
  intro c hc C hC;simp only[IC,Jg,or_false]at hc;rcases hc with rfl
  ·cases bO hC ac0;exact⟨cl0,n0_0⟩
 have mB:gJ K "old" ["Rename"]:=by
  intro c hc C hC;simp only[IC,Jg,or_false]at hc;rcases hc with rfl
  ·cases bO hC ac1;exact⟨cl1,n1_0⟩
 have mj:gJ K "new" ["Rename"]:=by
  intro c hc C hC;simp only[IC,Jg,or_false]at hc;rcases hc with rfl
  ·cases bO hC ac1;exact⟨cl1,n1_1⟩
 have oh:gJ K "step" ["Over"]:=by
  intro c hc C hC;simp only[IC,Jg,or_false]at hc;rcases hc with rfl
  ·cases bO hC ac2;exact⟨cl2,n2_1⟩
 have mw:gJ K "glass" ["Over"]:=by
  intro c hc C hC;simp only[IC,Jg,or_false]at hc;rcases hc with rfl
  ·cases bO hC ac2;exact⟨cl2,n2_0⟩
 refine⟨JE "law" "law" (fQ (top 31)) (ca (top 31)) (aq (top 31)) .none kV13 dc13 pm13 an13 cd13 ct13,λs v=>.of_eq rfl,λbase _ _=>?_⟩;have yk:v5 K mg "Glass" ["Glass","Leaf","Over"]:=by
  refine⟨_,JU X G ac3,λc hc D hD=>?_⟩;simp only[IC,Jg,or_false]at hc;rcases hc with rfl|rfl|rfl
  ·cases bO hD ac3;exact y3_3
  ·cases bO hD ac0;exact y3_0
  ·cases bO hD ac2;exact y3_2
 have E_NoTable:ExcAt K mg "NoTable":=⟨_,xa0,JU X G xa0,xe0⟩
 have E_NoField:ExcAt K mg "NoField":=⟨_,xa1,JU X G xa1,xe1⟩
 have E_Twice:ExcAt K mg "Twice":=⟨_,xa2,JU X G xa2,xe2⟩
 have xK0:oV K Xl0:=⟨xg0,xn0,xf0,xsg,xtk,xo0,xb0⟩
 have xK1:oV K Xl1:=⟨xg1,xn1,xf1,xsg,xtk,xo1,xb1⟩
 have xK2:oV K Xl2:=⟨xg2,xn2,xf2,xsg,xtk,xo2,xb2⟩
 have T_GlassError:pL K mg "GlassError" ["NoTable","NoField","Twice"]:=ww (JU X G xa3) (by
  intro c hc;simp only[IC,Jg,or_false]at hc;rcases hc with rfl|rfl|rfl
  ·exact⟨_,xa0,oz xw3 xm3_0 xo3 xt3⟩
  ·exact⟨_,xa1,oz xw3 xm3_1 xo3 xt3⟩
  ·exact⟨_,xa2,oz xw3 xm3_2 xo3 xt3⟩)
 have tS:jl K mg "NoTable" [("NoTable",true),("NoField",false),("Twice",false)]:=⟨_,JU X G xa0,bm xa0 xK0 (cu xk0_0 xo0 xt0 (.inl rfl)) (bm xa1 xK1 (cu xk0_1 xo0 xt0 (.inr vnx0_1)) (bm xa2 xK2 (cu xk0_2 xo0 xt0 (.inr vnx0_2)) gC))⟩
 have uc:jl K mg "NoField" [("NoTable",false),("NoField",true),("Twice",false)]:=⟨_,JU X G xa1,bm xa0 xK0 (cu xk1_0 xo1 xt1 (.inr vnx1_0)) (bm xa1 xK1 (cu xk1_1 xo1 xt1 (.inl rfl)) (bm xa2 xK2 (cu xk1_2 xo1 xt1 (.inr vnx1_2)) gC))⟩
 have vv:jl K mg "NoForm" [("NoTable",false),("NoField",false),("Twice",false)]:=⟨_,JU X G xa4,bm xa0 xK0 (cu xk4_0 xo4 xt4 (.inr vnx4_0)) (bm xa1 xK1 (cu xk4_1 xo4 xt4 (.inr vnx4_1)) (bm xa2 xK2 (cu xk4_2 xo4 xt4 (.inr vnx4_2)) gC))⟩
 have yd:jl K mg "Twice" [("NoTable",false),("NoField",false),("Twice",true)]:=⟨_,JU X G xa2,bm xa0 xK0 (cu xk2_0 xo2 xt2 (.inr vnx2_0)) (bm xa1 xK1 (cu xk2_1 xo2 xt2 (.inr vnx2_1)) (bm xa2 xK2 (cu xk2_2 xo2 xt2 (.inl rfl)) gC))⟩
 have V_ValueError:pS K (.type "ValueError") [("NoTable",true),("NoField",true),("Twice",true)]:=bm xa0 xK0 (qi xv_ValueError_0) (bm xa1 xK1 (qi xv_ValueError_1) (bm xa2 xK2 (qi xv_ValueError_2) gC));have Ao:=uh (P:=l.prog) (w:=w) (base:=base) ac0 ⟨m0,a14,i14,kp0⟩ cl0 (by intro g hg;simp only[IC,Jg,or_false]at hg;rcases hg with rfl;exact n0_0) F14 b14 (JU X G ac0);have AG:=uo (P:=l.prog) (w:=w) (base:=base) ac2 ⟨m2,a15,i15,kp2⟩ cl2 (by intro g hg;simp only[IC,Jg,or_false]at hg;rcases hg with rfl|rfl<;>first|exact n2_0|exact n2_1) F15 b15 (JU X G ac2);have wX:=pp (P:=l.prog) (w:=w) (base:=base) ac1 ⟨m1,a16,i16,kp1⟩ cl1 (by intro g hg;simp only[IC,Jg,or_false]at hg;rcases hg with rfl|rfl<;>first|exact n1_0|exact n1_1) F16 b16 (JU X G ac1)
 let u:U:=⟨l.prog,w,K,mg,base,(0:Nat),(0:Nat)⟩
 have q0:Q0 u:=⟨⟨⟨⟨⟨⟨⟨⟨⟨⟨⟨⟨⟨⟨⟨⟨⟨⟨⟨⟨⟨⟨⟨⟨⟨⟨⟨⟨⟨⟨⟨⟨⟨(Fv.of X G (Zs.of X G zz) dd0),oB⟩,mB⟩,mj⟩,oh⟩,mw⟩,Ao⟩,AG⟩,wX⟩,yk⟩,E_NoTable⟩,E_NoField⟩,E_Twice⟩,T_GlassError⟩,tS⟩,uc⟩,vv⟩,yd⟩,V_ValueError⟩,⟨_,_,_,ac0,cl0,⟨a0,i0,k0⟩,F0⟩⟩,⟨_,_,_,ac1,cl1,⟨a1,i1,k1⟩,F1⟩⟩,⟨_,_,_,ac2,cl2,⟨a2,i2,k2⟩,F2⟩⟩,⟨_,_,_,ac0,cl0,⟨a3,i3,k3⟩,F3⟩⟩,⟨_,_,_,ac1,cl1,⟨a4,i4,k4⟩,F4⟩⟩,⟨_,_,_,ac0,cl0,⟨a5,i5,k5⟩,F5⟩⟩,⟨_,_,_,ac1,cl1,⟨a6,i6,k6⟩,F6⟩⟩,⟨_,_,_,ac2,cl2,⟨a7,i7,k7⟩,F7⟩⟩,⟨_,_,_,ac2,cl2,⟨a8,i8,k8⟩,F8⟩⟩,⟨_,_,_,ac3,cl3,⟨a9,i9,k9⟩,F9⟩⟩,⟨_,_,_,ac0,cl0,⟨a10,i10,k10⟩,F10⟩⟩,⟨_,_,_,ac2,cl2,⟨a10_2,i10,k10⟩,F10⟩⟩,⟨_,_,_,ac3,cl3,⟨a10_3,i10,k10⟩,F10⟩⟩,⟨_,_,_,ac0,cl0,⟨a11,i11,k11⟩,F11⟩⟩,⟨_,_,_,ac2,cl2,⟨a12,i12,k12⟩,F12⟩⟩
 exact BR (u:=u) F13 (GP (Gk (Gi (Ge (GU (Gu (Gb (G6 (Gv (Gn (GV (GZ (GX (GN (GO (e20 (Gg (GK (GA (Gp (G5 (Gd (GQ (GW (EQ (e10 (e9 (e8 (e7 (e6 (e5 (e4 (e3 (e2 (e1 q0)))))))))))))))))))))))))))))))))))
theorem walk{l:JG}{q:Kj}{loose:ao}{XP:(bj)->Kl->Prop}{YP:Ki->Kl->Prop}{d:DefRec}{K:Params->Jo}(hn:l.most=some 63)(hdf:d.params.defaults=[])
  (hY:∀(w:Ki)(h:Kl),YP w h->(K w.params).In h)
  (F:∀ (w:Ki) (mg:bj) (fa:Ke) (h:Kl),(K w.params).In h->h.Ns Kn mg->mg d.name=some (.ref fa) ->
   ∃fd:KU,(∀(s:Kh)(u:Kc),KW s fd ⟨[u],[]⟩ [("_law_script",u)])/\∀base:Kl,(K w.params).In base->base.Ns Kn mg->dJ l.prog w (K w.params) mg base (gu l.prog w) 29 fa fd ["_law_script"] (uN (K w.params) 1 (aA kB 1 17)))
  (math:∀ns:List Int,ns.length<=63->aA kB 1 17 [.lst (ns.map .int)]=.ok (.bl true)):PySem.W.WalkO q loose XP YP l.row.toRowW d [] (λf vs=>PySem.call f vs):=
 L2.DC (n:=63) (k:=29) (x:="_law_script") (CX:=λw=>gu l.prog w) (sp:=λw=>uN (K w.params) 1 (aA kB 1 17)) hn (by decide) hdf ⟨rfl,by decide,by decide⟩ hY F
  (λw H a ns hl _ hS=>⟨[],[.lst (ns.map .int)],rfl,⟨trivial,λa h=>nomatch h⟩,by rw[ym];exact aQ.mpr ⟨.ref a,[],rfl,bC.mpr ⟨a,_,rfl,hS,mS ns⟩,bQ.mpr rfl⟩,by rw[math ns hl];exact λv H' _ d=>gD.mp d⟩) λ_ _ _ _ _ z=>by obtain⟨_,_,_,_,_,_,_,_,_,_,_,_,_,_,z⟩:=z;exact z
end Tk60
namespace Tk60
open PySem PySem.Spec L2 TG TD T4
local macro_rules|`(‹$x›)=>do if x.raw.isOfKind `num then Lean.Macro.throwUnsupported else `(some (S.val $x))
local macro_rules
 |`(tactic| simp! only[$xs,*])=>`(tactic| simp only[bI,mL,lP,mW,ku,dk,ge_0,sX,jS,t6,jW,iq,jx,jR,t5,tY,sQ,sO,tU,jM,jP,ni,eR,iu,jK,iw,nI,jF,jU,hZ,jL,fJ,jE,fE,fj,ed,dZ,j5,h7,dW,ia,eT,gV,hJ,gf,ip,fA,jv,g7,eW,fU,ii,hV,tL,nJ,uv,tW,t3,kh,gU,jV,ic,gX,uk,tG,Jc,Jd,Hx,HR,HZ,Io,K0,env0,List.replicate,IQ,HB,II,Nat.reduceAdd,Nat.reduceSub,Hw,HV,kd,jC,mQ,jQ,kg,jB,dX,iV,mV,nR,mF,ke,fq,eY,fz,fu,fe,eZ,m7,mR,nG,iL,iJ,kr,fh,eS,cN,cU,kc,dY,cS,cP,dh,jJ,j4,df,cV,fI,fD,iy,gY,eP,ie,jw,jy,gW,g5,gN,if_true,if_false,Je,Jf,HY,$xs,*])
noncomputable def LS:Str:="abcdefghijklmnopqrstuvwxyz"
noncomputable def LT:List Nat:=LS.cps.toList
theorem ou:LT.length=26:=by decide +kernel
theorem A2:LS.length=26:=by decide +kernel
theorem CL:LT.Nodup:=by decide +kernel
noncomputable def lt(i:Int):Nat:=LT.getD i.toNat 0
noncomputable def kJ(n:Nat):Str:=⟨#[n]⟩
theorem zl(i:Int)(h0:0<=i)(h1:i<26):aI (.str LS) (.int i)=some (.str (kJ (lt i))):=by
 have hl:=A2;have e:aI (.str LS) (.int i)=if small LS.length then(jI LS.cps.toList i).bind λc=>some (D.str ⟨#[c]⟩)else none:=rfl
 rw[e,cJ `o,if_pos rfl,xA h0 (by show i<(LT.length:Int);rw[ou];omega)];show some _=some _;congr 1;show D.str ⟨#[_]⟩=D.str ⟨#[LT.getD i.toNat 0]⟩;rw[Ja,Ii (by rw[ou];omega)];rfl
theorem Aj{i j:Int}(hi:0<=i)(hi':i<26)(hj:0<=j)(hj':j<26)(h:lt i=lt j):i=j:=by
 unfold lt at h;rw[Ja,Ja,Ii (by rw[ou];omega),Ii (by rw[ou];omega)]at h
 have:=(Hm CL).mp h
 omega
noncomputable def oX(c:Int):Nat:=(1+c%8).toNat
noncomputable def uO(c:Int):Nat:=(c/8%(1+c%8)).toNat
noncomputable def AB(c k:Int)(j:Nat):Nat:=if j=uO c then lt ((c/64+k)%26)else lt (c/(64+7*(j:Int)*(j:Int))%26)
noncomputable def NM(c k:Int):Str:=⟨((List.range (oX c)).map (AB c k)).toArray⟩
theorem Cd(c:Int):1<=oX c/\oX c<=8/\uO c<oX c/\1+c%8=(oX c:Int)/\c/8%(1+c%8)=(uO c:Int):=by
 have h1:0<=c%8:=Jh _ (by decide);have h2:c%8<8:=Ji _ (by decide);have h3:=Jh (c/8) (show 1+c%8≠0 by omega);have h4:=Ji (c/8) (show 0<1+c%8 by omega);unfold oX uO;omega
theorem vO(c k:Int):(NM c k).cps.toList=(List.range (oX c)).map (AB c k):=by unfold NM;simp
theorem vX{c j k:Int}(hj:0<=j)(hk:0<=k)(hd:j-k<26/\k-j<26)(h:NM c j=NM c k):j=k:=by
 have e:(NM c j).cps.toList=(NM c k).cps.toList:=by rw[h]
 rw[vO,vO]at e;obtain⟨_,_,h3,_⟩:=Cd c;have e2:=congrArg (λl=>l[uO c]?) e;simp only[HH,Iw h3,IZ,AB,if_true,Option.some.injEq]at e2
 have:=Aj `o `o `o `o e2
 omega
theorem pz(g:Array Nat)(hg:g.toList=[]):∀(ps:ao)(a:Array Nat),(ps.foldl (λacc p=>acc++g++p.cps) a).toList=a.toList++(ps.map (λy=>y.cps.toList)).flatten
 |[],a=>by simp
 |p::ps,a=>by
  rw[List.foldl_cons,pz g hg ps];simp[hg]
theorem vw(ys:ao):(Txt.join "" ys).cps.toList=(ys.map (λy=>y.cps.toList)).flatten:=by
 have e0:(("":Str)).cps.toList=[]:=by decide +kernel
 cases ys with
 |nil=>show(List.foldl _ _ _:Array Nat).toList=_;simp[Str.empty]
 |cons y ys=>
  show(List.foldl (λacc p=>acc++(("":Str)).cps++p.cps) y.cps ys).toList=_;rw[pz _ e0];simp
theorem pV(f:Nat->Nat):∀xs:List Nat,((xs.map λj=>kJ (f j)).map (λy=>y.cps.toList)).flatten=xs.map f
 |[]=>rfl
 |x::xs=>by
  rw[Hx,Hx,List.flatten_cons,pV f xs];show[f x]++_=_;rfl
theorem vV(f:Nat->Nat)(n:Nat)(h:n<=100):nO "" [.lst (((List.range n).map λj=>kJ (f j)).map .str)]=some (.str ⟨((List.range n).map f).toArray⟩):=by
 have hs:((((List.range n).map λj=>kJ (f j))).map (λy=>y.length)).sum<=1000:=by
  refine Hg (wf 1 _ λw hw=>?_) (by simp;omega);obtain⟨j,_,rfl⟩:=List.mem_map.mp hw;show(#[f j]).size<=1;simp
 have e0:(("":Str)).length=0:=by decide +kernel
 generalize hy:((List.range n).map λj=>kJ (f j))=ys at hs;have e:nO "" [.lst (ys.map .str)]=(js (ys.map .str)).bind λys=>if small ((ys.map (λy=>y.length)).sum+ys.length*(("":Str)).length)then some (.str (Txt.join "" ys))else none:=rfl
 rw[e,lI];show(if small _ then _ else _)=_;rw[e0,cJ `o,if_pos rfl];congr 2;have c:=vw ys;rw[<-hy,pV]at c
 have:(Txt.join "" ys).cps=((List.range n).map f).toArray:=by
  apply Array.toList_inj.mp;rw[<-hy,c]
 cases hq:Txt.join "" ys with
 |mk a=>rw[hq]at this;rw[show a=_ from this]
theorem set_range(n a:Nat)(f:Nat->D)(y:D):((List.range n).map f).set a y=(List.range n).map λj=>if j=a then y else f j:=by
 apply List.ext_getElem?;intro j;rw[List.getElem?_set,HH,HH,Hy,Ir];by_cases hj:j<n
 ·rw[Iw hj];by_cases e:a=j
  ·subst e;simp[hj]
  ·rw[if_neg e];simp[Ne.symm e]
 ·rw[IW (by rw[Ir];omega)];by_cases e:a=j
  ·subst e;simp[hj]
  ·simp[e]
theorem BJ{i:Nat}{fi fv:FX}{k:Ks}{ρ:ai}{xs:List D}{j:Int}{n:Nat}{v:D}(h:ρ[i]?=some (some (.own (.lst xs))))(hv:fv ρ=.ok v)(hi:fi ρ=.ok (.int j))(hn:p6 xs.length j=some n):lM i fi fv k ρ=k.nx (ρ.set i (some (.own (.lst (xs.set n v))))):=by
 unfold lM;rw[h];simp only[hv,hi,bI,lP,hn]
theorem cX(c k:Int):aA av 2 6 [.int c,.int k]=.ok (.str (NM c k)):=by
 obtain⟨b1,b2,b3,b4,b5⟩:=Cd c;have g8:=λi=>om (i:=i) (show(0:Int)<8 by decide);have gn:=λi=>om (i:=i) (show(0:Int)<(oX c:Int)by omega);have g26:=λi=>om (i:=i) (show(0:Int)<26 by decide);have d8:=λi=>jD (i:=i) (show(0:Int)<8 by decide) (show(8:Int)<10^200 by decide);have d64:=λi=>jD (i:=i) (show(0:Int)<64 by decide) (show(64:Int)<10^200 by decide);have b5':c/8%(oX c:Int)=(uO c:Int):=by rw[<-b4];exact b5
 have f0:kU [none,some 2,some 0] (eI (aa (ae 3) ah)) (gN 0) gk (f2 aI (ae 1) (f2 dH (f2 fG (ae 2) (f2 bX (fC (.int 64)) (f2 oS (f2 oS (fC (.int 7)) (ae 0)) (ae 0)))) (fC (.int 26)))) [‹.int c›,‹.int k›,‹.str LS›,‹.int (oX c)›,‹.int (uO c)›,none]=.ok (.lst ((List.range (oX c)).map λ(j:Nat)=>.str (kJ (lt (c/(64+7*(j:Int)*(j:Int))%26))))):=by
  refine oy (ds:=cG 0 (oX c)) (by simp! only[jX (oX c) `o]) (by rw[eE];omega) ?_;rw[mD];refine rQ (λ(k:Nat)=>D.int (0+(k:Int))) _ _ λj hj=>?_;have hj:=List.mem_range.mp hj;have sq:(0:Int)<=7*(j:Int)*(j:Int):=Int.mul_nonneg `o `o;have sq2:7*(j:Int)*(j:Int)<=56*8:=Int.mul_le_mul `o `o `o (by decide);refine⟨_,rfl,rfl,?_⟩;rw[Int.zero_add];simp! only[ye (i:=7) (j:=(j:Int)) (by decide) (by decide),xY (i:=7*(j:Int)) (j:=(j:Int)) `o `o,jD (i:=c) (j:=64+7*(j:Int)*(j:Int)) `o `o,g26,zl _ (Jh (c/(64+7*(j:Int)*(j:Int))) (by decide)) (Ji _ (by decide))]
 have ey:=zl _ (Jh (c/64+k) (show(26:Int)≠0 by decide)) (Ji _ (by decide));have hix:p6 (((List.range (oX c)).map λ(j:Nat)=>D.str (kJ (lt (c/(64+7*(j:Int)*(j:Int))%26))))).length (uO c:Int)=some (uO c):=by
  rw[Hy,Ir];unfold p6;simp[b3]
 rw[dL];unfold av;simp! only[show("abcdefghijklmnopqrstuvwxyz":Str)=LS from rfl,g8,b4,d8,gn,b5',f0];rw[BJ (v:=.str (kJ (lt ((c/64+k)%26)))) (j:=(uO c:Int)) (n:=uO c) rfl (by simp! only[d64,g26,ey]) (by simp! only[]) hix,set_range];have ee:((List.range (oX c)).map λ(j:Nat)=>if j=uO c then D.str (kJ (lt ((c/64+k)%26)))else D.str (kJ (lt (c/(64+7*(j:Int)*(j:Int))%26))))=((List.range (oX c)).map λj=>kJ (AB c k j)).map .str:=by
  rw[IU];refine Ip λj _=>?_;show _=D.str (kJ (AB c k j));unfold AB;split<;>rfl
 rw[ee];simp! only[yL,iV,vV (AB c k) (oX c) `o];rfl
theorem gm(j:Int)(h:0<j:=by decide):∀i:Int,dH (.int i) (.int j)=some (.int (i%j)):=λi=>om (i:=i) h
theorem gd(j:Int)(h:0<j:=by decide)(h':j<10^200:=by decide):∀i:Int,fG (.int i) (.int j)=some (.int (i/j)):=λi=>jD (i:=i) h h'
noncomputable abbrev fo(x0 x1 x2:Str)(k0 k1 k2:D):D:=.tup [.tup [.tup [.str x0,k0]],.tup [.tup [.str x1,k1],.tup [.str x2,k2]]]
noncomputable abbrev kn(lo hi:Int):D:=.tup [.str "number",.int lo,.int hi]
noncomputable abbrev kw:D:=.tup [.str "word",.tup [.str "",.str "a",.str "b"]]
noncomputable def Row(d:D):Prop:=∃(i:Int)(w:Str)(j:Int),d=.tup [.int i,.str w,.int j]
theorem pP(x0 x1 x2:Str)(lo hi:Int)(k1 k2:D)(cs:List Int)(hl:cs.length<=70):∃rows:List D,aA aS 2 5 [fo x0 x1 x2 (kn lo hi) k1 k2,.lst (cs.map .int)]=.ok (.tup rows)/\rows.length<=70/\∀r∈rows,Row r:=by
 have p40:iz (.int 10) (.int 40)=some (.int (10^40)):=oH 10 40 (by decide) (by decide);have p30:iz (.int 10) (.int 30)=some (.int (10^30)):=oH 10 30 (by decide) (by decide);have g30:=λi:Int=>gm (10^30) (by decide) i;have q40:(0:Int)<10^40:=by decide
 have Dk:iE []=some (.lst []):=nr rfl;have ml3:iE [.str "",.str "a",.str "b"]=some (.lst [.str "",.str "a",.str "b"]):=nW `h;obtain⟨B,hB⟩:∃F:bu,F=(aB (bb 3 (f2 bX (f2 bX (ae 3) (fC (.int 1))) (f2 dH (ae 4) (f2 aI (gr (aa (fC (.int 3)) (aa (f2 iz (fC (.int 10)) (fC (.int 40))) ah))) (f2 dH (ae 4) (fC (.int 2))))))) (aB (zD 2 nX (aa (bF (aa (ae 3) (aa (f2 aI (gr (aa (fC (.str "")) (aa (fC (.str "a")) (aa (fC (.str "b")) ah)))) (f2 dH (f2 fG (ae 4) (fC (.int 6))) (fC (.int 3)))) (aa (f2 dH (f2 fG (ae 4) (fC (.int 18))) (f2 iz (fC (.int 10)) (fC (.int 30)))) ah)))) ah)) (du [4] bR))):=⟨_,rfl⟩
 generalize (10:Int)^40=P at p40 q40;generalize (10:Int)^30=P3 at p30 g30;have fin:∀Q:R D->Prop,(∀rows:List D,rows.length=cs.length->(∀r∈rows,Row r)->Q (.ok (.tup rows)))->Q (aA aS 2 5 [fo x0 x1 x2 (kn lo hi) k1 k2,.lst (cs.map .int)]):=λQ hQ=>by
  rw[dL];unfold aS;rw[<-hB];simp! only[Dk];refine kX (Q:=Q) (λi ρ=>∃(rows:List D)(at':Int),rows.length=i/\(∀r∈rows,Row r)/\ρ=[none,‹.lst (cs.map .int)›,some (.own (.lst rows)),‹.int at'›,none]) ?_ ⟨[],lo,rfl,λr hr=>(nomatch hr),rfl⟩ ?_
  ·rintro i d ρ kk hd ⟨rows,at',rl,rr,rfl⟩;have hi:=fH hd;rw[Hy]at hi;rw[HH]at hd;obtain⟨c,hc,rfl⟩:=Option.map_eq_some_iff.mp hd;have FZ:iE [.int 3,.int P]=some (.lst [.int 3,.int P]):=nW `h;obtain⟨m,m0,hm⟩:∃m:Int,0<m/\aI (.lst [.int 3,.int P]) (.int (c%2))=some (.int m):=by
    rcases(show c%2=0\/c%2=1 by omega)with e|e
    ·rw[e];exact⟨3,by decide,iL _ _⟩
    ·rw[e];exact⟨P,q40,iJ _ _ _⟩
   obtain⟨w,hw⟩:∃w:Str,aI (.lst [.str "",.str "a",.str "b"]) (.int (c/6%3))=some (.str w):=by
    rcases(show c/6%3=0\/c/6%3=1\/c/6%3=2 by omega)with e|e|e
    ·rw[e];exact⟨_,iL _ _⟩
    ·rw[e];exact⟨_,iJ _ _ _⟩
    ·rw[e];exact⟨_,kr _ _ _ _⟩
   have dm:=gm m m0 c;have mt:=bN (xs:=[.int (at'+1+c%m),.str w,.int (c/18%P3)]) `h;have ap:=qG (xs:=rows) (y:=.tup [.int (at'+1+c%m),.str w,.int (c/18%P3)]) `o;refine⟨_,_,rfl,⟨rows++[.tup [.int (at'+1+c%m),.str w,.int (c/18%P3)]],at'+1+c%m,by rw[HJ,rl];rfl,λr hr=>?_,rfl⟩,?_⟩
   ·rcases List.mem_append.mp hr with z|z
    ·exact rr r z
    ·rw[List.mem_singleton.mp z];exact⟨_,_,_,rfl⟩
   ·have sm:=λK:Ks=>wg 2 nX (aa (bF (aa (ae 3) (aa (f2 aI (gr (aa (fC (.str "")) (aa (fC (.str "a")) (aa (fC (.str "b")) ah)))) (f2 dH (f2 fG (ae 4) (fC (.int 6))) (fC (.int 3)))) (aa (f2 dH (f2 fG (ae 4) (fC (.int 18))) (f2 iz (fC (.int 10)) (fC (.int 30)))) ah)))) ah) K [none,‹.lst (cs.map .int)›,some (.own (.lst rows)),‹.int (at'+1+c%m)›,‹.int c›] (xs:=rows) rfl;rw[hB];simp! only[p40,p30,gm 2,gm 3,gd 6,gd 18,FZ,ml3,hm,hw,dm,g30,sm,mt,ap]
  ·rintro ρ' ⟨rows,at',rl,rr,rfl⟩;rw[Hy]at rl;have h:=hQ rows rl rr;simp! only[];exact h
 exact fin (λx=>∃rows:List D,x=.ok (.tup rows)/\rows.length<=70/\∀r∈rows,Row r) λrows h1 h2=>⟨rows,rfl,by omega,h2⟩
noncomputable def fF(z1 z2:Int)(k:Nat):D:=fo (NM z1 (k:Int)) (NM z1 (5+(k:Int))) (NM z1 (10+(k:Int))) (kn (z2/((k:Int)+1)%1000-500) (10^50)) kw (kn (-5) (10^30))
noncomputable abbrev nK(z0:Int)(k:Nat):Key:=.inr (NM z0 (k:Int))
noncomputable def al(z0:Int)(f:Nat->D)(n:Nat):List (Key×D):=(List.range n).map λk=>(nK z0 k,f k)
theorem B4(z0:Int)(f:Nat->D)(n:Nat):al z0 f (n+1)=al z0 f n++[(nK z0 n,f n)]:=by
 unfold al;rw[List.range_succ,Iq];rfl
theorem qT{z0:Int}{j k:Nat}(hj:j<26)(hk:k<26)(h:nK z0 j=nK z0 k):j=k:=by
 have:=vX (c:=z0) (j:=j) (k:=k) `o `o `o (Sum.inr.inj h)
 omega
theorem wc(z0:Int)(f:Nat->D)(n:Nat)(hn:n<26)(v:D):bG (al z0 f n) (nK z0 n) v=al z0 f n++[(nK z0 n,v)]:=by
 unfold bG;rw[if_neg];intro h;obtain⟨p,hp,e⟩:=List.any_eq_true.mp h;obtain⟨j,hj,rfl⟩:=List.mem_map.mp hp;have hj:=List.mem_range.mp hj
 have:=qT `o hn (of_decide_eq_true e)
 omega
theorem lA{n i:Nat}{d:D}(h:(cG 0 n)[i]?=some d):i<n/\d=.int (i:Int):=by
 have hl:=fH h;rw[eE]at hl;rw[mD,HH,Iw hl]at h;cases h;exact⟨hl,by show D.int (0+(i:Int))=_;rw[Int.zero_add]⟩
theorem fw(ns:List Int)(k:Nat):aA au 2 2 [.lst (ns.map .int),.int k]=.ok (.int (ns.getD k 0)):=yM ns k
theorem wa(ns:List Int)(n:Nat)(hn:n<=4):aA cB 2 9 [.lst (ns.map .int),.int n]=.ok (af (al (ns.getD 0 0) (fF (ns.getD 1 0) (ns.getD 2 0)) n)):=by
 have c0:aA au 2 2 [.lst (ns.map .int),.int 0]=.ok (.int (ns.getD 0 0)):=fw ns 0;have c1:aA au 2 2 [.lst (ns.map .int),.int 1]=.ok (.int (ns.getD 1 0)):=fw ns 1;have c2:aA au 2 2 [.lst (ns.map .int),.int 2]=.ok (.int (ns.getD 2 0)):=fw ns 2;generalize ns.getD 0 0=z0 at *;generalize ns.getD 1 0=z1 at *;generalize ns.getD 2 0=z2 at *;have p50:iz (.int 10) (.int 50)=some (.int (10^50)):=oH 10 50 (by decide) (by decide);have p30:iz (.int 10) (.int 30)=some (.int (10^30)):=oH 10 30 (by decide) (by decide);have rg:=jX n `o;obtain⟨B,hB⟩:∃F:bu,F=(aB (bb 5 (f2 qm (f2 dH (f2 fG (fR (aA au 2 2) (aa (ae 0) (aa (fC (.int 2)) ah))) (f2 bX (ae 4) (fC (.int 1)))) (fC (.int 1000))) (fC (.int 500)))) (aB (bb 6 (bF (aa (fR (aA av 2 6) (aa (ae 3) (aa (ae 4) ah))) (aa (bF (aa (fC (.str "number")) (aa (ae 5) (aa (f2 iz (fC (.int 10)) (fC (.int 50))) ah)))) ah)))) (aB (bb 7 (bF (aa (fR (aA av 2 6) (aa (ae 3) (aa (f2 bX (fC (.int 5)) (ae 4)) ah))) (aa (bF (aa (fC (.str "word")) (aa (bF (aa (fC (.str "")) (aa (fC (.str "a")) (aa (fC (.str "b")) ah)))) ah))) ah)))) (aB (bb 8 (bF (aa (ae 7) (aa (bF (aa (fR (aA av 2 6) (aa (ae 3) (aa (f2 bX (fC (.int 10)) (ae 4)) ah))) (aa (bF (aa (fC (.str "number")) (aa (v7 (fC (.int 5))) (aa (f2 iz (fC (.int 10)) (fC (.int 30))) ah)))) ah))) ah)))) (aB (dN 2 (fR (aA av 2 6) (aa (fR (aA au 2 2) (aa (ae 0) (aa (fC (.int 0)) ah))) (aa (ae 4) ah))) (bF (aa (bF (aa (ae 6) ah)) (aa (ae 8) ah)))) (du [4,5,6,7,8] bR)))))):=⟨_,rfl⟩
 rw[dL];unfold cB;rw[<-hB];have dn:lB=(λ_=>.ok (af [])):=rfl;simp! only[c1,rg,dn];refine kX (Q:=λx=>x=.ok (af (al z0 (fF z1 z2) n))) (λi ρ=>ρ=[‹.lst (ns.map .int)›,‹.int n›,some (.own (af (al z0 (fF z1 z2) i))),‹.int z1›,none,none,none,none,none]) ?_ rfl ?_
 ·rintro i d ρ kk hd rfl;have hi:=fH hd;rw[eE]at hi;have hd':d=.int (i:Int):=(lA hd).2;subst hd';have e0:=cX z1 (i:Int);have e1:=cX z1 (5+(i:Int));have e2:=cX z1 (10+(i:Int));have e3:=cX z0 (i:Int);have dv:=jD (i:=z2) (j:=(i:Int)+1) `o (Int.lt_trans (show(i:Int)+1<100 by omega) (by decide));refine⟨_,_,rfl,rfl,?_⟩;have DJ:=bN (xs:=[.str "number",.int (z2/((i:Int)+1)%1000-500),.int (10^50)]) `h;have By:=bN (xs:=[.str (NM z1 (i:Int)),kn (z2/((i:Int)+1)%1000-500) (10^50)]) `h;have FU:=bN (xs:=[.str "",.str "a",.str "b"]) `h;have mt4:=bN (xs:=[.str "word",.tup [.str "",.str "a",.str "b"]]) `h;have mt5:=bN (xs:=[.str (NM z1 (5+(i:Int))),kw]) `h;have mt6:=bN (xs:=[.str "number",.int (-5),.int (10^30)]) `h;have mt7:=bN (xs:=[.str (NM z1 (10+(i:Int))),kn (-5) (10^30)]) `h;have mt8:=bN (xs:=[.tup [.str (NM z1 (5+(i:Int))),kw],.tup [.str (NM z1 (10+(i:Int))),kn (-5) (10^30)]]) `h;have mt9:=bN (xs:=[.tup [.str (NM z1 (i:Int)),kn (z2/((i:Int)+1)%1000-500) (10^50)]]) `h;have mtA:=bN (xs:=[.tup [.tup [.str (NM z1 (i:Int)),kn (z2/((i:Int)+1)%1000-500) (10^50)]],.tup [.tup [.str (NM z1 (5+(i:Int))),kw],.tup [.str (NM z1 (10+(i:Int))),kn (-5) (10^30)]]]) `h;have ll:(al z0 (fF z1 z2) i).length<=1000:=by unfold al;rw[Hy,Ir];omega
  have pu:=λ(K:Ks)=>hX (i:=2) (fk:=(fR (aA av 2 6) (aa (fR (aA au 2 2) (aa (ae 0) (aa (fC (.int 0)) ah))) (aa (ae 4) ah)))) (fv:=(bF (aa (bF (aa (ae 6) ah)) (aa (ae 8) ah)))) (k:=K) (ρ:=[‹.lst (ns.map .int)›,‹.int n›,some (.own (af (al z0 (fF z1 z2) i))),‹.int z1›,‹.int i›,‹.int (z2/((i:Int)+1)%1000-500)›,‹.tup [.str (NM z1 (i:Int)),kn (z2/((i:Int)+1)%1000-500) (10^50)]›,‹.tup [.str (NM z1 (5+(i:Int))),kw]›,‹.tup [.tup [.str (NM z1 (5+(i:Int))),kw],.tup [.str (NM z1 (10+(i:Int))),kn (-5) (10^30)]]›]) (al:=al z0 (fF z1 z2) i) (q:=nK z0 i) (d:=.str (NM z0 i)) (v:=fF z1 z2 i) rfl (by
   generalize af (al z0 (fF z1 z2) i)=W;simp! only[c0,e3]) rfl (by
   generalize af (al z0 (fF z1 z2) i)=W;simp! only[mt9,mtA];rfl) ll
  rw[wc z0 _ i `o,<-B4]at pu;generalize af (al z0 (fF z1 z2) i)=W at pu ⊢;generalize af (al z0 (fF z1 z2) (i+1))=W2 at pu ⊢;rw[hB];simp! only[c2,dv,gm 1000,e0,e1,e2,p50,p30,DJ,By,FU,mt4,mt5,mt6,mt7,mt8,pu]
 ·rintro ρ' rfl;rw[eE];generalize af (al z0 (fF z1 z2) n)=W;simp! only[]
noncomputable abbrev iN(o n:Str):D:=.obj "Rename" ["old","new"] [.str o,.str n]
theorem Br{o n:Str}:bZ "old" ["Rename"] (iN o n)=some (.str o):=by rfl
theorem Ap{o n:Str}:bZ "new" ["Rename"] (iN o n)=some (.str n):=by rfl
theorem tB(c:Str)(f:aH)(k:Ks)(ρ:ai):iO c f k ρ=kL (f ρ) k ρ λds=>if small ds.length then k.ex ⟨c,[],[]⟩ ρ else un:=nr rfl
theorem Gc:small (0+1)=true:=by rfl
theorem ul(kf rf:List D)(ps:List (Str×D))(hl:ps.length<=100)(e:kf++rf=ps.map fld)(hn:(ps.map (·.1)).Nodup)(i:Nat)(nm:Str)(k:D)(hi:ps[i]?=some (nm,k)):
  aA eD 2 4 [.tup [.tup kf,.tup rf],.str nm]=.ok (.int i):=by
 have en:=lO kf rf ps hl e;rw[dL];unfold eD;rw[gf,fU];simp! only[en,sZ];have di:(eh 0 (ps.map λp=>D.str p.1))[i]?=some (.tup [.int ((i:Nat):Int),.str nm]):=by
  rw[lE,HH,hi,II];rfl
 refine nc (Q:=λz=>z=.ok (.int i)) (λ_ ρ=>ρ=[‹.tup [.tup kf,.tup rf]›,‹.str nm›,none,none]) _ 0 i _ _ di ?_ rfl ?_
 ·rintro j d ρ k' hj hd rfl;rw[lE,HH]at hd;have hil:=fH hi;have hjl:j<ps.length:=by omega
  rw[Ii hjl]at hd;cases hd;have ne:(ps[j].1==nm)=false:=by
   have h1:=List.pairwise_iff_getElem.mp hn j i (by rw[Hy];exact hjl) (by rw[Hy];exact hil) hj;rw[List.getElem_map,List.getElem_map]at h1;have h2:ps[i]=(nm,k):=(by rw[Ii hil]at hi;exact Option.some.inj hi);rw[h2]at h1
   simpa using h1
  refine⟨[‹.tup [.tup kf,.tup rf]›,‹.str nm›,‹.int ((0+j:Nat):Int)›,‹.str ps[j].1›],_,rfl,rfl,?_⟩;simp! only[ne]
 ·rintro ρ k' rfl;refine⟨[‹.tup [.tup kf,.tup rf]›,‹.str nm›,‹.int (i:Int)›,‹.str nm›],rfl,?_⟩;simp! only[BEq.rfl]
noncomputable def rn(kf rf:List D)(i:Nat)(x:D):D:=if i<kf.length then .tup [.tup (kf.set i x),.tup rf]else .tup [.tup kf,.tup (rf.set (i-kf.length) x)]
theorem rC{α:Type}(xs:List α)(i:Nat)(x:α)(h:i<xs.length):xs.take i++[x]++xs.drop (i+1)=xs.set i x:=by
 rw[List.set_eq_take_append_cons_drop,if_pos h,IB];rfl
theorem v8(ps:List (Str×D))(x:Str):Bz (.str x) (.tup (ps.map λp=>.str p.1))=some (.bl ((ps.map (·.1)).contains x)):=by
 have:=yN x (ps.map (·.1))
 rwa [IU]at this
theorem oJ{kf rf:List D}{ps:List (Str×D)}{i:Nat}{o:Str}{k:D}(hl:ps.length<=16)(e:kf++rf=ps.map fld)(hn:(ps.map (·.1)).Nodup)(hi:ps[i]?=some (o,k))(nw:Str)(hw:nw∉ps.map (·.1)):aA ak 2 3 [iN o nw,.tup [.tup kf,.tup rf]]=.ok (rn kf rf i (.tup [.str nw,k])):=by
 have il:=fH hi;have len:kf.length+rf.length=ps.length:=by
  have:=congrArg List.length e
  rwa [HJ,Hy]at this
 have p1:=ul kf rf ps `o e hn i o k hi;have p2:=lO kf rf ps `o e;have p3:=ur kf rf ps `o e i o k hi;have p4:=sW kf rf [.tup [.str nw,k]] i (by simp;omega);have p5:(ps.map (·.1)).contains nw=false:=by simpa using hw
 have ew:(if i<kf.length then D.tup [.tup (kf.take i++[.tup [.str nw,k]]++kf.drop (i+1)),.tup rf]else .tup [.tup kf,.tup (rf.take (i-kf.length)++[.tup [.str nw,k]]++rf.drop (i-kf.length+1))])=rn kf rf i (.tup [.str nw,k]):=by
  unfold rn;split
  ·rename_i hh;rw[rC _ _ _ hh]
  ·rw[rC _ _ _ `o]
 rw[ew]at p4;have DJ:=bN (xs:=[.str nw,k]) `h;have By:=bN (xs:=[.tup [.str nw,k]]) `h;rw[dL];unfold ak;simp! only[Br,Ap,p1,p2,p3,v8,p5,DJ,By,p4]
theorem CW{x0 x1 x2 nw:Str}{k0 k1 k2:D}(h01:x0≠x1)(h02:x0≠x2)(h12:x1≠x2)(w0:nw≠x0)(w1:nw≠x1)(w2:nw≠x2):aA ak 2 3 [iN x0 nw,fo x0 x1 x2 k0 k1 k2]=.ok (fo nw x1 x2 k0 k1 k2):=
 oJ (kf:=[.tup [.str x0,k0]]) (rf:=[.tup [.str x1,k1],.tup [.str x2,k2]]) (ps:=[(x0,k0),(x1,k1),(x2,k2)]) (i:=0) `h rfl (by simp[h01,h02,h12]) rfl nw (by simp[w0,w1,w2])
theorem CO{x0 x1 x2 nw:Str}{k0 k1 k2:D}(h01:x0≠x1)(h02:x0≠x2)(h12:x1≠x2)(w0:nw≠x0)(w1:nw≠x1)(w2:nw≠x2):aA ak 2 3 [iN x1 nw,fo x0 x1 x2 k0 k1 k2]=.ok (fo x0 nw x2 k0 k1 k2):=
 oJ (kf:=[.tup [.str x0,k0]]) (rf:=[.tup [.str x1,k1],.tup [.str x2,k2]]) (ps:=[(x0,k0),(x1,k1),(x2,k2)]) (i:=1) `h rfl (by simp[h01,h02,h12]) rfl nw (by simp[w0,w1,w2])
theorem CN{x0 x1 x2 nw:Str}{k0 k1 k2:D}(h01:x0≠x1)(h02:x0≠x2)(h12:x1≠x2)(w0:nw≠x0)(w1:nw≠x1)(w2:nw≠x2):aA ak 2 3 [iN x2 nw,fo x0 x1 x2 k0 k1 k2]=.ok (fo x0 x1 nw k0 k1 k2):=
 oJ (kf:=[.tup [.str x0,k0]]) (rf:=[.tup [.str x1,k1],.tup [.str x2,k2]]) (ps:=[(x0,k0),(x1,k1),(x2,k2)]) (i:=2) `h rfl (by simp[h01,h02,h12]) rfl nw (by simp[w0,w1,w2])
noncomputable abbrev leaf(t:Str):D:=.obj "Leaf" ["name"] [.str t]
noncomputable abbrev ov(g s:D):D:=.obj "Over" ["glass","step"] [g,s]
theorem rA(t:Str):bZ "name" ["Leaf"] (leaf t)=some (.str t):=by rfl
theorem pj(g s:D):bZ "glass" ["Over"] (ov g s)=some g:=by rfl
theorem se(g s:D):bZ "step" ["Over"] (ov g s)=some s:=by rfl
theorem lZ(m:Str)(t:Str)(g1 g2:bv)(fo:FX)(fas:aH)(ρ:ai)(h:fo ρ=.ok (leaf t))(hm:(["name"]:ao).contains m=false):bi m [("Leaf",g1),("Over",g2)] fo fas ρ=(fas ρ).bind λas=>g1 (leaf t::as):=by
 unfold bi;rw[h,bI]
 have:List.lookup ("Leaf":Str) [(("Leaf":Str),g1),(("Over":Str),g2)]=some g1:=by rw[HX,BEq.rfl]
 simp only[this,hm];rfl
theorem lj(m:Str)(g s:D)(g1 g2:bv)(fo:FX)(fas:aH)(ρ:ai)(h:fo ρ=.ok (ov g s))(hm:(["glass","step"]:ao).contains m=false):bi m [("Leaf",g1),("Over",g2)] fo fas ρ=(fas ρ).bind λas=>g2 (ov g s::as):=by
 unfold bi;rw[h,bI];have h1:(("Over":Str)==("Leaf":Str))=false:=by decide +kernel
 have:List.lookup ("Over":Str) [(("Leaf":Str),g1),(("Over":Str),g2)]=some g2:=by rw[HX,h1,HX,BEq.rfl]
 simp only[this,hm];rfl
theorem rd(m:Str)(o n:Str)(g1:bv)(fo:FX)(fas:aH)(ρ:ai)(h:fo ρ=.ok (iN o n))(hm:(["old","new"]:ao).contains m=false):bi m [("Rename",g1)] fo fas ρ=(fas ρ).bind λas=>g1 (iN o n::as):=by
 unfold bi;rw[h,bI]
 have:List.lookup ("Rename":Str) [(("Rename":Str),g1)]=some g1:=by rw[HX,BEq.rfl]
 simp only[this,hm];rfl
theorem pY(al:List (Key×D))(t:Str){v:D}(h:cA al (.inr t)=some v):dM (af al) (.str t)=some v/\dS (.str t) (af al)=some (.bl false):=by
 have e:zB (af al) (.str t)=some (some v):=by
  show(cy (bY al) (al.map (·.2))).bind _=_;rw[cO];show some (cA al (.inr t))=_;rw[h]
 unfold dM dS;rw[e];exact⟨rfl,rfl⟩
theorem Cb(al:List (Key×D))(t:Str)(h:cA al (.inr t)=none):dS (.str t) (af al)=some (.bl true):=by
 have e:zB (af al) (.str t)=some none:=by
  show(cy (bY al) (al.map (·.2))).bind _=_;rw[cO];show some (cA al (.inr t))=_;rw[h]
 unfold dS;rw[e];rfl
theorem wG(al:List (Key×D)):fX [af al]=some (af al):=by
 show(cy (bY al) (al.map (·.2))).map _=_;rw[cO];rfl
structure Ct(F H:List (Key×D))(t:Str)(tb:D)(n:Nat)(g f:D):Prop where
 nm:∀(fo:FX)(ρ:ai),fo ρ=.ok g->bi "names" [("Leaf",(aA bx 1 1)),("Over",aJ n)] fo ah ρ=.ok (.tup [.str t])
 fm:∀(fo:FX)(fas:aH)(ρ:ai),fo ρ=.ok g->fas ρ=.ok [af F]->bi "form" [("Leaf",(aA bg 2 2)),("Over",aG n)] fo fas ρ=.ok f
 sn:∀(fo:FX)(fas:aH)(ρ:ai),fo ρ=.ok g->fas ρ=.ok [af F,af H]->bi "seen" [("Leaf",(aA bE 3 3)),("Over",aM n)] fo fas ρ=.ok (.tup [f,tb])
 pt:∀(fo:FX)(fas:aH)(ρ:ai)(v:D),fo ρ=.ok g->fas ρ=.ok [af F,af H,v]->fV "put" [("Leaf",(aA bW 4 5)),("Over",aU n)] fo fas ρ=.ok (af (bG H (.inr t) v))
 cl:(∃t,g=leaf t)\/∃a b,g=ov a b
theorem zh{F H:List (Key×D)}{t:Str}{f tb:D}(hF:cA F (.inr t)=some f)(hH:cA H (.inr t)=some tb)(hl:H.length<=900)(n:Nat):Ct F H t tb n (leaf t) f:=by
 obtain⟨e1,e2⟩:=pY F t hF;obtain⟨h1,h2⟩:=pY H t hH;have fn:=rA t;refine⟨λfo ρ h=>?_,λfo fas ρ h h'=>?_,λfo fas ρ h h'=>?_,λfo fas ρ v h h'=>?_,.inl ⟨t,rfl⟩⟩
 ·rw[lZ _ t _ _ fo ah ρ h (by decide +kernel)];show aA bx 1 1 [leaf t]=_;have mt:=bN (xs:=[.str t]) `h;rw[oI];unfold bx;simp! only[fn,mt]
 ·rw[lZ _ t _ _ fo fas ρ h (by decide +kernel),h',bI];generalize af F=W at e1 e2 ⊢;rw[dL];unfold bg;simp! only[fn,e1,e2]
 ·rw[lZ _ t _ _ fo fas ρ h (by decide +kernel),h',bI];have mt:=bN (xs:=[f,tb]) `h;generalize af F=W at e1 e2 ⊢;generalize af H=W2 at h1 h2 ⊢;rw[gG];unfold bE;simp! only[fn,e1,h1,mt]
 ·unfold fV;rw[lZ _ t _ _ fo fas ρ h (by decide +kernel),h',bI];have cp:=wG H;have pu:=λ(K:Ks)=>hX (i:=4) (fk:=f1 (bZ "name" ["Leaf"]) (ae 0)) (fv:=ae 3) (k:=K) (ρ:=[‹leaf t›,‹af F›,‹af H›,‹v›,some (.own (af H))]) (al:=H) (q:=.inr t) (d:=.str t) (v:=v) rfl (by
   show(f1 (bZ "name" ["Leaf"]) (ae 0)) _=_;generalize af H=W;generalize af F=W2;simp! only[fn]) rfl rfl `o
  generalize af F=W at pu ⊢;rw[ql];unfold bW;generalize af (bG H (.inr t) v)=W3 at pu ⊢;generalize af H=W2 at cp pu ⊢;simp! only[cp,pu];rfl
theorem su{F H:List (Key×D)}{t o w:Str}{f f' tb g:D}{n:Nat}(G:Ct F H t tb n g f)(G2:Ct F H t tb 12 g f)(e:aA ak 2 3 [iN o w,f]=.ok f'):Ct F H t tb (n+1) (ov g (iN o w)) f':=by
 have fg:=pj g (iN o w);have fs:=se g (iN o w);refine⟨λfo ρ h=>?_,λfo fas ρ h h'=>?_,λfo fas ρ h h'=>?_,λfo fas ρ v h h'=>?_,.inr ⟨_,_,rfl⟩⟩
 ·rw[lj _ _ _ _ _ fo ah ρ h (by decide +kernel)];show aJ (n+1) [ov g (iN o w)]=_;have q:=G.nm (f1 (bZ "glass" ["Over"]) (ae 0)) [‹ov g (iN o w)›] (by simp! only[fg]);rw[cI,oI];unfold dU;simp! only[q]
 ·rw[lj _ _ _ _ _ fo fas ρ h (by decide +kernel),h',bI];have q:=G.fm (f1 (bZ "glass" ["Over"]) (ae 0)) (aa (ae 1) ah) [‹ov g (iN o w)›,‹af F›] (by
   generalize af F=W;simp! only[fg]) (by
   generalize af F=W;simp! only[])
  have m:=λfas=>rd "view_form" o w (aA ak 2 3) (f1 (bZ "step" ["Over"]) (ae 0)) fas [‹ov g (iN o w)›,‹af F›] (by
   generalize af F=W;simp! only[fs]) (by decide +kernel)
  rw[cj,dL];unfold dC;generalize af F=W at q m ⊢;simp! only[m,q,e]
 ·rw[lj _ _ _ _ _ fo fas ρ h (by decide +kernel),h',bI];have q:=λx=>G.sn (f1 (bZ "glass" ["Over"]) (ae 0)) (aa (ae 1) (aa (ae 2) ah)) [‹ov g (iN o w)›,‹af F›,‹af H›,x] (by
   generalize af F=W;generalize af H=W2;simp! only[fg]) (by
   generalize af F=W;generalize af H=W2;simp! only[])
  have m:=λ(mm:Str)(gg:bv)(hm:(["old","new"]:ao).contains mm=false)(fas:aH)(x:Option S)=>rd mm o w gg (f1 (bZ "step" ["Over"]) (ae 0)) fas [‹ov g (iN o w)›,‹af F›,‹af H›,x] (by
   generalize af F=W;generalize af H=W2;simp! only[fs]) hm
  have m1:=m "view_form" (aA ak 2 3) (by decide +kernel);have m2:=m "got" (aA cx 3 3) (by decide +kernel);have sg:aA cx 3 3 [iN o w,f,tb]=.ok tb:=by
   rw[gG];unfold cx;simp! only[]
  have mt:=bN (xs:=[f',tb]) `h;rw[cW,gG];unfold eJ;generalize af F=W at q m1 m2 ⊢;generalize af H=W2 at q m1 m2 ⊢;simp! only[q,m1,m2,e,sg,mt]
 ·unfold fV;rw[lj _ _ _ _ _ fo fas ρ h (by decide +kernel),h',bI];have q:=λx=>G2.sn (f1 (bZ "glass" ["Over"]) (ae 0)) (aa (ae 1) (aa (ae 2) ah)) [‹ov g (iN o w)›,‹af F›,‹af H›,‹v›,x] (by
   generalize af F=W;generalize af H=W2;simp! only[fg]) (by
   generalize af F=W;generalize af H=W2;simp! only[])
  have m:=λ(fas:aH)(x:Option S)=>rd "put" o w (aA cf 4 4) (f1 (bZ "step" ["Over"]) (ae 0)) fas [‹ov g (iN o w)›,‹af F›,‹af H›,‹v›,x] (by
   generalize af F=W;generalize af H=W2;simp! only[fs]) (by decide +kernel)
  have sp:aA cf 4 4 [iN o w,f,tb,v]=.ok v:=by
   rw[ql];unfold cf;simp! only[]
  have p:=G.pt (f1 (bZ "glass" ["Over"]) (ae 0)) (aa (ae 1) (aa (ae 2) (aa (bi "put" [("Rename",(aA cf 4 4))] (f1 (bZ "step" ["Over"]) (ae 0)) (aa (f2 aI (ae 4) (fC (.int 0))) (aa (f2 aI (ae 4) (fC (.int 1))) (aa (ae 3) ah)))) ah))) [‹ov g (iN o w)›,‹af F›,‹af H›,‹v›,‹.tup [f,tb]›] v (by
   generalize af F=W;generalize af H=W2;simp! only[fg]) (by
   generalize af F=W at m ⊢;generalize af H=W2 at m ⊢;simp! only[m,sp])
  rw[dG,ql];unfold fY;generalize af (bG H (.inr t) v)=W3 at p ⊢;generalize af F=W at q p ⊢;generalize af H=W2 at q p ⊢;simp! only[q,p]
theorem EF(b:Bool):pO [.bl b]=some (.int (if b then 1 else 0)):=by cases b<;>rfl
theorem C2(a b:D)(c:Bool):aI (.lst [a,b]) (.int (if c then 1 else 0))=some (if c then b else a):=by
 cases c
 ·exact iL _ _
 ·exact iJ _ _ _
theorem o8(x0 x1 x2 nw:Str)(k0 k1 k2:D):aA aE 3 6 [fo x0 x1 x2 k0 k1 k2,.str x0,.str nw]=.ok (fo nw x1 x2 k0 k1 k2):=by
 have m1:=bN (xs:=[.str nw,k0]) `h;have m2:=bN (xs:=[.tup [.str nw,k0]]) `h;have m3:=bN (xs:=[.tup [.tup [.str nw,k0]],.tup [.tup [.str x1,k1],.tup [.str x2,k2]]]) `h;rw[gG];unfold aE;simp! only[BEq.rfl,m1,m2,m3]
theorem ji(x0 x1 x2 o nw:Str)(k0 k1 k2:D)(h:(x0==o)=false):aA aE 3 6 [fo x0 x1 x2 k0 k1 k2,.str o,.str nw]=.ok (fo x0 (if x1==o then nw else x1) (if x2==o then nw else x2) k0 k1 k2):=by
 have Dk:iE []=some (.lst []):=nr rfl;have pk:=λ(x:Str)=>C2 (.str x) (.str nw) (x==o);have ml:=λ(x:Str)=>nW (xs:=[.str x,.str nw]) `h;have cv:∀x:Str,(if(x==o)=true then D.str nw else D.str x)=.str (if x==o then nw else x):=λx=>by cases x==o<;>rfl
 simp only[cv]at pk;have mt:=λ(x:Str)(k:D)=>bN (xs:=[.str (if x==o then nw else x),k]) `h;have m3:=bN (xs:=[.tup [.tup [.str x0,k0]],.tup [.tup [.str (if x1==o then nw else x1),k1],.tup [.str (if x2==o then nw else x2),k2]]]) `h;have ap1:=λy:D=>qG (xs:=[]) (y:=y) `h;have ap2:=λx y:D=>qG (xs:=[x]) (y:=y) `h;have sm:=λ(W:List D)(a0 a1 a2 a4 a5:Option S)(f:aH)(K:Ks)=>wg 3 nX f K [a0,a1,a2,some (.own (.lst W)),a4,a5] (xs:=W) rfl;have ut:=λ(x:Str)(k:D)(a0 a1 a2 a3:Option S)=>(show gT 2 (pZ [4,5]) (.tup [.str x,k]) [a0,a1,a2,a3,none,none]=some [a0,a1,a2,a3,‹.str x›,‹k›]from rfl)
 rw[gG];unfold aE;simp! only[h,Dk,Cg,CM,ut,sm,EF,ml,pk,mt,ap1,ap2,Io,HZ,m3]
theorem m3{g:D}(h:(∃t,g=leaf t)\/∃a b,g=ov a b)(m:Str)(hm:(["name"]:ao).contains m=false)(hm':(["glass","step"]:ao).contains m=false)(g0 g1 g2:bv)(fo:FX)(fas:aH)(ρ:ai)(e:fo ρ=.ok g):bi m [("Glass",g0),("Leaf",g1),("Over",g2)] fo fas ρ=bi m [("Leaf",g1),("Over",g2)] fo fas ρ:=by
 rcases h with⟨t,rfl⟩|⟨a,b,rfl⟩
 ·rw[lZ m t g1 g2 fo fas ρ e hm];unfold bi;rw[e,bI];have h1:(("Leaf":Str)==("Glass":Str))=false:=by decide +kernel
  have:List.lookup ("Leaf":Str) [(("Glass":Str),g0),(("Leaf":Str),g1),(("Over":Str),g2)]=some g1:=by rw[HX,h1,HX,BEq.rfl]
  simp only[this,hm];rfl
 ·rw[lj m a b g1 g2 fo fas ρ e hm'];unfold bi;rw[e,bI];have h1:(("Over":Str)==("Glass":Str))=false:=by decide +kernel
  have h2:(("Over":Str)==("Leaf":Str))=false:=by decide +kernel
  have:List.lookup ("Over":Str) [(("Glass":Str),g0),(("Leaf":Str),g1),(("Over":Str),g2)]=some g2:=by rw[HX,h1,HX,h2,HX,BEq.rfl]
  simp only[this,hm'];rfl
theorem CV{g:D}(h:(∃t,g=leaf t)\/∃a b,g=ov a b):pR ["Glass","Leaf","Over"] g=some (.bl true):=by
 rcases h with⟨t,rfl⟩|⟨a,b,rfl⟩<;>rfl
noncomputable def Pd(d:D):Prop:=pl d=true/\cM 8 d=true
theorem zU{d:D}(h:Pd d):qJ d d=some (.bl false):=by
 unfold qJ;rw[h.1,h.2,eN];rfl
structure Nd(al:List (Key×D)):Prop where
 nd:(al.map (·.1)).Nodup
 gd:dy al=true
theorem Nd.eq{al:List (Key×D)}(h:Nd al):lx (af al) (af al)=some true:=by
 show(cy (bY al) (al.map (·.2))).bind (λal'=>(cy (bY al) (al.map (·.2))).bind λbl=>if dy al'&&dy bl then some (zN al' bl)else none)=_;rw[cO];show(if dy al&&dy al then some (zN al al)else none)=_;rw[h.gd,oY h.nd];rfl
theorem Nd.put{al:List (Key×D)}(h:Nd al){q:Key}{tb v:D}(hq:cA al q=some tb)(hv:Pd v):Nd (bG al q v):=by
 have any:(al.any λp=>decide (p.1=q))=true:=by
  unfold cA at hq;obtain⟨p,hp,_⟩:=Option.map_eq_some_iff.mp hq;exact List.any_eq_true.mpr ⟨p,IX hp,IY (p:=λ(p:Key×D)=>decide (p.1=q)) hp⟩
 unfold bG;rw[if_pos any];refine⟨?_,?_⟩
 ·have:(al.map λp=>if p.1=q then(p.1,v)else p).map (·.1)=al.map (·.1):=by
   rw[IU];refine Ip λp _=>?_;show(if p.1=q then(p.1,v)else p).1=p.1;split<;>rfl
  rw[this];exact h.nd
 ·refine List.all_eq_true.mpr λp hp=>?_;obtain⟨p',hp',rfl⟩:=List.mem_map.mp hp
  have:=List.all_eq_true.mp h.gd p' hp'
  split
  ·rw[hv.1,hv.2];rfl
  ·exact this
theorem rJ(al:List (Key×D))(q:Key)(v:D):(bG al q v).length<=al.length+1:=by
 unfold bG;split
 ·rw[Hy];omega
 ·rw[HJ];simp
theorem jb{F H:List (Key×D)}{t:Str}{tb g f v:D}(G:Ct F H t tb 12 g f)(nF:Nd F)(nH:Nd H)(hH:cA H (.inr t)=some tb)(pf:Pd f)(pv:Pd v)(ptb:∃rows,tb=.tup rows/\Pd tb)(hl:H.length<=900):aA aN 6 10 [g,af F,af H,.str t,f,v]=.ok (.bl true):=by
 obtain⟨rows,et,ptb⟩:=ptb;have nP:=nH.put hH pv;have cF:=wG F;have cH:=wG H;have h1:=(pY H t hH).1;have ig:=CV G.cl;have ml:=nW (xs:=[af F,af H]) `h;have mt:=bN (xs:=[.str t]) `h;have De:iF []=some (.tup []):=nr rfl;have n1:qJ (.tup [.str t]) (.tup [.str t])=some (.bl false):=zU ⟨rfl,rfl⟩;have n2:=zU pf;have n3:=zU ptb;have it:Ad "tuple" tb=some (.bl true):=by rw[et];rfl
 have dn:oQ (af (bG H (.inr t) v)) (af (bG H (.inr t) v))=some (.bl false):=by unfold oQ;rw[nP.eq];rfl
 have de:sM (af (bG H (.inr t) v)) (af (bG H (.inr t) v))=some (.bl true):=by unfold sM;rw[nP.eq];rfl
 have lk:oj [af F,af H] [af F,af H]=some true:=by
  show(lx (af F) (af F)).bind (λe=>((lx (af H) (af H)).bind λe=>(some true).map (e&&·)).map (e&&·))=_;rw[nF.eq,nH.eq];rfl
 have ln:oU (.lst [af F,af H]) (.lst [af F,af H])=some (.bl false):=by
  show(oj [af F,af H] [af F,af H]).map _=_;rw[lk];rfl
 have le:ub (.lst [af F,af H]) (.lst [af F,af H])=some (.bl true):=by
  show(oj [af F,af H] [af F,af H]).map _=_;rw[lk];rfl
 have isd:iU (af (bG H (.inr t) v))=some (.bl true):=by
  show(cy (bY (bG H (.inr t) v)) ((bG H (.inr t) v).map (·.2))).map _=_;rw[cO];rfl
 have got:aA aY 3 3 [g,af F,af H]=.ok tb:=by
  have q:=G.sn (ae 0) (aa (ae 1) (aa (ae 2) ah)) [‹g›,‹af F›,‹af H›] rfl (by
   generalize af F=W;generalize af H=W2;simp! only[])
  rw[<-m3 G.cl "seen" (by decide +kernel) (by decide +kernel) (aA cE 3 3) _ _ _ _ _ rfl]at q;rw[gG];unfold aY;generalize af F=W at q ⊢;generalize af H=W2 at q ⊢;simp! only[q]
 have l1:=rJ H (.inr t) v;have l2:=rJ (bG H (.inr t) v) (.inr t) (.tup []);have nm:=λ(a6 a7 a8 a9:Option S)=>G.nm (ae 0) [‹g›,‹af F›,‹af H›,‹.str t›,‹f›,‹v›,a6,a7,a8,a9] rfl;have fm:=λ(a6 a7 a8 a9:Option S)=>G.fm (ae 0) (aa (ae 1) ah) [‹g›,‹af F›,‹af H›,‹.str t›,‹f›,‹v›,a6,a7,a8,a9] rfl (by
  generalize af F=W;generalize af H=W2;simp! only[])
 have gt:∀(a6 a7 a8 a9:Option S),bi "got" [("Leaf",(aA aY 3 3)),("Over",(aA aY 3 3))] (ae 0) (aa (ae 1) (aa (ae 2) ah)) [‹g›,‹af F›,‹af H›,‹.str t›,‹f›,‹v›,a6,a7,a8,a9]=.ok tb:=λa6 a7 a8 a9=>by
  have ea:(aa (ae 1) (aa (ae 2) ah)) [‹g›,‹af F›,‹af H›,‹.str t›,‹f›,‹v›,a6,a7,a8,a9]=.ok [af F,af H]:=by
   generalize af F=W;generalize af H=W2;simp! only[]
  rcases G.cl with⟨t',e⟩|⟨a,b,e⟩
  ·rw[lZ "got" t' _ _ (ae 0) _ _ (by rw[e];rfl) (by decide +kernel),ea,bI,<-e];exact got
  ·rw[lj "got" a b _ _ (ae 0) _ _ (by rw[e];rfl) (by decide +kernel),ea,bI,<-e];exact got
 have pt:=λ(a6 a7 a8 a9:Option S)=>G.pt (ae 0) (aa (ae 1) (aa (ae 2) (aa (ae 5) ah))) [‹g›,‹af F›,‹af H›,‹.str t›,‹f›,‹v›,a6,a7,a8,a9] v rfl (by
  generalize af F=W;generalize af H=W2;simp! only[])
 have p9:=λ(K:Ks)(a6 a7 a8:Option S)=>hX (i:=9) (fk:=ae 3) (fv:=ae 5) (k:=K) (ρ:=[‹g›,‹af F›,‹af H›,‹.str t›,‹f›,‹v›,a6,a7,a8,some (.own (af H))]) (al:=H) (q:=.inr t) (d:=.str t) (v:=v) rfl rfl rfl rfl `o;have p8:=λ(K:Ks)(a6 a7 a9:Option S)=>hX (i:=8) (fk:=ae 3) (fv:=bF ah) (k:=K) (ρ:=[‹g›,‹af F›,‹af H›,‹.str t›,‹f›,‹v›,a6,a7,some (.own (af (bG H (.inr t) v))),a9]) (al:=bG H (.inr t) v) (q:=.inr t) (d:=.str t) (v:=.tup []) rfl rfl rfl (by
  generalize af F=W;generalize af H=W2;generalize af (bG H (.inr t) v)=W3;simp! only[De]) `o
 have p8':=λ(K:Ks)(a6 a7 a9:Option S)=>hX (i:=8) (fk:=fC (.str "more")) (fv:=bF ah) (k:=K) (ρ:=[‹g›,‹af F›,‹af H›,‹.str t›,‹f›,‹v›,a6,a7,some (.own (af (bG (bG H (.inr t) v) (.inr t) (.tup [])))),a9]) (al:=bG (bG H (.inr t) v) (.inr t) (.tup [])) (q:=.inr "more") (d:=.str "more") (v:=.tup []) rfl rfl rfl (by
  generalize af F=W;generalize af H=W2;generalize af (bG (bG H (.inr t) v) (.inr t) (.tup []))=W3;simp! only[De]) `o
 have pk:lX [8] (qj (fM (bA (f1 iU (ae 8)))) (qj (fB (f2 oQ (ae 8) (ae 9))) (fB (f2 oU (gr (aa (ae 1) (aa (ae 2) ah))) (ae 6))))) [‹g›,‹af F›,‹af H›,‹.str t›,‹f›,‹v›,‹.lst [af F,af H]›,‹tb›,some (.own (af (bG H (.inr t) v))),‹af (bG H (.inr t) v)›]=.ok false:=by
  show y9 ((qj (fM (bA (f1 iU (ae 8)))) (qj (fB (f2 oQ (ae 8) (ae 9))) (fB (f2 oU (gr (aa (ae 1) (aa (ae 2) ah))) (ae 6))))) [‹g›,‹af F›,‹af H›,‹.str t›,‹f›,‹v›,‹.lst [af F,af H]›,‹tb›,‹af (bG H (.inr t) v)›,‹af (bG H (.inr t) v)›])=_;generalize af F=W at ml ln ⊢;generalize af H=W2 at ml ln ⊢;generalize af (bG H (.inr t) v)=W3 at isd dn ⊢;simp! only[isd,dn,ml,ln]
 rw[z8];unfold aN;generalize af (bG (bG (bG H (.inr t) v) (.inr t) (.tup [])) (.inr "more") (.tup []))=W5 at p8';generalize af (bG (bG H (.inr t) v) (.inr t) (.tup []))=W4 at p8 p8';generalize af (bG H (.inr t) v)=W3 at *;generalize af F=W at *;generalize af H=W2 at *;simp! only[cF,cH,ml,ig,nm,mt,n1,fm,n2,gt,it,h1,n3,pt,p9,pk,p8,p8',le,de];rfl
theorem sv{α β:Type}(f:α->β)(xs:List α):∀ix:List Nat,lT (xs.map f) ix=(lT xs ix).map f
 |[]=>rfl
 |i::ix=>by
  have ih:=sv f xs ix;unfold lT at ih ⊢;cases e:xs[i]? with
  |none=>rw[Jj (by rw[HH,e];rfl),Jj e];exact ih
  |some a=>rw[Jk (b:=f a) (by rw[HH,e];rfl),Jk e,Hx,ih]
theorem pT{α β:Type}(f:α->β)(xs:List α)(lo hi:bn)(st:Int):ck (xs.map f) lo hi st=(ck xs lo hi st).map f:=by
 unfold ck;rw[Hy,sv]
theorem vY(xs:List Int)(lo hi:bn)(st:Int):(ck xs lo hi st).length<=xs.length:=by
 have h:=slicePick_size_le (xs.map λ_=>Value.none).toArray lo hi (some st);rw[kt,Hu,Hu,pT,Hy,Hy]at h;exact h
theorem vJ(ns:List Int)(hl:ns.length<=63)(lo hi st:Int)(h0:st≠0):∃cs:List Int,cs.length<=70/\kP (.lst (ns.map .int)) (some lo) (some hi) (some st)=some (.lst (cs.map .int)):=by
 have h:=vY ns (some lo) (some hi) st;refine⟨ck ns (some lo) (some hi) st,by omega,?_⟩;show(if !(st==0)&&small (ck (ns.map D.int) (some lo) (some hi) st).length then some (D.lst (ck (ns.map D.int) (some lo) (some hi) st))else none)=_;rw[pT,Hy,cJ `o,show(st==0)=false from beq_eq_false_iff_ne.mpr h0];rfl
theorem zA{z:Int}{i j:Int}(hi:0<=i)(hj:0<=j)(hd:i-j<26/\j-i<26)(ne:i≠j):NM z i≠NM z j:=λh=>ne (vX hi hj hd h)
theorem qL(z0:Int)(f:Nat->D)(n:Nat)(hn:n<=20){i:Nat}(hi:i<n):cA (al z0 f n) (nK z0 i)=some (f i):=by
 unfold cA;cases e:(al z0 f n).find? λp=>decide (p.1=nK z0 i)with
 |none=>
  have:(nK z0 i,f i)∈al z0 f n:=List.mem_map.mpr ⟨i,List.mem_range.mpr hi,rfl⟩
  exact absurd (decide_eq_true rfl) (List.find?_eq_none.mp e _ this)
 |some p=>
  have h1:=IX e;have h2:p.1=nK z0 i:=of_decide_eq_true (IY (p:=λ(p:Key×D)=>decide (p.1=nK z0 i)) e);obtain⟨j,hj,rfl⟩:=List.mem_map.mp h1;have hj:=List.mem_range.mp hj
  have:=qT `o `o h2
  subst this;rfl
theorem tZ(z0:Int)(f:Nat->D)(n:Nat)(hn:n<=4):cA (al z0 f n) (.inr (NM z0 9))=none:=by
 unfold cA;rw[List.find?_eq_none.mpr λp hp z=>?_];rfl;obtain⟨j,hj,rfl⟩:=List.mem_map.mp hp;have hj:=List.mem_range.mp hj;have e:=Sum.inr.inj (of_decide_eq_true z);exact zA (z:=z0) (i:=(j:Int)) (j:=9) `o `o `o `o e
theorem zC(z0:Int)(f:Nat->D)(n:Nat)(hn:n<=20)(hf:∀k,k<n->Pd (f k)):Nd (al z0 f n):=by
 refine⟨?_,List.all_eq_true.mpr λp hp=>?_⟩
 ·unfold al;rw[IU,List.nodup_iff_pairwise_ne,List.pairwise_map];refine(List.nodup_range (n:=n)).imp_of_mem λ{a b} ha hb ne e=>ne ?_;exact qT (by have:=List.mem_range.mp ha;omega) (by have:=List.mem_range.mp hb;omega) e
 ·obtain⟨j,hj,rfl⟩:=List.mem_map.mp hp
  have:=hf j (List.mem_range.mp hj)
  show(pl (f j)&&cM 8 (f j))=true;rw[this.1,this.2];rfl
theorem xG(cs:ao)(i:Nat)(F Fh:bu)(k:Ks)(ρ:ai):w6 cs i F Fh k ρ=F {k with ex:=λx ρ1=>if cs.contains x.c=true then Fh (CH i k) (setV i (.exc x.c x.fs x.vs) ρ1)else un} ρ:=nr rfl
theorem vE(f:FX)(k:Ks)(ρ:ai):rM f k ρ=kL (f ρ) k ρ λ_=>k.nx ρ:=nr rfl
theorem kZ{F:List (Key×D)}{g:D}(h:∀(x2 x3:Option S),bi "form" [("Leaf",(aA bg 2 2)),("Over",(aG 12))] (ae 0) (aa (ae 1) ah) [‹g›,‹af F›,x2,x3]=.error (some ⟨"NoTable",[],[]⟩)):aA bS 2 4 [g,af F]=.ok (.bl true):=by
 have c1:(["NoTable","NoField","Twice"]:ao).contains "NoTable"=true:=by decide +kernel
 have i1:dr [("NoTable",true),("NoField",false),("Twice",false)] (.exc "NoTable" [] [])=some (.bl true):=by kernel_rfl
 have i2:dr [("NoTable",true),("NoField",true),("Twice",true)] (.exc "NoTable" [] [])=some (.bl true):=by kernel_rfl
 have i3:dr [("NoTable",false),("NoField",true),("Twice",false)] (.exc "NoTable" [] [])=some (.bl false):=by kernel_rfl
 have i4:dr [("NoTable",false),("NoField",false),("Twice",false)] (.exc "NoTable" [] [])=some (.bl false):=by kernel_rfl
 have i5:dr [("NoTable",false),("NoField",false),("Twice",true)] (.exc "NoTable" [] [])=some (.bl false):=by kernel_rfl
 rw[dL];unfold bS;generalize af F=W at h ⊢;simp! only[xG,vE,h,c1,CH,i1,i2,i3,i4,i5];rfl
theorem rY{F:List (Key×D)}{u:Str}(h:cA F (.inr u)=none)(n:Nat)(fo:FX)(fas:aH)(ρ:ai)(e:fo ρ=.ok (leaf u))(e':fas ρ=.ok [af F]):bi "form" [("Leaf",(aA bg 2 2)),("Over",aG n)] fo fas ρ=.error (some ⟨"NoTable",[],[]⟩):=by
 have k:=Cb F u h;have fn:=rA u;rw[lZ _ u _ _ fo fas ρ e (by decide +kernel),e',bI,dL];unfold bg;generalize af F=W at k ⊢;simp! only[fn,k,tB,Gc]
theorem yp{F:List (Key×D)}{u:Str}(h:cA F (.inr u)=none)(n:Nat)(o w:Str)(fo:FX)(fas:aH)(ρ:ai)(e:fo ρ=.ok (ov (leaf u) (iN o w)))(e':fas ρ=.ok [af F]):bi "form" [("Leaf",(aA bg 2 2)),("Over",aG (n+1))] fo fas ρ=.error (some ⟨"NoTable",[],[]⟩):=by
 have fg:=pj (leaf u) (iN o w);have fs:=se (leaf u) (iN o w);have q:=rY h n (f1 (bZ "glass" ["Over"]) (ae 0)) (aa (ae 1) ah) [‹ov (leaf u) (iN o w)›,‹af F›] (by
  generalize af F=W;simp! only[fg]) (by
  generalize af F=W;simp! only[])
 have m:=λfas=>rd "view_form" o w (aA ak 2 3) (f1 (bZ "step" ["Over"]) (ae 0)) fas [‹ov (leaf u) (iN o w)›,‹af F›] (by
  generalize af F=W;simp! only[fs]) (by decide +kernel)
 rw[lj _ _ _ _ _ fo fas ρ e (by decide +kernel),e',bI,cj,dL];unfold dC;generalize af F=W at q m ⊢;simp! only[m,q]
theorem rV{rows:List D}(h:∀r∈rows,Row r):Pd (.tup rows):=by
 refine⟨?_,?_⟩
 ·rw[cc];exact uX λx hx=>by obtain⟨i,w,j,rfl⟩:=h x hx;rfl
 ·unfold cM;exact List.all_eq_true.mpr λx hx=>by obtain⟨i,w,j,rfl⟩:=h x hx;rfl
theorem ko(x0 x1 x2:Str)(lo hi lo2 hi2:Int):Pd (fo x0 x1 x2 (kn lo hi) kw (kn lo2 hi2)):=⟨rfl,rfl⟩
theorem two(x0 x1 x2 w u:Str)(lo hi lo2 hi2:Int)(h01:x0≠x1)(h02:x0≠x2)(h12:x1≠x2)(w0:w≠x0)(w1:w≠x1)(w2:w≠x2)(u0:u≠x0)(u1:u≠x1)(u2:u≠x2)(uw:u≠w)(r:Int)(r0:0<=r)(r3:r<3):
  ∃(o:Str)(f1' f2':D),aI (.lst [.str x0,.str x1,.str x2]) (.int r)=some (.str o)/\aA ak 2 3 [iN o w,fo x0 x1 x2 (kn lo hi) kw (kn lo2 hi2)]=.ok f1'/\aA aE 3 6 [fo x0 x1 x2 (kn lo hi) kw (kn lo2 hi2),.str o,.str w]=.ok f1'/\aA ak 2 3 [iN w u,f1']=.ok f2'/\aA aE 3 6 [fo x0 x1 x2 (kn lo hi) kw (kn lo2 hi2),.str o,.str u]=.ok f2'/\Pd f1'/\Pd f2':=by
 have b:=λ{a b:Str}(h:a≠b)=>(beq_eq_false_iff_ne.mpr h:(a==b)=false)
 rcases(show r=0\/r=1\/r=2 by omega)with e|e|e<;>subst e
 ·exact⟨x0,_,_,iL _ _,CW h01 h02 h12 w0 w1 w2,o8 ..,CW w1 w2 h12 uw u1 u2,o8 ..,ko ..,ko ..⟩
 ·refine⟨x1,_,_,iJ _ _ _,CO h01 h02 h12 w0 w1 w2,?_,CO (Ne.symm w0) h02 w2 u0 uw u2,?_,ko ..,ko ..⟩
  ·rw[ji x0 x1 x2 x1 w _ _ _ (b h01),BEq.rfl,b (Ne.symm h12)];rfl
  ·rw[ji x0 x1 x2 x1 u _ _ _ (b h01),BEq.rfl,b (Ne.symm h12)];rfl
 ·refine⟨x2,_,_,kr _ _ _ _,CN h01 h02 h12 w0 w1 w2,?_,CN h01 (Ne.symm w0) (Ne.symm w1) u0 u1 uw,?_,ko ..,ko ..⟩
  ·rw[ji x0 x1 x2 x2 w _ _ _ (b h02),b h12,BEq.rfl];rfl
  ·rw[ji x0 x1 x2 x2 u _ _ _ (b h02),b h12,BEq.rfl];rfl
noncomputable abbrev Do:bu:=(aB (dN 4 (f2 aI (ae 3) (ae 5)) (fR (aA aS 2 5) (aa (f2 dM (ae 2) (f2 aI (ae 3) (ae 5))) (aa (fS (ae 0) (ce (f2 bX (fC (.int 3)) (ae 5))) (ce (fC (.int 43))) (ce (ae 1))) ah)))) (du [5] bR))
noncomputable abbrev hB2:bu:=(aB (bb 7 (f2 aI (ae 3) (ae 5))) (aB (bb 8 (f2 dM (ae 2) (ae 7))) (aB (bb 9 (f2 aI (kU [none,none] (em (f2 bX (f2 aI (ae 8) (fC (.int 0))) (f2 aI (ae 8) (fC (.int 1))))) (gT 2 (pZ [0,1])) gk (ae 0)) (f2 dH (f2 fG (fR (aA au 2 2) (aa (ae 0) (aa (fC (.int 2)) ah))) (f2 bX (ae 5) (fC (.int 3)))) (fC (.int 3))))) (aB (bb 10 (fR (aA aS 2 5) (aa (ae 8) (aa (gv (ae 0) (ce (f2 bX (fC (.int 4)) (ae 5))) (ce (fC (.int 24)))) ah)))) (aB (bb 11 (fNew "Leaf" ["name"] (aa (ae 7) ah))) (aB (bb 12 (fNew "Over" ["glass","step"] (aa (ae 11) (aa (fNew "Rename" ["old","new"] (aa (ae 9) (aa (fR (aA av 2 6) (aa (ae 6) (aa (fC (.int 20)) ah))) ah))) ah)))) (aB (bb 13 (fR (aA aE 3 6) (aa (ae 8) (aa (ae 9) (aa (fR (aA av 2 6) (aa (ae 6) (aa (fC (.int 20)) ah))) ah))))) (aB (bb 14 (fNew "Over" ["glass","step"] (aa (ae 12) (aa (fNew "Rename" ["old","new"] (aa (fR (aA av 2 6) (aa (ae 6) (aa (fC (.int 20)) ah))) (aa (fR (aA av 2 6) (aa (ae 6) (aa (fC (.int 21)) ah))) ah))) ah)))) (aB (bb 15 (fR (aA aE 3 6) (aa (ae 8) (aa (ae 9) (aa (fR (aA av 2 6) (aa (ae 6) (aa (fC (.int 21)) ah))) ah))))) (aB (kE (fM (bA (fR (aA aN 6 10) (aa (ae 11) (aa (ae 2) (aa (ae 4) (aa (ae 7) (aa (ae 8) (aa (ae 10) ah))))))))) (bw (fC (.bl false))) bR) (aB (kE (fM (bA (fR (aA aN 6 10) (aa (ae 12) (aa (ae 2) (aa (ae 4) (aa (ae 7) (aa (ae 13) (aa (ae 10) ah))))))))) (bw (fC (.bl false))) bR) (aB (kE (fM (bA (fR (aA aN 6 10) (aa (ae 14) (aa (ae 2) (aa (ae 4) (aa (ae 7) (aa (ae 15) (aa (ae 10) ah))))))))) (bw (fC (.bl false))) bR) (aB (kE (fM (bA (fR (aA aN 6 10) (aa (ae 11) (aa (ae 2) (aa (ae 4) (aa (ae 7) (aa (ae 8) (aa (bF ah) ah))))))))) (bw (fC (.bl false))) bR) (du [5,7,8,9,10,11,12,13,14,15] bR))))))))))))))
noncomputable def Ls(z0:Int)(n:Nat):List D:=(List.range n).map λ(k:Nat)=>.str (NM z0 (k:Int))
theorem yo(z0:Int)(f:Nat->D)(n:Nat):lm [af (al z0 f n)]=some (.lst (Ls z0 n)):=by
 have e:bY (al z0 f n)=Ls z0 n:=by
  unfold al bY Ls;rw[IU];rfl
 show(keysOf (bY (al z0 f n))).bind _=_;have k:keysOf (bY (al z0 f n))=some ((al z0 f n).map (·.1)):=by
  have:bY (al z0 f n)=((al z0 f n).map (·.1)).map bK:=by unfold bY;rw[IU];rfl
  rw[this];exact eF _
 rw[k,e];rfl
theorem wF{z0:Int}{f g:Nat->D}{n:Nat}(h:∀k,k<n->f k=g k):al z0 f n=al z0 g n:=by
 unfold al;refine Ip λk hk=>?_;rw[h k (List.mem_range.mp hk)]
noncomputable def Tg(d:D):Prop:=∃rows,d=.tup rows/\Pd d
theorem house{ns:List Int}(hl:ns.length<=63){n:Nat}(n1:1<=n)(n4:n<=4)(z0 z1 z2:Int)(K:Ks)(Q:R D->Prop)(hQ:∀T:Nat->D,(∀k,k<n->Tg (T k))->Q (K.nx [‹.lst (ns.map .int)›,‹.int n›,‹af (al z0 (fF z1 z2) n)›,‹.lst (Ls z0 n)›,some (.own (af (al z0 T n))),none,none,none,none,none,none,none,none,none,none,none,none])):
  Q (cq (gN 5) Do K (cG 0 n) [‹.lst (ns.map .int)›,‹.int n›,‹af (al z0 (fF z1 z2) n)›,‹.lst (Ls z0 n)›,some (.own (af [])),none,none,none,none,none,none,none,none,none,none,none,none]):=by
 refine kX (Q:=Q) (λi ρ=>∃T:Nat->D,(∀k,k<i->Tg (T k))/\ρ=[‹.lst (ns.map .int)›,‹.int n›,‹af (al z0 (fF z1 z2) n)›,‹.lst (Ls z0 n)›,some (.own (af (al z0 T i))),none,none,none,none,none,none,none,none,none,none,none,none]) ?_ ⟨λ_=>.non,λk hk=>absurd hk (Nat.not_lt_zero k),rfl⟩ ?_
 ·rintro i d ρ kk hd ⟨T,hT,rfl⟩;obtain⟨hi,rfl⟩:=lA hd;obtain⟨cs,hc,es⟩:=vJ ns hl (3+(i:Int)) 43 n `o;obtain⟨rows,et,hr,rr⟩:=pP (NM z1 (i:Int)) (NM z1 (5+(i:Int))) (NM z1 (10+(i:Int))) (z2/((i:Int)+1)%1000-500) (10^50) kw (kn (-5) (10^30)) cs hc;have et:aA aS 2 5 [fF z1 z2 i,.lst (cs.map .int)]=.ok (.tup rows):=et;have ix:aI (.lst (Ls z0 n)) (.int (i:Int))=some (.str (NM z0 (i:Int))):=by
   rw[Cz,tR];unfold Ls;rw[HH,Iw hi];rfl
  have dx:=(pY _ _ (qL z0 (fF z1 z2) n `o hi)).1;have ll:(al z0 T i).length<=1000:=by unfold al;rw[Hy,Ir];omega
  have pu:=λ(K:Ks)=>hX (i:=4) (fk:=(f2 aI (ae 3) (ae 5))) (fv:=(fR (aA aS 2 5) (aa (f2 dM (ae 2) (f2 aI (ae 3) (ae 5))) (aa (fS (ae 0) (ce (f2 bX (fC (.int 3)) (ae 5))) (ce (fC (.int 43))) (ce (ae 1))) ah)))) (k:=K) (ρ:=[‹.lst (ns.map .int)›,‹.int n›,‹af (al z0 (fF z1 z2) n)›,‹.lst (Ls z0 n)›,some (.own (af (al z0 T i))),‹.int (i:Int)›,none,none,none,none,none,none,none,none,none,none,none]) (al:=al z0 T i) (q:=nK z0 i) (d:=.str (NM z0 i)) (v:=.tup rows) rfl (by
   generalize af (al z0 T i)=W;generalize af (al z0 (fF z1 z2) n)=W2;simp! only[ix]) rfl (by
   generalize af (al z0 T i)=W;generalize af (al z0 (fF z1 z2) n)=W2 at dx ⊢;simp! only[tT,ix,dx,es,et]) ll
  rw[wc z0 _ i `o]at pu;have ea:al z0 (λk=>if k=i then .tup rows else T k) (i+1)=al z0 T i++[(nK z0 i,.tup rows)]:=by
   rw[B4,wF (f:=λk=>if k=i then .tup rows else T k) (g:=T) λk hk=>if_neg `o];show _++[(nK z0 i,if i=i then D.tup rows else T i)]=_;rw[if_pos rfl]
  rw[<-ea]at pu;refine⟨_,_,rfl,⟨λk=>if k=i then .tup rows else T k,λk hk=>?_,rfl⟩,?_⟩
  ·by_cases c:k=i
   ·show Tg (if k=i then _ else _);rw[if_pos c];exact⟨rows,rfl,rV rr⟩
   ·show Tg (if k=i then _ else _);rw[if_neg c];exact hT k `o
  ·generalize af (al z0 (λk=>if k=i then .tup rows else T k) (i+1))=W3 at pu ⊢;generalize af (al z0 T i)=W at pu ⊢;generalize af (al z0 (fF z1 z2) n)=W2 at pu ⊢;unfold Do;simp! only[pu]
 ·rintro ρ' ⟨T,hT,rfl⟩;rw[eE]at hT ⊢;exact hQ T hT
theorem FH(fas:aH)(ρ:ai):fNew "Rename" ["old","new"] fas ρ=(fas ρ).bind λas=>if as.length=2 then .ok (.obj "Rename" ["old","new"] as)else un:=rfl
theorem FP(fas:aH)(ρ:ai):fNew "Leaf" ["name"] fas ρ=(fas ρ).bind λas=>if as.length=1 then .ok (.obj "Leaf" ["name"] as)else un:=rfl
theorem FQ(fas:aH)(ρ:ai):fNew "Over" ["glass","step"] fas ρ=(fas ρ).bind λas=>if as.length=2 then .ok (.obj "Over" ["glass","step"] as)else un:=rfl
theorem le2(a b:D):([a,b].length=2)=True:=eq_true rfl
theorem le1(a:D):([a].length=1)=True:=eq_true rfl
theorem Cr{ns:List Int}(hl:ns.length<=63){n:Nat}(n4:n<=4)(z0 z1 z2:Int)(c2:aA au 2 2 [.lst (ns.map .int),.int 2]=.ok (.int z2)){T:Nat->D}(hT:∀k,k<n->Tg (T k))(i:Nat)(hi:i<n)(K:Ks):
  hB2 K [‹.lst (ns.map .int)›,‹.int n›,‹af (al z0 (fF z1 z2) n)›,‹.lst (Ls z0 n)›,‹af (al z0 T n)›,‹.int (i:Int)›,‹.int z1›,none,none,none,none,none,none,none,none,none,none]=K.nx [‹.lst (ns.map .int)›,‹.int n›,‹af (al z0 (fF z1 z2) n)›,‹.lst (Ls z0 n)›,‹af (al z0 T n)›,none,‹.int z1›,none,none,none,none,none,none,none,none,none,none]:=by
 have ix:aI (.lst (Ls z0 n)) (.int (i:Int))=some (.str (NM z0 (i:Int))):=by
  rw[Cz,tR];unfold Ls;rw[HH,Iw hi];rfl
 have gF:=qL z0 (fF z1 z2) n `o hi;have gH:=qL z0 T n `o hi;have dx:=(pY _ _ gF).1;have nF:=zC z0 (fF z1 z2) n `o λk _=>ko ..
 have nH:=zC z0 T n `o λk hk=>(hT k hk).elim λ_ h=>h.2;have lH:(al z0 T n).length<=900:=by unfold al;rw[Hy,Ir];omega
 have ne:=λ(p q:Int)(hp:0<=p)(hq:0<=q)(hd:p-q<26/\q-p<26)(e:p≠q)=>zA (z:=z1) hp hq hd e;obtain⟨o,f1',f2',eo,v1,r1,v2,r2,p1,p2⟩:=two (NM z1 (i:Int)) (NM z1 (5+(i:Int))) (NM z1 (10+(i:Int))) (NM z1 20) (NM z1 21) (z2/((i:Int)+1)%1000-500) (10^50) (-5) (10^30) (ne _ _ `o `o `o `o) (ne _ _ `o `o `o `o) (ne _ _ `o `o `o `o) (ne _ _ `o `o `o `o) (ne _ _ `o `o `o `o) (ne _ _ `o `o `o `o) (ne _ _ `o `o `o `o) (ne _ _ `o `o `o `o) (ne _ _ `o `o `o `o) (ne _ _ `o `o `o `o) (z2/((i:Int)+3)%3) `o `o;have lcut:(cutD ns (some (4+(i:Int))) (some 24)).length<=70:=by
  have:=pD ns (some (4+(i:Int))) (some 24)
  omega
 obtain⟨rows,ev,hr,rr⟩:=pP (NM z1 (i:Int)) (NM z1 (5+(i:Int))) (NM z1 (10+(i:Int))) (z2/((i:Int)+1)%1000-500) (10^50) kw (kn (-5) (10^30)) (cutD ns (some (4+(i:Int))) (some 24)) lcut;have ev:aA aS 2 5 [fF z1 z2 i,.lst ((cutD ns (some (4+(i:Int))) (some 24)).map .int)]=.ok (.tup rows):=ev;have pv:=rV rr;have pf:Pd (fF z1 z2 i):=ko ..
 have G1:=λm=>zh (F:=al z0 (fF z1 z2) n) (H:=al z0 T n) (t:=NM z0 (i:Int)) gF gH lH m;have v1:aA ak 2 3 [iN o (NM z1 20),fF z1 z2 i]=.ok f1':=v1;have r1:aA aE 3 6 [fF z1 z2 i,.str o,.str (NM z1 20)]=.ok f1':=r1;have r2:aA aE 3 6 [fF z1 z2 i,.str o,.str (NM z1 21)]=.ok f2':=r2;have G2:=λm=>su (n:=m) (G1 m) (G1 12) v1;have G3:=su (n:=11) (G2 10) (G2 11) v2;have k1:=jb (G1 12) nF nH gH pf pv (hT i hi) lH;have k2:=jb (G2 11) nF nH gH p1 pv (hT i hi) lH;have k3:=jb G3 nF nH gH p2 pv (hT i hi) lH;have k4:=jb (v:=.tup []) (G1 12) nF nH gH pf ⟨rfl,rfl⟩ (hT i hi) lH;have s20:=cX z1 20;have s21:=cX z1 21;have De:iF []=some (.tup []):=nr rfl;have dv:=jD (i:=z2) (j:=(i:Int)+3) `o (Int.lt_trans (show(i:Int)+3<100 by omega) (by decide));have lc:∀(a0 a1 a2 a3 a4 a5 a6 a7 a9 a10 a11 a12 a13 a14 a15 a16:Option S),kU [none,none] (em (f2 bX (f2 aI (ae 8) (fC (.int 0))) (f2 aI (ae 8) (fC (.int 1))))) (gT 2 (pZ [0,1])) gk (ae 0) [a0,a1,a2,a3,a4,a5,a6,a7,‹fF z1 z2 i›,a9,a10,a11,a12,a13,a14,a15,a16]=.ok (.lst [.str (NM z1 (i:Int)),.str (NM z1 (5+(i:Int))),.str (NM z1 (10+(i:Int)))]):=λ_ _ _ _ _ _ _ _ _ _ _ _ _ _ _ _=>by
  unfold fF;generalize kn (z2/((i:Int)+1)%1000-500) (10^50)=q0;generalize kw=q1;generalize kn (-5) (10^30)=q2;have ad:=gI [.tup [.str (NM z1 (i:Int)),q0]] [.tup [.str (NM z1 (5+(i:Int))),q1],.tup [.str (NM z1 (10+(i:Int))),q2]] `h;refine oy (ds:=[.tup [.str (NM z1 (i:Int)),q0],.tup [.str (NM z1 (5+(i:Int))),q1],.tup [.str (NM z1 (10+(i:Int))),q2]]) (by simp! only[ad]) `h ?_;rfl
 unfold hB2;generalize fF z1 z2 i=FI at *;generalize af (al z0 (fF z1 z2) n)=W at *;generalize af (al z0 T n)=W2 at *;simp! only[ix,dx,lc,c2,dv,gm 3,eo,xJ,ev,FP,FQ,FH,le1,le2,if_true,s20,s21,r1,r2,k1,k2,k3,k4,De]
theorem math(ns:List Int)(hl:ns.length<=63):aA kB 1 17 [.lst (ns.map .int)]=.ok (.bl true):=by
 have c0:aA au 2 2 [.lst (ns.map .int),.int 0]=.ok (.int (ns.getD 0 0)):=fw ns 0;have c1:aA au 2 2 [.lst (ns.map .int),.int 1]=.ok (.int (ns.getD 1 0)):=fw ns 1;have c2:aA au 2 2 [.lst (ns.map .int),.int 2]=.ok (.int (ns.getD 2 0)):=fw ns 2;obtain⟨n,en,n14⟩:∃n:Nat,1+ns.getD 0 0/512%4=(n:Int)/\1<=n/\n<=4:=⟨(1+ns.getD 0 0/512%4).toNat,by omega,by omega,by omega⟩
 have fk:=wa ns n n14.2;generalize ns.getD 0 0=z0 at *;generalize ns.getD 1 0=z1 at *;generalize ns.getD 2 0=z2 at *;have rg:=jX n `o;have la:=yo z0 (fF z1 z2) n;have e9:=cX z0 9;have no:=tZ z0 (fF z1 z2) n n14.2;have q1:=kZ (F:=al z0 (fF z1 z2) n) (g:=leaf (NM z0 9)) λx2 x3=>rY no 12 (ae 0) (aa (ae 1) ah) _ rfl (by
  generalize af (al z0 (fF z1 z2) n)=W;simp! only[])
 have q2:=kZ (F:=al z0 (fF z1 z2) n) (g:=ov (leaf (NM z0 9)) (iN "a" "b")) λx2 x3=>yp no 11 "a" "b" (ae 0) (aa (ae 1) ah) _ rfl (by
  generalize af (al z0 (fF z1 z2) n)=W;simp! only[])
 rw[oI];unfold kB;rw[show(aB (dN 4 (f2 aI (ae 3) (ae 5)) (fR (aA aS 2 5) (aa (f2 dM (ae 2) (f2 aI (ae 3) (ae 5))) (aa (fS (ae 0) (ce (f2 bX (fC (.int 3)) (ae 5))) (ce (fC (.int 43))) (ce (ae 1))) ah)))) (du [5] bR))=Do from rfl,show(aB (bb 7 (f2 aI (ae 3) (ae 5))) (aB (bb 8 (f2 dM (ae 2) (ae 7))) (aB (bb 9 (f2 aI (kU [none,none] (em (f2 bX (f2 aI (ae 8) (fC (.int 0))) (f2 aI (ae 8) (fC (.int 1))))) (gT 2 (pZ [0,1])) gk (ae 0)) (f2 dH (f2 fG (fR (aA au 2 2) (aa (ae 0) (aa (fC (.int 2)) ah))) (f2 bX (ae 5) (fC (.int 3)))) (fC (.int 3))))) (aB (bb 10 (fR (aA aS 2 5) (aa (ae 8) (aa (gv (ae 0) (ce (f2 bX (fC (.int 4)) (ae 5))) (ce (fC (.int 24)))) ah)))) (aB (bb 11 (fNew "Leaf" ["name"] (aa (ae 7) ah))) (aB (bb 12 (fNew "Over" ["glass","step"] (aa (ae 11) (aa (fNew "Rename" ["old","new"] (aa (ae 9) (aa (fR (aA av 2 6) (aa (ae 6) (aa (fC (.int 20)) ah))) ah))) ah)))) (aB (bb 13 (fR (aA aE 3 6) (aa (ae 8) (aa (ae 9) (aa (fR (aA av 2 6) (aa (ae 6) (aa (fC (.int 20)) ah))) ah))))) (aB (bb 14 (fNew "Over" ["glass","step"] (aa (ae 12) (aa (fNew "Rename" ["old","new"] (aa (fR (aA av 2 6) (aa (ae 6) (aa (fC (.int 20)) ah))) (aa (fR (aA av 2 6) (aa (ae 6) (aa (fC (.int 21)) ah))) ah))) ah)))) (aB (bb 15 (fR (aA aE 3 6) (aa (ae 8) (aa (ae 9) (aa (fR (aA av 2 6) (aa (ae 6) (aa (fC (.int 21)) ah))) ah))))) (aB (kE (fM (bA (fR (aA aN 6 10) (aa (ae 11) (aa (ae 2) (aa (ae 4) (aa (ae 7) (aa (ae 8) (aa (ae 10) ah))))))))) (bw (fC (.bl false))) bR) (aB (kE (fM (bA (fR (aA aN 6 10) (aa (ae 12) (aa (ae 2) (aa (ae 4) (aa (ae 7) (aa (ae 13) (aa (ae 10) ah))))))))) (bw (fC (.bl false))) bR) (aB (kE (fM (bA (fR (aA aN 6 10) (aa (ae 14) (aa (ae 2) (aa (ae 4) (aa (ae 7) (aa (ae 15) (aa (ae 10) ah))))))))) (bw (fC (.bl false))) bR) (aB (kE (fM (bA (fR (aA aN 6 10) (aa (ae 11) (aa (ae 2) (aa (ae 4) (aa (ae 7) (aa (ae 8) (aa (bF ah) ah))))))))) (bw (fC (.bl false))) bR) (du [5,7,8,9,10,11,12,13,14,15] bR))))))))))))))=hB2 from rfl];generalize h1:Do=B1;generalize h2:hB2=B2;have dn:lB=(λ_=>.ok (af [])):=rfl;generalize hW:af (al z0 (fF z1 z2) n)=W at fk la q1 q2;simp! only[c0,c1,gd 512,gm 4,en,fk,la,dn,rg];rw[<-h1,<-hW];refine house hl n14.1 n14.2 z0 z1 z2 _ (λx=>x=.ok (.bl true)) λT hT=>?_;rw[hW];generalize hW2:af (al z0 T n)=W2;simp! only[c1,rg];refine kX (Q:=λx=>x=.ok (.bl true)) (λi ρ=>ρ=[‹.lst (ns.map .int)›,‹.int n›,‹W›,‹.lst (Ls z0 n)›,‹W2›,none,‹.int z1›,none,none,none,none,none,none,none,none,none,none]) ?_ rfl ?_
 ·rintro i d ρ kk hd rfl;obtain⟨hi,rfl⟩:=lA hd;refine⟨_,_,rfl,rfl,?_⟩;rw[<-h2,<-hW,<-hW2];exact Cr hl n14.2 z0 z1 z2 c2 hT i hi kk
 ·rintro ρ' rfl;simp! only[c0,e9,FP,FQ,FH,le1,le2,if_true,q1,q2]
  try rfl
end Tk60
open PySem PySem.W PyProof.Rows
set_option maxRecDepth 100000 in
set_option maxHeartbeats 0 in
theorem PySem.Challenge.cw_twoglass_k60_leaves_and_steps_over_holds : PySem.Challenge.rw_twoglass_k60_leaves_and_steps_over.Holds := by
  refine hd60 ?_
  k_fill
  refine Tk60.walk (l := PySem.Challenge.rw_twoglass_k60_leaves_and_steps_over) rfl rfl (fun w h Y => PySem.W.kIn_of Y) ?F Tk60.math
  case F =>
    intro w mg fa h KX G hmg
    refine' Tk60.all_mk KX G hmg ?ac0 ?ac1 ?ac2 ?ac3 ?a0 ?i0 ?l0 ?c0 ?k0 ?a1 ?i1 ?l1 ?c1 ?k1 ?a2 ?i2 ?l2 ?c2 ?k2 ?a3 ?i3 ?l3 ?c3 ?k3 ?a4 ?i4 ?l4 ?c4 ?k4 ?a5 ?i5 ?l5 ?c5 ?k5 ?a6 ?i6 ?l6 ?c6 ?k6 ?a7 ?i7 ?l7 ?c7 ?k7 ?a8 ?i8 ?l8 ?c8 ?k8 ?a9 ?i9 ?l9 ?c9 ?k9 ?a10 ?a10_2 ?a10_3 ?i10 ?l10 ?c10 ?k10 ?a11 ?i11 ?l11 ?c11 ?k11 ?a12 ?i12 ?l12 ?c12 ?k12 ?a13 ?l13 ?c13 ?k13 ?a14 ?i14 ?l14 ?c14 ?k14 ?a15 ?i15 ?l15 ?c15 ?k15 ?a16 ?i16 ?l16 ?c16 ?k16 ?p0 ?q0 ?r0 ?s0 ?n0_0 ?m0 ?kp0 ?p1 ?q1 ?r1 ?s1 ?n1_0 ?n1_1 ?m1 ?kp1 ?p2 ?q2 ?r2 ?s2 ?n2_0 ?n2_1 ?m2 ?kp2 ?p3 ?q3 ?r3 ?s3 ?y3_3 ?y3_0 ?y3_2 ?xa0 ?xa1 ?xa2 ?xa3 ?xa4 ?xe0 ?xe1 ?xe2 ?xsg ?xtk ?xg0 ?xn0 ?xf0 ?xb0 ?xg1 ?xn1 ?xf1 ?xb1 ?xg2 ?xn2 ?xf2 ?xb2 ?xo0 ?xt0 ?xo1 ?xt1 ?xo2 ?xt2 ?xo3 ?xt3 ?xo4 ?xt4 ?xw3 ?xm3_0 ?xm3_1 ?xm3_2 ?xk0_0 ?xk0_1 ?vnx0_1 ?xk0_2 ?vnx0_2 ?xk1_0 ?vnx1_0 ?xk1_1 ?xk1_2 ?vnx1_2 ?xk4_0 ?vnx4_0 ?xk4_1 ?vnx4_1 ?xk4_2 ?vnx4_2 ?xk2_0 ?vnx2_0 ?xk2_1 ?vnx2_1 ?xk2_2 ?xv_ValueError_0 ?xv_ValueError_1 ?xv_ValueError_2 ?dd0 ?zz
    (case ac0 => k_is)
    (case ac1 => k_is)
    (case ac2 => k_is)
    (case ac3 => k_is)
    (case a0 => k_is)
    (case i0 => k_is)
    (case l0 => delta TX.Lk; k_is)
    (case c0 => k_is)
    (case k0 => k_is)
    (case a1 => k_is)
    (case i1 => k_is)
    (case l1 => delta TX.Lk; k_is)
    (case c1 => k_is)
    (case k1 => k_is)
    (case a2 => k_is)
    (case i2 => k_is)
    (case l2 => delta TX.Lk; k_is)
    (case c2 => k_is)
    (case k2 => k_is)
    (case a3 => k_is)
    (case i3 => k_is)
    (case l3 => delta TX.Lk; k_is)
    (case c3 => k_is)
    (case k3 => k_is)
    (case a4 => k_is)
    (case i4 => k_is)
    (case l4 => delta TX.Lk; k_is)
    (case c4 => k_is)
    (case k4 => k_is)
    (case a5 => k_is)
    (case i5 => k_is)
    (case l5 => delta TX.Lk; k_is)
    (case c5 => k_is)
    (case k5 => k_is)
    (case a6 => k_is)
    (case i6 => k_is)
    (case l6 => delta TX.Lk; k_is)
    (case c6 => k_is)
    (case k6 => k_is)
    (case a7 => k_is)
    (case i7 => k_is)
    (case l7 => delta TX.Lk; k_is)
    (case c7 => k_is)
    (case k7 => k_is)
    (case a8 => k_is)
    (case i8 => k_is)
    (case l8 => delta TX.Lk; k_is)
    (case c8 => k_is)
    (case k8 => k_is)
    (case a9 => k_is)
    (case i9 => k_is)
    (case l9 => delta TX.Lk; k_is)
    (case c9 => k_is)
    (case k9 => k_is)
    (case a10 => k_is)
    (case a10_2 => k_is)
    (case a10_3 => k_is)
    (case i10 => k_is)
    (case l10 => delta TX.Lk; k_is)
    (case c10 => k_is)
    (case k10 => k_is)
    (case a11 => k_is)
    (case i11 => k_is)
    (case l11 => delta TX.Lk; k_is)
    (case c11 => k_is)
    (case k11 => k_is)
    (case a12 => k_is)
    (case i12 => k_is)
    (case l12 => delta TX.Lk; k_is)
    (case c12 => k_is)
    (case k12 => k_is)
    (case a13 => k_is)
    (case l13 => delta TX.Lk; k_is)
    (case c13 => k_is)
    (case k13 => k_is)
    (case a14 => k_is)
    (case i14 => k_is)
    (case l14 => delta TX.Lk; k_is)
    (case c14 => k_is)
    (case k14 => k_is)
    (case a15 => k_is)
    (case i15 => k_is)
    (case l15 => delta TX.Lk; k_is)
    (case c15 => k_is)
    (case k15 => k_is)
    (case a16 => k_is)
    (case i16 => k_is)
    (case l16 => delta TX.Lk; k_is)
    (case c16 => k_is)
    (case k16 => k_is)
    (case p0 => k_is)
    (case q0 => k_is)
    (case r0 => k_is)
    (case s0 => k_is)
    (case n0_0 => k_is)
    (case m0 => k_is)
    (case kp0 => k_is)
    (case p1 => k_is)
    (case q1 => k_is)
    (case r1 => k_is)
    (case s1 => k_is)
    (case n1_0 => k_is)
    (case n1_1 => k_is)
    (case m1 => k_is)
    (case kp1 => k_is)
    (case p2 => k_is)
    (case q2 => k_is)
    (case r2 => k_is)
    (case s2 => k_is)
    (case n2_0 => k_is)
    (case n2_1 => k_is)
    (case m2 => k_is)
    (case kp2 => k_is)
    (case p3 => k_is)
    (case q3 => k_is)
    (case r3 => k_is)
    (case s3 => k_is)
    (case y3_3 => k_is)
    (case y3_0 => k_is)
    (case y3_2 => k_is)
    (case xa0 => k_is)
    (case xa1 => k_is)
    (case xa2 => k_is)
    (case xa3 => k_is)
    (case xa4 => k_is)
    (case xe0 => k_exc)
    (case xe1 => k_exc)
    (case xe2 => k_exc)
    (case xsg => k_is)
    (case xtk => k_is)
    (case xg0 => k_is)
    (case xn0 => k_is)
    (case xf0 => k_is)
    (case xb0 => k_is)
    (case xg1 => k_is)
    (case xn1 => k_is)
    (case xf1 => k_is)
    (case xb1 => k_is)
    (case xg2 => k_is)
    (case xn2 => k_is)
    (case xf2 => k_is)
    (case xb2 => k_is)
    (case xo0 => k_is)
    (case xt0 => k_is)
    (case xo1 => k_is)
    (case xt1 => k_is)
    (case xo2 => k_is)
    (case xt2 => k_is)
    (case xo3 => k_is)
    (case xt3 => k_is)
    (case xo4 => k_is)
    (case xt4 => k_is)
    (case xw3 => k_is)
    (case xm3_0 => k_is)
    (case xm3_1 => k_is)
    (case xm3_2 => k_is)
    (case xk0_0 => k_is)
    (case xk0_1 => k_is)
    (case vnx0_1 => decide)
    (case xk0_2 => k_is)
    (case vnx0_2 => decide)
    (case xk1_0 => k_is)
    (case vnx1_0 => decide)
    (case xk1_1 => k_is)
    (case xk1_2 => k_is)
    (case vnx1_2 => decide)
    (case xk4_0 => k_is)
    (case vnx4_0 => decide)
    (case xk4_1 => k_is)
    (case vnx4_1 => decide)
    (case xk4_2 => k_is)
    (case vnx4_2 => decide)
    (case xk2_0 => k_is)
    (case vnx2_0 => decide)
    (case xk2_1 => k_is)
    (case vnx2_1 => decide)
    (case xk2_2 => k_is)
    (case xv_ValueError_0 => k_is)
    (case xv_ValueError_1 => k_is)
    (case xv_ValueError_2 => k_is)
    case dd0 => (repeat (refine' TX.KDs.mk (TX.KD.mk ?a ?l ?c ?k) ?_;(case a|l|c|k => first|delta TX.Lk;k_is|k_is)));trivial
    case zz => (repeat (refine TX.KZs.mk (by k_is) ?_));trivial

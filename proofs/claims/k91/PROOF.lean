import PyProof.Rows.All
import KE.KDictList
import KE.KIntText
import KE.KRevIter
import KE.KSortTup
import KE.KTreeD
import KE.KTryMore
import KE.KWords
import Wide.FinOn
import PySem.Challenge.RW_twoglass_k91_no_glass_written
set_option Elab.async false
set_option linter.all false
set_option maxRecDepth 100000
section
open PySem PySem.W PyProof.Rows
namespace PySem.W.Fast
def tw12752581510990411014:=0
def tw11214920445196466200:=0
def tw2669847203756908655:=0
def tw9697623534014941855:=0
def tw1532811191325844623:=0
def tw6432048565218728461:=0
def tw10280187065199941487:=0
def tw10313209530532465873:=0
def tw4802199019067519849:=0
def tw5704506075076193063:=0
def tw7559634493450222854:=0
def tw10089685232013881933:=0
def tw13513385347791671931:=0
def tw16127572277750596856:=0
def tw7704967491607860417:=0
def tw13422888978695415772:=0
def tw5273282931062191035:=0
def tw11353042547497473657:=0
def tw8110529172665177631:=0
def tw1205613302233430882:=0
def tw2723988322569977178:=0
def tw6770262004365395290:=0
def tw16515561643074608743:=0
def tw4364283441414135574:=0
def tw1184937450086015593:=0
def tw4555929919866572679:=0
def tw2283761010839798778:=0
def tw9252035371827735651:=0
def tw2299632374928682307:=0
def tw3869510032153249893:=0
def tw3697320866821724068:=0
def tw15495235217092418798:=0
def tw10777635283965364466:=0
def tw8733857961277202546:=0
def tw11370334629189212722:=0
def tw16777853449442510071:=0
def tw17801586300897120543:=0
def tw4156347004174138833:=0
def tw4698461152099373212:=0
def tw986544765809501068:=0
def tw5960842854899570013:=0
def tw5093306643358247434:=0
def tw7711094522181108068:=0
def tw11961206763396854901:=0
def tw5440493401980592222:=0
def tw4573887940504326131:=0
def tw15941823649129674094:=0
def tw10583319718539515516:=0
def tw5182858643004657492:=0
def tw15969575610088299804:=0
def tw11098653598098979258:=0
def tw12265696924448500471:=0
def tw648710186749463638:=0
def tw713380048234085779:=0
def tw17256680534000604426:=0
def tw8189381953720872910:=0
def tw2560815287447467779:=0
def tw13508277108226254269:=0
def tw2407159449560059364:=0
def tw1068368189645035904:=0
def tw15798036934259803423:=0
def tw5216403789127256948:=0
def tw9427039327523637322:=0
def tw18420999824281786193:=0
def tw9013117453901614758:=0
def tw13998845648163426212:=0
def tw8774404789025935584:=0
def tw6571433073517070800:=0
def tw5696106735960478286:=0
def tw10440938652397090479:=0
def tw15163704512637302908:=0
def tw10444310249959480234:=0
def tw5663105450837813179:=0
def tw1273682886251002927:=0
def tw4131216127938794967:=0
def tw11594287571139116328:=0
def tw1684350230259279229:=0
def tw5985065435980824589:=0
def tw6903119867149797762:=0
def tw11315641543983943132:=0
def tw5966567149350931781:=0
def tw6795099584028135996:=0
def tw16965063442324210472:=0
def tw14959937579549910810:=0
def tw10595378026083938807:=0
def tw9593046787465491406:=0
def tw16040280880082014851:=0
def tw13757886435344123626:=0
def tw17409639685816822896:=0
def tw11694430328796008959:=0
def tw8397335710041901043:=0
def tw16631336773218718482:=0
def tw15294279593204902167:=0
def tw12452209237566505302:=0
def tw1354537828194468347:=0
def tw15618022507448819188:=0
def tw15183211207702187452:=0
def tw15418920058609152976:=0
def tw14394807435053880168:=0
def tw15612382490355982316:=0
def tw13955724602661169675:=0
def tw7376128325485693513:=0
def tw5074370289402776007:=0
def tw4346854295009431202:=0
def tw7869728527895216768:=0
def tw7850200195145838983:=0
def tw4817060376769712505:=0
def tw6859190554690277506:=0
def tw16306891790505206888:=0
def tw7435277835446257825:=0
def tw13672365599304410021:=0
def tw11302023098730288155:=0
def tw14030164339560737324:=0
def tw126607964778477348:=0
def tw11752758462665168396:=0
def tw2752301106375589648:=0
def tw6012300027548409426:=0
def tw2495698309592021531:=0
def tw12186099499630393532:=0
def tw14191422830609100048:=0
def tw707200588889521105:=0
def tw9732418864870591019:=0
def tw8878377163199135107:=0
def tw242936124991950867:=0
def tw7071343020620917589:=0
def tw12249818251783289119:=0
def tw9365653268991979216:=0
def tw876475982875537257:=0
def tw17222003439286739415:=0
def tw15506130991024437954:=0
def tw5090248063543794277:=0
def tw10400026640061647549:=0
def tw6840944854843140373:=0
def tw12797228467928928884:=0
def tw14648561330831889692:=0
def tw214738014370121101:=0
def tw1808652074091339918:=0
def tw8904729114097588019:=0
def tw963502627014787893:=0
def tw7048768920430444993:=0
def tw9554529999605441193:=0
def tw2418332295793303251:=0
def tw4074419499989399112:=0
def tw3314764143285021868:=0
def tw5992572793238408676:=0
def tw6645656132067957136:=0
def tw7013608390272721002:=0
def tw16792912730429645362:=0
def tw7637201218637982230:=0
def tw9031789845112892169:=0
def tw6479634163105861003:=0
def tw15093481483551892964:=0
def tw13200208750201019082:=0
def tw3307348512551088634:=0
def tw6745063667539813468:=0
def tw16765448740606851733:=0
def tw9497453124257108555:=0
def tw12105224696633797504:=0
def tw6449652044274533512:=0
def tw8296757263836046853:=0
def tw8657225402146597902:=0
def tw17287667785881398696:=0
def tw4693779404124821429:=0
def tw3168864320739713781:=0
def tw8758495330736840354:=0
def tw17242311585181009281:=0
def tw5023252063071022068:=0
def tw17170755578282188644:=0
def tw3116014415136901895:=0
def tw4630295934263998446:=0
def tw4417976238124899949:=0
def tw6323336161105349371:=0
def tw8642503050061243994:=0
def tw2696818280527921265:=0
def tw6145453804037083799:=0
def tw821674588343861690:=0
def tw14328051492981278664:=0
def tw12244602097205146308:=0
def tw5331233710778736227:=0
def tw15808084567379043910:=0
def tw2023803753896927060:=0
def tw17024710008042792799:=0
def tw1948244116602385379:=0
def tw11525738765594164533:=0
def tw3991562856746761624:=0
def tw9013314416290655026:=0
def tw1538406734212968319:=0
def tw10099496820402561987:=0
def tw12866540601022134105:=0
def tw16173045642931472707:=0
def tw3965194877827197528:=0
def tw9474951873075846447:=0
def tw1247292719130851117:=0
def tw16472997754082603771:=0
def tw4604071709126360586:=0
def tw18169097147090381030:=0
def tw18398333739704685169:=0
def tw18283827956246289861:=0
def tw6254749321666245858:=0
def tw6711631136545577189:=0
def tw7985717760923173757:=0
def tw1670305510703499298:=0
def tw17168396593796456744:=0
def tw14610412718960014212:=0
def tw13233744418917012933:=0
def tw9996268924806502635:=0
def tw7881307041970444160:=0
def tw7839239594590496587:=0
def tw16840019965515907460:=0
def tw10899230918083988218:=0
def tw5122689983255263721:=0
def tw12982018347044473643:=0
def tw5899500568413744783:=0
def tw11860509481769095313:=0
def tw15391873515722094096:=0
def tw14025943355446990822:=0
def tw12447085842173980657:=0
def tw1979882988533313246:=0
def tw9336513890986045962:=0
def tw14942569575511535661:=0
def tw14020008653637711784:=0
def tw14084788977588670322:=0
def tw10056137213861324024:=0
def tw5920812634482950797:=0
def tw18314929921216605106:=0
def tw7541103155177954760:=0
def tw8821333358638874573:=0
def tw6483229842411107858:=0
def tw12985180757458734210:=0
def tw15618364192220566427:=0
def tw9612666365815119490:=0
def tw2950628040445500844:=0
def tw10159801547277439022:=0
def tw10399257588199521768:=0
def tw13604694333832928154:=0
def tw11078886252298377315:=0
def tw14555540960637796198:=0
def tw2902330940338131562:=0
def tw3536092355649300109:=0
def tw12354484568553043256:=0
def tw7425875467152426601:=0
def tw3249675398640959925:=0
def tw15538544236790031258:=0
def tw5089791003868402604:=0
def tw12247112099970776859:=0
def tw15369352658262913456:=0
def tw15185119448888104153:=0
def tw3782156956577830097:=0
def tw674597164803025014:=0
def tw16165791369751520820:=0
def tw12163750239619154632:=0
def tw17121821273963461662:=0
def tw2123100903959369487:=0
def tw16945610577726152260:=0
def tw15018360694797367254:=0
def tw3989900649925169885:=0
def tw10482041675666750556:=0
def tw14394733317346031570:=0
def tw1062601076084736575:=0
def tw13221474720392047992:=0
def tw10714039604019965732:=0
def tw766349984171470095:=0
def tw3880361203684108654:=0
def tw8193323761701424924:=0
def tw4706352957634991096:=0
def tw5962683277036609530:=0
def tw4208128907528374429:=0
def tw4606583933718596409:=0
def tw12022169165698446275:=0
def tw17940337932487860217:=0
def tw14692575735843864514:=0
def tw214915867523213203:=0
def tw14956466183145592998:=0
def tw4264344380488425542:=0
def tw3749745520506303383:=0
def tw9214841508256630969:=0
def tw3458325450699516490:=0
def tw11778723154166412609:=0
def tw1741311797902861902:=0
def tw4035743963291865935:=0
def tw661201909178928009:=0
def tw9582104062177869552:=0
def tw6937017003190422250:=0
def tw12402260969662902485:=0
def tw13489114714224600572:=0
def tw2893213518605388942:=0
def tw10352236332373694786:=0
def tw810444960938205786:=0
def tw4595251390349485724:=0
def tw988299266130462668:=0
def tw8567420640849880628:=0
def tw9945283965071594648:=0
def tw2274695272786340000:=0
def tw21540267772030389:=0
def tw11566308013931156694:=0
def tw16484266684410231834:=0
def tw9523264179808041853:=0
def tw6436363420186043548:=0
def tw2334451744421694814:=0
def tw11855740812831808615:=0
def tw5600876448027729436:=0
def tw1898787674309409220:=0
def tw1003916070317071880:=0
def tw13738349986943163014:=0
def tw2900505355835087480:=0
def tw8194119106150321558:=0
def tw15033862677059445185:=0
def tw16964959085992767440:=0
def tw15146858362330758409:=0
def tw17827542425450302424:=0
def tw8378180620471915453:=0
def tw9514655534518283244:=0
def tw15796262494452436797:=0
def tw15727469676326074682:=0
def tw15036690280388884819:=0
def tw3954648059023703295:=0
def tw10826651030966477475:=0
def tw6469860169554442961:=0
def tw10423578396558056723:=0
def tw4182363844628539040:=0
def tw15319813315340451561:=0
def tw13461001770595751020:=0
def tw11700478770231746004:=0
def tw133329999157311733:=0
def tw10622343364661915101:=0
def tw11797454709084169506:=0
def tw7271617564781974587:=0
def tw9564509592304260014:=0
def tw15186357938089533328:=0
def tw5419770228277552535:=0
def tw11078323349119120579:=0
def tw3890378684453887010:=0
def tw7453578412522229788:=0
def tw5608321243223293330:=0
def tw9076543175712813128:=0
def tw6720183869698943966:=0
def tw10189781144422915717:=0
def tw350123606140908205:=0
def tw412773978445402678:=0
def tw10498062476449353855:=0
def tw220969543063263705:=0
def tw13190863148725739523:=0
def tw13185266554310376904:=0
def tw8287532159763436482:=0
def tw6780955224824377583:=0
def tw7546569015944262579:=0
def tw7027331360201455960:=0
def tw2857726148635236312:=0
def tw18144877355894414506:=0
def tw4241621985726027123:=0
def tw16351729115628064167:=0
def tw2711295848196425550:=0
def tw206201682188307940:=0
def tw3692554659880906459:=0
def tw276436734585026239:=0
def tw14789649711831473205:=0
def tw433911647557960147:=0
def tw794689781645636560:=0
def tw16226586987943538349:=0
def tw2432233950174064155:=0
def tw4129819881782111947:=0
def tw18445454650686904060:=0
def tw15775957504704932262:=0
def tw2717569237550828222:=0
def tw9126032043052261895:=0
def tw15675776812525363077:=0
def tw11750097070867016942:=0
def tw13368899224548921806:=0
def tw5983434757334977430:=0
def tw13084749437902334933:=0
def tw15470681219933501749:=0
def tw3069977667071762104:=0
def tw6720795173319123814:=0
def tw12898317521621094408:=0
def tw18245975329980161790:=0
def tw598084083178695901:=0
def tw6958996329576933934:=0
def tw14642057511463469570:=0
def tw7105163546149160681:=0
def tw1864017260356728490:=0
def tw8883569439964809018:=0
def tw7726576452994342761:=0
def tw16843373630953531487:=0
def tw6818512794276974117:=0
def tw11581266969044608619:=0
def tw589462886451801642:=0
def tw8887384542059354465:=0
def tw6319116043638020698:=0
def tw9193869988852430949:=0
def tw4200106878023287300:=0
def tw16038059435238589628:=0
def tw2740170838741778106:=0
def tw6707655867467458238:=0
def tw6222419806432649647:=0
def tw11041555086984654984:=0
def tw7633019713259795553:=0
def tw15427076437475036634:=0
def tw8643007166632178906:=0
def tw9009324885609974064:=0
def tw8940583504674651693:=0
def tw10695758747264792990:=0
def tw7734362651836396570:=0
def tw4567741298850751149:=0
def tw4028800206315039851:=0
def tw11347642804703243411:=0
def tw5747673758994277807:=0
def tw9548290452282705974:=0
def tw7395065817406032099:=0
def tw7741607352426259881:=0
def tw9986551139746837265:=0
def tw8570080167982405887:=0
def tw11466455600958543128:=0
def tw7385522395900182328:=0
def tw5066867856298846605:=0
def tw18041733363744889788:=0
def tw10246836836529080786:=0
def tw4221068556277369602:=0
def tw16665016461991907730:=0
def tw5265673148666854743:=0
def tw3851577363179153280:=0
def tw15607855598324021430:=0
def tw15820368178880264016:=0
def tw17281519779060049209:=0
def tw12347279511786161293:=0
def tw9233660868859527016:=0
def tw12704068249439211502:=0
def tw7122851557952943109:=0
def tw8749751537425549440:=0
def tw12860120327114123317:=0
def tw16784958218805792915:=0
def tw10510935776831791301:=0
def tw5679856771785672463:=0
def tw13956697604960014885:=0
def tw16306954681640387823:=0
def tw17430543210977227491:=0
def tw8861850302149080221:=0
def tw15252389182810865609:=0
def tw13646394613804019129:=0
def tw9629291422205974755:=0
def tw14321317798431666769:=0
def tw10589446516458686009:=0
def tw13412128132479196218:=0
def tw8713038937211880976:=0
def tw8866284116550310246:=0
def tw12503565685855808875:=0
def tw17655000736353955893:=0
def tw14743505065221183582:=0
def tw17412319920533993630:=0
def tw3641088204005658790:=0
def tw7084284806440444510:=0
def tw6345802524455647496:=0
def tw367996682511730467:=0
def tw8153874663368813269:=0
def tw1767773894784245774:=0
def tw10019835526515544772:=0
def tw5967811463635641796:=0
def tw728684431693209158:=0
def tw7793627820904095475:=0
def tw15689992786247168812:=0
def tw14825785156270146204:=0
def tw3473660727565888407:=0
def tw275258143365666990:=0
def tw10974753851252812191:=0
def tw2461267327192069753:=0
def tw17799810934159603887:=0
def tw12711742400525867769:=0
def tw5231014841835265442:=0
def tw17447570007148025119:=0
def tw9689491011630819461:=0
def tw13536274645389769773:=0
def tw14014040369659015199:=0
def tw2244680745681260224:=0
def tw6480462255445529755:=0
def tw8598252535655068862:=0
def tw11159928772252745635:=0
def tw17238365826247069964:=0
def tw182617529740819442:=0
def tw8981786730265991019:=0
def tw15806906701062658262:=0
def tw16517546807882139245:=0
def tw2024501455808613486:=0
def tw14539998249659046252:=0
def tw740518314332129572:=0
def tw4545622260302780297:=0
def tw18082943779150198784:=0
def tw14158559037306104221:=0
def tw13764683794633030753:=0
def tw13884432651598506707:=0
def tw17470518594354900893:=0
def tw9836367465105581384:=0
def tw12972787250659015998:=0
def tw5837551766448594739:=0
def tw7905919095901611080:=0
def tw13832575256805735406:=0
def tw7369477328225294099:=0
def tw979457236885593705:=0
def tw14998260815032140326:=0
def tw7276282699484870486:=0
def tw12130487024290516090:=0
def tw18073400562679383533:=0
def tw6562209758879300718:=0
def tw5104443734202985548:=0
def tw4094000286210078755:=0
def tw6003554134684340578:=0
def tw13261485180768642917:=0
def tw14580314915255065462:=0
def tw17055572470698379198:=0
def tw9060328132992632991:=0
def tw8607736158655310619:=0
def tw5094813919074216495:=0
def tw17376917757538038419:=0
def tw2441728005907768050:=0
def tw17418333966647427020:=0
def tw10190634758856588157:=0
def tw9668222352808025142:=0
def tw9098129006668690049:=0
def tw2766454375285578748:=0
def tw17752540751912546828:=0
def tw10193439500434168310:=0
def tw17399157611895822323:=0
def tw10803276397193517818:=0
def tw411304362933831939:=0
def tw6846861734928354239:=0
def tw11400983209456786369:=0
def tw3011924207055949593:=0
def tw3800589287090824208:=0
def tw12518470095236172908:=0
def tw10550983829851967386:=0
def tw1577438798959590059:=0
def tw1318881274862261866:=0
def tw3838675358948231085:=0
def tw17604825240089194704:=0
def tw3763043768401976968:=0
def tw3042572174261804262:=0
def tw5706584131701199504:=0
def tw15209138151627363788:=0
def tw7907723376814028506:=0
def tw11167247133341276142:=0
def tw6702906331231537994:=0
def tw12086855448145042418:=0
def tw7349451219218700127:=0
def tw9866829316641291563:=0
def tw568697246785352878:=0
def tw12251677014116383509:=0
def tw9996012002258243092:=0
def tw5030611585380229486:=0
def tw3296515606118567374:=0
def tw3661733921732092664:=0
def tw8617565541767267434:=0
def tw16454719233333396508:=0
def tw10022013410620025282:=0
def tw17244363092760139736:=0
def tw11257006803662794857:=0
def tw12275587930620167182:=0
def tw7551752413890226233:=0
def tw1581512358893463305:=0
def tw18042126199699094532:=0
def tw331690057199918258:=0
def tw449822380412244541:=0
def tw11403965789724147457:=0
def tw7312361196426124316:=0
def tw5869193102148783725:=0
def tw8542335902505644553:=0
def tw14325365687115136586:=0
def tw9717098948834718340:=0
def tw17970445467677522728:=0
def tw15043521845079709052:=0
def tw16855662829288227754:=0
def tw4343931601762896071:=0
def tw8817068053989946045:=0
def tw15766565968465761543:=0
def tw3819247684554276323:=0
def tw2462996299132822131:=0
def tw1308602030061284377:=0
def tw15059661261484439085:=0
def tw17023631003035105109:=0
def tw5098341859916350769:=0
def tw6814010282764682581:=0
def tw5920916121426416233:=0
def tw12414260133564660078:=0
def tw11416126257215929632:=0
def tw11962802692055850617:=0
def tw3177132438935392819:=0
def tw8588588834103304406:=0
def tw2099159360035490675:=0
def tw8024054128171876432:=0
def tw11808442267742693183:=0
def tw5320356090973772267:=0
def tw17940878479202655781:=0
def tw11616742289636178103:=0
def tw4136206614992345919:=0
def tw11586658458173854620:=0
def tw16497740039991242281:=0
def tw17431053589522350554:=0
def tw8835805328182461418:=0
def tw16706438322831397931:=0
def tw2358638854403573431:=0
def tw5709512030863552705:=0
def tw7393510959703574139:=0
def tw16103264006172556412:=0
def tw18180638746167705926:=0
def tw3571457520175200078:=0
def tw16566444394396753791:=0
def tw8311587651945728733:=0
def tw477428361853878276:=0
def tw13304670070354018178:=0
def tw3835880734362489294:=0
def tw12809827453168483995:=0
def tw16260292041066731304:=0
def tw16256142255561843940:=0
def tw9296973575329196900:=0
def tw9255666934049121375:=0
def tw1933322730711276071:=0
def tw9728163997247284728:=0
def tw4150143302619577340:=0
def tw9165334818424793992:=0
def tw11765043777586815538:=0
def tw14498610587682114683:=0
def tw10997362589349784695:=0
def tw15890356698641426033:=0
def tw7489607044608110502:=0
def tw4314702687758502617:=0
end PySem.W.Fast
set_option maxHeartbeats 0 in
open_top hd91 for PySem.Challenge.rw_twoglass_k91_no_glass_written
end
local macro_rules|`(tactic|omega)=>`(tactic|first|lia|omega (config:={}))
open List renaming take_nil→Tb,drop_nil→Tc,filterMap_cons→Ti,mem_cons_self→Tj,mem_cons_of_mem→Tl,mem_append_left→Tn,getElem?_set_self→To,getElem?_set_ne→Tp,mem_append_right→Tu,size_toArray→Tv,length_cons→Tw,map_cons→Tx,length_map→Tz,append_nil→TJ,of_mem_zip→TL,length_take→TN,getElem?_append_right→TQ,getElem?_replicate→TR,getElem?_append_left→TU,getElem?_map→TV,take_sublist→TY,mem_of_getElem?→TZ,length_append→T1,length_drop→T5,reverse_cons→T8,length_singleton→T9,map_nil→Ua,lookup_cons→Ub,forIn_cons→Uc,cons_append→Ue,take_zero→Ug,take_succ_cons→Uh,drop_zero→Ui,drop_succ_cons→Uj,all_cons→Uk,range_succ_eq_map→Ul,getElem?_eq_getElem→Um,nil_append→Uv,map_append→Uw,length_range→Ux,length_set→Uz,drop_eq_getElem_cons→UA,append_assoc→UC,drop_length→UD,forIn_nil→UG,mem_cons→UH,not_mem_nil→UI,getElem?_cons_succ→UJ,zip_cons_cons→UN,contains_cons→UO,nodup_append→UQ,replicate_zero→UT,any_cons→UU,zip_nil_right→UV,length_nil→UW,length_zip→UX,dropLast_eq_take→UY,set_set→U1,ext_getElem?→U2,getElem?_eq_none→U3,length_reverse→U4,map_map→U7,getD_eq_getElem?_getD→U9,take_of_length_le→Va,set_cons_zero→Vb,set_cons_succ→Vc,mem_nil_iff→Ve,flatMap_append→Vf,flatMap_cons→Vg,reverse_append→Vi,getElem_mem→Vk,isEmpty_cons→Vn,sum_cons→Vp,sum_nil→Vq,countP_append→Vr,drop_sublist→Vu,take_append_drop→Vv,cons_ne_nil→Vw,append_cancel_left→Vx,append_cancel_right→Vz
open Int renaming toNat_natCast→T4,emod_nonneg→Vs,emod_lt_of_pos→Vt
open Nat renaming lt_of_lt_of_le→Td,lt_irrefl→Te,ne_of_lt→Tf,le_trans→Tg,le_of_lt→Th,ne_of_gt→Tr,le_refl→Tt,le_of_eq→TB,lt_succ_self→TF,zero_le→TH,le_succ→TK,min_self→Uo,log2_lt→Ut,lt_trans→Uu,sub_zero→Uy,lt_of_le_of_lt→UB,le_add_right→UK,add_lt_add_left→UL,lt_add_of_pos_right→UM,sub_self→UR,add_sub_cancel→U5,mul_le_mul_right→U6,zero_add→U8,not_lt_zero→Vh,toDigits_of_lt_base→Vl,pow_le_pow_right→Vm,le_of_ble_eq_true→Vo,ne_of_beq_eq_false→Vy
open Bool renaming false_ne_true→Tq,false_and→Ts,and_eq_true→T6,false_eq_true→Ud,and_true→Uq,and_false→Ur,or_eq_true→Us,or_eq_false_iff→UP,not_true→UZ,not_eq_true'→U0,not_false→Vd,and_self→Vj
open Option renaming some→ag,none→am,getD_none→T7,getD_some→UE
open PySem renaming Value→WU,NameKind→WV,Addr→WW,Expr→WX,Stmt→WY,Shared→WZ,World→W0,Program→W1,Paired→W2,Heap→W3,sizeLine→W4,mainGlobals→W5,bootBuiltins→W6,Around→W7,Scope→W8,Model→W9,wpAny→Xa,starEach→Xb,wpAny_mono→Xc,wpAny_Name→Xd,CmpOp→Xf,compareOp→Xg,behindInMarks→Xh,wpAny_truthy_bool→Xi,wpAny_execs_nil→Xj,wpAny_execs_cons→Xk,wpAny_assign_Name→Xl,PassesOwn→Xm,wpAny_passesOwn→Xn,wpAny_pure→Xo,wpAny_bind→Xp,wpAny_pyIter_list→Xq,foldedSetIterable→Xr,binaryOp→Xs,wpAny_BinOp→Xt,sizeLine_eq→Xu,Result→Xv,codeAny→Xw,attributeBase→Xx,callWith→Xy,keywordEach→Xz,cLine→XC,FuncData→XD,BindsTo→XF,wpAny_call→XH,codeAny_mono→XJ,wpAny_Call_Name_kw→XQ,wpAny_newFunctionEnv_cells→XR,concat_meets→XU,noFill_tuple_add→XX,seq_tuple_add→XY,IsPart→XZ,wpAny_field→X0,wpAny_holding→X1,wpAny_callSpecial?_slot→X2,wpAny_call_entry→X3,wpAny_typeOf→X4,wpAny_newObj_type→X5,typeIs_str→X6,Keyword→X7,wpAny_Call_method_late→X8,DictEntry→X9,wpAny_specialOf→Ya,wpAny_comprehension_free→Yb,wpAny_setField→Yc,wpAny_rule→Yd,wpAny_getItem_str_slice→Ye,post_val_or_str→Yf,wpAny_seqItems→Yg,IsZip→Yh,IsPair→Yi,wpAny_setField_rec→Yj,wpAny_onRaise→Yk,wpAny_updateSeq_pair→Yl,wpAny_letGo→Ym,wpAny_attempt→Yn,codeAny_call_builtin→Yo,wpAny_pyNext_ascii_item→Ys
open PySem.W renaming instObj→VA,methodObj→VB,Frag→VC,lookIn→VD,plainGet→VE,hasDictIn→VF,findIn→VG,handedIn→VH,plainGet_of→VI,isFn→VJ,plainOver→VL,takerIn→VM,any_some→VN,makesIn→VO,typeIn→VP,InitBack→VQ,emptyDict→VR,make_core→VU,makes_of→VV,looks_findIn→VW,Looks→VX,keepIn→VY,callWith_K→VZ,cellsFrom_some→V0,fnOf→V1,codeIn→V2,codeRec_of→V3,OpenLaw→V4,nsIn→V5,notCls→V6,kitOne→V7,kia_one→V8,clsIn→V9,instIn→Wa,subIn→Wb,specialIn→Wc,takesIn→Wd,mroIn→We,isIn→Wf,tailIn→Wg,nsOkIn→Wh,exmOne→Wi,kitCls→Wj,callWith_K0→Wk,mg_of→Wl,looks_findIn→Yp,Looks→Yq
open PySem.Heap renaming get?_push_size→Wm,lt_size→Wn,SameBut→Wo,get?_push_of_some→Wp,size_push→Wq,get?_update_other→Wr,HeldW→Ws,FlyingW→Wt,get?_update_self→Wu
open PyProof.Rows renaming callWith_type1→Wv,slot_tuple_getitem→Ww,envOfC→Wx,IsTup→Wy,Call_→Wz,boot_int→WB,boot_str→WC,boot_tuple→WF,Constant_none→Xe,Keyed→Yr
open PySem.F renaming slot_tuple_add→WG,entry_tuple_add→WH,args_tuple_add_2→WK,excBase_ValueError→WL,plainAttrs_str→WM,slot_str_replace→WN,type_str_replace→WO,slot_str_split→WP,slot_list_append→WQ,type_list_append→WR
set_option maxHeartbeats 1000000
local macro_rules | `(‹2›)=>`(⟨rfl, rfl, rfl, by decide +kernel, rfl, by decide +kernel, by decide +kernel⟩)
local macro_rules | `(‹0›)=>`(by omega)
noncomputable section
open PySem PySem.Spec
def And.e:=@And.elim
def Exists.e:=@Exists.elim
def ba:=@if_pos
def br:=@if_neg
def bt:=@absurd
def b0:=@decide_eq_true
def cb:=@decide_eq_false
def cr:=@of_decide_eq_true
def dl:=@congrArg
namespace L2
open PyProof.Rows
abbrev eV:=List (Option Nat)
abbrev bN:=Str->Option WU
abbrev pS:=List (Str×WV)
abbrev bg:=List (WW×Obj)
abbrev lD:=List (Str×WW)
abbrev aS:=List WX
abbrev cU:=List WY
abbrev bA:=List WU
abbrev aD:=List WW
abbrev dH:=Option Int
abbrev bJ:=List Nat
abbrev bI:=WU->WZ->Prop
abbrev ib:=WZ->Prop
abbrev af:=List Str
noncomputable abbrev Key:=Sum Int Str
def rj:Key->WU->Bool
 |.inl k,v=>Value.isInt k v
 |.inr x,v=>Value.isStrOf x v
def QY(w:W0):Key->Int
 |.inl k=>hashInt k
 |.inr x=>hashStr w x
def de:∀{k:Key}{v:WU},rj k v=true->(∃i t,k=Sum.inl i/\v=Value.int i t)\/(∃x t,k=Sum.inr x/\v=Value.str x t)
 |.inl i,v,h=>by
  obtain⟨t,e⟩:=Value.isInt_shape (k:=i) (v:=v) h;exact .inl ⟨i,t,rfl,e⟩
 |.inr x,v,h=>by
  obtain⟨t,e⟩:=Value.isStrOf_shape (x:=x) (v:=v) h;exact .inr ⟨x,t,rfl,e⟩
def Ba(i:Int)(t:Tok):rj (.inl i) (.int i t)=true:=by simp[rj,Value.isInt]
def BU(x:Str)(t:Tok):rj (.inr x) (.str x t)=true:=by simp[rj,Value.isStrOf]
def LX(a b:Int):decide ((Sum.inl a:Key)=Sum.inl b)=(a==b):=by
 by_cases e:a=b
 ·subst e;simp
 ·have h:¬(Sum.inl a:Key)=Sum.inl b:=λq=>e (Sum.inl.inj q);rw[cb h];exact(beq_eq_false_iff_ne.mpr e).symm
def Lq(a b:Str):decide ((Sum.inr a:Key)=Sum.inr b)=decide (a=b):=by
 by_cases e:a=b
 ·subst e;simp
 ·have h:¬(Sum.inr a:Key)=Sum.inr b:=λq=>e (Sum.inr.inj q);rw[cb h,cb e]
def Lx(a:Int)(b:Str):decide ((Sum.inl a:Key)=Sum.inr b)=false:=cb (λq=>nomatch q)
def My(a:Str)(b:Int):decide ((Sum.inr a:Key)=Sum.inl b)=false:=cb (λq=>nomatch q)
noncomputable def fN(prog:W1)(w:W0):PySem.KeyKind prog w Key where
 is:=rj
 hash:=QY w
 inj:=λv a b ha hb=>by
  rcases de ha with⟨i,t,rfl,rfl⟩|⟨x,t,rfl,rfl⟩
  ·rcases de hb with⟨j,u,rfl,e⟩|⟨y,u,rfl,e⟩
   ·injection e with e1 _;rw[e1]
   ·exact nomatch e
  ·rcases de hb with⟨j,u,rfl,e⟩|⟨y,u,rfl,e⟩
   ·exact nomatch e
   ·injection e with e1 _;rw[e1]
 byValue:=λk v h=>by
  rcases de h with⟨i,t,rfl,rfl⟩|⟨x,t,rfl,rfl⟩<;>rfl
 pyHash:=λhv h=>by
  rcases de hv with⟨i,t,rfl,rfl⟩|⟨x,t,rfl,rfl⟩
  ·exact wpAny_pyHash_int h
  ·exact wpAny_pyHash_str h
 eqBool:=λhu hv h=>by
  rcases de hu with⟨i,t,rfl,rfl⟩|⟨x,t,rfl,rfl⟩
  ·rcases de hv with⟨j,u,rfl,rfl⟩|⟨y,u,rfl,rfl⟩
   ·rw[LX]at h;exact wpAny_eqBool_int h
   ·rw[Lx]at h;exact SeqAt.EqAt.int_str i t y u _ _ _ _ h
  ·rcases de hv with⟨j,u,rfl,rfl⟩|⟨y,u,rfl,rfl⟩
   ·rw[My]at h;exact SeqAt.EqAt.str_int x t j u _ _ _ _ h
   ·rw[Lq]at h;exact wpAny_eqBool_str h
 «strs»:=λk x t v h=>by
  rcases de h with⟨i,u,rfl,e⟩|⟨y,u,rfl,e⟩
  ·exact nomatch e
  ·injection e with e1 _;subst e1;cases v<;>rfl
def wn(prog:W1)(w:W0)(i:Int)(t:Tok):(fN prog w).is (.inl i) (.int i t)=true:=Ba i t
def jH(prog:W1)(w:W0)(x:Str)(t:Tok):(fN prog w).is (.inr x) (.str x t)=true:=BU x t
inductive V where
 |non|bl (b:Bool)|int (i:Int)|str (x:Str)|byt (b:Array UInt8)|flt (b:UInt64)|ref (a:WW)|ty (n:String)
 deriving DecidableEq
abbrev aN:=List V
def RelV:V->WU->Prop
 |.non,u=>u=Value.none
 |.bl b,u=>u=Value.bool b
 |.int i,u=>∃t,u=Value.int i t
 |.str x,u=>∃t,u=Value.str x t
 |.byt b,u=>∃t,u=Value.bytes b t
 |.flt b,u=>∃t,u=Value.float b t
 |.ref a,u=>u=Value.ref a
 |.ty n,u=>u=Value.type n
abbrev Vals:aN->bA->Prop:=W2 RelV
theorem Vals.length{xs:aN}{us:bA}(r:Vals xs us):xs.length=us.length:=Paired.length r
theorem Vals.get:∀{xs:aN}{us:bA}{i:Nat}{x:V},Vals xs us->xs[i]?=ag x->∃u,us[i]?=ag u/\RelV x u
 |_,_,_,_,.nil,e=>by simp at e
 |_,_,0,_,.cons r _,e=>by simp at e;subst e;exact⟨_,rfl,r⟩
 |_,_,i+1,x,.cons _ t,e=>by
  obtain⟨u,h1,h2⟩:=Vals.get (i:=i) (x:=x) t (by simpa using e);exact⟨u,by simpa using h1,h2⟩
def Vals.append{xs ys:aN}{us ws:bA}(h:Vals xs us)(s:Vals ys ws):Vals (xs++ys) (us++ws):=by
 induction h with
 |nil=>exact s
 |cons r _ ih=>exact .cons r ih
theorem Vals.take{xs:aN}{us:bA}(n:Nat)(h:Vals xs us):Vals (xs.take n) (us.take n):=by
 induction h generalizing n with
 |nil=>rw[Tb,Tb];exact .nil
 |cons r _ ih=>
  cases n with
  |zero=>exact .nil
  |succ n=>exact .cons r (ih n)
theorem Vals.drop{xs:aN}{us:bA}(n:Nat)(h:Vals xs us):Vals (xs.drop n) (us.drop n):=by
 induction h generalizing n with
 |nil=>rw[Tc,Tc];exact .nil
 |cons r t ih=>
  cases n with
  |zero=>exact .cons r t
  |succ n=>exact ih n
def Aq:Option V->Option WU->Prop
 |some v,ag u=>RelV v u
 |none,am=>True
 |_,_=>False
def KV{κ:Type}:List (κ×V)->List (κ×WU)->Prop:=W2 λ(p:κ×V)(q:κ×WU)=>p.1=q.1/\RelV p.2 q.2
def kV:Key->V
 |.inl i=>.int i
 |.inr x=>.str x
inductive HO where
  |lst (xs:aN)
  |tup (xs:aN)
  |dK (kvs:List (Key×V))|dT (kvs:List (List Key×V))
  |set (S:Int->Bool) (n:Nat)
  |ins (C dx:WW) (fs:List (Str×V))
  |own (x:WW)
  |xd (fs:List (Str×V))
  |met (f x:WW)
  |rng (lo hi:Int)
  |frz (o:Obj) (u:HO)
  |tbl (ps:Array WU)
  |ext (φ:(WW->Prop)->W3->Prop)
abbrev Hp:=WW->Option HO
def upd(H:Hp)(a:WW)(o:HO):Hp:=λb=>if b=a then ag o else H b
def bu{H:Hp}{a:WW}{o:HO}:upd H a o a=ag o:=by unfold upd;rw[ba rfl]
def aL{H:Hp}{a b:WW}{o:HO}(h:b≠a):upd H a o b=H b:=by unfold upd;rw[br h]
def yM{H:Hp}{a:WW}{o u:HO}:upd (upd H a o) a u=upd H a u:=by
 funext b;unfold upd;split<;>rfl
def aT{H:Hp}{a b:WW}{o:HO}(h:H a=ag o)(h':H b=am):a≠b:=by
 intro e;subst e;rw[h]at h';cases h'
def xI(h:W3)(a:WW)(items:Array WU):Prop:=∃o,h.get? a=ag o/\o.cls=.type "tuple"/\∃n,o.data=.seq items n/\o.dict=am
def xI.new(h:W3)(items:Array WU):xI (h.push {cls:=.type "tuple",data:=.seq items}) h.objs.size items:=⟨_,Wm _ rfl,rfl,_,rfl,rfl⟩
def xI.tup{h:W3}{a:WW}{items:Array WU}(x:xI h a items):IsTup h a items:=by
 obtain⟨o,e,c,n,d,_⟩:=x;exact⟨o,e,c,n,d⟩
section
variable(P:W1)(w:W0)
def gv(H:Hp)(h:W3)(a:WW):HO->Prop
 |.lst xs=>xs.length<=W4/\∃(its:bA)(n:Nat),Vals xs its/\h.get? a=ag {cls:=.type "list",data:=.seq its.toArray n}
 |.tup xs=>xs.length<=W4/\∃its:bA,Vals xs its/\xI h a its.toArray
 |.dK kvs=>kvs.length<=W4/\(a==sysModules)=false/\∃vs,KV kvs vs/\h.DictOf (fN P w) a vs
 |.dT kvs=>kvs.length<=W4/\(a==sysModules)=false/\∃xs:List (List Key×WW×WU),
   W2 (λ(p:List Key×V)(q:List Key×WW×WU)=>p.1=q.1/\H q.2.1=ag (.tup (p.1.map kV))/\RelV p.2 q.2.2) kvs xs/\
   ∃o es ep,h.get? a=ag o/\o.ExactDict/\o.data=.dict es ep/\es.toList=xs.map (entryOfKey (tupleKind (fN P w)))/\(xs.map (·.1)).Nodup
 |.set S n=>h.SetOf (intKind P w) a S n
 |.ins C dx fs=>H dx=ag (.own a)/\fs.length<=1000/\dx≠a/\h.get? a=ag (VA C dx)/\
   ∃mA,h.Ns1 dx mA/\(∀f,Aq (fs.lookup f) (mA f))/\PySem.Within mA (fs.map (·.1))
 |.own _=>∃o,h.get? a=ag o
 |.xd fs=>∃mA,h.Ns1 a mA/\∀f,Aq (fs.lookup f) (mA f)
 |.rng lo hi=>∃t u v,h.get? a=ag {cls:=.type "range",data:=.fields #[.int lo t,.int hi u,.int 1 v]}
 |.frz o u=>h.get? a=ag o/\gv H h a u
 |.tbl ps=>h.get? a=ag {cls:=.none,data:=.fields ps}
 |.met f x=>h.get? a=ag (VB (.ref f) (.ref x))
 |.ext φ=>φ (λb=>H b=ag (.own a)) h/\(∃o,h.get? a=ag o)/\∀(S1 S2:WW->Prop)(h1 h2:W3),φ S1 h1->(∀b,S1 b->S2 b)->(∀b o,(b=a\/S1 b)->h1.get? b=ag o->h2.get? b=ag o)->φ S2 h2
def qJ(H:Hp)(h:W3):Prop:=∀a o,H a=ag o->gv P w H h a o
end
section
variable{P:W1}{w:W0}{H H':Hp}{h h':W3}{a:WW}{o:HO}
def gv.lt(x:gv P w H h a o):a<h.objs.size:=by
 cases o with
 |lst xs=>obtain⟨_,_,_,_,e⟩:=x;exact Wn e
 |tup xs=>obtain⟨_,_,_,_,e,_⟩:=x;exact Wn e
 |dK kvs=>obtain⟨_,_,_,_,o,_,_,e,_⟩:=x;exact Wn e
 |dT kvs=>obtain⟨_,_,_,_,o,_,_,e,_⟩:=x;exact Wn e
 |set S n=>obtain⟨o,_,_,_,e,_⟩:=x;exact Wn e
 |ins C dx fs=>obtain⟨_,_,_,e,_⟩:=x;exact Wn e
 |own y=>obtain⟨_,e⟩:=x;exact Wn e
 |xd fs=>obtain⟨_,⟨_,_,_,e,_⟩,_⟩:=x;exact Wn e
 |rng lo hi=>obtain⟨_,_,_,e⟩:=x;exact Wn e
 |frz ob u=>obtain⟨e,_⟩:=x;exact Wn e
 |tbl ps=>exact Wn (show h.get? a=ag _ from x)
 |met f y=>exact Wn (show h.get? a=ag _ from x)
 |ext φ=>obtain⟨_,⟨_,e⟩,_⟩:=x;exact Wn e
def Paired.mapP{α β:Type}{F G:α->β->Prop}{l₁:List α}{l₂:List β}(h:W2 F l₁ l₂)(f:∀a b,F a b->G a b):W2 G l₁ l₂:=by
 induction h with
 |nil=>exact .nil
 |cons r _ ih=>exact .cons (f _ _ r) ih
def gv.stay(x:gv P w H h a o)(k:∀b u,(b=a\/H b=ag (.own a))->h.get? b=ag u->h'.get? b=ag u)
  (ho:∀b,H b=ag (.own a)->H' b=ag (.own a)) (ht:∀b xs,H b=ag (.tup xs)->H' b=ag (.tup xs)):gv P w H' h' a o:=by
 induction o with
 |lst xs=>obtain⟨z,its,n,r,e⟩:=x;exact⟨z,its,n,r,k _ _ (.inl rfl) e⟩
 |tup xs=>obtain⟨z,its,r,ob,e,c⟩:=x;exact⟨z,its,r,ob,k _ _ (.inl rfl) e,c⟩
 |dK kvs=>obtain⟨z,y,vs,r,ob,es,ep,e,c⟩:=x;exact⟨z,y,vs,r,ob,es,ep,k _ _ (.inl rfl) e,c⟩
 |dT kvs=>
  obtain⟨z,y,xs,r,ob,es,ep,e,c⟩:=x;exact⟨z,y,xs,Paired.mapP r λp q z=>⟨z.1,ht _ _ z.2.1,z.2.2⟩,ob,es,ep,k _ _ (.inl rfl) e,c⟩
 |set S n=>obtain⟨ob,es,ep,t,e,c⟩:=x;exact⟨ob,es,ep,t,k _ _ (.inl rfl) e,c⟩
 |ins C dx fs=>
  obtain⟨d,z,ne,e,mA,⟨od,es,ep,e2,c⟩,r⟩:=x;exact⟨ho _ d,z,ne,k _ _ (.inl rfl) e,mA,⟨od,es,ep,k _ _ (.inr d) e2,c⟩,r⟩
 |own y=>obtain⟨ob,e⟩:=x;exact⟨ob,k _ _ (.inl rfl) e⟩
 |xd fs=>obtain⟨mA,⟨od,es,ep,e,c⟩,r⟩:=x;exact⟨mA,⟨od,es,ep,k _ _ (.inl rfl) e,c⟩,r⟩
 |rng lo hi=>obtain⟨t,u,v,e⟩:=x;exact⟨t,u,v,k _ _ (.inl rfl) e⟩
 |frz ob u ih=>obtain⟨e,q⟩:=x;exact⟨k _ _ (.inl rfl) e,ih q⟩
 |tbl ps=>
  have e:h.get? a=ag {cls:=.none,data:=.fields ps}:=x;show h'.get? a=ag {cls:=.none,data:=.fields ps};exact k a _ (.inl rfl) e
 |met f y=>
  have e:h.get? a=ag (VB (.ref f) (.ref y)):=x;show h'.get? a=ag (VB (.ref f) (.ref y));exact k a _ (.inl rfl) e
 |ext φ=>obtain⟨p,⟨o,e⟩,st⟩:=x;exact⟨st _ _ _ _ p ho k,⟨o,k _ _ (.inl rfl) e⟩,st⟩
theorem qJ.lt(x:qJ P w H h)(e:H a=ag o):a<h.objs.size:=(x a o e).lt
def qJ.fresh(x:qJ P w H h)(e:h.objs.size<=a):H a=none:=by
 cases q:H a with
 |none=>rfl
 |some u=>exact bt (Td (x.lt q) e) (Te _)
def qJ.kept(x:qJ P w H h)(k:∀b u,h.get? b=ag u->h'.get? b=ag u):qJ P w H h':=λa o e=>
 (x a o e).stay (λb u _ q=>k b u q) (λ_ q=>q) λ_ _ q=>q
def qJ.laid(x:qJ P w H h)(k:∀b u,h.get? b=ag u->h'.get? b=ag u)(hp:h.objs.size<=a)(new:gv P w (upd H a o) h' a o):qJ P w (upd H a o) h':=λb u e=>by
 have hn:=x.fresh hp;by_cases hb:b=a
 ·subst hb;rw[bu]at e;cases e;exact new
 ·rw[aL hb]at e;exact(x b u e).stay (λc v _ q=>k c v q) (λc q=>by rw[aL (aT q hn)];exact q) λc xs q=>by rw[aL (aT q hn)];exact q
end
def Rd(H:Hp)(a:WW)(u:HO):Prop:=H a=ag u\/∃o,H a=ag (.frz o u)
def Rd.ok{P:W1}{w:W0}{H:Hp}{h:W3}{a:WW}{u:HO}(r:Rd H a u)(x:qJ P w H h):gv P w H h a u:=by
 rcases r with r|⟨o,r⟩
 ·exact x a u r
 ·obtain⟨_,q⟩:=x a _ r;exact q
def OX:Option HO->Prop
 |some (.lst _)=>True
 |some (.dK _)=>True
 |some (.dT _)=>True
 |some (.set _ _)=>True
 |some (.ins _ _ _)=>True
 |some (.ext _)=>True
 |_=>False
section
variable{P:W1}{w:W0}{H:Hp}{h h':W3}{x e:WW}{o':HO}
def qJ.write(ok:qJ P w H h)(mu:OX (H x))(he:e=x\/H e=ag (.own x))(k:∀b u,b≠e->h.get? b=ag u->h'.get? b=ag u)(heo:∃u,h'.get? e=ag u)
  (new:gv P w (upd H x o') h' x o'):qJ P w (upd H x o') h':=λb u q=>by
 have nown:∀c y,H c=ag (.own y)->c≠x:=λc y r z=>by subst z;rw[r]at mu;exact mu
 have ntup:∀c xs,H c=ag (.tup xs)->c≠x:=λc xs r z=>by subst z;rw[r]at mu;exact mu
 by_cases hb:b=x
 ·subst hb;rw[bu]at q;cases q;exact new
 ·rw[aL hb]at q;by_cases hbe:b=e
  ·have q':H b=ag (.own x):=by
    rcases he with z|z
    ·exact bt (hbe.trans z) hb
    ·rw[hbe];exact z
   rw[q]at q';cases q';obtain⟨v,hv⟩:=heo;exact⟨v,by rw[hbe];exact hv⟩
  ·refine(ok b u q).stay (λc v hc r=>k c v ?_ r) (λc r=>by rw[aL (nown c b r)];exact r) λc xs r=>by rw[aL (ntup c xs r)];exact r
   rcases hc with rfl|hc
   ·exact hbe
   ·rintro rfl;rcases he with z|z
    ·exact nown c b hc z
    ·rw[hc]at z;cases z;exact hb rfl
end
structure Un(fs ex:aD)(H H':Hp)(h h':W3):Prop where
 keep:∀b o,h.get? b=ag o->H b=am->b∉fs->b∉ex->h'.get? b=ag o
 slot:∀b o,h.get? b=ag o->H b=am->b∈fs->b∉ex->∃sl,h'.get? b=ag {o with slots:=sl}
 free:∀b o,h.get? b=ag o->H b=am->b∉ex->H' b=am
 there:∀b o,h.get? b=ag o->b∉ex->∃o',h'.get? b=ag o'
 tups:∀b xs,H b=ag (.tup xs)->H' b=ag (.tup xs)
 frzs:∀b o u,H b=ag (.frz o u)->H' b=ag (.frz o u)
 tbls:∀b ps,H b=ag (.tbl ps)->∃more,H' b=ag (.tbl (ps++more))
section
variable{fs fs' ex ex':aD}{H H1 H2:Hp}{h h1 h2 h':W3}{a x e:WW}{o:HO}
def Un.any(u:Un fs ex H H1 h h1){b:WW}{ob:Obj}(q:h.get? b=ag ob)(n:H b=am)(hx:b∉ex):∃sl,h1.get? b=ag {ob with slots:=sl}:=by
 by_cases hb:b∈fs
 ·exact u.slot b ob q n hb hx
 ·exact⟨ob.slots,u.keep b ob q n hb hx⟩
def Un.kept(k:∀b u,h.get? b=ag u->h'.get? b=ag u):Un fs ex H H h h':=
 ⟨λb ob q _ _ _=>k b ob q,λb ob q _ _ _=>⟨ob.slots,k b ob q⟩,λ_ _ _ n _=>n,λb ob q _=>⟨ob,k b ob q⟩,λ_ _ q=>q,λ_ _ _ q=>q,λ_ ps q=>⟨#[],by rw[q];simp⟩⟩
def Un.refl:Un fs ex H H h h:=Un.kept λ_ _ q=>q
def Un.laid(k:∀b u,h.get? b=ag u->h'.get? b=ag u)(hp:h.objs.size<=a)(hn:H a=am):Un fs ex H (upd H a o) h h' where
 keep:=λb u q _ _ _=>k b u q
 slot:=λb u q _ _ _=>⟨u.slots,k b u q⟩
 free:=λb u q n _=>by rw[aL (Tf (Td (Wn q) hp))];exact n
 there:=λb u q _=>⟨u,k b u q⟩
 tups:=λb xs q=>by rw[aL (aT q hn)];exact q
 frzs:=λb u xs q=>by rw[aL (aT q hn)];exact q
 tbls:=λb ps q=>⟨#[],by rw[aL (aT q hn),q];simp⟩
def Un.write(mu:OX (H x))(he:e=x\/H e=ag (.own x))(k:∀b u,b≠e->h.get? b=ag u->h'.get? b=ag u)(heo:∃u,h'.get? e=ag u):Un fs ex H (upd H x o) h h':=by
 have hx:∀b,H b=am->b≠x:=λb n z=>by subst z;rw[n]at mu;exact mu
 have hb:∀b,H b=am->b≠e:=λb n z=>by
  subst z;rcases he with r|r
  ·exact hx b n r
  ·rw[n]at r;cases r
 have hm:∀b u,H b=ag u->¬OX (ag u)->b≠x:=λb u q nm z=>by subst z;rw[q]at mu;exact nm mu
 refine⟨λb u q n _ _=>k b u (hb b n) q,λb u q n _ _=>⟨u.slots,k b u (hb b n) q⟩,λb u q n _=>by rw[aL (hx b n)];exact n,λb u q _=>?_,
  λb xs q=>by rw[aL (hm b _ q λz=>z)];exact q,λb u xs q=>by rw[aL (hm b _ q λz=>z)];exact q,λb ps q=>⟨#[],by rw[aL (hm b _ q λz=>z),q];simp⟩⟩
 by_cases hbe:b=e
 ·subst hbe;exact heo
 ·exact⟨u,k b u hbe q⟩
end
def Oq(h:W3)(H:Hp):aD:=(List.range h.objs.size).filter λa=>(H a).isSome
def jz(h:W3)(H:Hp):W3:=PySem.W.hideAll h (Oq h H)
def Be(h:W3)(H:Hp):(jz h H).objs.size=h.objs.size:=PySem.W.hideAll_size _ _
def pj{h:W3}{H:Hp}{b:WW}{o:Obj}(e:h.get? b=ag o)(n:H b=am):(jz h H).get? b=ag o:=
 PySem.W.hideAll_get _ e λhm=>by
  have q:(H b).isSome=true:=(List.mem_filter.mp hm).2;rw[n]at q;simp at q
def uU{h:W3}{H:Hp}{b:WW}{o:Obj}(e:(jz h H).get? b=ag o):h.get? b=ag o/\H b=none:=by
 have e':h.get? b=ag o:=PySem.W.of_hideAll (Oq h H) e;refine⟨e',?_⟩;cases q:H b with
 |none=>rfl
 |some x=>
  have hm:b∈Oq h H:=List.mem_filter.mpr ⟨List.mem_range.mpr (Wn e'),by simp[q]⟩;have z:(jz h H).get? b=none:=PySem.W.hideAll_none (Oq h H) hm;rw[z]at e;cases e
def IB(g h:W3)(L:WW):bg:=(List.range h.objs.size).filterMap λa=>if a=L\/(g.get? a).isSome=true then am else(h.get? a).map λo=>(a,o)
def rest(g h:W3)(L d:WW):bg:=(IB g h L).filter λp=>decide (p.1≠d)
structure Mod(K:VC)(mg:bN)(base:W3):Prop where
 kin:K.In base
 glob:base.Ns W5 mg
 blt:∃mb,base.Ns builtinsNs mb/\∀x:Str,x≠"__name__"->mb x=W6 x
 nolimit:base.NoLimit
structure Cx where
 prog:W1
 w:W0
 K:VC
 mg:bN
 base:W3
 A:W7
 N:af
 s₀:WZ
 H₀:Hp
 env:Env
 outer:List Env
 stack:List Env
 ex:aD
 fn:Str->Bool
 calm:Bool
 pn:bg
 xe:bI
def frs(l:List Env):aD:=l.filterMap (·.frame)
abbrev Cx.fs(X:Cx):aD:=frs X.outer
def Mx(sc:W8)(x:Str):Prop:=sc.names.lookup x=ag .local\/sc.names.lookup x=ag .cell\/sc.names.lookup x=ag .free
def Loc(sc:W8)(x:Str):Prop:=sc.names.lookup x=ag .local\/sc.names.lookup x=ag .cell
def Look(env:Env)(h:W3)(m:bN)(x:Str)(u:WU):Prop:=
 (env.kindOf x=ag .local/\m x=ag u)\/((env.kindOf x=ag .cell\/env.kindOf x=ag .free)/\∃c,env.cells.lookup x=ag c/\h.IsCell c (ag u))
structure Cx.Ok(X:Cx):Prop where
 mod:Mod X.K X.mg X.base
 kind:X.env.scope.kind=.function
 glob:X.env.globals=W5
 blt:X.env.builtins=builtinsNs
 above:X.s₀.heap.objs.size<=X.env.locals
 inj:∀x y c,X.env.cells.lookup x=ag c->X.env.cells.lookup y=ag c->x=y
 has:∀x,(X.env.kindOf x=ag .cell\/X.env.kindOf x=ag .free)->∃c,X.env.cells.lookup x=ag c
 cab:∀x c,X.fn x=true->X.env.cells.lookup x=ag c->X.s₀.heap.objs.size<=c
 hd:X.calm=true->X.A.handled=am
 frames:X.A.frames=ag X.stack
 stk:X.stack=X.outer\/(X.stack=X.env::X.outer/\X.env.frame=ag X.env.locals)
 exf:∀b∈X.ex,b≠X.env.locals/\∀x c,X.env.cells.lookup x=ag c->c≠b
 bs:∀b o,X.base.get? b=ag o->X.s₀.heap.get? b=ag o/\X.H₀ b=am
 bsz:X.base.objs.size<=X.s₀.heap.objs.size
 noex:∀b o,X.base.get? b=ag o->b∉X.ex
 exfs:∀b∈X.ex,b∉X.fs
 funs:X.s₀.heap.FunFrames X.base X.outer
 frf:∀b∈X.fs,X.H₀ b=am
structure Inv(X:Cx)(pins:bg)(σ:List (Option V))(H:Hp)(s:WZ):Prop where
 ok:X.Ok
 os:s.os=X.s₀.os
 bare:AllBare s.gens
 base:Un X.fs X.ex X.H₀ H X.s₀.heap s.heap
 loc:∃m,s.heap.Ns X.env.locals m/\∀(i:Nat)(x:Str)(v:V),X.N[i]?=ag x->σ[i]?=ag (ag v)->Mx X.env.scope x->∃u,RelV v u/\Look X.env s.heap m x u
 cell:∀x c,X.env.cells.lookup x=ag c->∃v,s.heap.IsCell c v
 free:H X.env.locals=am
 freeC:∀x c,X.env.cells.lookup x=ag c->H c=am
 pin:∀p∈X.pn++pins,s.heap.get? p.1=ag p.2/\H p.1=am/\p.1≠X.env.locals/\p.1∉X.fs/\∀v,p.2.data≠.cell v
 hok:qJ X.prog X.w H s.heap
 len:σ.length=X.N.length
section
variable{X:Cx}{pins:bg}{σ:List (Option V)}{H H':Hp}{s:WZ}{h':W3}
def Cx.Ok.nofr(ok:X.Ok){b:WW}{o:Obj}(e:X.base.get? b=ag o):b∉X.fs:=λhb=>by
 have:=(ok.funs.mem hb).1
 rw[e]at this;cases this
theorem Inv.bs(I:Inv X pins σ H s):∀b o,X.base.get? b=ag o->s.heap.get? b=ag o/\H b=none:=λb o e=>
 ⟨I.base.keep b o (I.ok.bs b o e).1 (I.ok.bs b o e).2 (I.ok.nofr e) (I.ok.noex b o e),I.base.free b o (I.ok.bs b o e).1 (I.ok.bs b o e).2 (I.ok.noex b o e)⟩
def Inv.bk(I:Inv X pins σ H s):∀b o,X.base.get? b=ag o->s.heap.get? b=ag o:=λb o e=>(I.bs b o e).1
theorem Inv.mod(I:Inv X pins σ H s):Mod X.K X.mg X.base:=I.ok.mod
def Inv.kIn(I:Inv X pins σ H s):X.K.In s.heap:=I.ok.mod.kin.keeps I.bk
theorem Inv.lt(I:Inv X pins σ H s):X.env.locals<s.heap.objs.size:=let ⟨_,hn,_⟩:=I.loc;hn.lt
def Inv.sz(I:Inv X pins σ H s):X.s₀.heap.objs.size<=s.heap.objs.size:=Tg I.ok.above (Th I.lt)
def Inv.nofs(I:Inv X pins σ H s){a:WW}(h:s.heap.objs.size<=a):a∉X.fs:=λhb=>by
 obtain⟨_,o,ho,_⟩:=I.ok.funs.mem hb;exact bt (Td (Wn ho) (Tg I.sz h)) (Te _)
def Inv.cne(I:Inv X pins σ H s):∀x c,X.env.cells.lookup x=ag c->c≠X.env.locals:=λx c e z=>by
 obtain⟨v,o,ho,hd⟩:=I.cell x c e;obtain⟨m,⟨o',es,ep,ho',hd',_⟩,_⟩:=I.loc;rw[z,ho']at ho;cases ho;rw[hd']at hd;cases hd
theorem Inv.funs(I:Inv X pins σ H s):s.heap.FunFrames X.base X.outer:=by
 have all:∀(l:List Env),(∀b∈frs l,b∈X.fs)->X.s₀.heap.FunFrames X.base l->s.heap.FunFrames X.base l:=by
  intro l
  induction l with
  |nil=>intro _ _;trivial
  |cons env r ih=>
   intro hs hl;obtain⟨hk,⟨L,o,hf,hn,ho,hd⟩,hr⟩:=hl;have hL:L∈X.fs:=hs L (by unfold frs;rw[Ti,hf];exact Tj);obtain⟨sl,e⟩:=I.base.slot L o ho (I.ok.frf L hL) hL λz=>I.ok.exfs L z hL;exact⟨hk,⟨L,_,hf,hn,e,hd⟩,ih (λb hb=>hs b (by unfold frs;rw[Ti,hf];exact Tl _ hb)) hr⟩
 exact all X.outer (λ_ hb=>hb) I.ok.funs
theorem Inv.stack(I:Inv X pins σ H s):s.heap.FunFrames X.base X.stack:=by
 rcases I.ok.stk with e|⟨e,hf⟩
 ·rw[e];exact I.funs
 ·rw[e];obtain⟨m,hn,_⟩:=I.loc;refine .cons (by rw[I.ok.kind];decide) hf hn ?_ I.funs;exact Heap.get?_none_of_le (Tg I.ok.bsz I.ok.above)
def Inv.stkSub(I:Inv X pins σ H s):∀b∈frs X.stack,b∈X.env.locals::X.fs:=λb hb=>by
 rcases I.ok.stk with e|⟨e,hf⟩
 ·rw[e]at hb;exact Tl _ hb
 ·rw[e]at hb;unfold frs at hb;rw[Ti,hf]at hb;exact hb
def Inv.stkFree(I:Inv X pins σ H s):∀b∈frs X.stack,H b=none:=λb hb=>by
 rcases List.mem_cons.mp (I.stkSub b hb)with e|hb
 ·rw[e];exact I.free
 ·obtain⟨_,o,ho,_⟩:=I.ok.funs.mem hb;exact I.base.free b o ho (I.ok.frf b hb) λz=>I.ok.exfs b z hb
def Inv.step{g':Array GenState}{t':Nat}{d':Drawn}{ch:aD}(I:Inv X pins σ H s)
  (hch:∀b∈ch,(b∈X.ex\/X.s₀.heap.objs.size<=b)/\b≠X.env.locals/\(∀x c,X.env.cells.lookup x=ag c->c≠b)/\∀p∈X.pn++pins,p.1≠b)
  (keep:∀b o,b≠X.env.locals->b∉X.fs->b∉ch->s.heap.get? b=ag o->H b=am->h'.get? b=ag o)
  (slot:∀b o,b≠X.env.locals->b∈X.fs->b∉ch->s.heap.get? b=ag o->H b=am->∃sl,h'.get? b=ag {o with slots:=sl}) (free:∀b o,b∉ch->s.heap.get? b=ag o->H b=am->H' b=am)
  (there:∀b o,b∉ch->s.heap.get? b=ag o->∃o',h'.get? b=ag o')
  (tups:∀b xs,H b=ag (.tup xs)->H' b=ag (.tup xs)) (frzs:∀b o u,H b=ag (.frz o u)->H' b=ag (.frz o u)) (tbls:∀b ps,H b=ag (.tbl ps)->∃more,H' b=ag (.tbl (ps++more)))
  (ns:∀m,s.heap.Ns X.env.locals m->h'.Ns X.env.locals m) (hok:qJ X.prog X.w H' h') (hg:AllBare g'):
  Inv X pins σ H' {s with heap:=h',gens:=g',drawn:=d',toks:=t'}:=by
 have neL:∀b o,X.s₀.heap.get? b=ag o->b≠X.env.locals:=λb o e=>Tf (Td (Wn e) I.ok.above);have neC:∀b o,X.s₀.heap.get? b=ag o->b∉X.ex->b∉ch:=λb o e hx hb=>by
  rcases(hch b hb).1 with z|z
  ·exact hx z
  ·exact bt (Td (Wn e) z) (Te _)
 have cellK:∀x c,X.env.cells.lookup x=ag c->∀v,s.heap.IsCell c v->h'.IsCell c v:=λx c e v Z=>Z.e λo Z=>Z.e λho hd=>by
  have nch:c∉ch:=λz=>(hch c z).2.2.1 x c e rfl;by_cases hc:c∈X.fs
  ·obtain⟨sl,q⟩:=slot c o (I.cne x c e) hc nch ho (I.freeC x c e);exact⟨_,q,hd⟩
  ·exact⟨o,keep c o (I.cne x c e) hc nch ho (I.freeC x c e),hd⟩
 refine⟨I.ok,I.os,hg,⟨λb o e n hb hx=>?_,λb o e n hb hx=>?_,λb o e n hx=>?_,λb o e hx=>?_,λb xs e=>tups b xs (I.base.tups b xs e),λb o xs e=>frzs b o xs (I.base.frzs b o xs e),λb ps e=>?_⟩,?_,λx c e=>?_,?_,λx c e=>?_,λp hp=>?_,hok,I.len⟩
 ·exact keep b o (neL b o e) hb (neC b o e hx) (I.base.keep b o e n hb hx) (I.base.free b o e n hx)
 ·obtain⟨sl,e1⟩:=I.base.slot b o e n hb hx;obtain⟨sl',e2⟩:=slot b _ (neL b o e) hb (neC b o e hx) e1 (I.base.free b o e n hx);exact⟨sl',e2⟩
 ·obtain⟨o',e1⟩:=I.base.there b o e hx;exact free b o' (neC b o e hx) e1 (I.base.free b o e n hx)
 ·obtain⟨o',e1⟩:=I.base.there b o e hx;exact there b o' (neC b o e hx) e1
 ·obtain⟨m1,e1⟩:=I.base.tbls b ps e;obtain⟨m2,e2⟩:=tbls b _ e1;exact⟨m1++m2,by rw[e2,Array.append_assoc]⟩
 ·obtain⟨m,hn,hl⟩:=I.loc;refine⟨m,ns m hn,λi x v e1 e2 e3=>?_⟩;obtain⟨u,r,l⟩:=hl i x v e1 e2 e3;refine⟨u,r,?_⟩;rcases l with l|⟨k,c,e,z⟩
  ·exact .inl l
  ·exact .inr ⟨k,c,e,cellK x c e _ z⟩
 ·obtain⟨v,z⟩:=I.cell x c e;exact⟨v,cellK x c e v z⟩
 ·obtain⟨m,⟨o,_,_,ho,_⟩,_⟩:=I.loc;exact free _ o (λz=>(hch _ z).2.1 rfl) ho I.free
 ·obtain⟨v,o,ho,hd⟩:=I.cell x c e;exact free c o (λz=>(hch c z).2.2.1 x c e rfl) ho (I.freeC x c e)
 ·obtain⟨e,n,ne,nf,d⟩:=I.pin p hp;have nch:p.1∉ch:=λz=>(hch p.1 z).2.2.2 p hp rfl;exact⟨keep p.1 p.2 ne nf nch e n,free p.1 p.2 nch e n,ne,nf,d⟩
def Inv.un{t':Nat}(I:Inv X pins σ H s)(u:Un X.fs [] H H' s.heap h')(hok:qJ X.prog X.w H' h'):Inv X pins σ H' {s with heap:=h',toks:=t'}:=by
 obtain⟨m,⟨o,es,ep,ho,r⟩,_⟩:=id I.loc;obtain⟨sl,hL⟩:=u.any ho I.free (by simp);exact I.step (g':=s.gens) (d':=s.drawn) (ch:=[]) (λ_ z=>nomatch z) (λb o _ hb _ e n=>u.keep b o e n hb (by simp)) (λb o _ hb _ e n=>u.slot b o e n hb (by simp)) (λb o _ e n=>u.free b o e n (by simp)) (λb o _ e=>u.there b o e (by simp)) u.tups u.frzs u.tbls (λm' hm=>by
  obtain⟨o',es',ep',ho',r'⟩:=hm;rw[ho]at ho';cases ho';exact⟨_,es',ep',hL,r'⟩) hok I.bare
def Inv.call{g':Array GenState}{t':Nat}{d':Drawn}{ch:aD}(I:Inv X pins σ H s)(u:Un (frs X.stack) ch H H' s.heap h')(hok:qJ X.prog X.w H' h')(hg:AllBare g')
  (hch:∀b∈ch,(b∈X.ex\/X.s₀.heap.objs.size<=b)/\b≠X.env.locals/\(∀x c,X.env.cells.lookup x=ag c->c≠b)/\∀p∈X.pn++pins,p.1≠b):
  Inv X pins σ H' {s with heap:=h',gens:=g',drawn:=d',toks:=t'}:=by
 obtain⟨m,⟨o,es,ep,ho,r⟩,_⟩:=id I.loc;obtain⟨sl,hL⟩:=u.any ho I.free λz=>(hch _ z).2.1 rfl;exact I.step (ch:=ch) hch (λb o hL hb hc e n=>u.keep b o e n (λz=>(List.mem_cons.mp (I.stkSub b z)).elim hL hb) hc) (λb o _ _ hc e n=>u.any e n hc) (λb o hc e n=>u.free b o e n hc) (λb o hc e=>u.there b o e hc) u.tups u.frzs u.tbls (λm' hm=>by
  obtain⟨o',es',ep',ho',r'⟩:=hm;rw[ho]at ho';cases ho';exact⟨_,es',ep',hL,r'⟩) hok hg
def Inv.turned{t':Nat}{it:WW}(I:Inv X pins σ H s)(k:∀b o,b≠it->s.heap.get? b=ag o->h'.get? b=ag o)(hn:H it=am)(hL:it≠X.env.locals)
  (h1:it∈X.ex\/X.s₀.heap.objs.size<=it) (h2:∀x c,X.env.cells.lookup x=ag c->c≠it) (h3:∀p∈X.pn++pins,p.1≠it):Inv X pins σ H {s with heap:=h',toks:=t'}:=by
 have nit:∀b u,H b=ag u->b≠it:=λb u e z=>by rw[z,hn]at e;cases e
 refine I.step (g':=s.gens) (d':=s.drawn) (ch:=[it]) (λb hb=>?_) (λb o _ _ hc e _=>k b o (λz=>hc (by simp[z])) e) (λb o _ _ hc e _=>⟨o.slots,k b o (λz=>hc (by simp[z])) e⟩) (λ_ _ _ _ n=>n)
  (λb o hc e=>⟨o,k b o (λz=>hc (by simp[z])) e⟩) (λ_ _ e=>e) (λ_ _ _ e=>e) (λb ps e=>⟨#[],by rw[e];simp⟩) (λm hm=>?_) (λb u e=>?_) I.bare
 ·have e:b=it:=by simpa using hb
  subst e;exact⟨h1,hL,h2,h3⟩
 ·obtain⟨o,es,ep,ho,r⟩:=hm;exact⟨o,es,ep,k _ o (Ne.symm hL) ho,r⟩
 ·refine(I.hok b u e).stay (λc v hc q=>k c v ?_ q) (λ_ q=>q) λ_ _ q=>q;rcases hc with z|z
  ·rw[z];exact nit b u e
  ·exact nit c _ z
def Inv.tok(I:Inv X pins σ H s)(t:Nat):Inv X pins σ H {s with toks:=t}:=I.un (h':=s.heap) (t':=t) Un.refl I.hok
theorem Inv.kept{t':Nat}(I:Inv X pins σ H s)(k:∀b u,s.heap.get? b=ag u->h'.get? b=ag u):Inv X pins σ H {s with heap:=h',toks:=t'}:=I.un (Un.kept k) (I.hok.kept k)
theorem Inv.laid{a:WW}{o:HO}{t':Nat}(I:Inv X pins σ H s)(k:∀b u,s.heap.get? b=ag u->h'.get? b=ag u)(hp:s.heap.objs.size<=a)(new:gv X.prog X.w (upd H a o) h' a o):
  Inv X pins σ (upd H a o) {s with heap:=h',toks:=t'}:=I.un (Un.laid k hp (I.hok.fresh hp)) (I.hok.laid k hp new)
theorem Inv.write{x e:WW}{o:HO}{t':Nat}(I:Inv X pins σ H s)(mu:OX (H x))(he:e=x\/H e=ag (.own x))(k:∀b u,b≠e->s.heap.get? b=ag u->h'.get? b=ag u)(heo:∃u,h'.get? e=ag u)
  (new:gv X.prog X.w (upd H x o) h' x o):Inv X pins σ (upd H x o) {s with heap:=h',toks:=t'}:=I.un (Un.write mu he k heo) (I.hok.write mu he k heo new)
def Inv.pins_of{pins':bg}(I:Inv X pins σ H s)(h:∀p∈pins',s.heap.get? p.1=ag p.2/\H p.1=am/\p.1≠X.env.locals/\p.1∉X.fs/\∀v,p.2.data≠.cell v):Inv X pins' σ H s:=
 ⟨I.ok,I.os,I.bare,I.base,I.loc,I.cell,I.free,I.freeC,λp hp=>(List.mem_append.mp hp).elim (λz=>I.pin p (Tn _ z)) (h p),I.hok,I.len⟩
def vF{N:af}(hN:N.Nodup){i j:Nat}{x:Str}(a:N[i]?=ag x)(b:N[j]?=ag x):i=j:=by
 obtain⟨h1,e1⟩:=List.getElem?_eq_some_iff.mp a;obtain⟨h2,e2⟩:=List.getElem?_eq_some_iff.mp b;exact(List.getElem_inj hN).mp (e1.trans e2.symm)
def rm{M:W9}{A:W7}{E:bI}{i:Nat}{x:Str}{v:V}{u:WU}{Q:Unit->ib}(I:Inv X pins σ H s)(hN:X.N.Nodup)(hi:X.N[i]?=ag x)(hx:Loc X.env.scope x)(r:RelV v u)
  (h:∀s',Inv X pins (σ.set i (ag v)) H s'->(∃a,Wo a s.heap s'.heap/\(a=X.env.locals\/X.env.cells.lookup x=ag a))->Q () s') (hf:X.fn x=true\/X.env.scope.names.lookup x=ag .local:=by first|exact .inl rfl|exact .inr rfl|assumption):Xa M A (storeName X.env x u) Q E s:=by
 obtain⟨m,hn,hl⟩:=id I.loc;have hcls:(X.env.scope.kind==.class||(X.env.scope.kind==.module&&X.env.locals !=X.env.globals))=false:=by rw[I.ok.kind];rfl
 have hiσ:i<σ.length:=by rw[I.len];exact(List.getElem?_eq_some_iff.mp hi).1
 have cne:=I.cne;have tracked:∀{a:WW}{h':W3},(∃o,s.heap.get? a=ag o/\H a=am)->Wo a s.heap h'->qJ X.prog X.w H h':=λ{a h'} ha hs b ob e=>by
  obtain⟨_,_,hfree⟩:=ha;refine(I.hok b ob e).stay (λc w' hc q=>(hs.2 c ?_).trans q) (λ_ q=>q) λ_ _ q=>q;rintro rfl;rcases hc with rfl|hc
  ·rw[hfree]at e;cases e
  ·rw[hfree]at hc;cases hc
 rcases hx with hk|hk
 ·refine wpAny_storeName_local hk hn (λh' hn' hs=>?_) hcls;obtain⟨oL,_,_,hoL,_⟩:=id hn;refine h _ ⟨I.ok,I.os,I.bare,⟨λb o e n hb hx=>?_,λb o e n hb hx=>?_,I.base.free,λb o e hx=>?_,I.base.tups,I.base.frzs,I.base.tbls⟩,⟨_,hn',λj y v' e1 e2 e3=>?_⟩,λy c e=>?_,I.free,I.freeC,λp hp=>?_,tracked ⟨oL,hoL,I.free⟩ hs,by simpa using I.len⟩ ⟨_,hs,.inl rfl⟩
  ·exact(hs.2 b (Tf (Td (Wn e) I.ok.above))).trans (I.base.keep b o e n hb hx)
  ·obtain⟨sl,e1⟩:=I.base.slot b o e n hb hx;exact⟨sl,(hs.2 b (Tf (Td (Wn e) I.ok.above))).trans e1⟩
  ·obtain⟨o',e1⟩:=I.base.there b o e hx;exact⟨o',(hs.2 b (Tf (Td (Wn e) I.ok.above))).trans e1⟩
  ·by_cases hj:j=i
   ·subst hj;rw[hi]at e1;cases e1;rw[To hiσ]at e2;cases e2;exact⟨u,r,.inl ⟨hk,by simp⟩⟩
   ·rw[Tp (Ne.symm hj)]at e2;obtain⟨u',r',q⟩:=hl j y v' e1 e2 e3;refine⟨u',r',?_⟩;rcases q with⟨k,e⟩|⟨k,c,e,z⟩
    ·refine .inl ⟨k,?_⟩
     have:y≠x:=λe=>hj (vF hN e1 (e ▸ hi))
     simp[this,e]
    ·exact .inr ⟨k,c,e,z.sameBut hs (cne y c e)⟩
  ·obtain⟨w',z⟩:=I.cell y c e;exact⟨w',z.sameBut hs (cne y c e)⟩
  ·obtain⟨e,n,ne,nf,d⟩:=I.pin p hp;exact⟨(hs.2 p.1 ne).trans e,n,ne,nf,d⟩
 ·have hfn:X.fn x=true:=by
   rcases hf with z|z
   ·exact z
   ·rw[z]at hk;cases hk
  obtain⟨c,hc⟩:=I.ok.has x (.inl hk);obtain⟨w',z⟩:=I.cell x c hc;refine wpAny_storeName_cell I.ok.kind hk hc z (λh' hc' hs=>?_);obtain⟨oc,hoc,hocd⟩:=id z;refine h {s with heap:=h'} ⟨I.ok,I.os,I.bare,⟨λb o e n hb hx=>?_,λb o e n hb hx=>?_,I.base.free,λb o e hx=>?_,I.base.tups,I.base.frzs,I.base.tbls⟩,⟨m,hn.sameBut hs (Ne.symm (cne x c hc)),λj y v' e1 e2 e3=>?_⟩,λy c' e=>?_,I.free,I.freeC,λp hp=>?_,tracked ⟨oc,hoc,I.freeC x c hc⟩ hs,by simpa using I.len⟩ ⟨c,hs,.inr hc⟩
  ·exact(hs.2 b (Tf (Td (Wn e) (I.ok.cab x c hfn hc)))).trans (I.base.keep b o e n hb hx)
  ·obtain⟨sl,e1⟩:=I.base.slot b o e n hb hx;exact⟨sl,(hs.2 b (Tf (Td (Wn e) (I.ok.cab x c hfn hc)))).trans e1⟩
  ·obtain⟨o',e1⟩:=I.base.there b o e hx;exact⟨o',(hs.2 b (Tf (Td (Wn e) (I.ok.cab x c hfn hc)))).trans e1⟩
  ·by_cases hj:j=i
   ·subst hj;rw[hi]at e1;cases e1;rw[To hiσ]at e2;cases e2;exact⟨u,r,.inr ⟨.inl hk,c,hc,hc'⟩⟩
   ·rw[Tp (Ne.symm hj)]at e2;obtain⟨u',r',q⟩:=hl j y v' e1 e2 e3;refine⟨u',r',?_⟩;rcases q with q|⟨k,c',e,z'⟩
    ·exact .inl q
    ·refine .inr ⟨k,c',e,z'.sameBut hs ?_⟩;rintro rfl;exact hj (vF hN e1 (I.ok.inj _ _ _ e hc ▸ hi))
  ·by_cases hcc:c'=c
   ·subst hcc;exact⟨_,hc'⟩
   ·obtain⟨w2,z2⟩:=I.cell y c' e;exact⟨w2,z2.sameBut hs hcc⟩
  ·obtain⟨e,n,ne,nf,d⟩:=I.pin p hp;refine⟨(hs.2 p.1 ?_).trans e,n,ne,nf,d⟩;intro q;rw[q,hoc]at e;have q':oc=p.2:=Option.some.inj e;exact d w' (by rw[<-q'];exact hocd)
def jm{M:W9}{A:W7}{E:bI}{i:Nat}{x:Str}{v:V}{u:WU}{Q:Unit->ib}(I:Inv X pins σ H s)(hN:X.N.Nodup)(hi:X.N[i]?=ag x)(hx:Loc X.env.scope x)(r:RelV v u)
  (h:∀s',Inv X pins (σ.set i (ag v)) H s'->Q () s') (hf:X.fn x=true\/X.env.scope.names.lookup x=ag .local:=by first|exact .inl rfl|exact .inr rfl|assumption):Xa M A (storeName X.env x u) Q E s:=
 rm I hN hi hx r (λs' I' _=>h s' I') hf
def Inv.call'{s':WZ}{ch:aD}(I:Inv X pins σ H s)(ho:s'.os=s.os)(u:Un (frs X.stack) ch H H' s.heap s'.heap)(hok:qJ X.prog X.w H' s'.heap)(hg:AllBare s'.gens)
  (hch:∀b∈ch,(b∈X.ex\/X.s₀.heap.objs.size<=b)/\b≠X.env.locals/\(∀x c,X.env.cells.lookup x=ag c->c≠b)/\∀p∈X.pn++pins,p.1≠b):Inv X pins σ H' s':=by
 obtain⟨h',g',d',t',o'⟩:=s';have e:o'=s.os:=ho;subst e;exact I.call (g':=g') (t':=t') (d':=d') u hok hg hch
end
abbrev XK:=WU->Option WW->Hp->Prop
abbrev St:=List (Option V)
abbrev VK:=V->Hp->Prop
abbrev TE:=St->Hp->VK->Prop
abbrev TT:=St->Hp->(Bool->Hp->Prop)->Prop
abbrev TA:=St->Hp->(aN->Hp->Prop)->Prop
structure Ends where
 nx:St->Hp->Prop
 rt:VK
 bk:St->Hp->Prop:=λ_ _=>False
 ct:St->Hp->Prop:=λ_ _=>False
abbrev TS:=Ends->St->Hp->Prop
def EP(X:Cx)(pins:bg)(σ:St)(Q:VK)(u:WU)(s':WZ):Prop:=∃v H',Inv X pins σ H' s'/\RelV v u/\Q v H'
def TP(X:Cx)(pins:bg)(σ:St)(Q:Bool->Hp->Prop)(b:Bool)(s':WZ):Prop:=∃H',Inv X pins σ H' s'/\Q b H'
def AP(X:Cx)(pins:bg)(σ:St)(Q:aN->Hp->Prop)(us:bA)(s':WZ):Prop:=∃vs H',Inv X pins σ H' s'/\Vals vs us/\Q vs H'
def SP(X:Cx)(pins:bg)(D:Ends)(f:Flow)(s':WZ):Prop:=
 match f with
 |.next=>∃σ' H',Inv X pins σ' H' s'/\D.nx σ' H'
 |.brk=>∃σ' H',Inv X pins σ' H' s'/\D.bk σ' H'
 |.cont=>∃σ' H',Inv X pins σ' H' s'/\D.ct σ' H'
 |.ret u=>∃v σ' H',Inv X pins σ' H' s'/\RelV v u/\D.rt v H'
def PE(X:Cx)(e:WX)(t:TE):Prop:=
 ∀(pins:bg)(s:WZ)(σ:St)(H:Hp)(Q:VK),Inv X pins σ H s->t σ H Q->Xa (model X.prog X.w) X.A (eval e X.env) (EP X pins σ Q) X.xe s
def PT(X:Cx)(e:WX)(t:TT):Prop:=
 ∀(pins:bg)(s:WZ)(σ:St)(H:Hp)(Q:Bool->Hp->Prop),Inv X pins σ H s->t σ H Q->Xa (model X.prog X.w) X.A (isTrue e X.env (eval e X.env)) (TP X pins σ Q) X.xe s
def PW(X:Cx)(e:WX)(t:TT):Prop:=
 ∀(whole:Sem WU)(pins:bg)(s:WZ)(σ:St)(H:Hp)(Q:Bool->Hp->Prop),Inv X pins σ H s->t σ H Q->Xa (model X.prog X.w) X.A (isTrue e X.env whole) (TP X pins σ Q) X.xe s
def PW.pt{X:Cx}{e:WX}{t:TT}(h:PW X e t):PT X e t:=h _
def PA(X:Cx)(es:aS)(t:TA):Prop:=
 ∀(pos:Pos)(pins:bg)(s:WZ)(σ:St)(H:Hp)(Q:aN->Hp->Prop),Inv X pins σ H s->t σ H Q->Xa (model X.prog X.w) X.A (spliced (backTo pos (Xb es X.env))) (AP X pins σ Q) X.xe s
def PS(X:Cx)(st:WY)(t:TS):Prop:=
 ∀(pins:bg)(s:WZ)(σ:St)(H:Hp)(D:Ends),Inv X pins σ H s->t D σ H->Xa (model X.prog X.w) X.A (exec st X.env) (SP X pins D) X.xe s
def qW(X:Cx)(st:cU)(t:TS):Prop:=
 ∀(pins:bg)(s:WZ)(σ:St)(H:Hp)(D:Ends),Inv X pins σ H s->t D σ H->Xa (model X.prog X.w) X.A (execs st X.env) (SP X pins D) X.xe s
def cR{α:Type}{t:Sem α}{Q Q':α->ib}{M:W9}{A:W7}{E:bI}{s:WZ}(h:Xa M A t Q E s)(hQ:∀a s,Q a s->Q' a s):Xa M A t Q' E s:=Xc h hQ λ_ _ x=>x
section
variable{X:Cx}
def qR(i:Nat):TE:=λσ H Q=>∃v,σ[i]?=ag (ag v)/\Q v H
def tC(v:V):TE:=λ_ H Q=>Q v H
def MC{i:Nat}{x:Str}{pos:Pos}(hN:X.N[i]?=ag x)(hv:Mx X.env.scope x)(hd:(x==("__debug__":Str))=false:=by decide)(hcd:(x==("__classdict__":Str))=false:=by decide):PE X (.Name x pos) (qR i):=by
 intro pins s σ H Q I h;obtain⟨v,e,h⟩:=h;obtain⟨m,hn,hl⟩:=I.loc;obtain⟨u,r,l⟩:=hl i x v hN e hv;have fin:EP X pins σ Q u s:=⟨v,H,I,r,h⟩
 rcases l with⟨hk,hm⟩|⟨hk,c,hc,hcell⟩
 ·exact Xd (wpAny_loadName_local I.ok.kind hk hn hm fin) hd
 ·rcases hk with hk|hk
  ·exact Xd (wpAny_loadName_cell I.ok.kind hk hc hcell fin) hd
  ·exact Xd (wpAny_loadName_free I.ok.kind hk hc hcell fin hcd) hd
def Kr{i j pos}:PE X (.Constant (.int i) j pos) (tC (.int i)):=λ_ _ _ H _ I h=>wpAny_Constant_int ⟨.int i,H,I.tok _,⟨_,rfl⟩,h⟩
def Oc{b j pos}:PE X (.Constant (.bool b) j pos) (tC (.bl b)):=λ_ _ _ H _ I h=>Constant_bool ⟨.bl b,H,I,rfl,h⟩
def Mv{j pos}:PE X (.Constant .none j pos) (tC .non):=λ_ _ _ H _ I h=>Xe ⟨.non,H,I,rfl,h⟩
def Mt{x j pos}:PE X (.Constant (.str x) j pos) (tC (.str x)):=λ_ _ _ H _ I h=>Calls.Constant_str ⟨.str x,H,I.tok _,⟨_,rfl⟩,h⟩
def Gl(X:Cx)(x:Str):Prop:=X.env.kindOf x=ag .globalImplicit
def gf{E:bI}{pins:bg}{s:WZ}{σ:St}{H:Hp}{x:Str}{u:WU}{pos:Pos}{Q:bI}(I:Inv X pins σ H s)(hg:Gl X x)(hm:X.mg x=ag u)(h:Q u s)
  (hd:(x==("__debug__":Str))=false:=by decide):Xa (model X.prog X.w) X.A (eval (.Name x pos) X.env) Q E s:=
 Calls.Name_function_global I.ok.kind hg (Calls.loadGlobal_global (by rw[I.ok.glob];exact I.mod.glob.keeps I.bk) hm h) hd
def kq{E:bI}{pins:bg}{s:WZ}{σ:St}{H:Hp}{x:Str}{u:WU}{pos:Pos}{Q:bI}(I:Inv X pins σ H s)(hg:Gl X x)(hm:X.mg x=am)(hv:W6 x=ag u)(h:Q u s)
  (hn:x≠"__name__":=by decide) (hd:(x==("__debug__":Str))=false:=by decide):Xa (model X.prog X.w) X.A (eval (.Name x pos) X.env) Q E s:=by
 obtain⟨mb,h1,h2⟩:=I.mod.blt;exact Calls.Name_function_global I.ok.kind hg (Calls.loadGlobal_builtin (by rw[I.ok.glob];exact I.mod.glob.keeps I.bk) hm (by rw[I.ok.blt];exact h1.keeps I.bk) ((h2 x hn).trans hv) h) hd
def jX{x:Str}{v:V}{u:WU}{pos:Pos}(hg:Gl X x)(hm:X.mg x=ag u)(r:RelV v u)(hd:(x==("__debug__":Str))=false:=by decide):PE X (.Name x pos) (tC v):=
 λ_ _ _ H _ I h=>gf I hg hm ⟨v,H,I,r,h⟩ hd
def yP{x:Str}{v:V}{u:WU}{pos:Pos}(hg:Gl X x)(hm:X.mg x=am)(hv:W6 x=ag u)(r:RelV v u)(hn:x≠"__name__":=by decide)(hd:(x==("__debug__":Str))=false:=by decide):PE X (.Name x pos) (tC v):=
 λ_ _ _ H _ I h=>kq I hg hm hv ⟨v,H,I,r,h⟩ hn hd
variable{a b:WX}{ta tb:TE}{pos:Pos}
def PC(X:Cx)(op:Xf)(a b:WX)(t:TE):Prop:=
 ∀(pins:bg)(s:WZ)(σ:St)(H:Hp)(Q:VK),Inv X pins σ H s->t σ H Q->
  Xa (model X.prog X.w) X.A (eval a X.env) (λv s₁=>Xa (model X.prog X.w) X.A (eval b X.env) (λu s₂=>Xa (model X.prog X.w) X.A (Xg op v u) (EP X pins σ Q) X.xe s₂) X.xe s₁) X.xe s
def wL(b:WX){op:Xf}(h:op≠.In)(h2:op≠.NotIn):Xh op b=false:=by
 have e1:(op==CmpOp.In)=false:=by cases op<;>first|rfl|exact bt rfl h
 have e2:(op==CmpOp.NotIn)=false:=by cases op<;>first|rfl|exact bt rfl h2
 cases b<;>simp[Xh,e1,e2]
def QR(ta:TE):TE:=λσ H Q=>ta σ H λx H1=>Q (.bl (decide (x=.non))) H1
def Od(ta:TE):TE:=λσ H Q=>ta σ H λx H1=>Q (.bl (!decide (x=.non))) H1
def RelV.none_iff{x:V}{v:WU}(r:RelV x v):(v==Value.none)=decide (x=.non):=by
 cases x with
 |non=>cases r;rfl
 |bl _=>cases r;rfl
 |int _=>obtain⟨t,rfl⟩:=r;rfl
 |str _=>obtain⟨t,rfl⟩:=r;rfl
 |byt _=>obtain⟨t,rfl⟩:=r;rfl
 |flt _=>obtain⟨t,rfl⟩:=r;rfl
 |ref _=>cases r;rfl
 |ty _=>cases r;rfl
def E5{j pos'}(ha:PE X a ta):PC X .Is a (.Constant .none j pos') (QR ta):=by
 intro pins s σ H Q I h;refine cR (ha pins s σ H _ I h) λv s1 Z=>Z.e λx Z=>Z.e λH1 Z=>Z.e λI1 Z=>Z.e λr1 q1=>?_;exact Xe (is_none_gen ⟨.bl _,H1,I1,by rw[r1.none_iff];rfl,q1⟩)
def zF{j pos'}(ha:PE X a ta):PC X .IsNot a (.Constant .none j pos') (Od ta):=by
 intro pins s σ H Q I h;refine cR (ha pins s σ H _ I h) λv s1 Z=>Z.e λx Z=>Z.e λH1 Z=>Z.e λI1 Z=>Z.e λr1 q1=>?_;exact Xe (isnot_none_gen ⟨.bl _,H1,I1,by rw[r1.none_iff];rfl,q1⟩)
def tB(t:TE):TT:=λσ H Q=>t σ H λx H1=>∃c,x=.bl c/\Q c H1
def CF{op:Xf}{t:TE}(h:PC X op a b t)(h1:Xh op b=false:=by first|exact wL _ (by decide) (by decide)|rfl):PE X (.Compare a [op] [b] pos) t:=λpins s σ H Q I hw=>wpAny_Compare1 (h pins s σ H Q I hw) h1
def CN{op:Xf}{t:TE}(h:PC X op a b t)(h1:Xh op b=false:=by first|exact wL _ (by decide) (by decide)|rfl):PT X (.Compare a [op] [b] pos) (tB t):=by
 intro pins s σ H Q I hw;refine wpAny_isTrue_Compare1 (cR (h pins s σ H _ I hw) λv s1 h1=>cR h1 λu s2 h2=>cR h2 λc s3 Z=>Z.e λx Z=>Z.e λH1 Z=>Z.e λI1 Z=>Z.e λr1 q1=>?_) h1;obtain⟨d,rfl,q⟩:=q1;cases r1;exact Xi ⟨H1,I1,q⟩
variable{tA tB':TT}{rest:aS}
def Ro(t u:TT):TT:=λσ H Q=>t σ H λc H1=>if c=true then u σ H1 Q else Q false H1
def Sg(t u:TT):TT:=λσ H Q=>t σ H λc H1=>if c=true then Q true H1 else u σ H1 Q
def Qb(t:TT):TT:=λσ H Q=>t σ H λc H1=>Q (!c) H1
def Jd(ha:PT X a tA):PW X (.BoolOp .And [a] pos) tA:=by
 intro wh pins s σ H Q I h;refine isTrue_and (cR (ha pins s σ H Q I h) λc s1 e=>?_);cases c with
 |true=>exact isTrue_and_nil e
 |false=>exact e
def Mg(ha:PT X a tA):PW X (.BoolOp .Or [a] pos) tA:=by
 intro wh pins s σ H Q I h;refine isTrue_or (cR (ha pins s σ H Q I h) λc s1 e=>?_);cases c with
 |false=>exact isTrue_or_nil e
 |true=>exact e
def KJ(ha:PT X a tA)(hb:PW X (.BoolOp .And (b::rest) pos) tB'):PW X (.BoolOp .And (a::b::rest) pos) (Ro tA tB'):=by
 intro wh pins s σ H Q I h;refine isTrue_and (cR (ha pins s σ H _ I h) λc s1 Z=>Z.e λH1 Z=>Z.e λI1 q1=>?_);cases c with
 |true=>exact hb wh pins s1 σ H1 Q I1 q1
 |false=>exact⟨H1,I1,q1⟩
def Nq(ha:PT X a tA)(hb:PW X (.BoolOp .Or (b::rest) pos) tB'):PW X (.BoolOp .Or (a::b::rest) pos) (Sg tA tB'):=by
 intro wh pins s σ H Q I h;refine isTrue_or (cR (ha pins s σ H _ I h) λc s1 Z=>Z.e λH1 Z=>Z.e λI1 q1=>?_);cases c with
 |true=>exact⟨H1,I1,q1⟩
 |false=>exact hb wh pins s1 σ H1 Q I1 q1
def Ln(ha:PT X a tA):PT X (.UnaryOp .Not a pos) (Qb tA):=by
 intro pins s σ H Q I h;exact isTrue_not (ha pins s σ H (λc H1=>Q (!c) H1) I h)
def Og(ta tb:TE):TE:=λσ H Q=>ta σ H λx H1=>∃c,x=.bl c/\if c=true then tb σ H1 Q else Q (.bl false) H1
def NY(ta:TE):TE:=λσ H Q=>ta σ H λx H1=>∃c,x=.bl c/\Q (.bl (!c)) H1
def Ki{op}{t:TE}(h:PE X a t):PE X (.BoolOp op [a] pos) t:=λpins s σ H Q I hw=>BoolOp_one (h pins s σ H Q I hw)
def MD(ha:PE X a ta)(hb:PE X (.BoolOp .And (b::rest) pos) tb):PE X (.BoolOp .And (a::b::rest) pos) (Og ta tb):=by
 intro pins s σ H Q I h;refine BoolOp_and (cR (ha pins s σ H _ I h) λv s1 Z=>Z.e λx Z=>Z.e λH1 Z=>Z.e λI1 Z=>Z.e λr1 q1=>?_);obtain⟨c,rfl,q1⟩:=q1;cases r1;refine Xi ?_;cases c with
 |true=>exact hb pins s1 σ H1 Q I1 q1
 |false=>exact⟨.bl false,H1,I1,rfl,q1⟩
def MA(ha:PE X a ta):PE X (.UnaryOp .Not a pos) (NY ta):=by
 intro pins s σ H Q I h;refine UnaryOp_ (cR (ha pins s σ H _ I h) λv s1 Z=>Z.e λx Z=>Z.e λH1 Z=>Z.e λI1 Z=>Z.e λr1 q1=>?_);obtain⟨c,rfl,q1⟩:=q1;cases r1;exact not_of (Xi ⟨.bl (!c),H1,I1,rfl,q1⟩)
def SV(t:TT)(ta tb:TE):TE:=λσ H Q=>t σ H λc H1=>if c=true then ta σ H1 Q else tb σ H1 Q
def Ct{c:WX}(hc:PT X c tA)(ha:PE X a ta)(hb:PE X b tb):PE X (.IfExp c a b pos) (SV tA ta tb):=by
 intro pins s σ H Q I h;refine wpAny_IfExp (cR (hc pins s σ H _ I h) λd s1 Z=>Z.e λH1 Z=>Z.e λI1 q1=>?_);cases d with
 |true=>exact ha pins s1 σ H1 Q I1 q1
 |false=>exact hb pins s1 σ H1 Q I1 q1
end
def km(K:VC)(H:Hp)(a:WW)(xs:aN):Prop:=
 Rd H a (.lst xs) \/
  ∃(o:Obj)(its:Array WU)(n:Nat),K.lookup a=ag o/\o.cls=.type "list"/\o.dict=am/\o.data=.seq its n/\its.size<=W4/\Vals xs its.toList
def lW(K:VC)(H:Hp)(a:WW)(xs:aN):Prop:=
 Rd H a (.tup xs) \/
  ∃(o:Obj)(its:Array WU)(n:Nat),K.lookup a=ag o/\o.cls=.type "tuple"/\o.data=.seq its n/\its.size<=W4/\Vals xs its.toList
noncomputable def mC:WU->Option V
 |.none=>ag .non
 |.bool b=>ag (.bl b)
 |.int i _=>ag (.int i)
 |.str x _=>ag (.str x)
 |.bytes b _=>ag (.byt b)
 |.float b _=>ag (.flt b)
 |.ref a=>ag (.ref a)
 |.type n=>ag (.ty n)
 |_=>am
def RelV.abs{x:V}{u:WU}(r:RelV x u):mC u=ag x:=by
 cases x with
 |non=>cases r;rfl
 |bl _=>cases r;rfl
 |int _=>obtain⟨t,rfl⟩:=r;rfl
 |str _=>obtain⟨t,rfl⟩:=r;rfl
 |byt _=>obtain⟨t,rfl⟩:=r;rfl
 |flt _=>obtain⟨t,rfl⟩:=r;rfl
 |ref _=>cases r;rfl
 |ty _=>cases r;rfl
theorem RelV.inj{x y:V}{u:WU}(r:RelV x u)(q:RelV y u):x=y:=Option.some.inj (r.abs.symm.trans q.abs)
theorem Vals.inj{xs ys:aN}{us:bA}(h:Vals xs us)(h':Vals ys us):xs=ys:=by
 induction h generalizing ys with
 |nil=>cases h';rfl
 |cons r _ ih=>
  cases h' with|cons r' t'=>
  rw[RelV.inj r r',ih t']
section
variable{X:Cx}{pins:bg}{σ:St}{H:Hp}{s:WZ}{a:WW}{xs ys:aN}
def km.of{K:VC}(h:H a=ag (.lst xs)):km K H a xs:=.inl (.inl h)
def lW.of{K:VC}(h:H a=ag (.tup xs)):lW K H a xs:=.inl (.inl h)
def Inv.list(I:Inv X pins σ H s)(h:km X.K H a xs):∃its:bA,Vals xs its/\PlainL s.heap a its.toArray/\xs.length<=W4:=by
 rcases h with h|⟨o,its,n,hk,hc,hd,hs,hz,r⟩
 ·obtain⟨z,its,n,r,e⟩:=h.ok I.hok;exact⟨its,r,⟨_,n,e,rfl,rfl,rfl⟩,z⟩
 ·refine⟨its.toList,r,⟨o,n,I.kIn a o hk,hc,hd,by simpa using hs⟩,?_⟩;have e:=r.length;simp only[Array.length_toList]at e;omega
def Inv.tuple(I:Inv X pins σ H s)(h:lW X.K H a xs):∃its:bA,Vals xs its/\IsTup s.heap a its.toArray/\xs.length<=W4:=by
 rcases h with h|⟨o,its,n,hk,hc,hs,hz,r⟩
 ·obtain⟨z,its,r,p⟩:=h.ok I.hok;exact⟨its,r,p.tup,z⟩
 ·refine⟨its.toList,r,⟨o,I.kIn a o hk,hc,n,by simpa using hs⟩,?_⟩;have e:=r.length;simp only[Array.length_toList]at e;omega
def Inv.list_inj(I:Inv X pins σ H s)(h:km X.K H a xs)(h':km X.K H a ys):xs=ys:=by
 obtain⟨its,r,⟨o,n,e,_,_,d⟩,_⟩:=I.list h;obtain⟨its',r',⟨o',n',e',_,_,d'⟩,_⟩:=I.list h';rw[e]at e';cases e';rw[d]at d';injection d' with d1 _
 have:its=its':=by simpa using dl Array.toList d1
 subst this;exact r.inj r'
def Inv.tuple_inj(I:Inv X pins σ H s)(h:lW X.K H a xs)(h':lW X.K H a ys):xs=ys:=by
 obtain⟨its,r,⟨o,e,_,n,d⟩,_⟩:=I.tuple h;obtain⟨its',r',⟨o',e',_,n',d'⟩,_⟩:=I.tuple h';rw[e]at e';cases e';rw[d]at d';injection d' with d1 _
 have:its=its':=by simpa using dl Array.toList d1
 subst this;exact r.inj r'
end
abbrev Cx.wish(X:Cx)(E:bI):Cx:={X with xe:=E}
noncomputable abbrev Cx.nox(X:Cx):Cx:=X.wish λ_ _=>False
theorem Cx.Ok.wish{X:Cx}(ok:X.Ok)(E:bI):(X.wish E).Ok:=
 ⟨ok.mod,ok.kind,ok.glob,ok.blt,ok.above,ok.inj,ok.has,ok.cab,ok.hd,ok.frames,ok.stk,ok.exf,ok.bs,ok.bsz,ok.noex,ok.exfs,ok.funs,ok.frf⟩
def Cx.Ok.unwish{X:Cx}{E:bI}(ok:(X.wish E).Ok):X.Ok:=
 ⟨ok.mod,ok.kind,ok.glob,ok.blt,ok.above,ok.inj,ok.has,ok.cab,ok.hd,ok.frames,ok.stk,ok.exf,ok.bs,ok.bsz,ok.noex,ok.exfs,ok.funs,ok.frf⟩
section
variable{X:Cx}{pins:bg}{σ:St}{H:Hp}{s:WZ}{E:bI}
theorem Inv.wish(I:Inv X pins σ H s)(E:bI):Inv (X.wish E) pins σ H s:=⟨I.ok.wish E,I.os,I.bare,I.base,I.loc,I.cell,I.free,I.freeC,I.pin,I.hok,I.len⟩
theorem Inv.unwish(I:Inv (X.wish E) pins σ H s):Inv X pins σ H s:=⟨I.ok.unwish,I.os,I.bare,I.base,I.loc,I.cell,I.free,I.freeC,I.pin,I.hok,I.len⟩
theorem SP.unwish{D:Ends}{f:Flow}{s':WZ}(h:SP (X.wish E) pins D f s'):SP X pins D f s':=by
 cases f with
 |next=>obtain⟨σ',H',I,q⟩:=h;exact⟨σ',H',I.unwish,q⟩
 |brk=>obtain⟨σ',H',I,q⟩:=h;exact⟨σ',H',I.unwish,q⟩
 |cont=>obtain⟨σ',H',I,q⟩:=h;exact⟨σ',H',I.unwish,q⟩
 |ret u=>obtain⟨v,σ',H',I,r,q⟩:=h;exact⟨v,σ',H',I.unwish,r,q⟩
theorem qW.nox{st:cU}{t:TS}(h:qW X.nox st t):qW X st t:=λpins s σ H D I hw=>
 Xc (h pins s σ H D (I.wish _) hw) (λ_ _ q=>q.unwish) λ_ _ z=>False.elim z
end
section
variable{X:Cx}{st:WY}{rest:cU}{t u:TS}{e:WX}{te:TE}{pos:Pos}
def C2:TS:=λD σ H=>D.nx σ H
def QW(t u:TS):TS:=λD σ H=>t {D with nx:=u D} σ H
def uP:qW X [] C2:=λ_ _ σ H _ I h=>Xj ⟨σ,H,I,h⟩
def pM(h1:PS X st t)(h2:qW X rest u):qW X (st::rest) (QW t u):=by
 intro pins s σ H D I h;refine Xk (cR (h1 pins s σ H {D with nx:=u D} I h) λf s1 q=>?_);cases f with
 |next=>
  obtain⟨σ',H',I',q⟩:=q;exact h2 pins s1 σ' H' D I' q
 |ret v=>exact q
 |brk=>exact q
 |cont=>exact q
def tK(h1:PS X st t):qW X [st] t:=by
 intro pins s σ H D I h;refine Xk (cR (h1 pins s σ H D I h) λf s1 q=>?_);cases f with
 |next=>exact Xj q
 |ret v=>exact q
 |brk=>exact q
 |cont=>exact q
def Ha:PS X (.Pass pos) C2:=λ_ _ σ H _ I h=>wpAny_Pass ⟨σ,H,I,h⟩
def Inv.quiet{pins:bg}{σ:St}{H:Hp}{s:WZ}(I:Inv X pins σ H s):interactive X.env=false:=by simp[interactive,I.ok.kind]
def ME{x j pos pos'}:PS X (.Expr (.Constant (.str x) j pos) pos') C2:=λ_ s σ H _ I h=>wpAny_Expr (Calls.Constant_str (show SP X _ _ .next {s with toks:=s.toks+1}from⟨σ,H,I.tok _,h⟩)) I.quiet
def MN(te:TE):TS:=λD σ H=>te σ H λ_ H1=>D.nx σ H1
def yT(he:PE X e te)(hs:swapsWith e am pos.line X.env=pure false:=by rfl):PS X (.Expr e pos) (MN te):=by
 intro pins s σ H D I h;exact wpAny_Expr_any (cR (he pins s σ H _ I h) λv s1 Z=>Z.e λx Z=>Z.e λH1 Z=>Z.e λI1 Z=>Z.e λr1 q1=>⟨σ,H1,I1,q1⟩) I.quiet hs
def Rg(te:TE):TS:=λD σ H=>te σ H D.rt
def yn(he:PE X e te):PS X (.Return (ag e) pos) (Rg te):=by
 intro pins s σ H D I h;exact wpAny_Return_some (cR (he pins s σ H _ I h) λv s1 Z=>Z.e λx Z=>Z.e λH1 Z=>Z.e λI1 Z=>Z.e λr1 q1=>⟨x,σ,H1,I1,r1,q1⟩)
def QF(c:TT)(t u:TS):TS:=λD σ H=>c σ H λb H1=>if b=true then t D σ H1 else u D σ H1
def JV{c:WX}{a b:cU}{tc:TT}(hc:PT X c tc)(ha:qW X a t)(hb:qW X b u):PS X (.If c a b pos) (QF tc t u):=by
 intro pins s σ H D I h;refine wpAny_If (cR (hc pins s σ H _ I h) λd s1 Z=>Z.e λH1 Z=>Z.e λI1 q1=>?_);cases d with
 |true=>exact ha pins s1 σ H1 D I1 q1
 |false=>exact hb pins s1 σ H1 D I1 q1
end
abbrev TG:=V->St->Hp->(St->Hp->Prop)->Prop
abbrev JX:=List V->St->Hp->(St->Hp->Prop)->Prop
def PG(X:Cx)(target:WX)(t:TG):Prop:=
 ∀(pins:bg)(s:WZ)(σ:St)(H:Hp)(v:V)(u:WU)(Q:St->Hp->Prop),Inv X pins σ H s->RelV v u->t v σ H Q->
  Xa (model X.prog X.w) X.A (assign target X.env u) (λ_ s'=>∃σ' H',Inv X pins σ' H' s'/\Q σ' H') X.xe s
def Nj(X:Cx)(ts:aS)(t:JX):Prop:=
 ∀(pins:bg)(s:WZ)(σ:St)(H:Hp)(vs:aN)(us:bA)(Q:St->Hp->Prop),Inv X pins σ H s->Vals vs us->t vs σ H Q->
  Xa (model X.prog X.w) X.A (assignInOrder ((assignEach ts X.env).map (·.2)) us) (λ_ s'=>∃σ' H',Inv X pins σ' H' s'/\Q σ' H') X.xe s
section
variable{X:Cx}{pos:Pos}
def si(i:Nat):TG:=λv σ H Q=>Q (σ.set i (ag v)) H
def Iy{i:Nat}{x:Str}(hN:X.N.Nodup)(hi:X.N[i]?=ag x)(hx:Loc X.env.scope x)(hf:X.fn x=true\/X.env.scope.names.lookup x=ag .local:=by first|exact .inl rfl|exact .inr rfl|assumption):PG X (.Name x pos) (si i):=by
 intro pins s σ H v u Q I r h;exact Xl (jm I hN hi hx r (λs' I'=>⟨_,H,I',h⟩) hf)
def QX:JX:=λvs σ H Q=>vs=[]/\Q σ H
def Oh(t:TG)(u:JX):JX:=λvs σ H Q=>∃v r,vs=v::r/\t v σ H λσ' H'=>u r σ' H' Q
def GO:Nj X [] QX:=by
 intro pins s σ H vs us Q I r h;obtain⟨e,h⟩:=h;subst e;cases r;exact assignInOrder_nil ⟨σ,H,I,h⟩
def Fc{e:WX}{es:aS}{t:TG}{u:JX}(h1:PG X e t)(h2:Nj X es u)
  (hs:(assignEach (e::es) X.env).map (·.2)=assign e X.env::(assignEach es X.env).map (·.2):=by rfl):Nj X (e::es) (Oh t u):=by
 intro pins s σ H vs us Q I r h;obtain⟨v,vr,e1,h⟩:=h;subst e1;cases r with
 |cons r rr=>
  rw[hs];refine assignInOrder_cons (cR (h1 pins s σ H _ _ _ I r h) λ_ s1 Z=>Z.e λσ1 Z=>Z.e λH1 Z=>Z.e λI1 q1=>?_);exact h2 pins s1 σ1 H1 _ _ Q I1 rr q1
def QG(K:VC)(n:Nat)(t:JX):TG:=λv σ H Q=>∃a xs,v=.ref a/\lW K H a xs/\xs.length=n/\t xs σ H Q
def Kw{es:aS}{k:Nat}{t:JX}{n:Nat}(hc:X.calm=true)(h:Nj X es t)
  (hn:(assignEach es X.env).length=n:=by rfl) (hst:(assignEach es X.env).findIdx? (·.1)=none:=by rfl):PG X (.Tuple es k pos) (QG X.K n t):=by
 intro pins s σ H v u Q I r hw;obtain⟨a,xs,e1,hq,hl,hw⟩:=hw;subst e1;cases r;obtain⟨its,rv,ht,hz⟩:=I.tuple hq;refine assign_Tuple_tuple (I.ok.hd hc) ht (by simp[hn,<-hl,rv.length]) hst λh' hx=>?_;have I1:Inv X pins σ H {s with heap:=h'}:=I.kept (t':=s.toks) λb o e=>hx b o (Tf (Wn e)) e;exact h pins _ σ H xs _ Q I1 (by simpa using rv) hw
def FY(te:TE)(g:TG):TS:=λD σ H=>te σ H λx H1=>g x σ H1 D.nx
def LU{tg e:WX}{te:TE}{g:TG}(he:PE X e te)(hg:PG X tg g)(hs:swapsWithSole [tg] e pos.line X.env=pure false:=by rfl)(hw:swappedStores [tg] e X.env=pure none:=by rfl)
  (h1:(assignEach [tg] X.env).map (·.2)=[assign tg X.env]:=by rfl):PS X (.Assign [tg] e pos) (FY te g):=by
 intro pins s σ H D I h;refine wpAny_Assign_stores (cR (he pins s σ H _ I h) λv s1 Z=>Z.e λx Z=>Z.e λH1 Z=>Z.e λI1 Z=>Z.e λr1 q1=>?_) hs hw;rw[h1];exact cR (hg pins s1 σ H1 x v _ I1 r1 q1) λ_ s2 q=>q
def pW{i:Nat}{x:Str}{e:WX}{te:TE}{pos':Pos}(hN:X.N.Nodup)(hi:X.N[i]?=ag x)(hx:Loc X.env.scope x)(he:PE X e te)(hs:swapsWith e (ag (.Name x pos')) pos.line X.env=pure false:=by rfl)(hf:X.fn x=true\/X.env.scope.names.lookup x=ag .local:=by first|exact .inl rfl|exact .inr rfl|assumption):
  PS X (.Assign [.Name x pos'] e pos) (FY te (si i)):=by
 intro pins s σ H D I h;refine wpAny_Assign_Name (cR (he pins s σ H _ I h) λv s1 Z=>Z.e λy Z=>Z.e λH1 Z=>Z.e λI1 Z=>Z.e λr1 q1=>?_) hs;exact jm I1 hN hi hx r1 (λs2 I2=>⟨_,H1,I2,q1⟩) hf
end
section
variable{X:Cx}{pos:Pos}
def Lf(c:TT)(tb:TS):TS:=λD σ H=>∃W:Nat->St->Hp->Prop,(∃m,W m σ H)/\∀m σ H,W m σ H->
 c σ H λb H1=>if b=true then∃N:St->Hp->Prop,(∀σ' H',N σ' H'->∃m',m'<m/\W m' σ' H')/\tb {D with nx:=N,ct:=N,bk:=D.nx} σ H1 else D.nx σ H1
def vz{c:WX}{body:cU}{tc:TT}{tb:TS}(hp:Xm (model X.prog X.w) X.A X.env X.xe)(hc:PT X c tc)(hb:qW X body tb):PS X (.While c body [] pos) (Lf tc tb):=by
 intro pins s σ H D I h;obtain⟨W,⟨m0,w0⟩,turn⟩:=h;refine wpAny_While (codeAny_whileLoop (λn s'=>∃σ' H',Inv X pins σ' H' s'/\W n σ' H') ?_ m0 ⟨σ,H,I,w0⟩);rintro n s1 ⟨σ1,H1,I1,w1⟩;refine Xn hp (cR (hc pins s1 σ1 H1 _ I1 (turn n σ1 H1 w1)) λb s2 Z=>Z.e λH2 Z=>Z.e λI2 q2=>?_);cases b with
 |true=>
  obtain⟨N,hN,q2⟩:=q2;rw[ba rfl];refine Xn hp (cR (hb pins s2 σ1 H2 _ I2 q2) λf s3 q3=>?_);cases f with
  |next=>
   obtain⟨σ3,H3,I3,n3⟩:=q3;obtain⟨m',hm,w3⟩:=hN σ3 H3 n3;exact⟨m',hm,σ3,H3,I3,w3⟩
  |cont=>
   obtain⟨σ3,H3,I3,n3⟩:=q3;obtain⟨m',hm,w3⟩:=hN σ3 H3 n3;exact⟨m',hm,σ3,H3,I3,w3⟩
  |brk=>exact q3
  |ret v=>exact q3
 |false=>
  rw[br Tq];exact Xj ⟨σ1,H2,I2,q2⟩
end
structure It where
 go:Nat->Hp->Prop
 yld:Nat->Hp->V->Hp->Prop
 stop:Nat->Hp->Prop
def nD(X:Cx)(pins:bg)(H:Hp)(b:WW):Prop:=
 H b=am/\b≠X.env.locals/\b∉X.fs/\(b∈X.ex\/X.s₀.heap.objs.size<=b)/\(∀x c,X.env.cells.lookup x=ag c->c≠b)/\∀p∈X.pn++pins,p.1≠b
def Inv.fpOk{X:Cx}{pins:bg}{σ:St}{H H':Hp}{s:WZ}{b:WW}(I:Inv X pins σ H s)(hb:s.heap.objs.size<=b)(hn:H' b=am):nD X pins H' b:=by
 refine⟨hn,Tr (Td I.lt hb),I.nofs hb,.inr (Tg I.sz hb),λx c e z=>?_,λp hp z=>?_⟩
 ·obtain⟨v,q⟩:=I.cell x c e;exact bt (Td q.lt (by rw[z];exact hb)) (Te _)
 ·exact bt (Td (Wn (I.pin p hp).1) (by rw[z];exact hb)) (Te _)
structure Turn(P:W1)(w:W0)(K:VC)(tg:WX)(J:It)(fp:aD)(it:WW)(tn:Nat->W3->Prop):Prop where
 mem:it∈fp
 obj:∀i h,tn i h->∀b∈fp,∃o,h.get? b=ag o/\∀v,o.data≠.cell v
 keep:∀i h h',tn i h->(∀b∈fp,∀o,h.get? b=ag o->h'.get? b=ag o)->tn i h'
 item:∀(X:Cx),X.prog=P->X.w=w->X.K=K->X.calm=true->∀(i:Nat)(pins:bg)(s:WZ)(σ:St)(H:Hp)(E:bI),Inv X pins σ H s->(∀b∈fp,nD X pins H b)->tn i s.heap->J.go i H->
  Xa (model P w) X.A (pyNext (.ref it)) (λr s1=>∃u,r=ag u/\
   Xa (model P w) X.A (letOwnedTupleGo tg (.ref it) u) (λ_ s2=>∃x H',Inv X pins σ H' s2/\RelV x u/\J.yld i H x H'/\tn (i+1) s2.heap/\∀b∈fp,H' b=am) E s1) E s
 done:∀(X:Cx),X.prog=P->X.w=w->X.K=K->X.calm=true->∀(i:Nat)(pins:bg)(s:WZ)(σ:St)(H:Hp)(E:bI),Inv X pins σ H s->(∀b∈fp,nD X pins H b)->tn i s.heap->J.stop i H->
  Xa (model P w) X.A (pyNext (.ref it)) (λr s1=>r=am/\Inv X pins σ H s1) E s
 self:∀(A:W7)(i:Nat)(s:WZ)(Q:bI)(E:bI),tn i s.heap->Q (.ref it) s->Xa (model P w) A (pyIter (.ref it)) Q E s
abbrev TI:=St->Hp->(It->Hp->Prop)->Prop
def PIE(X:Cx)(pins:bg)(σ:St)(tg:WX)(R:It->Hp->Prop)(itv:WU)(s2:WZ):Prop:=
 ∃(it:WW)(fp:aD)(tn:Nat->W3->Prop)(J:It)(H':Hp),itv=.ref it/\Inv X pins σ H' s2/\Turn X.prog X.w X.K tg J fp it tn/\tn 0 s2.heap/\(∀b∈fp,nD X pins H' b)/\R J H'
def PI(X:Cx)(tg iter:WX)(wi:TI):Prop:=
 ∀(pins:bg)(s:WZ)(σ:St)(H:Hp)(R:It->Hp->Prop),Inv X pins σ H s->wi σ H R->
  Xa (model X.prog X.w) X.A (eval iter X.env) (λv s1=>Xa (model X.prog X.w) X.A (pyIter v) (PIE X pins σ tg R) X.xe s1) X.xe s
def wJ{M:W9}{A:W7}{E:bI}{s:WZ}{tg:WX}{it:WW}{u:WU}{o:Obj}{n:String}{vs:Array WU}{Q:Unit->ib}(ho:s.heap.get? it=ag o)(hc:o.cls=.type n)(hd:o.data=.fields vs)
    (hn:["enumerate","zip","dict_itemiterator","dict_reverseitemiterator","odict_iterator","itertools.zip_longest","itertools.pairwise"].contains n=false) (hQ:Q () s):Xa M A (letOwnedTupleGo tg (.ref it) u) Q E s:=by
  unfold letOwnedTupleGo;cases tg<;>first
    |exact Xo hQ
    | (cases u <;> first
        |exact Xo hQ
        | (refine Xp (wpAny_load ho ?_)
           rw[hc,hd];show Xa M A (if(["enumerate","zip","dict_itemiterator","dict_reverseitemiterator","odict_iterator","itertools.zip_longest","itertools.pairwise"].contains n&&vs[0]?==ag (rawInt _))=true then _ else _) Q E s;rw[br (by intro h;rw[hn,Ts]at h;cases h)];exact Xo hQ))
noncomputable def Qo(K:VC)(a:WW):It:=
 ⟨λi H=>∃xs x,km K H a xs/\xs[i]?=ag x,λi H x H'=>H'=H/\∀xs,km K H a xs->xs[i]?=ag x,λi H=>∃xs,km K H a xs/\xs.length<=i⟩
noncomputable def QO(K:VC)(a:WW):It:=
 ⟨λi H=>∃xs x,lW K H a xs/\xs[i]?=ag x,λi H x H'=>H'=H/\∀xs,lW K H a xs->xs[i]?=ag x,λi H=>∃xs,lW K H a xs/\xs.length<=i⟩
noncomputable def OI(lo:Int)(n:Nat):It:=⟨λi _=>i<n,λi H x H'=>H'=H/\x=.int (lo+i),λi _=>n<=i⟩
def Ag{P:W1}{w:W0}{K:VC}{tg:WX}(a it:WW):Turn P w K tg (Qo K a) [it] it (λi h=>h.IsListIter it a i)where
 mem:=by simp
 obj:=λi h st b hb=>by
  have e:b=it:=by simpa using hb
  subst e;obtain⟨o,e,c,d⟩:=st;exact⟨o,e,λv z=>by rw[d]at z;cases z⟩
 keep:=λi h h' st k=>st.at λo e=>k it (by simp) o e
 item:=by
  intro X hP hw hK hc i pins s σ H E I hf st hg;subst hP hw hK;obtain⟨xs,x,hq,hx⟩:=hg;obtain⟨its,rv,p,hz⟩:=I.list hq;obtain⟨u,hu,ru⟩:=rv.get hx;obtain⟨f0,f1,f2,f3,f4,f5⟩:=hf it (by simp);refine wpAny_pyNext_list_item st p.isList (x:=u) (by simpa using hu) λh' st' sb=>?_;have I1:Inv X pins σ H {s with heap:=h'}:=I.turned (t':=s.toks) (λb o hb e=>(sb.2 b hb).trans e) f0 f1 f3 f4 f5;obtain⟨o,e,c,d⟩:=id st';exact⟨u,rfl,wJ (s:={s with heap:=h'}) e c d (by decide) ⟨x,H,I1,ru,⟨rfl,λys hy=>by rw[I.list_inj hy hq];exact hx⟩,st',λb hb=>(hf b hb).1⟩⟩
 done:=by
  intro X hP hw hK hc i pins s σ H E I hf st hg;subst hP hw hK;obtain⟨xs,hq,hx⟩:=hg;obtain⟨its,rv,p,hz⟩:=I.list hq;obtain⟨f0,f1,f2,f3,f4,f5⟩:=hf it (by simp);have hl:=rv.length;exact wpAny_pyNext_list_end (I.ok.hd hc) st p.isList (by simp;omega) λh' eb=>⟨rfl,I.turned (t':=s.toks) (λb o hb e=>eb b o hb e) f0 f1 f3 f4 f5⟩
 self:=λ_ _ _ _ _ st h=>wpAny_pyIter_listiter st h
def xQ{P:W1}{w:W0}{K:VC}{tg:WX}(a it:WW):Turn P w K tg (QO K a) [it] it (λi h=>h.IsTupleIter it a i)where
 mem:=by simp
 obj:=λi h st b hb=>by
  have e:b=it:=by simpa using hb
  subst e;obtain⟨o,e,c,d⟩:=st;exact⟨o,e,λv z=>by rw[d]at z;cases z⟩
 keep:=λi h h' st k=>st.at λo e=>k it (by simp) o e
 item:=by
  intro X hP hw hK hc i pins s σ H E I hf st hg;subst hP hw hK;obtain⟨xs,x,hq,hx⟩:=hg;obtain⟨its,rv,p,hz⟩:=I.tuple hq;obtain⟨u,hu,ru⟩:=rv.get hx;obtain⟨f0,f1,f2,f3,f4,f5⟩:=hf it (by simp);refine wpAny_pyNext_tuple_item st (show s.heap.IsTuple a its.toArray from p) (x:=u) (by simpa using hu) λh' st' sb=>?_;have I1:Inv X pins σ H {s with heap:=h'}:=I.turned (t':=s.toks) (λb o hb e=>(sb.2 b hb).trans e) f0 f1 f3 f4 f5;obtain⟨o,e,c,d⟩:=id st';exact⟨u,rfl,wJ (s:={s with heap:=h'}) e c d (by decide) ⟨x,H,I1,ru,⟨rfl,λys hy=>by rw[I.tuple_inj hy hq];exact hx⟩,st',λb hb=>(hf b hb).1⟩⟩
 done:=by
  intro X hP hw hK hc i pins s σ H E I hf st hg;subst hP hw hK;obtain⟨xs,hq,hx⟩:=hg;obtain⟨its,rv,p,hz⟩:=I.tuple hq;obtain⟨f0,f1,f2,f3,f4,f5⟩:=hf it (by simp);have hl:=rv.length;exact wpAny_pyNext_tuple_end (I.ok.hd hc) st (show s.heap.IsTuple a its.toArray from p) (by simp;omega) λh' eb=>⟨rfl,I.turned (t':=s.toks) (λb o hb e=>eb b o hb e) f0 f1 f3 f4 f5⟩
 self:=λ_ _ _ _ _ st h=>wpAny_pyIter_tupleiter st h
def xx{P:W1}{w:W0}{K:VC}{tg:WX}(it:WW)(lo:Int)(n:Nat):Turn P w K tg (OI lo n) [it] it (λi h=>IsRangeIter h it (lo+(i:Nat)*1) ((n:Int)-(i:Nat)) 1)where
 mem:=by simp
 obj:=λi h st b hb=>by
  have e:b=it:=by simpa using hb
  subst e;exact⟨_,st,λv z=>by
   have z':Data.fields _=Data.cell v:=z;cases z'⟩
 keep:=λi h h' st k=>k it (by simp) _ st
 item:=by
  intro X hP hw hK hc i pins s σ H E I hf st hg;subst hP hw hK;obtain⟨f0,f1,f2,f3,f4,f5⟩:=hf it (by simp);have W:=Walks.range (prog:=X.prog) (w:=X.w) (I.ok.hd hc) it lo 1 n;refine W.item i s _ _ hg st λv h' tk hv st' kk=>?_;obtain⟨t,rfl⟩:=hv;have I1:Inv X pins σ H {s with heap:=h',toks:=tk}:=I.turned (λb o hb e=>kk b o (by simpa using hb) e) f0 f1 f3 f4 f5;refine⟨_,rfl,wJ (s:={s with heap:=h',toks:=tk}) (n:="range_iterator") st' rfl rfl (by decide) ⟨.int (lo+i),H,I1,⟨t,?_⟩,⟨rfl,rfl⟩,st',λb hb=>(hf b hb).1⟩⟩;rw[Int.mul_one]
 done:=by
  intro X hP hw hK hc i pins s σ H E I hf st hg;subst hP hw hK;obtain⟨f0,f1,f2,f3,f4,f5⟩:=hf it (by simp);exact wpAny_pyNext_range_end (I.ok.hd hc) st (by have:n<=i:=hg;omega) λh' eb=>⟨rfl,I.turned (t':=s.toks) (λb o hb e=>eb b o hb e) f0 f1 f3 f4 f5⟩
 self:=λ_ _ _ _ _ st h=>wpAny_pyIter_rangeiter st h
section
variable{X:Cx}{tg:WX}
def N6(K:VC)(tl:TE):TI:=λσ H R=>tl σ H λx H1=>∃a,x=.ref a/\(∃xs,km K H1 a xs)/\R (Qo K a) H1
def PF(K:VC)(tl:TE):TI:=λσ H R=>tl σ H λx H1=>∃a,x=.ref a/\(∃xs,lW K H1 a xs)/\R (QO K a) H1
def zU{l:WX}{tl:TE}(hl:PE X l tl):PI X tg l (N6 X.K tl):=by
 intro pins s σ H R I h;refine cR (hl pins s σ H _ I h) λv s1 Z=>Z.e λx Z=>Z.e λH1 Z=>Z.e λI1 Z=>Z.e λr1 q1=>?_;obtain⟨a,e,⟨xs,hq⟩,q⟩:=q1;subst e;cases r1;obtain⟨its,rv,p,hz⟩:=I1.list hq;refine Xq p.isList ?_;refine⟨s1.heap.objs.size,[s1.heap.objs.size],_,_,H1,rfl,I1.kept (t':=s1.toks) λb o e=>Wp _ e,Ag a _,⟨_,Wm _ rfl,rfl,rfl⟩,λb hb=>?_,q⟩;have e:b=s1.heap.objs.size:=by simpa using hb
 subst e;exact I1.fpOk (Tt _) (I1.hok.fresh (Tt _))
def MF{l:WX}{tl:TE}(hl:PE X l tl):PI X tg l (PF X.K tl):=by
 intro pins s σ H R I h;refine cR (hl pins s σ H _ I h) λv s1 Z=>Z.e λx Z=>Z.e λH1 Z=>Z.e λI1 Z=>Z.e λr1 q1=>?_;obtain⟨a,e,⟨xs,hq⟩,q⟩:=q1;subst e;cases r1;obtain⟨its,rv,p,hz⟩:=I1.tuple hq;refine wpAny_pyIter_tuple (show s1.heap.IsTuple a its.toArray from p) ?_;refine⟨s1.heap.objs.size,[s1.heap.objs.size],_,_,H1,rfl,I1.kept (t':=s1.toks) λb o e=>Wp _ e,xQ a _,⟨_,Wm _ rfl,rfl,rfl⟩,λb hb=>?_,q⟩;have e:b=s1.heap.objs.size:=by simpa using hb
 subst e;exact I1.fpOk (Tt _) (I1.hok.fresh (Tt _))
def Dk{pins:bg}{σ:St}{H:Hp}{s:WZ}{R:It->Hp->Prop}{E:bI}{lo hi:Int}{t u v:Tok}{tk:Nat}(I:Inv X pins σ H s)(h1:-(2^62)<=lo)(h2:lo<2^62)(h3:-(2^62)<=hi)(h4:hi<2^62)
  (q:R (OI lo (hi-lo).toNat) H):Xa (model X.prog X.w) X.A (pyIter (.ref s.heap.objs.size)) (PIE X pins σ tg R) E {s with heap:=s.heap.push {cls:=.type "range",data:=.fields #[.int lo t,.int hi u,.int 1 v]},toks:=tk}:=by
 refine wpAny_pyIter_range (IsRange.new ..) (small_one h1 h2 h3 h4) ?_;have I1:Inv X pins σ H {s with heap:=s.heap.push {cls:=.type "range",data:=.fields #[.int lo t,.int hi u,.int 1 v]},toks:=tk}:=I.kept λb o e=>Wp _ e;refine⟨(s.heap.push {cls:=.type "range",data:=.fields #[.int lo t,.int hi u,.int 1 v]}).objs.size,[(s.heap.push {cls:=.type "range",data:=.fields #[.int lo t,.int hi u,.int 1 v]}).objs.size],_,_,H,rfl,
  I1.kept (t':=tk) λb o e=>Wp _ e,xx _ lo (hi-lo).toNat,?_,λb hb=>?_,q⟩
 ·have e1:lo+((0:Nat):Int)*1=lo:=by simp
  have e2:(((hi-lo).toNat:Nat):Int)-((0:Nat):Int)=Builtin.Range.rangeSize lo hi 1:=by rw[rangeSize_one];split<;>omega
  show IsRangeIter _ _ (lo+((0:Nat):Int)*1) ((((hi-lo).toNat:Nat):Int)-((0:Nat):Int)) 1;rw[e1,e2];exact Wm _ rfl
 ·have e:b=(s.heap.push {cls:=.type "range",data:=.fields #[.int lo t,.int hi u,.int 1 v]}).objs.size:=by simpa using hb
  subst e;exact I1.fpOk (Tt _) (I1.hok.fresh (Tt _))
def NZ(ta:TA):TI:=λσ H R=>ta σ H λvs H1=>∃j:Int,vs=[.int j]/\-(2^62)<=j/\j<2^62/\R (OI 0 j.toNat) H1
def A8{a:WX}{ta:TA}{p pos:Pos}(hg:Gl X "range")(hm:X.mg "range"=am)(ha:PA X [a] ta)(hs:Xb [a] X.env=[(false,eval a X.env)]:=by rfl):PI X tg (.Call (.Name "range" p) [a] [] pos) (NZ ta):=by
 intro pins s σ H R I h;refine Call_ (kq I hg hm boot_range (Wv (cR (ha pos pins s σ H _ I h) λus s1 Z=>Z.e λvs Z=>Z.e λH1 Z=>Z.e λI1 Z=>Z.e λr1 q1=>?_) hs rfl));obtain⟨j,e,q1,q2,q⟩:=q1;subst e;cases r1 with
 |cons r rr=>
  cases rr;obtain⟨t,rfl⟩:=r;exact call_range_1 (Dk I1 ‹0› ‹0› q1 q2 (by simpa using q))
noncomputable def Pl(wi:TI)(g:TG)(tb:TS):TS:=λD σ H=>wi σ H λJ H1=>∃W:Nat->Nat->St->Hp->Prop,(∃m,W 0 m σ H1)/\∀i m σ H,W i m σ H->
 (J.stop i H/\D.nx σ H)\/(J.go i H/\∃N:St->Hp->Prop,(∀σ' H',N σ' H'->∃m',m'<m/\W (i+1) m' σ' H')/\∀x H',J.yld i H x H'->g x σ H' λσ2 H2=>tb {D with nx:=N,ct:=N,bk:=D.nx} σ2 H2)
def j9(fp:aD)(h:W3):bg:=fp.filterMap λb=>(h.get? b).map λo=>(b,o)
def gA{fp:aD}{h:W3}{b:WW}{o:Obj}(hb:b∈fp)(e:h.get? b=ag o):(b,o)∈j9 fp h:=List.mem_filterMap.mpr ⟨b,hb,by rw[e];rfl⟩
def Ax{fp:aD}{h:W3}{p:WW×Obj}(hp:p∈j9 fp h):p.1∈fp/\h.get? p.1=ag p.2:=by
 obtain⟨b,hb,e⟩:=List.mem_filterMap.mp hp;cases q:h.get? b with
 |none=>rw[q]at e;cases e
 |some o=>
  rw[q]at e;have e':(b,o)=p:=Option.some.inj e;subst e';exact⟨hb,q⟩
def Inv.pinned{pins:bg}{σ:St}{H:Hp}{s:WZ}{fp:aD}(I:Inv X pins σ H s)(hf:∀b∈fp,nD X pins H b)(ho:∀b∈fp,∃o,s.heap.get? b=ag o/\∀v,o.data≠.cell v):Inv X (pins++j9 fp s.heap) σ H s:=
 I.pins_of λp hp=>(List.mem_append.mp hp).elim (λz=>I.pin p (Tu _ z)) λz=>by
  obtain⟨hb,e⟩:=Ax z;obtain⟨f0,f1,f2,_⟩:=hf p.1 hb;obtain⟨o,e',d⟩:=ho p.1 hb;rw[e]at e';cases e';exact⟨e,f0,f1,f2,d⟩
def Inv.unpinned{pins pl:bg}{σ:St}{H:Hp}{s:WZ}(I:Inv X (pins++pl) σ H s):Inv X pins σ H s:=I.pins_of λp hp=>I.pin p (Tu _ (Tn _ hp))
def KY{iter:WX}{body:cU}{wi:TI}{g:TG}{tb:TS}{pos:Pos}(hp:Xm (model X.prog X.w) X.A X.env X.xe)(hc:X.calm=true)(hi:PI X tg iter wi)(hg:PG X tg g)(hb:qW X body tb)
  (hs:∀x,Xr iter X.env x=pure x:=by intro _;rfl):PS X (.For tg iter body [] pos) (Pl wi g tb):=by
 intro pins s σ H D I h;refine wpAny_For (cR (hi pins s σ H _ I h) λv s1 h1=>cR h1 λitv s2 h2=>?_) hs;obtain⟨it,fp,tn,J,H2,e,I2,T,st2,f2,W,⟨m0,w0⟩,turn⟩:=h2;subst e;have stat:∀{H':Hp},(∀b∈fp,H' b=am)->∀b∈fp,nD X pins H' b:=λhn b hb=>⟨hn b hb,(f2 b hb).2⟩
 refine codeAny_forLoop_any (λn s'=>∃i σ' H',Inv X pins σ' H' s'/\tn i s'.heap/\(∀b∈fp,H' b=am)/\W i n σ' H') ?_ m0 ⟨0,σ,H2,I2,st2,λb hb=>(f2 b hb).1,w0⟩;rintro n s3 ⟨i,σ3,H3,I3,st3,fr3,w3⟩;rcases turn i n σ3 H3 w3 with⟨stop,qn⟩|⟨go,N,hN,step⟩
 ·refine Xn hp (cR (T.done X rfl rfl rfl hc i pins s3 σ3 H3 X.xe I3 (stat fr3) st3 stop) λr s4 Z=>Z.e λhr I4=>?_);subst hr;exact Xj ⟨σ3,H3,I4,qn⟩
 ·refine Xn hp (cR (T.item X rfl rfl rfl hc i pins s3 σ3 H3 X.xe I3 (stat fr3) st3 go) λr s4 Z=>Z.e λu Z=>Z.e λhr h4=>?_);subst hr;refine Xn hp (cR h4 λ_ s5 Z=>Z.e λx Z=>Z.e λH5 Z=>Z.e λI5 Z=>Z.e λr5 Z=>Z.e λy5 Z=>Z.e λst5 fr5=>?_);have I5':=I5.pinned (stat fr5) (T.obj _ _ st5);refine Xn hp (cR (hg _ s5 σ3 H5 x u _ I5' r5 (step x H5 y5)) λ_ s6 Z=>Z.e λσ6 Z=>Z.e λH6 Z=>Z.e λI6 q6=>?_);refine Xn hp (cR (hb _ s6 σ6 H6 _ I6 q6) λf s7 q7=>?_);have again:∀{σ7:St}{H7:Hp},Inv X (pins++j9 fp s5.heap) σ7 H7 s7->N σ7 H7->∃m,m<n/\∃i σ' H',Inv X pins σ' H' s7/\tn i s7.heap/\(∀b∈fp,H' b=am)/\W i m σ' H':=λ{σ7 H7} I7 n7=>by
   obtain⟨m',hm,w7⟩:=hN σ7 H7 n7;refine⟨m',hm,i+1,σ7,H7,I7.unpinned,T.keep _ _ _ st5 λb hb o e=>(I7.pin (b,o) (Tu _ (Tu _ (gA hb e)))).1,λb hb=>?_,w7⟩;obtain⟨o,e,d⟩:=T.obj _ _ st5 b hb;exact(I7.pin (b,o) (Tu _ (Tu _ (gA hb e)))).2.1
  cases f with
  |next=>obtain⟨σ7,H7,I7,n7⟩:=q7;exact again I7 n7
  |cont=>obtain⟨σ7,H7,I7,n7⟩:=q7;exact again I7 n7
  |brk=>obtain⟨σ7,H7,I7,q7⟩:=q7;exact⟨σ7,H7,I7.unpinned,q7⟩
  |ret v=>obtain⟨x7,σ7,H7,I7,r7,q7⟩:=q7;exact⟨x7,σ7,H7,I7.unpinned,r7,q7⟩
end
abbrev R2:=V->V->Hp->VK->Prop
def ik(X:Cx)(f:WU->WU->Sem WU)(r:R2):Prop:=
 ∀(pins:bg)(s:WZ)(σ:St)(H:Hp)(x y:V)(v u:WU)(Q:VK),Inv X pins σ H s->RelV x v->RelV y u->r x y H Q->
  Xa (model X.prog X.w) X.A (f v u) (EP X pins σ Q) X.xe s
def P5(X:Cx)(f:WU->Sem WU)(r:V->Hp->VK->Prop):Prop:=
 ∀(pins:bg)(s:WZ)(σ:St)(H:Hp)(x:V)(v:WU)(Q:VK),Inv X pins σ H s->RelV x v->r x H Q->
  Xa (model X.prog X.w) X.A (f v) (EP X pins σ Q) X.xe s
def fW(X:Cx)(f:WU)(r:aN->Hp->VK->Prop):Prop:=
 ∀(pins:bg)(s:WZ)(σ:St)(H:Hp)(xs:aN)(us:bA)(Q:VK),Inv X pins σ H s->Vals xs us->r xs H Q->
  Xa (model X.prog X.w) X.A (call f us) (EP X pins σ Q) X.xe s
def Qu(X:Cx)(r:V->Hp->(Bool->Hp->Prop)->Prop):Prop:=
 ∀(pins:bg)(s:WZ)(σ:St)(H:Hp)(x:V)(v:WU)(Q:Bool->Hp->Prop),Inv X pins σ H s->RelV x v->r x H Q->
  Xa (model X.prog X.w) X.A (truthy v) (TP X pins σ Q) X.xe s
def ML(r:R2)(ta tb:TE):TE:=λσ H Q=>ta σ H λx H1=>tb σ H1 λy H2=>r x y H2 Q
def Rq(r:V->Hp->VK->Prop)(ta:TE):TE:=λσ H Q=>ta σ H λx H1=>r x H1 Q
def rI(C:Int->Int->Prop)(g:Int->Int->V):R2:=λx y H Q=>∃i j,x=.int i/\y=.int j/\C i j/\Q (g i j) H
def Iu(g:Int->Int->V):R2:=λx y H Q=>∃i j,x=.int i/\y=.int j/\Q (g i j) H
def rU(g:Int->V):V->Hp->VK->Prop:=λx H Q=>∃i,x=.int i/\Q (g i) H
section
variable{X:Cx}{a b c:WX}{ta tb tc:TE}{pos:Pos}
def KR(ha:PE X a ta)(hb:PE X b tb){pins:bg}{s:WZ}{σ:St}{H:Hp}{R:V->V->Hp->Prop}(I:Inv X pins σ H s)
  (h:ta σ H λx H1=>tb σ H1 λy H2=>R x y H2) {Q:bI} {f:WU->WU->Sem WU}
  (hf:∀v u s2 x y H2,Inv X pins σ H2 s2->RelV x v->RelV y u->R x y H2->Xa (model X.prog X.w) X.A (f v u) Q X.xe s2):
  Xa (model X.prog X.w) X.A (eval a X.env) (λv s₁=>Xa (model X.prog X.w) X.A (eval b X.env) (λu s₂=>Xa (model X.prog X.w) X.A (f v u) Q X.xe s₂) X.xe s₁) X.xe s:=by
 refine cR (ha pins s σ H _ I h) λv s1 Z=>Z.e λx Z=>Z.e λH1 Z=>Z.e λI1 Z=>Z.e λr1 q1=>?_;refine cR (hb pins s1 σ H1 _ I1 q1) λu s2 Z=>Z.e λy Z=>Z.e λH2 Z=>Z.e λI2 Z=>Z.e λr2 q2=>?_;exact hf v u s2 x y H2 I2 r1 r2 q2
def Oi{op:Operator}{r:R2}(ho:ik X (Xs op) r)(ha:PE X a ta)(hb:PE X b tb):PE X (.BinOp a op b pos) (ML r ta tb):=by
 intro pins s σ H Q I h;exact Xt (KR ha hb I h λv u s2 x y H2 I2 rx ry q=>ho pins s2 σ H2 x y v u Q I2 rx ry q)
def MV{op:UnaryOp}{r:V->Hp->VK->Prop}(ho:P5 X (unaryOp op) r)(ha:PE X a ta):PE X (.UnaryOp op a pos) (Rq r ta):=by
 intro pins s σ H Q I h;exact UnaryOp_ (cR (ha pins s σ H _ I h) λv s1 Z=>Z.e λx Z=>Z.e λH1 Z=>Z.e λI1 Z=>Z.e λr1 q1=>ho pins s1 σ H1 x v Q I1 r1 q1)
def O0{f:WU->WU->Sem WU}{C:Int->Int->Prop}{g:Int->Int->Int}
  (rule:∀(i j:Int)(t u:Tok)(s:WZ)(Q:bI)(E:bI),C i j->Q (.int (g i j) s.toks) {s with toks:=s.toks+1}->Xa (model X.prog X.w) X.A (f (.int i t) (.int j u)) Q E s):
  ik X f (rI C λi j=>.int (g i j)):=by
 intro pins s σ H x y v u Q I rx ry h;obtain⟨i,j,rfl,rfl,hc,q⟩:=h;obtain⟨t,rfl⟩:=rx;obtain⟨t',rfl⟩:=ry;exact rule i j t t' s _ _ hc ⟨.int (g i j),H,I.tok _,⟨_,rfl⟩,q⟩
def NR{f:WU->WU->Sem WU}{g:Int->Int->Int}
  (rule:∀(i j:Int)(t u:Tok)(s:WZ)(Q:bI)(E:bI),Q (.int (g i j) s.toks) {s with toks:=s.toks+1}->Xa (model X.prog X.w) X.A (f (.int i t) (.int j u)) Q E s):
  ik X f (Iu λi j=>.int (g i j)):=by
 intro pins s σ H x y v u Q I rx ry h;obtain⟨i,j,rfl,rfl,q⟩:=h;obtain⟨t,rfl⟩:=rx;obtain⟨t',rfl⟩:=ry;exact rule i j t t' s _ _ ⟨.int (g i j),H,I.tok _,⟨_,rfl⟩,q⟩
def M7{f:WU->WU->Sem WU}{g:Int->Int->Bool}
  (rule:∀(i j:Int)(t u:Tok)(s:WZ)(Q:bI)(E:bI),Q (.bool (g i j)) s->Xa (model X.prog X.w) X.A (f (.int i t) (.int j u)) Q E s):
  ik X f (Iu λi j=>.bl (g i j)):=by
 intro pins s σ H x y v u Q I rx ry h;obtain⟨i,j,rfl,rfl,q⟩:=h;obtain⟨t,rfl⟩:=rx;obtain⟨t',rfl⟩:=ry;exact rule i j t t' s _ _ ⟨.bl (g i j),H,I,rfl,q⟩
def NN(i j:Int):Prop:=0<=j/\j<=1000000/\i.natAbs<2^64
def Ml(i j:Int):Prop:=(-(2^64)<i/\i<2^64)\/(-(2^64)<j/\j<2^64)
def Ml.ok{i j:Int}(h:Ml i j):IntMulOk i j:=by
 rcases h with⟨h1,h2⟩|⟨h1,h2⟩
 ·exact .of_left (intBits_le_64 h1 h2)
 ·exact .of_right (intBits_le_64 h1 h2)
def Kh:ik X (Xs .Add) (Iu λi j=>.int (i+j)):=NR λ_ _ _ _ _ _ _ q=>add_int q
def qw:ik X (Xs .Sub) (Iu λi j=>.int (i-j)):=NR λ_ _ _ _ _ _ _ q=>sub_int q
def CY:ik X (Xs .Mult) (rI Ml λi j=>.int (i*j)):=O0 λ_ _ _ _ _ _ _ hc q=>mul_int q hc.ok
def Mp:ik X (Xs .Mod) (rI (λ_ j=>0<j) λi j=>.int (i%j)):=O0 λi j _ _ _ _ _ hc q=>by
 have h1:(0:Int)<j:=hc;exact mod_int' ‹0› (by rw[Int.fmod_eq_emod_of_nonneg i ‹0›];exact q)
def Kz:ik X (Xs .Pow) (rI NN λi j=>.int (i^j.toNat)):=O0 λ_ _ _ _ _ _ _ hc q=>pow_int_small hc.1 hc.2.1 hc.2.2 q
def RM{f:WU->Sem WU}{g:Int->Int}
  (rule:∀(i:Int)(t:Tok)(s:WZ)(Q:bI)(E:bI),Q (.int (g i) s.toks) {s with toks:=s.toks+1}->Xa (model X.prog X.w) X.A (f (.int i t)) Q E s):
  P5 X f (rU λi=>.int (g i)):=by
 intro pins s σ H x v Q I rx h;obtain⟨i,rfl,q⟩:=h;obtain⟨t,rfl⟩:=rx;exact rule i t s _ _ ⟨.int (g i),H,I.tok _,⟨_,rfl⟩,q⟩
def KW:P5 X (unaryOp .USub) (rU λi=>.int (-i)):=RM λ_ _ _ _ _ q=>neg_int q
end
section
variable{X:Cx}{a b c:WX}{ta tb tc:TE}{pos:Pos}
def Fm{pins:bg}{σ:St}{H:Hp}{s:WZ}{Q:VK}{k k':Bool}(I:Inv X pins σ H s)(q:Q (.bl k) H)(e:k=k'):EP X pins σ Q (.bool k') s:=by
 subst e;exact⟨.bl k,H,I,rfl,q⟩
def M0:ik X (Xg .Lt) (Iu λi j=>.bl (decide (i<j))):=M7 λ_ _ _ _ _ _ _ q=>lt_int q
def sf:ik X (Xg .LtE) (Iu λi j=>.bl (decide (i<=j))):=M7 λ_ _ _ _ _ _ _ q=>le_int q
def A5:ik X (Xg .Lt) (λx y H Q=>∃i j,x=.str i/\y=.str j/\Q (.bl (decide (i.cps.toList<j.cps.toList))) H):=by
 intro pins s σ H x y v u Q I rx ry h;obtain⟨i,j,rfl,rfl,q⟩:=h;obtain⟨t,rfl⟩:=rx;obtain⟨t',rfl⟩:=ry;exact lt_str (Fm I q rfl)
def jE(b:WX){op:Xf}(h:op≠.In:=by decide)(h2:op≠.NotIn:=by decide):Xh op b=false:=by
 have e1:(op==CmpOp.In)=false:=by cases op<;>first|rfl|exact bt rfl h
 have e2:(op==CmpOp.NotIn)=false:=by cases op<;>first|rfl|exact bt rfl h2
 cases b<;>simp[Xh,e1,e2]
def yV{op:Xf}{r:R2}(ho:ik X (Xg op) r)(ha:PE X a ta)(hb:PE X b tb)(hm:Xh op b=false):PE X (.Compare a [op] [b] pos) (ML r ta tb):=by
 intro pins s σ H Q I h;exact wpAny_Compare1 (KR ha hb I h λv u s2 x y H2 I2 rx ry q=>ho pins s2 σ H2 x y v u Q I2 rx ry q) hm
def D4(t:TE):TT:=λσ H Q=>t σ H λx H'=>∃k,x=.bl k/\Q k H'
def yU{op:Xf}{r:R2}(ho:ik X (Xg op) r)(ha:PE X a ta)(hb:PE X b tb)(hm:Xh op b=false):PT X (.Compare a [op] [b] pos) (D4 (ML r ta tb)):=by
 intro pins s σ H Q I h;refine wpAny_isTrue_Compare1 (cR (ha pins s σ H _ I h) λv s1 Z=>Z.e λx Z=>Z.e λH1 Z=>Z.e λI1 Z=>Z.e λr1 q1=>cR (hb pins s1 σ H1 _ I1 q1) λu s2 Z=>Z.e λy Z=>Z.e λH2 Z=>Z.e λI2 Z=>Z.e λr2 q2=>
  cR (ho pins s2 σ H2 x y v u _ I2 r1 r2 q2) λc s3 Z=>Z.e λz Z=>Z.e λH3 Z=>Z.e λI3 Z=>Z.e λr3 Z=>Z.e λk Z=>Z.e λe q3=>?_) hm
 subst e;cases r3;exact Xi ⟨H3,I3,q3⟩
def yA(r r':R2)(ta tb tc:TE):TE:=λσ H Q=>ta σ H λx H1=>tb σ H1 λy H2=>r x y H2 λz H3=>∃k,z=.bl k/\
 (if k=true then tc σ H3 λw' H4=>r' y w' H4 Q else Q (.bl false) H3)
def FR{op op':Xf}{r r':R2}(ho:ik X (Xg op) r)(ho':ik X (Xg op') r')(ha:PE X a ta)(hb:PE X b tb)(hc:PE X c tc)
  (hm:lastMarks [op,op'] [b,c]=false:=by with_unfolding_all rfl):PE X (.Compare a [op,op'] [b,c] pos) (yA r r' ta tb tc):=by
 intro pins s σ H Q I h;refine Compare_chain (cR (ha pins s σ H _ I h) λv s1 Z=>Z.e λx Z=>Z.e λH1 Z=>Z.e λI1 Z=>Z.e λr1 q1=>chain_link (cR (hb pins s1 σ H1 _ I1 q1) λu s2 Z=>Z.e λy Z=>Z.e λH2 Z=>Z.e λI2 Z=>Z.e λr2 q2=>
  cR (ho pins s2 σ H2 x y v u _ I2 r1 r2 q2) λd s3 Z=>Z.e λz Z=>Z.e λH3 Z=>Z.e λI3 Z=>Z.e λr3 Z=>Z.e λk Z=>Z.e λe q3=>?_)) hm
 subst e;cases r3;refine Xi ?_;cases k with
 |false=>exact ite_ff ⟨.bl false,H3,I3,rfl,q3⟩
 |true=>exact ite_tt (chain_last (cR (hc pins s3 σ H3 _ I3 q3) λw' s4 Z=>Z.e λz' Z=>Z.e λH4 Z=>Z.e λI4 Z=>Z.e λr4 q4=>ho' pins s4 σ H4 y z' u w' Q I4 r2 r4 q4))
def Do{op op':Xf}{r r':R2}(ho:ik X (Xg op) r)(ho':ik X (Xg op') r')(ha:PE X a ta)(hb:PE X b tb)(hc:PE X c tc)
  (hm:lastMarks [op,op'] [b,c]=false:=by with_unfolding_all rfl):PT X (.Compare a [op,op'] [b,c] pos) (D4 (yA r r' ta tb tc)):=by
 intro pins s σ H Q I h;refine isTrue_chain (cR (ha pins s σ H _ I h) λv s1 Z=>Z.e λx Z=>Z.e λH1 Z=>Z.e λI1 Z=>Z.e λr1 q1=>test_link (cR (hb pins s1 σ H1 _ I1 q1) λu s2 Z=>Z.e λy Z=>Z.e λH2 Z=>Z.e λI2 Z=>Z.e λr2 q2=>
  cR (ho pins s2 σ H2 x y v u _ I2 r1 r2 q2) λd s3 Z=>Z.e λz Z=>Z.e λH3 Z=>Z.e λI3 Z=>Z.e λr3 Z=>Z.e λk Z=>Z.e λe q3=>?_)) hm
 subst e;cases r3;refine Xi ?_;cases k with
 |false=>
  obtain⟨k',e',q'⟩:=q3;cases e';exact ite_ff ⟨H3,I3,q'⟩
 |true=>
  refine ite_tt (test_last (cR (hc pins s3 σ H3 _ I3 q3) λw' s4 Z=>Z.e λz' Z=>Z.e λH4 Z=>Z.e λI4 Z=>Z.e λr4 q4=>cR (ho' pins s4 σ H4 y z' u w' _ I4 r2 r4 q4) λd' s5 Z=>Z.e λz2 Z=>Z.e λH5 Z=>Z.e λI5 Z=>Z.e λr5 Z=>Z.e λk2 Z=>Z.e λe2 q5=>?_));subst e2;cases r5;exact Xi ⟨H5,I5,q5⟩
def N1(K:VC)(x:V)(H:Hp)(k:Bool):Prop:=
 match x with
 |.non=>k=false
 |.bl b=>k=b
 |.int i=>k=(i !=0)
 |.str y=>y.length<=W4/\k=((y.length:Int) !=0)
 |.byt y=>y.size<=W4/\k=((y.size:Int) !=0)
 |.ref p=>(∃xs,km K H p xs/\k=!xs.isEmpty)\/(∃xs,lW K H p xs/\k=!xs.isEmpty)\/∃kvs,H p=ag (.dK kvs)/\k=!kvs.isEmpty
 |_=>False
def yf{κ:Type}{kvs:List (κ×V)}{vs:List (κ×WU)}(r:KV kvs vs):(!vs.isEmpty)=!kvs.isEmpty:=by
 cases r<;>rfl
def qz{xs:aN}{its:bA}(r:Vals xs its):(!its.toArray.isEmpty)=!xs.isEmpty:=by
 cases r<;>simp
def mS:(W4:Nat)<2^63:=by rw[Xu];decide
def K9:Qu X (λx H Q=>∃k,N1 X.K x H k/\Q k H):=by
 intro pins s σ H x v Q I rx h;obtain⟨k,e,q⟩:=h;have hl:=mS;have hs:W4=16777216:=Xu;cases x with
 |non=>
  cases rx;have e':k=false:=e;subst e';exact truthy_none ⟨H,I,q⟩
 |bl b=>
  cases rx;have e':k=b:=e;subst e';exact Xi ⟨H,I,q⟩
 |int i=>
  obtain⟨t,rfl⟩:=rx;have e':k=(i !=0):=e;subst e';exact PySem.P.truthy_int ⟨H,I,q⟩
 |str y=>
  obtain⟨t,rfl⟩:=rx;obtain⟨hy,e'⟩:y.length<=W4/\k=((y.length:Int) !=0):=e;subst e';exact PySem.P.truthy_str ‹0› ⟨H,I.tok _,q⟩
 |byt y=>
  obtain⟨t,rfl⟩:=rx;obtain⟨hy,e'⟩:y.size<=W4/\k=((y.size:Int) !=0):=e;subst e';exact PySem.W.truthy_bytes ‹0› ⟨H,I.tok _,q⟩
 |ref p=>
  cases rx;have e':(∃xs,km X.K H p xs/\k=!xs.isEmpty)\/(∃xs,lW X.K H p xs/\k=!xs.isEmpty)\/∃kvs,H p=ag (.dK kvs)/\k=!kvs.isEmpty:=e;rcases e' with⟨xs,hx,e'⟩|⟨xs,hx,e'⟩|⟨kvs,hx,e'⟩
  ·subst e';obtain⟨its,r,pl,hz⟩:=I.list hx;have hlen:=r.length;exact wpAny_truthy_list pl.isList (by simp only[Tv];omega) ⟨H,I.tok _,by rw[qz r];exact q⟩
  ·subst e';obtain⟨its,r,pl,hz⟩:=I.tuple hx;have hlen:=r.length;exact truthy_tuple pl (by simp only[Tv];omega) ⟨H,I.tok _,by rw[qz r];exact q⟩
  ·subst e';obtain⟨hz,hS,vs,r,m⟩:kvs.length<=W4/\(p==sysModules)=false/\∃vs,KV kvs vs/\s.heap.DictOf (fN X.prog X.w) p vs:=I.hok p _ hx;have hlen:kvs.length=vs.length:=Paired.length r;exact wpAny_truthy_dict hS m ‹0› ⟨H,I.tok _,by rw[yf r];exact q⟩
 |_=>exact(show False from e).elim
def Gi(ha:PE X a ta)(he:∀whole,isTrue a X.env whole=(do let v<-whole;standAt a.pos;holding [v] (truthy v))):
  PT X a (λσ H Q=>ta σ H λx H'=>∃k,N1 X.K x H' k/\Q k H'):=by
 intro pins s σ H Q I h;exact isTrue_plain (cR (ha pins s σ H _ I h) λv s1 Z=>Z.e λx Z=>Z.e λH1 Z=>Z.e λI1 Z=>Z.e λr1 q1=>K9 pins s1 σ H1 x v Q I1 r1 q1) (he _)
def ya:ik X (Xs .Add) (λx y H Q=>∃i j,x=.str i/\y=.str j/\i.length+j.length<=W4/\Q (.str (i++j)) H):=by
 intro pins s σ H x y v u Q I rx ry h;obtain⟨i,j,rfl,rfl,hz,q⟩:=h;obtain⟨t,rfl⟩:=rx;obtain⟨t',rfl⟩:=ry;exact add_str (λt' tk=>⟨.str (i++j),H,I.tok _,⟨_,rfl⟩,q⟩) hz
def vals1{x:V}{us:bA}(r:Vals [x] us):∃u,us=[u]/\RelV x u:=by
 cases r with
 |cons r1 r2=>cases r2;exact⟨_,rfl,r1⟩
def vals2{x y:V}{us:bA}(r:Vals [x,y] us):∃u w',us=[u,w']/\RelV x u/\RelV y w':=by
 cases r with
 |cons r1 r2=>
  cases r2 with
  |cons r3 r4=>cases r4;exact⟨_,_,rfl,r1,r3⟩
def sZ:fW X (.type "str") (λxs H Q=>∃i,xs=[.int i]/\i.natAbs.log2<1920/\Q (.str (toString i)) H):=by
 intro pins s σ H xs us Q I r h;obtain⟨i,rfl,hz,q⟩:=h;obtain⟨u,rfl,t,rfl⟩:=vals1 r;exact PySem.P.str_of_int hz ⟨.str _,H,I.tok _,⟨_,rfl⟩,q⟩
end
structure BA(h:W3)(x dx C:WW)(mA:bN):Prop where
 obj:h.get? x=ag (VA C dx)
 ns:h.Ns1 dx mA
 ne:dx≠x
def AI{h:W3}{dx:WW}{mA:bN}(n:h.Ns1 dx mA):∃od,h.get? dx=ag od/\∀name,VD name od=ag (mA name):=by
 obtain⟨o,es,ep,ho,hd,hk,_,hm⟩:=n;refine⟨o,ho,λname=>?_⟩;have e:=hm name;unfold nsFind findBy at e;rw[<-Array.find?_toList]at e;unfold VD;rw[hd];dsimp only;split
 ·rename_i y q;rw[q]at e;exact dl ag e
 ·rename_i q;rw[q]at e;have a:es.toList.any (·.refKey)=false:=by
   rw[List.any_eq_false];intro y hy;obtain⟨z,t,hkey⟩:=hk y (Array.mem_toList_iff.mp hy);simp[DictEntry.refKey,hkey]
  have a':¬es.toList.any (·.refKey)=true:=by rw[a];exact Tq
  rw[br a'];exact dl ag e
def BA.look{h:W3}{x dx C:WW}{mA:bN}(I:BA h x dx C mA):∃od,PySem.W.InstAt h x (VA C dx) C (ag od)/\∀name,VD name od=ag (mA name):=
 let ⟨od,ho,hl⟩:=AI I.ns
 ⟨od,⟨I.obj,rfl,rfl,ho⟩,hl⟩
section
variable{prog:W1}{w:W0}{A:W7}{E:bI}{s:WZ}{K:VC}{x dx C f:WW}{mA:bN}{name:Str}{v:WU}
def Ip{expr:Bool}{Q:bI}(X:K.In s.heap)(I:BA s.heap x dx C mA)(hg:VE K C name=true)(hh:VF K C=true)
  (ha:VG K (.ref C) name=ag am) (hv:mA name=ag v) (hv':VH v=true) (h:Q v {s with toks:=s.toks+1}):
  Xa (model prog w) A (getAttr (.ref x) name expr) Q E s:=by
 obtain⟨od,J,hl⟩:=I.look;exact PySem.W.get_value X J (VI hg).1 (PySem.W.findObj_own hh ha rfl (by rw[hl,hv])) hv' h
def Ei{pl:Sem Bool}{Q:WU×List WU->ib}(X:K.In s.heap)(I:BA s.heap x dx C mA)(hg:VE K C name=true)
  (hf:VG K (.ref C) name=ag (ag (.ref f))) (ht:VJ K (.ref f)=true) (hv:mA name=am) (h:Q (.ref f,[.ref x]) s):
  Xa (model prog w) A (getMethod (.ref x) name pl) Q E s:=by
 obtain⟨od,J,hl⟩:=I.look;exact PySem.W.method_fn X J (VI hg).1 (VI hg).2 hf (beq_iff_eq.mp ht) (by show(VD name od).map (·.isSome)=ag false;rw[hl,hv];rfl) h
def Gv{ns:af}{Q:Unit->ib}(X:K.In s.heap)(I:BA s.heap x dx C mA)
  (hs:VG K (.ref C) "__setattr__"=ag (ag (.builtin "object.__setattr__"))) (hp:VL K C=true) (ht:VM K C name=ag am) (hh:VF K C=true)
  (hw:PySem.Within mA ns) (hsz:ns.length<=W4)
  (h:∀h',BA h' x dx C (λy=>if y=name then ag v else mA y)->Wo dx s.heap h'->Q () {s with heap:=h',toks:=s.toks+2}):
  Xa (model prog w) A (setAttr (.ref x) name v) Q E s:=by
 obtain⟨od,J,hl⟩:=I.look;refine PySem.W.set_plain X J hs (PySem.W.osa_open (s:={s with toks:=s.toks+1}) (r:=am) X J hp ht λb=>?_);obtain⟨cd,hc,hd'⟩:=VN hh;have hx:s.heap.get? x=ag ⟨.ref C,ag dx,.plain,#[]⟩:=I.obj;refine Xp (Xo (Xp (Xp (wpAny_loadPart hx (Xp (PySem.W.Looks.here (s:={s with toks:=s.toks+1}) (PySem.W.looks_clsIn X hc) ?_))))));rw[hd'];refine Xo (a:=ag dx) (Xp (Xo (Xp ?_)));refine wpAny_nsSet1 (s:={s with toks:=s.toks+1}) I.ns λh' hn2 hs2=>?_;obtain⟨oD,esD,epD,hoD,hdD,hcD⟩:=hn2.count (PySem.Within.cons name v hw);refine Xp (wpAny_lookBehind hoD (by rw[hdD];exact pastItsLine_dict (Tg hcD (by rw[Tw];omega))) ?_);exact Xo (h _ ⟨(hs2.2 _ (Ne.symm I.ne)).trans I.obj,hn2,I.ne⟩ hs2)
def FQ{R:Xv->ib}{vs:bA}{kw:List (Str×WU)}(X:K.In s.heap)(hm:VO K C=true)
  (hi:VG K (.ref C) "__init__"=ag (ag (.ref f))) (hf:VP K (.ref f)=ag (.type "function"))
  (h:Xw (model prog w) (A.under (.builtin "type.__call__" ⟨.ref C::vs,kw⟩)) (.call (.ref f) ⟨.ref (s.heap.objs.size+1)::vs,kw⟩) (VQ (s.heap.objs.size+1) R)
   {s with heap:=(s.heap.push VR).push (VA C s.heap.objs.size)}):
  Xw (model prog w) A (.call (.ref C) ⟨vs,kw⟩) R s:=by
 obtain⟨hh,g,d,t,os⟩:=s;exact VU (VV X hm) (VW X hi) (λself=>PySem.W.bind_fn X self hf) (.inl rfl) h
def BO{R:Xv->ib}(X:K.In s.heap)(hm:VO K C=true)
  (hi:VG K (.ref C) "__init__"=ag (ag (.builtin "object.__init__")))
  (hb:∀self,VX (model prog w) s.heap (bindSpecial (.builtin "object.__init__") self) (.builtin "object.__init__",[self]))
  (h:Xw (model prog w) (A.under (.builtin "type.__call__" ⟨[.ref C],[]⟩)) (.call (.builtin "object.__init__") ⟨[.ref (s.heap.objs.size+1)],[]⟩) (VQ (s.heap.objs.size+1) R)
   {s with heap:=(s.heap.push VR).push (VA C s.heap.objs.size)}):
  Xw (model prog w) A (.call (.ref C) ⟨[],[]⟩) R s:=by
 obtain⟨hh,g,d,t,os⟩:=s;exact VU (VV X hm) (VW X hi) hb (.inr ⟨rfl,rfl⟩) h
end
noncomputable def jb(f:Str)(v:V):List (Str×V)->List (Str×V)
 |[]=>[(f,v)]
 |(g,x)::r=>if g=f then(g,v)::r else(g,x)::jb f v r
theorem nh(f g:Str)(v:V):∀fs:List (Str×V),(jb f v fs).lookup g=if g=f then ag v else fs.lookup g
 |[]=>by
  show List.lookup g [(f,v)]=_;by_cases h:g=f
  ·have hb:(g==f)=true:=beq_iff_eq.mpr h;simp only[List.lookup,hb,ba h]
  ·have hb:(g==f)=false:=beq_eq_false_iff_ne.mpr h;simp only[List.lookup,hb,br h]
 |(k,x)::r=>by
  have ih:=nh f g v r;rw[show jb f v ((k,x)::r)=(if k=f then(k,v)::r else(k,x)::jb f v r)from rfl];by_cases hk:k=f
  ·rw[ba hk];by_cases h:g=k
   ·have hb:(g==k)=true:=beq_iff_eq.mpr h;simp only[List.lookup,hb,ba (h.trans hk)]
   ·have hb:(g==k)=false:=beq_eq_false_iff_ne.mpr h;simp only[List.lookup,hb,br (λe:g=f=>h (e.trans hk.symm))]
  ·rw[br hk];by_cases h:g=k
   ·have hb:(g==k)=true:=beq_iff_eq.mpr h;simp only[List.lookup,hb,br (λe:g=f=>hk (h.symm.trans e))]
   ·have hb:(g==k)=false:=beq_eq_false_iff_ne.mpr h;simp only[List.lookup,hb];exact ih
theorem mr(f:Str)(v:V):∀fs:List (Str×V),f∈(jb f v fs).map (·.1)/\∀g,g∈fs.map (·.1)->g∈(jb f v fs).map (·.1)
 |[]=>⟨by simp[jb],λg h=>by simp at h⟩
 |(k,x)::r=>by
  obtain⟨i1,i2⟩:=mr f v r;rw[show jb f v ((k,x)::r)=(if k=f then(k,v)::r else(k,x)::jb f v r)from rfl];by_cases hk:k=f
  ·rw[ba hk];subst hk;exact⟨by simp,λg h=>by simpa using h⟩
  ·rw[br hk];refine⟨?_,λg h=>?_⟩
   ·rw[Tx];exact Tl _ i1
   ·rw[Tx]at h ⊢;rcases List.mem_cons.mp h with e|e
    ·exact List.mem_cons.mpr (.inl e)
    ·exact Tl _ (i2 g e)
theorem ng(f:Str)(v:V):∀fs:List (Str×V),(jb f v fs).length<=fs.length+1
 |[]=>by simp[jb]
 |(k,x)::r=>by
  have ih:=ng f v r;rw[show jb f v ((k,x)::r)=(if k=f then(k,v)::r else(k,x)::jb f v r)from rfl];by_cases hk:k=f
  ·rw[ba hk,Tw,Tw];omega
  ·rw[br hk,Tw,Tw];omega
def Aq.some_of{v:V}{o:Option WU}(r:Aq (ag v) o):∃u,o=ag u/\RelV v u:=by
 cases o with
 |none=>exact(show False from r).elim
 |some u=>exact⟨u,rfl,r⟩
def Aq.none_of{o:Option WU}(r:Aq am o):o=none:=by
 cases o with
 |none=>rfl
 |some u=>exact(show False from r).elim
def Bw{v:V}{u:WU}(r:RelV v u):VH u=true:=by
 cases v with
 |non=>cases(show u=Value.none from r);rfl
 |bl b=>cases(show u=Value.bool b from r);rfl
 |int i=>obtain⟨t,e⟩:=(show∃t,u=Value.int i t from r);cases e;rfl
 |str x=>obtain⟨t,e⟩:=(show∃t,u=Value.str x t from r);cases e;rfl
 |byt b=>obtain⟨t,e⟩:=(show∃t,u=Value.bytes b t from r);cases e;rfl
 |flt b=>obtain⟨t,e⟩:=(show∃t,u=Value.float b t from r);cases e;rfl
 |ref a=>cases(show u=Value.ref a from r);rfl
 |ty n=>cases(show u=Value.type n from r);rfl
section
variable{P:W1}{w:W0}{H H':Hp}{h h':W3}{a C dx:WW}{fs fs':List (Str×V)}
def oA(hok:qJ P w H h)(e:H a=ag (.ins C dx fs)):∃mA,BA h a dx C mA/\(∀f,Aq (fs.lookup f) (mA f))/\PySem.Within mA (fs.map (·.1))/\fs.length<=1000/\H dx=ag (.own a):=by
 obtain⟨d,z,ne,ob,mA,n,r,q⟩:=(show gv P w H h a (.ins C dx fs)from hok a _ e)
 exact⟨mA,⟨ob,n,ne⟩,r,q,z,d⟩
end
structure iU(K:VC)(C:WW):Prop where
 pg:VE K C Str.empty=true
 hd:VF K C=true
 po:VL K C=true
 sa:VG K (.ref C) "__setattr__"=ag (ag (.builtin "object.__setattr__"))
def iU.get{K:VC}{C:WW}(c:iU K C)(f:Str):VE K C f=true:=c.pg
def dN(K:VC)(C:WW)(f:Str):Prop:=VG K (.ref C) f=ag am
def dN.taker{K:VC}{C:WW}{f:Str}(n:dN K C f):VM K C f=ag none:=by
 unfold VM;rw[show VG K (.ref C) f=ag am from n];rfl
structure Meth(K:VC)(C:WW)(m:Str)(f:WW):Prop where
 at_:VG K (.ref C) m=ag (ag (.ref f))
 fn:VJ K (.ref f)=true
 kp:VY K (.ref f)=true
section
variable{X:Cx}{pins:bg}{σ:St}{H:Hp}{s:WZ}{a C dx:WW}{fs:List (Str×V)}{f:Str}{v:V}{A:W7}{E:bI}
def yy{b:Bool}{Q:bI}(I:Inv X pins σ H s)(e:H a=ag (.ins C dx fs))(c:iU X.K C)(n:dN X.K C f)(l:fs.lookup f=ag v)
  (h:∀u s',Inv X pins σ H s'->RelV v u->Q u s'):Xa (model X.prog X.w) A (getAttr (.ref a) f b) Q E s:=by
 obtain⟨mA,O,r,_,_,_⟩:=oA I.hok e;obtain⟨u,hu,ru⟩:=Aq.some_of (v:=v) (o:=mA f) (by rw[<-l];exact r f);exact Ip I.kIn O (c.get f) c.hd n hu (Bw ru) (h u _ (I.tok _) ru)
def xh{m:Str}{g:WW}{pl:Sem Bool}{Q:WU×List WU->ib}(I:Inv X pins σ H s)(e:H a=ag (.ins C dx fs))(c:iU X.K C)(k:Meth X.K C m g)(l:fs.lookup m=am)
  (h:Q (.ref g,[.ref a]) s):Xa (model X.prog X.w) A (getMethod (.ref a) m pl) Q E s:=by
 obtain⟨mA,O,r,_,_,_⟩:=oA I.hok e;have hn:mA m=none:=Aq.none_of (by rw[<-l];exact r m);exact Ei I.kIn O (c.get m) k.at_ k.fn hn h
def yw{y:V}{u:WU}{Q:Unit->ib}(I:Inv X pins σ H s)(e:H a=ag (.ins C dx fs))(c:iU X.K C)(n:dN X.K C f)(hl:fs.length<1000)(ry:RelV y u)
  (h:∀s',Inv X pins σ (upd H a (.ins C dx (jb f y fs))) s'->Q () s'):Xa (model X.prog X.w) A (setAttr (.ref a) f u) Q E s:=by
 obtain⟨mA,O,r,wi,_,ho⟩:=oA I.hok e;have hz:(fs.map (·.1)).length<=W4:=by rw[Tz,Xu];omega
 refine Gv I.kIn O c.sa c.po n.taker c.hd wi hz λh' O' sb=>h _ ?_;have hd:∃o,h'.get? dx=ag o:=let ⟨o,_,_,e',_⟩:=O'.ns;⟨o,e'⟩
 refine I.write (x:=a) (e:=dx) (by rw[e];exact True.intro) (.inr ho) (λb q hb z=>(sb.2 b hb).trans z) hd ?_;refine⟨by rw[aL O.ne];exact ho,?_,O.ne,O'.obj,_,O'.ns,λg=>?_,λg hg=>?_⟩
 ·have:=ng f y fs;omega
 ·show Aq ((jb f y fs).lookup g) (if g=f then ag u else mA g);rw[nh];by_cases q:g=f
  ·rw[ba q,ba q];exact ry
  ·rw[br q,br q];exact r g
 ·by_cases q:g=f
  ·rw[q];exact(mr f y fs).1
  ·refine(mr f y fs).2 g (wi g λz=>hg ?_);show(if g=f then ag u else mA g)=am;rw[br q];exact z
def Inv.made(I:Inv X pins σ H s):Inv X pins σ (upd (upd H s.heap.objs.size (.own (s.heap.objs.size+1))) (s.heap.objs.size+1) (.ins C s.heap.objs.size []))
  {s with heap:=(s.heap.push VR).push (VA C s.heap.objs.size)}:=by
 have e1:(s.heap.push VR).get? s.heap.objs.size=ag VR:=Wm s.heap rfl;have e2:((s.heap.push VR).push (VA C s.heap.objs.size)).get? (s.heap.objs.size+1)=ag (VA C s.heap.objs.size):=by
  have:=Wm (s.heap.push VR) (o:=VA C s.heap.objs.size) rfl
  rwa [Wq]at this
 have e3:(s.heap.push VR).Ns s.heap.objs.size (λ_=>am):=⟨VR,#[],_,e1,rfl,(λe he=>bt he (by simp)),λ_=>rfl⟩
 have I1:=I.laid (a:=s.heap.objs.size) (o:=.own (s.heap.objs.size+1)) (h':=s.heap.push VR) (t':=s.toks) (λb u q=>Wp _ q) (Tt _) ⟨_,e1⟩;refine I1.laid (a:=s.heap.objs.size+1) (o:=.ins C s.heap.objs.size []) (t':=s.toks) (λb u q=>Wp _ q) (TB (Wq _ _)) ?_;have ne:s.heap.objs.size≠s.heap.objs.size+1:=Tf (TF _);refine⟨by rw[aL ne,bu],TH _,ne,e2,λ_=>am,(Heap.Ns1.of_empty e3).at λo q=>Wp _ q,λ_=>True.intro,λy hy=>bt rfl hy⟩
def Gx{prog:W1}{w:W0}{env:Env}{e:WX}{f:Str}{pos:Pos}{s:WZ}{Q:bI}(hb:Xx e f env (eval e env)=eval e env)
  (h:Xa (model prog w) A (eval e env) (λo s₁=>Xa (model prog w) A (getAttr o f true) Q E s₁) E s):Xa (model prog w) A (eval (.Attribute e f pos) env) Q E s:=
 Attribute_any_ h (by rw[arm_eval_Attribute,hb])
end
def Pk(K:VC)(ta:TE)(f:Str):TE:=λσ H Q=>ta σ H λx H1=>∃a C dx fs v,x=.ref a/\H1 a=ag (.ins C dx fs)/\iU K C/\dN K C f/\fs.lookup f=ag v/\Q v H1
def P8(K:VC)(ta tv:TE)(f:Str):TS:=λD σ H=>tv σ H λy H1=>ta σ H1 λx H2=>∃a C dx fs,x=.ref a/\H2 a=ag (.ins C dx fs)/\iU K C/\dN K C f/\fs.length<1000/\
 D.nx σ (upd H2 a (.ins C dx (jb f y fs)))
section
variable{X:Cx}{o e value:WX}{f:Str}{pos pos' tpos:Pos}{ta tv:TE}
def Ke(he:PE X e ta)(hb:Xx e f X.env (eval e X.env)=eval e X.env):PE X (.Attribute e f pos) (Pk X.K ta f):=by
 intro pins s σ H Q I h;refine Gx hb (cR (he pins s σ H _ I h) λu s1 Z=>Z.e λx Z=>Z.e λH1 Z=>Z.e λI1 Z=>Z.e λrx Z=>Z.e λa Z=>Z.e λC Z=>Z.e λdx Z=>Z.e λfs Z=>Z.e λv Z=>Z.e λex Z=>Z.e λea Z=>Z.e λc Z=>Z.e λn Z=>Z.e λl q=>?_);subst ex;obtain rfl:u=Value.ref a:=rx;exact yy I1 ea c n l λu' s2 I2 ru=>⟨v,H1,I2,ru,q⟩
def Ew(ha:PE X o ta)(hv:PE X value tv)(hs:swapsWith value (ag (.Attribute o f pos')) pos.line X.env=pure false):PS X (.Assign [.Attribute o f pos'] value pos) (P8 X.K ta tv f):=by
 intro pins s σ H D I h;refine plainObj_wpAny_Assign_Attribute (cR (hv pins s σ H _ I h) λu s1 Z=>Z.e λy Z=>Z.e λH1 Z=>Z.e λI1 Z=>Z.e λry q=>cR (ha pins s1 σ H1 _ I1 q) λov s2 h2=>?_) hs;obtain⟨x,H2,I2,rx,a,C,dx,fs,ex,ea,c,n,l,q2⟩:=h2;subst ex;obtain rfl:ov=Value.ref a:=rx;exact yw I2 ea c n l ry λs3 I3=>⟨σ,_,I3,q2⟩
def wA{pl:Sem Bool}{m:Str}{apos:Pos}{args:aS}{pins:bg}{s:WZ}{σ:St}{H:Hp}{Q:bI}{te:TE}(he:PE X e te)(I:Inv X pins σ H s)
  (h:te σ H fun x H1=>∃ a C dx fs g,x=.ref a/\H1 a=ag (.ins C dx fs)/\iU X.K C/\Meth X.K C m g/\fs.lookup m=am /\
   ∀s1,Inv X pins σ H1 s1->Xa (model X.prog X.w) X.A (Xy pos (.ref g) [.ref a] (backTo pos (Xb args X.env)) (backToKw pos (Xz [] X.env))) Q X.xe s1)
  (ht:eval (.Call (.Attribute e m apos) args [] pos) X.env=(do
   let ov<-eval e X.env
   standAt apos.atName
   let (f,first)<-holding [ov] (getMethod ov m pl)
   Xy pos f first (backTo pos (Xb args X.env)) (backToKw pos (Xz [] X.env)))):
  Xa (model X.prog X.w) X.A (eval (.Call (.Attribute e m apos) args [] pos) X.env) Q X.xe s:=by
 refine PySem.W.methodCall_KW (pl:=pl) (cR (he pins s σ H _ I h) λu s1 Z=>Z.e λx Z=>Z.e λH1 Z=>Z.e λI1 Z=>Z.e λrx Z=>Z.e λa Z=>Z.e λC Z=>Z.e λdx Z=>Z.e λfs Z=>Z.e λg Z=>Z.e λex Z=>Z.e λea Z=>Z.e λc Z=>Z.e λk Z=>Z.e λl q=>?_) ht;subst ex;obtain rfl:u=Value.ref a:=rx;exact xh I1 ea c k l (q s1 I1)
end
structure dG(k:Nat)(A:W7):Prop where
 hd:A.handled=am
 dp:A.depth+3*k+5<recursionLimit
 un:A.units+16*k+200<XC
def dG.mono{j k:Nat}{A:W7}(r:dG k A)(h:j<=k):dG j A:=⟨r.hd,by have:=r.dp;omega,by have:=r.un;omega⟩
theorem dG.deeper{k:Nat}{A:W7}(r:dG (k+1) A)(env:Env):dG k (A.deeper env):=
 ⟨r.hd,by have:=r.dp;show A.depth+1+3*k+5<_;omega,by have:=r.un;show A.units+3+16*k+200<_;omega⟩
def yj{A:W7}{C:WW}{us:bA}{kw:List (Str×WU)}:(A.under (.builtin "type.__call__" ⟨.ref C::us,kw⟩)).depth=A.depth+1:=by
 first|rfl|simp[Around.under,Code.weight,Code.isCreation,Code.isGuard,Code.isCaller,Code.frames,Code.isFrame,guardIds]
def yr{A:W7}{C:WW}{us:bA}{kw:List (Str×WU)}:(A.under (.builtin "type.__call__" ⟨.ref C::us,kw⟩)).units=A.units+1:=by
 first|rfl|simp[Around.under,Code.cUnits,Code.frames,Code.isFrame]
def dG.make{k:Nat}{A:W7}(r:dG (k+1) A)(C:WW)(us:bA)(kw:List (Str×WU)):dG k (A.under (.builtin "type.__call__" ⟨.ref C::us,kw⟩)):=
 ⟨r.hd,by have:=r.dp;rw[yj];omega,by have:=r.un;rw[yr];omega⟩
theorem dG.depth{k:Nat}{A:W7}(r:dG k A):A.depth<recursionLimit:=by have:=r.dp;omega
theorem dG.units{k:Nat}{A:W7}(r:dG k A):A.units+64<XC:=by have:=r.un;omega
def Oj:TA:=λ_ H Q=>Q [] H
def Ej(ta:TE)(tr:TA):TA:=λσ H Q=>ta σ H λx H1=>tr σ H1 λxs H2=>Q (x::xs) H2
section
variable{X:Cx}{e:WX}{es:aS}{te:TE}{t:TA}{pos:Pos}
def kn:PA X [] Oj:=λ_ _ _ _ H Q I h=>Calls.spliced_nil ⟨[],H,I,.nil,h⟩
def eE(ha:PE X e te)(hr:PA X es t)(hs:Xb (e::es) X.env=(false,eval e X.env)::Xb es X.env:=by rfl):PA X (e::es) (Ej te t):=by
 intro pos pins s σ H Q I h;rw[hs];show Xa _ _ (spliced ((false,eval e X.env)::backTo pos (Xb es X.env))) _ _ s;refine Calls.spliced_cons (cR (ha pins s σ H _ I h) λu s1 Z=>Z.e λx Z=>Z.e λH1 Z=>Z.e λI1 Z=>Z.e λr1 q1=>?_);exact cR (hr pos pins s1 σ H1 _ I1 q1) λus s2 Z=>Z.e λxs Z=>Z.e λH2 Z=>Z.e λI2 Z=>Z.e λr2 q2=>⟨x::xs,H2,I2,.cons r1 r2,q2⟩
def Pj(t:TA):TE:=λσ H Q=>t σ H λxs H1=>xs.length<=W4/\∀p,H1 p=am->Q (.ref p) (upd H1 p (.tup xs))
def Pg(t:TA):TE:=λσ H Q=>t σ H λxs H1=>xs.length<=W4/\∀p,H1 p=am->Q (.ref p) (upd H1 p (.lst xs))
def KS{x1}(h:PA X es t):PE X (.Tuple es x1 pos) (Pj t):=by
 intro pins s σ H Q I hq;refine wpAny_Tuple_spliced (cR (h pos pins s σ H _ I hq) λus s1 Z=>Z.e λxs Z=>Z.e λH1 Z=>Z.e λI1 Z=>Z.e λr Z=>Z.e λz q=>⟨by rw[<-r.length];exact z,?_⟩);have hf:H1 s1.heap.objs.size=none:=I1.hok.fresh (Tt _);refine⟨.ref s1.heap.objs.size,upd H1 s1.heap.objs.size (.tup xs),I1.laid (t':=s1.toks) (λb u e=>Wp _ e) (Tt _) ?_,rfl,q _ hf⟩;exact⟨z,us,r,⟨_,Wm _ rfl,rfl,_,rfl,rfl⟩⟩
def Et(h:PA X es t):PE X (.List es pos) (Pg t):=by
 intro pins s σ H Q I hq;refine wpAny_List_spliced (cR (h pos pins s σ H _ I hq) λus s1 Z=>Z.e λxs Z=>Z.e λH1 Z=>Z.e λI1 Z=>Z.e λr Z=>Z.e λz q=>⟨by rw[<-r.length];exact z,?_⟩);have hf:H1 s1.heap.objs.size=none:=I1.hok.fresh (Tt _);refine⟨.ref s1.heap.objs.size,upd H1 s1.heap.objs.size (.lst xs),I1.laid (t':=s1.toks) (λb u e=>Wp _ e) (Tt _) ?_,rfl,q _ hf⟩;exact⟨z,us,0,r,Wm _ rfl⟩
end
abbrev Sp:=List V->Hp->VK->XK->Prop
abbrev vL:=List Env->Hp->WZ->XK->bI
structure BF(P:W1)(w:W0)(K:VC)(mg:bN)(base:W3)(A:W7)(outer:List Env)(s:WZ)(H:Hp):Prop where
 frames:A.frames=ag outer
 mod:Mod K mg base
 bs:∀b o,base.get? b=ag o->s.heap.get? b=ag o/\H b=am
 bsz:base.objs.size<=s.heap.objs.size
 funs:s.heap.FunFrames base outer
 frf:∀b∈frs outer,H b=am
 hok:qJ P w H s.heap
 bare:AllBare s.gens
def CE(outer:List Env)(P:W1)(w:W0)(H:Hp)(s:WZ)(Q:VK)(u:WU)(s':WZ):Prop:=
 ∃v H',s'.os=s.os/\AllBare s'.gens/\Un (frs outer) [] H H' s.heap s'.heap/\qJ P w H' s'.heap/\RelV v u/\Q v H'
def CR(CX:vL)(outer:List Env)(P:W1)(w:W0)(H:Hp)(s:WZ)(Q:VK)(E:XK)(r:Xv)(s':WZ):Prop:=
 match r with
 |.ok (.ret u)=>CE outer P w H s Q u s'
 |.ok _=>False
 |.error e=>CX outer H s E e s'
structure fw(P:W1)(w:W0)(K:VC)(mg:bN)(base:W3)(CX:vL)(k:Nat)(f:WW)(fd:XD)(ps:af)(sp:Sp):Prop where
 len:∀vs H Q E,sp vs H Q E->vs.length=ps.length
 run:∀(A:W7)(outer:List Env)(s:WZ)(H:Hp)(args:Args)(us:bA)(vs:aN)(Q:VK)(E:XK),dG k A->BF P w K mg base A outer s H->XF s fd args (ps.zip us)->Vals vs us->sp vs H Q E->
  Xw (model P w) A (.call (.ref f) args) (CR CX outer P w H s Q E) s
theorem fw.mono{P:W1}{w:W0}{K:VC}{mg:bN}{base:W3}{CX:vL}{j k:Nat}{f:WW}{fd:XD}{ps:af}{sp:Sp}(F:fw P w K mg base CX j f fd ps sp)(h:j<=k):
  fw P w K mg base CX k f fd ps sp:=⟨F.len,λA outer s H args us vs Q E hr=>F.run A outer s H args us vs Q E (hr.mono h)⟩
def BF.make{P:W1}{w:W0}{K:VC}{mg:bN}{base:W3}{A:W7}{outer:List Env}{s:WZ}{H:Hp}(e:BF P w K mg base A outer s H)(C:WW)(us:bA)(kw:List (Str×WU)):
  BF P w K mg base (A.under (.builtin "type.__call__" ⟨.ref C::us,kw⟩)) outer s H:=⟨by first|exact e.frames|(simpa [Around.under,Code.envs,Code.isFrame,pushEnvs]using e.frames),e.mod,e.bs,e.bsz,e.funs,e.frf,e.hok,e.bare⟩
section
variable{X:Cx}{pins:bg}{σ:St}{H:Hp}{s s':WZ}
def Inv.env0(I:Inv X pins σ H s):BF X.prog X.w X.K X.mg X.base X.A X.stack s H:=
 ⟨I.ok.frames,I.ok.mod,I.bs,Tg I.ok.bsz I.sz,I.stack,I.stkFree,I.hok,I.bare⟩
def Inv.after{Q:VK}{u:WU}(I:Inv X pins σ H s)(h:CE X.stack X.prog X.w H s Q u s'):EP X pins σ Q u s':=by
 obtain⟨v,H',os,bare,un,hok,r,q⟩:=h;obtain⟨hh,g,d,t,os'⟩:=s';obtain rfl:os'=s.os:=os;exact⟨v,H',I.call (h':=hh) (g':=g) (d':=d) (t':=t) (ch:=[]) un hok bare (λb z=>bt z (by simp)),r,q⟩
end
def Np(C:WW)(sp:Sp)(dvs:aN)(E:XK)(t:TA):TE:=λσ H Q=>t σ H λvs H1=>∀x dx,H1 x=am->H1 dx=am->dx≠x->
 sp (.ref x::(vs++dvs)) (upd (upd H1 dx (.own x)) x (.ins C dx [])) (λv H2=>v=.non/\Q (.ref x) H2) E
def Binds(K:VC)(fd:XD)(ps:af)(ds:bA):Prop:=
 ∀(s:WZ)(us:bA),K.In s.heap->(us++ds).length=ps.length->XF s fd ⟨us,[]⟩ (ps.zip (us++ds))
def Binds.all{K:VC}{fd:XD}{ps:af}(h:∀us:bA,us.length=ps.length->bindArgs fd ⟨us,[]⟩=pure (ps.zip us)):Binds K fd ps []:=λs us _ hl=>by
 rw[TJ]at hl ⊢;exact .of_eq (h us hl)
def xO(CX:vL)(X:Cx)(E:XK):Prop:=∀(pins:bg)(σ:St)(H:Hp)(s:WZ)(e:WU)(s':WZ),Inv X pins σ H s->CX X.stack H s E e s'->X.xe e s'
section
variable{X:Cx}{CX:vL}{k:Nat}{f C:WW}{fd:XD}{ps:af}{sp:Sp}{dvs:aN}{ds:bA}{E:XK}{x m:Str}{p pos apos:Pos}{e o:WX}{es:aS}{ta:TE}{t:TA}
structure Mk(K:VC)(C f:WW):Prop where
 makes:VO K C=true
 init:VG K (.ref C) "__init__"=ag (ag (.ref f))
 fn:VJ K (.ref f)=true
 kp:VY K (.ref C)=true
def EV{pins:bg}{σ:St}{H:Hp}{s:WZ}{Q:VK}{us:bA}{vs:aN}(M:Mk X.K C f)(F:fw X.prog X.w X.K X.mg X.base CX k f fd ps sp)(hr:dG (k+1) X.A)(hb:Binds X.K fd ps ds)(hd:Vals dvs ds)
  (hx:xO CX X E) (I:Inv X pins σ H s) (r:Vals vs us)
  (h:∀x dx,H x=am->H dx=am->dx≠x->sp (.ref x::(vs++dvs)) (upd (upd H dx (.own x)) x (.ins C dx [])) (λv H2=>v=.non/\Q (.ref x) H2) E):
  Xa (model X.prog X.w) X.A (call (.ref C) us) (EP X pins σ Q) X.xe s:=by
 have hq:=h (s.heap.objs.size+1) s.heap.objs.size (I.hok.fresh (TK _)) (I.hok.fresh (Tt _)) (Tf (TF _));have I2:=Inv.made (C:=C) I;have r2:Vals (V.ref (s.heap.objs.size+1)::(vs++dvs)) (Value.ref (s.heap.objs.size+1)::(us++ds)):=.cons rfl (r.append hd);have hl:(Value.ref (s.heap.objs.size+1)::us++ds).length=ps.length:=by
  have e:=r2.length;rw[F.len _ _ _ _ hq]at e;exact e.symm
 refine XH (FQ (f:=f) I.kIn M.makes M.init (beq_iff_eq.mp M.fn) (XJ (F.run _ X.stack _ _ ⟨Value.ref (s.heap.objs.size+1)::us,[]⟩ (Value.ref (s.heap.objs.size+1)::(us++ds)) _ _ E (hr.make C us [])
  (I2.env0.make C us []) (hb _ (Value.ref (s.heap.objs.size+1)::us) I2.kIn hl) r2 hq) λr s' hq'=>?_))
 cases r with
 |error e=>exact hx pins σ _ _ e s' I2 hq'
 |ok fl=>
  cases fl with
  |ret u=>
   obtain⟨v,H',I3,rv,ev,q3⟩:=I2.after hq';subst ev;exact⟨rv,⟨V.ref (s.heap.objs.size+1),H',I3,rfl,q3⟩⟩
  |next=>exact False.elim hq'
  |brk=>exact False.elim hq'
  |cont=>exact False.elim hq'
def yI(M:Mk X.K C f)(F:fw X.prog X.w X.K X.mg X.base CX k f fd ps sp)(hr:dG (k+1) X.A)(hg:Gl X x)(hm:X.mg x=ag (.ref C))(hb:Binds X.K fd ps ds)(hd:Vals dvs ds)(hx:xO CX X E)
  (ha:PA X (e::es) t) (hdb:(x==("__debug__":Str))=false:=by decide) (he:Xb (e::es) X.env=(false,eval e X.env)::Xb es X.env:=by rfl) (hpl:(backTo pos (Xb es X.env)).any (·.1)=false:=by rfl):
  PE X (.Call (.Name x p) (e::es) [] pos) (Np C sp dvs E t):=by
 intro pins s σ H Q I h;refine XQ (gf I hg hm ?_ hdb);refine VZ (h₀:=X.base) I.ok.mod.kin M.kp (cR (ha pos pins s σ H _ I h) λus s1 Z=>Z.e λvs Z=>Z.e λH1 Z=>Z.e λI1 Z=>Z.e λr q=>⟨I1.kIn,?_⟩) he hpl;exact EV M F hr hb hd hx I1 r q
end
structure bp(N P:af)(sc:W8):Prop where
 kind:sc.kind=.function
 co:sc.isCoroutine=false
 gen:sc.isGenerator=false
 nd:N.Nodup
 pre:N.take P.length=P
 par:∀x∈P,sc.names.lookup x=ag .local\/sc.names.lookup x=ag .cell
 nofree:∀y∈sc.names,y.2≠.free
theorem rX{kindOf:Str->Option WV}{x:Str}:∀{binds:List (Str×WU)}{m:bN},(∀v,(x,v)∉binds)->bindL kindOf binds m x=m x
 |[],_,_=>rfl
 |(n,v)::r,m,h=>by
  unfold bindL;rw[rX λw hw=>h w (Tl _ hw)];split
  ·have:x≠n:=(by rintro rfl;exact h v Tj);simp[this]
  ·rfl
theorem rM{kindOf:Str->Option WV}{x:Str}:∀{binds:List (Str×WU)}{m:bN},(∀v,(x,v)∉binds)->bindC kindOf binds m x=m x
 |[],_,_=>rfl
 |(n,v)::r,m,h=>by
  unfold bindC;rw[rM λw hw=>h w (Tl _ hw)];split
  ·rfl
  ·have:x≠n:=(by rintro rfl;exact h v Tj);simp[this]
theorem rP{kindOf:Str->Option WV}{x:Str}{v:WU}:∀{P:af}{vs:bA}{i:Nat}{m:bN},P.Nodup->P[i]?=ag x->vs[i]?=ag v->kindOf x=ag .local->
  bindL kindOf (P.zip vs) m x=ag v
 |[],_,_,_,_,h,_,_=>by simp at h
 |_::_,[],_,_,_,_,h,_=>by simp at h
 |p::P,w::vs,0,m,nd,h1,h2,hk=>by
  simp at h1 h2;subst h1;subst h2;show bindL kindOf ((p,w)::P.zip vs) m p=_;unfold bindL;rw[rX λv hv=>(List.nodup_cons.mp nd).1 (TL hv).1,ba hk];simp
 |p::P,w::vs,i+1,m,nd,h1,h2,hk=>by
  show bindL kindOf ((p,w)::P.zip vs) m x=_;unfold bindL;exact rP (i:=i) (List.nodup_cons.mp nd).2 (by simpa using h1) (by simpa using h2) hk
theorem rB{kindOf:Str->Option WV}{x:Str}{v:WU}:∀{P:af}{vs:bA}{i:Nat}{m:bN},P.Nodup->P[i]?=ag x->vs[i]?=ag v->kindOf x≠ag .local->
  bindC kindOf (P.zip vs) m x=ag v
 |[],_,_,_,_,h,_,_=>by simp at h
 |_::_,[],_,_,_,_,h,_=>by simp at h
 |p::P,w::vs,0,m,nd,h1,h2,hk=>by
  simp at h1 h2;subst h1;subst h2;show bindC kindOf ((p,w)::P.zip vs) m p=_;unfold bindC;rw[rM λv hv=>(List.nodup_cons.mp nd).1 (TL hv).1,br hk];simp
 |p::P,w::vs,i+1,m,nd,h1,h2,hk=>by
  show bindC kindOf ((p,w)::P.zip vs) m x=_;unfold bindC;exact rB (i:=i) (List.nodup_cons.mp nd).2 (by simpa using h1) (by simpa using h2) hk
def start(N:af)(vs:aN):St:=vs.map ag++List.replicate (N.length-vs.length) am
noncomputable def ef(CX:vL)(P:W1)(w:W0)(K:VC)(mg:bN)(base:W3)(N:af)(qual:Str)(scope:W8)(f:WW)(cd:WU)(A:W7)(outer:List Env)(s:WZ)(H:Hp)(E:XK):Cx where
 prog:=P
 w:=w
 K:=K
 mg:=mg
 base:=base
 A:=A.deeper (envOfC qual scope s.heap.objs.size f cd)
 N:=N
 s₀:=s
 H₀:=H
 env:=envOfC qual scope s.heap.objs.size f cd
 outer:=outer
 stack:=envOfC qual scope s.heap.objs.size f cd::outer
 ex:=[]
 calm:=true
 fn:=λ_=>true
 pn:=[]
 xe:=λe s'=>Xa (model P w) (A.deeper (envOfC qual scope s.heap.objs.size f cd)) (leaving (envOfC qual scope s.heap.objs.size f cd) e) (λ_ s''=>CX outer H s E e s'') (λe' s''=>CX outer H s E e' s'') s'
def vC{sc:W8}{n:Nat}{x:Str}(h:sc.names.lookup x=ag .cell):∃c,(cellsFrom n sc.names []).lookup x=ag c:=by
 have q:=V0 sc.names n [] (.inl h);exact Option.isSome_iff_exists.mp q
def rG{CX:vL}{P:W1}{w:W0}{K:VC}{mg:bN}{base:W3}{N ps:af}{qual:Str}{scope:W8}{f:WW}{cd:WU}{A:W7}{outer:List Env}{s s1:WZ}{H:Hp}{E:XK}{us:bA}{vs:aN}
  (S:bp N ps scope) (hd:A.handled=am) (e0:BF P w K mg base A outer s H) (hl:vs.length=ps.length) (r:Vals vs us)
  (x:InCallC s s.heap.objs.size (bindL (envOfC qual scope s.heap.objs.size f cd).kindOf (ps.zip us) λ_=>am) (cellsFrom (s.heap.objs.size+1) scope.names []) (bindC (envOfC qual scope s.heap.objs.size f cd).kindOf (ps.zip us) λ_=>am) s1):
  Inv (ef CX P w K mg base N qual scope f cd A outer s H E) [] (start N vs) H s1:=by
 have hpl:ps.length<=N.length:=by have:=dl List.length S.pre;rw[TN]at this;omega
 obtain⟨h1,tk,rfl,hk⟩:=x.done;have noA:∀b:WW,b∉(ef CX P w K mg base N qual scope f cd A outer s H E).ex:=λb z=>bt (show b∈([]:aD)from z) (by simp);refine⟨⟨e0.mod,S.kind,rfl,rfl,Tt _,λy z c h1 h2=>?_,λy hy=>?_,λy c _ h=>?_,λ_=>hd,Around.frames_deeper e0.frames,.inr ⟨rfl,rfl⟩,λb z=>bt z (noA b),e0.bs,e0.bsz,λb _ _=>noA b,λb z=>bt z (noA b),e0.funs,e0.frf⟩,
  rfl,e0.bare,Un.kept hk,⟨_,x.toInCall.ns,λi y v h1 h2 h3=>?_⟩,λy c h=>⟨_,x.cell y c h⟩,e0.hok.fresh (Tt _),λy c h=>?_,λp hp=>bt (show p∈([]:bg)from hp) (by simp),e0.hok.kept hk,?_⟩
 ·exact name_of_addr x.apart (PySem.mem_of_lookup h1) (PySem.mem_of_lookup h2)
 ·have hy:scope.names.lookup y=ag .cell\/scope.names.lookup y=ag .free:=hy;rcases hy with hy|hy
  ·exact vC hy
  ·exact bt rfl (S.nofree _ (PySem.mem_of_lookup hy))
 ·exact Th (x.above y c (PySem.mem_of_lookup h))
 ·have hi:i<vs.length:=by
   unfold start at h2;by_cases hi:i<vs.length
   ·exact hi
   ·rw[TQ (by simpa using hi)]at h2;rw[TR]at h2;split at h2<;>cases h2
  have ha:vs[i]?=ag v:=by
   unfold start at h2;rw[TU (by simpa using hi),TV]at h2;cases e:vs[i]? with
   |none=>rw[e]at h2;cases h2
   |some a=>rw[e]at h2;cases h2;rfl
  obtain⟨u,hu,rv⟩:=r.get ha;have hp:ps[i]?=ag y:=by
   rw[<-S.pre,List.getElem?_take_of_lt ‹0›];exact h1
  have ndP:ps.Nodup:=by rw[<-S.pre];exact S.nd.sublist (TY _ _)
  refine⟨u,rv,?_⟩;rcases S.par y (TZ hp)with k|k
  ·exact .inl ⟨k,rP ndP hp hu k⟩
  ·obtain⟨c,e⟩:=vC (n:=s.heap.objs.size+1) k;refine .inr ⟨.inl k,c,e,?_⟩;have q:=x.cell y c e;rw[rB ndP hp hu (by show scope.names.lookup y≠_;rw[k];decide)]at q;exact q
 ·exact e0.hok.fresh (Th (x.above y c (PySem.mem_of_lookup h)))
 ·unfold start;show _=N.length;rw[T1,Tz,List.length_replicate];omega
def J6{CX:vL}{P:W1}{w:W0}{K:VC}{mg:bN}{base:W3}{k:Nat}{f:WW}{name qual:Str}{params:Arguments}{body:cU}{scope:W8}{dV kV doc pm cdv ct oc:WU}{an od:Option WW}
  {osl:Array (Option WU)} {N ps:af} {sp:Sp} (lk:K.lookup f=ag ⟨oc,od,.func (V1 name qual params body scope dV kV doc pm an cdv ct),osl⟩) (hcd:V2 K cdv qual=true) (S:bp N ps scope)
  (len:∀vs H Q E,sp vs H Q E->vs.length=ps.length)
  (hbody:∀ (A:W7) (outer:List Env) (s:WZ) (H:Hp) (vs:aN) (Q:VK) (E:XK),dG k (A.deeper (envOfC qual scope s.heap.objs.size f cdv))->sp vs H Q E ->
   ∃t,qW (ef CX P w K mg base N qual scope f cdv A outer s H E) body t/\t {nx:=λ_ H'=>Q .non H',rt:=Q} (start N vs) H):
  fw P w K mg base CX (k+1) f (V1 name qual params body scope dV kV doc pm an cdv ct) ps sp:=by
 refine⟨len,λA outer s H args us vs Q E hr e0 hb r hsp=>?_⟩;have hl:=len _ _ _ _ hsp;have KX:K.In s.heap:=e0.mod.kin.keeps λb o e=>(e0.bs b o e).1;have lim:s.heap.NoLimit:=e0.mod.nolimit.keeps λb o e=>(e0.bs b o e).1;have hkind:∀y∈ps.zip us,scope.names.lookup y.1=ag .local\/(scope.names.lookup y.1=ag .cell/\((cellsFrom (s.heap.objs.size+1) scope.names []).lookup y.1).isSome=true):=λ⟨n,v⟩ hy=>by
  rcases S.par n (TL hy).1 with q|q
  ·exact .inl q
  ·exact .inr ⟨q,V0 _ _ _ (.inl q)⟩
 refine codeAny_call_function hr.depth (KX _ _ lk) rfl S.co S.gen rfl (V3 KX hcd) (hb _ _ _ _ ?_);refine XR S.kind hkind λenv he s1 x=>?_;subst he;refine⟨lim.keeps x.toInCall.keep,codeAny_func ?_⟩;obtain⟨t,ht,hq⟩:=hbody A outer s H vs Q E (hr.deeper _) hsp;have I:Inv (ef CX P w K mg base N qual scope f cdv A outer s H E) [] (start N vs) H s1:=rG S hr.hd e0 hl r x;refine Xc (ht [] s1 (start N vs) H _ I hq) (λfl s' hs=>?_) λe s' hs=>hs;have fin:∀{σ':St}{H':Hp}{v:V}{u:WU},Inv (ef CX P w K mg base N qual scope f cdv A outer s H E) [] σ' H' s'->RelV v u->Q v H'->CE outer P w H s Q u s':=
  λ{σ' H' v u} J rv q=>⟨v,H',J.os,J.bare,J.base,J.hok,rv,q⟩
 cases fl with
 |ret u=>
  obtain⟨v,σ',H',J,rv,q⟩:=hs;exact fin J rv q
 |next=>
  obtain⟨σ',H',J,q⟩:=hs;exact fin (v:=V.non) (u:=Value.none) J rfl q
 |brk=>
  obtain⟨_,_,_,q⟩:=hs;exact False.elim q
 |cont=>
  obtain⟨_,_,_,q⟩:=hs;exact False.elim q
section
variable{X:Cx}{x:Str}{p pos:Pos}{e:WX}{es:aS}{t:TA}{id T:String}{r:aN->Hp->VK->Prop}
def O8(r:aN->Hp->VK->Prop)(t:TA):TE:=λσ H Q=>t σ H λvs H1=>r vs H1 Q
def jo(hc:fW X (.builtin id) r)(hg:Gl X x)(hm:X.mg x=am)(hv:W6 x=ag (.builtin id))(ha:PA X (e::es) t)(hn:x≠"__name__":=by decide)(hdb:(x==("__debug__":Str))=false:=by decide)
  (he:Xb (e::es) X.env=(false,eval e X.env)::Xb es X.env:=by rfl) (hpl:(backTo pos (Xb es X.env)).any (·.1)=false:=by rfl):PE X (.Call (.Name x p) (e::es) [] pos) (O8 r t):=by
 intro pins s σ H Q I h;refine XQ (kq I hg hm hv ?_ hn hdb);exact PyProof.Rows.callWith_builtin1 (cR (ha pos pins s σ H _ I h) λus s1 Z=>Z.e λvs Z=>Z.e λH1 Z=>Z.e λI1 Z=>Z.e λr1 q1=>hc pins s1 σ H1 vs us Q I1 r1 q1) he hpl
def AF(hc:fW X (.type T) r)(hg:Gl X x)(hm:X.mg x=am)(hv:W6 x=ag (.type T))(ha:PA X (e::es) t)(hn:x≠"__name__":=by decide)(hdb:(x==("__debug__":Str))=false:=by decide)
  (he:Xb (e::es) X.env=(false,eval e X.env)::Xb es X.env:=by rfl) (hpl:(backTo pos (Xb es X.env)).any (·.1)=false:=by rfl):PE X (.Call (.Name x p) (e::es) [] pos) (O8 r t):=by
 intro pins s σ H Q I h;refine XQ (kq I hg hm hv ?_ hn hdb);exact Wv (cR (ha pos pins s σ H _ I h) λus s1 Z=>Z.e λvs Z=>Z.e λH1 Z=>Z.e λI1 Z=>Z.e λr1 q1=>hc pins s1 σ H1 vs us Q I1 r1 q1) he hpl
end
end L2
open L2
namespace HT
open PyProof.Rows
def Nm(A:W7)(s:WZ)(a:Int)(t:Tok)(c:Int)(u:Tok)(prog:W1)(w:W0)(E:WU->WZ->Prop)(Q:WU->WZ->Prop)(h:Q (.bool (decide (a<c))) s):
  Xa (model prog w) A (richCompare .Lt (.int a t) (.int c u)) Q E s:=
 (PyProof.Rows.lt_int h:Xa (model prog w) A (Xg .Lt (.int a t) (.int c u)) Q E s)
section
open PySem.SeqAt
open PySem.AutoSeq1 (wpAny_loadPart')
open PySem.MeetsSeq PySem.MeetsSeq2 PySem.MeetsSeq3
end
section
variable{prog:W1}{w:W0}{A:W7}{E:WU->WZ->Prop}{s:WZ}
def Ou{t b:WW}{vs ws:List WU}{Q:WU->WZ->Prop}(ht:IsTup s.heap t vs.toArray)(hb:IsTup s.heap b ws.toArray)(hv:vs≠[])
  (h1:ws=[]->Q (.ref t) s) (h2:ws≠[]->Q (.ref s.heap.objs.size) {s with heap:=s.heap.push {cls:=.type "tuple",data:=.seq (vs++ws).toArray}})
  (hsz:vs.length+ws.length<=W4):Xa (model prog w) A (Xs .Add (.ref t) (.ref b)) Q E s:=by
 obtain⟨⟨cls,dd,data,sl⟩,ho,hc,n,hd⟩:=id ht;obtain⟨⟨cls2,dd2,data2,sl2⟩,ho2,hc2,n2,hd2⟩:=id hb;simp only at hc hd hc2 hd2;subst hc hd hc2 hd2;have e:vs.toArray++ws.toArray=(vs++ws).toArray:=by simp
 by_cases hw:ws=[]
 ·exact XU ⟨_,ho,rfl⟩ ⟨_,ho2,rfl⟩ XX XY WG WH (WK _ _)
   (tuple_addW1 t b vs.toArray ws.toArray n n2 dd dd2 sl sl2 (by simpa using hv) (by simp[hw])) ⟨ho,ho2,h1 hw⟩
 ·refine XU ⟨_,ho,rfl⟩ ⟨_,ho2,rfl⟩ XX XY WG WH (WK _ _)
   (tuple_addW2 t b vs.toArray ws.toArray n n2 dd dd2 sl sl2 (by simpa using hv) (by simpa using hw) (by rw[Tv,Tv];exact hsz)) ⟨ho,ho2,?_⟩
  rw[e];exact h2 hw
noncomputable def sIx(n d:Nat):Option Int->Nat
 |none=>d
 |some v=>if v<0 then(v+(n:Int)).toNat else min v.toNat n
theorem NP(n d:Nat):sIx n d am=d:=rfl
def OW(n d k:Nat):sIx n d (ag (k:Int))=min k n:=by
 show(if(k:Int)<0 then((k:Int)+(n:Int)).toNat else min (k:Int).toNat n)=min k n;rw[br ‹0›,T4]
def Ls(n d:Nat)(hd:d<=n)(o:Option Int):sIx n d o<=n:=by
 cases o with
 |none=>exact hd
 |some v=>
  show(if v<0 then(v+(n:Int)).toNat else min v.toNat n)<=n;by_cases hv:v<0
  ·rw[ba hv];omega
  ·rw[br hv];exact Nat.min_le_right _ _
def yZ(v:Int)(n d:Nat):(if v<0 then max (v+(n:Int)) 0 else min v (n:Int))=((sIx n d (ag v):Nat):Int):=by
 show(if v<0 then max (v+(n:Int)) 0 else min v (n:Int))=(((if v<0 then(v+(n:Int)).toNat else min v.toNat n):Nat):Int)
 by_cases hv:v<0
 ·simp only[ba hv];omega
 ·simp only[br hv];omega
def xn(lo hi:Option Int)(n:Nat):Builtin.Slice.sliceAdjust lo hi 1 (n:Int)=(((sIx n 0 lo:Nat):Int),((sIx n n hi:Nat):Int)):=by
 have h1:¬((1:Int)<0):=by omega
 unfold Builtin.Slice.sliceAdjust;simp only[h1,if_false];refine Prod.ext ?_ ?_
 ·cases lo with
  |none=>rfl
  |some v=>exact yZ v n 0
 ·cases hi with
  |none=>rfl
  |some v=>exact yZ v n n
def yG(i j:Nat):Builtin.Slice.slicePlaces (i:Int) (j:Int) 1=j-i:=by
 unfold Builtin.Slice.slicePlaces;have h1:(1:Int)>0:=by omega
 simp only[h1,if_true,Int.ediv_one];split<;>omega
def pD{v:WU}{o:Option Int}{Q:Option Int->WZ->Prop}(p:XZ v o)(h:Q o s):Xa (model prog w) A (Builtin.Slice.slicePartIndex v) Q E s:=by
 cases p with
 |none=>exact slicePart_none h
 |int i t=>exact slicePart_int h
def mE{sl:WW}{vl vu:WU}{lo hi:Option Int}{n:Nat}{Q:Int×Int×Nat->WZ->Prop}(hs:s.heap.IsSliceOf sl vl vu .none)(pl:XZ vl lo)(pu:XZ vu hi)
  (h:Q (((sIx n 0 lo:Nat):Int),1,sIx n n hi-sIx n 0 lo) s):Xa (model prog w) A (Builtin.Slice.sliceApplied (.ref sl) (pure (n:Int))) Q E s:=by
 obtain⟨os,hos,hcs,hds⟩:=id hs;unfold Builtin.Slice.sliceApplied Builtin.Slice.sliceFields;refine Xp (Xp (X0 hos hds (x:=vl) rfl (Xp (X0 hos hds (x:=vu) rfl (Xp (X0 hos hds (x:=.none) rfl (Xo ?_)))))));refine Xp (slicePart_none ?_);show Xa _ _ (if((1:Int)==0)=true then _ else _) _ _ s;rw[br (by decide)];refine Xp (pD pl (Xp (pD pu (Xp (Xo ?_)))));show Xa _ _ (match Builtin.Slice.sliceAdjust lo hi 1 (n:Int)with|(lo,hi)=>pure (lo,(1:Int),Builtin.Slice.slicePlaces lo hi 1)) _ _ s;rw[xn lo hi n];show Xa _ _ (pure (((sIx n 0 lo:Nat):Int),(1:Int),Builtin.Slice.slicePlaces ((sIx n 0 lo:Nat):Int) ((sIx n n hi:Nat):Int) 1)) _ _ s;rw[yG];exact Xo h
def FC(xs:Array WU)(i k:Nat):((List.range k).filterMap λ(m:Nat)=>xs[((i:Int)+(m:Int)*1).toNat]?).toArray=((xs.toList.drop i).take k).toArray:=by
 have e:(λ(m:Nat)=>xs[((i:Int)+(m:Int)*1).toNat]?)=λm=>xs[i+m]?:=by
  funext m
  have:((i:Int)+(m:Int)*1).toNat=i+m:=by omega
  rw[this]
 rw[e]
 have:=pick_run xs i k
 rw[List.filterMap_map]at this;have e2:((λx=>xs[x]?)∘λx=>i+x)=λm=>xs[i+m]?:=rfl;rw[e2]at this;rw[this]
def Ae{t sl:WW}{items:Array WU}{vl vu:WU}{lo hi:Option Int}{Q:WU->WZ->Prop}(ht:IsTup s.heap t items)(hs:s.heap.IsSliceOf sl vl vu .none)(pl:XZ vl lo)(pu:XZ vu hi)
  (hw:¬(sIx items.size 0 lo=0/\sIx items.size items.size hi=items.size))
  (h:Q (.ref s.heap.objs.size) {s with heap:=s.heap.push {cls:=.type "tuple",data:=.seq ((items.toList.drop (sIx items.size 0 lo)).take (sIx items.size items.size hi-sIx items.size 0 lo)).toArray}})
  (hsz:items.size<=W4):Xa (model prog w) A (getItem (.ref t) (.ref sl)) Q E s:=by
 have htake:sizeOk (.seq ((items.toList.drop (sIx items.size 0 lo)).take (sIx items.size items.size hi-sIx items.size 0 lo)).toArray):=by
  show((items.toList.drop (sIx items.size 0 lo)).take (sIx items.size items.size hi-sIx items.size 0 lo)).toArray.size<=W4;rw[Tv,TN,T5,Array.length_toList];omega
 have hj:sIx items.size items.size hi<=items.size:=Ls _ _ (Tt _) hi;obtain⟨os,hos,hcs,hds⟩:=id hs;have hTs:s.TypeIs (.ref sl) "slice":=⟨os,hos,hcs⟩
 unfold getItem
 try with_reducible refine X1 ?_
 first|refine Xp (Xo ?_)|skip
 refine Xp (wpAny_sequenceKey ht.typeIs (by decide) ?_);refine Xp (X2 (name:=Str.ofString "__getitem__") ht.typeIs Ww
  (X3 Ww ht.typeIs entry_tuple_getitem ?_ (args_tuple_getitem _ _)))
 show Xa _ _ (Builtin.Tuple.tupleItemsOf (.ref t) >>= _) _ _ s;refine Xp (tupleItemsOf_ ht ?_);refine Xp (X4 hTs ?_);rw[ba (by decide)];refine Xp (mE hs pl pu ?_);have hno:¬((((sIx items.size 0 lo:Nat):Int)==0&&(1:Int)==1&&(sIx items.size items.size hi-sIx items.size 0 lo)==items.size)=true):=by
  intro q;rw[T6,T6]at q;have q1:((sIx items.size 0 lo:Nat):Int)=0:=eq_of_beq q.1.1;have q2:sIx items.size items.size hi-sIx items.size 0 lo=items.size:=eq_of_beq q.2;exact hw ⟨by omega,by omega⟩
 show Xa _ _ (if(((sIx items.size 0 lo:Nat):Int)==0&&(1:Int)==1&&(sIx items.size items.size hi-sIx items.size 0 lo)==items.size)=true then _ else _) _ _ s;rw[br hno,FC]
 first
  |exact Xp (m:=Builtin.Tuple.tupleExact _) (X5 (Xo ⟨_,rfl,Xo h⟩) htake)
  |exact Xp (m:=Builtin.Tuple.tupleExact _) (X5 (Xp (Xo (Xo ⟨_,rfl,Xo h⟩))) htake)
  |exact Xp (Xp (m:=Builtin.Tuple.tupleExact _) (X5 (Xo (Xo ⟨_,rfl,Xo h⟩)) htake))
  |exact Xp (Xp (m:=Builtin.Tuple.tupleExact _) (X5 (Xo ⟨_,rfl,Xo h⟩) htake))
end
end HT
namespace L2
open PyProof.Rows
abbrev TO:=St->Hp->(dH->Hp->Prop)->Prop
def PO(X:Cx)(e:Option WX)(t:TO):Prop:=
 ∀(pins:bg)(s:WZ)(σ:St)(H:Hp)(Q:dH->Hp->Prop),Inv X pins σ H s->t σ H Q->
  Xa (model X.prog X.w) X.A (evalPart e X.env) (λu s'=>∃o H',Inv X pins σ H' s'/\XZ u o/\Q o H') X.xe s
def HW:TO:=λ_ H Q=>Q am H
def Nw(t:TE):TO:=λσ H Q=>t σ H λx H1=>∃i,x=.int i/\Q (ag i) H1
section
variable{X:Cx}{e:WX}{te:TE}{lo hi:Option WX}{tl th:TO}{pos p2:Pos}
def Io:PO X am HW:=by
 intro pins s σ H Q I h;rw[evalPart_none];exact Xo ⟨am,H,I,.none,h⟩
def HE(h:PE X e te):PO X (ag e) (Nw te):=by
 intro pins s σ H Q I hw;rw[evalPart_some];refine cR (h pins s σ H _ I hw) λu s1 Z=>Z.e λx Z=>Z.e λH1 Z=>Z.e λI1 Z=>Z.e λr1 q1=>?_;obtain⟨i,rfl,q⟩:=q1;obtain⟨t,rfl⟩:=r1;exact⟨ag i,H1,I1,.int i t,q⟩
def OA(X:Cx)(r:V->dH->dH->Hp->VK->Prop):Prop:=
 ∀(pins:bg)(s:WZ)(σ:St)(H:Hp)(x:V)(v vl vu:WU)(lo hi:dH)(sl:WW)(Q:VK),Inv X pins σ H s->RelV x v->s.heap.IsSliceOf sl vl vu .none->XZ vl lo->XZ vu hi->r x lo hi H Q->
  ∃T id,typeLookup (.type T) "__getitem__"=pure (ag (.builtin id))/\s.TypeIs v T/\Xa (model X.prog X.w) X.A (getItem v (.ref sl)) (EP X pins σ Q) X.xe s
def RO(r:V->dH->dH->Hp->VK->Prop)(te:TE)(tl th:TO):TE:=λσ H Q=>te σ H λx H1=>tl σ H1 λl H2=>th σ H2 λu H3=>r x l u H3 Q
def Fs{r:V->dH->dH->Hp->VK->Prop}(hr:OA X r)(he:PE X e te)(hl:PO X lo tl)(hu:PO X hi th):PE X (.Subscript e (.Slice lo hi am p2) pos) (RO r te tl th):=by
 intro pins s σ H Q I h;refine Subscript_ (cR (he pins s σ H _ I h) λv s1 Z=>Z.e λx Z=>Z.e λH1 Z=>Z.e λI1 Z=>Z.e λr1 q1=>?_);refine wpAny_Slice (cR (hl pins s1 σ H1 _ I1 q1) λvl s2 Z=>Z.e λl Z=>Z.e λH2 Z=>Z.e λI2 Z=>Z.e λpl q2=>cR (hu pins s2 σ H2 _ I2 q2) λvu s3 Z=>Z.e λu Z=>Z.e λH3 Z=>Z.e λI3 Z=>Z.e λpu q3=>?_);rw[evalPart_none];refine Xo ?_;have I4:Inv X pins σ H3 {s3 with heap:=s3.heap.push {cls:=.type "slice",data:=.fields #[vl,vu,.none]}}:=I3.kept (t':=s3.toks) λb ob q=>Wp _ q;obtain⟨T,id,hT,ht,hg⟩:=hr pins {s3 with heap:=s3.heap.push {cls:=.type "slice",data:=.fields #[vl,vu,.none]}} σ H3 x v vl vu l u s3.heap.objs.size Q I4 r1 (Heap.IsSliceOf.new ..) pl pu q3;show Xa (model X.prog X.w) X.A (subscriptTail e (.Slice lo hi am p2) v (.ref s3.heap.objs.size)) (EP X pins σ Q) X.xe {s3 with heap:=s3.heap.push {cls:=.type "slice",data:=.fields #[vl,vu,.none]}};exact tail_any (ops:=[.ref s3.heap.objs.size,v]) ht hT hg (by with_unfolding_all rfl)
def vY(xs:aN)(lo hi:dH):aN:=(xs.drop (HT.sIx xs.length 0 lo)).take (HT.sIx xs.length xs.length hi-HT.sIx xs.length 0 lo)
def mW(xs:aN)(lo hi:dH):(vY xs lo hi).length<=xs.length:=by
 unfold vY;rw[TN,T5];omega
def QJ(K:VC):V->dH->dH->Hp->VK->Prop:=λx lo hi H Q=>∃a xs,x=.ref a/\lW K H a xs/\
 ¬(HT.sIx xs.length 0 lo=0/\HT.sIx xs.length xs.length hi=xs.length)/\∀p,H p=am->Q (.ref p) (upd H p (.tup (vY xs lo hi)))
def Lc:OA X (QJ X.K):=by
 intro pins s σ H x v vl vu lo hi sl Q I rx hs pl pu h;obtain⟨a,xs,rfl,hx,hw,q⟩:=h;cases rx;obtain⟨its,r,ht,hz⟩:=I.tuple hx;have hlen:its.toArray.size=xs.length:=by rw[Tv];exact r.length.symm
 refine⟨"tuple",_,PyProof.Rows.slot_tuple_getitem.lookup,ht.typeIs,?_⟩;refine HT.Ae ht hs pl pu (by rw[hlen];exact hw) ?_ (by rw[hlen];exact hz);rw[hlen];refine⟨.ref s.heap.objs.size,_,I.laid (t':=s.toks) (o:=.tup (vY xs lo hi)) (λb ob q=>Wp _ q) (Tt _) ?_,rfl,q _ (I.hok.fresh (Tt _))⟩;exact⟨Tg (mW xs lo hi) hz,_,(r.drop (HT.sIx xs.length 0 lo)).take (HT.sIx xs.length xs.length hi-HT.sIx xs.length 0 lo),xI.new _ _⟩
def NX(K:VC):R2:=λx y H Q=>∃a b xs ys,x=.ref a/\y=.ref b/\lW K H a xs/\lW K H b ys/\xs≠[]/\xs.length+ys.length<=W4/\
 (ys=[]->Q (.ref a) H)/\(ys≠[]->∀p,H p=am->Q (.ref p) (upd H p (.tup (xs++ys))))
def Vals.nil_iff{xs:aN}{us:bA}(r:Vals xs us):us=[]↔xs=[]:=by
 cases r with
 |nil=>simp
 |cons _ _=>simp
def HF:ik X (Xs .Add) (NX X.K):=by
 intro pins s σ H x y v u Q I rx ry h;obtain⟨a,b,xs,ys,rfl,rfl,ha,hb,hx,hz,q1,q2⟩:=h;cases rx;cases ry;obtain⟨its,r1,p1,_⟩:=I.tuple ha;obtain⟨its2,r2,p2,_⟩:=I.tuple hb;refine HT.Ou p1 p2 (λz=>hx (r1.nil_iff.mp z)) (λz=>⟨.ref a,H,I,rfl,q1 (r2.nil_iff.mp z)⟩) (λz=>?_) (by rw[<-r1.length,<-r2.length];exact hz);refine⟨.ref s.heap.objs.size,_,I.laid (t':=s.toks) (o:=.tup (xs++ys)) (λb ob q=>Wp _ q) (Tt _) ?_,rfl,q2 (λw=>z (r2.nil_iff.mpr w)) _ (I.hok.fresh (Tt _))⟩;exact⟨by rw[T1];exact hz,_,r1.append r2,xI.new _ _⟩
end
noncomputable def HD(n:Nat)(i:Int):Option Nat:=if 0<=i then(if i<n then ag i.toNat else am)else if -(n:Int)<=i then ag (i+n).toNat else am
def j6{α:Type}(xs:List α)(i:Int):Option α:=(HD xs.length i).bind λj=>xs[j]?
def Ia{n:Nat}{i:Int}{j:Nat}(h:HD n i=ag j):seqIndex? i n=ag j/\j<n/\-(n:Int)<=i/\i<n:=by
 unfold HD at h;by_cases h0:0<=i
 ·rw[ba h0]at h;by_cases h1:i<n
  ·rw[ba h1]at h;have e:i.toNat=j:=Option.some.inj h;exact⟨by rw[seqIndex_of h0 h1,e],by omega,by omega,h1⟩
  ·rw[br h1]at h;cases h
 ·rw[br h0]at h;by_cases h1:-(n:Int)<=i
  ·rw[ba h1]at h;have e:(i+n).toNat=j:=Option.some.inj h;exact⟨by rw[seqIndex_neg ‹0› h1,e],by omega,h1,by omega⟩
  ·rw[br h1]at h;cases h
def uJ{α:Type}{xs:List α}{i:Int}{v:α}(h:j6 xs i=ag v):∃j,seqIndex? i xs.length=ag j/\xs[j]?=ag v/\j<xs.length/\-(xs.length:Int)<=i/\i<xs.length:=by
 unfold j6 at h;cases e:HD xs.length i with
 |none=>rw[e]at h;cases h
 |some j=>
  rw[e]at h;obtain⟨h1,h2,h3,h4⟩:=Ia e;exact⟨j,h1,h,h2,h3,h4⟩
def CT{α:Type}(xs:List α)(v:α):j6 (xs++[v]) (-1)=ag v:=by
 have hl:(xs++[v]).length=xs.length+1:=by simp
 have e:HD (xs++[v]).length (-1)=ag xs.length:=by
  unfold HD;rw[hl,br (by decide),ba ‹0›];congr 1;omega
 unfold j6;rw[e];show(xs++[v])[xs.length]?=ag v;simp
def tN(b:WX):Prop:=∀o i,subscripted b false o i=operate [o,i] (getItem o i)
def NU(X:Cx)(r:R2):Prop:=
 ∀(value slice:WX)(pins:bg)(s:WZ)(σ:St)(H:Hp)(x y:V)(v u:WU)(Q:VK),Inv X pins σ H s->RelV x v->RelV y u->r x y H Q->
  subscripted slice false v u=operate [v,u] (getItem v u)->Xa (model X.prog X.w) X.A (subscriptTail value slice v u) (EP X pins σ Q) X.xe s
def MK(X:Cx)(id:String)(r:V->aN->Hp->VK->Prop):Prop:=
 ∀(pins:bg)(s:WZ)(σ:St)(H:Hp)(x:V)(xs:aN)(v:WU)(us:bA)(Q:VK),Inv X pins σ H s->RelV x v->Vals xs us->r x xs H Q->
  Xa (model X.prog X.w) X.A (call (.builtin id) (v::us)) (EP X pins σ Q) X.xe s
section
variable{X:Cx}{a b:WX}{ta tb:TE}{pos:Pos}
def M9{r:R2}(hr:NU X r)(ha:PE X a ta)(hb:PE X b tb)(hs:tN b):PE X (.Subscript a b pos) (ML r ta tb):=by
 intro pins s σ H Q I h;exact Subscript_ (KR ha hb I h λv u s2 x y H2 I2 rx ry q=>hr a b pins s2 σ H2 x y v u Q I2 rx ry q (hs _ _))
def QM(K:VC):R2:=λx y H Q=>∃p xs i v,x=.ref p/\y=.int i/\km K H p xs/\j6 xs i=ag v/\Q v H
def Qv(K:VC):R2:=λx y H Q=>∃p xs i v,x=.ref p/\y=.int i/\lW K H p xs/\j6 xs i=ag v/\Q v H
def Rn:R2:=λx y H Q=>∃z i c,x=.str z/\y=.int i/\z.length<=W4/\j6 z.cps.toList i=ag c/\Q (.str ⟨#[c]⟩) H
def Iz:NU X (QM X.K):=by
 intro value slice pins s σ H x y v u Q I rx ry h hs;obtain⟨p,xs,i,z,rfl,rfl,hq,he,q⟩:=h;cases rx;obtain⟨t,rfl⟩:=ry;obtain⟨its,r,pl,hz⟩:=I.list hq;obtain⟨j,h1,h2,h3,h4,h5⟩:=uJ he;obtain⟨w,ew,rw'⟩:=r.get h2;have hl:=r.length;have hn:=mS;have fin:EP X pins σ Q w s:=⟨z,H,I,rw',q⟩
 by_cases h0:0<=i
 ·have hj:i.toNat=j:=by
   rw[seqIndex_of h0 h5]at h1;exact Option.some.inj h1
  exact item_listR pl.isList h0 ‹0› (by rw[hj];simpa using ew) fin hs
 ·have hj:(i+(its.toArray.size:Int)).toNat=j:=by
   rw[seqIndex_neg ‹0› h4]at h1;rw[Tv,<-hl];exact Option.some.inj h1
  exact subscriptTail_builtinR (x:=w) pl.isList.typeIs slot_list_getitem.lookup
   (wpAny_getItem_list_neg (Q:=λr s'=>r=w/\EP X pins σ Q r s') pl.isList ‹0› (by rw[Tv]<;>omega) ‹0› (by rw[hj];simpa using ew) ⟨rfl,fin⟩) hs
def KH:NU X (Qv X.K):=by
 intro value slice pins s σ H x y v u Q I rx ry h hs;obtain⟨p,xs,i,z,rfl,rfl,hq,he,q⟩:=h;cases rx;obtain⟨t,rfl⟩:=ry;obtain⟨its,r,pl,hz⟩:=I.tuple hq;obtain⟨j,h1,h2,h3,h4,h5⟩:=uJ he;obtain⟨w,ew,rw'⟩:=r.get h2;have hl:=r.length;have hn:=mS;have fin:EP X pins σ Q w s:=⟨z,H,I,rw',q⟩
 exact subscriptTail_builtinR (x:=w) pl.typeIs slot_tuple_getitem.lookup
  (getItem_tuple (j:=j) (Q:=λr s'=>r=w/\EP X pins σ Q r s') pl ‹0› ‹0› (by rw[Tv,<-hl];exact h1) (by simpa using ew) ⟨rfl,fin⟩) hs
def KO:NU X Rn:=by
 intro value slice pins s σ H x y v u Q I rx ry h hs;obtain⟨z,i,c,rfl,rfl,hz,he,q⟩:=h;obtain⟨t,rfl⟩:=rx;obtain⟨t',rfl⟩:=ry;obtain⟨j,h1,h2,h3,h4,h5⟩:=uJ he;have hl:z.cps.toList.length=z.length:=by simp[Str.length]
 rw[hl]at h1 h4 h5;have hn:=mS;exact tail_any (X6 s z t) slot_str_getitem.lookup (getItem_str (c:=c) (by
  have e1:decide (i < -(2^63:Int))=false:=cb ‹0›;have e2:decide (i>=2^63)=false:=cb ‹0›;rw[e1,e2,Bool.or_false]) (by rw[h1];simpa using h2) ⟨.str ⟨#[c]⟩,H,I.tok _,⟨_,rfl⟩,q⟩) hs
def tm(lo hi:dH)(n:Nat):(sliceBounds lo hi am n).1=((HT.sIx n 0 lo:Nat):Int)/\(sliceBounds lo hi am n).2.1=((HT.sIx n n hi:Nat):Int)/\(sliceBounds lo hi am n).2.2=1:=by
 refine⟨?_,?_,rfl⟩
 ·cases lo with
  |none=>simp[sliceBounds,HT.sIx]
  |some i=>
   simp only[sliceBounds,HT.sIx,T7,show(1:Int)>0 by decide,if_true];by_cases h:i<0
   ·simp only[h,if_true]<;>omega
   ·simp only[h,if_false]<;>omega
 ·cases hi with
  |none=>simp[sliceBounds,HT.sIx]
  |some i=>
   simp only[sliceBounds,HT.sIx,T7,show(1:Int)>0 by decide,if_true];by_cases h:i<0
   ·simp only[h,if_true]<;>omega
   ·simp only[h,if_false]<;>omega
def rh(its:bA)(lo hi:dH):slicePick its.toArray lo hi am=((its.drop (HT.sIx its.length 0 lo)).take (HT.sIx its.length its.length hi-HT.sIx its.length 0 lo)).toArray:=by
 obtain⟨h1,h2,h3⟩:=tm lo hi its.toArray.size;unfold slicePick;rw[h1,h2,h3];simp only[sliceRange_one,pick_run,Tv]<;>rfl
def Rj(K:VC):V->dH->dH->Hp->VK->Prop:=λx lo hi H Q=>∃a xs,x=.ref a/\km K H a xs/\∀p,H p=am->Q (.ref p) (upd H p (.lst (vY xs lo hi)))
def Hh:OA X (Rj X.K):=by
 intro pins s σ H x v vl vu lo hi sl Q I rx hs pl pu h;obtain⟨a,xs,rfl,hx,q⟩:=h;cases rx;obtain⟨its,r,ht,hz⟩:=I.list hx;have hlen:=r.length;refine⟨"list",_,slot_list_getitem.lookup,ht.isList.typeIs,?_⟩;refine wpAny_getItem_list_slice ht.isList hs pl pu .none (by simp) ?_ (by rw[Tv]<;>omega);rw[rh,<-hlen];refine⟨.ref s.heap.objs.size,_,I.laid (t':=s.toks) (o:=.lst (vY xs lo hi)) (λb ob q=>Wp _ q) (Tt _) ?_,rfl,q _ (I.hok.fresh (Tt _))⟩;exact⟨Tg (mW xs lo hi) hz,_,0,(r.drop (HT.sIx xs.length 0 lo)).take (HT.sIx xs.length xs.length hi-HT.sIx xs.length 0 lo),Wm _ rfl⟩
noncomputable def Dl:V->Bool
 |.non=>true
 |.bl _=>true
 |.int _=>true
 |.str _=>true
 |_=>false
noncomputable def Pa:V->V->Bool
 |.non,.non=>true
 |.bl a,.bl b=>a==b
 |.bl a,.int b=>(if a then 1 else 0)==b
 |.int a,.bl b=>a==(if b then 1 else 0)
 |.int a,.int b=>a==b
 |.str a,.str b=>a==b
 |_,_=>false
def Lj{A:W7}{s:WZ}{y x:V}{u v:WU}(ry:RelV y u)(rx:RelV x v)(fy:Dl y=true)(fx:Dl x=true):SeqAt.EqAt A s u v (Pa y x):=by
 cases y with
 |non=>
  cases ry;cases x with
  |non=>cases rx;exact SeqAt.EqAt.same _
  |bl b=>cases rx;exact SeqAt.EqAt.none_bool b
  |int b=>obtain⟨t,rfl⟩:=rx;exact SeqAt.EqAt.none_int b t
  |str b=>obtain⟨t,rfl⟩:=rx;exact SeqAt.EqAt.none_str b t
  |_=>exact bt (show false=true from fx) Tq
 |bl a=>
  cases ry;cases x with
  |non=>cases rx;exact SeqAt.EqAt.bool_none a
  |bl b=>cases rx;exact SeqAt.EqAt.bool_bool a b
  |int b=>obtain⟨t,rfl⟩:=rx;exact SeqAt.EqAt.bool_int a b t
  |str b=>obtain⟨t,rfl⟩:=rx;exact SeqAt.EqAt.bool_str a b t
  |_=>exact bt (show false=true from fx) Tq
 |int a=>
  obtain⟨t',rfl⟩:=ry;cases x with
  |non=>cases rx;exact SeqAt.EqAt.int_none a t'
  |bl b=>cases rx;exact SeqAt.EqAt.int_bool a t' b
  |int b=>obtain⟨t,rfl⟩:=rx;exact SeqAt.EqAt.int_int a t' b t
  |str b=>obtain⟨t,rfl⟩:=rx;exact SeqAt.EqAt.int_str a t' b t
  |_=>exact bt (show false=true from fx) Tq
 |str a=>
  obtain⟨t',rfl⟩:=ry;cases x with
  |non=>cases rx;exact SeqAt.EqAt.str_none a t'
  |bl b=>cases rx;exact SeqAt.EqAt.str_bool a t' b
  |int b=>obtain⟨t,rfl⟩:=rx;exact SeqAt.EqAt.str_int a t' b t
  |str b=>obtain⟨t,rfl⟩:=rx;exact SeqAt.EqAt.str_str a t' b t
  |_=>exact bt (show false=true from fx) Tq
 |_=>exact bt (show false=true from fy) Tq
def iN:fW X (.builtin "len") (λxs H Q=>∃p ys,xs=[.ref p]/\(km X.K H p ys\/lW X.K H p ys)/\Q (.int ys.length) H):=by
 intro pins s σ H xs us Q I r h;obtain⟨p,ys,rfl,hq,q⟩:=h;obtain⟨u,rfl,rx⟩:=vals1 r;cases rx;have hn:=mS;rcases hq with hq|hq
 ·obtain⟨its,r',pl,hz⟩:=I.list hq;have hlen:=r'.length;exact Calls.call_len_list pl.isList (by simp only[Tv]<;>omega) ⟨.int ys.length,H,I.tok _,⟨s.toks+1,by rw[Tv,hlen]⟩,q⟩
 ·obtain⟨its,r',pl,hz⟩:=I.tuple hq;have hlen:=r'.length;exact len_tuple pl (by simp only[Tv]<;>omega) ⟨.int ys.length,H,I.tok _,⟨s.toks+1,by rw[Tv,hlen]⟩,q⟩
def uS:fW X (.builtin "len") (λxs H Q=>∃z,xs=[.str z]/\z.length<=W4/\Q (.int z.length) H):=by
 intro pins s σ H xs us Q I r h;obtain⟨z,rfl,hz,q⟩:=h;obtain⟨u,rfl,t,rfl⟩:=vals1 r;have hn:=mS;exact len_str ‹0› ⟨.int z.length,H,I.tok _,⟨_,rfl⟩,q⟩
def jZ:fW X (.type "tuple") (λxs H Q=>∃p ys,xs=[.ref p]/\((km X.K H p ys/\∀l,H l=am->Q (.ref l) (upd H l (.tup ys)))\/(lW X.K H p ys/\Q (.ref p) H))):=by
 intro pins s σ H xs us Q I r h;obtain⟨p,ys,rfl,h⟩:=h;obtain⟨u,rfl,rx⟩:=vals1 r;cases rx;rcases h with⟨hq,q⟩|⟨hq,q⟩
 ·obtain⟨its,r',pl,hz⟩:=I.list hq;have hlen:=r'.length;refine call_tuple_list pl.isList (λh' kp=>?_) (by simp only[Tv]<;>omega);have I1:Inv X pins σ H {s with heap:=h'}:=I.kept (t':=s.toks) kp;have I2:Inv X pins σ (upd H h'.objs.size (.tup ys)) {s with heap:=h'.push {cls:=.type "tuple",data:=.seq its.toArray}}:=
   I1.laid (t':=s.toks) (λb o e=>Wp _ e) (Tt _) (show gv X.prog X.w _ _ _ (.tup ys)from⟨hz,its,r',xI.new _ _⟩)
  exact⟨.ref h'.objs.size,_,I2,rfl,q _ (I1.hok.fresh (Tt _))⟩
 ·obtain⟨its,r',pl,hz⟩:=I.tuple hq;exact call_tuple_same pl ⟨.ref p,H,I,rfl,q⟩
def Qt(K:VC)(T:String)(x:V)(H:Hp):Prop:=match x with
 |.str _=>T="str"
 |.int _=>T="int"
 |.ref p=>(T="list"/\∃xs,km K H p xs)\/(T="tuple"/\∃o,K.lookup p=ag o/\o.cls=.type "tuple"/\o.dict=am) \/
   (T="dict"/\((∃kvs,H p=ag (.dK kvs))\/∃kvs,H p=ag (.dT kvs)))\/(T="set"/\∃S n,H p=ag (.set S n))
 |_=>False
def En{pins:bg}{σ:St}{H:Hp}{s:WZ}{T:String}{x:V}{v:WU}(I:Inv X pins σ H s)(r:RelV x v)(ty:Qt X.K T x H):
  s.TypeIs v T/\∀a,v=.ref a->∃ob,s.heap.get? a=ag ob/\ob.dict=none:=by
 cases x with
 |str z=>
  obtain⟨t,rfl⟩:=r;cases(show T="str"from ty);exact⟨X6 s z t,λ_ e=>nomatch e⟩
 |int i=>
  obtain⟨t,rfl⟩:=r;cases(show T="int"from ty);exact⟨typeIs_int s i t,λ_ e=>nomatch e⟩
 |ref p=>
  cases r;rcases ty with⟨rfl,xs,hq⟩|⟨rfl,o,hk,hc,hd⟩|⟨rfl,hk⟩|⟨rfl,S,n,hk⟩
  ·obtain⟨its,_,pl,_⟩:=I.list hq;refine⟨pl.isList.typeIs,λa e=>?_⟩;cases e;obtain⟨o,n,e,c,hd,_⟩:=pl;exact⟨o,e,hd⟩
  ·refine⟨⟨o,I.kIn p o hk,hc⟩,λa e=>?_⟩;cases e;exact⟨o,I.kIn _ o hk,hd⟩
  ·have z:∃o,s.heap.get? p=ag o/\o.ExactDict:=by
    rcases hk with⟨kvs,hk⟩|⟨kvs,hk⟩
    ·obtain⟨_,_,_,_,o,_,_,e,ex,_⟩:=I.hok p _ hk;exact⟨o,e,ex⟩
    ·obtain⟨_,_,_,_,o,_,_,e,ex,_⟩:=I.hok p _ hk;exact⟨o,e,ex⟩
   obtain⟨o,e,ex⟩:=z;refine⟨⟨o,e,ex.1⟩,λa e2=>?_⟩;cases e2;exact⟨o,e,ex.2.1⟩
  ·obtain⟨o,_,_,_,e,ex,_⟩:=I.hok p _ hk;refine⟨⟨o,e,ex.1⟩,λa e2=>?_⟩;cases e2;exact⟨o,e,ex.2.1⟩
 |_=>exact False.elim ty
def Py(K:VC)(T:String)(r:V->aN->Hp->VK->Prop)(to:TE):TE:=λσ H Q=>to σ H λx H1=>Qt K T x H1/\r x [] H1 Q
def RK(K:VC)(T:String)(r:V->aN->Hp->VK->Prop)(to:TE)(t:TA):TE:=λσ H Q=>to σ H λx H1=>Qt K T x H1/\t σ H1 λxs H2=>r x xs H2 Q
variable{o e:WX}{es:aS}{to:TE}{t:TA}{name:Str}{apos cpos:Pos}{T id:String}{r:V->aN->Hp->VK->Prop}
def D3(pa:PlainAttrs T)(slot:Slot T name id)(hty:typeOf (.builtin id)=pure (.type "method_descriptor"))(hm:MK X id r)(ho:PE X o to)
  (hbase:Xx o name X.env (eval o X.env)=eval o X.env:=by rfl) (hline:(apos.endLine==cpos.line)=true:=by rfl):PE X (.Call (.Attribute o name apos) [] [] cpos) (Py X.K T r to):=by
 intro pins s σ H Q I h;refine wpAny_Call_method0_late hbase hline (cR (ho pins s σ H _ I h) λv s1 Z=>Z.e λx Z=>Z.e λH1 Z=>Z.e λI1 Z=>Z.e λr1 Z=>Z.e λty q1=>?_);obtain⟨h1,h2⟩:=En I1 r1 ty;exact⟨T,id,pa,slot,hty,h1,h2,Calls.callWith_builtin rfl (PySem.evalArgs_none (hm pins s1 σ H1 x [] v [] Q I1 r1 .nil q1))⟩
def vD(pa:PlainAttrs T)(slot:Slot T name id)(hty:typeOf (.builtin id)=pure (.type "method_descriptor"))(hm:MK X id r)(ho:PE X o to)(ha:PA X (e::es) t)
  (hbase:Xx o name X.env (eval o X.env)=eval o X.env:=by rfl)
  (hfew:((backTo cpos (Xb (e::es) X.env)).all (fun x=>!x.1) && (backToKw cpos (Xz [] X.env)).all (fun x=>x.1.isSome)
   && decide ((e::es).length+([]:List X7).length+(if([]:List X7).isEmpty then 0 else 1)<30))=true:=by rfl)
  (hline:(apos.endLine==cpos.line)=true:=by rfl) (hs:Xb (e::es) X.env=(false,eval e X.env)::Xb es X.env:=by rfl) (hplain:(backTo cpos (Xb es X.env)).any (·.1)=false:=by rfl):
  PE X (.Call (.Attribute o name apos) (e::es) [] cpos) (RK X.K T r to t):=by
 intro pins s σ H Q I h;refine X8 hbase hfew hline rfl (cR (ho pins s σ H _ I h) λv s1 Z=>Z.e λx Z=>Z.e λH1 Z=>Z.e λI1 Z=>Z.e λr1 Z=>Z.e λty q1=>?_);obtain⟨h1,h2⟩:=En I1 r1 ty;refine⟨T,id,pa,slot,hty,h1,h2,?_⟩;have hA:=ha cpos pins s1 σ H1 _ I1 q1;rw[hs]at hA ⊢;refine Calls.callWith_builtin (by show(false||(backTo cpos (Xb es X.env)).any (·.1))=false;rw[hplain]<;>rfl) (Calls.evalArgs_plain ?_);exact cR hA λus s2 Z=>Z.e λvs Z=>Z.e λH2 Z=>Z.e λI2 Z=>Z.e λr2 q2=>hm pins s2 σ H2 x vs v us Q I2 r1 r2 q2
end
def OU(X:Cx)(id:String)(r:V->aN->Hp->VK->Prop):Prop:=
 ∀(pins:bg)(s:WZ)(σ:St)(H:Hp)(x:V)(xs:aN)(v:WU)(us:bA)(Q:VK),Inv X pins σ H s->RelV x v->Vals xs us->r x xs H Q->
  Xa (model X.prog X.w) X.A (call (.builtin id) (v::us)) (EP X pins σ Q) X.xe s
def Vals.one{x:V}{us:bA}(h:Vals [x] us):∃u,us=[u]/\RelV x u:=by
 cases h with|cons r t=>
 cases t;exact⟨_,rfl,r⟩
def Vals.zero:∀{us:bA},Vals [] us->us=[]
 |_,.nil=>rfl
theorem Vals.dropLast{xs:aN}{us:bA}(h:Vals xs us):Vals xs.dropLast us.dropLast:=by
 induction h with
 |nil=>exact .nil
 |cons r t ih=>
  cases t with
  |nil=>exact .nil
  |cons q t'=>exact .cons r ih
theorem Vals.reverse{xs:aN}{us:bA}(h:Vals xs us):Vals xs.reverse us.reverse:=by
 induction h with
 |nil=>exact .nil
 |cons r t ih=>rw[T8,T8];exact Vals.append ih (.cons r .nil)
def xV{α:Type}(l:List α):l.eraseIdx (l.length-1)=l.dropLast:=by
 induction l with
 |nil=>rfl
 |cons a r ih=>
  cases r with
  |nil=>rfl
  |cons b r=>
   have e:(a::b::r).length-1=((b::r).length-1)+1:=by
    have h1:(a::b::r).length=r.length+2:=rfl;have h2:(b::r).length=r.length+1:=rfl;omega
   rw[e,List.eraseIdx_cons_succ,ih]
   all_goals rfl
section
variable{X:Cx}{pins:bg}{σ:St}{H:Hp}{s:WZ}{l b:WW}{xs ys zs:aN}
def Inv.lset{its its':bA}{n:Nat}{f:Array WU->Array WU}{t':Nat}(I:Inv X pins σ H s)(hH:H l=ag (.lst xs))
  (e:s.heap.get? l=ag {cls:=.type "list",data:=.seq its.toArray n}) (hf:f its.toArray=its'.toArray) (hv:Vals ys its') (hz:ys.length<=W4):
  Inv X pins σ (upd H l (.lst ys)) {s with heap:=s.heap.update l (Obj.mapSeq f),toks:=t'}:=by
 have q:=PySem.IsL.update e f;rw[hf]at q;refine I.write (x:=l) (e:=l) (by rw[hH];exact trivial) (.inl rfl) (λb' u hb hu=>(Wr s.heap (Obj.mapSeq f) (Ne.symm hb)).trans hu) ⟨_,q⟩ ?_;exact⟨hz,its',_,hv,q⟩
def Inv.lnew{its:bA}{t':Nat}(I:Inv X pins σ H s)(hv:Vals ys its)(hz:ys.length<=W4):
  Inv X pins σ (upd H s.heap.objs.size (.lst ys)) {s with heap:=s.heap.push {cls:=.type "list",data:=.seq its.toArray},toks:=t'}:=
 I.laid (λ_ _ q=>Wp _ q) (Tt _) ⟨hz,its,0,hv,Wm _ rfl⟩
theorem Inv.fresh(I:Inv X pins σ H s):H s.heap.objs.size=none:=I.hok.fresh (Tt _)
def Inv.lstM(I:Inv X pins σ H s)(hH:H l=ag (.lst xs)):xs.length<=W4/\∃(its:bA)(n:Nat),Vals xs its/\xs.length=its.length/\s.heap.get? l=ag {cls:=.type "list",data:=.seq its.toArray n}:=by
 obtain⟨z,its,n,r,e⟩:=I.hok l _ hH;exact⟨z,its,n,r,r.length,e⟩
end
section
variable{X:Cx}
def zu:V->aN->Hp->VK->Prop:=λx vs H Q=>∃l xs y,x=.ref l/\vs=[y]/\H l=ag (.lst xs)/\xs.length<W4/\Q .non (upd H l (.lst (xs++[y])))
def my:OU X "list.append" zu:=by
 intro pins s σ H x vs v us Q I rx rv h;obtain⟨l,xs,y,rfl,rfl,hH,hz,q⟩:=h;cases rx;obtain⟨u,rfl,ru⟩:=rv.one;obtain⟨z,its,n,r,hl,e⟩:=I.lstM hH;refine call_meets F.slot_list_append ⟨_,e,rfl⟩ F.entry_list_append (F.args_list_append_2 _ _) (PySem.list_append l its.toArray n u (by rw[Tv];omega)) ⟨e,?_⟩;refine⟨.non,_,I.lset (its':=its++[u]) hH e (by simp) (r.append (.cons ru .nil)) ?_,rfl,q⟩;rw[T1,T9];omega
def O9:V->aN->Hp->VK->Prop:=λx vs H Q=>∃l xs y,x=.ref l/\vs=[]/\H l=ag (.lst xs)/\xs[xs.length-1]?=ag y/\Q y (upd H l (.lst xs.dropLast))
def K3:OU X "list.pop" O9:=by
 intro pins s σ H x vs v us Q I rx rv h;obtain⟨l,xs,y,rfl,rfl,hH,hy,q⟩:=h;cases rx;have hus:=rv.zero;subst hus;obtain⟨z,its,n,r,hl,e⟩:=I.lstM hH;obtain⟨u,hu,ru⟩:=r.get hy;have hy':its.toArray[its.toArray.size-1]?=ag u:=by
  show its.toArray[its.length-1]?=ag u;rw[<-Array.getElem?_toList,<-hl];exact hu
 refine call_meets F.slot_list_pop ⟨_,e,rfl⟩ F.entry_list_pop (F.args_list_pop_1 _) (MeetsSeq.list_pop_last l its.toArray n u hy' (by rw[Tv];omega)) ⟨e,?_⟩;refine⟨y,_,I.lset (its':=its.dropLast) hH e ?_ r.dropLast ?_,ru,q⟩
 ·show its.toArray.eraseIdxIfInBounds (its.toArray.size-1)=its.dropLast.toArray;rw[Tv,List.eraseIdxIfInBounds_toArray,xV]
 ·rw[List.length_dropLast];omega
end
end L2
namespace Att
open PySem.W PySem.Calls PyProof.Rows
def nA{P:Params}{h:W3}:∀(ns:List Int)(vs:List WU),WellAll P h vs (ns.map WData.int)->IntsAre vs ns:=by
 intro ns
 induction ns with
 |nil=>
  intro vs w;rw[Ua]at w;cases w;exact .nil
 |cons n ns ih=>
  intro vs w;rw[Tx]at w;cases w with
  |cons a b=>
   cases a;exact .cons _ _ (ih _ b)
def Ay{l:OpenLaw}{n:Nat}(hn:l.most=ag n){P:Params}{h:W3}{args:List WData}{vals:List WU}
  (hpre:l.row.toRowW.claim.pre args=true) (hwl:WellAll P h vals args):
  ∃a vs ns,vals=[Value.ref a]/\args=[WData.list (ns.map WData.int)]/\h.get? a=ag {cls:=.type "list",data:=.seq vs.toArray}/\IntsAre vs ns/\ns.length<=n:=by
 have hsh:WShape.hasAll [] args [.list .int]=true:=(pre_splitW hpre).1;have hc:l.pre.holds [] {args:=args}=true:=(pre_splitW hpre).2;obtain⟨d,r,rfl,h1,h2⟩:=hasAllW_cons hsh;obtain rfl:=hasAllW_nil h2;obtain⟨xs,rfl,h3⟩:=hasW_list h1;obtain⟨ns,rfl⟩:=items_int h3;have hlen:ns.length<=n:=by
  unfold OpenLaw.pre at hc;have h4:(WTm.not (.lt (.lit (.int (n:Int))) (.len (.arg 0)))).holds [] {args:=[.list (ns.map .int)]}=true:=by
   have h4:=(holds_andW hc).1;rw[hn]at h4;exact h4
  have h5:=condW_of h4 (w_not (w_lt w_lit (w_len_list (w_arg rfl))));rw[Tz]at h5;refine Nat.le_of_not_lt λq=>?_;have q':(n:Int)<((ns.length:Nat):Int):=by omega
  first
   |(rw[b0 q']at h5;exact bt h5 (by decide))
   |(simp at h5;omega)
 cases hwl with
 |cons w1 w2=>
  cases w2;cases w1 with
  |list ho hall=>exact⟨_,_,ns,rfl,rfl,ho,nA ns _ hall,hlen⟩
def By(l:OpenLaw)(args:List WData):l.row.toRowW.claim.post args (.bool true) args=true:=
 postW_of (r:=l.row.toRowW) (X:=(true==true))
  (show WShape.has [] (.bool true) .bool=true by first|rfl|decide|simp[WShape.has,WShape.arms,WShape.armsAll])
  (show(WTm.eq .res (.lit (.bool true))).value [] {args:=args,res:=ag (.bool true),after:=args}=ag (.bool (true==true))from w_eq_bool (w_res rfl) w_lit) rfl
def JL{l:OpenLaw}{n:Nat}{q:W1}{loose:List Str}{XP:(Str->Option WU)->W3->Prop}{YP:W0->W3->Prop}{d:DefRec}
  (hn:l.most=ag n) (hdf:d.params.defaults=[])
  (call:∀ (w:W0) (s₀ s₁:WZ) (mg mb:Str->Option WU) (fa:WW) (o:Obj) (pm cd doc:WU) (a:WW) (vs:List WU) (ns:List Int),
   Ground q loose [] XP w s₀ mg mb s₁.heap->YP w s₁.heap->
   s₁.heap.get? fa=ag o->o.data=.func (docDef d.name d.params d.body d.scope pm cd doc)->s₁.heap.CodeRec cd d.name->mg d.name=ag (.ref fa)->
   s₁.heap.get? a=ag {cls:=.type "list",data:=.seq vs.toArray}->IntsAre vs ns->ns.length<=n->s₁.gens=#[]->
   Xw (model l.prog w) callerA (.call (.ref fa) ⟨[.ref a],[]⟩) (λr s'=>r=.ok (.ret (.bool true))/\OldK s₁.heap s'.heap/\s'.os=s₁.os/\AllBare s'.gens) s₁):
  WalkO q loose XP YP l.row.toRowW d [] (λf vs=>PySem.call f vs):=by
 intro w s₀ s₁ mg mb G Y fa o pm cd doc dV kV ho hd hcd hD hmg hg args vals as hpre hlay hrd hwl hlo;obtain rfl:dV=.none:=Dflts.none hD hdf;obtain rfl:kV=.none:=Dflts.noKw hD;obtain⟨a,vs,ns,rfl,rfl,hobj,hints,hlen⟩:=Ay hn hpre hwl;refine enter_call (XJ (call w s₀ s₁ mg mb fa o pm cd doc a vs ns G Y ho (fd_plain hd) hcd hmg hobj hints hlen hg) λr s' hq=>?_);obtain⟨rfl,h2,h3,h4⟩:=hq;exact⟨.inl ⟨.bool true,.bool true,[],rfl,λ_=>rfl,.bool true,By l _,λ_=>⟨List.Pairwise.nil,λ_ hm=>(nomatch hm)⟩⟩,h2,h3,h4⟩
section
variable{prog:W1}{w:W0}{A:W7}{E:WU->WZ->Prop}{s:WZ}{K:Frag}
end
end Att
namespace L2
open PyProof.Rows
theorem rZ:∀{vs:bA}{ns:List Int},IntsAre vs ns->Vals (ns.map V.int) vs
 |_,_,.nil=>.nil
 |_,_,.cons n t h=>.cons ⟨t,rfl⟩ (rZ h)
def Only(H:Hp):Prop:=∀b,H b=am\/∃o xs,H b=ag (.frz o (.lst xs))
def CZ{P:W1}{w:W0}{K:VC}{mg mb:bN}{CX:vL}{k:Nat}{fa a:WW}{fd:XD}{x:Str}{sp:Sp}{s₁:WZ}{vs:bA}{ns:List Int}
  (KX:K.In s₁.heap) (hns:s₁.heap.Ns W5 mg) (hb:s₁.heap.Ns builtinsNs mb) (hbb:∀x:Str,x≠"__name__"->mb x=W6 x) (hlim:s₁.heap.NoLimit) (hg:s₁.gens=#[])
  (ha:s₁.heap.get? a=ag {cls:=.type "list",data:=.seq vs.toArray}) (hi:IntsAre vs ns) (hl:ns.length<=W4) (hr:dG k callerA)
  (F:∀base:W3,K.In base->base.Ns W5 mg->fw P w K mg base CX k fa fd [x] sp) (hbind:∀(s:WZ)(u:WU),XF s fd ⟨[u],[]⟩ [(x,u)])
  (hsp:∀H:Hp,Only H->km K H a (ns.map V.int)->sp [.ref a] H (λv _=>v=.bl true) λ_ _ _=>False)
  (hCX:∀H e s',CX [] H s₁ (λ_ _ _=>False) e s'->False):
  Xw (model P w) callerA (.call (.ref fa) ⟨[.ref a],[]⟩) (λr s'=>r=.ok (.ret (.bool true))/\OldK s₁.heap s'.heap/\s'.os=s₁.os/\AllBare s'.gens) s₁:=by
 have rv:=rZ hi;have lenV:=hi.length;have core:∀H:Hp,Only H->km K H a (ns.map V.int)->qJ P w H s₁.heap->(∀b,H b≠am->b=a)->(H a≠am->K.lookup a=am)->
   Xw (model P w) callerA (.call (.ref fa) ⟨[.ref a],[]⟩) (λr s'=>r=.ok (.ret (.bool true))/\OldK s₁.heap s'.heap/\s'.os=s₁.os/\AllBare s'.gens) s₁:=by
  intro H hO hS hok hA hK;have base_of:∀{b:WW}{o:Obj},s₁.heap.get? b=ag o->H b=am->(jz s₁.heap H).get? b=ag o:=λe n=>pj e n;have noA:∀{b:WW}{o:Obj}{es:Array X9}{ep:Nat},s₁.heap.get? b=ag o->o.data=.dict es ep->H b=none:=λ{b o es ep} e d=>by
   cases q:H b with
   |none=>rfl
   |some u=>
    have e':b=a:=hA b (by rw[q];simp);subst e';rw[ha]at e;cases e;have d':Data.seq vs.toArray _=Data.dict es ep:=d;cases d'
  have nsK:∀{b:WW}{m:bN},s₁.heap.Ns b m->(jz s₁.heap H).Ns b m:=λ{b m} ⟨o,es,ep,e,d,r⟩=>⟨o,es,ep,base_of e (noA e d),d,r⟩
  have hKb:K.In (jz s₁.heap H):=λb o e=>base_of (KX b o e) (by
   cases q:H b with
   |none=>rfl
   |some u=>
    have e':b=a:=hA b (by rw[q];simp);subst e';rw[hK (by rw[q];simp)]at e;cases e)
  have hM:Mod K mg (jz s₁.heap H):=⟨hKb,nsK hns,⟨mb,nsK hb,hbb⟩,let ⟨mc,h1,h2⟩:=hlim;⟨mc,nsK h1,h2⟩⟩
  have e0:BF P w K mg (jz s₁.heap H) callerA [] s₁ H:=⟨rfl,hM,λb o e=>uU e,TB (Be _ _),trivial,λb hb=>bt (show b∈([]:aD)from hb) (by simp),hok,.of_eq hg⟩
  refine XJ ((F _ hKb (nsK hns)).run callerA [] s₁ H ⟨[.ref a],[]⟩ [.ref a] [.ref a] _ _ hr e0 (hbind s₁ (.ref a)) (.cons rfl .nil) (hsp H hO hS)) λr s' h=>?_;cases r with
  |error e=>exact(hCX H e s' h).elim
  |ok fl=>
   cases fl with
   |next=>exact False.elim h
   |brk=>exact False.elim h
   |cont=>exact False.elim h
   |ret u=>
    obtain⟨v,H',os,bare,un,hok',r',q⟩:=h;have q':v=.bl true:=q;subst q';obtain rfl:u=Value.bool true:=r';refine⟨rfl,OldK.of_keep λb o e=>?_,os,bare⟩;cases q:H b with
    |none=>exact un.keep b o e q (by intro z;exact bt (show b∈([]:aD)from z) (by simp)) (by simp)
    |some u=>
     rcases hO b with z|⟨ob,xs,z⟩
     ·rw[q]at z;cases z
     ·have z2:=un.frzs b ob _ z;obtain⟨e1,_⟩:=hok b _ z;obtain⟨e2,_⟩:=hok' b _ z2;rw[e]at e1;cases e1;exact e2
 cases hk:K.lookup a with
 |some o=>
  have e:=KX a o hk;rw[ha]at e;cases e;refine core (λ_=>am) (λ_=>.inl rfl) (.inr ⟨_,vs.toArray,_,hk,rfl,rfl,rfl,by rw[Tv,lenV];exact hl,by simpa using rv⟩) (λb u z=>by have z':(am:Option HO)=ag u:=z;cases z') (λb z=>bt rfl z) λz=>bt rfl z
 |none=>
  refine core (λb=>if b=a then ag (.frz {cls:=.type "list",data:=.seq vs.toArray} (.lst (ns.map V.int)))else am) (λb=>?_) (.inl (.inr ⟨{cls:=.type "list",data:=.seq vs.toArray},ba rfl⟩)) (λb u z=>?_) (λb z=>?_) λ_=>hk
  ·by_cases hb:b=a
   ·exact .inr ⟨_,_,ba hb⟩
   ·exact .inl (br hb)
  ·by_cases hb:b=a
   ·have z':=(ba hb).symm.trans z;cases z';subst hb;exact⟨ha,by rw[Tz];exact hl,vs,_,rv,ha⟩
   ·have z':=(br hb).symm.trans z;cases z'
  ·by_cases hb:b=a
   ·exact hb
   ·exact bt (br hb) z
def O6{l:V4}{n k:Nat}{q:W1}{loose:af}{XP:(bN)->W3->Prop}{YP:W0->W3->Prop}{d:DefRec}{K:Params->VC}{CX:W0->vL}{sp:W0->Sp}{x:Str}
  (hn:l.most=ag n) (hn2:n<=W4) (hdf:d.params.defaults=[]) (hr:dG k callerA)
  (hY:∀(w:W0)(h:W3),YP w h->(K w.params).In h)
  (F:∀ (w:W0) (mg:bN) (fa:WW) (h:W3),(K w.params).In h->h.Ns W5 mg->mg d.name=ag (.ref fa) ->
   ∃fd:XD,(∀(s:WZ)(u:WU),XF s fd ⟨[u],[]⟩ [(x,u)])/\
    ∀base:W3,(K w.params).In base->base.Ns W5 mg->fw l.prog w (K w.params) mg base (CX w) k fa fd [x] (sp w))
  (hsp:∀(w:W0)(H:Hp)(a:WW)(ns:List Int),ns.length<=n->Only H->km (K w.params) H a (ns.map V.int)->sp w [.ref a] H (λv _=>v=.bl true) λ_ _ _=>False)
  (hCX:∀(w:W0)(H:Hp)(s:WZ)(e:WU)(s':WZ),CX w [] H s (λ_ _ _=>False) e s'->False):
  PySem.W.WalkO q loose XP YP l.row.toRowW d [] (λf vs=>PySem.call f vs):=by
 refine Att.JL hn hdf λw s₀ s₁ mg mb fa o pm cd doc a vs ns G Y ho hd hcd hmg hobj hints hlen hg=>?_;have KX:=hY w _ Y;obtain⟨fd,hb,hF⟩:=F w mg fa _ KX G.T.g hmg;exact CZ KX G.T.g G.T.b G.T.builtins G.T.nolimit hg hobj hints (Tg hlen hn2) hr hF hb (λH hO hS=>hsp w H a ns hlen hO hS) λH e s'=>hCX w H s₁ e s'
noncomputable def inClass(s:WY)(j:Nat):WY:=match s with
 |.ClassDef _ _ _ body _ _ _ _ _ _ _=>body.getD j (.Pass ⟨0,0,0,0⟩)
 |_=>.Pass ⟨0,0,0,0⟩
noncomputable def iG(s:WY):Arguments:=match s with
 |.FunctionDef _ a _ _ _ _ _ _ _ _=>a
 |_=>{posonlyargs:=[],args:=[],vararg:=am,kwonlyargs:=[],kw_defaults:=[],kwarg:=am,defaults:=[]}
def cO(s:WY):cU:=match s with
 |.FunctionDef _ _ b _ _ _ _ _ _ _=>b
 |_=>[]
noncomputable def ak(s:WY):W8:=match s with
 |.FunctionDef _ _ _ _ _ _ sc _ _ _=>sc
 |_=>{kind:=.function,names:=[],isGenerator:=false,isCoroutine:=false}
abbrev O7:vL:=λ_ _ _ _ _ _=>False
abbrev E0:XK:=λ_ _ _=>False
structure kc(K:VC)(x qual:Str)(st:WY)(f:WW)(fd:XD):Prop where
 ex:∃(oc:WU)(od:Option WW)(kV doc pm:WU)(an:Option WW)(cdv ct:WU)(osl:Array (Option WU)),
  fd=V1 x qual (iG st) (cO st) (ak st) .none kV doc pm an cdv ct/\K.lookup f=ag ⟨oc,od,.func fd,osl⟩/\V2 K cdv qual=true
 kp:VY K (.ref f)=true
section
variable{P:W1}{w:W0}{K:VC}{mg:bN}{base:W3}
def kc.ok{x qual:Str}{st:WY}{f:WW}{fd:XD}{N ps:af}{k:Nat}{sp:Sp}(F:kc K x qual st f fd)(S:bp N ps (ak st))(len:∀vs H Q E,sp vs H Q E->vs.length=ps.length)
  (hbody:∀ (cdv:WU) (A:W7) (outer:List Env) (s:WZ) (H:Hp) (vs:aN) (Q:VK) (E:XK),dG k (A.deeper (envOfC qual (ak st) s.heap.objs.size f cdv))->sp vs H Q E ->
   ∃t,qW (ef O7 P w K mg base N qual (ak st) f cdv A outer s H E).nox (cO st) t/\t {nx:=λ_ H'=>Q .non H',rt:=Q} (start N vs) H):fw P w K mg base O7 (k+1) f fd ps sp:=by
 obtain⟨oc,od,kV,doc,pm,an,cdv,ct,osl,rfl,lk,hcd⟩:=F.ex;refine J6 lk hcd S len λA outer s H vs Q E hr hsp=>?_;obtain⟨t,h,q⟩:=hbody cdv A outer s H vs Q E hr hsp;exact⟨t,h.nox,q⟩
def kc.binds{x qual:Str}{st:WY}{f:WW}{fd:XD}{ps:af}(F:kc K x qual st f fd)
  (h:∀(kV doc pm:WU)(an:Option WW)(cdv ct:WU)(us:bA),us.length=ps.length->bindArgs (V1 x qual (iG st) (cO st) (ak st) .none kV doc pm an cdv ct) ⟨us,[]⟩=pure (ps.zip us)):Binds K fd ps []:=by
 obtain⟨oc,od,kV,doc,pm,an,cdv,ct,osl,rfl,lk,hcd⟩:=F.ex;exact .all (h kV doc pm an cdv ct)
def cW{x qual:Str}{st:WY}{f:WW}{oc:WU}{od an:Option WW}{osl:Array (Option WU)}{kV doc pm cdv ct:WU}(l:K.lookup f=ag ⟨oc,od,.func (V1 x qual (iG st) (cO st) (ak st) .none kV doc pm an cdv ct),osl⟩)
  (c:V2 K cdv qual=true) (k:VY K (.ref f)=true):kc K x qual st f (V1 x qual (iG st) (cO st) (ak st) .none kV doc pm an cdv ct):=⟨⟨oc,od,kV,doc,pm,an,cdv,ct,osl,rfl,l,c⟩,k⟩
end
section
variable{X:Cx}
def pv(i:Nat){x:Str}{pos:Pos}(hN:X.N[i]?=ag x:=by rfl)(hv:Mx X.env.scope x:=by first|exact Or.inl rfl|exact Or.inr (Or.inl rfl)|exact Or.inr (Or.inr rfl))(hd:(x==("__debug__":Str))=false:=by decide)
  (hcd:(x==("__classdict__":Str))=false:=by decide):PE X (.Name x pos) (qR i):=MC hN hv hd hcd
end
def qS{A B:Prop}(h:B):if false=true then A else B:=by
 rw[br Tq];exact h
def qA{A B:Prop}(h:A):if true=true then A else B:=by
 rw[ba rfl];exact h
def aO(H H':Hp):Prop:=∀b o,H b=ag o->H' b=ag o
def aO.refl(H:Hp):aO H H:=λ_ _ h=>h
def aO.trans{H H1 H2:Hp}(a:aO H H1)(b:aO H1 H2):aO H H2:=λc o h=>b c o (a c o h)
def aO.free{H H':Hp}(e:aO H H'){l:WW}(h:H' l=Option.none):H l=Option.none:=by
 cases q:H l with
 |none=>rfl
 |some o=>
  rw[e l o q]at h;cases h
def aO.seq{K:VC}{H H':Hp}{a:WW}{xs:aN}(e:aO H H')(h:km K H a xs):km K H' a xs:=by
 rcases h with(h|⟨o,h⟩)|h
 ·exact .inl (.inl (e _ _ h))
 ·exact .inl (.inr ⟨o,e _ _ h⟩)
 ·exact .inr h
def J5{P:W1}{w:W0}{k:Key}{u:WU}(r:RelV (kV k) u):(fN P w).is k u=true:=by
 cases k with
 |inl i=>obtain⟨t,e⟩:=(show∃t,u=Value.int i t from r);subst e;exact wn P w i t
 |inr x=>obtain⟨t,e⟩:=(show∃t,u=Value.str x t from r);subst e;exact jH P w x t
section
variable{X:Cx}{pins:bg}{σ:St}{H:Hp}{s:WZ}{a:WW}{y v:V}{u r:WU}{o:Option V}{A:W7}{E:bI}
end
def LA(i:WX):Prop:=∀ov iv,subscripted i false ov iv=operate [ov,iv] (getItem ov iv)
def Jl{prog:W1}{w:W0}{A:W7}{E:bI}{s:WZ}{env:Env}{value slice:WX}{pos:Pos}{T id:String}{Q:bI}
  (hl:typeLookup (.type T) "__getitem__"=pure (ag (.builtin id))) (hs:LA slice)
  (h:Xa (model prog w) A (eval value env) (λo s₁=>Xa (model prog w) A (eval slice env) (λi s₂=>s₂.TypeIs o T/\Xa (model prog w) A (getItem o i) Q E s₂) E s₁) E s):
  Xa (model prog w) A (eval (.Subscript value slice pos) env) Q E s:=by
 refine Subscript_ (Xc h (λo s₁ h₁=>Xc h₁ (λi s₂ h₂=>?_) λ_ _ x=>x) λ_ _ x=>x);obtain⟨hT,h₂⟩:=h₂;unfold subscriptTail;refine Xp ?_;rw[getitemInPython_of_ne hT.not_modules];refine Xp (Ya hT hl ?_);have fin:Xa (model prog w) A (subscripted slice false o i) (λr s₃=>Xa (model prog w) A (letTemporaryGo value o r >>= λ_=>pure r) Q E s₃) E s₂:=by
  rw[hs o i];exact wpAny_operating (Xc h₂ (λr s₃ h₃=>Xp (wpAny_letTemporaryGo (Xo h₃))) λ_ _ x=>x)
 first
  |exact Xo (Xp fin)
  |exact Xp (Xo (Xp fin))
  |exact Xp fin
def df(cells:lD):pS->lD->lD
 |[],acc=>acc
 |(n,k)::r,acc=>if k=.free then(match cells.lookup n with|some c=>df cells r ((n,c)::acc)|none=>df cells r acc)else df cells r acc
theorem ic{cells:lD}:∀(names:pS)(acc:lD),(∀x c,acc.lookup x=ag c->cells.lookup x=ag c)->
  ∀x c,(df cells names acc).lookup x=ag c->cells.lookup x=ag c
 |[],acc,h=>h
 |(n,k)::r,acc,h=>by
  unfold df;by_cases hk:k=.free
  ·rw[ba hk];cases e:cells.lookup n with
   |none=>exact ic r acc h
   |some c0=>
    refine ic r _ λx c q=>?_;rw[Ub]at q;cases hx:x==n with
    |true=>
     rw[hx]at q;have e1:x=n:=(by simpa using hx);cases q;rw[e1];exact e
    |false=>rw[hx]at q;exact h x c q
  ·rw[br hk];exact ic r acc h
theorem iM{cells:lD}:∀(names:pS)(acc:lD)(x:Str),(acc.lookup x).isSome=true->((df cells names acc).lookup x).isSome=true
 |[],acc,x,h=>h
 |(n,k)::r,acc,x,h=>by
  unfold df;by_cases hk:k=.free
  ·rw[ba hk];cases e:cells.lookup n with
   |none=>exact iM r acc x h
   |some c0=>
    refine iM r _ x ?_;rw[Ub];cases hx:x==n with
    |true=>rfl
    |false=>exact h
  ·rw[br hk];exact iM r acc x h
theorem hJ{cells:lD}:∀(names:pS)(acc:lD)(x:Str),(x,NameKind.free)∈names->(∃c,cells.lookup x=ag c)->((df cells names acc).lookup x).isSome=true
 |[],acc,x,h,_=>bt h (by simp)
 |(n,k)::r,acc,x,h,hc=>by
  unfold df;rcases List.mem_cons.mp h with e|h
  ·cases e;rw[ba rfl];obtain⟨c,e⟩:=hc;rw[e];refine iM r _ _ ?_;rw[Ub];simp
  ·by_cases hk:k=.free
   ·rw[ba hk];cases e:cells.lookup n with
    |none=>exact hJ r acc x h hc
    |some c0=>exact hJ r _ x h hc
   ·rw[br hk];exact hJ r acc x h hc
def iF{scope:W8}{env:Env}(h:∀p∈scope.names,p.2=.free->∃c,env.cells.lookup p.1=ag c):closureFor scope env=pure (df env.cells scope.names []):=by
 have go:∀(names:pS)(acc:lD),(∀p∈names,p.2=.free->∃c,env.cells.lookup p.1=ag c)->
   (forIn names acc λx cs=>(match x with|(name,kind)=>if(kind==NameKind.free)=true then do let a<-cellOf env name;pure (ForInStep.yield ((name,a)::cs))else pure (ForInStep.yield cs):Sem (ForInStep lD)))=pure (df env.cells names acc):=by
  intro names
  induction names with
  |nil=>intro acc _;rfl
  |cons p r ih=>
   intro acc hp;obtain⟨n,k⟩:=p;rw[Uc];by_cases hk:k=.free
   ·obtain⟨c,e⟩:=hp (n,k) Tj hk;subst hk;have e2:cellOf env n=pure c:=(by unfold cellOf;rw[e]);simp only[beq_self_eq_true,if_true,e2,pure_bind];rw[ih _ λq hq=>hp q (Tl _ hq)]
    conv=>rhs;rw[df]
    simp[e]
   ·have hb:(k==NameKind.free)=false:=(by simpa using hk);simp only[hb,Ud,if_false,pure_bind];rw[ih _ λq hq=>hp q (Tl _ hq)]
    conv=>rhs;rw[df,br hk]
 have:=go scope.names [] h
 unfold closureFor;simp only[];rw[this];rfl
def bD(X:Cx)(scope:W8)(N:af)(cl:lD)(C:WW)(fp:aD)(s:WZ)(H:Hp)(E:bI):Cx where
 prog:=X.prog
 w:=X.w
 K:=X.K
 mg:=X.mg
 base:=X.base
 A:=X.A
 N:=N
 s₀:=s
 H₀:=H
 env:=compEnvC scope cl C X.env
 outer:=X.stack
 stack:=X.stack
 ex:=fp
 fn:=λ_=>false
 calm:=X.calm
 pn:=[]
 xe:=E
def t0(XN N:af)(names:pS)(ix:eV):Bool:=
 decide (ix.length=N.length)&&(N.zip ix).all λp=>match p.2 with
  |some i=>decide (XN[i]?=ag p.1)&&decide (names.lookup p.1=ag .free)
  |none=>true
def inBlock(ix:eV)(σ:St):St:=ix.map λo=>match o with
 |some i=>(σ[i]?).getD am
 |none=>am
def t0.len{XN N:af}{names:pS}{ix:eV}(h:t0 XN N names ix=true):ix.length=N.length:=by
 unfold t0 at h;rw[T6]at h;exact cr h.1
def t0.at_{XN N:af}{names:pS}{ix:eV}(h:t0 XN N names ix=true){j i:Nat}{x:Str}(h1:N[j]?=ag x)(h2:ix[j]?=ag (ag i)):XN[i]?=ag x/\names.lookup x=ag .free:=by
 unfold t0 at h;rw[T6]at h;have hm:(x,ag i)∈N.zip ix:=by
  have e:(N.zip ix)[j]?=ag (x,ag i):=by rw[List.getElem?_zip_eq_some];exact⟨h1,h2⟩
  exact TZ e
 have q:=List.all_eq_true.mp h.2 _ hm;simp only[T6]at q;exact⟨cr q.1,cr q.2⟩
theorem jB{env:Env}:∀{names:pS}{x:Str}{k:WV},
  (names.map λ(n,k)=>if(k==NameKind.free&&env.scope.kind==.function&&env.kindOf n==ag .cell)then(n,NameKind.cell)else(n,k)).lookup x=ag k->
  names.lookup x=ag k\/(names.lookup x=ag .free/\k=.cell)
 |[],_,_,h=>by simp at h
 |(n,k0)::r,x,k,h=>by
  have ih:=@jB env r x k
  replace h:List.lookup x ((if(k0==NameKind.free&&env.scope.kind==.function&&env.kindOf n==ag .cell)=true then(n,NameKind.cell)else(n,k0))::(r.map λ(n,k)=>if(k==NameKind.free&&env.scope.kind==.function&&env.kindOf n==ag .cell)then(n,NameKind.cell)else(n,k)))=ag k:=h
  by_cases hc:(k0==NameKind.free&&env.scope.kind==.function&&env.kindOf n==ag .cell)=true
  ·rw[ba hc]at h;have hk0:k0=.free:=by
    simp only[T6]at hc
    simpa using hc.1.1
   cases hx:x==n with
   |true=>
    simp only[Ub,hx]at h;simp only[Ub,hx];cases h;exact .inr ⟨by rw[hk0],rfl⟩
   |false=>
    simp only[Ub,hx]at h ⊢;exact ih h
  ·rw[br hc]at h;cases hx:x==n with
   |true=>
    simp only[Ub,hx]at h ⊢;exact .inl h
   |false=>
    simp only[Ub,hx]at h ⊢;exact ih h
def Mw(X:Cx)(ifs:aS)(t:TT):Prop:=
 ∀(pins:bg)(s:WZ)(σ:St)(H:Hp)(Q:Bool->Hp->Prop),Inv X pins σ H s->t σ H Q->
  Xa (model X.prog X.w) X.A (forIn ifs true λc r=>if r=true then do let ok<-isTrue c X.env (eval c X.env);pure (ForInStep.yield ok)else pure (ForInStep.yield r)) (TP X pins σ Q) X.xe s
def M1:TT:=λ_ H Q=>Q true H
def G8{X:Cx}:Mw X [] M1:=λ_ _ _ H _ I h=>wpAny_tests_nil ⟨H,I,h⟩
def Iw{X:Cx}{c:WX}{t:TT}(h:PT X c t):Mw X [c] t:=λpins s σ H Q I q=>wpAny_tests_one (h pins s σ H Q I q)
def jA{prog:W1}{w:W0}{A:W7}{R:Xv->ib}{s:WZ}{elt target iter:WX}{ifs:aS}{scope:W8}{pos:Pos}{it acc:WU}{env:Env}(I:Nat->ib)
  (turn:∀ n s,I n s->Xa (model prog w) A (pyNext it) (fun r s₁=>match r with
   |none=>R (.ok .next) s₁
   |some v=>Xa (model prog w) A (letOwnedTupleGo target it v) (λ_ s₁'=>Xa (model prog w) A (assign target env v) (λ_ s₂=>
     Xa (model prog w) A (forIn ifs true λc r=>if r=true then do let ok<-isTrue c env (eval c env);pure (ForInStep.yield ok)else pure (ForInStep.yield r)) (λok s₃=>
      if ok=true then Xa (model prog w) A (eval elt env) (λx s₄=>
       Xa (model prog w) A (call (.builtin "list.append") [acc,x]) (λ_ s₅=>∃m,m<n/\I m s₅) (notedBy (model prog w) A env λe s'=>R (.error e) s') s₄) (notedBy (model prog w) A env λe s'=>R (.error e) s') s₃
      else∃m,m<n/\I m s₃) (notedBy (model prog w) A env λe s'=>R (.error e) s') s₂) (notedBy (model prog w) A env λe s'=>R (.error e) s') s₁') (notedBy (model prog w) A env λe s'=>R (.error e) s') s₁) (notedBy (model prog w) A env λe s'=>R (.error e) s') s)
  (n:Nat) (h:I n s):
  Xw (model prog w) A (.compLoop (.ListComp elt [⟨target,iter,ifs,0⟩] scope pos) 0 it acc env) R s:=by
 refine codeAny_loop rfl I (λn s hI=>?_) n h;show Xa _ A ((compTurn (.ListComp elt [⟨target,iter,ifs,0⟩] scope pos) 0 it acc env).onRaise (λx=>do noteFrame x env;theTreesLotGoes x)) _ _ s;refine wpAny_noted ?_;rw[compTurn_list];refine Xp (wpAny_standAt (Xp (Xc (turn n s hI) (λr s₁ h₁=>?_) λ_ _ h'=>h')));cases r with
 |none=>exact Xo h₁
 |some v=>
  refine Xp (Xc h₁ (λ_ s₁' h₁'=>?_) λ_ _ h'=>h');refine Xp (Xc h₁' (λ_ s₂ h₂=>Xp (Xc h₂ (λok s₃ h₃=>?_) λ_ _ h'=>h')) λ_ _ h'=>h');cases ok with
  |false=>exact Xo ⟨rfl,h₃⟩
  |true=>
   exact Xp (Xp (Xc h₃ (λx s₄ h₄=>Xp (Xc h₄ (λ_ s₅ h₅=>Xo (Xo ⟨rfl,h₅⟩)) λ_ _ h'=>h')) λ_ _ h'=>h'))
noncomputable def MX(wi:TI)(g:TG)(tc:TT)(te:TE)(ix:eV):TE:=λσ H Q=>
 wi σ H λJ H1=>∀D,H1 D=am->∃W:Nat->Nat->St->Hp->Prop,(∃m,W 0 m (inBlock ix σ) (upd H1 D (.lst [])))/\
  ∀i m σ' H',W i m σ' H'->(J.stop i H'/\Q (.ref D) H') \/
   (J.go i H'/\∀ x H2,J.yld i H' x H2->g x σ' H2 fun σ3 H3=>tc σ3 H3 fun b H4 =>
    if b=true then te σ3 H4 λv H5=>∃acc,H5 D=ag (.lst acc)/\acc.length<W4/\∃m',m'<m/\W (i+1) m' σ3 (upd H5 D (.lst (acc++[v])))
    else∃m',m'<m/\W (i+1) m' σ3 H4)
section
variable{X:Cx}{elt tg iter:WX}{ifs:aS}{scope:W8}{pos:Pos}{N:af}{ix:eV}{wi:TI}{g:TG}{tc:TT}{te:TE}
def kh{pins:bg}{σ:St}{s2:WZ}{H2:Hp}{it:WW}{fp:aD}{tn:Nat->W3->Prop}{J:It}{Q:V->Hp->Prop}{E:bI}{RR:WU->WW->Xv->ib}{PX:Cx->Prop}
    (hc:X.calm=true) (hcell:∀y∈scope.names,y.2≠.cell) (hkind:scope.kind=.function)
    (hfr:∀y∈scope.names,y.2=.free->X.env.scope.names.lookup y.1=ag .cell\/X.env.scope.names.lookup y.1=ag .free)
    (hix:t0 X.N N scope.names ix=true)
    (hb:∀cl C fp s H E,PX (bD X scope N cl C fp s H E)->PG (bD X scope N cl C fp s H E) tg g/\Mw (bD X scope N cl C fp s H E) ifs tc/\PE (bD X scope N cl C fp s H E) elt te)
    (hPX:∀s3 H3,Inv X pins σ H3 s3->H3=upd H2 s2.heap.objs.size (.lst [])->s3.heap.objs.size=s2.heap.objs.size+1->PX (bD X scope N (df X.env.cells scope.names []) s3.heap.objs.size fp s3 H3 (notedBy (model X.prog X.w) X.A (compEnvC scope (df X.env.cells scope.names []) s3.heap.objs.size X.env) λe s'=>RR (.ref s2.heap.objs.size) s3.heap.objs.size (.error e) s')))
    (I2:Inv X pins σ H2 s2) (T:Turn X.prog X.w X.K tg J fp it tn) (st2:tn 0 s2.heap) (f2:∀b∈fp,nD X pins H2 b)
    (q:∀ D,H2 D=am->∃ W:Nat->Nat->St->Hp->Prop,(∃ m,W 0 m (inBlock ix σ) (upd H2 D (.lst []))) /\
      ∀i m σ' H',W i m σ' H'->(J.stop i H'/\Q (.ref D) H') \/
        (J.go i H'/\∀ x H3,J.yld i H' x H3->g x σ' H3 fun σ3 H3=>tc σ3 H3 fun b H4 =>
          if b=true then te σ3 H4 λv H5=>∃acc,H5 D=ag (.lst acc)/\acc.length<W4/\∃m',m'<m/\W (i+1) m' σ3 (upd H5 D (.lst (acc++[v])))
          else∃m',m'<m/\W (i+1) m' σ3 H4))
    (hRR:∀D C H' s' m,H2 D=am->s2.heap.objs.size<=C->H' C=am->s'.heap.Ns C m->(∀h',Wo C s'.heap h'->Inv X pins σ H' {s' with heap:=h'})->Q (.ref D) H'->RR (.ref D) C (.ok .next) s'):
    Xa (model X.prog X.w) X.A (newList []) (λacc s₃=>Xa (model X.prog X.w) X.A (newFunctionEnv scope X.env.globals (df X.env.cells scope.names []) [] X.env.qual am .none (ag X.env)) (λcenv s₄=>
      Xw (model X.prog X.w) X.A (.compStart (.ListComp elt [⟨tg,iter,ifs,0⟩] scope pos) 0 (.ref it) acc {cenv with scope:=relabel scope X.env}) (RR acc cenv.locals) s₄) E s₃) E s2:=by
  refine X5 (wpAny_newFunctionEnv hcell (by intro y hy;simp at hy) (λh₁ hns₁ hsb₁=>?_) hkind);dsimp only at hns₁ hsb₁ ⊢;have I3:Inv X pins σ (upd H2 s2.heap.objs.size (.lst [])) {s2 with heap:=s2.heap.push {cls:=.type "list",dict:=am,data:=.seq ([]:bA).toArray},toks:=s2.toks}:=I2.lnew (its:=[]) (t':=s2.toks) .nil (TH _);generalize hs3:({s2 with heap:=s2.heap.push {cls:=.type "list",dict:=am,data:=.seq ([]:bA).toArray},toks:=s2.toks}:WZ)=s3 at I3;have eh3:s2.heap.push {cls:=.type "list",dict:=am,data:=.seq ([]:bA).toArray}=s3.heap:=by rw[<-hs3]
  rw[eh3]at hns₁ hsb₁ ⊢;have hC3:s3.heap.objs.size=s2.heap.objs.size+1:=by rw[<-eh3,Wq]
  have hD:H2 s2.heap.objs.size=none:=I2.fresh;obtain⟨W,⟨m0,w0⟩,turn⟩:=q s2.heap.objs.size hD;generalize hH3:upd H2 s2.heap.objs.size (.lst [])=H3 at I3 w0;have old:∀b o,s3.heap.get? b=ag o->h₁.get? b=ag o:=λb o e=>hsb₁.extBut b o (Tf (Wn e)) (Wp _ e);have fpH3:∀b∈fp,H3 b=none:=λb hb'=>by
    rw[<-hH3,aL]
    ·exact(f2 b hb').1
    · obtain⟨o,e,_⟩:=T.obj _ _ st2 b hb'
      exact Tf (Wn e)
  have fpLt:∀b∈fp,b<s3.heap.objs.size:=λb hb'=>by
    obtain⟨o,e,_⟩:=T.obj _ _ st2 b hb';rw[hC3];exact Nat.lt_succ_of_lt (Wn e)
  have hfree:∀p∈scope.names,p.2=.free->∃c,X.env.cells.lookup p.1=ag c:=λp hp hk=>I2.ok.has p.1 (hfr p hp hk);have csub:∀x c,(df X.env.cells scope.names []).lookup x=ag c->X.env.cells.lookup x=ag c:=ic scope.names [] (λx c e=>by simp at e);have names':∀x k,(relabel scope X.env).names.lookup x=ag k->scope.names.lookup x=ag k\/(scope.names.lookup x=ag .free/\k=.cell):=λx k h=>jB h;have ok:(bD X scope N (df X.env.cells scope.names []) s3.heap.objs.size fp s3 H3 (notedBy (model X.prog X.w) X.A (compEnvC scope (df X.env.cells scope.names []) s3.heap.objs.size X.env) λe s'=>RR (.ref s2.heap.objs.size) s3.heap.objs.size (.error e) s')).Ok:=
    { mod:=I3.ok.mod
      kind:=hkind
      glob:=I3.ok.glob
      blt:=I3.ok.blt
      above:=Tt _
      inj:=λx y c h1 h2=>I3.ok.inj x y c (csub x c h1) (csub y c h2)
      has:=λx hx=>by
        have fr:scope.names.lookup x=ag .free:=by
          rcases hx with hx|hx
          · rcases names' x .cell hx with h|⟨h,_⟩
            ·exact bt rfl (hcell _ (PySem.mem_of_lookup h))
            ·exact h
          · rcases names' x .free hx with h|⟨_,h⟩
            ·exact h
            ·cases h
        have hm:=PySem.mem_of_lookup fr;exact Option.isSome_iff_exists.mp (hJ scope.names [] x hm (hfree _ hm rfl))
      cab:=λx c h _=>by cases h
      hd:=I3.ok.hd
      frames:=I3.ok.frames
      stk:=.inl rfl
      exf:=λb hb'=>⟨Tf (fpLt b hb'),λx c e=>(f2 b hb').2.2.2.2.1 x c (csub x c e)⟩
      bs:=λb o e=>I3.bs b o e
      bsz:=Tg I3.ok.bsz I3.sz
      noex:=λb o e hb'=>by
        obtain⟨_,_,_,h4,_⟩:=f2 b hb';rcases h4 with h4|h4
        ·exact I3.ok.noex b o e h4
        ·exact bt (Td (Wn (I3.ok.bs b o e).1) h4) (Te _)
      exfs:=λb hb' hs=>by
        obtain⟨_,h2,h3,_⟩:=f2 b hb';rcases List.mem_cons.mp (I3.stkSub b hs)with e|e
        ·exact h2 e
        ·exact h3 e
      funs:=I3.stack
      frf:=λb hb'=>I3.stkFree b hb'}
  have px:=hPX s3 H3 I3 hH3.symm hC3;generalize hE:(notedBy (model X.prog X.w) X.A (compEnvC scope (df X.env.cells scope.names []) s3.heap.objs.size X.env) λe s'=>RR (.ref s2.heap.objs.size) s3.heap.objs.size (.error e) s')=E' at ok px;obtain⟨hg,htc,hel⟩:=hb (df X.env.cells scope.names []) s3.heap.objs.size fp s3 H3 E' px;have Istart:∀tk,Inv (bD X scope N (df X.env.cells scope.names []) s3.heap.objs.size fp s3 H3 E') [] (inBlock ix σ) H3 {s3 with heap:=h₁,toks:=tk}:=λtk=>by
    refine⟨ok,rfl,I3.bare,Un.kept old,⟨_,hns₁,λj x v e1 e2 _=>?_⟩,λx c e=>?_,I3.fresh,λx c e=>I3.freeC x c (csub x c e),λp hp=>bt (show p∈([]:bg)from hp) (by simp),I3.hok.kept old,?_⟩
    ·
      unfold inBlock at e2;rw[TV]at e2;cases q1:ix[j]? with
      |none=>rw[q1]at e2;simp at e2
      |some o=>
        rw[q1]at e2;cases o with
        |none=>simp at e2
        |some i=>
          obtain⟨n1,n2⟩:=t0.at_ hix e1 q1;have e2':(σ[i]?).getD am=ag v:=Option.some.inj e2;have e3:σ[i]?=ag (ag v):=by
            cases q2:σ[i]? with
            |none=>rw[q2]at e2';simp at e2'
            |some o2=>rw[q2]at e2';simpa using e2'
          obtain⟨m,hn,hl⟩:=I3.loc;have hm:=PySem.mem_of_lookup n2;have hk:=hfr _ hm rfl;have hv:Mx X.env.scope x:=by
            rcases hk with hk|hk
            ·exact .inr (.inl hk)
            ·exact .inr (.inr hk)
          obtain⟨u,r,l⟩:=hl i x v n1 e3 hv;refine⟨u,r,.inr ?_⟩;rcases l with⟨kl,_⟩|⟨_,c,hcx,hcell'⟩
          · have kl':X.env.scope.names.lookup x=ag .local:=kl
            rcases hk with hk|hk
            ·rw[kl']at hk;cases hk
            ·rw[kl']at hk;cases hk
          · obtain⟨c',hc'⟩:=Option.isSome_iff_exists.mp (hJ (cells:=X.env.cells) scope.names [] x hm ⟨c,hcx⟩)
            have ec:c'=c:=Option.some.inj ((csub x c' hc').symm.trans hcx);subst ec;refine⟨?_,c',hc',?_⟩
            ·
              show(relabel scope X.env).names.lookup x=ag .cell\/(relabel scope X.env).names.lookup x=ag .free;have gen:∀names:pS,names.lookup x=ag .free->((names.map λ(n,k)=>if(k==NameKind.free&&X.env.scope.kind==.function&&X.env.kindOf n==ag .cell)then(n,NameKind.cell)else(n,k)).lookup x=ag .cell\/(names.map λ(n,k)=>if(k==NameKind.free&&X.env.scope.kind==.function&&X.env.kindOf n==ag .cell)then(n,NameKind.cell)else(n,k)).lookup x=ag .free):=by
                intro names
                induction names with
                |nil=>intro h;simp at h
                |cons p r ih=>
                  obtain⟨n,k⟩:=p;intro h;show List.lookup x ((if(k==NameKind.free&&X.env.scope.kind==.function&&X.env.kindOf n==ag .cell)=true then(n,NameKind.cell)else(n,k))::_)=_\/List.lookup x ((if(k==NameKind.free&&X.env.scope.kind==.function&&X.env.kindOf n==ag .cell)=true then(n,NameKind.cell)else(n,k))::_)=_;cases hx:x==n with
                  |true=>
                    simp only[Ub,hx]at h;by_cases hcc:(k==NameKind.free&&X.env.scope.kind==.function&&X.env.kindOf n==ag .cell)=true
                    ·rw[ba hcc];left;simp only[Ub,hx]
                    ·rw[br hcc];right;simp only[Ub,hx];exact h
                  |false=>
                    simp only[Ub,hx]at h;by_cases hcc:(k==NameKind.free&&X.env.scope.kind==.function&&X.env.kindOf n==ag .cell)=true
                    ·rw[ba hcc];simp only[Ub,hx];exact ih h
                    ·rw[br hcc];simp only[Ub,hx];exact ih h
              exact gen scope.names n2
            ·exact hcell'.keeps old
    · obtain⟨v,z⟩:=I3.cell x c (csub x c e)
      exact⟨v,z.keeps old⟩
    · show(inBlock ix σ).length=N.length
      unfold inBlock;rw[Tz];exact t0.len hix
  have stat:∀{H':Hp},(∀b∈fp,H' b=am)->∀b∈fp,nD (bD X scope N (df X.env.cells scope.names []) s3.heap.objs.size fp s3 H3 E') [] H' b:=λhn b hb'=>
    ⟨hn b hb',(ok.exf b hb').1,ok.exfs b hb',.inl hb',(ok.exf b hb').2,λp hp=>bt (show p∈([]:bg)from hp) (by simp)⟩
  have tn1:tn 0 h₁:=T.keep _ _ _ st2 λb hb' o e=>old b o (by rw[<-eh3];exact Wp _ e);have loop:∀tk,Xw (model X.prog X.w) X.A (.compLoop (.ListComp elt [⟨tg,iter,ifs,0⟩] scope pos) 0 (.ref it) (.ref s2.heap.objs.size) (compEnvC scope (df X.env.cells scope.names []) s3.heap.objs.size X.env))
      (RR (.ref s2.heap.objs.size) s3.heap.objs.size) {s3 with heap:=h₁,toks:=tk}:=by
    intro tk;refine jA (λn s'=>∃i σ' H',Inv (bD X scope N (df X.env.cells scope.names []) s3.heap.objs.size fp s3 H3 E') [] σ' H' s'/\tn i s'.heap/\(∀b∈fp,H' b=am)/\W i n σ' H') ?_ m0 ⟨0,_,_,Istart tk,tn1,fpH3,w0⟩;rintro n s5 ⟨i,σ5,H5,I5,st5,fr5,w5⟩;rw[hE];rcases turn i n σ5 H5 w5 with⟨stop,qn⟩|⟨go,step⟩
    · refine cR (T.done (bD X scope N (df X.env.cells scope.names []) s3.heap.objs.size fp s3 H3 E') rfl rfl rfl hc i [] s5 σ5 H5 _ I5 (stat fr5) st5 stop) λr s6 Z=>Z.e λhr I6=>?_
      subst hr;obtain⟨m6,hn6,_⟩:=I6.loc;refine hRR s2.heap.objs.size s3.heap.objs.size H5 s6 m6 hD (by rw[hC3];exact TK _) I6.free hn6 (λh' sb=>?_) qn;have ne:∀b o,s3.heap.get? b=ag o->b≠s3.heap.objs.size:=λb o e=>Tf (Wn e);refine I3.call' (s':={s6 with heap:=h'}) (H':=H5) (ch:=fp) I6.os ⟨λb o e n hb' hx=>?_,λb o e n hb' hx=>?_,λb o e n hx=>?_,λb o e hx=>?_,I6.base.tups,I6.base.frzs,I6.base.tbls⟩ ?_ I6.bare λb hb'=>?_
      ·exact(sb.2 b (ne b o e)).trans (I6.base.keep b o e n hb' hx)
      · obtain⟨sl,e1⟩:=I6.base.slot b o e n hb' hx
        exact⟨sl,(sb.2 b (ne b o e)).trans e1⟩
      ·exact I6.base.free b o e n hx
      · obtain⟨o',e1⟩:=I6.base.there b o e hx
        exact⟨o',(sb.2 b (ne b o e)).trans e1⟩
      · intro b ob e
        have hfreeC:H5 s3.heap.objs.size=none:=I6.free;refine(I6.hok b ob e).stay (λc v hcc q=>(sb.2 c ?_).trans q) (λ_ q=>q) λ_ _ q=>q;rintro rfl;rcases hcc with rfl|hcc
        ·rw[hfreeC]at e;cases e
        ·rw[hfreeC]at hcc;cases hcc
      · obtain⟨_,h2',_,h4',h5',h6'⟩:=f2 b hb'
        exact⟨h4',h2',h5',h6'⟩
    · refine cR (T.item (bD X scope N (df X.env.cells scope.names []) s3.heap.objs.size fp s3 H3 E') rfl rfl rfl hc i [] s5 σ5 H5 _ I5 (stat fr5) st5 go) λr s6 Z=>Z.e λu Z=>Z.e λhr h6=>?_
      subst hr;refine cR h6 λ_ s7 Z=>Z.e λx Z=>Z.e λH7 Z=>Z.e λI7 Z=>Z.e λr7 Z=>Z.e λy7 Z=>Z.e λst7 fr7=>?_;have I7':=I7.pinned (stat fr7) (T.obj _ _ st7);refine cR (hg _ s7 σ5 H7 x u _ I7' r7 (step x H7 y7)) λ_ s8 Z=>Z.e λσ8 Z=>Z.e λH8 Z=>Z.e λI8 q8=>?_;refine cR (htc _ s8 σ8 H8 _ I8 q8) λb s9 Z=>Z.e λH9 Z=>Z.e λI9 q9=>?_;have again:∀{σ':St}{H':Hp}{s':WZ}{m':Nat},Inv (bD X scope N (df X.env.cells scope.names []) s3.heap.objs.size fp s3 H3 E') ([]++j9 fp s7.heap) σ' H' s'->m'<n->W (i+1) m' σ' H'->
          ∃m,m<n/\∃i σ' H',Inv (bD X scope N (df X.env.cells scope.names []) s3.heap.objs.size fp s3 H3 E') [] σ' H' s'/\tn i s'.heap/\(∀b∈fp,H' b=am)/\W i m σ' H':=λ{σ' H' s' m'} I' hm w'=>by
        refine⟨m',hm,i+1,σ',H',I'.unpinned,T.keep _ _ _ st7 λb hb' o e=>(I'.pin (b,o) (Tu _ (Tu _ (gA hb' e)))).1,λb hb'=>?_,w'⟩;obtain⟨o,e,d⟩:=T.obj _ _ st7 b hb';exact(I'.pin (b,o) (Tu _ (Tu _ (gA hb' e)))).2.1
      cases b with
      |false=>
        rw[br Tq]at q9 ⊢;obtain⟨m',hm,w9⟩:=q9;exact again I9 hm w9
      |true=>
        rw[ba rfl]at q9 ⊢;refine cR (hel _ s9 σ8 H9 _ I9 q9) λy s10 Z=>Z.e λv Z=>Z.e λH10 Z=>Z.e λI10 Z=>Z.e λr10 q10=>?_;obtain⟨acc,ha,hz,m',hm,w10⟩:=q10;refine cR (my _ s10 σ8 H10 (.ref s2.heap.objs.size) [v] (.ref s2.heap.objs.size) [y] (λ_ H'=>H'=upd H10 s2.heap.objs.size (.lst (acc++[v]))) I10 rfl (.cons r10 .nil) ⟨_,acc,v,rfl,rfl,ha,hz,rfl⟩) λ_ s11 Z=>Z.e λ_ Z=>Z.e λH11 Z=>Z.e λI11 Z=>Z.e λ_ Pb=>?_;subst Pb;exact again I11 hm w10
  subst hs3;exact codeAny_compStart_list (loop _) (T.self _ 0 _ _ _ tn1 (loop _))
def JD(hc:X.calm=true)(hcell:∀y∈scope.names,y.2≠.cell)(hkind:scope.kind=.function)(hnames:∀y∈scope.names,y.2=.local->scope.names.lookup y.1=ag .local)
  (hfr:∀y∈scope.names,y.2=.free->X.env.scope.names.lookup y.1=ag .cell\/X.env.scope.names.lookup y.1=ag .free)
  (hix:t0 X.N N scope.names ix=true) (hi:PI X tg iter wi)
  (hb:∀cl C fp s H E,PG (bD X scope N cl C fp s H E) tg g/\Mw (bD X scope N cl C fp s H E) ifs tc/\PE (bD X scope N cl C fp s H E) elt te)
  (hs:∀x,Xr iter X.env x=pure x:=by intro _;rfl):PE X (.ListComp elt [⟨tg,iter,ifs,0⟩] scope pos) (MX wi g tc te ix):=by
 intro pins s σ H Q I h;rw[eval_ListComp];refine Yb (use:=am) rfl hs (iF λp hp hk=>I.ok.has p.1 (hfr p hp hk)) hkind hnames (cR (hi pins s σ H _ I h) λv s1 h1=>cR h1 λitv s2 h2=>?_);obtain⟨it,fp,tn,J,H2,e,I2,T,st2,f2,q⟩:=h2;subst e;refine kh (Q:=Q) (RR:=λacc C=>compPost (model X.prog X.w) X.A X.xe am (EP X pins σ Q) acc C) (PX:=λ_=>True) hc hcell hkind hfr hix (λcl C fp s H E _=>hb cl C fp s H E) (λ_ _ _ _ _=>trivial) I2 T st2 f2 q ?_;intro D C H' s' m _ _ _ hn hI hq;exact⟨m,hn,λh' sb=>⟨.ref D,H',hI h' sb,rfl,hq⟩⟩
def JY{i:Nat}{y:Str}{py spos:Pos}(hN:X.N.Nodup)(hi':X.N[i]?=ag y)(hx:Loc X.env.scope y)
  (hc:X.calm=true) (hcell:∀y∈scope.names,y.2≠.cell) (hkind:scope.kind=.function) (hnames:∀y∈scope.names,y.2=.local->scope.names.lookup y.1=ag .local)
  (hfr:∀y∈scope.names,y.2=.free->X.env.scope.names.lookup y.1=ag .cell\/X.env.scope.names.lookup y.1=ag .free)
  (hix:t0 X.N N scope.names ix=true) (hi:PI X tg iter wi)
  (hb:∀cl C fp s H E,PG (bD X scope N cl C fp s H E) tg g/\Mw (bD X scope N cl C fp s H E) ifs tc/\PE (bD X scope N cl C fp s H E) elt te)
  (hsw:swapsWith (.ListComp elt [⟨tg,iter,ifs,0⟩] scope pos) (ag (.Name y py)) spos.line X.env=pure true:=by rfl)
  (hs:∀x,Xr iter X.env x=pure x:=by intro _;rfl)
  (hf:X.fn y=true\/X.env.scope.names.lookup y=ag .local:=by first|exact .inl rfl|exact .inr rfl|assumption):
  PS X (.Assign [.Name y py] (.ListComp elt [⟨tg,iter,ifs,0⟩] scope pos) spos) (FY (MX wi g tc te ix) (si i)):=by
 intro pins s σ H D0 I h;rw[exec_Assign_Name_used _ _ _ _ hsw];refine Xp (wpAny_standAt (Xp ?_));show Xa _ X.A (do let _<-comprehension (.ListComp elt [⟨tg,iter,ifs,0⟩] scope pos) scope X.env _ (newList []) false (eval iter X.env) (ag (assign (.Name y py) X.env))) _ _ s;refine Xp (cR (Yb (use:=ag (assign (.Name y py) X.env)) (Q:=λ_ s'=>SP X pins D0 .next s') rfl hs (iF λp hp hk=>I.ok.has p.1 (hfr p hp hk)) hkind hnames
  (cR (hi pins s σ H _ I h) λv s1 h1=>cR h1 λitv s2 h2=>?_)) λ_ s' hq=>Xo (Xo hq))
 obtain⟨it,fp,tn,J,H2,e,I2,T,st2,f2,q⟩:=h2;subst e;refine kh (Q:=λv H'=>si i v σ H' D0.nx) (RR:=λacc C=>compPost (model X.prog X.w) X.A X.xe (ag (assign (.Name y py) X.env)) (λ_ s'=>SP X pins D0 .next s') acc C) (PX:=λ_=>True) hc hcell hkind hfr hix (λcl C fp s H E _=>hb cl C fp s H E) (λ_ _ _ _ _=>trivial) I2 T st2 f2 q ?_;intro D C H' s' m _ hC hfree hn hI hq;have I':Inv X pins σ H' s':=hI s'.heap (.refl ..);have nL:C≠X.env.locals:=Tr (Td I2.lt hC);have nC:∀x c,X.env.cells.lookup x=ag c->c≠C:=λx c e z=>by
  obtain⟨v,q⟩:=I2.cell x c e;exact bt (Td q.lt (by rw[z];exact hC)) (Te _)
 have nP:∀p∈X.pn++pins,p.1≠C:=λp hp z=>bt (Td (Wn (I2.pin p hp).1) (by rw[z];exact hC)) (Te _);show Xa _ X.A (assign (.Name y py) X.env (.ref D)) _ _ _;refine Xl (rm I' hN hi' hx (v:=.ref D) rfl (λs'' I'' ch=>?_) hf);obtain⟨a,sb,ha⟩:=ch;have hCa:C≠a:=by
  rcases ha with ha|ha
  ·rw[ha];exact nL
  ·exact Ne.symm (nC y a ha)
 refine⟨m,hn.sameBut sb hCa,λh' sb'=>⟨_,H',?_,hq⟩⟩;exact I''.turned (t':=s''.toks) (λb o hb' e=>(sb'.2 b hb').trans e) hfree nL (.inr (Tg I2.sz hC)) nC nP
end
end L2
namespace TG
section
def DP{α:Type}:Sem α->Prop
 |.pure _=>True
 |.raise _=>True
 |.unsupported _=>True
 |.finish _=>True
 |.rule _ k=>DP (k ())
 |.at _ k=>DP (k ())
 |.load _ _ k=>∀o,DP (k o)
 |.update _ _ f k=>(∀o,(f o).dict=o.dict)/\DP (k ())
 |.loadIfAlive _ k=>∀o,DP (k o)
 |.point _ k=>DP (k ())
 |.alloc _ k=>∀a,DP (k a)
 |.fresh k=>∀a,DP (k a)
 |.ask k=>∀a,DP (k a)
 |.stack k=>∀a,DP (k a)
 |_=>False
theorem DP.bind{α β:Type}{f:α->Sem β}(hf:∀a,DP (f a)):∀{m:Sem α},DP m->DP (m >>= f):=λ{m} h=>by
 show DP (m.bind f)
 induction m with
 |pure a=>exact hf a
 |raise _=>trivial
 |unsupported _=>trivial
 |finish _=>trivial
 |rule _ k ih=>exact ih () h
 |«at» _ k ih=>exact ih () h
 |load _ _ k ih=>exact λo=>ih o (h o)
 |update _ _ g k ih=>exact⟨h.1,ih () h.2⟩
 |loadIfAlive _ k ih=>exact λo=>ih o (h o)
 |point _ k ih=>exact ih () h
 |alloc _ k ih=>exact λo=>ih o (h o)
 |fresh k ih=>exact λo=>ih o (h o)
 |ask k ih=>exact λo=>ih o (h o)
 |stack k ih=>exact λo=>ih o (h o)
 |_=>exact h.elim
def DS(h h':W3):Prop:=∀(a:Nat)(o:Obj),h.objs[a]?=ag o->∃o',h'.objs[a]?=ag o'/\o'.dict=o.dict
def DS.refl(h:W3):DS h h:=λ_ o e=>⟨o,e,rfl⟩
theorem DS.trans{h1 h2 h3:W3}(x:DS h1 h2)(y:DS h2 h3):DS h1 h3:=λa o e=>by
 obtain⟨o1,e1,d1⟩:=x a o e;obtain⟨o2,e2,d2⟩:=y a o1 e1;exact⟨o2,e2,d2.trans d1⟩
def wm{h:W3}{a:WW}{o:Obj}(e:h.get? a=ag o):h.objs[a]?=ag o:=by
 unfold Heap.get? at e;split at e
 ·cases e
 ·exact e
theorem DS.dict{h h':W3}(x:DS h h'){a:WW}{o o':Obj}(e:h.get? a=ag o)(e':h'.get? a=ag o'):o'.dict=o.dict:=by
 obtain⟨o1,e1,d1⟩:=x a o (wm e);rw[wm e']at e1;cases e1;exact d1
theorem DS.push(h:W3)(o:Obj):DS h (h.push o):=λa u e=>⟨u,by
 show(h.objs.push o)[a]?=_
 have:=(Array.getElem?_eq_some_iff.mp e).1
 rw[Array.getElem?_push,br ‹0›];exact e,rfl⟩
def DS.upd(h:W3)(b:WW){f:Obj->Obj}(hf:∀o,(f o).dict=o.dict):DS h (h.update b f):=λa u e=>by
 show∃o',(h.objs.modify b f)[a]?=ag o'/\_;rw[Array.getElem?_modify,e];split
 ·exact⟨_,rfl,hf u⟩
 ·exact⟨_,rfl,rfl⟩
theorem DP.wp{α:Type}{M:W9}{Γ:PySem.Ctx}{Q:α->Pos->WZ->Prop}{E:WU->Pos->WZ->Prop}{t:Sem α}(d:DP t){p:Pos}{s:WZ}(h:Sem.wp M Γ t Q E p s):Sem.wp M Γ t (λa p' s'=>Q a p' s'/\DS s.heap s'.heap) (λa p' s'=>E a p' s'/\DS s.heap s'.heap) p s:=by
 have go:∀(h0:W3)(p:Pos)(s:WZ),DS h0 s.heap->Sem.wp M Γ t Q E p s->Sem.wp M Γ t (λa p' s'=>Q a p' s'/\DS h0 s'.heap) (λa p' s'=>E a p' s'/\DS h0 s'.heap) p s:=by
  intro h0;clear h
  induction t with
  |pure a=>exact λp s z h=>⟨h,z⟩
  |raise a=>exact λp s z h=>⟨h,z⟩
  |unsupported _=>exact λp s z h=>h
  |finish _=>exact λp s z h=>h
  |rule _ k ih=>exact λp s z h=>ih () d p s z h
  |«at» q k ih=>exact λp s z h=>ih () d q s z h
  |load a _ k ih=>exact λp s z h=>let ⟨o,ho,h⟩:=h;⟨o,ho,ih o (d o) p s z h⟩
  |update a _ f k ih=>exact λp s z h=>⟨h.1,ih () d.2 p _ (z.trans (DS.upd _ a d.1)) h.2⟩
  |loadIfAlive a k ih=>exact λp s z h=>ih _ (d _) p s z h
  |point _ k ih=>exact λp s z h=>ih () d p s z h
  |alloc o k ih=>exact λp s z h=>ih _ (d _) p _ (z.trans (DS.push _ o)) h
  |fresh k ih=>exact λp s z h=>ih _ (d _) p _ z h
  |ask k ih=>exact λp s z h=>ih _ (d _) p _ z h
  |stack k ih=>exact λp s z h=>ih _ (d _) p _ z h
  |_=>exact d.elim
 exact go s.heap p s (DS.refl _) h
def DP.any{α:Type}{M:W9}{A:W7}{Q:α->WZ->Prop}{E:WU->WZ->Prop}{t:Sem α}{s:WZ}(d:DP t)(h:Xa M A t Q E s):Xa M A t (λa s'=>Q a s'/\DS s.heap s'.heap) E s:=λΓ p hi=>Sem.wp_mono _ _ _ (λ_ _ _ x=>x) (λ_ _ _ x=>x.1) _ _ (d.wp (h Γ p hi))
def DP.go{M:W9}{A:W7}{Q:Unit->WZ->Prop}{E:WU->WZ->Prop}{t:Sem Unit}{s:WZ}{P:W3->Prop}(d:DP t)(h:Xa M A t (λ_ s'=>∃h',s'={s with heap:=h'}/\P h') E s)(k:∀h',P h'->DS s.heap h'->Q () {s with heap:=h'}):Xa M A t Q E s:=Xc (d.any h) (λ_ s' z=>by
 obtain⟨⟨h',rfl,p⟩,ds⟩:=z;exact k h' p ds) λ_ _ z=>z
def kJ(v:WU)(i:Nat):DP (field v i):=by
 unfold field fieldsOf;cases v with
 |ref a=>
  refine DP.bind (λxs=>?_) ?_
  ·split<;>trivial
  ·refine DP.bind (λo=>?_) (λo=>trivial);split<;>trivial
 |_=>exact DP.bind (λxs=>by split<;>trivial) trivial
def zM(a:WW):DP (load a):=λ_=>trivial
def KL(f:Array WU->Array WU)(o:Obj):(Obj.mapFields f o).dict=o.dict:=by
 unfold Obj.mapFields;split<;>rfl
def xE(v:WU)(i:Nat)(x:WU):DP (setField v i x):=by
 unfold setField;cases v with
 |ref a=>
  unfold updateField;refine DP.bind (λo=>?_) (zM a);split
  ·split
   ·exact⟨KL _,trivial⟩
   ·trivial
  ·trivial
 |_=>trivial
def mz(e:WU)(f:Option WW):DP (setFlight e f):=by
 unfold setFlight;refine DP.bind (λtb=>?_) (kJ _ _);split
 ·exact xE _ _ _
 ·trivial
def Eh:DP stack:=λ_=>trivial
def El:DP underTheClaimsCaller:=by
 unfold underTheClaimsCaller;exact λ_=>trivial
theorem vT:∀l:List Env,DP (readyFrames l)
 |[]=>trivial
 |env::outer=>by
  unfold readyFrames;cases env.frame with
  |none=>trivial
  |some f=>
   refine DP.bind ?_ (zM f);intro o;split
   ·trivial
   ·refine DP.bind ?_ ?_
    ·intro b;refine DP.bind ?_ ?_
     ·intro b;refine DP.bind ?_ ?_
      ·intro _;exact vT outer
      ·exact⟨λ_=>rfl,trivial⟩
     ·unfold keptBack;split
      ·split
       ·trivial
       ·refine DP.bind ?_ El;intro _;trivial
      ·trivial
    ·unfold behindIsImport;split
     ·trivial
     ·split
      ·trivial
      ·refine DP.bind ?_ (kJ _ _);intro _;trivial
def Jp:DP frameEnvs:=λ_=>trivial
def x9(env:Env):DP (frameOf env):=by
 unfold frameOf;refine DP.bind ?_ Jp;intro l;refine DP.bind ?_ ?_
 ·intro f;split<;>trivial
 ·unfold frameObject;split
  ·trivial
  ·refine DP.bind ?_ (vT _);intro _;trivial
def Kf(ty:String)(vs:List WU):DP (newFields ty vs):=by
 unfold newFields newObj;dsimp only;split
 ·trivial
 ·exact λ_=>trivial
def Fp(f:WW)(b:Bool):DP (entryPlaceOf f b):=by
 unfold entryPlaceOf;refine DP.bind ?_ Eh;intro l;split<;>trivial
def zh(e:WU)(env:Env):DP (noteFrame e env):=by
 unfold noteFrame;cases env.frame with
 |none=>trivial
 |some f=>
  have tl:∀head:WU,DP (do setField e 1 (<-EntryCells.newEntry head (<-frameOf env) .none (rawInt f) .none (<-entryPlaceOf f (head !=.none)))):=λhead=>by
   refine DP.bind ?_ (x9 env);intro a;refine DP.bind ?_ (Fp _ _);intro b;refine DP.bind ?_ (Kf _ _);intro c;exact xE _ _ _
  refine DP.bind ?_ (kJ _ _);intro head;dsimp only;split
  ·refine DP.bind ?_ (kJ _ _);intro x;split
   ·trivial
   ·refine DP.bind ?_ (xE _ _ _);intro _;exact tl head
  ·exact tl head
def pG(env:Env)(e:WU):DP (leaving env e):=by
 unfold leaving;refine DP.bind ?_ (zh _ _);intro _;exact mz _ _
inductive D where
 |non|bl (b:Bool)|int (i:Int)|str (x:Str)|tup (xs:List D)|lst (xs:List D)
 |dct (ks vs:List D)|obj (c:Str) (fs:af) (vs:List D)|exc (c:Str) (fs:af) (vs:List D)|kt (xs:af)
abbrev bE:=Option D
def uX:Key->D
 |.inl i=>.int i
 |.inr x=>.str x
def clsAt(K:VC)(c:Str)(C:WW):Prop:=V5 K W5 c=ag (ag (.ref C))
def xW(C a:WW)(dx:Option WW):(WW->Prop)->W3->Prop:=λ_ h=>∃o,h.get? a=ag o/\o.cls=.ref C/\o.dict=dx/\V6 o=true
def KTup(K:VC)(a:WW)(xs:af):Prop:=∃(o:Obj)(its:Array WU)(n:Nat),K.lookup a=ag o/\o.cls=.type "tuple"/\o.data=.seq its n/\its.size<=W4/\Vals (xs.map V.str) its.toList
mutual
noncomputable def dS(K:VC)(H:Hp):D->V->Prop
 |.non,v=>v=.non
 |.bl b,v=>v=.bl b
 |.int i,v=>v=.int i
 |.str x,v=>v=.str x
 |.tup xs,v=>∃a vs,v=.ref a/\H a=ag (.tup vs)/\aY K H xs vs
 |.lst xs,v=>∃a vs,v=.ref a/\km K H a vs/\aY K H xs vs
 |.dct ks ds,v=>∃a vs,v=.ref a/\aY K H ds vs/\((∃kvs:List (Key×V),H a=ag (.dK kvs)/\ks=kvs.map (λp=>uX p.1)/\vs=kvs.map (·.2)) \/
   (∃kvs:List (List Key×V),H a=ag (.dT kvs)/\ks=kvs.map (λp=>.tup (p.1.map uX))/\vs=kvs.map (·.2)) \/
   ∃(kvs:List (List Key×V))(o:Obj),H a=ag (.frz o (.dT kvs))/\ks=.non::kvs.map (λp=>.tup (p.1.map uX))/\vs=kvs.map (·.2))
 |.obj c fs ds,v=>∃a vs,v=.ref a/\aY K H ds vs/\fs.length=vs.length/\∃C dx,clsAt K c C/\H a=ag (.ins C dx (fs.zip vs))
 |.exc c fs ds,v=>∃a vs,v=.ref a/\aY K H ds vs/\fs.length=vs.length/\∃C dx,clsAt K c C/\H a=ag (.ext (xW C a dx))/\(fs=[]\/∃d,dx=ag d/\H d=ag (.xd (fs.zip vs)))
 |.kt xs,v=>∃a,v=.ref a/\KTup K a xs
noncomputable def aY(K:VC)(H:Hp):List D->aN->Prop
 |[],vs=>vs=[]
 |x::xs,vs=>∃v r,vs=v::r/\dS K H x v/\aY K H xs r
end
def Bt{K:VC}{H H':Hp}{a:WW}{xs:aN}(e:aO H H')(h:lW K H a xs):lW K H' a xs:=by
 rcases h with(h|⟨o,h⟩)|h
 ·exact .inl (.inl (e _ _ h))
 ·exact .inl (.inr ⟨o,e _ _ h⟩)
 ·exact .inr h
def cF{K:VC}{H H':Hp}{a:WW}{xs:aN}(e:aO H H')(h:H a=ag (.tup xs)):lW K H' a xs:=lW.of (e _ _ h)
mutual
theorem dS.mono{K:VC}{H H':Hp}(e:aO H H'):∀{d:D}{v:V},dS K H d v->dS K H' d v
 |.non,_,h=>h
 |.bl _,_,h=>h
 |.int _,_,h=>h
 |.str _,_,h=>h
 |.tup xs,_,h=>by
  obtain⟨a,vs,e1,h1,h2⟩:=h;exact⟨a,vs,e1,e _ _ h1,aY.mono e h2⟩
 |.lst xs,_,h=>by
  obtain⟨a,vs,e1,h1,h2⟩:=h;exact⟨a,vs,e1,e.seq h1,aY.mono e h2⟩
 |.dct _ ds,_,h=>by
  obtain⟨a,vs,e1,h1,h2⟩:=h;refine⟨a,vs,e1,aY.mono e h1,?_⟩;rcases h2 with⟨kvs,h2,h3⟩|⟨kvs,h2,h3⟩|⟨kvs,o,h2,h3⟩
  ·exact .inl ⟨kvs,e _ _ h2,h3⟩
  ·exact .inr (.inl ⟨kvs,e _ _ h2,h3⟩)
  ·exact .inr (.inr ⟨kvs,o,e _ _ h2,h3⟩)
 |.obj _ _ ds,_,h=>by
  obtain⟨a,vs,e1,h1,h2,C,dx,h3,h4⟩:=h;exact⟨a,vs,e1,aY.mono e h1,h2,C,dx,h3,e _ _ h4⟩
 |.kt _,_,h=>h
 |.exc _ _ ds,_,h=>by
  obtain⟨a,vs,e1,h1,h2,C,dx,h3,h4,h5⟩:=h;exact⟨a,vs,e1,aY.mono e h1,h2,C,dx,h3,e _ _ h4,h5.imp id λZ=>Z.e λd Z=>Z.e λq1 q2=>⟨d,q1,e _ _ q2⟩⟩
theorem aY.mono{K:VC}{H H':Hp}(e:aO H H'):∀{ds:List D}{vs:aN},aY K H ds vs->aY K H' ds vs
 |[],_,h=>h
 |x::xs,_,h=>by
  obtain⟨v,r,e1,h1,h2⟩:=h;exact⟨v,r,e1,dS.mono e h1,aY.mono e h2⟩
end
section
variable{K:VC}{H:Hp}
theorem iw{v:V}:dS K H .non v↔v=.non:=Iff.rfl
theorem iu{b:Bool}{v:V}:dS K H (.bl b) v↔v=.bl b:=Iff.rfl
theorem fP{i:Int}{v:V}:dS K H (.int i) v↔v=.int i:=Iff.rfl
theorem eM{x:Str}{v:V}:dS K H (.str x) v↔v=.str x:=Iff.rfl
theorem cP{xs:List D}{v:V}:dS K H (.tup xs) v↔∃a vs,v=.ref a/\H a=ag (.tup vs)/\aY K H xs vs:=Iff.rfl
theorem cS{xs:List D}{v:V}:dS K H (.lst xs) v↔∃a vs,v=.ref a/\km K H a vs/\aY K H xs vs:=Iff.rfl
theorem OT{ks ds : List D}{v : V}: dS K H (.dct ks ds) v ↔ ∃ a vs, v = .ref a /\ aY K H ds vs /\ ((∃ kvs : List (Key × V), H a = ag (.dK kvs) /\ ks = kvs.map (fun p => uX p.1) /\ vs = kvs.map (·.2)) \/
      (∃kvs:List (List Key×V),H a=ag (.dT kvs)/\ks=kvs.map (λp=>.tup (p.1.map uX))/\vs=kvs.map (·.2)) \/
      ∃(kvs:List (List Key×V))(o:Obj),H a=ag (.frz o (.dT kvs))/\ks=.non::kvs.map (λp=>.tup (p.1.map uX))/\vs=kvs.map (·.2)):=Iff.rfl
theorem OV{c:Str}{fs:af}{ds:List D}{v:V}:dS K H (.obj c fs ds) v↔∃a vs,v=.ref a/\aY K H ds vs/\fs.length=vs.length/\∃C dx,clsAt K c C/\H a=ag (.ins C dx (fs.zip vs)):=Iff.rfl
theorem OC{c:Str}{fs:af}{ds:List D}{v:V}:dS K H (.exc c fs ds) v↔∃a vs,v=.ref a/\aY K H ds vs/\fs.length=vs.length/\∃C dx,clsAt K c C/\H a=ag (.ext (xW C a dx))/\(fs=[]\/∃d,dx=ag d/\H d=ag (.xd (fs.zip vs))):=Iff.rfl
theorem QI{xs:af}{v:V}:dS K H (.kt xs) v↔∃a,v=.ref a/\KTup K a xs:=Iff.rfl
theorem cZ{vs:aN}:aY K H [] vs↔vs=[]:=Iff.rfl
def bP{x:D}{xs:List D}{vs:aN}:aY K H (x::xs) vs↔∃v r,vs=v::r/\dS K H x v/\aY K H xs r:=by conv=>lhs;unfold aY
theorem aY.length:∀{ds:List D}{vs:aN},aY K H ds vs->ds.length=vs.length
 |[],_,h=>by rw[cZ]at h;rw[h];rfl
 |_::xs,_,h=>by
  rw[bP]at h;obtain⟨v,r,e,_,h⟩:=h;rw[e,Tw,Tw,aY.length h]
theorem aY.get:∀{ds:List D}{vs:aN}{i:Nat}{d:D},aY K H ds vs->ds[i]?=ag d->∃v,vs[i]?=ag v/\dS K H d v
 |[],_,_,_,_,e=>by simp at e
 |x::xs,_,0,d,h,e=>by
  rw[bP]at h;obtain⟨v,r,rfl,h1,_⟩:=h;simp at e;subst e;exact⟨v,rfl,h1⟩
 |x::xs,_,i+1,d,h,e=>by
  rw[bP]at h;obtain⟨v,r,rfl,_,h2⟩:=h;obtain⟨w,e1,e2⟩:=aY.get (i:=i) h2 (by simpa using e);exact⟨w,by simpa using e1,e2⟩
theorem aY.append:∀{ds es:List D}{vs ws:aN},aY K H ds vs->aY K H es ws->aY K H (ds++es) (vs++ws)
 |[],_,_,_,h,h'=>by rw[cZ]at h;subst h;exact h'
 |x::xs,_,_,_,h,h'=>by
  rw[bP]at h;obtain⟨v,r,rfl,h1,h2⟩:=h;rw[Ue,bP];exact⟨v,_,rfl,h1,aY.append h2 h'⟩
theorem aY.take:∀{ds:List D}{vs:aN}(n:Nat),aY K H ds vs->aY K H (ds.take n) (vs.take n)
 |_,_,0,_=>by rw[Ug,Ug,cZ]
 |[],_,_+1,h=>by rw[cZ]at h;subst h;rw[Tb,Tb,cZ]
 |x::xs,_,n+1,h=>by
  rw[bP]at h;obtain⟨v,r,rfl,h1,h2⟩:=h;rw[Uh,Uh,bP];exact⟨v,_,rfl,h1,aY.take n h2⟩
theorem aY.drop:∀{ds:List D}{vs:aN}(n:Nat),aY K H ds vs->aY K H (ds.drop n) (vs.drop n)
 |_,_,0,h=>by rw[Ui,Ui];exact h
 |[],_,_+1,h=>by rw[cZ]at h;subst h;rw[Tc,Tc,cZ]
 |x::xs,_,n+1,h=>by
  rw[bP]at h;obtain⟨v,r,rfl,h1,h2⟩:=h;rw[Uj,Uj];exact aY.drop n h2
def aY.snoc{ds:List D}{vs:aN}{d:D}{v:V}(h:aY K H ds vs)(h':dS K H d v):aY K H (ds++[d]) (vs++[v]):=
 h.append (bP.mpr ⟨v,[],rfl,h',cZ.mpr rfl⟩)
theorem aY.reverse:∀{ds:List D}{vs:aN},aY K H ds vs->aY K H ds.reverse vs.reverse
 |[],_,h=>by rw[cZ]at h;subst h;exact cZ.mpr rfl
 |x::xs,_,h=>by
  rw[bP]at h;obtain⟨v,r,rfl,h1,h2⟩:=h;rw[T8,T8];exact(aY.reverse h2).snoc h1
def aY.one{d:D}{vs:aN}(h:aY K H [d] vs):∃v,vs=[v]/\dS K H d v:=by
 rw[bP]at h;obtain⟨v,r,rfl,h1,h2⟩:=h;rw[cZ]at h2;subst h2;exact⟨v,rfl,h1⟩
def aY.two{d e:D}{vs:aN}(h:aY K H [d,e] vs):∃v w,vs=[v,w]/\dS K H d v/\dS K H e w:=by
 rw[bP]at h;obtain⟨v,r,rfl,h1,h2⟩:=h;obtain⟨w,rfl,h3⟩:=h2.one;exact⟨v,w,rfl,h1,h3⟩
theorem rT:∀ns:List Int,aY K H (ns.map D.int) (ns.map V.int)
 |[]=>cZ.mpr rfl
 |n::ns=>bP.mpr ⟨_,_,rfl,fP.mpr rfl,rT ns⟩
end
def hid(H:Hp)(O:aD):Hp:=λb=>if b∈O then am else H b
def aP(H:Hp)(O:aD):aO (hid H O) H:=λb o h=>by
 unfold hid at h;split at h
 ·cases h
 ·exact h
def ck{H H':Hp}{O:aD}(e:aO H H'):aO (hid H O) (hid H' O):=λb o h=>by
 unfold hid at h ⊢;by_cases hb:b∈O
 ·rw[ba hb]at h;cases h
 ·rw[br hb]at h ⊢;exact e b o h
def dD{H:Hp}{O O':aD}(s:∀a∈O,a∈O'):aO (hid H O') (hid H O):=λb o h=>by
 unfold hid at h ⊢;by_cases hb:b∈O'
 ·rw[ba hb]at h;cases h
 ·rw[br hb]at h;rw[br λz=>hb (s b z)];exact h
def IQ(H:Hp):hid H []=H:=by funext b;unfold hid;simp
def zr{H:Hp}{O:aD}{p:WW}{o:HO}(h:H p=am):aO (hid H O) (hid (upd H p o) O):=λb u q=>by
 unfold hid at q ⊢;by_cases hb:b∈O
 ·rw[ba hb]at q;cases q
 ·rw[br hb]at q ⊢;rw[aL (aT q h)];exact q
def dr{H:Hp}{p:WW}(h:H p=am)(o:HO):aO H (upd H p o):=λb u q=>by rw[aL (aT q h)];exact q
def kC{H:Hp}{O:aD}{p:WW}(h:p∉O):hid H O p=H p:=by unfold hid;rw[br h]
def iA{H:Hp}{O:aD}{p:WW}{o:HO}(h:p∈O):aO (hid H O) (hid (upd H p o) O):=λb u q=>by
 unfold hid at q ⊢;by_cases hb:b∈O
 ·rw[ba hb]at q;cases q
 ·rw[br hb]at q ⊢;rw[aL (λz=>hb (by rw[z];exact h))];exact q
inductive S where
 |val (d:D)|own (d:D)|nest (d:D)
abbrev aq:=List (Option S)
def jC:HO->Prop
 |.lst _=>True
 |.dK _=>True
 |.dT _=>True
 |_=>False
class ay where
 tab:Hp->Prop
 same:∀{H H':Hp},tab H->aO H H'->tab H'
 own:∀{H:Hp}{p:WW}{o o':HO},tab H->H p=ag o->jC o->tab (upd H p o')
variable[ay]
def dZ(H:Hp)(O:aD):Prop:=ay.tab H/\∀a∈O,∃o,H a=ag o/\jC o
def dZ.not{H:Hp}{O:aD}(h:dZ H O){p:WW}(n:H p=am):p∉O:=λz=>by
 obtain⟨vs,e,_⟩:=h.2 p z;rw[n]at e;cases e
theorem dZ.same{H H':Hp}{O:aD}(h:dZ H O)(e:aO H H'):dZ H' O:=⟨ay.same h.1 e,λa ha=>let ⟨vs,q,m⟩:=h.2 a ha;⟨vs,e _ _ q,m⟩⟩
theorem dZ.upd{H:Hp}{O:aD}{p:WW}{o:HO}(h:dZ H O)(hp:p∈O)(m:jC o):dZ (L2.upd H p o) O:=⟨let ⟨_,q,r⟩:=h.2 p hp;ay.own h.1 q r,λa ha=>by
 by_cases z:a=p
 ·rw[z];exact⟨o,bu,m⟩
 ·obtain⟨u,q,r⟩:=h.2 a ha;exact⟨u,by rw[aL z];exact q,r⟩⟩
def dZ.cons{H:Hp}{O:aD}{p:WW}{o:HO}(h:dZ H O)(hp:H p=ag o)(m:jC o):dZ H (p::O):=⟨h.1,λa ha=>by
 rcases List.mem_cons.mp ha with z|z
 ·rw[z];exact⟨o,hp,m⟩
 ·exact h.2 a z⟩
def fZ(K:VC)(H:Hp)(O:aD)(a:WW)(d:D):Prop:=∃o vs,H a=ag o/\match d with
 |.lst xs=>o=.lst vs/\aY K (hid H O) xs vs
 |.dct ks ds=>aY K (hid H O) ds vs/\((∃kvs:List (Key×V),o=.dK kvs/\ks=kvs.map (λp=>uX p.1)/\vs=kvs.map (·.2)) \/
   ∃kvs:List (List Key×V),o=.dT kvs/\ks=kvs.map (λp=>.tup (p.1.map uX))/\vs=kvs.map (·.2))
 |_=>False
theorem fZ.mono{K:VC}{H H':Hp}{O O':aD}{a:WW}{d:D}(h:fZ K H O a d)(e:H a=H' a)(s:aO (hid H O) (hid H' O')):fZ K H' O' a d:=by
 obtain⟨o,vs,h1,h2⟩:=h;refine⟨o,vs,by rw[<-e];exact h1,?_⟩;cases d with
 |lst xs=>exact⟨h2.1,h2.2.mono s⟩
 |dct ks ds=>exact⟨h2.1.mono s,h2.2⟩
 |_=>exact h2
theorem fZ.some{K:VC}{H:Hp}{O:aD}{a:WW}{d:D}(h:fZ K H O a d):∃o,H a=ag o:=let ⟨o,_,e,_⟩:=h;⟨o,e⟩
def fZ.den{K:VC}{H:Hp}{O O':aD}{a:WW}{d:D}(h:fZ K H O a d)(s:aO (hid H O) (hid H O'))(ha:a∉O'):dS K (hid H O') d (.ref a):=by
 obtain⟨o,vs,h1,h2⟩:=h;have h1':hid H O' a=Option.some o:=by rw[kC ha];exact h1
 cases d with
 |lst xs=>
  obtain⟨e,g⟩:=h2;subst e;exact cS.mpr ⟨a,vs,rfl,km.of h1',g.mono s⟩
 |dct ks ds=>
  obtain⟨g,q⟩:=h2;refine OT.mpr ⟨a,vs,rfl,g.mono s,?_⟩;rcases q with⟨kvs,e,q⟩|⟨kvs,e,q⟩
  ·subst e;exact .inl ⟨kvs,h1',q⟩
  ·subst e;exact .inr (.inl ⟨kvs,h1',q⟩)
 |_=>exact h2.elim
structure dy(K:VC)(O:aD)(H:Hp)(ρ:aq)(σ:St):Prop where
 val:∀(i:Nat) d,ρ[i]?=ag (ag (.val d))->∃v,σ[i]?=ag (ag v)/\dS K (hid H O) d v
 own:∀(i:Nat) d,ρ[i]?=ag (ag (.own d))->∃a,σ[i]?=ag (ag (.ref a))/\a∈O/\fZ K H O a d
 one:∀(i j:Nat) xs ys a,ρ[i]?=ag (ag (.own xs))->ρ[j]?=ag (ag (.own ys))->σ[i]?=ag (ag (.ref a))->σ[j]?=ag (ag (.ref a))->i=j
 all:dZ H O
def Ac{H H':Hp}(e:aO H H'){a:WW}{o:HO}(h:H a=ag o):H a=H' a:=by rw[h,e _ _ h]
theorem dy.same{K:VC}{O:aD}{H H':Hp}{ρ:aq}{σ:St}(h:dy K O H ρ σ)(e:aO H H'):dy K O H' ρ σ:=
  ⟨fun i d q=>let ⟨v,a,b⟩:=h.val i d q; ⟨v,a,b.mono (ck e)⟩,
   λi xs q=>let ⟨a,q1,q2,q3⟩:=h.own i xs q;⟨a,q1,q2,q3.mono (let ⟨_,z⟩:=q3.some;Ac e z) (ck e)⟩,h.one,h.all.same e⟩
structure Ex where
 c:Str
 fs:af
 vs:List D
noncomputable abbrev R(α:Type):=Except (Option Ex) α
abbrev aQ:=aq->R (List D)
abbrev bL:=aq->R Bool
abbrev cM:=List D->R D
abbrev un{α:Type}:R α:=.error am
def rO{α:Type}:Option α->R α
 |some a=>.ok a
 |none=>.error am
def JM(K:VC)(Hd:Hp)(x:Ex)(C:WW)(dx:Option WW):Prop:=clsAt K x.c C/\∃ws,aY K Hd x.vs ws/\x.fs.length=ws.length/\(x.fs=[]\/∃d,dx=ag d/\Hd d=ag (.xd (x.fs.zip ws)))
theorem JM.mono{K:VC}{H H':Hp}{x:Ex}{C:WW}{dx:Option WW}(h:JM K H x C dx)(e:aO H H'):JM K H' x C dx:=by
 obtain⟨h1,ws,h2,h3,h4⟩:=h;exact⟨h1,ws,h2.mono e,h3,h4.imp id λZ=>Z.e λd Z=>Z.e λq1 q2=>⟨d,q1,e _ _ q2⟩⟩
open PyProof.Rows (AllBare)
def uR{P:W1}{w:W0}{H:Hp}{h:W3}{a:WW}{o:HO}(x:gv P w H h a o):∃u,h.get? a=ag u:=by
 cases o with
 |lst xs=>obtain⟨_,_,_,_,e⟩:=x;exact⟨_,e⟩
 |tup xs=>obtain⟨_,_,_,o,e,_⟩:=x;exact⟨_,e⟩
 |dK kvs=>obtain⟨_,_,_,_,o,_,_,e,_⟩:=x;exact⟨_,e⟩
 |dT kvs=>obtain⟨_,_,_,_,o,_,_,e,_⟩:=x;exact⟨_,e⟩
 |set S n=>obtain⟨o,_,_,_,e,_⟩:=x;exact⟨_,e⟩
 |ins C dx fs=>obtain⟨_,_,_,e,_⟩:=x;exact⟨_,e⟩
 |own y=>exact x
 |xd fs=>obtain⟨_,⟨_,_,_,e,_⟩,_⟩:=x;exact⟨_,e⟩
 |rng lo hi=>obtain⟨_,_,_,e⟩:=x;exact⟨_,e⟩
 |frz ob u=>obtain⟨e,_⟩:=x;exact⟨_,e⟩
 |tbl ps=>exact⟨_,(show h.get? a=ag _ from x)⟩
 |met f y=>exact⟨_,(show h.get? a=ag _ from x)⟩
 |ext φ=>obtain⟨_,e,_⟩:=x;exact e
def eJ(X:Cx)(H:Hp)(b:WW):Prop:=((∃o,X.s₀.heap.get? b=ag o)/\b∉X.ex)\/H b≠am\/(∃o,(b,o)∈X.pn)\/∃x,X.env.cells.lookup x=ag b
def Ry(B:W3)(e:WW)(cls a0:WU)(h:W3):Prop:=∃fl,h.TracedAtW B e cls a0 fl
def pz{M:W9}{A:W7}{E:bI}{s:WZ}{B:W3}{env:Env}{outer:List Env}{L e:WW}{cls a0:WU}{Q:Unit->ib}(hfr:A.frames=ag (env::outer))(hf:env.frame=ag L)(hl:s.heap.FunFrames B (env::outer))(ht:Ry B e cls a0 s.heap)(hkb:B.StaysIn s.heap)(hen:B.get? e=am)
  (hQ:∀h',Ws B (env::outer) e cls a0 L h'->s.heap.UpToSlots h'->Q () {s with heap:=h'}):Xa M A (noteFrame (.ref e) env) Q E s:=by
 obtain⟨fl,ht⟩:=ht;by_cases hq:fl=rawInt L
 ·subst hq;exact wpAny_noteFrame_againW hf ht (hQ s.heap ⟨hkb,hen,hl,ht⟩ λb o e _=>⟨o.slots,e⟩)
 obtain⟨oe,vs,T,oT,ts,h1,⟨rfl,h2⟩,h3,h4,h5,h6,h7,h8,h9⟩:=ht;have same:∀b,b≠T->(s.heap.update T (Obj.mapFields (·.setIfInBounds 3 Value.none))).get? b=s.heap.get? b:=λb hb=>Wr _ _ (Ne.symm hb);have nT:∀b o,s.heap.get? b=ag o->(∀ws,o.data≠.fields ws)->b≠T:=λb o hb hn q=>by
  subst q;rw[h7]at hb;cases hb;exact hn ts h8
 unfold noteFrame;simp only[hf];refine Xp (X0 h1 h3 h4 ?_);rw[ba (show(Value.ref T !=Value.none)=true from by simp)];refine Xp (X0 h7 h8 h9 ?_);rw[br (λz=>hq (eq_of_beq z))];refine Xp (Yc h7 h8 (Array.getElem?_eq_some_iff.mp h9).1 ?_);refine wpAny_entryW hfr (hl.of_keeps λb o hb hn=>⟨o,(same b (nT b o hb hn)).trans hb,rfl⟩) hf ((same e (Ne.symm h6)).trans h1) (λb o hb=>(same b λq=>?_).trans (hkb b o hb)) hen h3 (Array.getElem?_eq_some_iff.mp h4).1 h2 λh' hN=>?_
 ·subst q;rw[h5]at hb;cases hb
 ·obtain⟨x1,x2,x3,x4⟩:=hN;exact hQ h' ⟨x1,hen,x2,x3⟩ λb o hb hn=>x4 b o ((same b (nT b o hb hn)).trans hb) hn
def R1(B:W3)(e:WW)(cls a0:WU)(h:W3):Prop:=Ry B e cls a0 h\/∃oe vs,h.get? e=ag oe/\oe.cls=cls/\oe.data=.fields vs/\vs[1]?=ag .none/\vs[0]?=ag a0
def wY(X:Cx)(H:Hp)(s:WZ)(e C:WW)(dx:Option WW):Prop:=(∀oe,s.heap.get? e=ag oe->oe.dict=dx)/\∃B a0,B.StaysIn s.heap/\B.get? e=am/\s.heap.FunFrames B X.stack/\R1 B e (.ref C) a0 s.heap/\∀b o,s.heap.get? b=ag o->eJ X H b->b∉frs X.stack->B.get? b=ag o
def Si(X:Cx)(H:Hp)(O:aD)(s:WZ)(u:WU)(x:Ex):Prop:=∃e C dx,u=.ref e/\JM X.K (hid H O) x C dx/\wY X H s e C dx
noncomputable def gj(P:W1)(w:W0):vL:=λouter H s E u s'=>∃e C dx H' B a0,u=.ref e/\(∀oe,s'.heap.get? e=ag oe->oe.dict=dx)/\s'.os=s.os/\AllBare s'.gens/\Un (frs outer) [] H H' s.heap s'.heap/\qJ P w H' s'.heap/\Wt B outer e (.ref C) a0 s'.heap/\
 (∀b o,s'.heap.get? b=ag o->((∃o',s.heap.get? b=ag o')\/H' b≠am)->b∉frs outer->B.get? b=ag o)/\E (.ref C) dx H'
def Ov(K:VC)(H:Hp)(O:aD)(x:Ex)(E:XK):Prop:=∀C dx H',aO H H'->JM K (hid H' O) x C dx->E (.ref C) dx H'
def w8(X:Cx)(σ:St)(O:aD)(H:Hp)(x:Ex):Prop:=∀pins s u H',Inv X pins σ H' s->aO H H'->Si X H' O s u x->X.xe u s
def w8.mono{X:Cx}{σ:St}{O:aD}{H H':Hp}{x:Ex}(h:w8 X σ O H x)(s:aO H H'):w8 X σ O H' x:=λpins st u H2 I s2 f=>h pins st u H2 I (s.trans s2) f
def sC(X:Cx)(O:aD)(H:Hp)(x:Ex):XK:=λu dx H'=>∃C,u=.ref C/\aO H H'/\JM X.K (hid H' O) x C dx
def hX(CX:vL)(X:Cx)(σ:St)(E:XK):Prop:=∀(pins:bg)(H:Hp)(s:WZ)(e:WU)(s':WZ),Inv X pins σ H s->CX X.stack H s E e s'->X.xe e s'
def kH{X:Cx}{σ:St}{O:aD}{H:Hp}{x:Ex}(h:w8 X σ O H x):hX (gj X.prog X.w) X σ (sC X O H x):=by
 rintro pins H1 s u s' I ⟨e,C,dx,H',B,a0,rfl,hdx,os,bare,un,hok,⟨f1,f2,f3,f4⟩,kp,C',eC,sm,hd⟩;cases eC;have I':Inv X pins σ H' s':=I.call' os un hok bare (ch:=[]) λb z=>bt z (by simp);refine h pins s' _ H' I' sm ⟨e,C,dx,rfl,hd,hdx,B,a0,f1,f2,f3,.inl ⟨_,f4⟩,λb o eb hb nf=>kp b o eb ?_ nf⟩;rcases hb with⟨⟨o',hb⟩,nx⟩|hb|⟨o',hb⟩|⟨y,hb⟩
 ·exact .inl (I.base.there b o' hb nx)
 ·exact .inr hb
 ·exact .inl ⟨_,(I.pin _ (Tn _ hb)).1⟩
 ·obtain⟨v,o,q,_⟩:=I.cell y b hb;exact .inl ⟨o,q⟩
def kO{X:Cx}{σ:St}:hX (gj X.prog X.w) X σ E0:=λ_ _ _ _ _ _ h=>by
 obtain⟨_,_,_,_,_,_,_,_,_,_,_,_,_,_,z⟩:=h;exact z.elim
def pV{X:Cx}{O:aD}{H:Hp}{x:Ex}:Ov X.K H O x (sC X O H x):=λC dx H' s e=>⟨C,rfl,s,e⟩
section
variable{X:Cx}{pins:bg}{σ:St}{H:Hp}{s:WZ}{h':W3}
def nO(I:Inv X pins σ H s)(k:∀b o,s.heap.get? b=ag o->eJ X H b->b∉frs X.stack->h'.get? b=ag o):qJ X.prog X.w H h':=λa ob ea=>
 (I.hok a ob ea).stay (λb u hb q=>by
  have hn:H b≠none:=by
   rcases hb with e|e
   ·rw[e,ea];intro z;cases z
   ·rw[e];intro z;cases z
  exact k b u q (.inr (.inl hn)) λhf=>hn (I.stkFree b hf)) (λ_ q=>q) λ_ _ q=>q
def mF(I:Inv X pins σ H s)(us:s.heap.UpToSlots h'){b:WW}{o:Obj}(hb:b∈frs X.stack)(e:s.heap.get? b=ag o):∃sl,h'.get? b=ag {o with slots:=sl}:=by
 obtain⟨_,o',e',nf⟩:=I.stack.mem hb;rw[e]at e';cases e';exact us b o e nf
def xA(I:Inv X pins σ H s)(hx:X.ex=[])(hst:X.stack=X.env::X.outer)(hf:X.env.frame=ag X.env.locals)(us:s.heap.UpToSlots h')(k:∀b o,s.heap.get? b=ag o->eJ X H b->b∉frs X.stack->h'.get? b=ag o):
  Un (frs X.outer) [] X.H₀ H X.s₀.heap h':=by
 have U:=I.base;rw[hx]at U;have fr:frs X.stack=X.env.locals::frs X.outer:=by rw[hst];show List.filterMap _ (_::_)=_;rw[Ti,hf];rfl
 have nl:∀b o,X.s₀.heap.get? b=ag o->b≠X.env.locals:=λb o q z=>by
  have h1:=Wn q;have h2:=I.ok.above;rw[z]at h1;exact Te _ (Td h1 h2)
 have nfr:∀b o,X.s₀.heap.get? b=ag o->b∉frs X.outer->b∉frs X.stack:=λb o q nb z=>by
  rw[fr]at z;rcases List.mem_cons.mp z with z|z
  ·exact nl b o q z
  ·exact nb z
 refine⟨λb o q n nb _=>k b o (U.keep b o q n nb (by simp)) (.inl ⟨⟨o,q⟩,by rw[hx];simp⟩) (nfr b o q nb),λb o q n hb _=>?_,λb o q n _=>U.free b o q n (by simp),λb o q _=>?_,U.tups,U.frzs,U.tbls⟩
 ·obtain⟨sl,e⟩:=U.slot b o q n hb (by simp);obtain⟨sl',e'⟩:=mF I us (by rw[fr];exact Tl _ hb) e;exact⟨sl',e'⟩
 ·obtain⟨o1,e1⟩:=U.there b o q (by simp);by_cases hb:b∈frs X.stack
  ·obtain⟨sl,e⟩:=mF I us hb e1;exact⟨_,e⟩
  ·exact⟨o1,k b o1 e1 (.inl ⟨⟨o,q⟩,by rw[hx];simp⟩) hb⟩
end
def CQ{P:W1}{w:W0}{K:VC}{mg:bN}{base:W3}{N:af}{qual:Str}{scope:W8}{f:WW}{cd:WU}{A:W7}{outer:List Env}{s:WZ}{H:Hp}{E:XK}{σ:St}{O O':aD}{H':Hp}{x:Ex}
  (hx:Ov K H O x E) (sm:aO H H') (hs:∀a∈O,a∈O'):w8 (ef (gj P w) P w K mg base N qual scope f cd A outer s H E) σ O' H' x:=by
 rintro pins s1 u H1 I s2 ⟨e,C,dx,rfl,hd,hdx,B,a0,b1,b2,b3,b4,b5⟩;have fin:∀h',Wt B outer e (.ref C) a0 h'->s1.heap.UpToSlots h'->DS s1.heap h'->gj P w outer H s E (.ref e) {s1 with heap:=h'}:=λh' fl us ds=>by
  have k:∀b o,s1.heap.get? b=ag o->eJ (ef (gj P w) P w K mg base N qual scope f cd A outer s H E) H1 b->b∉frs (ef (gj P w) P w K mg base N qual scope f cd A outer s H E).stack->h'.get? b=ag o:=λb o q kb nf=>fl.1 b o (b5 b o q kb nf);have un:=xA I rfl rfl rfl us k;have hok:=nO I k;refine⟨e,C,dx,H1,B,a0,rfl,λoe' q=>?_,I.os,I.bare,un,hok,fl,λb o q hb nf=>?_,hx C dx H1 (sm.trans s2) (hd.mono (dD hs))⟩
  ·obtain⟨oe,q1⟩:∃oe,s1.heap.get? e=ag oe:=by
    rcases b4 with⟨_,oe,_,_,_,_,h1,_⟩|⟨oe,_,h1,_⟩
    ·exact⟨oe,h1⟩
    ·exact⟨oe,h1⟩
   exact(ds.dict q1 q).trans (hdx oe q1)
  have nf2:b∉frs (ef (gj P w) P w K mg base N qual scope f cd A outer s H E).stack:=λz=>by
   rcases List.mem_cons.mp (show b∈s.heap.objs.size::frs outer from z)with z|z
   ·rcases hb with hb|hb
    ·obtain⟨o',hb⟩:=hb
     have:=Wn hb
     rw[z]at this;exact Te _ this
    ·rw[z]at hb;exact hb I.free
   ·exact nf z
  have kb:eJ (ef (gj P w) P w K mg base N qual scope f cd A outer s H E) H1 b:=hb.elim (λz=>.inl ⟨z,λy=>nomatch y⟩) λz=>.inr (.inl z);obtain⟨o1,e1⟩:∃o1,s1.heap.get? b=ag o1:=by
   rcases hb with⟨o',hb⟩|hb
   ·exact I.base.there b o' hb (λz=>nomatch z)
   ·cases q0:H1 b with
    |none=>exact bt q0 hb
    |some ob=>exact uR (I.hok b ob q0)
  have:=k b o1 e1 kb nf2
  rw[q]at this;cases this;exact b5 b _ e1 kb nf2
 show Xa _ _ (leaving (Wx qual scope s.heap.objs.size f cd) (.ref e)) _ _ s1;refine DP.go (pG _ _) (P:=λh'=>Wt B outer e (.ref C) a0 h'/\s1.heap.UpToSlots h') ?_ λh' z ds=>fin h' z.1 z.2 ds;rcases b4 with b4|⟨oe,vs,c1,c2,c3,c4,c5⟩
 ·unfold leaving;refine Xp (pz I.ok.frames rfl b3 b4 b1 b2 λh1 held us=>wpAny_landsW held λh' fl us'=>?_);obtain⟨k1,k2,⟨_,_,k3⟩,k4⟩:=fl;exact⟨h',rfl,⟨k1,k2,k3,k4⟩,us.trans us'⟩
 ·refine wpAny_leaving_firstW I.ok.frames b3 rfl c1 b1 b2 c3 c4 c5 λh' hL=>?_;obtain⟨k1,⟨_,_,k2⟩,k3,k4⟩:=hL;exact⟨h',rfl,⟨k1,b2,k2,c2 ▸ k3⟩,k4⟩
end
section
variable[ay]
def eQ(X:Cx)(σ:St)(O:aD)(H:Hp){α:Type}(r:R α)(Q:α->Prop):Prop:=match r with
 |.ok a=>Q a
 |.error (ag x)=>w8 X σ O H x
 |.error am=>False
section
variable{X:Cx}{σ:St}{O:aD}{H H':Hp}{α β:Type}
theorem eQ.bind{r:R α}{G:α->R β}{Q:β->Prop}(h:eQ X σ O H (r.bind G) Q):eQ X σ O H r λa=>eQ X σ O H (G a) Q:=by
 match r,h with
 |.ok a,h=>exact h
 |.error (ag x),h=>exact h
 |.error am,h=>exact h
def eQ.imp{r:R α}{Q Q':α->Prop}(h:eQ X σ O H r Q)(f:∀a,Q a->Q' a):eQ X σ O H r Q':=by
 match r,h with
 |.ok a,h=>exact f a h
 |.error (ag x),h=>exact h
 |.error am,h=>exact h
theorem eQ.mono{r:R α}{Q:α->Prop}(h:eQ X σ O H r Q)(s:aO H H'):eQ X σ O H' r Q:=by
 match r,h with
 |.ok a,h=>exact h
 |.error (ag x),h=>exact w8.mono h s
 |.error am,h=>exact h
theorem eQ.rO{o:Option α}{Q:α->Prop}(h:eQ X σ O H (rO o) Q):∃a,o=ag a/\Q a:=by
 match o,h with
 |some a,h=>exact⟨a,rfl,h⟩
 |none,h=>exact h.elim
end
abbrev FX:=aq->R D
def tF(X:Cx)(F:FX):TE:=λσ H Q=>∃O ρ,dy X.K O H ρ σ/\eQ X σ O H (F ρ) λd=>∀v H',aO H H'->dS X.K (hid H' O) d v->Q v H'
def OJ(X:Cx)(F:bL):TT:=λσ H Q=>∃O ρ,dy X.K O H ρ σ/\eQ X σ O H (F ρ) λb=>∀H',aO H H'->Q b H'
def OL(X:Cx)(F:aQ):TA:=λσ H Q=>∃O ρ,dy X.K O H ρ σ/\eQ X σ O H (F ρ) λds=>∀vs H',aO H H'->aY X.K (hid H' O) ds vs->Q vs H'
def FE(X:Cx)(e:WX)(F:FX):Prop:=PE X e (tF X F)
def FT(X:Cx)(e:WX)(F:bL):Prop:=PT X e (OJ X F)
def FW(X:Cx)(e:WX)(F:bL):Prop:=PW X e (OJ X F)
def FA(X:Cx)(es:aS)(F:aQ):Prop:=PA X es (OL X F)
def PE.weak{X:Cx}{e:WX}{t t':TE}(h:PE X e t)(w:∀σ H Q,t' σ H Q->t σ H Q):PE X e t':=λpins s σ H Q I q=>h pins s σ H Q I (w σ H Q q)
def PT.weak{X:Cx}{e:WX}{t t':TT}(h:PT X e t)(w:∀σ H Q,t' σ H Q->t σ H Q):PT X e t':=λpins s σ H Q I q=>h pins s σ H Q I (w σ H Q q)
def PW.weak{X:Cx}{e:WX}{t t':TT}(h:PW X e t)(w:∀σ H Q,t' σ H Q->t σ H Q):PW X e t':=λwhole pins s σ H Q I q=>h whole pins s σ H Q I (w σ H Q q)
def PA.weak{X:Cx}{es:aS}{t t':TA}(h:PA X es t)(w:∀σ H Q,t' σ H Q->t σ H Q):PA X es t':=λpos pins s σ H Q I q=>h pos pins s σ H Q I (w σ H Q q)
def PS.weak{X:Cx}{st:WY}{t t':TS}(h:PS X st t)(w:∀D σ H,t' D σ H->t D σ H):PS X st t':=λpins s σ H Q I q=>h pins s σ H Q I (w Q σ H q)
def qW.weak{X:Cx}{st:cU}{t t':TS}(h:qW X st t)(w:∀D σ H,t' D σ H->t D σ H):qW X st t':=λpins s σ H Q I q=>h pins s σ H Q I (w Q σ H q)
def kT(ρ:aq)(i:Nat):R D:=match ρ[i]? with
 |some (ag (.val d))=>.ok d
 |_=>un
def Hl{ρ:aq}{i:Nat}{d:D}(h:kT ρ i=.ok d):ρ[i]?=ag (ag (.val d)):=by
 unfold kT at h;split at h
 ·rename_i e;cases h;exact e
 ·cases h
def ae(i:Nat):FX:=λρ=>kT ρ i
def fC(d:D):FX:=λ_=>.ok d
section
variable{X:Cx}
def Bu{σ:St}{O:aD}{H:Hp}{ρ:aq}{i:Nat}{Q:D->Prop}(h:eQ X σ O H (kT ρ i) Q):∃d,ρ[i]?=ag (ag (.val d))/\Q d:=by
 cases e:kT ρ i with
 |ok d=>rw[e]at h;exact⟨d,Hl e,h⟩
 |error z=>
  rw[e]at h;cases z with
  |none=>exact h.elim
  |some x=>
   exfalso;unfold kT at e;split at e
   ·cases e
   ·have:=Except.error.inj e;cases this
def ig{e:WX}{d:D}{v:V}(h:PE X e (tC v))(hd:∀K H,dS K H d v):FE X e (fC d):=
 PE.weak h λσ H Q Z=>Z.e λO Z=>Z.e λρ Z=>Z.e λE q=>q v H (aO.refl H) (hd _ _)
noncomputable def noStar:WX->Bool
 |.Starred _ _=>false
 |_=>true
def bf{e:WX}{es:aS}{env:Env}(h:noStar e=true):Xb (e::es) env=(false,eval e env)::Xb es env:=by
 cases e<;>first|rfl|cases h
theorem bY{pos:Pos}{env:Env}:∀{es:aS},es.all noStar=true->(backTo pos (Xb es env)).any (·.1)=false
 |[],_=>rfl
 |e::es,h=>by
  rw[Uk,T6]at h;rw[bf h.1];exact bY h.2
def aj:aQ:=λ_=>.ok []
def aa(f:FX)(g:aQ):aQ:=λρ=>(f ρ).bind λx=>(g ρ).bind λxs=>.ok (x::xs)
def Qk:FA X [] aj:=PA.weak kn λσ H Q Z=>Z.e λO Z=>Z.e λρ Z=>Z.e λE q=>q [] H (aO.refl H) (cZ.mpr rfl)
def bind_some{α β:Type}{o:Option α}{f:α->Option β}{b:β}(h:o.bind f=ag b):∃a,o=ag a/\f a=ag b:=by
 cases o with
 |none=>cases h
 |some a=>exact⟨a,rfl,h⟩
def og{ε α β:Type}{o:Except ε α}{f:α->Except ε β}{b:β}(h:o.bind f=.ok b):∃a,o=.ok a/\f a=.ok b:=by
 cases o with
 |error _=>cases h
 |ok a=>exact⟨a,rfl,h⟩
def O2{e:WX}{es:aS}{f:FX}{g:aQ}(he:FE X e f)(hs:FA X es g)(hns:noStar e=true:=by rfl):FA X (e::es) (aa f g):=
 PA.weak (eE he hs (bf hns)) λσ H Q ⟨O,ρ,E,h⟩=>
  ⟨O,ρ,E,(eQ.bind h).imp λx h v H1 s1 d1=>⟨O,ρ,E.same s1,((eQ.bind h).mono s1).imp λxs q vs H2 s2 d2=>q (v::vs) H2 (s1.trans s2) (bP.mpr ⟨v,vs,rfl,d1.mono (ck s2),d2⟩)⟩⟩
noncomputable def small(n:Nat):Bool:=decide (n<=100000)
def dF{n:Nat}(h:small n=true):n<=W4:=Tg (cr h) (by decide)
def cm{n:Nat}(h:n<=100000):small n=true:=b0 h
def nq(xs:List D):bE:=if small xs.length then ag (.tup xs)else am
def o5(xs:List D):bE:=if small xs.length then ag (.lst xs)else am
def iq(g:aQ):FX:=λρ=>(g ρ).bind λxs=>rO (nq xs)
def dP(g:aQ):FX:=λρ=>(g ρ).bind λxs=>rO (o5 xs)
def bQ{α:Type}{c:Bool}{a b:α}(h:(if c then ag a else am)=ag b):c=true/\a=b:=by
 cases c with
 |true=>exact⟨rfl,Option.some.inj h⟩
 |false=>cases h
def fU{K:VC}{H:Hp}{O:aD}{p:WW}{ds:List D}{vs:aN}(hO:dZ H O)(hp:H p=am)(d:aY K (hid H O) ds vs):dS K (hid (upd H p (.tup vs)) O) (.tup ds) (.ref p):=
 cP.mpr ⟨p,vs,rfl,by rw[kC (hO.not hp),bu],d.mono (zr hp)⟩
def gL{K:VC}{H:Hp}{O:aD}{p:WW}{ds:List D}{vs:aN}(hO:dZ H O)(hp:H p=am)(d:aY K (hid H O) ds vs):dS K (hid (upd H p (.lst vs)) O) (.lst ds) (.ref p):=
 cS.mpr ⟨p,vs,rfl,km.of (by rw[kC (hO.not hp),bu]),d.mono (zr hp)⟩
def GA(K:VC)(r:V->Hp->VK->Prop)(g:D->bE):Prop:=
 ∀(a d:D)(x:V)(O:aD)(H:Hp)(Q:VK),dZ H O->g a=ag d->dS K (hid H O) a x->(∀v H',aO H H'->dS K (hid H' O) d v->Q v H')->r x H Q
def f1(g:D->bE)(f:FX):FX:=λρ=>(f ρ).bind λa=>rO (g a)
def dA(K:VC)(r:R2)(g:D->D->bE):Prop:=
 ∀(a b d:D)(x y:V)(O:aD)(H:Hp)(Q:VK),dZ H O->g a b=ag d->dS K (hid H O) a x->dS K (hid H O) b y->(∀v H',aO H H'->dS K (hid H' O) d v->Q v H')->r x y H Q
def f2(g:D->D->bE)(f1 f2:FX):FX:=λρ=>(f1 ρ).bind λa=>(f2 ρ).bind λb=>rO (g a b)
def qq{r:R2}{g:D->D->bE}{fa fb:FX}(s:dA X.K r g):∀σ H Q,tF X (f2 g fa fb) σ H Q->ML r (tF X fa) (tF X fb) σ H Q:=λσ H Q Z=>Z.e λO Z=>Z.e λρ Z=>Z.e λE hF=>
 ⟨O,ρ,E,(eQ.bind hF).imp fun a hF x H1 s1 d1=>⟨O,ρ,E.same s1,((eQ.bind hF).mono s1).imp fun b hF y H2 s2 d2=>by
  obtain⟨d,e,q⟩:=eQ.rO hF;exact s a b d x y O H2 Q (E.all.same (s1.trans s2)) e (d1.mono (ck s2)) d2 λv H3 s3 d3=>q v H3 ((s1.trans s2).trans s3) d3⟩⟩
noncomputable def OD:D->Option Bool
 |.bl b=>ag b
 |_=>am
def fB(f:FX):bL:=λρ=>(f ρ).bind λd=>rO (OD d)
def jw{t:TE}{f:FX}(h:∀σ H Q,tF X f σ H Q->t σ H Q):∀σ H Q,OJ X (fB f) σ H Q->D4 t σ H Q:=λσ H Q Z=>Z.e λO Z=>Z.e λρ Z=>Z.e λE hF=>
 h σ H _ ⟨O,ρ,E,(eQ.bind hF).imp λd hF v H1 s1 d1=>by
  obtain⟨b,e,q⟩:=eQ.rO hF;cases d with
  |bl b'=>
   cases e;exact⟨b,iu.mp d1,q H1 s1⟩
  |_=>cases e⟩
def zN(K:VC)(r:aN->Hp->VK->Prop)(g:List D->bE):Prop:=
 ∀(ds:List D)(d:D)(xs:aN)(O:aD)(H:Hp)(Q:VK),dZ H O->g ds=ag d->aY K (hid H O) ds xs->(∀v H',aO H H'->dS K (hid H' O) d v->Q v H')->r xs H Q
def fL(g:List D->bE)(f:aQ):FX:=λρ=>(f ρ).bind λds=>rO (g ds)
def fR(g:cM)(f:aQ):FX:=λρ=>(f ρ).bind g
def Ed{r:aN->Hp->VK->Prop}{g:List D->bE}{f:aQ}(s:zN X.K r g):∀σ H Q,tF X (fL g f) σ H Q->O8 r (OL X f) σ H Q:=λσ H Q Z=>Z.e λO Z=>Z.e λρ Z=>Z.e λE hF=>
 ⟨O,ρ,E,(eQ.bind hF).imp fun ds hF vs H1 s1 d1=>by
  obtain⟨d,e,q⟩:=eQ.rO hF;exact s ds d vs O H1 Q (E.all.same s1) e d1 λv H2 s2 d2=>q v H2 (s1.trans s2) d2⟩
def fV(f:bL):bL:=λρ=>(f ρ).bind λb=>.ok (!b)
def ph(f g:bL):bL:=λρ=>(f ρ).bind λb=>if b then g ρ else .ok false
def B8(f g:bL):bL:=λρ=>(f ρ).bind λb=>if b then .ok true else g ρ
variable{a b c:WX}{rest:aS}{pos:Pos}{f g:bL}
def FW.ft{e:WX}(h:FW X e f):FT X e f:=PW.pt h
def truth:D->Option Bool
 |.non=>ag false
 |.bl b=>ag b
 |.int i=>ag (i !=0)
 |.str x=>if small x.length then ag (x.length !=0)else am
 |.tup xs=>ag (!xs.isEmpty)
 |.lst xs=>ag (!xs.isEmpty)
 |_=>am
def bW(f:FX):bL:=λρ=>(f ρ).bind λd=>rO (truth d)
def xk(d:D)(k:R D):R D:=match d with
 |.bl true=>k
 |.bl false=>.ok (.bl false)
 |_=>un
def MO(d:D)(k:R D):R D:=match d with
 |.bl false=>k
 |.bl true=>.ok (.bl true)
 |_=>un
def Lh:D->bE
 |.bl b=>ag (.bl (!b))
 |_=>am
def gu(f g:FX):FX:=λρ=>(f ρ).bind λd=>xk d (g ρ)
def Pz(f g:FX):FX:=λρ=>(f ρ).bind λd=>MO d (g ρ)
def vA(f:FX):FX:=f1 Lh f
variable{fa fb:FX}
def Jy(t:bL)(f g:FX):FX:=λρ=>(t ρ).bind λc=>if c then f ρ else g ρ
end
open PySem.SeqAt (EqAt RcAt RcNeAt)
mutual
noncomputable def pyEq:D->D->Bool
 |.non,.non=>true
 |.bl a,.bl b=>a==b
 |.bl a,.int b=>(if a then 1 else 0)==b
 |.int a,.bl b=>a==(if b then 1 else 0)
 |.int a,.int b=>a==b
 |.str a,.str b=>a==b
 |.tup xs,.tup ys=>oY xs ys
 |.lst xs,.lst ys=>oY xs ys
 |.dct _ _,.dct _ _=>true
 |.obj _ _ _,.obj _ _ _=>true
 |.exc _ _ _,.exc _ _ _=>true
 |.kt _,.kt _=>true
 |_,_=>false
noncomputable def oY:List D->List D->Bool
 |[],[]=>true
 |x::xs,y::ys=>pyEq x y&&oY xs ys
 |_,_=>false
end
mutual
theorem mO:∀d:D,pyEq d d=true
 |.non=>rfl
 |.bl b=>show(b==b)=true by simp
 |.int i=>show(i==i)=true by simp
 |.str x=>show(x==x)=true by simp
 |.tup xs=>kz xs
 |.lst xs=>kz xs
 |.dct _ _=>rfl
 |.obj _ _ _=>rfl
 |.exc _ _ _=>rfl
 |.kt _=>rfl
theorem kz:∀ds:List D,oY ds ds=true
 |[]=>rfl
 |d::ds=>by show(pyEq d d&&oY ds ds)=true;rw[mO d,kz ds];rfl
end
def xj(xs ys:List D)(j:Nat):Bool:=match xs[j]?,ys[j]? with
 |some a,ag b=>pyEq a b
 |_,_=>false
theorem fG:∀xs ys:List D,((List.range (min xs.length ys.length)).all (xj xs ys)&&xs.length==ys.length)=oY xs ys
 |[],[]=>rfl
 |[],_::_=>by show _=false;simp
 |_::_,[]=>by show _=false;simp
 |x::xs,y::ys=>by
  have ih:=fG xs ys;show _=(pyEq x y&&oY xs ys)
  rw[<-ih];have e:min (x::xs).length (y::ys).length=min xs.length ys.length+1:=by simp only[Tw];omega
  rw[e,Ul,Uk,List.all_map];have e2:((x::xs).length==(y::ys).length)=(xs.length==ys.length):=by simp
  rw[e2,Bool.and_assoc];have e3:(List.range (min xs.length ys.length)).all (xj (x::xs) (y::ys)∘Nat.succ)=(List.range (min xs.length ys.length)).all (xj xs ys):=by
   congr 1
  rw[e3];rfl
mutual
noncomputable def pl:D->Bool
 |.tup xs=>xf xs
 |.lst xs=>xf xs
 |.dct _ _=>false
 |.obj _ _ _=>false
 |.exc _ _ _=>false
 |.kt _=>false
 |_=>true
noncomputable def xf:List D->Bool
 |[]=>true
 |x::xs=>pl x&&xf xs
end
def fD{ks vs:List D}(h:pl (.dct ks vs)=true):False:=by unfold pl at h;cases h
def fM{c:Str}{fs:af}{vs:List D}(h:pl (.obj c fs vs)=true):False:=by unfold pl at h;cases h
def fE{c:Str}{fs:af}{vs:List D}(h:pl (.exc c fs vs)=true):False:=by unfold pl at h;cases h
def gY{xs:af}(h:pl (.kt xs)=true):False:=by unfold pl at h;cases h
theorem kQ:∀{xs:List D},xf xs=true->∀x∈xs,pl x=true
 |[],_,_,h=>nomatch h
 |x::xs,h,y,hy=>by
  unfold xf at h;rw[T6]at h;rcases List.mem_cons.mp hy with z|z
  ·rw[z];exact h.1
  ·exact kQ h.2 y z
def eA{xs:List D}:pl (.tup xs)=xf xs:=by rw[pl]
def eG{xs:List D}:pl (.lst xs)=xf xs:=by rw[pl]
noncomputable def gB:Nat->D->Bool
 |n+1,.tup xs=>xs.all (gB n)
 |n+1,.lst xs=>xs.all (gB n)
 |0,.tup _=>false
 |0,.lst _=>false
 |_,.dct _ _=>false
 |_,.obj _ _ _=>false
 |_,.exc _ _ _=>false
 |_,.kt _=>false
 |_,_=>true
section
variable{X:Cx}{pins:bg}{σ:St}{H:Hp}{s:WZ}
def Inv.not_both(I:Inv X pins σ H s){a:WW}{xs ys:aN}(h:lW X.K H a xs)(h':km X.K H a ys):False:=by
 obtain⟨its,_,ht,_⟩:=I.tuple h;obtain⟨its2,_,hl,_⟩:=I.list h';exact bt rfl (SeqAt.ne_of_list_tuple hl.isList (show s.heap.IsTuple a its.toArray from ht))
mutual
theorem Inv.den_inj(I:Inv X pins σ H s):∀{a b:D}{v:V},pl a=true->pl b=true->dS X.K H a v->dS X.K H b v->a=b
 |.non,b,v,pa,pb,h,h'=>by
  rw[iw]at h;subst h;cases b with
  |non=>rfl
  |bl _=>rw[iu]at h';cases h'
  |int _=>rw[fP]at h';cases h'
  |str _=>rw[eM]at h';cases h'
  |tup _=>rw[cP]at h';obtain⟨_,_,e,_⟩:=h';cases e
  |lst _=>rw[cS]at h';obtain⟨_,_,e,_⟩:=h';cases e
  |dct _ _=>exact(fD pb).elim
  |obj _ _ _=>exact(fM pb).elim
  |exc _ _ _=>exact(fE pb).elim
  |kt _=>exact(gY pb).elim
 |.bl x,b,v,pa,pb,h,h'=>by
  rw[iu]at h;subst h;cases b with
  |non=>rw[iw]at h';cases h'
  |bl _=>rw[iu]at h';cases h';rfl
  |int _=>rw[fP]at h';cases h'
  |str _=>rw[eM]at h';cases h'
  |tup _=>rw[cP]at h';obtain⟨_,_,e,_⟩:=h';cases e
  |lst _=>rw[cS]at h';obtain⟨_,_,e,_⟩:=h';cases e
  |dct _ _=>exact(fD pb).elim
  |obj _ _ _=>exact(fM pb).elim
  |exc _ _ _=>exact(fE pb).elim
  |kt _=>exact(gY pb).elim
 |.int x,b,v,pa,pb,h,h'=>by
  rw[fP]at h;subst h;cases b with
  |non=>rw[iw]at h';cases h'
  |bl _=>rw[iu]at h';cases h'
  |int _=>rw[fP]at h';cases h';rfl
  |str _=>rw[eM]at h';cases h'
  |tup _=>rw[cP]at h';obtain⟨_,_,e,_⟩:=h';cases e
  |lst _=>rw[cS]at h';obtain⟨_,_,e,_⟩:=h';cases e
  |dct _ _=>exact(fD pb).elim
  |obj _ _ _=>exact(fM pb).elim
  |exc _ _ _=>exact(fE pb).elim
  |kt _=>exact(gY pb).elim
 |.str x,b,v,pa,pb,h,h'=>by
  rw[eM]at h;subst h;cases b with
  |non=>rw[iw]at h';cases h'
  |bl _=>rw[iu]at h';cases h'
  |int _=>rw[fP]at h';cases h'
  |str _=>rw[eM]at h';cases h';rfl
  |tup _=>rw[cP]at h';obtain⟨_,_,e,_⟩:=h';cases e
  |lst _=>rw[cS]at h';obtain⟨_,_,e,_⟩:=h';cases e
  |dct _ _=>exact(fD pb).elim
  |obj _ _ _=>exact(fM pb).elim
  |exc _ _ _=>exact(fE pb).elim
  |kt _=>exact(gY pb).elim
 |.tup xs,b,v,pa,pb,h,h'=>by
  rw[cP]at h;obtain⟨a,vs,e,h1,h2⟩:=h;subst e;cases b with
  |non=>rw[iw]at h';cases h'
  |bl _=>rw[iu]at h';cases h'
  |int _=>rw[fP]at h';cases h'
  |str _=>rw[eM]at h';cases h'
  |tup ys=>
   rw[cP]at h';obtain⟨a',vs',e,h1',h2'⟩:=h';cases e;have ev:=I.tuple_inj (lW.of h1) (lW.of h1');subst ev;rw[Inv.denL_inj I (by first|rw[<-eA];exact pa|rw[<-eG];exact pa) (by first|rw[<-eA];exact pb|rw[<-eG];exact pb) h2 h2']
  |lst _=>rw[cS]at h';obtain⟨_,_,e,h1',_⟩:=h';cases e;exact(Inv.not_both I (lW.of h1) h1').elim
  |dct _ _=>exact(fD pb).elim
  |obj _ _ _=>exact(fM pb).elim
  |exc _ _ _=>exact(fE pb).elim
  |kt _=>exact(gY pb).elim
 |.lst xs,b,v,pa,pb,h,h'=>by
  rw[cS]at h;obtain⟨a,vs,e,h1,h2⟩:=h;subst e;cases b with
  |non=>rw[iw]at h';cases h'
  |bl _=>rw[iu]at h';cases h'
  |int _=>rw[fP]at h';cases h'
  |str _=>rw[eM]at h';cases h'
  |lst ys=>
   rw[cS]at h';obtain⟨a',vs',e,h1',h2'⟩:=h';cases e;have ev:=I.list_inj h1 h1';subst ev;rw[Inv.denL_inj I (by first|rw[<-eA];exact pa|rw[<-eG];exact pa) (by first|rw[<-eA];exact pb|rw[<-eG];exact pb) h2 h2']
  |tup _=>rw[cP]at h';obtain⟨_,_,e,h1',_⟩:=h';cases e;exact(Inv.not_both I (lW.of h1') h1).elim
  |dct _ _=>exact(fD pb).elim
  |obj _ _ _=>exact(fM pb).elim
  |exc _ _ _=>exact(fE pb).elim
  |kt _=>exact(gY pb).elim
 |.dct _ _,_,_,pa,_,_,_=>(fD pa).elim
 |.obj _ _ _,_,_,pa,_,_,_=>(fM pa).elim
 |.exc _ _ _,_,_,pa,_,_,_=>(fE pa).elim
 |.kt _,_,_,pa,_,_,_=>(gY pa).elim
theorem Inv.denL_inj(I:Inv X pins σ H s):∀{as bs:List D}{vs:aN},xf as=true->xf bs=true->aY X.K H as vs->aY X.K H bs vs->as=bs
 |[],bs,vs,pa,pb,h,h'=>by
  rw[cZ]at h;subst h;cases bs with
  |nil=>rfl
  |cons b bs=>rw[bP]at h';obtain⟨_,_,e,_⟩:=h';cases e
 |a::as,bs,vs,pa,pb,h,h'=>by
  rw[bP]at h;obtain⟨v,r,e,h1,h2⟩:=h;subst e;cases bs with
  |nil=>rw[cZ]at h';cases h'
  |cons b bs=>
   rw[bP]at h';obtain⟨v',r',e,h1',h2'⟩:=h';cases e;unfold xf at pa pb;rw[T6]at pa pb;rw[Inv.den_inj I pa.1 pb.1 h1 h1',Inv.denL_inj I pa.2 pb.2 h2 h2']
end
noncomputable def j7:D->Option V
 |.non=>ag .non
 |.bl b=>ag (.bl b)
 |.int i=>ag (.int i)
 |.str x=>ag (.str x)
 |_=>am
def mB{K:VC}{d:D}{v x:V}(h:j7 d=ag x)(hd:dS K H d v):v=x/\Dl x=true:=by
 cases d with
 |non=>cases h;exact⟨iw.mp hd,rfl⟩
 |bl b=>cases h;exact⟨iu.mp hd,rfl⟩
 |int i=>cases h;exact⟨fP.mp hd,rfl⟩
 |str y=>cases h;exact⟨eM.mp hd,rfl⟩
 |_=>cases h
def Ht{a b:D}{x y:V}(ha:j7 a=ag x)(hb:j7 b=ag y):Pa x y=pyEq a b:=by
 cases a<;>cases ha<;>cases b<;>cases hb<;>(unfold Pa;rfl)
def wI{a:D}{x:V}(n:Nat)(h:j7 a=ag x):gB n a=true:=by
 cases a with
 |tup _=>cases h
 |lst _=>cases h
 |dct _ _=>cases h
 |obj _ _ _=>cases h
 |exc _ _ _=>cases h
 |kt _=>cases h
 |_=>cases n<;>rfl
def wD{a:D}(h:j7 a=am):gB 0 a=false:=by
 cases a with
 |tup _=>rfl
 |lst _=>rfl
 |dct _ _=>rfl
 |obj _ _ _=>rfl
 |exc _ _ _=>rfl
 |kt _=>rfl
 |_=>cases h
theorem in1_units(A:W7):A.in1.units=A.units+1:=rfl
def oz{vs:aN}{us:bA}(r:Vals vs us){j:Nat}(h:j<us.toArray.size):∃x,vs[j]?=ag x/\RelV x us.toArray[j]:=by
 have hj:j<us.length:=by simpa using h
 have hl:=r.length;have hv:j<vs.length:=by omega
 obtain⟨u,e,ru⟩:=r.get (i:=j) (x:=vs[j]) (by simp[hv]);refine⟨vs[j],by simp[hv],?_⟩;have e2:us.toArray[j]=u:=by
  rw[Um hj]at e
  simpa using Option.some.inj e
 rw[e2];exact ru
def nK{K:VC}{ds:List D}{vs:aN}(h:aY K H ds vs){j:Nat}{x:V}(e:vs[j]?=ag x):∃d,ds[j]?=ag d/\dS K H d x:=by
 have hj:j<vs.length:=(List.getElem?_eq_some_iff.mp e).1;have hl:=h.length;have hd:j<ds.length:=by omega
 obtain⟨v,e1,e2⟩:=h.get (i:=j) (d:=ds[j]) (by simp[hd]);rw[e]at e1;cases e1;exact⟨ds[j],by simp[hd],e2⟩
def MB(I:Inv X pins σ H s):∀(n:Nat)(a b:D)(x y:V)(u v:WU)(A:W7),pl a=true->pl b=true->(gB n a=true\/gB n b=true)->dS X.K H a x->dS X.K H b y->RelV x u->RelV y v->A.units+n<XC->EqAt A s u v (pyEq a b):=by
 intro n
 induction n with
 |zero=>
  intro a b x y u v A pa pb hd ha hb ru rv hA;have hu:A.units<XC:=hA;cases ha':j7 a with
  |some x'=>
   obtain⟨e,f⟩:=mB ha' ha;subst e;cases hb':j7 b with
   |some y'=>
    obtain⟨e,f'⟩:=mB hb' hb;subst e;rw[<-Ht ha' hb'];exact Lj ru rv f f'
   |none=>
    cases b with
    |tup ys=>
     rw[cP]at hb;obtain⟨p,vs,e,h1,h2⟩:=hb;subst e;cases rv;obtain⟨its,_,ht,_⟩:=I.tuple (lW.of h1);have ht':s.heap.IsTuple p its.toArray:=ht;cases a with
     |non=>cases ha';cases ru;exact .none_tuple ht' hu
     |bl z=>cases ha';cases ru;exact .bool_tuple z ht' hu
     |int z=>cases ha';obtain⟨t,rfl⟩:=ru;exact .int_tuple z t ht' hu
     |str z=>cases ha';obtain⟨t,rfl⟩:=ru;exact .str_tuple z t ht' hu
     |_=>cases ha'
    |lst ys=>
     rw[cS]at hb;obtain⟨p,vs,e,h1,h2⟩:=hb;subst e;cases rv;obtain⟨its,_,ht,_⟩:=I.list h1;have ht':s.heap.IsList p its.toArray:=ht.isList;cases a with
     |non=>cases ha';cases ru;exact .none_list ht' hu
     |bl z=>cases ha';cases ru;exact .bool_list z ht' hu
     |int z=>cases ha';obtain⟨t,rfl⟩:=ru;exact .int_list z t ht' hu
     |str z=>cases ha';obtain⟨t,rfl⟩:=ru;exact .str_list z t ht' hu
     |_=>cases ha'
    |dct _ _=>exact(fD pb).elim
    |obj _ _ _=>exact(fM pb).elim
    |exc _ _ _=>exact(fE pb).elim
    |kt _=>exact(gY pb).elim
    |_=>cases hb'
  |none=>
   have hdb:gB 0 b=true:=by
    rcases hd with hd|hd
    ·rw[wD ha']at hd;cases hd
    ·exact hd
   cases hb':j7 b with
   |none=>rw[wD hb']at hdb;cases hdb
   |some y'=>
    obtain⟨e,f'⟩:=mB hb' hb;subst e;cases a with
    |tup xs=>
     rw[cP]at ha;obtain⟨p,vs,e,h1,h2⟩:=ha;subst e;cases ru;obtain⟨its,_,ht,_⟩:=I.tuple (lW.of h1);have ht':s.heap.IsTuple p its.toArray:=ht;cases b with
     |non=>cases hb';cases rv;exact .tuple_none ht' hu
     |bl z=>cases hb';cases rv;exact .tuple_bool z ht' hu
     |int z=>cases hb';obtain⟨t,rfl⟩:=rv;exact .tuple_int z t ht' hu
     |str z=>cases hb';obtain⟨t,rfl⟩:=rv;exact .tuple_str z t ht' hu
     |_=>cases hb'
    |lst xs=>
     rw[cS]at ha;obtain⟨p,vs,e,h1,h2⟩:=ha;subst e;cases ru;obtain⟨its,_,ht,_⟩:=I.list h1;have ht':s.heap.IsList p its.toArray:=ht.isList;cases b with
     |non=>cases hb';cases rv;exact .list_none ht' hu
     |bl z=>cases hb';cases rv;exact .list_bool z ht' hu
     |int z=>cases hb';obtain⟨t,rfl⟩:=rv;exact .list_int z t ht' hu
     |str z=>cases hb';obtain⟨t,rfl⟩:=rv;exact .list_str z t ht' hu
     |_=>cases hb'
    |dct _ _=>exact(fD pa).elim
    |obj _ _ _=>exact(fM pa).elim
    |exc _ _ _=>exact(fE pa).elim
    |kt _=>exact(gY pa).elim
    |_=>cases ha'
 |succ n ih=>
  intro a b x y u v A pa pb hd ha hb ru rv hA;have hu:A.units<XC:=by omega
  have flatWay:(∀xs ys,¬(a=.tup xs/\b=.tup ys))->(∀xs ys,¬(a=.lst xs/\b=.lst ys))->EqAt A s u v (pyEq a b):=by
   intro n1 n2;cases ha':j7 a with
   |some x'=>exact ih a b x y u v A pa pb (.inl (wI n ha')) ha hb ru rv ‹0›
   |none=>
    cases hb':j7 b with
    |some y'=>exact ih a b x y u v A pa pb (.inr (wI n hb')) ha hb ru rv ‹0›
    |none=>
     cases a with
     |tup xs=>
      cases b with
      |tup ys=>exact bt ⟨rfl,rfl⟩ (n1 xs ys)
      |lst ys=>
       rw[cP]at ha;obtain⟨p,vs,e,h1,h2⟩:=ha;subst e;rw[cS]at hb;obtain⟨p',vs',e,h1',h2'⟩:=hb;subst e;cases ru;cases rv;obtain⟨its,_,ht,_⟩:=I.tuple (lW.of h1);obtain⟨its2,_,ht2,_⟩:=I.list h1';exact .tuple_list (show s.heap.IsTuple p its.toArray from ht) ht2.isList hu
      |dct _ _=>exact(fD pb).elim
      |obj _ _ _=>exact(fM pb).elim
      |exc _ _ _=>exact(fE pb).elim
      |kt _=>exact(gY pb).elim
      |_=>cases hb'
     |lst xs=>
      cases b with
      |lst ys=>exact bt ⟨rfl,rfl⟩ (n2 xs ys)
      |tup ys=>
       rw[cS]at ha;obtain⟨p,vs,e,h1,h2⟩:=ha;subst e;rw[cP]at hb;obtain⟨p',vs',e,h1',h2'⟩:=hb;subst e;cases ru;cases rv;obtain⟨its,_,ht,_⟩:=I.list h1;obtain⟨its2,_,ht2,_⟩:=I.tuple (lW.of h1');exact .list_tuple ht.isList (show s.heap.IsTuple p' its2.toArray from ht2) hu
      |dct _ _=>exact(fD pb).elim
      |obj _ _ _=>exact(fM pb).elim
      |exc _ _ _=>exact(fE pb).elim
      |kt _=>exact(gY pb).elim
      |_=>cases hb'
     |dct _ _=>exact(fD pa).elim
     |obj _ _ _=>exact(fM pa).elim
     |exc _ _ _=>exact(fE pa).elim
     |kt _=>exact(gY pa).elim
     |_=>cases ha'
  have items:∀(xs ys:List D)(vs vs':aN)(its its':bA),xf xs=true->xf ys=true->(gB (n+1) (.tup xs)=true\/gB (n+1) (.tup ys)=true)->aY X.K H xs vs->aY X.K H ys vs'->Vals vs its->Vals vs' its'->
    ∀j (h1:j<its.toArray.size) (h2:j<its'.toArray.size),EqAt A.in1 s its.toArray[j] its'.toArray[j] (xj xs ys j):=by
   intro xs ys vs vs' its its' px py hdd hx hy rx ry j h1 h2;obtain⟨w1,e1,r1⟩:=oz rx h1;obtain⟨w2,e2,r2⟩:=oz ry h2;obtain⟨d1,f1,g1⟩:=nK hx e1;obtain⟨d2,f2,g2⟩:=nK hy e2;have e3:xj xs ys j=pyEq d1 d2:=(by unfold xj;rw[f1,f2]);rw[e3];refine ih d1 d2 w1 w2 _ _ A.in1 (kQ px _ (TZ f1)) (kQ py _ (TZ f2)) ?_ g1 g2 r1 r2 (by rw[in1_units];omega);rcases hdd with hdd|hdd
   ·exact .inl (List.all_eq_true.mp hdd d1 (TZ f1))
   ·exact .inr (List.all_eq_true.mp hdd d2 (TZ f2))
  by_cases hT:∃xs ys,a=.tup xs/\b=.tup ys
  ·obtain⟨xs,ys,rfl,rfl⟩:=hT;have da:=ha;have db:=hb;rw[cP]at ha hb;obtain⟨p,vs,e,h1,h2⟩:=ha;subst e;obtain⟨p',vs',e,h1',h2'⟩:=hb;subst e;cases ru;cases rv;by_cases hp:p=p'
   ·subst hp;have e:=Inv.den_inj I pa pb da db;rw[e,mO];exact EqAt.same _
   ·obtain⟨its,Km,ht,_⟩:=I.tuple (lW.of h1);obtain⟨its2,MG,ht2,_⟩:=I.tuple (lW.of h1');refine EqAt.of_refs hp ?_;have q:=RcAt.tuples (e:=xj xs ys) (show s.heap.IsTuple p its.toArray from ht) (show s.heap.IsTuple p' its2.toArray from ht2) hu (items xs ys vs vs' its its2 (by first|rw[<-eA];exact pa|rw[<-eG];exact pa) (by first|rw[<-eA];exact pb|rw[<-eG];exact pb) hd h2 h2' Km MG);have z1:its.toArray.size=xs.length:=(by rw[Tv,<-Km.length,<-h2.length]);have z2:its2.toArray.size=ys.length:=(by rw[Tv,<-MG.length,<-h2'.length]);rw[z1,z2,fG]at q;exact q
  ·by_cases hL:∃xs ys,a=.lst xs/\b=.lst ys
   ·obtain⟨xs,ys,rfl,rfl⟩:=hL;have da:=ha;have db:=hb;rw[cS]at ha hb;obtain⟨p,vs,e,h1,h2⟩:=ha;subst e;obtain⟨p',vs',e,h1',h2'⟩:=hb;subst e;cases ru;cases rv;by_cases hp:p=p'
    ·subst hp;have e:=Inv.den_inj I pa pb da db;rw[e,mO];exact EqAt.same _
    ·obtain⟨its,Km,ht,_⟩:=I.list h1;obtain⟨its2,MG,ht2,_⟩:=I.list h1';refine EqAt.of_refs hp ?_;have z1:its.toArray.size=xs.length:=(by rw[Tv,<-Km.length,<-h2.length]);have z2:its2.toArray.size=ys.length:=(by rw[Tv,<-MG.length,<-h2'.length]);have er:=fG xs ys;by_cases hz:its.toArray.size=its2.toArray.size
     ·have q:=RcAt.lists (e:=xj xs ys) ht.isList ht2.isList hz hu (items xs ys vs vs' its its2 (by first|rw[<-eA];exact pa|rw[<-eG];exact pa) (by first|rw[<-eA];exact pb|rw[<-eG];exact pb) hd h2 h2' Km MG);rw[z1]at q;have hz':xs.length=ys.length:=(by omega);rw[<-hz',Uo]at er;simp only[beq_self_eq_true,Uq]at er;rw[er]at q;exact q
     ·have hne:(its.toArray.size !=its2.toArray.size)=true:=(by simpa using hz);have q:=RcAt.lists_lengths (A:=A) ht.isList ht2.isList hne hu;have hz':(xs.length==ys.length)=false:=by
       rw[z1,z2]at hz
       simpa using hz
      rw[hz',Ur]at er;rw[show pyEq (.lst xs) (.lst ys)=false from er.symm];exact q
   ·exact flatWay (λxs ys z=>hT ⟨xs,ys,z⟩) λxs ys z=>hL ⟨xs,ys,z⟩
end
section
variable{X:Cx}{pins:bg}{σ:St}{H:Hp}{s:WZ}
def oH(I:Inv X pins σ H s){n:Nat}{xs ys:List D}{vs vs':aN}{its its':bA}{A:W7}(px:xf xs=true)(py:xf ys=true)(hdd:gB (n+1) (.tup xs)=true\/gB (n+1) (.tup ys)=true)(hx:aY X.K H xs vs)(hy:aY X.K H ys vs')(rx:Vals vs its)(ry:Vals vs' its')(hA:A.units+n<XC):
  ∀j (h1:j<its.toArray.size) (h2:j<its'.toArray.size),EqAt A s its.toArray[j] its'.toArray[j] (xj xs ys j):=by
 intro j h1 h2;obtain⟨w1,e1,r1⟩:=oz rx h1;obtain⟨w2,e2,r2⟩:=oz ry h2;obtain⟨d1,f1,g1⟩:=nK hx e1;obtain⟨d2,f2,g2⟩:=nK hy e2;have e3:xj xs ys j=pyEq d1 d2:=by unfold xj;rw[f1,f2]
 rw[e3];refine MB I n d1 d2 w1 w2 _ _ A (kQ px _ (TZ f1)) (kQ py _ (TZ f2)) ?_ g1 g2 r1 r2 hA;rcases hdd with hdd|hdd
 ·exact .inl (List.all_eq_true.mp hdd d1 (TZ f1))
 ·exact .inr (List.all_eq_true.mp hdd d2 (TZ f2))
inductive Way(I:Inv X pins σ H s):D->WU->Prop where
 |non:Way I .non .none
 |bl (b:Bool):Way I (.bl b) (.bool b)
 |int (i:Int) (t:Tok):Way I (.int i) (.int i t)
 |str (x:Str) (t:Tok):Way I (.str x) (.str x t)
 |tup {xs:List D} {p:WW} {vs:aN} {its:bA} (h:aY X.K H xs vs) (r:Vals vs its) (t:s.heap.IsTuple p its.toArray):Way I (.tup xs) (.ref p)
 |lst {xs:List D} {p:WW} {vs:aN} {its:bA} (h:aY X.K H xs vs) (r:Vals vs its) (t:s.heap.IsList p its.toArray):Way I (.lst xs) (.ref p)
noncomputable def top:D->Bool
 |.dct _ _=>false
 |.obj _ _ _=>false
 |.exc _ _ _=>false
 |.kt _=>false
 |_=>true
def eZ{d:D}(h:pl d=true):top d=true:=by
 cases d with
 |dct _ _=>exact(fD h).elim
 |obj _ _ _=>exact(fM h).elim
 |exc _ _ _=>exact(fE h).elim
 |kt _=>exact(gY h).elim
 |_=>rfl
def eP(I:Inv X pins σ H s){d:D}{v:V}{u:WU}(pd:top d=true)(h:dS X.K H d v)(r:RelV v u):Way I d u:=by
 cases d with
 |non=>rw[iw]at h;subst h;cases r;exact .non
 |bl b=>rw[iu]at h;subst h;cases r;exact .bl b
 |int i=>rw[fP]at h;subst h;obtain⟨t,rfl⟩:=r;exact .int i t
 |str x=>rw[eM]at h;subst h;obtain⟨t,rfl⟩:=r;exact .str x t
 |tup xs=>
  rw[cP]at h;obtain⟨p,vs,e,h1,h2⟩:=h;subst e;cases r;obtain⟨its,rv,ht,_⟩:=I.tuple (lW.of h1);exact .tup h2 rv ht
 |lst xs=>
  rw[cS]at h;obtain⟨p,vs,e,h1,h2⟩:=h;subst e;cases r;obtain⟨its,rv,ht,_⟩:=I.list h1;exact .lst h2 rv ht.isList
 |dct _ _=>cases pd
 |obj _ _ _=>cases pd
 |exc _ _ _=>cases pd
 |kt _=>cases pd
def K1(I:Inv X pins σ H s){n:Nat}{a b:D}{x y:V}{u v:WU}{A:W7}(pa:pl a=true)(pb:pl b=true)(hd:gB (n+1) a=true\/gB (n+1) b=true)(ha:dS X.K H a x)(hb:dS X.K H b y)(ru:RelV x u)(rv:RelV y v)(hA:A.units+n+1<XC):RcAt A s u v (pyEq a b):=by
 have hu:A.units<XC:=by omega
 cases eP I (eZ pa) ha ru with
 |non=>cases eP I (eZ pb) hb rv with
  |non=>exact .none_none
  |bl b=>exact .none_bool b
  |int i t=>exact .none_int i t
  |str x t=>exact .none_str x t
  |tup h r t=>exact .none_tuple t hu
  |lst h r t=>exact .none_list t hu
 |bl z=>cases eP I (eZ pb) hb rv with
  |non=>exact .bool_none z
  |bl b=>exact .bool_bool z b
  |int i t=>exact .bool_int z i t
  |str x t=>exact .bool_str z x t
  |tup h r t=>exact .bool_tuple z t hu
  |lst h r t=>exact .bool_list z t hu
 |int z tz=>cases eP I (eZ pb) hb rv with
  |non=>exact .int_none z tz
  |bl b=>exact .int_bool z tz b
  |int i t=>exact .int_int z tz i t
  |str x t=>exact .int_str z tz x t
  |tup h r t=>exact .int_tuple z tz t hu
  |lst h r t=>exact .int_list z tz t hu
 |str z tz=>cases eP I (eZ pb) hb rv with
  |non=>exact .str_none z tz
  |bl b=>exact .str_bool z tz b
  |int i t=>exact .str_int z tz i t
  |str x t=>exact .str_str z tz x t
  |tup h r t=>exact .str_tuple z tz t hu
  |lst h r t=>exact .str_list z tz t hu
 |@tup xs p vs its h1 r1 t1=>cases eP I (eZ pb) hb rv with
  |non=>exact .tuple_none t1 hu
  |bl b=>exact .tuple_bool b t1 hu
  |int i t=>exact .tuple_int i t t1 hu
  |str x t=>exact .tuple_str x t t1 hu
  |@tup ys p' vs' its' h2 r2 t2=>
   have q:=RcAt.tuples (e:=xj xs ys) t1 t2 hu (oH (A:=A.in1) I (by first|rw[<-eA];exact pa|rw[<-eG];exact pa) (by first|rw[<-eA];exact pb|rw[<-eG];exact pb) hd h1 h2 r1 r2 (by rw[in1_units];omega));have z1:its.toArray.size=xs.length:=(by rw[Tv,<-r1.length,<-h1.length]);have z2:its'.toArray.size=ys.length:=(by rw[Tv,<-r2.length,<-h2.length]);rw[z1,z2,fG]at q;exact q
  |lst h r t=>exact .tuple_list t1 t hu
 |@lst xs p vs its h1 r1 t1=>cases eP I (eZ pb) hb rv with
  |non=>exact .list_none t1 hu
  |bl b=>exact .list_bool b t1 hu
  |int i t=>exact .list_int i t t1 hu
  |str x t=>exact .list_str x t t1 hu
  |tup h r t=>exact .list_tuple t1 t hu
  |@lst ys p' vs' its' h2 r2 t2=>
   have z1:its.toArray.size=xs.length:=(by rw[Tv,<-r1.length,<-h1.length]);have z2:its'.toArray.size=ys.length:=(by rw[Tv,<-r2.length,<-h2.length]);have er:=fG xs ys;by_cases hz:its.toArray.size=its'.toArray.size
   ·have q:=RcAt.lists (e:=xj xs ys) t1 t2 hz hu (oH (A:=A.in1) I (by first|rw[<-eA];exact pa|rw[<-eG];exact pa) (by first|rw[<-eA];exact pb|rw[<-eG];exact pb) hd h1 h2 r1 r2 (by rw[in1_units];omega));rw[z1]at q;have hz':xs.length=ys.length:=(by omega);rw[<-hz',Uo]at er;simp only[beq_self_eq_true,Uq]at er;rw[er]at q;exact q
   ·have q:=RcAt.lists_lengths (A:=A) t1 t2 (by simpa using hz) hu;have hz':(xs.length==ys.length)=false:=by
     rw[z1,z2]at hz
     simpa using hz
    rw[hz',Ur]at er;rw[show pyEq (.lst xs) (.lst ys)=false from er.symm];exact q
def Gd(I:Inv X pins σ H s){n:Nat}{a b:D}{x y:V}{u v:WU}{A:W7}(pa:pl a=true)(pb:pl b=true)(hd:gB (n+1) a=true\/gB (n+1) b=true)(ha:dS X.K H a x)(hb:dS X.K H b y)(ru:RelV x u)(rv:RelV y v)(hA:A.units+n+1<XC):RcNeAt A s u v (!pyEq a b):=by
 have hu:A.units<XC:=by omega
 cases eP I (eZ pa) ha ru with
 |non=>cases eP I (eZ pb) hb rv with
  |non=>exact .none_none
  |bl b=>exact .none_bool b
  |int i t=>exact .none_int i t
  |str x t=>exact .none_str x t
  |tup h r t=>exact .none_tuple t hu
  |lst h r t=>exact .none_list t hu
 |bl z=>cases eP I (eZ pb) hb rv with
  |non=>exact .bool_none z
  |bl b=>exact .bool_bool z b
  |int i t=>exact .bool_int z i t
  |str x t=>exact .bool_str z x t
  |tup h r t=>exact .bool_tuple z t hu
  |lst h r t=>exact .bool_list z t hu
 |int z tz=>cases eP I (eZ pb) hb rv with
  |non=>exact .int_none z tz
  |bl b=>exact .int_bool z tz b
  |int i t=>exact .int_int z tz i t
  |str x t=>exact .int_str z tz x t
  |tup h r t=>exact .int_tuple z tz t hu
  |lst h r t=>exact .int_list z tz t hu
 |str z tz=>cases eP I (eZ pb) hb rv with
  |non=>exact .str_none z tz
  |bl b=>exact .str_bool z tz b
  |int i t=>exact .str_int z tz i t
  |str x t=>exact .str_str z tz x t
  |tup h r t=>exact .str_tuple z tz t hu
  |lst h r t=>exact .str_list z tz t hu
 |@tup xs p vs its h1 r1 t1=>cases eP I (eZ pb) hb rv with
  |non=>exact .tuple_none t1 hu
  |bl b=>exact .tuple_bool b t1 hu
  |int i t=>exact .tuple_int i t t1 hu
  |str x t=>exact .tuple_str x t t1 hu
  |@tup ys p' vs' its' h2 r2 t2=>
   have q:=RcNeAt.tuples (e:=xj xs ys) t1 t2 hu (oH (A:=A.in1) I (by first|rw[<-eA];exact pa|rw[<-eG];exact pa) (by first|rw[<-eA];exact pb|rw[<-eG];exact pb) hd h1 h2 r1 r2 (by rw[in1_units];omega));have z1:its.toArray.size=xs.length:=(by rw[Tv,<-r1.length,<-h1.length]);have z2:its'.toArray.size=ys.length:=(by rw[Tv,<-r2.length,<-h2.length]);rw[z1,z2,fG]at q;exact q
  |lst h r t=>exact .tuple_list t1 t hu
 |@lst xs p vs its h1 r1 t1=>cases eP I (eZ pb) hb rv with
  |non=>exact .list_none t1 hu
  |bl b=>exact .list_bool b t1 hu
  |int i t=>exact .list_int i t t1 hu
  |str x t=>exact .list_str x t t1 hu
  |tup h r t=>exact .list_tuple t1 t hu
  |@lst ys p' vs' its' h2 r2 t2=>
   have z1:its.toArray.size=xs.length:=(by rw[Tv,<-r1.length,<-h1.length]);have z2:its'.toArray.size=ys.length:=(by rw[Tv,<-r2.length,<-h2.length]);have er:=fG xs ys;by_cases hz:its.toArray.size=its'.toArray.size
   ·have q:=RcNeAt.lists (e:=xj xs ys) t1 t2 hz hu (oH (A:=A.in1) I (by first|rw[<-eA];exact pa|rw[<-eG];exact pa) (by first|rw[<-eA];exact pb|rw[<-eG];exact pb) hd h1 h2 r1 r2 (by rw[in1_units];omega));rw[z1]at q;have hz':xs.length=ys.length:=(by omega);rw[<-hz',Uo]at er;simp only[beq_self_eq_true,Uq]at er;rw[er]at q;exact q
   ·have q:=RcNeAt.lists_lengths (A:=A) t1 t2 (by simpa using hz) hu;have hz':(xs.length==ys.length)=false:=by
     rw[z1,z2]at hz
     simpa using hz
    rw[hz',Ur]at er;rw[show pyEq (.lst xs) (.lst ys)=false from er.symm];exact q
end
section
variable{X:Cx}
def rD(K:VC)(g:D->D->bE):R2:=λx y H Q=>∃O a b d,dZ H O/\dS K (hid H O) a x/\dS K (hid H O) b y/\g a b=ag d/\∀v H',aO H H'->dS K (hid H' O) d v->Q v H'
def cX{K:VC}{g:D->D->bE}:dA K (rD K g) g:=λa b d x y O H Q hO hg ha hb q=>⟨O,a,b,d,hO,ha,hb,hg,q⟩
def oW{f : WU -> WU -> Sem WU}{g : D -> D -> bE}(h : ∀ (pins : bg) (s : WZ) (σ : St) (H : Hp) (a b d : D) (x y : V) (u v : WU), Inv X pins σ H s -> dS X.K H a x -> dS X.K H b y -> RelV x u -> RelV y v -> g a b = ag d ->
      ∃c,d=.bl c/\∀(Q:bI),Q (.bool c) s->Xa (model X.prog X.w) X.A (f u v) Q X.xe s):ik X f (rD X.K g):=by
  rintro pins s σ H x y u v Q I rx ry ⟨O,a,b,d,hO,ha,hb,hg,q⟩;obtain⟨c,rfl,hq⟩:=h pins s σ H a b d x y u v I (ha.mono (aP H O)) (hb.mono (aP H O)) rx ry hg;exact hq _ ⟨.bl c,H,I,rfl,q _ H (aO.refl H) (iu.mpr rfl)⟩
def jc(a b:D):bE:=if(pl a&&pl b)&&(gB 8 a||gB 8 b)then ag (.bl (pyEq a b))else am
def xr(a b:D):bE:=if(pl a&&pl b)&&(gB 8 a||gB 8 b)then ag (.bl (!pyEq a b))else am
def Ee(hu:X.A.units+64<XC):ik X (Xg .Eq) (rD X.K jc):=oW λpins s σ H a b d x y u v I ha hb ru rv hg=>by
 obtain⟨h1,h2⟩:=bQ hg;subst h2;rw[T6,T6,Us]at h1;exact⟨_,rfl,λQ q=>K1 (n:=7) (A:=X.A) I h1.1.1 h1.1.2 h1.2 ha hb ru rv ‹0› X.prog X.w X.xe Q q⟩
def D6(hu:X.A.units+64<XC):ik X (Xg .NotEq) (rD X.K xr):=oW λpins s σ H a b d x y u v I ha hb ru rv hg=>by
 obtain⟨h1,h2⟩:=bQ hg;subst h2;rw[T6,T6,Us]at h1;exact⟨_,rfl,λQ q=>Gd (n:=7) (A:=X.A) I h1.1.1 h1.1.2 h1.2 ha hb ru rv ‹0› X.prog X.w X.xe Q q⟩
def KP(p:Int->Int->D)(a b:D):bE:=match a,b with
 |.int i,.int j=>ag (p i j)
 |_,_=>am
def Sa:=KP λi j=>.bl (decide (i<j))
def zX:=KP λi j=>.bl (decide (i<=j))
def Sy:=KP λi j=>.bl (decide (j<i))
def Sr:=KP λi j=>.bl (decide (j<=i))
def gm{K:VC}{g:Int->Int->Bool}:dA K (Iu λi j=>.bl (g i j)) (KP λi j=>.bl (g i j)):=λa b d x y O H Q hO hg ha hb q=>by
 cases a with
 |int i=>
  cases b with
  |int j=>cases hg;exact⟨i,j,fP.mp ha,fP.mp hb,q _ H (aO.refl H) (iu.mpr rfl)⟩
  |_=>cases hg
 |_=>cases hg
def ym{K:VC}{g:Int->Int->Int}:dA K (Iu λi j=>.int (g i j)) (KP λi j=>.int (g i j)):=λa b d x y O H Q hO hg ha hb q=>by
 cases a with
 |int i=>
  cases b with
  |int j=>cases hg;exact⟨i,j,fP.mp ha,fP.mp hb,q _ H (aO.refl H) (fP.mpr rfl)⟩
  |_=>cases hg
 |_=>cases hg
def NW(c:Int->Int->Bool)(p:Int->Int->Int)(a b:D):bE:=match a,b with
 |.int i,.int j=>if c i j then ag (.int (p i j))else am
 |_,_=>am
def jK{K:VC}{C:Int->Int->Prop}{c:Int->Int->Bool}{g:Int->Int->Int}(hc:∀i j,c i j=true->C i j):dA K (rI C λi j=>.int (g i j)) (NW c g):=λa b d x y O H Q hO hg ha hb q=>by
 cases a with
 |int i=>
  cases b with
  |int j=>
   obtain⟨h1,h2⟩:=bQ hg;subst h2;exact⟨i,j,fP.mp ha,fP.mp hb,hc i j h1,q _ H (aO.refl H) (fP.mpr rfl)⟩
  |_=>cases hg
 |_=>cases hg
def Bb:=KP λi j=>.int (i-j)
def yc:=NW (λi j=>decide ((-(2^64)<i/\i<2^64)\/(-(2^64)<j/\j<2^64))) (·*·)
def JZ(_ j:Int):Prop:=0<j/\j<10^200
def DG:ik X (Xs .FloorDiv) (rI JZ λi j=>.int (i/j)):=O0 λi j _ _ _ _ _ hc q=>by
 have h1:(0:Int)<j:=hc.1;have h2:j<10^200:=hc.2;refine PyProof.Rows.floordiv_int ‹0› (by rw[Int.fdiv_eq_ediv_of_nonneg i ‹0›];exact q) (.inl (PyProof.noPylong_of_log2 ?_));have h3:j.natAbs<10^200:=by omega
 rw[Ut ‹0›];exact Uu h3 (by decide +kernel)
def jv:=NW (λ_ j=>decide (0<j/\j<10^200)) (·/·)
def gW:=NW (λ_ j=>decide (0<j)) (·%·)
def md:=NW (λi j=>decide (0<=j/\j<=1000000/\i.natAbs<2^64)) λi j=>i^j.toNat
def KQ{K:VC}:dA K (Iu λi j=>.int (i-j)) Bb:=ym
def Ds{K:VC}:dA K (rI Ml λi j=>.int (i*j)) yc:=jK λi j h=>by have q:=cr h;exact q
def Mz{K:VC}:dA K (rI JZ λi j=>.int (i/j)) jv:=jK λi j h=>by have q:=cr h;exact q
def Mm{K:VC}:dA K (rI (λ_ j=>0<j) λi j=>.int (i%j)) gW:=jK λ_ _ h=>cr h
def Kx{K:VC}:dA K (rI NN λi j=>.int (i^j.toNat)) md:=jK λi j h=>by have q:=cr h;exact q
def MM(K:VC):R2:=λx y H Q=>∃l b xs zs,x=.ref l/\y=.ref b/\km K H l xs/\km K H b zs/\xs.length+zs.length<=W4/\∀p,H p=am->Q (.ref p) (upd H p (.lst (xs++zs)))
def Ja:ik X (Xs .Add) (MM X.K):=by
 intro pins s σ H x y v u Q I rx ry h;obtain⟨l,b,xs,zs,rfl,rfl,hH,hB,hz,q⟩:=h;cases rx;cases ry;obtain⟨its,r,t1,_⟩:=I.list hH;obtain⟨its2,r2,t2,_⟩:=I.list hB;obtain⟨⟨c1,d1,dt1,sl1⟩,n1,ho,hc,hd,hdt⟩:=t1;obtain⟨⟨c2,d2,dt2,sl2⟩,n2,ho2,hc2,hd2,hdt2⟩:=t2;simp only at hc hd hdt hc2 hd2 hdt2;subst hc hd hdt hc2 hd2 hdt2;have z1:=r.length;have z2:=r2.length;refine XU ⟨_,ho,rfl⟩ ⟨_,ho2,rfl⟩ noFill_list_add seq_list_add F.slot_list_add F.entry_list_add (F.args_list_add_2 _ _) (PyProof.Rows.list_addW l b its.toArray its2.toArray n1 n2 am am sl1 sl2 (by rw[Tv,Tv];omega)) ⟨ho,ho2,?_⟩;have ea:its.toArray++its2.toArray=(its++its2).toArray:=by simp
 rw[ea];exact⟨.ref _,_,I.lnew (t':=s.toks) (r.append r2) (by rw[T1];omega),rfl,q _ I.fresh⟩
def LL(K:VC):R2:=λx y H Q=>∃a b xs ys,x=.ref a/\y=.ref b/\lW K H a xs/\lW K H b ys/\xs.length+ys.length<=W4/\
 (xs=[]->Q (.ref b) H)/\(xs≠[]->ys=[]->Q (.ref a) H)/\(xs≠[]->ys≠[]->∀p,H p=am->Q (.ref p) (upd H p (.tup (xs++ys))))
def C7:ik X (Xs .Add) (LL X.K):=by
 intro pins s σ H x y v u Q I rx ry h;obtain⟨a,b,xs,ys,ex,ey,ha,hb,hz,q0,q1,q2⟩:=h;by_cases hx:xs=[]
 ·subst ex ey;cases rx;cases ry;obtain⟨its,r1,p1,_⟩:=I.tuple ha;obtain⟨its2,r2,p2,_⟩:=I.tuple hb;obtain⟨⟨cls,dd,data,sl⟩,ho,hc,n,hd⟩:=id p1;obtain⟨⟨cls2,dd2,data2,sl2⟩,ho2,hc2,n2,hd2⟩:=id p2;simp only at hc hd hc2 hd2;subst hc hd hc2 hd2;have e:its=[]:=r1.nil_iff.mpr hx;exact XU ⟨_,ho,rfl⟩ ⟨_,ho2,rfl⟩ XX XY F.slot_tuple_add F.entry_tuple_add (F.args_tuple_add_2 _ _)
   (PyProof.Rows.tuple_addW0 a b its.toArray its2.toArray n n2 dd dd2 sl sl2 (by rw[e];rfl)) ⟨ho,ho2,⟨.ref b,H,I,rfl,q0 hx⟩⟩
 ·exact HF pins s σ H x y v u Q I rx ry ⟨a,b,xs,ys,ex,ey,ha,hb,hx,hz,q1 hx,q2 hx⟩
noncomputable def av(a b:D):bE:=match a,b with
 |.int i,.int j=>ag (.int (i+j))
 |.str x,.str y=>if small (x.length+y.length)then ag (.str (x++y))else am
 |.lst xs,.lst ys=>if small (xs.length+ys.length)then ag (.lst (xs++ys))else am
 |.tup xs,.tup ys=>if small (xs.length+ys.length)then ag (.tup (xs++ys))else am
 |_,_=>am
def zZ:ik X (Xs .Add) (rD X.K av):=by
 rintro pins s σ H x y u v Q I rx ry ⟨O,a,b,d,hO,ha,hb,hg,q⟩;cases a with
 |int i=>
  cases b with
  |int j=>
   cases hg;exact Kh pins s σ H x y u v Q I rx ry ⟨i,j,fP.mp ha,fP.mp hb,q _ H (aO.refl H) (fP.mpr rfl)⟩
  |_=>cases hg
 |str i=>
  cases b with
  |str j=>
   obtain⟨h1,h2⟩:=bQ hg;subst h2;exact ya pins s σ H x y u v Q I rx ry ⟨i,j,eM.mp ha,eM.mp hb,dF h1,q _ H (aO.refl H) (eM.mpr rfl)⟩
  |_=>cases hg
 |lst xs=>
  cases b with
  |lst ys=>
   obtain⟨h1,h2⟩:=bQ hg;subst h2;rw[cS]at ha hb;obtain⟨p,vs,ex,g1,g2⟩:=ha;obtain⟨p',vs',ey,g1',g2'⟩:=hb;refine Ja pins s σ H x y u v Q I rx ry ⟨p,p',vs,vs',ex,ey,(aP H O).seq g1,(aP H O).seq g1',?_,λr hr=>?_⟩
   ·rw[<-g2.length,<-g2'.length];exact dF h1
   ·exact q _ _ (dr hr _) (gL hO hr (g2.append g2'))
  |_=>cases hg
 |tup xs=>
  cases b with
  |tup ys=>
   obtain⟨h1,h2⟩:=bQ hg;subst h2;have da:=ha;have db:=hb;rw[cP]at ha hb;obtain⟨p,vs,ex,g1,g2⟩:=ha;obtain⟨p',vs',ey,g1',g2'⟩:=hb;have l1:=g2.length;have l2:=g2'.length;refine C7 pins s σ H x y u v Q I rx ry ⟨p,p',vs,vs',ex,ey,cF (aP H O) g1,cF (aP H O) g1',?_,λz=>?_,λz z'=>?_,λz z' r hr=>?_⟩
   ·rw[<-l1,<-l2];exact dF h1
   ·have e:xs=[]:=List.length_eq_zero_iff.mp (by rw[l1,z];rfl);rw[<-ey];refine q _ H (aO.refl H) ?_;rw[e,Uv];exact db
   ·have e:ys=[]:=List.length_eq_zero_iff.mp (by rw[l2,z'];rfl);rw[<-ex];refine q _ H (aO.refl H) ?_;rw[e,TJ];exact da
   ·exact q _ _ (dr hr _) (fU hO hr (g2.append g2'))
  |_=>cases hg
 |_=>cases hg
def aX(a b:D):bE:=match a,b with
 |.tup xs,.int i=>j6 xs i
 |.lst xs,.int i=>j6 xs i
 |.str x,.int i=>if small x.length then(j6 x.cps.toList i).bind λc=>ag (.str ⟨#[c]⟩)else am
 |_,_=>am
def zi{K:VC}{H:Hp}{ds:List D}{vs:aN}{i:Int}{d:D}(h:aY K H ds vs)(e:j6 ds i=ag d):∃v,j6 vs i=ag v/\dS K H d v:=by
 unfold j6 at e ⊢;obtain⟨j,e1,e2⟩:=bind_some e;rw[<-h.length,e1];exact h.get e2
def Pp:NU X (rD X.K aX):=by
 rintro value slice pins s σ H x y u v Q I rx ry ⟨O,a,b,d,hO,ha,hb,hg,q⟩ hsub;cases a with
 |tup xs=>
  cases b with
  |int i=>
   rw[cP]at ha;obtain⟨p,vs,ex,g1,g2⟩:=ha;obtain⟨w,e1,e2⟩:=zi g2 hg;refine KH value slice pins s σ H x y u v Q I rx ry ?_ hsub;exact⟨p,vs,i,w,ex,fP.mp hb,cF (aP H O) g1,e1,q w H (aO.refl H) e2⟩
  |_=>cases hg
 |lst xs=>
  cases b with
  |int i=>
   rw[cS]at ha;obtain⟨p,vs,ex,g1,g2⟩:=ha;obtain⟨w,e1,e2⟩:=zi g2 hg;refine Iz value slice pins s σ H x y u v Q I rx ry ?_ hsub;exact⟨p,vs,i,w,ex,fP.mp hb,(aP H O).seq g1,e1,q w H (aO.refl H) e2⟩
  |_=>cases hg
 |str z=>
  cases b with
  |int i=>
   have hg':(if small z.length then(j6 z.cps.toList i).bind λc=>ag (D.str ⟨#[c]⟩)else am)=ag d:=hg;cases hs:small z.length with
   |false=>rw[hs]at hg';cases hg'
   |true=>
    rw[hs]at hg';obtain⟨c,e1,e2⟩:=bind_some hg';cases e2;refine KO value slice pins s σ H x y u v Q I rx ry ?_ hsub;exact⟨z,i,c,eM.mp ha,fP.mp hb,dF hs,e1,q _ H (aO.refl H) (eM.mpr rfl)⟩
  |_=>cases hg
 |_=>cases hg
def cutD{α:Type}(xs:List α)(lo hi:dH):List α:=(xs.drop (HT.sIx xs.length 0 lo)).take (HT.sIx xs.length xs.length hi-HT.sIx xs.length 0 lo)
def vH{α:Type}(xs:List α)(lo hi:dH):(cutD xs lo hi).length<=xs.length:=by
 unfold cutD;rw[TN,T5];omega
def qU{M:W9}{A:W7}{E:bI}{s:WZ}{t:WW}{items:Array WU}{Q:Bool->ib}(ht:Wy s.heap t items)(h:Q true s):Xa M A (Builtin.Tuple.tupleIsExact (.ref t)) Q E s:=by
 unfold Builtin.Tuple.tupleIsExact;refine Xp (X4 ht.typeIs ?_);exact Xo h
def jY{prog:W1}{w:W0}{A:W7}{E:bI}{s:WZ}{t sl:WW}{items:Array WU}{vl vu:WU}{lo hi:dH}{Q:bI}(ht:Wy s.heap t items)(hs:s.heap.IsSliceOf sl vl vu .none)(pl:XZ vl lo)(pu:XZ vu hi)
  (hw:HT.sIx items.size 0 lo=0/\HT.sIx items.size items.size hi=items.size) (h:Q (.ref t) s):Xa (model prog w) A (getItem (.ref t) (.ref sl)) Q E s:=by
 obtain⟨os,hos,hcs,hds⟩:=id hs;have hTs:s.TypeIs (.ref sl) "slice":=⟨os,hos,hcs⟩
 unfold getItem
 try with_reducible refine X1 ?_
 first|refine Xp (Xo ?_)|skip
 refine Xp (wpAny_sequenceKey ht.typeIs (by decide) ?_);refine Xp (X2 (name:=Str.ofString "__getitem__") ht.typeIs Ww
  (X3 Ww ht.typeIs PyProof.Rows.entry_tuple_getitem ?_ (PyProof.Rows.args_tuple_getitem _ _)))
 show Xa _ _ (Builtin.Tuple.tupleItemsOf (.ref t) >>= _) _ _ s;refine Xp (PyProof.Rows.tupleItemsOf_ ht ?_);refine Xp (X4 hTs ?_);rw[ba (by decide)];refine Xp (HT.mE hs pl pu ?_);have hyes:(((HT.sIx items.size 0 lo:Nat):Int)==0&&(1:Int)==1&&(HT.sIx items.size items.size hi-HT.sIx items.size 0 lo)==items.size)=true:=by
  rw[hw.1,hw.2];simp
 show Xa _ _ (if(((HT.sIx items.size 0 lo:Nat):Int)==0&&(1:Int)==1&&(HT.sIx items.size items.size hi-HT.sIx items.size 0 lo)==items.size)=true then _ else _) _ _ s;rw[ba hyes];refine Xp (qU ht ?_);rw[ba rfl]
 first
  |exact Xp (Yd (Xo ⟨_,rfl,Xo h⟩))
  |exact Xp (Yd (Xp (Xo (Xo ⟨_,rfl,Xo h⟩))))
def fh(a:D)(lo hi:dH):bE:=match a with
 |.lst xs=>ag (.lst (cutD xs lo hi))
 |.tup xs=>ag (.tup (cutD xs lo hi))
 |.str x=>if small x.length then ag (.str ⟨(cutD x.cps.toList lo hi).toArray⟩)else am
 |_=>am
def J0(v:dH)(d n:Nat)(hd:d<=n):(match v with|none=>(d:Int)|some i=>if(1:Int)>0 then max 0 (min (if i<0 then i+(n:Int)else i) (n:Int))else max (-1) (min (if i<0 then i+(n:Int)else i) ((n:Int)-1)))=((HT.sIx n d v:Nat):Int):=by
 cases v with
 |none=>rfl
 |some i=>
  show(if(1:Int)>0 then max 0 (min (if i<0 then i+(n:Int)else i) (n:Int))else max (-1) (min (if i<0 then i+(n:Int)else i) ((n:Int)-1)))=(((if i<0 then(i+(n:Int)).toNat else min i.toNat n):Nat):Int)
  rw[ba (by decide)];by_cases h:i<0
  ·rw[ba h,ba h];omega
  ·rw[br h,br h];omega
def DJ(lo hi:dH)(n:Nat):Builtin.Str.strSliceIndices lo hi 1 n=(List.range (HT.sIx n n hi-HT.sIx n 0 lo)).map λk=>HT.sIx n 0 lo+k:=by
 have e1:=J0 lo 0 n (TH _);have e2:=J0 hi n n (Tt _);have e:Builtin.Str.strSliceIndices lo hi 1 n=sliceRange ((HT.sIx n 0 lo:Nat):Int) ((HT.sIx n n hi:Nat):Int) 1:=by
  rw[<-e1,<-e2];cases lo<;>cases hi<;>rfl
 rw[e];unfold sliceRange;dsimp only;rw[ba (by decide:(1:Int)>0)];have e3:(if((HT.sIx n 0 lo:Nat):Int)<((HT.sIx n n hi:Nat):Int)then(((HT.sIx n n hi:Nat):Int)-((HT.sIx n 0 lo:Nat):Int)+1-1)/1 else 0:Int).toNat=HT.sIx n n hi-HT.sIx n 0 lo:=by
  rw[Int.ediv_one];split<;>omega
 rw[e3];refine List.map_congr_left λk _=>?_;omega
theorem ED{α:Type}(l:List α)(a:Nat):∀n:Nat,((List.range n).map λk=>a+k).filterMap (λi=>l[i]?)=(l.drop a).take n
 |0=>by simp
 |n+1=>by
  rw[List.range_succ,Uw,List.filterMap_append,ED l a n,List.take_add_one,List.getElem?_drop];cases e:l[a+n]?<;>simp[e]
def B6(x:Str)(lo hi:dH):Txt.slice x lo hi=⟨(cutD x.cps.toList lo hi).toArray⟩:=by
 have hl:x.cps.toList.length=x.length:=by simp[Str.length]
 have pick:(Builtin.Str.strSliceIndices lo hi 1 x.length).filterMap (x.cps[·]?)=cutD x.cps.toList lo hi:=by
  rw[DJ];have q:=ED x.cps.toList (HT.sIx x.length 0 lo) (HT.sIx x.length x.length hi-HT.sIx x.length 0 lo);unfold cutD;rw[hl,<-q];congr 1;funext i;simp
 unfold Txt.slice;split
 ·rename_i h;have h':(Builtin.Str.strSliceIndices lo hi 1 x.length).length=x.length:=by simpa using h
  rw[DJ,Tz,Ux]at h';have h1:=HT.Ls x.length x.length (Tt _) hi;have z1:HT.sIx x.length 0 lo=0\/x.length=0:=by omega
  have e:cutD x.cps.toList lo hi=x.cps.toList:=by
   unfold cutD;rw[hl,h'];rcases z1 with z1|z1
   ·rw[z1,Ui,<-hl,List.take_length]
   ·have:x.cps.toList=[]:=List.length_eq_zero_iff.mp (by rw[hl];exact z1)
    rw[this];simp
  rw[e]
 ·rw[pick]
def QS(K:VC):V->dH->dH->Hp->VK->Prop:=λx lo hi H Q=>∃O a d,dZ H O/\dS K (hid H O) a x/\fh a lo hi=ag d/\∀v H',aO H H'->dS K (hid H' O) d v->Q v H'
def aY.cut{K:VC}{H:Hp}{ds:List D}{vs:aN}(h:aY K H ds vs)(lo hi:dH):aY K H (cutD ds lo hi) (vY vs lo hi):=by
 unfold cutD vY;rw[h.length];exact(h.drop _).take _
def P4:OA X (QS X.K):=by
 rintro pins s σ H x v vl vu lo hi sl Q I rx hs pl pu ⟨O,a,d,hO,ha,hg,q⟩;cases a with
 |lst xs=>
  cases hg;rw[cS]at ha;obtain⟨p,vs,ex,g1,g2⟩:=ha;exact Hh pins s σ H x v vl vu lo hi sl Q I rx hs pl pu ⟨p,vs,ex,(aP H O).seq g1,λr hr=>q _ _ (dr hr _) (gL hO hr (g2.cut lo hi))⟩
 |tup xs=>
  cases hg;have da:=ha;rw[cP]at ha;obtain⟨p,vs,ex,g1,g2⟩:=ha;by_cases hw:HT.sIx vs.length 0 lo=0/\HT.sIx vs.length vs.length hi=vs.length
  ·subst ex;cases rx;obtain⟨its,r,ht,hz⟩:=I.tuple (cF (aP H O) g1);have hlen:its.toArray.size=vs.length:=(by rw[Tv];exact r.length.symm);refine⟨"tuple",_,PyProof.Rows.slot_tuple_getitem.lookup,ht.typeIs,jY ht hs pl pu (by rw[hlen];exact hw) ⟨.ref p,H,I,rfl,q _ H (aO.refl H) ?_⟩⟩;have e:cutD xs lo hi=xs:=by
    unfold cutD;rw[g2.length,hw.1,hw.2,Uy,Ui,<-g2.length,List.take_length]
   rw[e];exact da
  ·exact Lc pins s σ H x v vl vu lo hi sl Q I rx hs pl pu ⟨p,vs,ex,cF (aP H O) g1,hw,λr hr=>q _ _ (dr hr _) (fU hO hr (g2.cut lo hi))⟩
 |str z=>
  obtain⟨h1,h2⟩:=bQ hg;subst h2;rw[eM]at ha;subst ha;obtain⟨t,rfl⟩:=rx;have fin:∀t' tk,EP X pins σ Q (.str (Txt.slice z lo hi) t') {s with toks:=tk}:=λt' tk=>by
   rw[B6];exact⟨.str _,H,I.tok _,⟨_,rfl⟩,q _ H (aO.refl H) (eM.mpr rfl)⟩
  obtain⟨os,hos,hcs,hds⟩:=id hs;have hz:=dF h1;refine⟨"str",_,F.slot_str_getitem.lookup,X6 _ _ _,?_⟩;cases pl with
  |none=>
   cases pu with
   |none=>exact Ye (l:=am) (u:=am) (st:=am) ⟨os,hos,hcs,hds⟩ rfl (Yf ⟨Tg (Txt.slice_le z _ _) hz,λt' k=>fin t' k⟩)
   |int j tj=>exact Ye (l:=am) (u:=ag (j,tj)) (st:=am) ⟨os,hos,hcs,hds⟩ rfl (Yf ⟨Tg (Txt.slice_le z _ _) hz,λt' k=>fin t' k⟩)
  |int i ti=>
   cases pu with
   |none=>exact Ye (l:=ag (i,ti)) (u:=am) (st:=am) ⟨os,hos,hcs,hds⟩ rfl (Yf ⟨Tg (Txt.slice_le z _ _) hz,λt' k=>fin t' k⟩)
   |int j tj=>exact Ye (l:=ag (i,ti)) (u:=ag (j,tj)) (st:=am) ⟨os,hos,hcs,hds⟩ rfl (Yf ⟨Tg (Txt.slice_le z _ _) hz,λt' k=>fin t' k⟩)
 |_=>cases hg
def cj:aq->R (dH):=λ_=>.ok am
def xU:D->Option (dH)
 |.int i=>ag (ag i)
 |_=>am
def dY(f:FX):aq->R (dH):=λρ=>(f ρ).bind λd=>rO (xU d)
def Sw(X:Cx)(F:aq->R dH):TO:=λσ H Q=>∃O ρ,dy X.K O H ρ σ/\eQ X σ O H (F ρ) λo=>∀H',aO H H'->Q o H'
def FO(X:Cx)(e:Option WX)(F:aq->R dH):Prop:=PO X e (Sw X F)
def cN(f:FX)(l h:aq->R dH):FX:=λρ=>(f ρ).bind λa=>(l ρ).bind λlo=>(h ρ).bind λhi=>rO (fh a lo hi)
end
end
section
variable[ay]
def Jf(K:VC)(g:List D->bE):aN->Hp->VK->Prop:=λxs H Q=>∃O ds d,dZ H O/\aY K (hid H O) ds xs/\g ds=ag d/\∀v H',aO H H'->dS K (hid H' O) d v->Q v H'
def pP{K:VC}{g:List D->bE}:zN K (Jf K g) g:=λds d xs O H Q hO hg hd q=>⟨O,ds,d,hO,hd,hg,q⟩
section
variable{X:Cx}{x:Str}{p pos:Pos}{e:WX}{es:aS}{id T:String}{g:List D->bE}{f:aQ}
def fz:List D->bE
 |[.lst xs]=>ag (.int xs.length)
 |[.tup xs]=>ag (.int xs.length)
 |[.str x]=>if small x.length then ag (.int x.length)else am
 |[.kt xs]=>ag (.int xs.length)
 |_=>am
def BC:fW X (.builtin "len") (Jf X.K fz):=by
 rintro pins s σ H xs us Q I r ⟨O,ds,d,hO,hd,hg,q⟩;unfold fz at hg;split at hg
 ·rename_i ys;cases hg;obtain⟨v,ev,h1⟩:=hd.one;rw[cS]at h1;obtain⟨p,vs,ep,g1,g2⟩:=h1;exact iN pins s σ H xs us Q I r ⟨p,vs,by rw[ev,ep],.inl ((aP H O).seq g1),q _ H (aO.refl H) (fP.mpr (by rw[g2.length]))⟩
 ·rename_i ys;cases hg;obtain⟨v,ev,h1⟩:=hd.one;rw[cP]at h1;obtain⟨p,vs,ep,g1,g2⟩:=h1;exact iN pins s σ H xs us Q I r ⟨p,vs,by rw[ev,ep],.inr (cF (aP H O) g1),q _ H (aO.refl H) (fP.mpr (by rw[g2.length]))⟩
 ·rename_i z;obtain⟨h1,h2⟩:=bQ hg;subst h2;obtain⟨v,ev,h1'⟩:=hd.one;exact uS pins s σ H xs us Q I r ⟨z,by rw[ev,eM.mp h1'],dF h1,q _ H (aO.refl H) (fP.mpr rfl)⟩
 ·rename_i ys;cases hg;obtain⟨v,ev,h1⟩:=hd.one;obtain⟨p,ep,g1⟩:=QI.mp h1;exact iN pins s σ H xs us Q I r ⟨p,ys.map .str,by rw[ev,ep],.inr (.inr g1),q _ H (aO.refl H) (fP.mpr (by rw[Tz]))⟩
 ·cases hg
def kj:List D->bE
 |[.lst xs]=>ag (.tup xs)
 |[.tup xs]=>ag (.tup xs)
 |_=>am
def wr:fW X (.type "tuple") (Jf X.K kj):=by
 rintro pins s σ H xs us Q I r ⟨O,ds,d,hO,hd,hg,q⟩;unfold kj at hg;split at hg
 ·rename_i ys;cases hg;obtain⟨v,ev,h1⟩:=hd.one;rw[cS]at h1;obtain⟨p,vs,ep,g1,g2⟩:=h1;exact jZ pins s σ H xs us Q I r ⟨p,vs,by rw[ev,ep],.inl ⟨(aP H O).seq g1,λl hl=>q _ _ (dr hl _) (fU hO hl g2)⟩⟩
 ·rename_i ys;cases hg;obtain⟨v,ev,h1⟩:=hd.one;have h0:=h1;rw[cP]at h1;obtain⟨p,vs,ep,g1,g2⟩:=h1;rw[ep]at h0;exact jZ pins s σ H xs us Q I r ⟨p,vs,by rw[ev,ep],.inr ⟨cF (aP H O) g1,q _ H (aO.refl H) h0⟩⟩
 ·cases hg
def N5:List D->bE
 |[.int i,.int j]=>ag (.int (if j>i then j else i))
 |_=>am
def Nv:List D->bE
 |[.int i,.int j]=>ag (.int (if j<i then j else i))
 |_=>am
noncomputable def Le:D->String
 |.non=>"NoneType"
 |.bl _=>"bool"
 |.int _=>"int"
 |.str _=>"str"
 |.tup _=>"tuple"
 |.lst _=>"list"
 |.dct _ _=>"dict"
 |_=>""
noncomputable def HK(T:String)(d:D):Bool:=match d with
 |.bl _=>T=="bool"||T=="int"
 |.non=>T=="NoneType"
 |.int _=>T=="int"
 |.str _=>T=="str"
 |.tup _=>T=="tuple"
 |.lst _=>T=="list"
 |.dct _ _=>T=="dict"
 |_=>false
def yx(K:VC)(T:String):Prop:=∀d:D,top d=true->V7 K (.type (Le d)) (.type T)=ag (HK T d)
def Qz(K:VC)(T:String):aN->Hp->VK->Prop:=λxs H Q=>∃O x d,xs=[x,.ty T]/\top d=true/\dS K (hid H O) d x/\Q (.bl (HK T d)) H
def Gg(ok:yx X.K T):fW X (.builtin "isinstance") (Qz X.K T):=by
 rintro pins s σ H xs us Q I r ⟨O,x,d,ex,td,hd,q⟩;subst ex;obtain⟨u,w',rfl,rx,rt⟩:=vals2 r;cases rt;have e:=ok d td;have fin:∀tk,EP X pins σ Q (.bool (HK T d)) {s with toks:=tk}:=λtk=>⟨.bl _,H,I.tok _,rfl,q⟩
 cases eP I td (hd.mono (aP H O)) rx with
 |non=>exact V8 PySem.W.kitx_none I.kIn True.intro e (λz=>nomatch z) fin
 |bl b=>exact V8 PySem.W.kitx_bool I.kIn True.intro e (λz=>nomatch z) fin
 |int i t=>exact V8 PySem.W.kitx_int I.kIn True.intro e (λz=>nomatch z) fin
 |str y t=>exact V8 PySem.W.kitx_str I.kIn True.intro e (λz=>nomatch z) fin
 |tup h rv t=>
  obtain⟨o,h1,h2,_⟩:=t;exact V8 PySem.W.kitx_tuple I.kIn ⟨o,h1,h2⟩ e (λz=>nomatch z) fin
 |lst h rv t=>
  obtain⟨o,h1,h2,_⟩:=t;exact V8 PySem.W.kitx_list I.kIn ⟨o,h1,h2⟩ e (λz=>nomatch z) fin
def kY:W6 "isinstance"=ag (.builtin "isinstance"):=by first|rfl|decide +kernel
def xq(T:String)(d:D):bE:=if top d then ag (.bl (HK T d))else am
def nH(T:String)(f:FX):FX:=f1 (xq T) f
end
section
variable{X:Cx}{a:WX}{f:FX}{pos:Pos}
noncomputable def isNon:D->Bool
 |.non=>true
 |_=>false
def rz{K:VC}{H:Hp}{d:D}{v:V}(h:dS K H d v):decide (v=.non)=isNon d:=by
 cases d with
 |non=>rw[iw.mp h];rfl
 |bl b=>rw[iu.mp h];rfl
 |int i=>rw[fP.mp h];rfl
 |str x=>rw[eM.mp h];rfl
 |tup xs=>obtain⟨_,_,e,_⟩:=cP.mp h;rw[e];rfl
 |lst xs=>obtain⟨_,_,e,_⟩:=cS.mp h;rw[e];rfl
 |dct _ _=>obtain⟨_,_,e,_⟩:=OT.mp h;rw[e];rfl
 |obj _ _ _=>obtain⟨_,_,e,_⟩:=OV.mp h;rw[e];rfl
 |exc _ _ _=>obtain⟨_,_,e,_⟩:=OC.mp h;rw[e];rfl
 |kt _=>obtain⟨_,e,_⟩:=QI.mp h;rw[e];rfl
def PK(d:D):bE:=ag (.bl (isNon d))
def Ni(d:D):bE:=ag (.bl (!isNon d))
def ql(f:FX):FX:=f1 PK f
def j0(f:FX):FX:=f1 Ni f
def zm:∀σ H Q,tF X (ql f) σ H Q->tF X f σ H λv H'=>Q (.bl (decide (v=.non))) H':=λσ H Q Z=>Z.e λO Z=>Z.e λρ Z=>Z.e λE hF=>⟨O,ρ,E,(eQ.bind hF).imp λa hF v H1 s1 d1=>by
 obtain⟨d,e,q⟩:=eQ.rO hF;cases e;rw[rz d1];exact q _ H1 s1 (iu.mpr rfl)⟩
def wO:∀σ H Q,tF X (j0 f) σ H Q->tF X f σ H λv H'=>Q (.bl (!decide (v=.non))) H':=λσ H Q Z=>Z.e λO Z=>Z.e λρ Z=>Z.e λE hF=>⟨O,ρ,E,(eQ.bind hF).imp λa hF v H1 s1 d1=>by
 obtain⟨d,e,q⟩:=eQ.rO hF;cases e;rw[rz d1];exact q _ H1 s1 (iu.mpr rfl)⟩
end
def Walk(K:VC)(Hd:Hp)(J:It)(ds:List D):Prop:=
 ∀(Hn:Hp)(O':aD)(i:Nat),dZ Hn O'->aO Hd (hid Hn O')->(∀d,ds[i]?=ag d->J.go i Hn/\∀x H2,J.yld i Hn x H2->aO Hn H2/\dS K (hid H2 O') d x)/\(i=ds.length->J.stop i Hn)
def OO(X:Cx)(G:aQ):TI:=λσ H RR=>∃O ρ,dy X.K O H ρ σ/\eQ X σ O H (G ρ) λds=>∀J H1,aO H H1->Walk X.K (hid H1 O) J ds->RR J H1
def FI(X:Cx)(tg iter:WX)(G:aQ):Prop:=PI X tg iter (OO X G)
noncomputable def pT:D->Option (List D)
 |.lst xs=>ag xs
 |.tup xs=>ag xs
 |_=>am
def fj(f:FX):aQ:=λρ=>(f ρ).bind λd=>rO (pT d)
section
variable{X:Cx}{tg:WX}
def BG{K:VC}{Hd:Hp}{a:WW}{ds:List D}{vs:aN}(h:km K Hd a vs)(g:aY K Hd ds vs):Walk K Hd (Qo K a) ds:=λHn O' i hO s=>
  have s':aO Hd Hn:=s.trans (aP Hn O')
  ⟨fun d e=>by
    obtain⟨v,ev,dv⟩:=g.get e;refine⟨⟨vs,v,s'.seq h,ev⟩,λx H2 Z=>Z.e λe2 y=>?_⟩;have q:=y vs (s'.seq h);rw[ev]at q;cases q;subst e2;exact⟨aO.refl _,dv.mono s⟩,
   λhl=>⟨vs,s'.seq h,by rw[<-g.length];exact TB hl.symm⟩⟩
def EQ{K:VC}{Hd:Hp}{a:WW}{ds:List D}{vs:aN}(h:Hd a=ag (.tup vs))(g:aY K Hd ds vs):Walk K Hd (QO K a) ds:=λHn O' i hO s=>
  have s':aO Hd Hn:=s.trans (aP Hn O')
  ⟨fun d e=>by
    obtain⟨v,ev,dv⟩:=g.get e;refine⟨⟨vs,v,cF s' h,ev⟩,λx H2 Z=>Z.e λe2 y=>?_⟩;have q:=y vs (cF s' h);rw[ev]at q;cases q;subst e2;exact⟨aO.refl _,dv.mono s⟩,
   λhl=>⟨vs,cF s' h,by rw[<-g.length];exact TB hl.symm⟩⟩
noncomputable def eR(lo:Int)(n:Nat):List D:=(List.range n).map λ(k:Nat)=>D.int (lo+(k:Int))
def ra(lo:Int)(n:Nat):(eR lo n).length=n:=by unfold eR;rw[Tz,Ux]
def xJ{K:VC}{Hd:Hp}(lo:Int)(n:Nat):Walk K Hd (OI lo n) (eR lo n):=λHn O' i hO s=>
  ⟨fun d e=>by
    unfold eR at e;rw[TV]at e;cases hi:(List.range n)[i]? with
    |none=>rw[hi]at e;cases e
    |some k=>
      rw[hi]at e;cases e;have hlt:i<n:=by
        have:=(List.getElem?_eq_some_iff.mp hi).1
        rwa [Ux]at this
      have ek:k=i:=by
        rw[List.getElem?_range hlt]at hi;exact(Option.some.inj hi).symm
      subst ek;exact⟨hlt,λx H2 Z=>Z.e λe1 e2=>by subst e1;exact⟨aO.refl _,fP.mpr e2⟩⟩,
   λhl=>by rw[ra]at hl;exact TB hl.symm⟩
noncomputable def okR(j:Int):Bool:=decide (-(2^62)<=j/\j<2^62)
def jU:List D->Option (List D)
 |[.int j]=>if okR j then ag (eR 0 j.toNat)else am
 |_=>am
def zY:List D->Option (List D)
 |[.int i,.int j]=>if okR i&&okR j then ag (eR i (j-i).toNat)else am
 |_=>am
def gh(f:aQ):aQ:=λρ=>(f ρ).bind λds=>rO (jU ds)
def Jt(f:aQ):aQ:=λρ=>(f ρ).bind λds=>rO (zY ds)
end
abbrev GF:=D->aq->Option aq
def N0(K:VC)(g:GF):TG:=λv σ H Q=>∃O ρ d ρ',dy K O H ρ σ/\dS K (hid H O) d v/\g d ρ=ag ρ'/\∀σ',dy K O H ρ' σ'->(∀(i:Nat) x,ρ'[i]?=ag (ag x)->(∀d,x≠.val d)->σ'[i]?=σ[i]?/\ρ[i]?=ag (ag x))->Q σ' H
def FG(X:Cx)(tg:WX)(g:GF):Prop:=PG X tg (N0 X.K g)
def setV(i:Nat)(d:D)(ρ:aq):aq:=ρ.set i (ag (.val d))
def aU{α:Type}{l:List α}{i j:Nat}{a b:α}(h:(l.set i a)[j]?=ag b):(j=i/\b=a)\/(j≠i/\l[j]?=ag b):=by
 by_cases e:j=i
 ·subst e;left;have hj:j<(l.set j a).length:=(List.getElem?_eq_some_iff.mp h).1;rw[Uz]at hj;rw[To hj]at h;exact⟨rfl,(Option.some.inj h).symm⟩
 ·right;rw[Tp (Ne.symm e)]at h;exact⟨e,h⟩
theorem dy.setV{K:VC}{O:aD}{H:Hp}{ρ:aq}{σ:St}(E:dy K O H ρ σ){i:Nat}{d:D}{v:V}(hi:i<σ.length)(hd:dS K (hid H O) d v):dy K O H (setV i d ρ) (σ.set i (ag v)):=
  ⟨fun j d' e=>by
    rcases aU e with⟨hj,eq⟩|⟨ne,eq⟩
    ·cases eq;rw[hj];exact⟨v,To hi,hd⟩
    · obtain⟨w,e1,e2⟩:=E.val j d' eq
      exact⟨w,by rw[Tp (Ne.symm ne)];exact e1,e2⟩,
   λj xs e=>by
    rcases aU e with⟨_,eq⟩|⟨ne,eq⟩
    ·cases eq
    · obtain⟨a,e1,e2⟩:=E.own j xs eq
      exact⟨a,by rw[Tp (Ne.symm ne)];exact e1,e2⟩,
   λj k xs ys a e1 e2 e3 e4=>by
    rcases aU e1 with⟨_,q1⟩|⟨ne1,q1⟩
    ·cases q1
    · rcases aU e2 with⟨_,q2⟩|⟨ne2,q2⟩
      ·cases q2
      · rw[Tp (Ne.symm ne1)]at e3
        rw[Tp (Ne.symm ne2)]at e4;exact E.one j k xs ys a q1 q2 e3 e4,E.all⟩
section
variable{X:Cx}{pos:Pos}
def gN(i:Nat):GF:=λd ρ=>ag (setV i d ρ)
abbrev Gr:=List D->aq->Option aq
def Qf(K:VC)(g:Gr):JX:=λvs σ H Q=>∃O ρ ds ρ',dy K O H ρ σ/\aY K (hid H O) ds vs/\g ds ρ=ag ρ'/\∀σ',dy K O H ρ' σ'->(∀(i:Nat) x,ρ'[i]?=ag (ag x)->(∀d,x≠.val d)->σ'[i]?=σ[i]?/\ρ[i]?=ag (ag x))->Q σ' H
def S5(X:Cx)(ts:aS)(g:Gr):Prop:=Nj X ts (Qf X.K g)
def J2:Gr:=λds ρ=>match ds with
 |[]=>ag ρ
 |_=>am
def DK(g:GF)(h:Gr):Gr:=λds ρ=>match ds with
 |d::r=>(g d ρ).bind λρ1=>h r ρ1
 |_=>am
def gT(n:Nat)(g:Gr):GF:=λd ρ=>match d with
 |.tup xs=>if xs.length=n then g xs ρ else am
 |_=>am
end
def Jw{α:Type}(r:R α):R α:=match r with
 |.ok a=>.ok a
 |.error _=>un
def Gm{α:Type}{r:R α}{a:α}(h:Jw r=.ok a):r=.ok a:=by
 cases r with
 |ok b=>exact h
 |error z=>cases h
def inB(ix:eV)(ρ:aq):aq:=ix.map λo=>match o with
 |some i=>match ρ[i]? with
  |some (ag (.val d))=>ag (.val d)
  |_=>am
 |none=>am
def Gh(ρ:aq)(g:GF)(C:bL)(Fe:FX):List D->R (List D)
 |[]=>.ok []
 |d::ds=>(rO (g d ρ)).bind λρ1=>(Jw (C ρ1)).bind λc=>if c then(Jw (Fe ρ1)).bind λv=>(Gh ρ g C Fe ds).bind λr=>.ok (v::r)else Gh ρ g C Fe ds
theorem v6(ρ:aq)(g:GF)(C:bL)(Fe:FX)(d:D)(ds:List D):Gh ρ g C Fe (d::ds)=(rO (g d ρ)).bind λρ1=>(Jw (C ρ1)).bind λc=>if c then(Jw (Fe ρ1)).bind λv=>(Gh ρ g C Fe ds).bind λr=>.ok (v::r)else Gh ρ g C Fe ds:=rfl
def kD(ix:eV)(G:aQ)(g:GF)(C:bL)(Fe:FX):FX:=λρ=>(G ρ).bind λds=>if small ds.length then Jw ((Gh (inB ix ρ) g C Fe ds).bind λr=>.ok (.lst r))else un
def Qx(X:Cx)(ifs:aS)(F:bL):Prop:=Mw X ifs (OJ X F)
def eF:bL:=λ_=>.ok true
def OG{X:Cx}:Qx X [] eF:=λpins s σ H Q I Z=>Z.e λO Z=>Z.e λρ Z=>Z.e λE q=>G8 pins s σ H Q I (q H (aO.refl H))
def kM{ix:eV}{ρ:aq}{j:Nat}{x:S}(e:(inB ix ρ)[j]?=ag (ag x)):∃i d,ix[j]?=ag (ag i)/\ρ[i]?=ag (ag (.val d))/\x=.val d:=by
 unfold inB at e;rw[TV]at e;cases q:ix[j]? with
 |none=>rw[q]at e;cases e
 |some o=>
  rw[q]at e;cases o with
  |none=>cases e
  |some i=>
   have e':(match ρ[i]? with|some (ag (.val d))=>ag (S.val d)|_=>am)=ag x:=Option.some.inj e;split at e'
   ·rename_i d hd;cases e';exact⟨i,d,rfl,hd,rfl⟩
   ·cases e'
def zy{K:VC}{O:aD}{H:Hp}{ρ:aq}{σ:St}(ix:eV)(E:dy K O H ρ σ):dy K O H (inB ix ρ) (inBlock ix σ):=by
 refine⟨λj d e=>?_,λj xs e=>?_,λj k xs ys a e=>?_,E.all⟩
 ·obtain⟨i,d',q1,q2,q3⟩:=kM e;cases q3;obtain⟨v,e1,e2⟩:=E.val i d q2;refine⟨v,?_,e2⟩;unfold inBlock;rw[TV,q1];show ag ((σ[i]?).getD am)=ag (ag v);rw[e1];rfl
 ·obtain⟨_,_,_,_,q3⟩:=kM e;cases q3
 ·obtain⟨_,_,_,_,q3⟩:=kM e;cases q3
def vj{H:Hp}{O:aD}{p:WW}{o:HO}(hp:H p=am):aO (hid H O) (hid (upd H p o) (p::O)):=λb u h=>by
 unfold hid at h ⊢;by_cases hb:b∈O
 ·rw[ba hb]at h;cases h
 ·rw[br hb]at h;have ne:=aT h hp;rw[br (by intro z;rcases List.mem_cons.mp z with z|z;exact ne z;exact hb z),aL ne];exact h
def dy.hideNew{K:VC}{O:aD}{H:Hp}{ρ:aq}{σ:St}{p:WW}{o:HO}(m:jC o)(E:dy K O H ρ σ)(hp:H p=am):dy K (p::O) (upd H p o) ρ σ:=by
 have s:aO (hid H O) (hid (upd H p o) (p::O)):=vj hp;refine⟨λi d e=>let ⟨v,a,b⟩:=E.val i d e;⟨v,a,b.mono s⟩,λi xs e=>?_,E.one,(E.all.same (dr hp o)).cons bu m⟩;obtain⟨a,e1,e2,e3⟩:=E.own i xs e;obtain⟨u,hu⟩:=e3.some;exact⟨a,e1,Tl _ e2,e3.mono (by rw[aL (aT hu hp)]) s⟩
def dy.rewrite{K:VC}{O:aD}{H:Hp}{ρ:aq}{σ:St}{p:WW}{o:HO}(m:jC o)(E:dy K O H ρ σ)(hp:p∈O)(hs:∀(i:Nat) xs,ρ[i]?=ag (ag (.own xs))->σ[i]?≠ag (ag (.ref p))):dy K O (upd H p o) ρ σ:=by
 have s:aO (hid H O) (hid (upd H p o) O):=iA hp;refine⟨λi d e=>let ⟨v,a,b⟩:=E.val i d e;⟨v,a,b.mono s⟩,λi xs e=>?_,E.one,E.all.upd hp m⟩;obtain⟨a,e1,e2,e3⟩:=E.own i xs e;have ne:a≠p:=λz=>hs i xs e (by rw[<-z];exact e1);exact⟨a,e1,e2,e3.mono (by rw[aL ne]) s⟩
def dy.forget{K:VC}{O:aD}{H:Hp}{ρ ρ':aq}{σ:St}(E:dy K O H ρ σ)(h:∀(i:Nat) x,ρ'[i]?=ag (ag x)->ρ[i]?=ag (ag x)):dy K O H ρ' σ:=
 ⟨λi d e=>E.val i d (h i _ e),λi xs e=>E.own i xs (h i _ e),λi j xs ys a e1 e2=>E.one i j xs ys a (h i _ e1) (h j _ e2),E.all⟩
def Fills(ρ:aq)(g:GF):Prop:=∀d ρ1,g d ρ=ag ρ1->∀(i:Nat) x,ρ[i]?=ag (ag x)->ρ1[i]?=ag (ag x)
def sr(ix:eV)(ρ:aq):∀(i:Nat) xs,(inB ix ρ)[i]?≠ag (ag (.own xs)):=by
 intro j xs e;obtain⟨_,_,_,_,q3⟩:=kM e;cases q3
def Nt{α:Type}{o:Option α}{a:α}(h:rO o=.ok a):o=ag a:=by
 cases o with
 |none=>cases h
 |some b=>cases h;rfl
section
variable{X:Cx}{elt tg iter:WX}{ifs:aS}{scope:W8}{pos:Pos}{N:af}{ix:eV}{G:aQ}{g:GF}{C:bL}{Fe:FX}
structure kB(ix:eV)(g:GF):Prop where
 fill:∀ρ,Fills (inB ix ρ) g
 own:∀ρ d ρ1,g d (inB ix ρ)=ag ρ1->∀(i:Nat) xs,ρ1[i]?≠ag (ag (.own xs))
def wV{ρ:aq}{i:Nat}(h:ix[i]?=ag am):∀x,(inB ix ρ)[i]?≠ag (ag x):=λx e=>by
 obtain⟨_,_,q,_⟩:=kM e;rw[h]at q;cases q
def g6{i:Nat}(h:ix[i]?=ag am):kB ix (gN i):=
  ⟨fun ρ d ρ1 e j x q=>by
    cases e;by_cases z:j=i
    ·subst z;exact bt q (wV h x)
    ·unfold setV;rw[Tp (Ne.symm z)];exact q,
   λρ d ρ1 e j xs q=>by
    cases e;rcases aU q with⟨_,z⟩|⟨_,z⟩
    ·cases z
    ·exact sr ix ρ j xs z⟩
def He(ix:eV)(is:bJ):Bool:=is.all λi=>match ix[i]? with
 |some am=>true
 |_=>false
def vc:bJ->Gr
 |[]=>J2
 |i::is=>DK (gN i) (vc is)
theorem zb:∀(is:bJ)(ds:List D)(ρ ρ1:aq),vc is ds ρ=ag ρ1->∀(k:Nat)(x:S),ρ1[k]?=ag (ag x)->(k∈is/\∃d,x=.val d)\/ρ[k]?=ag (ag x)
 |[],ds,ρ,ρ1,h,k,x,e=>by
  cases ds with
  |nil=>cases h;exact .inr e
  |cons _ _=>cases h
 |i::is,ds,ρ,ρ1,h,k,x,e=>by
  cases ds with
  |nil=>cases h
  |cons d ds=>
   rcases zb is ds (setV i d ρ) ρ1 h k x e with⟨a,b⟩|q
   ·exact .inl ⟨Tl _ a,b⟩
   ·rcases aU q with⟨z,w⟩|⟨_,w⟩
    ·exact .inl ⟨by rw[z];exact Tj,d,Option.some.inj w⟩
    ·exact .inr w
theorem wN:∀(is:bJ)(ds:List D)(ρ ρ1:aq),vc is ds ρ=ag ρ1->∀(k:Nat)(x:S),k∉is->ρ[k]?=ag (ag x)->ρ1[k]?=ag (ag x)
 |[],ds,ρ,ρ1,h,k,x,_,e=>by
  cases ds with
  |nil=>cases h;exact e
  |cons _ _=>cases h
 |i::is,ds,ρ,ρ1,h,k,x,n,e=>by
  cases ds with
  |nil=>cases h
  |cons d ds=>
   refine wN is ds (setV i d ρ) ρ1 h k x (λz=>n (Tl _ z)) ?_;unfold setV;rw[Tp (λz=>n (by rw[z];exact Tj))];exact e
def gx{is:bJ}{n:Nat}(h:He ix is=true):kB ix (gT n (vc is)):=by
 have hn:∀i∈is,ix[i]?=ag none:=λi hi=>by
  have:=List.all_eq_true.mp h i hi
  cases e:ix[i]? with
  |none=>rw[e]at this;cases this
  |some o=>cases o with
   |none=>rfl
   |some _=>rw[e]at this;cases this
 have shape:∀ρ d ρ1,gT n (vc is) d ρ=ag ρ1->∃ds,vc is ds ρ=ag ρ1:=λρ d ρ1 e=>by
  cases d with
  |tup xs=>
   have e':(if xs.length=n then vc is xs ρ else am)=ag ρ1:=e;by_cases hl:xs.length=n
   ·rw[ba hl]at e';exact⟨xs,e'⟩
   ·rw[br hl]at e';cases e'
  |_=>cases e
 refine⟨λρ d ρ1 e k x q=>?_,λρ d ρ1 e k xs q=>?_⟩
 ·obtain⟨ds,e⟩:=shape _ d ρ1 e;exact wN is ds _ ρ1 e k x (λz=>wV (hn k z) x q) q
 ·obtain⟨ds,e⟩:=shape _ d ρ1 e;rcases zb is ds _ ρ1 e k _ q with⟨_,d,z⟩|z
  ·cases z
  ·exact sr ix ρ k xs z
structure jL(X:Cx)(scope:W8)(N:af)(ix:eV):Prop where
 cell:∀y∈scope.names,y.2≠.cell
 kind:scope.kind=.function
 names:∀y∈scope.names,y.2=.local->scope.names.lookup y.1=ag .local
 free:∀y∈scope.names,y.2=.free->X.env.scope.names.lookup y.1=ag .cell\/X.env.scope.names.lookup y.1=ag .free
 ix:t0 X.N N scope.names ix=true
noncomputable def il(XS:pS)(XN:af)(scope:W8)(N:af)(ix:eV):Bool:=
 scope.names.all (λy=>decide (y.2≠.cell))&&decide (scope.kind=.function)&&scope.names.all (λy=>decide (y.2≠.local)||decide (scope.names.lookup y.1=ag .local)) &&
  scope.names.all (λy=>decide (y.2≠.free)||(decide (XS.lookup y.1=ag .cell)||decide (XS.lookup y.1=ag .free)))&&t0 XN N scope.names ix
def jL.of(h:il X.env.scope.names X.N scope N ix=true):jL X scope N ix:=by
 unfold il at h;simp only[T6]at h;obtain⟨⟨⟨⟨h1,h2⟩,h3⟩,h4⟩,h5⟩:=h;refine⟨λy hy=>cr (List.all_eq_true.mp h1 y hy),cr h2,λy hy e=>?_,λy hy e=>?_,h5⟩
 ·rcases Us _ _ ▸ List.all_eq_true.mp h3 y hy with q|q
  ·exact bt e (cr q)
  ·exact cr q
 ·rcases Us _ _ ▸ List.all_eq_true.mp h4 y hy with q|q
  ·exact bt e (cr q)
  ·rcases Us _ _ ▸ q with q|q
   ·exact .inl (cr q)
   ·exact .inr (cr q)
def Pq(X:Cx)(scope:W8)(N:af)(tg elt:WX)(ifs:aS)(g:GF)(C:bL)(Fe:FX):Prop:=
 ∀cl C' fp s H E,FG (bD X scope N cl C' fp s H E) tg g/\Qx (bD X scope N cl C' fp s H E) ifs C/\FE (bD X scope N cl C' fp s H E) elt Fe
def HV(K:VC)(F:bL):TT:=λσ H Q=>∃O ρ b,dy K O H ρ σ/\F ρ=.ok b/\∀H',aO H H'->Q b H'
def Qc(K:VC)(F:FX):TE:=λσ H Q=>∃O ρ d,dy K O H ρ σ/\F ρ=.ok d/\∀v H',aO H H'->dS K (hid H' O) d v->Q v H'
def Pq.k(hb:Pq X scope N tg elt ifs g C Fe):∀cl C' fp s H E,PG (bD X scope N cl C' fp s H E) tg (N0 X.K g)/\Mw (bD X scope N cl C' fp s H E) ifs (HV X.K C)/\PE (bD X scope N cl C' fp s H E) elt (Qc X.K Fe):=λcl C' fp s H E=>by
 obtain⟨h1,h2,h3⟩:=hb cl C' fp s H E;refine⟨h1,λpins s σ H Q I Z=>Z.e λO Z=>Z.e λρ Z=>Z.e λb Z=>Z.e λe1 Z=>Z.e λe2 q=>h2 pins s σ H Q I ⟨O,ρ,e1,by rw[e2];exact q⟩,λpins s σ H Q I Z=>Z.e λO Z=>Z.e λρ Z=>Z.e λd Z=>Z.e λe1 Z=>Z.e λe2 q=>h3 pins s σ H Q I ⟨O,ρ,e1,by rw[e2];exact q⟩⟩
def Rb(X:Cx)(F:FX):TE:=λσ H Q=>∃O ρ,dy X.K O H ρ σ/\eQ X σ O H (F ρ) λd=>∀D H' total acc,d=.lst total->aO H H'->H D=am->H' D=ag (.lst acc)->aY X.K (hid H' (D::O)) total acc->Q (.ref D) H'
def QV{F:FX}:∀σ H Q,tF X F σ H Q->Rb X F σ H Q:=λσ H Q Z=>Z.e λO Z=>Z.e λρ Z=>Z.e λE hF=>⟨O,ρ,E,hF.imp λd q D H' total acc e sm hD hD' dn=>by
 subst e;have DO:D∉O:=E.all.not hD;exact q _ H' sm (cS.mpr ⟨D,acc,rfl,km.of (by rw[kC DO];exact hD'),dn.mono (dD λa ha=>Tl _ ha)⟩)⟩
def Fk(tk:kB ix g):∀σ H Q,Rb X (kD ix G g C Fe) σ H Q->MX (OO X G) (N0 X.K g) (HV X.K C) (Qc X.K Fe) ix σ H Q:=λσ H Q Z=>Z.e λO Z=>Z.e λρ Z=>Z.e λE hF=>by
 refine⟨O,ρ,E,(eQ.bind hF).imp λds hF=>?_⟩;have hz:small ds.length=true:=by
  cases e:small ds.length with
  |true=>rfl
  |false=>rw[e]at hF;exact hF.elim
 rw[hz,ba rfl]at hF;cases hL:Gh (inB ix ρ) g C Fe ds with
 |error z=>rw[hL]at hF;exact hF.elim
 |ok total=>
 rw[hL]at hF;have q:∀D H' total' acc,TG.D.lst total=.lst total'->aO H H'->H D=am->H' D=ag (.lst acc)->aY X.K (hid H' (D::O)) total' acc->Q (.ref D) H':=hF;have e2:=hL;have hfill:=tk.fill;have hown:=tk.own;refine λJ H1 s1 wk D hD=>?_;have E1:dy X.K (D::O) (upd H1 D (.lst [])) (inB ix ρ) (inBlock ix σ):=((zy ix E).same s1).hideNew trivial hD;have DO:D∉O:=(E.all.same s1).not hD;refine⟨λi m σ' H'=>m=ds.length-i/\i<=ds.length/\aO H1 H'/\dy X.K (D::O) H' (inB ix ρ) σ'/\∃acc dn rest,H' D=ag (.lst acc)/\acc.length<=i/\aY X.K (hid H' (D::O)) dn acc/\Gh (inB ix ρ) g C Fe (ds.drop i)=.ok rest/\dn++rest=total,
  ⟨ds.length,by rw[Uy],TH _,dr hD _,E1,[],[],total,bu,Tt _,cZ.mpr rfl,by rw[Ui];exact e2,rfl⟩,?_⟩
 rintro i m σ' H' ⟨rfl,hi,sm,E',acc,dn,rest,hacc,hlen,hdn,hrest,htot⟩;have sH:aO (hid H1 O) (hid H' (D::O)):=λb o h=>by
  have h2:=sm b o (aP H1 O b o h);unfold hid at h ⊢;by_cases hb:b∈O
  ·rw[ba hb]at h;cases h
  ·rw[br hb]at h;have ne:b≠D:=aT h hD;rw[br (by intro z;rcases List.mem_cons.mp z with z|z;exact ne z;exact hb z)];exact h2
 by_cases hlt:i<ds.length
 ·right;obtain⟨go,yl⟩:=(wk H' (D::O) i E'.all sH).1 ds[i] (by simp[hlt]);refine⟨go,λx H2 y=>?_⟩;obtain⟨s2,dx'⟩:=yl x H2 y;have E':=E'.same s2;have sm:=sm.trans s2;have hacc:=s2 _ _ hacc;have hdn:=hdn.mono (ck s2);rw[UA hlt,v6]at hrest;obtain⟨ρ1,g1,hrest⟩:=og hrest;have g1:=Nt g1;obtain⟨c,c1,hrest⟩:=og hrest;have c1:=Gm c1;refine⟨D::O,inB ix ρ,ds[i],ρ1,E',dx',g1,λσ3 E3 _=>?_⟩;refine⟨D::O,ρ1,c,E3,c1,λH4 s4=>?_⟩;have E4:=E3.same s4;have back:∀{H5:Hp},dy X.K (D::O) H5 ρ1 σ3->dy X.K (D::O) H5 (inB ix ρ) σ3:=λz=>z.forget λj x e=>hfill ρ _ _ g1 j x e;cases c with
  |true=>
   refine qA ?_;rw[ba rfl]at hrest;obtain⟨v,v1,hrest⟩:=og hrest;have v1:=Gm v1;obtain⟨r,r1,hrest⟩:=og hrest;cases hrest;refine⟨D::O,ρ1,v,E4,v1,λw H5 s5 dw=>?_⟩;have s45:=s4.trans s5;have ha5:H5 D=ag (.lst acc):=s45 _ _ hacc;have hzl:ds.length<W4:=UB (cr hz) (by decide);refine⟨acc,ha5,by omega,ds.length-(i+1),by omega,rfl,hlt,?_,?_,acc++[w],dn++[v],r,bu,by rw[T1,T9];omega,?_,r1,by rw[UC];exact htot⟩
   ·intro b o h;rw[aL (aT h hD)];exact s45 _ _ (sm _ _ h)
   ·exact back ((E3.same s45).rewrite trivial Tj λj xs e=>bt e (hown ρ _ _ g1 j xs))
   ·have s6:aO (hid H5 (D::O)) (hid (upd H5 D (.lst (acc++[w]))) (D::O)):=iA Tj;exact(hdn.mono ((ck s45).trans s6)).snoc (dw.mono s6)
  |false=>
   refine qS ?_;rw[br Tq]at hrest;exact⟨ds.length-(i+1),by omega,rfl,hlt,sm.trans s4,back E4,acc,dn,rest,s4 _ _ hacc,by omega,hdn.mono (ck s4),hrest,htot⟩
 ·left;have ei:i=ds.length:=by omega
  subst ei;refine⟨(wk H' (D::O) ds.length E'.all sH).2 rfl,?_⟩;rw[UD]at hrest;cases hrest;rw[TJ]at htot;subst htot;exact q D H' _ acc rfl (s1.trans sm) (s1.free hD) hacc hdn
def J3(tk:kB ix g):∀σ H Q,tF X (kD ix G g C Fe) σ H Q->MX (OO X G) (N0 X.K g) (HV X.K C) (Qc X.K Fe) ix σ H Q:=λσ H Q h=>Fk tk σ H Q (QV σ H Q h)
end
structure Ks where
 nx:aq->R D
 bk:aq->R D:=λ_=>un
 ct:aq->R D:=λ_=>un
 ex:Ex->aq->R D:=λx _=>.error (ag x)
abbrev bz:=Ks->aq->R D
def kE{α:Type}(r:R α)(k:Ks)(ρ:aq)(f:α->R D):R D:=match r with
 |.ok a=>f a
 |.error (ag x)=>k.ex x ρ
 |.error am=>un
structure Base(Hb:Hp)(Ob:aD)(H:Hp)(O:aD):Prop where
 same:aO Hb H
 sub:∀a∈Ob,a∈O
 new:∀a∈O,a∈Ob\/Hb a=am
def De(K:VC)(H:Hp)(O:aD):aD->List D->Prop
 |[],[]=>True
 |b::bs,x::xs=>fZ K H O b x/\De K H O bs xs
 |_,_=>False
def zo(K:VC)(H:Hp)(O:aD)(a:WW)(bs:aD)(d:D):Prop:=
 ∃xs,De K H O bs xs/\((d=.lst xs/\H a=ag (.lst (bs.map .ref)))\/(∃kvs:List (List Key×V),d=.dct (kvs.map λp=>.tup (p.1.map uX)) xs/\H a=ag (.dT kvs)/\kvs.map (·.2)=bs.map .ref)\/(d=.dct [] xs/\bs=[]/\H a=ag (.dK [])))
def FH(K:VC)(Hb:Hp)(Ob O:aD)(H:Hp)(ρ:aq)(σ:St)(i:Nat)(d:D):Prop:=
 ∃a bs,σ[i]?=ag (ag (.ref a))/\zo K H O a bs d/\(a::bs).Nodup/\(∀b∈a::bs,b∈O/\Hb b=am/\b∉Ob/\∀(j:Nat) d',ρ[j]?=ag (ag (.own d'))->σ[j]?≠ag (ag (.ref b)))/\∀(j:Nat) d',ρ[j]?=ag (ag (.nest d'))->j=i
theorem De.mono{K:VC}{H H':Hp}{O O':aD}(s:aO (hid H O) (hid H' O')):∀{bs:aD}{xs:List D},De K H O bs xs->(∀b∈bs,(∃o,H b=ag o)->H' b=H b)->De K H' O' bs xs
 |[],[],_,_=>trivial
 |b::bs,x::xs,h,e=>⟨h.1.mono (e b Tj h.1.some).symm s,De.mono s h.2 λb' hb=>e b' (Tl _ hb)⟩
 |[],_::_,h,_=>h.elim
 |_::_,[],h,_=>h.elim
theorem De.some{K:VC}{H:Hp}{O:aD}:∀{bs:aD}{xs:List D},De K H O bs xs->∀b∈bs,∃o,H b=ag o
 |[],_,_,_,hb=>nomatch hb
 |b::bs,x::xs,h,b',hb=>by
  rcases List.mem_cons.mp hb with z|z
  ·rw[z];exact h.1.some
  ·exact De.some h.2 b' z
 |_::_,[],h,_,_=>h.elim
theorem zo.some{K:VC}{H:Hp}{O:aD}{a:WW}{bs:aD}{d:D}(h:zo K H O a bs d):∀b∈a::bs,∃o,H b=ag o:=λb hb=>by
 obtain⟨xs,h1,h2⟩:=h;rcases List.mem_cons.mp hb with z|z
 ·rw[z];rcases h2 with⟨_,q⟩|⟨_,_,q,_⟩|⟨_,_,q⟩<;>exact⟨_,q⟩
 ·exact h1.some b z
theorem zo.mono{K:VC}{H H':Hp}{O O':aD}{a:WW}{bs:aD}{d:D}(h:zo K H O a bs d)(s:aO (hid H O) (hid H' O'))(e:∀b∈a::bs,(∃o,H b=Option.some o)->H' b=H b):zo K H' O' a bs d:=by
 have ea:=e a Tj (h.some a Tj);obtain⟨xs,h1,h2⟩:=h;refine⟨xs,h1.mono s λb hb=>e b (Tl _ hb),?_⟩;rw[ea];exact h2
def FH.to{K:VC}{Hb Hb':Hp}{Ob O O':aD}{H H':Hp}{ρ ρ':aq}{σ σ':St}{i:Nat}{d:D}(h:FH K Hb Ob O H ρ σ i d)(hσ:σ'[i]?=σ[i]?)(s:aO (hid H O) (hid H' O'))
  (k:∀b,b∈O->Hb b=am->b∉Ob->(∀(j:Nat) d',ρ[j]?=ag (ag (.own d'))->σ[j]?≠ag (ag (.ref b)))->(∃o,H b=ag o)->H' b=H b/\b∈O'/\Hb' b=am/\∀(j:Nat) d',ρ'[j]?=ag (ag (.own d'))->σ'[j]?≠ag (ag (.ref b)))
  (n:∀(j:Nat) d',ρ'[j]?=ag (ag (.nest d'))->∃d2,ρ[j]?=ag (ag (.nest d2))):FH K Hb' Ob O' H' ρ' σ' i d:=by
 obtain⟨a,bs,h1,h2,h3,h4,h5⟩:=h;refine⟨a,bs,hσ.trans h1,h2.mono s λb hb ho=>?_,h3,λb hb=>?_,λj d' q=>?_⟩
 ·obtain⟨q1,q2,q3,q4⟩:=h4 b hb;exact(k b q1 q2 q3 q4 ho).1
 ·obtain⟨q1,q2,q3,q4⟩:=h4 b hb;obtain⟨_,w2,w3,w4⟩:=k b q1 q2 q3 q4 (h2.some b hb);exact⟨w2,w3,q3,w4⟩
 ·obtain⟨d2,q⟩:=n j d' q;exact h5 j d2 q
structure bT(K:VC)(Hb:Hp)(Ob O:aD)(H:Hp)(ρ:aq)(σ:St):Prop where
 env:dy K O H ρ σ
 base:Base Hb Ob H O
 mine:∀(i:Nat) xs a,ρ[i]?=ag (ag (.own xs))->σ[i]?=ag (ag (.ref a))->Hb a=am/\a∉Ob
 nst:∀(i:Nat) d,ρ[i]?=ag (ag (.nest d))->FH K Hb Ob O H ρ σ i d
def Base.same'{Hb:Hp}{Ob:aD}{H H':Hp}{O:aD}(b:Base Hb Ob H O)(s:aO H H'):Base Hb Ob H' O:=⟨b.same.trans s,b.sub,b.new⟩
theorem bT.same{K:VC}{Hb:Hp}{Ob O:aD}{H H':Hp}{ρ:aq}{σ:St}(h:bT K Hb Ob O H ρ σ)(s:aO H H'):bT K Hb Ob O H' ρ σ:=⟨h.env.same s,h.base.same' s,h.mine,λi d q=>(h.nst i d q).to rfl (ck s) (λb q1 q2 q3 q4 Z=>Z.e λo ho=>⟨by rw[ho,s _ _ ho],q1,q2,q4⟩) λj d' z=>⟨d',z⟩⟩
def bT.after{K:VC}{Hb:Hp}{Ob O:aD}{H:Hp}{ρ ρ':aq}{σ σ':St}(S:bT K Hb Ob O H ρ σ)(E':dy K O H ρ' σ')(own:∀(i:Nat) x,ρ'[i]?=ag (ag x)->(∀d,x≠.val d)->σ'[i]?=σ[i]?/\ρ[i]?=ag (ag x)):bT K Hb Ob O H ρ' σ':=
 ⟨E',S.base,fun i xs a q1 q2=>by
  obtain⟨w1,w2⟩:=own i _ q1 (λ_ z=>nomatch z);rw[w1]at q2;exact S.mine i xs a w2 q2,λi d q=>by
  obtain⟨w1,w2⟩:=own i _ q (λ_ z=>nomatch z);refine(S.nst i d w2).to w1 (λ_ _ z=>z) (λb q1 q2 q3 q4 _=>⟨rfl,q1,q2,λl d' w=>?_⟩) λl d' w=>⟨d',(own l _ w (λ_ z=>nomatch z)).2⟩
  obtain⟨z1,z2⟩:=own l _ w (λ_ z=>nomatch z);rw[z1];exact q4 l d' z2⟩
structure OH(X:Cx)(Hb:Hp)(Ob:aD)(E:Ends)(k:Ks)(r:R D):Prop where
 ne:r≠un
 nx:∀O ρ σ H,bT X.K Hb Ob O H ρ σ->k.nx ρ=r->E.nx σ H
 bk:∀O ρ σ H,bT X.K Hb Ob O H ρ σ->k.bk ρ=r->E.bk σ H
 ct:∀O ρ σ H,bT X.K Hb Ob O H ρ σ->k.ct ρ=r->E.ct σ H
 rt:∀d O v H,r=.ok d->Base Hb Ob H O->dS X.K (hid H O) d v->E.rt v H
 ex:∀O ρ σ H x,bT X.K Hb Ob O H ρ σ->k.ex x ρ=r->w8 X σ O H x
def Hi(X:Cx)(Hb:Hp)(Ob:aD)(F:bz):TS:=λE σ H=>∃O ρ k r,bT X.K Hb Ob O H ρ σ/\F k ρ=r/\OH X Hb Ob E k r
def FS(X:Cx)(st:WY)(F:bz):Prop:=∀Hb Ob,PS X st (Hi X Hb Ob F)
def Nu(X:Cx)(st:cU)(F:bz):Prop:=∀Hb Ob,qW X st (Hi X Hb Ob F)
def eQ.on{X:Cx}{Hb:Hp}{Ob O:aD}{H:Hp}{ρ:aq}{σ:St}{E:Ends}{k:Ks}{r:R D}{α:Type}{fr:R α}{G:α->R D}{Q:α->Prop}(h:kE fr k ρ G=r)(hk:OH X Hb Ob E k r)(S:bT X.K Hb Ob O H ρ σ)(q:∀a,G a=r->Q a):eQ X σ O H fr Q:=by
 match fr,h with
 |.ok a,h=>exact q a h
 |.error (ag x),h=>exact hk.ex O ρ σ H x S h
 |.error am,h=>exact bt h.symm hk.ne
section
variable{X:Cx}{st:WY}{rest body:cU}{pos:Pos}
def bU:bz:=λk ρ=>k.nx ρ
def aF(F1 F2:bz):bz:=λk ρ=>F1 {k with nx:=F2 k} ρ
def bi(f:FX):bz:=λk ρ=>kE (f ρ) k ρ .ok
def NT:bz:=λ_ _=>.ok .non
def fq(c:bL)(A B:bz):bz:=λk ρ=>kE (c ρ) k ρ λb=>if b then A k ρ else B k ρ
def bK(i:Nat)(f:FX):bz:=λk ρ=>kE (f ρ) k ρ λd=>k.nx (setV i d ρ)
theorem bT.setV{K:VC}{Hb:Hp}{Ob O:aD}{H:Hp}{ρ:aq}{σ:St}(E:bT K Hb Ob O H ρ σ){i:Nat}{d:D}{v:V}(hi:i<σ.length)(hd:dS K (hid H O) d v):bT K Hb Ob O H (setV i d ρ) (σ.set i (ag v)):=
  ⟨E.env.setV hi hd,E.base,fun j xs a e1 e2=>by
    rcases aU e1 with⟨_,q⟩|⟨ne,q⟩
    ·cases q
    · rw[Tp (Ne.symm ne)]at e2
      exact E.mine j xs a q e2,
   λj dn e=>by
    rcases aU e with⟨_,q⟩|⟨ne,q⟩
    ·cases q
    · refine(E.nst j dn q).to (Tp (Ne.symm ne)) (λ_ _ z=>z) (λb q1 q2 q3 q4 _=>⟨rfl,q1,q2,λl d' w=>?_⟩) λl d' w=>?_
      · rcases aU w with⟨_,z⟩|⟨nl,z⟩
        ·cases z
        ·rw[Tp (Ne.symm nl)];exact q4 l d' z
      · rcases aU w with⟨_,z⟩|⟨_,z⟩
        ·cases z
        ·exact⟨d',z⟩⟩
def sj{f:FX}{i:Nat}(hi:i<X.N.length)(h:PS X st (FY (tF X f) (si i))):FS X st (bK i f):=λHb Ob pins s σ H E I Z=>Z.e λO Z=>Z.e λρ Z=>Z.e λk Z=>Z.e λr Z=>Z.e λS Z=>Z.e λhF hk=>
 h pins s σ H E I ⟨O,ρ,S.env,eQ.on hF hk S λd e v H1 s1 d1=>hk.nx O _ _ H1 ((S.same s1).setV (by rw[I.len];exact hi) d1) e⟩
def uM(f:FX)(g:GF):bz:=λk ρ=>kE (f ρ) k ρ λd=>(rO (g d ρ)).bind k.nx
def rY:bz:=λ_ _=>un
def kill(is:bJ)(ρ:aq):aq:=is.foldl (λρ i=>ρ.set i am) ρ
theorem ie:∀(is:bJ)(ρ:aq)(i:Nat)(x:S),(kill is ρ)[i]?=ag (ag x)->ρ[i]?=ag (ag x)
 |[],ρ,i,x,e=>e
 |j::is,ρ,i,x,e=>by
  rcases aU (ie is (ρ.set j am) i x e)with⟨_,q⟩|⟨_,q⟩
  ·cases q
  ·exact q
theorem bT.kill{K:VC}{Hb:Hp}{Ob O:aD}{H:Hp}{ρ:aq}{σ:St}(E:bT K Hb Ob O H ρ σ)(is:bJ):bT K Hb Ob O H (kill is ρ) σ:=
 ⟨E.env.forget (ie is ρ),E.base,λi xs a e1 e2=>E.mine i xs a (ie is ρ i _ e1) e2,λi d q=>(E.nst i d (ie is ρ i _ q)).to rfl (λ_ _ z=>z) (λb q1 q2 q3 q4 _=>⟨rfl,q1,q2,λl d' w=>q4 l d' (ie is ρ l _ w)⟩) λl d' w=>⟨d',ie is ρ l _ w⟩⟩
def rK(is:bJ)(F:bz):bz:=λk ρ=>F k (kill is ρ)
end
def ja(g:GF)(B:bz)(k:Ks):List D->aq->R D
 |[],ρ=>k.nx ρ
 |d::ds,ρ=>(rO (g d ρ)).bind λρ1=>B ⟨ja g B k ds,k.nx,ja g B k ds,k.ex⟩ ρ1
def DI(G:aQ)(g:GF)(B:bz):bz:=λk ρ=>kE (G ρ) k ρ λds=>ja g B k ds ρ
def lb(H:Hp)(O Ob:aD):Hp:=λb=>if b∈O/\b∉Ob then am else H b
def sE{H:Hp}{O Ob:aD}{b:WW}(h1:b∈O)(h2:b∉Ob):lb H O Ob b=none:=by unfold lb;rw[ba ⟨h1,h2⟩]
def GI{H:Hp}{O Ob:aD}{b:WW}{o:HO}(h:lb H O Ob b=ag o):H b=ag o/\¬(b∈O/\b∉Ob):=by
 unfold lb at h;split at h
 ·cases h
 ·rename_i n;exact⟨h,n⟩
def E7{H:Hp}{O Ob:aD}{b:WW}{o:HO}(h:H b=ag o)(n:¬(b∈O/\b∉Ob)):lb H O Ob b=ag o:=by unfold lb;rw[br n];exact h
def Base.loop{Hb:Hp}{Ob:aD}{H:Hp}{O:aD}(b:Base Hb Ob H O):Base (lb H O Ob) Ob H O:=
 ⟨fun c o h=>(GI h).1,b.sub,fun a ha=>by
  by_cases h:a∈Ob
  ·exact .inl h
  ·exact .inr (sE ha h)⟩
def Base.back{Hb:Hp}{Ob:aD}{H H':Hp}{O O':aD}(b:Base Hb Ob H O)(b':Base (lb H O Ob) Ob H' O'):Base Hb Ob H' O':=by
 have up:aO Hb (lb H O Ob):=λc o h=>E7 (b.same c o h) λZ=>Z.e λz1 z2=>by
  rcases b.new c z1 with z|z
  ·exact z2 z
  ·rw[z]at h;cases h
 exact⟨up.trans b'.same,b'.sub,λa ha=>(b'.new a ha).imp id up.free⟩
theorem bT.loop{K:VC}{Hb:Hp}{Ob O:aD}{H:Hp}{ρ:aq}{σ:St}(E:bT K Hb Ob O H ρ σ):bT K (lb H O Ob) Ob O H ρ σ:=
 ⟨E.env,E.base.loop,fun i xs a e1 e2=>by
  obtain⟨_,n⟩:=E.mine i xs a e1 e2;obtain⟨a',e3,e4,_⟩:=E.env.own i xs e1;rw[e2]at e3;cases e3;exact⟨sE e4 n,n⟩,λi d q=>(E.nst i d q).to rfl (λ_ _ z=>z) (λb q1 q2 q3 q4 _=>⟨rfl,q1,sE q1 q3,q4⟩) λl d' w=>⟨d',w⟩⟩
theorem bT.back{K:VC}{Hb:Hp}{Ob O O':aD}{H H':Hp}{ρ':aq}{σ':St}(b:Base Hb Ob H O)(E:bT K (lb H O Ob) Ob O' H' ρ' σ'):bT K Hb Ob O' H' ρ' σ':=
 have up:aO Hb (lb H O Ob):=λc o h=>E7 (b.same c o h) λZ=>Z.e λz1 z2=>by
  rcases b.new c z1 with z|z
  ·exact z2 z
  ·rw[z]at h;cases h
 ⟨E.env,b.back E.base,fun i xs a e1 e2=>by
  obtain⟨z,n⟩:=E.mine i xs a e1 e2;exact⟨up.free z,n⟩,λi d q=>(E.nst i d q).to rfl (λ_ _ z=>z) (λb q1 q2 q3 q4 _=>⟨rfl,q1,up.free q2,q4⟩) λl d' w=>⟨d',w⟩⟩
def Eo{Hb:Hp}{Ob O O':aD}{H H':Hp}(b:Base Hb Ob H O)(b':Base (lb H O Ob) Ob H' O'):aO (hid H O) (hid H' O'):=λc o h=>by
 unfold hid at h ⊢;by_cases hc:c∈O
 ·rw[ba hc]at h;cases h
 ·rw[br hc]at h;have h1:lb H O Ob c=ag o:=E7 h λz=>hc z.1;rw[br]
  ·exact b'.same _ _ h1
  ·intro z;rcases b'.new c z with z|z
   ·exact hc (b.sub c z)
   ·rw[h1]at z;cases z
def OH.loop{X:Cx}{Hb:Hp}{Ob O:aD}{H:Hp}{E E':Ends}{k k':Ks}{r:R D}(hk:OH X Hb Ob E k r)(b:Base Hb Ob H O)(hn:∀O' ρ' σ' H',bT X.K (lb H O Ob) Ob O' H' ρ' σ'->k'.nx ρ'=r->E'.nx σ' H')(hc:∀O' ρ' σ' H',bT X.K (lb H O Ob) Ob O' H' ρ' σ'->k'.ct ρ'=r->E'.ct σ' H')
    (eb:k'.bk=k.nx) (ee:k'.ex=k.ex) (Eb:E'.bk=E.nx) (Er:E'.rt=E.rt):OH X (lb H O Ob) Ob E' k' r:=
  ⟨hk.ne,hn,fun O' ρ' σ' H' S e=>by rw [Eb]; exact hk.nx O' ρ' σ' H' (S.back b) (by rw [<- eb]; exact e),hc,fun d O' v H' e b' dv=>by rw [Er]; exact hk.rt d O' v H' e (b.back b') dv,
   λO' ρ' σ' H' x S e=>hk.ex O' ρ' σ' H' x (S.back b) (by rw[<-ee];exact e)⟩
section
variable{X:Cx}{st:WY}{rest body:cU}{pos:Pos}
def dM(c:bL)(B:bz)(k:Ks):Nat->aq->R D
 |0,_=>un
 |n+1,ρ=>kE (c ρ) k ρ λb=>if b then B ⟨dM c B k n,k.nx,dM c B k n,k.ex⟩ ρ else k.nx ρ
def jf(n:Nat)(c:bL)(B:bz):bz:=λk ρ=>dM c B k n ρ
end
def bT.setO{K:VC}{Hb:Hp}{Ob O:aD}{H:Hp}{ρ:aq}{σ:St}(E:bT K Hb Ob O H ρ σ){i:Nat}{d d':D}{a:WW}{o:HO}(hi:ρ[i]?=ag (ag (.own d)))(ha:σ[i]?=ag (ag (.ref a)))(m:jC o)(new:fZ K (upd H a o) O a d'):
  bT K Hb Ob O (upd H a o) (ρ.set i (ag (.own d'))) σ:=by
 obtain⟨a',ha',haO,hat⟩:=E.env.own i d hi;rw[ha]at ha';cases ha';obtain⟨m1,m2⟩:=E.mine i d a hi ha;have s:aO (hid H O) (hid (upd H a o) O):=iA haO;have own:∀(j:Nat) ys,(ρ.set i (ag (.own d')))[j]?=ag (ag (.own ys))->∃ys',ρ[j]?=ag (ag (.own ys')):=λj ys q=>by
  rcases aU q with⟨hj,_⟩|⟨_,q⟩
  ·rw[hj];exact⟨d,hi⟩
  ·exact⟨ys,q⟩
 refine⟨⟨λj d1 e=>?_,λj ys e=>?_,λj l ys zs b q1 q2 q3 q4=>?_,E.env.all.upd haO m⟩,⟨λb u h=>?_,E.base.sub,E.base.new⟩,λj ys b q1 q2=>?_,λj dn q=>?_⟩
 ·rcases aU e with⟨_,q⟩|⟨ne,q⟩
  ·cases q
  ·obtain⟨w,q1,q2⟩:=E.env.val j d1 q;exact⟨w,q1,q2.mono s⟩
 ·rcases aU e with⟨hj,q⟩|⟨ne,q⟩
  ·cases q;rw[hj];exact⟨a,ha,haO,new⟩
  ·obtain⟨b,q1,q2,q3⟩:=E.env.own j ys q;have nb:b≠a:=λz=>ne (E.env.one j i ys d a q hi (by rw[<-z];exact q1) ha);exact⟨b,q1,q2,q3.mono (by rw[aL nb]) s⟩
 ·obtain⟨_,q1'⟩:=own j ys q1;obtain⟨_,q2'⟩:=own l zs q2;exact E.env.one j l _ _ b q1' q2' q3 q4
 ·have nb:b≠a:=λz=>by rw[z,m1]at h;cases h
  rw[aL nb];exact E.base.same b u h
 ·obtain⟨ys',q⟩:=own j ys q1;exact E.mine j ys' b q q2
 ·have q:ρ[j]?=ag (ag (.nest dn)):=by
   rcases aU q with⟨_,z⟩|⟨_,z⟩
   ·cases z
   ·exact z
  refine(E.nst j dn q).to rfl s (λb q1 q2 q3 q4 _=>⟨aL λz=>q4 i d hi (by rw[z];exact ha),q1,q2,λl d1 w=>?_⟩) λl d1 w=>?_
  ·obtain⟨_,w'⟩:=own l d1 w;exact q4 l _ w'
  ·rcases aU w with⟨_,z⟩|⟨_,z⟩
   ·cases z
   ·exact⟨d1,z⟩
def bT.setNew{K:VC}{Hb:Hp}{Ob O:aD}{H H':Hp}{ρ:aq}{σ:St}(E:bT K Hb Ob O H ρ σ){i:Nat}{d:D}{p:WW}(hi:i<σ.length)(sm:aO H H')(hp:H p=am)(m:∃o,H' p=ag o/\jC o)(new:fZ K H' (p::O) p d):
  bT K Hb Ob (p::O) H' (ρ.set i (ag (.own d))) (σ.set i (ag (.ref p))):=by
 have hpO:p∉O:=E.env.all.not hp;have s:aO (hid H O) (hid H' (p::O)):=λb o h=>by
  unfold hid at h ⊢;by_cases hb:b∈O
  ·rw[ba hb]at h;cases h
  ·rw[br hb]at h;have ne:=aT h hp;rw[br (by intro z;rcases List.mem_cons.mp z with z|z;exact ne z;exact hb z)];exact sm _ _ h
 have other:∀(j:Nat) xs,ρ[j]?=ag (ag (.own xs))->σ[j]?≠ag (ag (.ref p)):=λj xs e z=>by
  obtain⟨a,e1,e2,e3⟩:=E.env.own j xs e;rw[z]at e1;cases e1;obtain⟨o,e3⟩:=e3.some;rw[hp]at e3;cases e3
 refine⟨⟨λj d' e=>?_,λj xs e=>?_,λj k xs ys a e1 e2 e3 e4=>?_,⟨(E.env.all.same sm).1,λa ha=>?_⟩⟩,⟨E.base.same.trans sm,λa ha=>Tl _ (E.base.sub a ha),λa ha=>?_⟩,λj xs a e1 e2=>?_,λj dn e=>?_⟩
 ·rcases aU e with⟨_,q⟩|⟨ne,q⟩
  ·cases q
  ·obtain⟨v,q1,q2⟩:=E.env.val j d' q;exact⟨v,by rw[Tp (Ne.symm ne)];exact q1,q2.mono s⟩
 ·rcases aU e with⟨hj,q⟩|⟨ne,q⟩
  ·cases q;rw[hj];exact⟨p,To hi,Tj,new⟩
  ·obtain⟨a,q1,q2,q3⟩:=E.env.own j xs q;obtain⟨o,ho⟩:=q3.some;exact⟨a,by rw[Tp (Ne.symm ne)];exact q1,Tl _ q2,q3.mono (Ac sm ho) s⟩
 ·rcases aU e1 with⟨hj,q1⟩|⟨nj,q1⟩
  ·rcases aU e2 with⟨hk,q2⟩|⟨nk,q2⟩
   ·exact hj.trans hk.symm
   ·rw[hj,To hi]at e3;cases e3;rw[Tp (Ne.symm nk)]at e4;exact bt e4 (other k ys q2)
  ·rcases aU e2 with⟨hk,q2⟩|⟨nk,q2⟩
   ·rw[hk,To hi]at e4;cases e4;rw[Tp (Ne.symm nj)]at e3;exact bt e3 (other j xs q1)
   ·rw[Tp (Ne.symm nj)]at e3;rw[Tp (Ne.symm nk)]at e4;exact E.env.one j k xs ys a q1 q2 e3 e4
 ·rcases List.mem_cons.mp ha with rfl|ha
  ·exact m
  ·exact(E.env.all.same sm).2 a ha
 ·rcases List.mem_cons.mp ha with rfl|ha
  ·exact .inr (E.base.same.free hp)
  ·exact E.base.new a ha
 ·rcases aU e1 with⟨hj,q1⟩|⟨nj,q1⟩
  ·rw[hj,To hi]at e2;cases e2;exact⟨E.base.same.free hp,λz=>hpO (E.base.sub p z)⟩
  ·rw[Tp (Ne.symm nj)]at e2;exact E.mine j xs a q1 e2
 ·rcases aU e with⟨_,q⟩|⟨ne,q⟩
  ·cases q
  ·refine(E.nst j dn q).to (Tp (Ne.symm ne)) s (λb q1 q2 q3 q4 Z=>Z.e λo ho=>⟨by rw[ho,sm _ _ ho],Tl _ q1,q2,λl d1 w=>?_⟩) λl d1 w=>?_
   ·rcases aU w with⟨hl,z⟩|⟨nl,z⟩
    ·rw[hl,To hi];intro z;cases z;rw[hp]at ho;cases ho
    ·rw[Tp (Ne.symm nl)];exact q4 l d1 z
   ·rcases aU w with⟨_,z⟩|⟨_,z⟩
    ·cases z
    ·exact⟨d1,z⟩
def Oz(X:Cx)(F:FX):TE:=λσ H Q=>∃O ρ,dy X.K O H ρ σ/\eQ X σ O H (F ρ) λd=>∀p H',aO H H'->H p=am->(∃o,H' p=ag o/\jC o)->fZ X.K H' (p::O) p d->Q (.ref p) H'
def FN(X:Cx)(e:WX)(F:FX):Prop:=PE X e (Oz X F)
section
variable{X:Cx}{pos:Pos}
def mZ{K:VC}{H:Hp}{O:aD}{p:WW}{ds:List D}{vs:aN}(hp:H p=am)(d:aY K (hid H O) ds vs):fZ K (upd H p (.lst vs)) (p::O) p (.lst ds):=⟨_,vs,bu,rfl,d.mono (vj hp)⟩
def mh(i:Nat)(f:FX):bz:=λk ρ=>kE (f ρ) k ρ λd=>k.nx (ρ.set i (ag (.own d)))
def rC{st:WY}{f:FX}{i:Nat}(hi:i<X.N.length)(h:PS X st (FY (Oz X f) (si i))):FS X st (mh i f):=λHb Ob pins s σ H E I Z=>Z.e λO Z=>Z.e λρ Z=>Z.e λk Z=>Z.e λr Z=>Z.e λS Z=>Z.e λhF hk=>
 h pins s σ H E I ⟨O,ρ,S.env,eQ.on hF hk S λd e p H1 s1 hp m o=>hk.nx _ _ _ H1 (S.setNew (by rw[I.len];exact hi) s1 hp m o) e⟩
end
def JU{X:Cx}{F:FX}:∀σ H Q,Oz X F σ H Q->Rb X F σ H Q:=λσ H Q Z=>Z.e λO Z=>Z.e λρ Z=>Z.e λE hF=>⟨O,ρ,E,hF.imp λd q D H' total acc e sm hD hD' dn=>by
 subst e;exact q D H' sm hD ⟨_,hD',trivial⟩ ⟨_,acc,hD',rfl,dn⟩⟩
def Cd(i:Nat)(u:List D->List D->Option (List D))(f:aQ):bz:=λk ρ=>match ρ[i]? with
 |some (ag (.own (.lst xs)))=>kE (f ρ) k ρ λds=>(rO (u xs ds)).bind λys=>k.nx (ρ.set i (ag (.own (.lst ys))))
 |_=>un
def DF(K:VC)(r:V->aN->Hp->VK->Prop)(u:List D->List D->Option (List D)):Prop:=
 ∀(H:Hp)(O:aD)(a:WW)(xs ys as:List D)(ws vs:aN)(Q:VK),dZ H O->a∈O->H a=ag (.lst ws)->aY K (hid H O) xs ws->aY K (hid H O) as vs->u xs as=ag ys->(∀ws' v,aY K (hid H O) ys ws'->Q v (upd H a (.lst ws')))->r (.ref a) vs H Q
def jt{K:VC}{H:Hp}{O:aD}{a:WW}{ys:List D}{ws:aN}(ha:a∈O)(h:aY K (hid H O) ys ws):fZ K (upd H a (.lst ws)) O a (.lst ys):=⟨_,ws,bu,rfl,h.mono (iA ha)⟩
def CV(i:Nat)(u:List D->List D->Option (List D))(f:aQ)(k:Ks)(ρ:aq):(∃xs,ρ[i]?=ag (ag (.own (.lst xs)))/\Cd i u f k ρ=kE (f ρ) k ρ λds=>(rO (u xs ds)).bind λys=>k.nx (ρ.set i (ag (.own (.lst ys)))))\/Cd i u f k ρ=un:=by
 unfold Cd;cases ρ[i]? with
 |none=>exact .inr rfl
 |some x=>cases x with
  |none=>exact .inr rfl
  |some s=>cases s with
   |own d=>cases d with
    |lst xs=>exact .inl ⟨xs,rfl,rfl⟩
    |_=>exact .inr rfl
   |_=>exact .inr rfl
def tU(xs:List D)(ds:List D):Option (List D):=match ds with
 |[y]=>if small (xs.length+1)then ag (xs++[y])else am
 |_=>am
def rN{K:VC}:DF K zu tU:=λH O a xs ys as ws vs Q hO haO ha dx da hu q=>by
 unfold tU at hu;split at hu
 ·rename_i y;obtain⟨h1,h2⟩:=bQ hu;subst h2;obtain⟨v,rfl,dv⟩:=da.one
  have:=dF h1
  rw[dx.length]at this;exact⟨a,ws,v,rfl,rfl,ha,by omega,q _ _ (dx.snoc dv)⟩
 ·cases hu
def frz(i:Nat)(ρ:aq):aq:=match ρ[i]? with
 |some (ag (.own d))=>setV i d ρ
 |_=>ρ
def xM(i:Nat)(ρ:aq):(∃d,ρ[i]?=ag (ag (.own d))/\frz i ρ=setV i d ρ)\/frz i ρ=ρ:=by
 unfold frz;cases ρ[i]? with
 |none=>exact .inr rfl
 |some x=>cases x with
  |none=>exact .inr rfl
  |some s=>cases s with
   |own d=>exact .inl ⟨d,rfl,rfl⟩
   |_=>exact .inr rfl
theorem dy.frz{K:VC}{O:aD}{H:Hp}{ρ:aq}{σ:St}(E:dy K O H ρ σ)(i:Nat):∃O',dy K O' H (frz i ρ) σ/\(∀b∈O',b∈O)/\∀b∈O,b∉O'->∃d,ρ[i]?=ag (ag (.own d))/\σ[i]?=ag (ag (.ref b)):=by
 rcases xM i ρ with⟨d,hd,fe⟩|fe
 ·rw[fe];obtain⟨a,ha,haO,hat⟩:=E.own i d hd;have sub:∀b∈O.filter (λb=>decide (b≠a)),b∈O:=λb hb=>(List.mem_filter.mp hb).1;have s:aO (hid H O) (hid H (O.filter λb=>decide (b≠a))):=dD sub;have na:a∉O.filter λb=>decide (b≠a):=λz=>bt rfl (cr (List.mem_filter.mp z).2);refine⟨O.filter λb=>decide (b≠a),⟨λj d' e=>?_,λj ys e=>?_,λj l ys zs b q1 q2 q3 q4=>?_,⟨E.all.1,λb hb=>E.all.2 b (sub b hb)⟩⟩,sub,λb hb nb=>?_⟩
  ·rcases aU e with⟨hj,q⟩|⟨ne,q⟩
   ·cases q;rw[hj];exact⟨.ref a,ha,hat.den s na⟩
   ·obtain⟨w,q1,q2⟩:=E.val j d' q;exact⟨w,q1,q2.mono s⟩
  ·rcases aU e with⟨_,q⟩|⟨ne,q⟩
   ·cases q
   ·obtain⟨b,q1,q2,q3⟩:=E.own j ys q;have nb:b≠a:=λz=>ne (E.one j i ys d a q hd (by rw[<-z];exact q1) ha);exact⟨b,q1,List.mem_filter.mpr ⟨q2,b0 nb⟩,q3.mono rfl s⟩
  ·rcases aU q1 with⟨_,q⟩|⟨_,q⟩
   ·cases q
   ·rcases aU q2 with⟨_,q'⟩|⟨_,q'⟩
    ·cases q'
    ·exact E.one j l ys zs b q q' q3 q4
  ·by_cases z:b=a
   ·exact⟨d,hd,by rw[z];exact ha⟩
   ·exact bt (List.mem_filter.mpr ⟨hb,b0 z⟩) nb
 ·rw[fe];exact⟨O,E,λ_ z=>z,λb hb nb=>bt hb nb⟩
def PJ(i:Nat)(F:bz):bz:=λk ρ=>F k (frz i ρ)
mutual
noncomputable def lf:D->Bool
 |.tup xs=>Qh xs
 |.lst _=>false
 |.dct _ _=>false
 |.obj _ _ vs=>Qh vs
 |.exc _ _ _=>false
 |.kt _=>false
 |_=>true
noncomputable def Qh:List D->Bool
 |[]=>true
 |x::xs=>lf x&&Qh xs
end
def frzs(is:bJ)(ρ:aq):aq:=is.foldl (λρ i=>frz i ρ) ρ
theorem dy.frzs{K:VC}{H:Hp}{σ:St}:∀(is:bJ){O:aD}{ρ:aq},dy K O H ρ σ->∃O',dy K O' H (frzs is ρ) σ
 |[],O,_,E=>⟨O,E⟩
 |i::is,_,_,E=>by
  obtain⟨O',E',_⟩:=E.frz i;exact dy.frzs is E'
def mL(is:bJ)(f:bL):bL:=λρ=>Jw (f (frzs is ρ))
def Bc(K:VC)(n:Nat)(g:cM):Sp:=λvs H Q E=>∃O ds,vs.length=n/\dZ H O/\aY K (hid H O) ds vs/\match g ds with
 |.ok d=>∀v H',aO H H'->dS K (hid H' O) d v->Q v H'
 |.error (ag x)=>Ov K H O x E
 |.error am=>False
section
variable{X:Cx}{k:Nat}{f C:WW}{fd:XD}{ps:af}{sp:Sp}{x m:Str}{p pos apos:Pos}{e o:WX}{es:aS}{ta:TE}{t:TA}
def sW{pins:bg}{σ:St}{H:Hp}{s:WZ}{Q:VK}{E:XK}{us:bA}{vs:aN}(F:fw X.prog X.w X.K X.mg X.base (gj X.prog X.w) k f fd ps sp)(hr:dG k X.A)(hb:Binds X.K fd ps [])(hx:hX (gj X.prog X.w) X σ E)
  (I:Inv X pins σ H s) (r:Vals vs us) (h:sp vs H Q E):Xa (model X.prog X.w) X.A (call (.ref f) us) (EP X pins σ Q) X.xe s:=by
 have hl:(us++[]).length=ps.length:=by rw[TJ,<-r.length];exact F.len _ _ _ _ h
 have hb':=hb s us I.kIn hl;rw[TJ]at hb';refine XH (XJ (F.run X.A X.stack s H ⟨us,[]⟩ us vs Q E hr I.env0 hb' r h) λr s' hq=>?_);cases r with
 |error e=>exact hx pins H s e s' I hq
 |ok fl=>
  cases fl with
  |ret u=>exact I.after hq
  |next=>exact False.elim hq
  |brk=>exact False.elim hq
  |cont=>exact False.elim hq
def xL(X:Cx)(sp:Sp)(t:TA):TE:=λσ H Q=>t σ H λvs H1=>∃E,hX (gj X.prog X.w) X σ E/\sp vs H1 Q E
def jy(F:fw X.prog X.w X.K X.mg X.base (gj X.prog X.w) k f fd ps sp)(hr:dG k X.A)(hg:Gl X x)(hm:X.mg x=ag (.ref f))(hk:VY X.K (.ref f)=true)(hb:Binds X.K fd ps [])
  (ha:PA X (e::es) t) (hdb:(x==("__debug__":Str))=false:=by decide) (he:Xb (e::es) X.env=(false,eval e X.env)::Xb es X.env:=by rfl) (hpl:(backTo pos (Xb es X.env)).any (·.1)=false:=by rfl):
  PE X (.Call (.Name x p) (e::es) [] pos) (xL X sp t):=by
 intro pins s σ H Q I h;refine XQ (gf I hg hm ?_ hdb);refine VZ (h₀:=X.base) I.ok.mod.kin hk (cR (ha pos pins s σ H _ I h) λus s1 Z=>Z.e λvs Z=>Z.e λH1 Z=>Z.e λI1 Z=>Z.e λr Z=>Z.e λE Z=>Z.e λhx q=>⟨I1.kIn,?_⟩) he hpl;exact sW F hr hb hx I1 r q
def AJ{n:Nat}{g:cM}{f:aQ}(hn:∀ds,g ds≠un->ds.length=n):∀σ H Q,tF X (fR g f) σ H Q->xL X (Bc X.K n g) (OL X f) σ H Q:=λσ H Q Z=>Z.e λO Z=>Z.e λρ Z=>Z.e λE hF=>
 ⟨O,ρ,E,(eQ.bind hF).imp fun ds hF vs H1 s1 d1=>by
  cases hg:g ds with
  |ok d=>
   rw[hg]at hF;refine⟨E0,kO,O,ds,by rw[<-d1.length];exact hn ds (by rw[hg];intro z;cases z),E.all.same s1,d1,?_⟩;rw[hg];exact λv H2 s2 d2=>hF v H2 (s1.trans s2) d2
  |error z=>
   rw[hg]at hF;cases z with
   |none=>exact hF.elim
   |some x=>
    refine⟨sC X O H1 x,kH (w8.mono hF s1),O,ds,by rw[<-d1.length];exact hn ds (by rw[hg];intro z;cases z),E.all.same s1,d1,?_⟩;rw[hg];exact pV⟩
end
def Callee(P:W1)(w:W0)(K:VC)(mg:bN)(base:W3)(k:Nat)(x:Str)(ps:af)(g:cM):Prop:=
 ∃f fd,fw P w K mg base (gj P w) k f fd ps (Bc K ps.length g)/\Binds K fd ps []/\VY K (.ref f)=true/\mg x=ag (.ref f)
def Ar(n:Nat)(g:cM):Prop:=∀ds,g ds≠un->ds.length=n
noncomputable def K0:Ks:={nx:=λ_=>.ok .non}
def env0(n:Nat)(ds:List D):aq:=ds.map (λd=>ag (.val d))++List.replicate (n-ds.length) am
def az(B:bz)(np n:Nat):cM:=λds=>if ds.length=np then B K0 (env0 n ds)else un
def kg{B:bz}{np n:Nat}:Ar np (az B np n):=λds h=>by
 unfold az at h;split at h
 ·assumption
 ·exact bt rfl h
def gq{n:Nat}{ds:List D}(i:Nat)(x:S)(e:(env0 n ds)[i]?=ag (ag x)):∃d,ds[i]?=ag d/\x=.val d:=by
 unfold env0 at e;by_cases hi:i<ds.length
 ·rw[TU (by rw[Tz];exact hi),TV,Um hi]at e;have e':ag (S.val ds[i])=ag x:=Option.some.inj e;exact⟨ds[i],by rw[Um hi],(Option.some.inj e').symm⟩
 ·rw[TQ (by rw[Tz];omega),Tz,TR]at e;split at e
  ·cases e
  ·cases e
def qt{K:VC}{O:aD}{H:Hp}{N:af}{ds:List D}{vs:aN}(hO:dZ H O)(h:aY K (hid H O) ds vs):dy K O H (env0 N.length ds) (L2.start N vs):=by
 refine⟨λi d e=>?_,λi xs e=>?_,λi j xs ys a e=>?_,hO⟩
 ·obtain⟨d',e1,e2⟩:=gq i _ e;cases e2;obtain⟨v,e3,e4⟩:=h.get e1;refine⟨v,?_,e4⟩;unfold L2.start;have hi:i<vs.length:=(List.getElem?_eq_some_iff.mp e3).1;rw[TU (by rw[Tz];exact hi),TV,e3];rfl
 ·obtain⟨d',_,e2⟩:=gq i _ e;cases e2
 ·obtain⟨d',_,e2⟩:=gq i _ e;cases e2
section
variable{P:W1}{w:W0}{K:VC}{mg:bN}{base:W3}
structure BodyOk(P:W1)(w:W0)(K:VC)(mg:bN)(base:W3)(k:Nat)(N:af)(qual:Str)(st:WY)(f:WW)(B:bz):Prop where
 h:∀(cdv:WU)(A:W7)(outer:List Env)(s:WZ)(H:Hp)(E:XK),dG k (A.deeper (Wx qual (ak st) s.heap.objs.size f cdv))->Xm (model P w) (A.deeper (Wx qual (ak st) s.heap.objs.size f cdv)) (Wx qual (ak st) s.heap.objs.size f cdv) (ef (gj P w) P w K mg base N qual (ak st) f cdv A outer s H E).xe->
  Nu (ef (gj P w) P w K mg base N qual (ak st) f cdv A outer s H E) (cO st) B
def M2{x qual:Str}{st:WY}{f:WW}{fd:XD}{N ps:af}{k:Nat}{sp:Sp}{CX:vL}(F:kc K x qual st f fd)(S:bp N ps (ak st))(len:∀vs H Q E,sp vs H Q E->vs.length=ps.length)
  (hbody:∀ (cdv:WU) (A:W7) (outer:List Env) (s:WZ) (H:Hp) (vs:aN) (Q:VK) (E:XK),dG k (A.deeper (Wx qual (ak st) s.heap.objs.size f cdv))->sp vs H Q E ->
   ∃t,qW (ef CX P w K mg base N qual (ak st) f cdv A outer s H E) (cO st) t/\t {nx:=λ_ H'=>Q .non H',rt:=Q} (L2.start N vs) H):fw P w K mg base CX (k+1) f fd ps sp:=by
 obtain⟨oc,od,kV,doc,pm,an,cdv,ct,osl,rfl,lk,hcd⟩:=F.ex;exact J6 lk hcd S len λA outer s H vs Q E hr hsp=>hbody cdv A outer s H vs Q E hr hsp
def fw.any{CX:vL}{k:Nat}{f:WW}{fd:XD}{ps:af}{sp:Sp}(F:fw P w K mg base O7 k f fd ps sp):fw P w K mg base CX k f fd ps sp:=
 ⟨F.len,fun A outer s H args us vs Q E hr he hb hv hs=>XJ (F.run A outer s H args us vs Q E hr he hb hv hs) fun r s' h=>by
  cases r with
  |error e=>exact False.elim h
  |ok fl=>cases fl<;>exact h⟩
def ui{x qual:Str}{st:WY}{f:WW}{fd:XD}{N ps:af}{k:Nat}{B:bz}(F:kc K x qual st f fd)(SC:bp N ps (ak st))(hb:BodyOk P w K mg base k N qual st f B):
  fw P w K mg base (gj P w) (k+1) f fd ps (Bc K ps.length (az B ps.length N.length)):=by
 refine M2 F SC (λvs H Q E h=>?_) λcdv A outer s H vs Q E hr h=>?_
 ·obtain⟨O,ds,h1,_⟩:=h;exact h1
 ·obtain⟨O,ds,h1,h2,h3,h4⟩:=h;have hl:ds.length=ps.length:=h3.length.trans h1;have e4:az B ps.length N.length ds=B K0 (env0 N.length ds):=by unfold az;rw[ba hl]
  rw[e4]at h4;refine⟨_,hb.h cdv A outer s H E hr PassesOwn.leaving H O,O,env0 N.length ds,K0,_,⟨qt h2 h3,⟨aO.refl H,λ_ z=>z,λa z=>.inl z⟩,λi xs a e=>?_,λi d e=>by obtain⟨d',_,e2⟩:=gq i _ e;cases e2⟩,rfl,?_⟩
  ·obtain⟨d',_,e2⟩:=gq i _ e;cases e2
  ·generalize B K0 (env0 N.length ds)=r at h4;refine⟨λz=>by rw[z]at h4;exact h4,λO' ρ' σ' H' S e=>?_,λO' ρ' σ' H' S e=>?_,λO' ρ' σ' H' S e=>?_,λd O' v H' e b dv=>?_,λO' ρ' σ' H' x S e=>?_⟩
   ·have e:(.ok .non:R D)=r:=e;subst e;exact h4 .non H' S.base.same (iw.mpr rfl)
   ·have e:(un:R D)=r:=e;subst e;exact h4.elim
   ·have e:(un:R D)=r:=e;subst e;exact h4.elim
   ·subst e;exact h4 v H' b.same (dv.mono (dD b.sub))
   ·have e:(.error (ag x):R D)=r:=e;subst e;exact CQ h4 S.base.same S.base.sub
def BV{x qual:Str}{st:WY}{f:WW}{fd:XD}{N ps:af}{k:Nat}{B:bz}(F:kc K x qual st f fd)(b:Binds K fd ps [])(m:mg x=ag (.ref f))(SC:bp N ps (ak st))(hb:BodyOk P w K mg base k N qual st f B):
  Callee P w K mg base (k+1) x ps (az B ps.length N.length):=⟨f,fd,ui F SC hb,b,F.kp,m⟩
def v7{x qual:Str}{st:WY}{f:WW}{fd:XD}{ps:af}(k:Nat)(F:kc K x qual st f fd)(b:Binds K fd ps [])(m:mg x=ag (.ref f)):Callee P w K mg base k x ps (λ_=>un):=by
 have no:∀vs H Q E,¬Bc K ps.length (λ_=>un) vs H Q E:=λvs H Q E Z=>Z.e λO Z=>Z.e λds Z=>Z.e λ_ Z=>Z.e λ_ Z=>Z.e λ_ e=>e;exact⟨f,fd,⟨λvs H Q E h=>bt h (no vs H Q E),λA outer s H args us vs Q E _ _ _ _ h=>bt h (no vs H Q E)⟩,b,F.kp,m⟩
end
def n9{K:VC}{T:String}(h1:V7 K (.type "NoneType") (.type T)=ag (T=="NoneType"))(h2:V7 K (.type "bool") (.type T)=ag (T=="bool"||T=="int"))(h3:V7 K (.type "int") (.type T)=ag (T=="int"))(h4:V7 K (.type "str") (.type T)=ag (T=="str"))
  (h5:V7 K (.type "tuple") (.type T)=ag (T=="tuple")) (h6:V7 K (.type "list") (.type T)=ag (T=="list")):yx K T:=λd hd=>by
 cases d with
 |dct _ _=>cases hd
 |obj _ _ _=>cases hd
 |exc _ _ _=>cases hd
 |kt _=>cases hd
 |non=>exact h1
 |bl _=>exact h2
 |int _=>exact h3
 |str _=>exact h4
 |tup _=>exact h5
 |lst _=>exact h6
def Ep{K:VC}:yx K "int":=n9 rfl rfl rfl rfl rfl rfl
def A7{K:VC}:yx K "bool":=n9 rfl rfl rfl rfl rfl rfl
def Dt{K:VC}:yx K "str":=n9 rfl rfl rfl rfl rfl rfl
def yF{K:VC}:yx K "tuple":=n9 rfl rfl rfl rfl rfl rfl
section
variable{X:Cx}{a b c:WX}{fa fb fc:FX}{pos:Pos}
def KN{r:V->Hp->VK->Prop}{g:D->bE}(s:GA X.K r g):∀σ H Q,tF X (f1 g fa) σ H Q->Rq r (tF X fa) σ H Q:=λσ H Q Z=>Z.e λO Z=>Z.e λρ Z=>Z.e λE hF=>⟨O,ρ,E,(eQ.bind hF).imp λa hF x H1 s1 d1=>by
 obtain⟨d,e,q⟩:=eQ.rO hF;exact s a d x O H1 Q (E.all.same s1) e d1 λv H2 s2 d2=>q v H2 (s1.trans s2) d2⟩
def iz(g g':D->D->bE)(fa fb fc:FX):FX:=λρ=>(fa ρ).bind λx=>(fb ρ).bind λy=>(rO (g x y)).bind λz=>xk z ((fc ρ).bind λw=>rO (g' y w))
def rn{r r':R2}{g g':D->D->bE}(s:dA X.K r g)(s':dA X.K r' g'):∀σ H Q,tF X (iz g g' fa fb fc) σ H Q->yA r r' (tF X fa) (tF X fb) (tF X fc) σ H Q:=λσ H Q Z=>Z.e λO Z=>Z.e λρ Z=>Z.e λE hF=>
 ⟨O,ρ,E,(eQ.bind hF).imp fun x hF v1 H1 s1 d1=>⟨O,ρ,E.same s1,((eQ.bind hF).mono s1).imp fun y hF v2 H2 s2 d2=>by
  obtain⟨z,e3,hF⟩:=eQ.rO (eQ.bind hF);refine s x y z v1 v2 O H2 _ (E.all.same (s1.trans s2)) e3 (d1.mono (ck s2)) d2 λv3 H3 s3 d3=>?_;cases z with
  |bl k=>
   refine⟨k,iu.mp d3,?_⟩;cases k with
   |false=>exact qS (hF _ H3 ((s1.trans s2).trans s3) (iu.mpr rfl))
   |true=>
    refine qA ⟨O,ρ,E.same ((s1.trans s2).trans s3),((eQ.bind (show eQ X σ O H ((fc ρ).bind λw=>rO (g' y w)) _ from hF)).mono ((s1.trans s2).trans s3)).imp λw hF v4 H4 s4 d4=>?_⟩;obtain⟨d,e5,q⟩:=eQ.rO hF;exact s' y w d v2 v4 O H4 Q (E.all.same (((s1.trans s2).trans s3).trans s4)) e5 (d2.mono (ck (s3.trans s4))) d4 λv5 H5 s5 d5=>q v5 H5 ((((s1.trans s2).trans s3).trans s4).trans s5) d5
  |_=>exact hF.elim⟩⟩
def Kl:D->bE
 |.int i=>ag (.int (-i))
 |_=>am
def EL(f:FX):FX:=f1 Kl f
def tM:List D->bE
 |[.int i]=>if decide (i.natAbs.log2<1920)then ag (.str (toString i))else am
 |_=>am
def B4:fW X (.type "str") (Jf X.K tM):=by
 rintro pins s σ H xs us Q I r ⟨O,ds,d,hO,hd,hg,q⟩;unfold tM at hg;split at hg
 ·rename_i i;obtain⟨h1,h2⟩:=bQ hg;subst h2;obtain⟨v,ev,h1'⟩:=hd.one;exact sZ pins s σ H xs us Q I r ⟨i,by rw[ev,fP.mp h1'],cr h1,q _ H (aO.refl H) (eM.mpr rfl)⟩
 ·cases hg
def ER:D->bE
 |.str x=>if small x.length then ag (.str (Txt.upper x))else am
 |_=>am
def K5(f:FX):FX:=f1 ER f
def Mf:D->bE
 |.lst xs=>ag (.lst xs.reverse)
 |.tup xs=>ag (.tup xs.reverse)
 |_=>am
def P0(f:FX):FX:=f1 Mf f
noncomputable def allB:List D->Option Bool
 |[]=>ag true
 |.bl b::r=>(allB r).bind λc=>ag (b&&c)
 |_=>am
def qQ:List D->bE
 |[.lst xs]=>(allB xs).bind λb=>ag (.bl b)
 |_=>am
theorem wW:∀{xs:List D}{b:Bool},allB xs=ag b->∃bs:List Bool,xs=bs.map .bl/\b=bs.all id
 |[],b,h=>by cases h;exact⟨[],rfl,rfl⟩
 |.bl x::r,b,h=>by
  obtain⟨c,e1,e2⟩:=bind_some (show((allB r).bind λc=>ag (x&&c))=ag b from h);cases e2;obtain⟨bs,e3,e4⟩:=wW e1;exact⟨x::bs,by rw[Tx,e3],by rw[Uk,e4];rfl⟩
 |.non::_,_,h=>by cases h
 |.int _::_,_,h=>by cases h
 |.str _::_,_,h=>by cases h
 |.tup _::_,_,h=>by cases h
 |.lst _::_,_,h=>by cases h
 |.dct _ _::_,_,h=>by cases h
 |.obj _ _ _::_,_,h=>by cases h
 |.exc _ _ _::_,_,h=>by cases h
 |.kt _::_,_,h=>by cases h
theorem ka{K:VC}{H:Hp}:∀{bs:List Bool}{vs:aN}{us:bA},aY K H (bs.map .bl) vs->Vals vs us->us=bs.map Value.bool
 |[],vs,us,h,r=>by
  rw[Ua,cZ]at h;subst h;cases r;rfl
 |b::bs,vs,us,h,r=>by
  rw[Tx,bP]at h;obtain⟨v,r',e,h1,h2⟩:=h;subst e;cases r with
  |cons q1 q2=>
   rw[iu]at h1;subst h1;cases q1;rw[Tx,ka h2 q2]
def range_all(bs:List Bool):((List.range bs.length).all λi=>(bs[i]?).getD true)=bs.all id:=by
 induction bs with
 |nil=>rfl
 |cons b bs ih=>
  rw[Tw,Ul,Uk,List.all_map,Uk,<-ih];rfl
def AY(hc:X.calm=true):fW X (.builtin "all") (Jf X.K qQ):=by
 rintro pins s σ H xs us Q I r ⟨O,ds,d,hO,hd,hg,q⟩;unfold qQ at hg;split at hg
 ·rename_i ys;obtain⟨bv,e1,e2⟩:=bind_some hg;cases e2;obtain⟨bs,eb,ev⟩:=wW e1;subst eb ev;obtain⟨v,evv,h1⟩:=hd.one;subst evv;obtain⟨p,vs,ep,g1,g2⟩:=cS.mp h1;subst ep;obtain⟨u,eu,ru⟩:=vals1 r;subst eu;cases ru;obtain⟨its,rv,pl,hz⟩:=I.list ((aP H O).seq g1);have ei:=ka g2 rv;have hl:=pl.isList;have hlt:p<s.heap.objs.size:=by obtain⟨_,e,_⟩:=hl;exact Wn e
  refine call_all_walk (Xq hl ?_);refine⟨s.heap.objs.size,[s.heap.objs.size,p],[s.heap.objs.size],its.toArray.size,_,_,λi=>(bs[i]?).getD true,rfl,Walks.list (A:=X.A.in1) (I.ok.hd hc) _ p (Tf hlt) its.toArray,
   ⟨⟨_,Wm _ rfl,rfl,rfl⟩,hl.push _⟩,λi v s' Q' E' hP hQ=>?_,λh' tk hk=>?_⟩
  ·have e:bs[i]?.map Value.bool=ag v:=by
    rw[<-TV,<-ei]
    simpa using hP
   cases eb:bs[i]? with
   |none=>rw[eb]at e;cases e
   |some b=>
    rw[eb]at e;cases e;simp only[eb,UE]at hQ;exact Xi hQ
  ·have e:((List.range its.toArray.size).all λi=>(bs[i]?).getD true)=bs.all id:=by
    have:its.toArray.size=bs.length:=(by rw[Tv,ei,Tz]);rw[this];exact range_all bs
   rw[e];have k:∀b x,s.heap.get? b=ag x->h'.get? b=ag x:=λb x e=>hk b x (λhm=>by rw[List.mem_singleton.mp hm]at e;exact Te _ (Wn e)) (Wp _ e);exact⟨.bl _,H,I.kept k,rfl,q _ H (aO.refl H) (iu.mpr rfl)⟩
 ·cases hg
end
end
end TG
namespace ZI
open PyProof.Rows
section
variable{prog:W1}{w:W0}{A:W7}{E:WU->WZ->Prop}{s:WZ}
def xg{it t:WW}{i:Nat}{its:Array WU}{x:WU}{Q:WU->WZ->Prop}(hit:s.heap.IsTupleIter it t i)(ht:s.heap.IsTuple t its)(hx:its[i]?=ag x)
  (hQ:∀g,g.IsTupleIter it t (i+1)->Wo it s.heap g->Q x {s with heap:=g}):Xa (model prog w) A (Builtin.SmallTypes.nextOf (.ref it)) Q E s:=by
 obtain⟨ob,h1,h2,h3⟩:=id hit;obtain⟨ol,g1,_,n,g2⟩:=ht;unfold Builtin.SmallTypes.nextOf;refine Xp (X2 (name:=Str.ofString "__next__") hit.typeIs F.slot_tuple_iterator_next (X3 F.slot_tuple_iterator_next hit.typeIs F.entry_tuple_iterator_next ?_ (F.args_tuple_iterator_next_1 _)));show Xa _ _ (field (.ref it) 0 >>= _) _ _ s;refine Xp (X0 h1 h3 (x:=.ref t) rfl ?_);show Xa _ _ (if(Value.ref t==Value.none)=true then _ else _) _ _ s;rw[br (show¬((Value.ref t==Value.none)=true)from λz=>Tq z)];show Xa _ _ (field (.ref it) 1 >>= _) _ _ s;refine Xp (X0 h1 h3 (x:=.int i 0) rfl ?_);show Xa _ _ (seqItems? (.ref t) >>= _) _ _ s;refine Xp (Yg g1 g2 ?_);simp only[T4,hx];refine Xp (Yc h1 h3 (by simp) (Xo ⟨x,rfl,Xo (hQ _ ⟨_,Wu _ h1 (Obj.isFreed_of_fields (Obj.data_mapFields h3 _)),(Obj.cls_mapFields ..).trans h2,by rw[Obj.data_mapFields h3];simp[rawInt]⟩ (Heap.SameBut.update ..))⟩))
def A2{it t:WW}{i:Nat}{its:Array WU}{Q:WU->WZ->Prop}(hh:A.handled=am)(hit:s.heap.IsTupleIter it t i)(ht:s.heap.IsTuple t its)(hx:its[i]?=am)
  (hE:∀g e,Heap.ExtBut it s.heap g->(∃o,g.get? e=ag o/\o.cls=.type "StopIteration")->E (.ref e) {s with heap:=g}):Xa (model prog w) A (Builtin.SmallTypes.nextOf (.ref it)) Q E s:=by
 obtain⟨ob,h1,h2,h3⟩:=id hit;obtain⟨ol,g1,_,n,g2⟩:=ht;unfold Builtin.SmallTypes.nextOf;refine Xp (X2 (name:=Str.ofString "__next__") hit.typeIs F.slot_tuple_iterator_next (X3 F.slot_tuple_iterator_next hit.typeIs F.entry_tuple_iterator_next ?_ (F.args_tuple_iterator_next_1 _)));show Xa _ _ (field (.ref it) 0 >>= _) _ _ s;refine Xp (X0 h1 h3 (x:=.ref t) rfl ?_);show Xa _ _ (if(Value.ref t==Value.none)=true then _ else _) _ _ s;rw[br (show¬((Value.ref t==Value.none)=true)from λz=>Tq z)];show Xa _ _ (field (.ref it) 1 >>= _) _ _ s;refine Xp (X0 h1 h3 (x:=.int i 0) rfl ?_);show Xa _ _ (seqItems? (.ref t) >>= _) _ _ s;refine Xp (Yg g1 g2 ?_);simp only[T4,hx];refine Xp (Yd (Xp (Yc h1 h3 (by simp) ?_)));show Xa _ _ (newExc (.type "StopIteration") [] >>= _) _ _ _;refine Xp ?_;simp only[newExc,newTuple];refine Xp (X5 ?_ (by size_fits));refine Xp (m:=firstArgMember _ _) (wpAny_of_eq (a:=Value.none) (by first|rfl|(simp only[firstArgMember];rfl)) ?_);refine X5 ?_ (by size_fits);simp only[raiseNew];refine Xp (wpAny_handled ?_)
 first|rw[show A.in1.handled=am from hh]|rw[hh]
 refine Xp (Xo (wpAny_throw ?_));exact hE _ _ (((Heap.SameBut.update ..).extBut.push _).push _) ⟨_,Wm _ rfl,rfl⟩
end
def LN{prog:W1}{w:W0}{A:W7}(hh:A.handled=am)(it t:WW)(hne:t≠it)(its:Array WU):Draws prog w A it [it,t] its.size (λi v=>its[i]?=ag v) (λi h=>h.IsTupleIter it t i/\h.IsTuple t its)where
 live:=λi h ⟨⟨o,e,_⟩,_⟩=>⟨o,e⟩
 frame:=λi h h' ⟨x,y⟩ k=>⟨x.at λo e=>k it (by simp) o e,let ⟨o,e,r⟩:=y;⟨o,k t (by simp) o e,r⟩⟩
 item:=λi s Q E hi ⟨x,y⟩ hQ=>xg x y (Array.getElem?_eq_getElem hi) λg hg hs=>hQ _ g s.toks (Array.getElem?_eq_getElem hi) ⟨hg,let ⟨o,e,r⟩:=y;⟨o,(hs.2 t hne).trans e,r⟩⟩ hs
 done:=λs Q E ⟨x,y⟩ hE=>A2 hh x y (by simp) hE
structure Apart(z TI TO i1 i2:WW)(fp1 fp2:List WW):Prop where
 a1:TI≠z
 a2:TO≠z
 a3:TI≠TO
 b1:z∉fp1
 b2:TO∉fp1
 b3:i2∉fp1
 c1:z∉fp2
 c2:TO∉fp2
 c3:i1∉fp2
 d1:TI≠i1
 d2:TI≠i2
 e1:i1∈fp1
 e2:i2∈fp2
section
variable{prog:W1}{w:W0}{A:W7}{E:WU->WZ->Prop}{s:WZ}{z TI TO i1 i2:WW}{fp1 fp2:List WW}{n1 n2 i:Nat}{P1 P2:Nat->WU->Prop}{S1 S2:Nat->W3->Prop}{a b:WU}
def next_item{Q:WU->WZ->Prop}(Ap:Apart z TI TO i1 i2 fp1 fp2)(D1:Draws prog w A i1 fp1 n1 P1 S1)(D2:Draws prog w A i2 fp2 n2 P2 S2)(hz:Yh s.heap z TI TO .none)(hTI:Yi s.heap TI (.ref i1) (.ref i2))(hTO:Yi s.heap TO a b)(st1:S1 i s.heap)(st2:S2 i s.heap)(l1:i<n1)(l2:i<n2)
  (hQ:∀ x y g tk,P1 i x->P2 i y->Yh g z TI TO (rawInt s.heap.objs.size)->Yi g TO x y->S1 (i+1) g->S2 (i+1) g->Yi g s.heap.objs.size x y->g.objs.size=s.heap.objs.size+1 ->
   (∀c o,c≠z->c≠TO->c≠i1->c≠i2->s.heap.get? c=ag o->g.get? c=ag o)->Q (.ref s.heap.objs.size) {s with heap:=g,toks:=tk}):
  Xa (model prog w) A (Builtin.«zip.__next__» ⟨[.ref z],[]⟩) (λfin s'=>∃v,fin=.done (.ret v)/\Q v s') E s:=by
 have n1z:i1≠z:=λe=>Ap.b1 (e ▸ Ap.e1);have n2z:i2≠z:=λe=>Ap.c1 (e ▸ Ap.e2);have n1T:i1≠TO:=λe=>Ap.b2 (e ▸ Ap.e1);have n2T:i2≠TO:=λe=>Ap.c2 (e ▸ Ap.e2);show Xa _ _ (field (.ref z) 2 >>= _) _ _ _;refine Xp (X0 hz rfl (x:=.bool false) rfl ?_);show Xa _ _ (field (.ref z) 3 >>= _) _ _ _;refine Xp (X0 hz rfl (x:=.ref TI) rfl ?_);refine Xp (Yg hTI rfl ?_);show Xa _ _ (Builtin.SmallTypes.ownedTupleIsFree (.ref z) >>= _) _ _ _;refine Xp ?_;unfold Builtin.SmallTypes.ownedTupleIsFree;refine Xp (X0 hz rfl (x:=.none) rfl (Xo ?_));simp only[if_true];refine Xp (Yd ?_);refine Xp (X0 hz rfl (x:=.ref TO) rfl ?_);refine Xp (Yj hz (by simp) λg1 hz1 k1=>?_);have hz1:Yh g1 z TI TO .ellipsis:=hz1;refine Xp ?_;simp only[List.zipIdx_cons,List.zipIdx_nil,Uc,UG];refine Xp (Xp (Yk ?_));show Xa _ _ (Builtin.SmallTypes.nextOf (.ref i1) >>= _) _ _ _;have q1:S1 i g1:=D1.frame _ _ _ st1 λb hb o e=>k1.extBut _ _ (λz'=>Ap.b1 (z' ▸ hb)) e;refine Xp (D1.item i {s with heap:=g1} _ _ l1 q1 λx g2 tk2 p1 q2 k2=>Xo ?_);have t2:Yi g2 TO a b:=k2.extBut _ _ n1T.symm (k1.extBut _ _ Ap.a2 hTO);refine Xp (Yg t2 rfl ?_);refine Xp (Yl t2 λg3 t3 k3=>?_);have t3:Yi g3 TO x b:=t3;refine Xp (Ym (Xo ?_));refine Xp (Xp (Yk ?_));show Xa _ _ (Builtin.SmallTypes.nextOf (.ref i2) >>= _) _ _ _;have q3:S2 i g3:=D2.frame _ _ _ st2 λb hb o e=>k3.extBut _ _ (λz'=>Ap.c2 (z' ▸ hb)) (k2.extBut _ _ (λz'=>Ap.c3 (z' ▸ hb)) (k1.extBut _ _ (λz'=>Ap.c1 (z' ▸ hb)) e));refine Xp (D2.item i {s with heap:=g3,toks:=tk2} _ _ l2 q3 λy g4 tk4 p2 q4 k4=>Xo ?_);have t4:Yi g4 TO x b:=k4.extBut _ _ n2T.symm t3;refine Xp (Yg t4 rfl ?_);refine Xp (Yl t4 λg5 t5 k5=>?_);have t5:Yi g5 TO x y:=t5;refine Xp (Ym (Xo (Xo ?_)));refine Xp (Yg t5 rfl ?_);refine Xp (wpAny_newTuple ?_);have hsz:g5.objs.size=s.heap.objs.size:=by rw[k5.1,k4.1,k3.1,k2.1,k1.1]
 have hz5:Yh g5 z TI TO .ellipsis:=k5.extBut _ _ Ap.a2.symm (k4.extBut _ _ n2z.symm (k3.extBut _ _ Ap.a2.symm (k2.extBut _ _ n1z.symm hz1)));have k15:∀c o,c≠z->c≠TO->c≠i1->c≠i2->s.heap.get? c=ag o->g5.get? c=ag o:=λc o c1 c2 c3 c4 e=>k5.extBut _ _ c2 (k4.extBut _ _ c4 (k3.extBut _ _ c2 (k2.extBut _ _ c3 (k1.extBut _ _ c1 e))));have r1:S1 (i+1) g5:=D1.frame _ _ _ q2 λb hb o e=>k5.extBut _ _ (λz'=>Ap.b2 (z' ▸ hb)) (k4.extBut _ _ (λz'=>Ap.b3 (z' ▸ hb)) (k3.extBut _ _ (λz'=>Ap.b2 (z' ▸ hb)) e));have r2:S2 (i+1) g5:=D2.frame _ _ _ q4 λb hb o e=>k5.extBut _ _ (λz'=>Ap.c2 (z' ▸ hb)) e;have lz:z<g5.objs.size:=Wn hz5;show Xa _ _ (Builtin.SmallTypes.ownedTupleHandOut (.ref z) (.ref g5.objs.size) >>= _) _ _ _;refine Xp ?_;unfold Builtin.SmallTypes.ownedTupleHandOut;have hz6:Yh (g5.push {cls:=.type "tuple",data:=.seq #[x,y]}) z TI TO .ellipsis:=Wp _ hz5;refine Xp (Yj hz6 (by simp) λg7 hz7 k7=>?_);have hz7:Yh g7 z TI TO (rawInt g5.objs.size):=hz7;refine Yj hz7 (by simp) λg8 hz8 k8=>?_;have hz8:Yh g8 z TI TO (rawInt g5.objs.size):=hz8;have up:∀c o,c≠z->g5.get? c=ag o->g8.get? c=ag o:=λc o c1 e=>k8.extBut _ _ c1 (k7.extBut _ _ c1 (Wp _ e));have t8:Yi g8 g5.objs.size x y:=k8.extBut _ _ (Tr lz) (k7.extBut _ _ (Tr lz) (Wm _ rfl));have s8:g8.objs.size=g5.objs.size+1:=by rw[k8.1,k7.1,Wq]
 rw[hsz]at hz8 t8 s8;refine Xo ⟨_,rfl,?_⟩;show Q (.ref g5.objs.size) _;rw[hsz];exact hQ x y g8 tk4 p1 p2 hz8 (up _ _ Ap.a2 t5) (D1.frame _ _ _ r1 λb hb o e=>up b o (λz'=>Ap.b1 (z' ▸ hb)) e) (D2.frame _ _ _ r2 λb hb o e=>up b o (λz'=>Ap.c1 (z' ▸ hb)) e) t8 s8 λc o c1 c2 c3 c4 e=>up c o c1 (k15 c o c1 c2 c3 c4 e)
def next_end{Q:Fin->WZ->Prop}(Ap:Apart z TI TO i1 i2 fp1 fp2)(D1:Draws prog w A i1 fp1 n1 P1 S1)(D2:Draws prog w A i2 fp2 n2 P2 S2)(hz:Yh s.heap z TI TO .none)(hTI:Yi s.heap TI (.ref i1) (.ref i2))(hTO:Yi s.heap TO a b)(st1:S1 i s.heap)(st2:S2 i s.heap)(hend:i=n1\/(i<n1/\i=n2))
  (hE:∀g e tk,(∀c o,c≠z->c≠TO->c≠i1->c≠i2->s.heap.get? c=ag o->g.get? c=ag o)->(∃o,g.get? e=ag o/\o.cls=.type "StopIteration")->E (.ref e) {s with heap:=g,toks:=tk}):
  Xa (model prog w) A (Builtin.«zip.__next__» ⟨[.ref z],[]⟩) Q E s:=by
 have n1z:i1≠z:=λe=>Ap.b1 (e ▸ Ap.e1);have n2z:i2≠z:=λe=>Ap.c1 (e ▸ Ap.e2);have n1T:i1≠TO:=λe=>Ap.b2 (e ▸ Ap.e1);show Xa _ _ (field (.ref z) 2 >>= _) _ _ _;refine Xp (X0 hz rfl (x:=.bool false) rfl ?_);show Xa _ _ (field (.ref z) 3 >>= _) _ _ _;refine Xp (X0 hz rfl (x:=.ref TI) rfl ?_);refine Xp (Yg hTI rfl ?_);show Xa _ _ (Builtin.SmallTypes.ownedTupleIsFree (.ref z) >>= _) _ _ _;refine Xp ?_;unfold Builtin.SmallTypes.ownedTupleIsFree;refine Xp (X0 hz rfl (x:=.none) rfl (Xo ?_));simp only[if_true];refine Xp (Yd ?_);refine Xp (X0 hz rfl (x:=.ref TO) rfl ?_);refine Xp (Yj hz (by simp) λg1 hz1 k1=>?_);have hz1:Yh g1 z TI TO .ellipsis:=hz1;refine Xp ?_;simp only[List.zipIdx_cons,List.zipIdx_nil,Uc,UG];refine Xp (Xp (Yk ?_));show Xa _ _ (Builtin.SmallTypes.nextOf (.ref i1) >>= _) _ _ _;have q1:S1 i g1:=D1.frame _ _ _ st1 λb hb o e=>k1.extBut _ _ (λz'=>Ap.b1 (z' ▸ hb)) e;rcases hend with hend|⟨l1,hend⟩
 ·subst hend;refine Xp (D1.done {s with heap:=g1} _ _ q1 λg2 e k2 he=>?_);obtain⟨oe,hoe,hce⟩:=he;have hz2:Yh g2 z TI TO .ellipsis:=k2 _ _ n1z.symm hz1;have hez:e≠z:=λx=>by rw[x,hz2]at hoe;cases hoe;simp at hce
  exact Yj hz2 (by simp) λg3 _ k3=>hE g3 e s.toks (λc o c1 _ c3 _ x=>k3.extBut _ _ c1 (k2 _ _ c3 (k1.extBut _ _ c1 x))) ⟨oe,k3.extBut _ _ hez hoe,hce⟩
 ·refine Xp (D1.item i {s with heap:=g1} _ _ l1 q1 λx g2 tk2 p1 q2 k2=>Xo ?_);have t2:Yi g2 TO a b:=k2.extBut _ _ n1T.symm (k1.extBut _ _ Ap.a2 hTO);refine Xp (Yg t2 rfl ?_);refine Xp (Yl t2 λg3 t3 k3=>?_);refine Xp (Ym (Xo ?_));refine Xp (Xp (Yk ?_));show Xa _ _ (Builtin.SmallTypes.nextOf (.ref i2) >>= _) _ _ _;have q3:S2 i g3:=D2.frame _ _ _ st2 λb hb o e=>k3.extBut _ _ (λz'=>Ap.c2 (z' ▸ hb)) (k2.extBut _ _ (λz'=>Ap.c3 (z' ▸ hb)) (k1.extBut _ _ (λz'=>Ap.c1 (z' ▸ hb)) e));subst hend;refine Xp (D2.done {s with heap:=g3,toks:=tk2} _ _ q3 λg4 e k4 he=>?_);obtain⟨oe,hoe,hce⟩:=he;have hz4:Yh g4 z TI TO .ellipsis:=k4 _ _ n2z.symm (k3.extBut _ _ Ap.a2.symm (k2.extBut _ _ n1z.symm hz1));have hez:e≠z:=λx=>by rw[x,hz4]at hoe;cases hoe;simp at hce
  exact Yj hz4 (by simp) λg5 _ k5=>hE g5 e tk2 (λc o c1 c2 c3 c4 x=>k5.extBut _ _ c1 (k4 _ _ c4 (k3.extBut _ _ c2 (k2.extBut _ _ c3 (k1.extBut _ _ c1 x))))) ⟨oe,k5.extBut _ _ hez hoe,hce⟩
end
def SQ(b:Bool)(h:W3)(l:WW)(xs:Array WU):Prop:=if b then h.IsList l xs else h.IsTuple l xs
def SI(b:Bool)(h:W3)(i l:WW)(k:Nat):Prop:=if b then h.IsListIter i l k else h.IsTupleIter i l k
noncomputable def OY(b:Bool):String:=if b then"list_iterator"else"tuple_iterator"
def SQ.keep{b:Bool}{h h':W3}{l:WW}{xs:Array WU}(x:SQ b h l xs)(k:∀o,h.get? l=ag o->h'.get? l=ag o):SQ b h' l xs:=by
 cases b with
 |true=>exact Heap.IsList.at x k
 |false=>obtain⟨o,e,r⟩:=(show h.IsTuple l xs from x);exact(show h'.IsTuple l xs from⟨o,k o e,r⟩)
def SI.keep{b:Bool}{h h':W3}{i l:WW}{n:Nat}(x:SI b h i l n)(k:∀o,h.get? i=ag o->h'.get? i=ag o):SI b h' i l n:=by
 cases b with
 |true=>exact Heap.IsListIter.at x k
 |false=>exact Heap.IsTupleIter.at x k
def SQ.lt{b:Bool}{h:W3}{l:WW}{xs:Array WU}(x:SQ b h l xs):l<h.objs.size:=by
 cases b with
 |true=>obtain⟨o,e,_⟩:=(show h.IsList l xs from x);exact Wn e
 |false=>obtain⟨o,e,_⟩:=(show h.IsTuple l xs from x);exact Wn e
def SI.get{b:Bool}{h:W3}{i l:WW}{n:Nat}(x:SI b h i l n):∃o,h.get? i=ag o/\∀v,o.data≠.cell v:=by
 cases b with
 |true=>obtain⟨o,e,_,d⟩:=(show h.IsListIter i l n from x);exact⟨o,e,λv z=>by rw[d]at z;cases z⟩
 |false=>obtain⟨o,e,_,d⟩:=(show h.IsTupleIter i l n from x);exact⟨o,e,λv z=>by rw[d]at z;cases z⟩
def SI.new{b:Bool}{h:W3}{l:WW}:SI b (h.push {cls:=.type (OY b),data:=.fields #[.ref l,.int 0 0]}) h.objs.size l 0:=by
 cases b with
 |true=>exact⟨_,Wm _ rfl,rfl,rfl⟩
 |false=>exact⟨_,Wm _ rfl,rfl,rfl⟩
def Fb{b:Bool}{prog:W1}{w:W0}{A:W7}{E:WU->WZ->Prop}{s:WZ}{l:WW}{xs:Array WU}{Q:WU->WZ->Prop}(h:SQ b s.heap l xs)
  (hQ:Q (.ref s.heap.objs.size) {s with heap:=s.heap.push {cls:=.type (OY b),data:=.fields #[.ref l,.int 0 0]}}):Xa (model prog w) A (pyIter (.ref l)) Q E s:=by
 cases b with
 |true=>exact Xq h hQ
 |false=>exact wpAny_pyIter_tuple h hQ
def nQ{prog:W1}{w:W0}{A:W7}(b:Bool)(hh:A.handled=am)(it l:WW)(hne:l≠it)(its:Array WU):Draws prog w A it [it,l] its.size (λi v=>its[i]?=ag v) (λi h=>SI b h it l i/\SQ b h l its):=by
 cases b with
 |true=>exact Draws.list hh it l hne its
 |false=>exact LN hh it l hne its
abbrev LD(b1:Bool)(h:W3)(l1:WW):W3:=h.push {cls:=.type (OY b1),data:=.fields #[.ref l1,.int 0 0]}
abbrev Oa(b1 b2:Bool)(h:W3)(l1 l2:WW):W3:=(LD b1 h l1).push {cls:=.type (OY b2),data:=.fields #[.ref l2,.int 0 0]}
abbrev Ot(b1 b2:Bool)(h:W3)(l1 l2:WW):W3:=(Oa b1 b2 h l1 l2).push {cls:=.type "tuple",data:=.seq #[.ref h.objs.size,.ref (LD b1 h l1).objs.size]}
abbrev OS(b1 b2:Bool)(h:W3)(l1 l2:WW):W3:=(Ot b1 b2 h l1 l2).push {cls:=.type "tuple",data:=.seq #[.none,.none]}
abbrev J9(b1 b2:Bool)(h:W3)(l1 l2:WW):W3:=(OS b1 b2 h l1 l2).push {cls:=.type "zip",data:=.fields #[.none,.bool false,.bool false,.ref (Oa b1 b2 h l1 l2).objs.size,.ref (Ot b1 b2 h l1 l2).objs.size]}
def DM(b1 b2:Bool)(l1 l2:WW)(xs ys:Array WU):Meets (Builtin.«zip.__new__» ⟨[.type "zip",.ref l1,.ref l2],[]⟩) (λ_ R s=>SQ b1 s.heap l1 xs/\SQ b2 s.heap l2 ys/\R (.ok (.ret (.ref (OS b1 b2 s.heap l1 l2).objs.size))) {s with heap:=J9 b1 b2 s.heap l1 l2}):=
 .of_wp λprog w A R s h=>by
  obtain⟨hp,g,d,tk,os⟩:=s;obtain⟨q1,q2,h⟩:=h;have hsub:=sub_zip;have e1:SQ b1 (Shared.heap ⟨hp,g,d,tk,os⟩) l1 xs:=q1;have e2:SQ b2 (Shared.heap ⟨LD b1 hp l1,g,d,tk,os⟩) l2 ys:=q2.keep λo e=>Wp _ e
  wp_walk using Fb e1,Fb e2
  exact⟨_,rfl,h⟩
def CP{prog:W1}{w:W0}{A:W7}{E:WU->WZ->Prop}{s:WZ}{b1 b2:Bool}{l1 l2:WW}{xs ys:Array WU}{Q:WU->WZ->Prop}(h1:SQ b1 s.heap l1 xs)(h2:SQ b2 s.heap l2 ys)
  (h:∀ g,Yh g (s.heap.objs.size+4) (s.heap.objs.size+2) (s.heap.objs.size+3) .none->Yi g (s.heap.objs.size+2) (.ref s.heap.objs.size) (.ref (s.heap.objs.size+1))->Yi g (s.heap.objs.size+3) .none .none->SI b1 g s.heap.objs.size l1 0->SI b2 g (s.heap.objs.size+1) l2 0 ->
   (∀c o,s.heap.get? c=ag o->g.get? c=ag o)->Q (.ref (s.heap.objs.size+4)) {s with heap:=g}):Xa (model prog w) A (call (.type "zip") [.ref l1,.ref l2]) Q E s:=by
 refine callType_new F.called_zip (by decide) (F.typeCall_zip_2 _ _) (F.newCall_zip_2 _ _) (λobj=>F.args_object_init_3 obj _ _) F.entry_zip_new (DM b1 b2 l1 l2 xs ys) ⟨h1,h2,?_⟩;have z1:(LD b1 s.heap l1).objs.size=s.heap.objs.size+1:=Wq ..
 have z2:(Oa b1 b2 s.heap l1 l2).objs.size=s.heap.objs.size+2:=by rw[Wq,z1]
 have z3:(Ot b1 b2 s.heap l1 l2).objs.size=s.heap.objs.size+3:=by rw[Wq,z2]
 have z4:(OS b1 b2 s.heap l1 l2).objs.size=s.heap.objs.size+4:=by rw[Wq,z3]
 have u1:∀c o,(LD b1 s.heap l1).get? c=ag o->(J9 b1 b2 s.heap l1 l2).get? c=ag o:=λc o e=>Wp _ (Wp _ (Wp _ (Wp _ e)));have u2:∀c o,(Oa b1 b2 s.heap l1 l2).get? c=ag o->(J9 b1 b2 s.heap l1 l2).get? c=ag o:=λc o e=>Wp _ (Wp _ (Wp _ e));have g5:(J9 b1 b2 s.heap l1 l2).get? (OS b1 b2 s.heap l1 l2).objs.size=ag _:=Wm _ rfl;have g4:(J9 b1 b2 s.heap l1 l2).get? (Ot b1 b2 s.heap l1 l2).objs.size=ag _:=Wp _ (Wm _ rfl);have g3:(J9 b1 b2 s.heap l1 l2).get? (Oa b1 b2 s.heap l1 l2).objs.size=ag _:=Wp _ (Wp _ (Wm _ rfl));have g2:SI b2 (J9 b1 b2 s.heap l1 l2) (LD b1 s.heap l1).objs.size l2 0:=SI.keep (SI.new (h:=LD b1 s.heap l1)) λo e=>u2 _ o e;have g1:SI b1 (J9 b1 b2 s.heap l1 l2) s.heap.objs.size l1 0:=SI.keep SI.new λo e=>u1 _ o e;show _/\_;rw[z2,z3,z4]at g5;rw[z1,z2]at g3;rw[z3]at g4;rw[z1]at g2;rw[z4];exact⟨⟨_,g5,rfl⟩,h _ g5 g3 g4 g1 g2 λc o e=>u1 c o (Wp _ e)⟩
end ZI
namespace TG
section
open ZI
variable[ay]
section
variable{X:Cx}{pins:bg}{σ:St}{H:Hp}{s:WZ}{h':W3}
def Inv.turnedL{ch:aD}{p:WW}{o:HO}{t':Nat}(I:Inv X pins σ H s)(hf:∀b∈ch,nD X pins H b)(k:∀b u,b∉ch->s.heap.get? b=ag u->h'.get? b=ag u)(hp:s.heap.objs.size<=p)(new:gv X.prog X.w (upd H p o) h' p o):
  Inv X pins σ (upd H p o) {s with heap:=h',toks:=t'}:=by
 have hn:=I.hok.fresh hp;have nch:∀b u,H b=ag u->b∉ch:=λb u e z=>by rw[(hf b z).1]at e;cases e
 refine I.step (g':=s.gens) (d':=s.drawn) (ch:=ch) (λb hb=>?_) (λb o _ _ hc e _=>k b o hc e) (λb o _ _ hc e _=>⟨o.slots,k b o hc e⟩) (λb u _ q n=>by rw[aL (Tf (Td (Wn q) hp))];exact n)
  (λb o hc e=>⟨o,k b o hc e⟩) (λb xs q=>by rw[aL (aT q hn)];exact q) (λb u xs q=>by rw[aL (aT q hn)];exact q) (λb ps q=>⟨#[],by rw[aL (aT q hn),q];simp⟩) (λm hm=>?_) (λb u e=>?_) I.bare
 ·obtain⟨_,f1,_,f3,f4,f5⟩:=hf b hb;exact⟨f3,f1,f4,f5⟩
 ·obtain⟨o,es,ep,ho,r⟩:=hm;exact⟨o,es,ep,k _ o (λz=>(hf _ z).2.1 rfl) ho,r⟩
 ·by_cases hb:b=p
  ·subst hb;rw[bu]at e;cases e;exact new
  ·rw[aL hb]at e;refine(I.hok b u e).stay (λc v hc q=>k c v ?_ q) (λc q=>by rw[aL (aT q hn)];exact q) λc xs q=>by rw[aL (aT q hn)];exact q
   rcases hc with z|z
   ·rw[z];exact nch b u e
   ·exact nch c _ z
def Inv.turned0{ch:aD}{t':Nat}(I:Inv X pins σ H s)(hf:∀b∈ch,nD X pins H b)(k:∀b u,b∉ch->s.heap.get? b=ag u->h'.get? b=ag u):Inv X pins σ H {s with heap:=h',toks:=t'}:=by
 have nch:∀b u,H b=ag u->b∉ch:=λb u e z=>by rw[(hf b z).1]at e;cases e
 refine I.step (g':=s.gens) (d':=s.drawn) (ch:=ch) (λb hb=>?_) (λb o _ _ hc e _=>k b o hc e) (λb o _ _ hc e _=>⟨o.slots,k b o hc e⟩) (λ_ _ _ _ n=>n)
  (λb o hc e=>⟨o,k b o hc e⟩) (λ_ _ e=>e) (λ_ _ _ e=>e) (λb ps e=>⟨#[],by rw[e];simp⟩) (λm hm=>?_) (λb u e=>?_) I.bare
 ·obtain⟨_,f1,_,f3,f4,f5⟩:=hf b hb;exact⟨f3,f1,f4,f5⟩
 ·obtain⟨o,es,ep,ho,r⟩:=hm;exact⟨o,es,ep,k _ o (λz=>(hf _ z).2.1 rfl) ho,r⟩
 ·refine(I.hok b u e).stay (λc v hc q=>k c v ?_ q) (λ_ q=>q) λ_ _ q=>q;rcases hc with z|z
  ·rw[z];exact nch b u e
  ·exact nch c _ z
end
def SX(K:VC)(b:Bool)(H:Hp)(a:WW)(xs:aN):Prop:=if b then km K H a xs else lW K H a xs
def SX.same{K:VC}{b:Bool}{H H':Hp}{a:WW}{xs:aN}(e:aO H H')(h:SX K b H a xs):SX K b H' a xs:=by
 cases b with
 |true=>exact e.seq (show km K H a xs from h)
 |false=>exact Bt e (show lW K H a xs from h)
section
variable{X:Cx}{pins:bg}{σ:St}{H:Hp}{s:WZ}
def Inv.sx(I:Inv X pins σ H s){b:Bool}{a:WW}{xs:aN}(h:SX X.K b H a xs):∃its:bA,Vals xs its/\SQ b s.heap a its.toArray/\xs.length<=W4:=by
 cases b with
 |true=>obtain⟨its,r,p,z⟩:=I.list (show km X.K H a xs from h);exact⟨its,r,p.isList,z⟩
 |false=>obtain⟨its,r,p,z⟩:=I.tuple (show lW X.K H a xs from h);exact⟨its,r,p,z⟩
def Inv.sx_inj(I:Inv X pins σ H s){b:Bool}{a:WW}{xs ys:aN}(h:SX X.K b H a xs)(h':SX X.K b H a ys):xs=ys:=by
 cases b with
 |true=>exact I.list_inj h h'
 |false=>exact I.tuple_inj h h'
end
noncomputable def Rr(K:VC)(b1 b2:Bool)(a1 a2:WW):It:=
  ⟨fun i H=>∃ xs ys,SX K b1 H a1 xs/\SX K b2 H a2 ys/\i < xs.length/\i < ys.length,
   λi H v H'=>∃p x y,v=.ref p/\H p=am/\H'=upd H p (.tup [x,y])/\(∀xs,SX K b1 H a1 xs->xs[i]?=ag x)/\∀ys,SX K b2 H a2 ys->ys[i]?=ag y,
   λi H=>∃xs ys,SX K b1 H a1 xs/\SX K b2 H a2 ys/\(i=xs.length\/(i<xs.length/\i=ys.length))⟩
def Gc{P:W1}{w:W0}{K:VC}{es:aS}{k:Nat}{pos:Pos}{b1 b2:Bool}{a1 a2 z TI TO i1 i2:WW}(Ap:Apart z TI TO i1 i2 [i1,a1] [i2,a2])(n1:a1≠i1)(n2:a2≠i2)(n3:z≠i1)(n4:z≠i2):Turn P w K (.Tuple es k pos) (Rr K b1 b2 a1 a2) [z,TI,TO,i1,i2] z
  (λi h=>Yh h z TI TO .none/\Yi h TI (.ref i1) (.ref i2)/\(∃a b,Yi h TO a b)/\SI b1 h i1 a1 i/\SI b2 h i2 a2 i)where
 mem:=by simp
 obj:=λi h ⟨hz,hI,⟨a,b,hO⟩,s1,s2⟩ c hc=>by
  simp only[UH,UI,or_false]at hc;rcases hc with rfl|rfl|rfl|rfl|rfl
  ·exact⟨_,hz,λv q=>by cases q⟩
  ·exact⟨_,hI,λv q=>by cases q⟩
  ·exact⟨_,hO,λv q=>by cases q⟩
  ·exact s1.get
  ·exact s2.get
 keep:=λi h h' ⟨hz,hI,⟨a,b,hO⟩,s1,s2⟩ kp=>⟨kp z (by simp) _ hz,kp TI (by simp) _ hI,⟨a,b,kp TO (by simp) _ hO⟩,s1.keep λo e=>kp i1 (by simp) o e,s2.keep λo e=>kp i2 (by simp) o e⟩
 item:=by
  rintro X hP hw hK hc i pins s σ H E I hf ⟨hz,hI,⟨a,b,hO⟩,s1,s2⟩ hg;subst hP hw hK;obtain⟨xs,ys,g1,g2,l1,l2⟩:=hg;obtain⟨its1,r1,q1,z1⟩:=Inv.sx I g1;obtain⟨its2,r2,q2,z2⟩:=Inv.sx I g2;have hh:X.A.in1.handled=none:=I.ok.hd hc;have hT:s.TypeIs (.ref z) "zip":=⟨_,hz,rfl⟩
  unfold pyNext;refine Xp (Yn (X2 (name:=Str.ofString "__next__") hT F.slot_zip_next (X3 F.slot_zip_next hT F.entry_zip_next
   (next_item Ap (nQ (A:=X.A.in1) b1 hh i1 a1 n1 its1.toArray) (nQ (A:=X.A.in1) b2 hh i2 a2 n2 its2.toArray) hz hI hO ⟨s1,q1⟩ ⟨s2,q2⟩ (by rw[Tv,<-r1.length];exact l1) (by rw[Tv,<-r2.length];exact l2) λu v g tk p1 p2 hz' hO' t1 t2 hp sz kp=>?_) (F.args_zip_next_1 _))))
  have e1:its1[i]?=ag u:=by simpa using p1
  have e2:its2[i]?=ag v:=by simpa using p2
  have hx:∃x,xs[i]?=ag x/\RelV x u:=by
   obtain⟨u',hu,ru⟩:=r1.get (i:=i) (x:=xs[i]) (by simp[l1]);rw[e1]at hu;cases hu;exact⟨xs[i],by simp[l1],ru⟩
  have hy:∃y,ys[i]?=ag y/\RelV y v:=by
   obtain⟨u',hu,ru⟩:=r2.get (i:=i) (x:=ys[i]) (by simp[l2]);rw[e2]at hu;cases hu;exact⟨ys[i],by simp[l2],ru⟩
  obtain⟨x,ex,rx⟩:=hx;obtain⟨y,ey,ry⟩:=hy;refine Xo ⟨_,rfl,?_⟩;refine wpAny_letOwnedTupleGo_zip hz' λg' hz2 sb=>?_;have hpz:s.heap.objs.size≠z:=Tr (Wn hz);have hp':Yi g' s.heap.objs.size u v:=sb.extBut _ _ hpz hp;have I':Inv X pins σ (upd H s.heap.objs.size (.tup [x,y])) {s with heap:=g',toks:=tk}:=Inv.turnedL (ch:=[z,TI,TO,i1,i2]) I hf (λc o hc e=>by
   simp only[UH,UI,or_false,not_or]at hc;exact sb.extBut _ _ hc.1 (kp c o hc.1 hc.2.2.1 hc.2.2.2.1 hc.2.2.2.2 e)) (Tt _) ⟨by show 2<=W4;decide,[u,v],.cons rx (.cons ry .nil),_,hp',rfl,_,rfl,rfl⟩
  have fr:H s.heap.objs.size=none:=I.fresh;have ne:∀c∈[z,TI,TO,i1,i2],c≠s.heap.objs.size:=λc hc e=>by
   simp only[UH,UI,or_false]at hc;rcases hc with rfl|rfl|rfl|rfl|rfl
   ·exact hpz e.symm
   ·exact bt (Wn hI) (by rw[e];exact Te _)
   ·exact bt (Wn hO) (by rw[e];exact Te _)
   ·obtain⟨o,q,_⟩:=s1.get;exact bt (Wn q) (by rw[e];exact Te _)
   ·obtain⟨o,q,_⟩:=s2.get;exact bt (Wn q) (by rw[e];exact Te _)
  refine⟨.ref s.heap.objs.size,_,I',rfl,⟨_,x,y,rfl,fr,rfl,λxs' h=>by rw[Inv.sx_inj I h g1];exact ex,λys' h=>by rw[Inv.sx_inj I h g2];exact ey⟩,⟨hz2,?_,⟨u,v,sb.extBut _ _ Ap.a2 hO'⟩,?_,?_⟩,λc hc=>by rw[aL (ne c hc)];exact(hf c hc).1⟩
  ·exact sb.extBut _ _ Ap.a1 (kp TI _ Ap.a1 Ap.a3 Ap.d1 Ap.d2 hI)
  ·exact t1.1.keep λo e=>sb.extBut _ _ n3.symm e
  ·exact t2.1.keep λo e=>sb.extBut _ _ n4.symm e
 done:=by
  rintro X hP hw hK hc i pins s σ H E I hf ⟨hz,hI,⟨a,b,hO⟩,s1,s2⟩ hg;subst hP hw hK;obtain⟨xs,ys,g1,g2,hl⟩:=hg;obtain⟨its1,r1,q1,z1⟩:=Inv.sx I g1;obtain⟨its2,r2,q2,z2⟩:=Inv.sx I g2;have hh:X.A.in1.handled=none:=I.ok.hd hc;have hT:s.TypeIs (.ref z) "zip":=⟨_,hz,rfl⟩
  unfold pyNext;refine Xp (Yn (X2 (name:=Str.ofString "__next__") hT F.slot_zip_next (X3 F.slot_zip_next hT F.entry_zip_next
   (next_end (i:=i) Ap (nQ (A:=X.A.in1) b1 hh i1 a1 n1 its1.toArray) (nQ (A:=X.A.in1) b2 hh i2 a2 n2 its2.toArray) hz hI hO ⟨s1,q1⟩ ⟨s2,q2⟩ (by rw[Tv,Tv,<-r1.length,<-r2.length];exact hl) λg e tk kp he=>?_) (F.args_zip_next_1 _))))
  obtain⟨o,ho,hce⟩:=he;refine Xp (wpAny_isInstance (T:="StopIteration") (b:=true) ⟨o,ho,hce⟩ isSubtype_stop ?_);refine Xo ⟨rfl,Inv.turned0 (ch:=[z,TI,TO,i1,i2]) I hf λc o hc e=>?_⟩;simp only[UH,UI,or_false,not_or]at hc;exact kp c o hc.1 hc.2.2.1 hc.2.2.2.1 hc.2.2.2.2 e
 self:=λ_ _ _ _ _ ⟨hz,_⟩ h=>wpAny_pyIter_zip hz h
noncomputable def IX:D->Option (Bool×List D)
 |.lst xs=>ag (true,xs)
 |.tup xs=>ag (false,xs)
 |.kt xs=>ag (false,xs.map .str)
 |_=>am
theorem kx{K:VC}{H:Hp}:∀xs:af,aY K H (xs.map D.str) (xs.map V.str)
 |[]=>cZ.mpr rfl
 |x::xs=>bP.mpr ⟨_,_,rfl,eM.mpr rfl,kx xs⟩
def vM{K:VC}{H:Hp}{d:D}{b:Bool}{xs:List D}{v:V}(e:IX d=ag (b,xs))(h:dS K H d v):∃a vs,v=.ref a/\SX K b H a vs/\aY K H xs vs:=by
 cases d with
 |lst ys=>cases e;exact cS.mp h
 |tup ys=>cases e;obtain⟨a,vs,e1,e2,e3⟩:=cP.mp h;exact⟨a,vs,e1,lW.of e2,e3⟩
 |kt ys=>cases e;obtain⟨a,e1,e2⟩:=QI.mp h;exact⟨a,ys.map .str,e1,show lW K H a _ from .inr e2,kx ys⟩
 |_=>cases e
noncomputable def iL:List D->List D->List D
 |x::xs,y::ys=>.tup [x,y]::iL xs ys
 |_,_=>[]
theorem ni:∀xs ys:List D,(iL xs ys).length=min xs.length ys.length
 |[],_=>by simp[iL]
 |_::_,[]=>by simp[iL]
 |x::xs,y::ys=>by
  rw[iL,Tw,ni xs ys,Tw,Tw];omega
theorem vh:∀{xs ys:List D}{i:Nat}{d:D},(iL xs ys)[i]?=ag d->∃x y,xs[i]?=ag x/\ys[i]?=ag y/\d=.tup [x,y]
 |[],_,i,d,h=>by simp[iL]at h
 |_::_,[],i,d,h=>by simp[iL]at h
 |x::xs,y::ys,0,d,h=>by
  rw[iL,List.getElem?_cons_zero]at h;cases h;exact⟨x,y,rfl,rfl,rfl⟩
 |x::xs,y::ys,i+1,d,h=>by
  rw[iL,UJ]at h;obtain⟨a,b,h1,h2,h3⟩:=vh h;exact⟨a,b,by rw[UJ];exact h1,by rw[UJ];exact h2,h3⟩
def Fz{K:VC}{Hd:Hp}{b1 b2:Bool}{a1 a2:WW}{ds es:List D}{vs ws:aN}(h1:SX K b1 Hd a1 vs)(g1:aY K Hd ds vs)(h2:SX K b2 Hd a2 ws)(g2:aY K Hd es ws):Walk K Hd (Rr K b1 b2 a1 a2) (iL ds es):=λHn O' i hO sm=>
  have s':aO Hd Hn:=sm.trans (aP Hn O')
  ⟨fun d e=>by
    obtain⟨x,y,e1,e2,rfl⟩:=vh e;have l1:i<ds.length:=(List.getElem?_eq_some_iff.mp e1).1;have l2:i<es.length:=(List.getElem?_eq_some_iff.mp e2).1;obtain⟨v,ev,dv⟩:=g1.get e1;obtain⟨w,ew,dw⟩:=g2.get e2;refine⟨⟨vs,ws,h1.same s',h2.same s',by rw[<-g1.length];exact l1,by rw[<-g2.length];exact l2⟩,λu H2 Z=>Z.e λp Z=>Z.e λx' Z=>Z.e λy' Z=>Z.e λeu Z=>Z.e λhp Z=>Z.e λeH Z=>Z.e λq1 q2=>?_⟩;have z1:=q1 vs (h1.same s');rw[ev]at z1;cases z1;have z2:=q2 ws (h2.same s');rw[ew]at z2;cases z2;subst eH eu;exact⟨dr hp _,fU hO hp (bP.mpr ⟨v,_,rfl,dv.mono sm,bP.mpr ⟨w,_,rfl,dw.mono sm,cZ.mpr rfl⟩⟩)⟩,
   λhl=>by
    rw[ni]at hl;refine⟨vs,ws,h1.same s',h2.same s',?_⟩;rw[<-g1.length,<-g2.length]
    omega⟩
def EW:List D->Option (List D)
 |[a,b]=>(IX a).bind λx=>(IX b).bind λy=>ag (iL x.2 y.2)
 |_=>am
def xS(f:aQ):aQ:=λρ=>(f ρ).bind λds=>rO (EW ds)
section
variable{X:Cx}
def MI{a b c:WW}(h1:a≠b)(h2:a≠c):a∉[b,c]:=λh=>by
 rcases List.mem_cons.mp h with z|z
 ·exact h1 z
 ·exact h2 (List.mem_singleton.mp z)
def Bx{n a1 a2:WW}(h1:a1<n)(h2:a2<n):Apart (n+4) (n+2) (n+3) n (n+1) [n,a1] [n+1,a2]:=by
 have lt:∀{a b:Nat},a<b->(b:WW)≠(a:WW):=λh=>Tr h;have lt':∀{a b:Nat},a<b->(a:WW)≠(b:WW):=λh=>Tf h;have g:∀k:Nat,a1<n+k:=λk=>Td h1 (UK _ _);have g':∀k:Nat,a2<n+k:=λk=>Td h2 (UK _ _);have p:∀{j k:Nat},j<k->n+j<n+k:=λh=>UL h n;have p0:∀{k:Nat},0<k->n<n+k:=λh=>UM h;exact⟨lt' (p (by decide)),lt' (p (by decide)),lt' (p (by decide)),MI (lt (p0 (by decide))) (lt (g 4)),MI (lt (p0 (by decide))) (lt (g 3)),MI (lt (p0 (by decide))) (lt (g 1)),
  MI (lt (p (by decide))) (lt (g' 4)),MI (lt (p (by decide))) (lt (g' 3)),MI (lt' (p0 (by decide))) (lt h2),lt (p0 (by decide)),lt (p (by decide)),Tj,Tj⟩
def K6{pins:bg}{s:WZ}{σ:St}{H:Hp}{O:aD}{es:aS}{k:Nat}{tpos:Pos}{ds r:List D}{vs:aN}{us:bA}{RR:It->Hp->Prop}(I:Inv X pins σ H s)(hc:EW ds=ag r)(d1:aY X.K (hid H O) ds vs)(rv:Vals vs us)(q:∀J,Walk X.K (hid H O) J r->RR J H):
  Xa (model X.prog X.w) X.A (call (.type "zip") us) (λv s1=>Xa (model X.prog X.w) X.A (pyIter v) (PIE X pins σ (.Tuple es k tpos) RR) X.xe s1) X.xe s:=by
 unfold EW at hc;split at hc
 ·rename_i a b;obtain⟨⟨b1,xs⟩,e1,hc⟩:=bind_some hc;obtain⟨⟨b2,ys⟩,e2,hc⟩:=bind_some hc;cases hc;obtain⟨va,vb,rfl,da,db⟩:=d1.two;obtain⟨u1,u2,rfl,r1,r2⟩:=vals2 rv;obtain⟨a1,ws1,rfl,x1,y1⟩:=vM e1 da;obtain⟨a2,ws2,rfl,x2,y2⟩:=vM e2 db;cases r1;cases r2;obtain⟨its1,rr1,q1,_⟩:=Inv.sx I (x1.same (aP H O));obtain⟨its2,rr2,q2,_⟩:=Inv.sx I (x2.same (aP H O));refine CP q1 q2 λg hz hI hO s1 s2 kp=>wpAny_pyIter_zip hz ?_;have Ap:=Bx q1.lt q2.lt;refine⟨_,_,_,_,H,rfl,I.kept (t':=s.toks) kp,Gc (b1:=b1) (b2:=b2) Ap (Tf q1.lt) (Tf (Td q2.lt (UK _ 1))) (Tr (UM (by decide))) (Tr (UL (by decide) _)),⟨hz,hI,⟨_,_,hO⟩,s1,s2⟩,λb hb=>?_,q _ (Fz x1 y1 x2 y2)⟩;have le:s.heap.objs.size<=b:=by
   simp only[UH,UI,or_false]at hb;rcases hb with rfl|rfl|rfl|rfl|rfl
   ·exact UK _ _
   ·exact UK _ _
   ·exact UK _ _
   ·exact Tt _
   ·exact UK _ _
  exact I.fpOk le (I.hok.fresh le)
 ·cases hc
end
noncomputable def J7(i:Nat):List D->List D
 |[]=>[]
 |x::xs=>.tup [.int i,x]::J7 (i+1) xs
def JG:List D->Option (List D)
 |[a]=>(IX a).bind λx=>ag (J7 0 x.2)
 |_=>am
def xF(f:aQ):aQ:=λρ=>(f ρ).bind λds=>rO (JG ds)
end
section
variable[ay]
def aC{K:VC}{c:Str}{C C':WW}(h:clsAt K c C)(h':clsAt K c C'):C=C':=by
 unfold clsAt at h h';rw[h]at h';cases h';rfl
theorem qc{K:VC}{H:Hp}{f:Str}:∀{fs:af}{ds:List D}{vs:aN}{d:D},aY K H ds vs->(fs.zip ds).lookup f=ag d->∃v,(fs.zip vs).lookup f=ag v/\dS K H d v
 |[],_,_,_,_,e=>by simp at e
 |_::_,[],_,_,_,e=>by simp at e
 |g::fs,x::ds,vs,d,h,e=>by
  rw[bP]at h;obtain⟨v,r,rfl,h1,h2⟩:=h;rw[UN,Ub]at e ⊢;cases hg:f==g with
  |true=>rw[hg]at e;cases e;exact⟨v,rfl,h1⟩
  |false=>rw[hg]at e;exact qc h2 e
theorem rR{f:Str}:∀{fs:af}{vs:aN},fs.contains f=false->(fs.zip vs).lookup f=am
 |[],_,_=>by simp
 |_::_,[],_=>by simp
 |g::fs,x::vs,h=>by
  rw[UO,UP]at h;rw[UN,Ub,h.1];exact rR h.2
def bV(f:Str)(cs:af)(d:D):bE:=match d with
 |.obj c fs vs=>if cs.contains c then(fs.zip vs).lookup f else am
 |_=>am
def bB(K:VC)(f:Str)(cs:af):Prop:=∀c∈cs,∀C,clsAt K c C->iU K C/\dN K C f
section
variable{X:Cx}{a o e:WX}{es:aS}{fa fo:FX}{fas:aQ}{f m x:Str}{cs:af}{pos apos p:Pos}{k k':Nat}{ps:af}
def MethAt(P:W1)(w:W0)(K:VC)(mg:bN)(base:W3)(k:Nat)(c m:Str)(ps:af)(g:cM):Prop:=
 ∃C f fd,clsAt K c C/\iU K C/\Meth K C m f/\fw P w K mg base (gj P w) k f fd ps (Bc K ps.length g)/\Binds K fd ps []
def iY(m:Str)(tbl:List (Str×(cM)))(fo:FX)(fas:aQ):FX:=λρ=>(fo ρ).bind λo=>match o with
 |.obj c fs vs=>match tbl.lookup c with
  |some g=>if fs.contains m then un else(fas ρ).bind λas=>g (o::as)
  |none=>un
 |_=>un
def pE(P:W1)(w:W0)(K:VC)(mg:bN)(base:W3)(k:Nat)(m:Str)(ps:af)(tbl:List (Str×(cM))):Prop:=
 ∀c g,tbl.lookup c=ag g->MethAt P w K mg base k c m ps g/\Ar ps.length g
def Hm{P:W1}{w:W0}{K:VC}{mg:bN}{base:W3}:pE P w K mg base k m ps []:=λ_ _ h=>nomatch h
def Gf{P:W1}{w:W0}{K:VC}{mg:bN}{base:W3}{c:Str}{g:cM}{tbl:List (Str×(cM))}(h:MethAt P w K mg base k c m ps g)(hn:Ar ps.length g)(t:pE P w K mg base k m ps tbl):pE P w K mg base k m ps ((c,g)::tbl):=λc' g' e=>by
 rw[Ub]at e;cases hc:c'==c with
 |true=>
  rw[hc]at e;cases e
  have:c'=c:=by simpa using hc
  subst this;exact⟨h,hn⟩
 |false=>rw[hc]at e;exact t c' g' e
theorem MethAt.mono{P:W1}{w:W0}{K:VC}{mg:bN}{base:W3}{c:Str}{g:cM}(h:MethAt P w K mg base k c m ps g)(hk:k<=k'):MethAt P w K mg base k' c m ps g:=by
 obtain⟨C,f,fd,h1,h2,h3,h4,h5⟩:=h;exact⟨C,f,fd,h1,h2,h3,h4.mono hk,h5⟩
def w6{tbl:List (Str×(cM))}{args:aS}{pl:Sem Bool}(tb:pE X.prog X.w X.K X.mg X.base k m ps tbl)(hr:dG k X.A)(ho:FE X o fo)
  (hc:∀ (pins:bg) (s1:WZ) (σ:St) (H1:Hp) (O:aD) (ρ:aq) (a f:WW) (od:D) (Q:VK) (g:cM) (fd:XD) (w0:V),VY X.K (.ref f)=true->fw X.prog X.w X.K X.mg X.base (gj X.prog X.w) k f fd ps (Bc X.K ps.length g)->Binds X.K fd ps []->Ar ps.length g->Inv X pins σ H1 s1->dy X.K O H1 ρ σ->dS X.K (hid H1 O) od (.ref a) ->
   (eQ X σ O H1 ((fas ρ).bind λas=>g (od::as)) λd=>∀v H',aO H1 H'->dS X.K (hid H' O) d v->Q v H')->
   Xa (model X.prog X.w) X.A (Xy pos (.ref f) [.ref a] (backTo pos (Xb args X.env)) (backToKw pos (Xz [] X.env))) (EP X pins σ Q) X.xe s1)
  (ht:eval (.Call (.Attribute o m apos) args [] pos) X.env=(do
   let ov<-eval o X.env
   standAt apos.atName
   let (f,first)<-holding [ov] (getMethod ov m pl)
   Xy pos f first (backTo pos (Xb args X.env)) (backToKw pos (Xz [] X.env)))):
  FE X (.Call (.Attribute o m apos) args [] pos) (iY m tbl fo fas):=by
 rintro pins s σ H Q I ⟨O,ρ,E,hF⟩;refine wA ho I ?_ ht;refine⟨O,ρ,E,(eQ.bind hF).imp λd hF v H1 s1 d1=>?_⟩;cases d with
 |obj c fs vs=>
  have hF':eQ X σ O H (match tbl.lookup c with|some g=>if fs.contains m then un else(fas ρ).bind λas=>g (.obj c fs vs::as)|none=>un) _:=hF;cases hg:tbl.lookup c with
  |none=>rw[hg]at hF';exact hF'.elim
  |some g=>
   rw[hg]at hF';have hF2:eQ X σ O H (if fs.contains m then un else(fas ρ).bind λas=>g (.obj c fs vs::as)) _:=hF';cases hm:fs.contains m with
   |true=>rw[hm]at hF2;exact hF2.elim
   |false=>
    rw[hm]at hF2;have hF3:eQ X σ O H ((fas ρ).bind λas=>g (.obj c fs vs::as)) _:=hF2;have d0:=d1;obtain⟨a,ws,ev,g1,g2,C,dx,g3,g4⟩:=OV.mp d1;obtain⟨⟨C',f,fd,m1,m2,m3,m4,m5⟩,ar⟩:=tb c g hg;have eC:=aC g3 m1;subst eC;subst ev;refine⟨a,C,dx,_,f,rfl,aP H1 O _ _ g4,m2,m3,rR hm,λs2 I2=>?_⟩;exact hc pins s2 σ H1 O ρ a f _ Q g fd (.ref a) m3.kp m4 m5 ar I2 (E.same s1) d0 ((hF3.mono s1).imp λd q v H2 s2 d2=>q v H2 (s1.trans s2) d2)
 |_=>exact hF.elim
def kd{σ:St}{O:aD}{H:Hp}{g:cM}{ds:List D}{vs:aN}{Q:VK}{n:Nat}(ar:Ar n g)(hO:dZ H O)(d1:aY X.K (hid H O) ds vs)(h:eQ X σ O H (g ds) λd=>∀v H',aO H H'->dS X.K (hid H' O) d v->Q v H'):∃E,hX (gj X.prog X.w) X σ E/\Bc X.K n g vs H Q E:=by
 cases hg:g ds with
 |ok d=>
  rw[hg]at h;refine⟨E0,kO,O,ds,by rw[<-d1.length];exact ar ds (by rw[hg];intro z;cases z),hO,d1,?_⟩;rw[hg];exact h
 |error z=>
  rw[hg]at h;cases z with
  |none=>exact h.elim
  |some x=>
   refine⟨sC X O H x,kH h,O,ds,by rw[<-d1.length];exact ar ds (by rw[hg];intro z;cases z),hO,d1,?_⟩;rw[hg];exact pV
def Bz{P:W1}{w:W0}{K:VC}{mg:bN}{base:W3}{c y qual:Str}{C f:WW}{fd:XD}{st:WY}{N:af}{B:bz}(h1:clsAt K c C)(h2:iU K C)(h3:Meth K C m f)(F:kc K y qual st f fd)(b:Binds K fd ps [])(SC:bp N ps (ak st))(hb:BodyOk P w K mg base k N qual st f B):
  MethAt P w K mg base (k+1) c m ps (az B ps.length N.length):=⟨C,f,fd,h1,h2,h3,ui F SC hb,b⟩
def SA(C:WW)(fs:af):Sp:=λvs H Q _=>∃x dx as,vs=.ref x::as/\as.length=fs.length/\H x=ag (.ins C dx [])/\Q .non (upd H x (.ins C dx (fs.zip as)))
def cz(P:W1)(w:W0)(K:VC)(mg:bN)(base:W3)(k:Nat)(c:Str)(ps fs:af):Prop:=
 ∃C f fd,clsAt K c C/\Mk K C f/\fw P w K mg base (gj P w) k f fd ps (SA C fs)/\Binds K fd ps []/\mg c=ag (.ref C)
def fNew(c:Str)(fs:af)(fas:aQ):FX:=λρ=>(fas ρ).bind λas=>if as.length=fs.length then .ok (.obj c fs as)else un
def ju{K:VC}{H1:Hp}{O:aD}{c:Str}{fs:af}{as:List D}{vs:aN}{C x dx:WW}(hc:clsAt K c C)(hl:as.length=fs.length)(d1:aY K (hid H1 O) as vs)(hO:dZ H1 O)(hx:H1 x=am)(hd:H1 dx=am)(ne:dx≠x):
  aO H1 (upd (upd (upd H1 dx (.own x)) x (.ins C dx [])) x (.ins C dx (fs.zip vs)))/\dS K (hid (upd (upd (upd H1 dx (.own x)) x (.ins C dx [])) x (.ins C dx (fs.zip vs))) O) (.obj c fs as) (.ref x):=by
 have sm:aO H1 (upd (upd (upd H1 dx (.own x)) x (.ins C dx [])) x (.ins C dx (fs.zip vs))):=λb o h=>by
  have n1:=aT h hx;have n2:=aT h hd;rw[aL n1,aL n1,aL n2];exact h
 exact⟨sm,OV.mpr ⟨x,vs,rfl,d1.mono (ck sm),by rw[<-d1.length,hl],C,dx,hc,by rw[kC (hO.not hx),bu]⟩⟩
def Ka{X:Cx}:xO (gj X.prog X.w) X E0:=λ_ _ _ _ _ _ _ h=>by
 obtain⟨_,_,_,_,_,_,_,_,_,_,_,_,_,_,z⟩:=h;exact z.elim
theorem pX(f:Str)(v:V):∀{fs:List (Str×V)},(fs.map (·.1)).contains f=false->jb f v fs=fs++[(f,v)]
 |[],_=>rfl
 |(g,w)::fs,h=>by
  rw[Tx,UO,UP]at h;have ne:¬g=f:=λz=>by
   have:=h.1
   rw[z]at this;simp at this
  have:=pX f v (fs:=fs) h.2
  unfold jb;simp only[ne,if_false,this,Ue]
def Ad(X:Cx)(cs:af)(body:cU)(fs:af)(i:Nat):Prop:=
 ∃t,qW X body t/\∀(D:Ends)(σ:St)(H:Hp)(x dx C:WW)(done:List (Str×V))(as:aN),σ[0]?=ag (ag (.ref x))->(∀j v,as[j]?=ag v->σ[i+j]?=ag (ag v))->as.length=fs.length->iU X.K C->(∀f∈fs,dN X.K C f)->done.length+fs.length<1000->(done.map (·.1)++fs).Nodup->H x=ag (.ins C dx done)->
  D.nx σ (upd H x (.ins C dx (done++fs.zip as)))->t D σ H
def dB{st:WY}{f:Str}{i:Nat}{o v:WX}{p1 p2:Pos}(hst:st=.Assign [.Attribute o f p1] v p2)(ho:PE X o (qR 0))(hv:PE X v (qR i))(hs:swapsWith v (ag (.Attribute o f p1)) p2.line X.env=pure false):Ad X cs [st] [f] i:=by
 subst hst;refine⟨_,tK (Ew ho hv hs),λD σ H x dx C done as h0 ha hl cl na hz nd hx q=>?_⟩;obtain⟨a,rfl⟩:∃a,as=[a]:=by
  match as,hl with
  |[a],_=>exact⟨a,rfl⟩
 refine⟨a,ha 0 a rfl,.ref x,h0,x,C,dx,done,rfl,hx,cl,na f (List.mem_singleton.mpr rfl),by simp at hz;omega,?_⟩;rw[pX f a (by
  have:=nd
  rw[UQ]at this;have h3:=this.2.2;cases hc:(done.map (·.1)).contains f with
  |false=>rfl
  |true=>exact bt rfl (h3 f (List.contains_iff_mem.mp hc) f (List.mem_singleton.mpr rfl)))]
 exact q
def cp{st:WY}{rest:cU}{f:Str}{fs:af}{i:Nat}{o v:WX}{p1 p2:Pos}(hst:st=.Assign [.Attribute o f p1] v p2)(ho:PE X o (qR 0))(hv:PE X v (qR i))(hs:swapsWith v (ag (.Attribute o f p1)) p2.line X.env=pure false)(hr:Ad X cs rest fs (i+1)):Ad X cs (st::rest) (f::fs) i:=by
 subst hst;obtain⟨t,ht,hq⟩:=hr;refine⟨_,pM (Ew ho hv hs) ht,λD σ H x dx C done as h0 ha hl cl na hz nd hx q=>?_⟩;obtain⟨a,as,rfl⟩:∃a r,as=a::r:=by
  match as,hl with
  |a::r,_=>exact⟨a,r,rfl⟩
 have hno:(done.map (·.1)).contains f=false:=by
  have:=nd
  rw[UQ]at this;have h3:=this.2.2;cases hc:(done.map (·.1)).contains f with
  |false=>rfl
  |true=>exact bt rfl (h3 f (List.contains_iff_mem.mp hc) f Tj)
 refine⟨a,ha 0 a rfl,.ref x,h0,x,C,dx,done,rfl,hx,cl,na f Tj,by simp at hz;omega,?_⟩;rw[pX f a hno];refine hq D σ _ x dx C (done++[(f,a)]) as h0 (λj v e=>?_) (by simpa using hl) cl (λg hg=>na g (Tl _ hg)) (by simp at hz ⊢;omega) (by simpa [UC]using nd) (by rw[bu]) ?_
 ·have:=ha (j+1) v (by simpa using e)
  rw[show i+1+j=i+(j+1)by omega];exact this
 ·rw[yM,UC];exact q
def dC{P:W1}{w:W0}{K:VC}{mg:bN}{base:W3}{c qual:Str}{C f:WW}{fd:XD}{st:WY}{fs:af}(h1:clsAt K c C)(hM:Mk K C f)(cl:iU K C)(na:∀g∈fs,dN K C g)(F:kc K "__init__" qual st f fd)(b:Binds K fd ps [])(hmg:mg c=ag (.ref C))(SC:bp ps ps (ak st))(hps:ps.length=fs.length+1)(hnd:fs.Nodup)(hlen:fs.length<1000)
  (hb:∀(cdv:WU)(A:W7)(outer:List Env)(s:WZ)(H:Hp)(E:XK),Ad (ef O7 P w K mg base ps qual (ak st) f cdv A outer s H E).nox [] (cO st) fs 1):cz P w K mg base (k+1) c ps fs:=by
 refine⟨C,f,fd,h1,hM,?_,b,hmg⟩;refine fw.any (F.ok SC (λvs H Q E h=>?_) λcdv A outer s H vs Q E hr h=>?_)
 ·obtain⟨x,dx,as,rfl,hl,_⟩:=h;rw[Tw,hl,hps]
 ·obtain⟨t,ht,hq⟩:=hb cdv A outer s H E;obtain⟨x,dx,as,rfl,hl,hx,q⟩:=h;have hst:L2.start ps (.ref x::as)=(.ref x::as).map some:=by
   unfold L2.start;rw[Tw,hl,hps,UR,UT,TJ]
  refine⟨t,ht,hq _ _ H x dx C [] as (by rw[hst];rfl) (λj v e=>?_) hl cl na (by simpa using hlen) (by simpa using hnd) hx q⟩;rw[hst,Nat.add_comm,Tx,UJ,TV,e];rfl
end
section
variable{X:Cx}
def jq:List D->Option (af)
 |[]=>ag []
 |.str x::r=>(jq r).bind λys=>ag (x::ys)
 |_=>am
theorem mU:∀{ds:List D}{ys:af},jq ds=ag ys->ds=ys.map .str
 |[],ys,h=>by cases h;rfl
 |d::ds,ys,h=>by
  cases d with
  |str x=>
   have h':(jq ds).bind (λys=>ag (x::ys))=ag ys:=h;cases e:jq ds with
   |none=>rw[e]at h';cases h'
   |some zs=>
    rw[e]at h';cases h';rw[mU e];rfl
  |_=>cases h
theorem mH{K:VC}{H:Hp}:∀{ys:af}{vs:aN},aY K H (ys.map .str) vs->vs=ys.map .str
 |[],vs,h=>cZ.mp h
 |y::ys,vs,h=>by
  obtain⟨v,r,rfl,h1,h2⟩:=bP.mp h;rw[eM.mp h1,mH h2];rfl
theorem sS:∀{ys:af}{its:bA},Vals (ys.map .str) its->PyProof.Rows.StrsAre its ys
 |[],_,.nil=>.nil
 |y::ys,_,.cons h t=>by
  obtain⟨t',rfl⟩:=h;exact .cons y t' (sS t)
def rJoin(K:VC):V->aN->Hp->VK->Prop:=λx xs H Q=>∃z l ys,x=.str z/\xs=[.ref l]/\km K H l (ys.map V.str)/\(ys.map (λy=>y.length)).sum+ys.length*z.length<=100000/\Q (.str (Txt.join z ys)) H
def HB:MK X "str.join" (rJoin X.K):=by
 rintro pins s σ H x xs v us Q I rx rs ⟨z,l,ys,ex,exs,hl,hz,q⟩;subst ex exs;obtain⟨t,rfl⟩:=rx;obtain⟨u,rfl⟩:∃u,us=[u]:=by
  cases rs with
  |cons _ t=>cases t;exact⟨_,rfl⟩
 have ru:RelV (.ref l) u:=by cases rs with|cons h _=>exact h
 cases ru;obtain⟨its,r,ht,_⟩:=I.list hl;exact PyProof.Rows.join_list ht.isList (sS r) ‹0› λt' k=>⟨.str _,H,I.tok _,⟨_,rfl⟩,q⟩
noncomputable def KG:D->Option Str
 |.str z=>ag z
 |_=>am
def tH{K:VC}{H:Hp}{d:D}{z:Str}{v:V}(e:KG d=ag z)(h:dS K H d v):v=.str z:=by
 cases d with
 |str y=>cases e;exact eM.mp h
 |_=>cases e
def D9(z:Str)(as:List D):bE:=match as with
 |[.lst xs]=>(jq xs).bind λys=>if small ((ys.map (λy=>y.length)).sum+ys.length*z.length)then ag (.str (Txt.join z ys))else am
 |_=>am
def zc(f:FX)(g:aQ):FX:=λρ=>(f ρ).bind λa=>(rO (KG a)).bind λz=>(g ρ).bind λds=>rO (D9 z ds)
def sJ{K:VC}{H:Hp}{O:aD}{z:Str}{ds:List D}{d:D}{vs:aN}{Q:VK}(hg:D9 z ds=ag d)(hd:aY K (hid H O) ds vs)(q:∀v,dS K (hid H O) d v->Q v H):rJoin K (.str z) vs H Q:=by
 unfold D9 at hg;split at hg
 ·rename_i xs;cases e:jq xs with
  |none=>rw[e]at hg;cases hg
  |some ys=>
   rw[e]at hg;obtain⟨h1,h2⟩:=bQ hg;subst h2;obtain⟨v,ev,h1'⟩:=hd.one;obtain⟨l,ws,el,hl,hw⟩:=cS.mp h1';rw[mU e]at hw;rw[mH hw]at hl;exact⟨z,l,ys,rfl,by rw[ev,el],(aP H O).seq hl,cr h1,q _ (eM.mpr rfl)⟩
 ·cases hg
def QB(a b:D):bE:=match a,b with
 |.bl c,.bl d=>ag (.bl (c==d))
 |_,_=>am
def Ju(a b:D):bE:=match a,b with
 |.bl c,.bl d=>ag (.bl (!(c==d)))
 |_,_=>am
end
structure Rt(K:VC)(C:WW):Prop where
 makes:VO K C=true
 init:VG K (.ref C) "__init__"=ag (ag (.builtin "object.__init__"))
 kp:VY K (.ref C)=true
section
variable{X:Cx}{C:WW}{pins:bg}{σ:St}{H:Hp}{s:WZ}{Q:VK}
def run_plain(M:Rt X.K C)(I:Inv X pins σ H s)(h:∀x dx,H x=am->H dx=am->dx≠x->Q (.ref x) (upd (upd H dx (.own x)) x (.ins C dx []))):
  Xa (model X.prog X.w) X.A (call (.ref C) []) (EP X pins σ Q) X.xe s:=by
 have hq:=h (s.heap.objs.size+1) s.heap.objs.size (I.hok.fresh (TK _)) (I.hok.fresh (Tt _)) (Tf (TF _));have I2:=Inv.made (C:=C) I;have e1:((s.heap.push VR).push (VA C s.heap.objs.size)).get? (s.heap.objs.size+1)=ag (VA C s.heap.objs.size):=by
  have:=Wm (s.heap.push VR) (o:=VA C s.heap.objs.size) rfl
  rwa [Wq]at this
 have hb:∀self,VX (model X.prog X.w) s.heap (bindSpecial (.builtin "object.__init__") self) (.builtin "object.__init__",[self]):=λself=>PySem.W.Looks.of_pure (PySem.W.oi_bind self);refine XH (BO I.kIn M.makes M.init hb ?_);have h3:VX (model X.prog X.w) ((s.heap.push VR).push (VA C s.heap.objs.size)) (isInstance (.ref (s.heap.objs.size+1)) (.type "object")) true:=by
  have h4:VX (model X.prog X.w) ((s.heap.push VR).push (VA C s.heap.objs.size)) (typeOf (.ref (s.heap.objs.size+1))) (.ref C):=PySem.W.Looks.andThen (PySem.W.Looks.ld e1) PySem.W.Looks.now;exact PySem.W.Looks.andThen h4 (((VV I.kIn M.makes).top).keeps λb o q=>Wp _ (Wp _ q))
 refine Yo (b:=Builtin.«object.__init__») PySem.W.oi_plain PySem.W.entry_oi ?_;have ha:argsOk "object.__init__" {pos:=[Value.ref (s.heap.objs.size+1)],kw:=[]}:=PySem.W.oi_args _;refine PySem.W.check_slot (i:="object.__init__") (owner:="object") (n:="__init__") (self:=Value.ref (s.heap.objs.size+1)) (rest:=[]) (kw:=[]) PySem.W.oi_kind PySem.W.oi_split h3 ha ?_;rw[PySem.W.oi_run];exact Xo ⟨rfl,V.ref (s.heap.objs.size+1),_,I2,rfl,hq⟩
def DX(K:VC)(mg:bN)(c:Str):Prop:=∃C,clsAt K c C/\Rt K C/\mg c=ag (.ref C)
noncomputable def anyB:List D->Option Bool
 |[]=>ag false
 |.bl b::r=>(anyB r).bind λc=>ag (b||c)
 |_=>am
def HL:List D->bE
 |[.lst xs]=>(anyB xs).bind λb=>ag (.bl b)
 |_=>am
theorem vK:∀{xs:List D}{b:Bool},anyB xs=ag b->∃bs:List Bool,xs=bs.map .bl/\b=bs.any id
 |[],b,h=>by cases h;exact⟨[],rfl,rfl⟩
 |d::r,b,h=>by
  cases d with
  |bl x=>
   obtain⟨c,e1,e2⟩:=bind_some (show((anyB r).bind λc=>ag (x||c))=ag b from h);cases e2;obtain⟨bs,e3,e4⟩:=vK e1;exact⟨x::bs,by rw[Tx,e3],by rw[UU,e4];rfl⟩
  |_=>cases h
def range_any(bs:List Bool):((List.range bs.length).any λi=>(bs[i]?).getD false)=bs.any id:=by
 induction bs with
 |nil=>rfl
 |cons b bs ih=>
  rw[Tw,Ul,UU,List.any_map,UU,<-ih];rfl
def AQ(hc:X.calm=true):fW X (.builtin "any") (Jf X.K HL):=by
 rintro pins s σ H xs us Q I r ⟨O,ds,d,hO,hd,hg,q⟩;unfold HL at hg;split at hg
 ·rename_i ys;obtain⟨bv,e1,e2⟩:=bind_some hg;cases e2;obtain⟨bs,eb,ev⟩:=vK e1;subst eb ev;obtain⟨v,evv,h1⟩:=hd.one;subst evv;obtain⟨p,vs,ep,g1,g2⟩:=cS.mp h1;subst ep;obtain⟨u,eu,ru⟩:=vals1 r;subst eu;cases ru;obtain⟨its,rv,pl,hz⟩:=I.list ((aP H O).seq g1);have ei:=ka g2 rv;have hl:=pl.isList;have hlt:p<s.heap.objs.size:=by obtain⟨_,e,_⟩:=hl;exact Wn e
  refine call_any_walk (Xq hl ?_);refine⟨s.heap.objs.size,[s.heap.objs.size,p],[s.heap.objs.size],its.toArray.size,_,_,λi=>(bs[i]?).getD false,rfl,Walks.list (A:=X.A.in1) (I.ok.hd hc) _ p (Tf hlt) its.toArray,
   ⟨⟨_,Wm _ rfl,rfl,rfl⟩,hl.push _⟩,λi v s' Q' E' hP hQ=>?_,λh' tk hk=>?_⟩
  ·have e:bs[i]?.map Value.bool=ag v:=by
    rw[<-TV,<-ei]
    simpa using hP
   cases eb:bs[i]? with
   |none=>rw[eb]at e;cases e
   |some b=>
    rw[eb]at e;cases e;simp only[eb,UE]at hQ;exact Xi hQ
  ·have e:((List.range its.toArray.size).any λi=>(bs[i]?).getD false)=bs.any id:=by
    have:its.toArray.size=bs.length:=(by rw[Tv,ei,Tz]);rw[this];exact range_any bs
   rw[e];have k:∀b x,s.heap.get? b=ag x->h'.get? b=ag x:=λb x e=>hk b x (λhm=>by rw[List.mem_singleton.mp hm]at e;exact Te _ (Wn e)) (Wp _ e);exact⟨.bl _,H,I.kept k,rfl,q _ H (aO.refl H) (iu.mpr rfl)⟩
 ·cases hg
end
open PyProof.Rows
noncomputable def wC:List D->List D->Option Bool
 |[],[]=>ag false
 |[],_::_=>ag true
 |_::_,[]=>ag false
 |a::as,b::bs=>match a,b with
  |.int i,.int j=>if i=j then wC as bs else ag (decide (i<j))
  |.str x,.str y=>if x=y then wC as bs else ag (decide (x.cps.toList<y.cps.toList))
  |_,_=>am
inductive hZ:bA->List D->Prop where
 |nil:hZ [] []
 |int (i:Int) (t:Tok) {vs:bA} {ds:List D} (h:hZ vs ds):hZ (.int i t::vs) (.int i::ds)
 |str (x:Str) (t:Tok) {vs:bA} {ds:List D} (h:hZ vs ds):hZ (.str x t::vs) (.str x::ds)
theorem hZ.length{vs:bA}{ds:List D}(h:hZ vs ds):vs.length=ds.length:=by
 induction h with
 |nil=>rfl
 |int _ _ _ ih=>rw[Tw,Tw,ih]
 |str _ _ _ ih=>rw[Tw,Tw,ih]
def NE(A:W7)(s:WZ)(a:Int)(t:Tok)(c:Int)(u:Tok):∃e,SeqAt.EqAt A s (.int a t) (.int c u) e/\(e=true↔a=c):=
 ⟨(a==c),SeqAt.EqAt.int_int a t c u,by simp⟩
def M6(A:W7)(s:WZ)(a:Str)(t:Tok)(c:Str)(u:Tok):∃e,SeqAt.EqAt A s (.str a t) (.str c u) e/\(e=true↔a=c):=
 ⟨(a==c),SeqAt.EqAt.str_str a t c u,by simp⟩
def Ny(A:W7)(s:WZ)(a:Str)(t:Tok)(c:Str)(u:Tok)(prog:W1)(w:W0)(E:bI)(Q:bI)(h:Q (.bool (decide (a.cps.toList<c.cps.toList))) s):
  Xa (model prog w) A (richCompare .Lt (.str a t) (.str c u)) Q E s:=
 (PySem.P.lt_str h:Xa (model prog w) A (Xg .Lt (.str a t) (.str c u)) Q E s)
section
open PySem.SeqAt
open PySem.AutoSeq1 (wpAny_loadPart')
open PySem.MeetsSeq PySem.MeetsSeq2 PySem.MeetsSeq3
set_option maxHeartbeats 1000000 in
def qY(l b:WW)(items items2:Array WU)(n n2:Nat)(dd dd2:Option WW)(sl sl2:Array (Option WU))(ns ms:List D)(r:Bool)(hi:hZ items.toList ns)(hj:hZ items2.toList ms)(hr:wC ns ms=ag r):
  Meets (Builtin.«tuple.__lt__» ⟨[.ref l,.ref b],[]⟩)
   (fun _ R s=>s.heap.get? l=ag { cls:=.type "tuple",dict:=dd,data:=.seq items n,slots:=sl }/\s.heap.get? b=ag { cls:=.type "tuple",dict:=dd2,data:=.seq items2 n2,slots:=sl2 } /\
    R (.ok (.ret (.bool r))) s):=
 .of_wp λprog w A R s h=>by
  obtain⟨hp,g,d,tk,os⟩:=s;obtain⟨hl,hb,h⟩:=h;have f2:=AutoSeq1.sub_tuple_tuple;have z1:items.size=ns.length:=by rw[<-hi.length];simp
  have z2:items2.size=ms.length:=by rw[<-hj.length];simp
  wp_walk using wpAny_loadPart' hl,wpAny_loadPart' hb,wpAny_forIn_list _ (λrest b s'=>b.1=am/\s'=⟨hp,g,d,tk,os⟩/\∃(vs ws:bA)(ns' ms':List D),rest=vs.zip ws/\
   hZ vs ns'/\hZ ws ms'/\ns'.length+items2.size=ms'.length+items.size/\wC ns' ms'=ag r/\R (.ok (.ret (.bool r))) ⟨hp,g,d,tk,os⟩) _
  case turn=>
   rintro⟨y,x⟩ rest b s' ⟨hb',rfl,vs,ws,ns',ms',hz,hvi,hwi,hlen,hL,hR⟩;cases hvi with
   |nil=>rw[List.zip_nil_left]at hz;cases hz
   |int a t hvi'=>
    cases hwi with
    |nil=>rw[UV]at hz;cases hz
    |str c u hwi'=>cases hL
    |int c u hwi'=>
     rw[UN]at hz;injection hz with hyx hrest;injection hyx with hy hx;subst hy hx;have hL':(if a=c then wC _ _ else ag (decide (a<c)))=ag r:=hL;simp only[Tw]at hlen;obtain⟨e,he,hiff⟩:=NE A.in1 ⟨hp,g,d,tk,os⟩ a t c u;refine Xp (he prog w _ _ ?_);cases e with
     |true=>
      rw[ba (hiff.mp rfl)]at hL'
      wp_walk
      exact⟨rfl,rfl,_,_,_,_,hrest,hvi',hwi',by omega,hL',hR⟩
     |false=>
      rw[br (λq=>bt (hiff.mpr q) Tq)]at hL';cases hL';have hri:=HT.Nm A.in1 ⟨hp,g,d,tk,os⟩ a t c u prog w
      wp_walk using hri
      exact⟨_,rfl,by simpa using hR⟩
   |str a t hvi'=>
    cases hwi with
    |nil=>rw[UV]at hz;cases hz
    |int c u hwi'=>cases hL
    |str c u hwi'=>
     rw[UN]at hz;injection hz with hyx hrest;injection hyx with hy hx;subst hy hx;have hL':(if a=c then wC _ _ else ag (decide (a.cps.toList<c.cps.toList)))=ag r:=hL;simp only[Tw]at hlen;obtain⟨e,he,hiff⟩:=M6 A.in1 ⟨hp,g,d,tk,os⟩ a t c u;refine Xp (he prog w _ _ ?_);cases e with
     |true=>
      rw[ba (hiff.mp rfl)]at hL'
      wp_walk
      exact⟨rfl,rfl,_,_,_,_,hrest,hvi',hwi',by omega,hL',hR⟩
     |false=>
      rw[br (λq=>bt (hiff.mpr q) Tq)]at hL';cases hL';have hri:=Ny A.in1 ⟨hp,g,d,tk,os⟩ a t c u prog w
      wp_walk using hri
      exact⟨_,rfl,by simpa using hR⟩
  case fin=>
   rintro⟨b1,b2⟩ s' ⟨hb',rfl,vs,ws,ns',ms',hz,hvi,hwi,hlen,hL,hR⟩;simp only at hb';subst hb';have hv:r=decide (items.size<items2.size):=by
    have l1:=hvi.length;have l2:=hwi.length;cases ns' with
    |nil=>
     cases ms' with
     |nil=>
      simp only[UW]at hlen;cases hL;exact(cb ‹0›).symm
     |cons c u=>
      simp only[UW,Tw]at hlen;cases hL;exact(b0 ‹0›).symm
    |cons a t=>
     cases ms' with
     |nil=>
      simp only[UW,Tw]at hlen;cases hL;exact(cb ‹0›).symm
     |cons c u=>
      have:=dl List.length hz
      simp only[UW,UX,l1,l2,Tw]at this;omega
   rw[hv]at hR
   wp_walk
   exact⟨_,rfl,by simpa [Builtin.Tuple.tupleCompareSizes]using hR⟩
  case h=>
   exact⟨rfl,rfl,items.toList,items2.toList,ns,ms,rfl,hi,hj,by omega,hr,h⟩
end
section
variable{X:Cx}
def AG{α:Type}{c:Bool}{o:Option α}{a:α}(h:(if c then o else am)=ag a):c=true/\o=ag a:=by
 cases c with
 |true=>exact⟨rfl,h⟩
 |false=>cases h
def xH{prog:W1}{w:W0}{A:W7}{E:bI}{s:WZ}{l b:WW}{items items2:Array WU}{ns ms:List D}{r:Bool}{Q:bI}(hl:IsTup s.heap l items)(hb:IsTup s.heap b items2)(hi:hZ items.toList ns)(hj:hZ items2.toList ms)(hr:wC ns ms=ag r)
  (hu:A.units<XC) (h:Q (.bool r) s):Xa (model prog w) A (Xg .Lt (.ref l) (.ref b)) Q E s:=by
 obtain⟨⟨cls,dd,data,sl⟩,ho,hc,n,hd⟩:=id hl;obtain⟨⟨cls2,dd2,data2,sl2⟩,ho2,hc2,n2,hd2⟩:=id hb;simp only at hc hd hc2 hd2;subst hc hd hc2 hd2;exact richCompare_meets_room (op:=.Lt) ⟨_,ho,rfl⟩ ⟨_,ho2,rfl⟩ PySem.F.slot_tuple_lt PySem.F.entry_tuple_lt (PySem.F.args_tuple_lt_2 _ _) (qY l b items items2 n n2 dd dd2 sl sl2 ns ms r hi hj hr)
  ⟨ho,ho2,show Value.bool r≠Value.notImplemented/\Q (.bool r) s from⟨(λx=>nomatch x),h⟩⟩ hu
noncomputable def wq:List D->Bool
 |[]=>true
 |.int _::r=>wq r
 |.str _::r=>wq r
 |_=>false
theorem lP{K:VC}{H:Hp}:∀{ds:List D}{vs:aN}{us:bA},wq ds=true->aY K H ds vs->Vals vs us->hZ us ds
 |[],vs,us,_,h,r=>by
  rw[cZ]at h;subst h;cases r;exact .nil
 |d::ds,vs,us,hf,h,r=>by
  obtain⟨v,r',e,h1,h2⟩:=bP.mp h;subst e;cases r with
  |cons q1 q2=>
   cases d with
   |int i=>
    rw[fP]at h1;subst h1;obtain⟨t,rfl⟩:=q1;exact .int i t (lP hf h2 q2)
   |str x=>
    rw[eM]at h1;subst h1;obtain⟨t,rfl⟩:=q1;exact .str x t (lP hf h2 q2)
   |_=>cases hf
def mn(a b:D):bE:=match a,b with
 |.int i,.int j=>ag (.bl (decide (i<j)))
 |.str x,.str y=>ag (.bl (decide (x.cps.toList<y.cps.toList)))
 |.tup xs,.tup ys=>if wq xs&&wq ys then(wC xs ys).bind λr=>ag (.bl r)else am
 |_,_=>am
def C1(hu:X.A.units+64<XC):ik X (Xg .Lt) (rD X.K mn):=by
 rintro pins s σ H x y u v Q I rx ry ⟨O,a,b,d,hO,ha,hb,hg,q⟩;cases a with
 |int i=>
  cases b with
  |int j=>
   cases hg;exact M0 pins s σ H x y u v Q I rx ry ⟨i,j,fP.mp ha,fP.mp hb,q _ H (aO.refl H) (iu.mpr rfl)⟩
  |_=>cases hg
 |str i=>
  cases b with
  |str j=>
   cases hg;exact A5 pins s σ H x y u v Q I rx ry ⟨i,j,eM.mp ha,eM.mp hb,q _ H (aO.refl H) (iu.mpr rfl)⟩
  |_=>cases hg
 |tup xs=>
  cases b with
  |tup ys=>
   obtain⟨h1,h2⟩:=AG hg;obtain⟨r,e1,e2⟩:=bind_some h2;cases e2;rw[T6]at h1;obtain⟨p,vs,ex,g1,g2⟩:=cP.mp ha;obtain⟨p',vs',ey,g1',g2'⟩:=cP.mp hb;subst ex ey;cases rx;cases ry;obtain⟨its,r1,t1,_⟩:=I.tuple (cF (aP H O) g1);obtain⟨its2,r2,t2,_⟩:=I.tuple (cF (aP H O) g1');exact xH t1 t2 (lP h1.1 g2 r1) (lP h1.2 g2' r2) e1 ‹0› (Fm I (q _ H (aO.refl H) (iu.mpr rfl)) rfl)
  |_=>cases hg
 |_=>cases hg
end
end
section
variable[ay]
noncomputable def nE(x:Str)(n:Int):Str:=if(n==1||x.length==0)=true then x else⟨(List.replicate n.toNat x.cps).foldl (·++·) #[]⟩
theorem foldl_size:∀(n:Nat)(c a:Array Nat),((List.replicate n c).foldl (·++·) a).size=a.size+n*c.size
 |0,_,a=>by simp
 |n+1,c,a=>by
  rw[List.replicate_succ,List.foldl_cons,foldl_size n c,Array.size_append,Nat.succ_mul];omega
def Gj{x:Str}{n:Int}(h:1<=n):(nE x n).length=n.toNat*x.length:=by
 unfold nE;split
 ·rename_i q;rw[Us]at q;rcases q with q|q
  ·have:n=1:=(by simpa using q);rw[this];simp
  ·have:x.length=0:=(by simpa using q);rw[this];simp
 ·show((List.replicate n.toNat x.cps).foldl (·++·) #[]).size=n.toNat*x.cps.size;rw[foldl_size];simp
def zW(a b:D):bE:=match a,b with
 |.int i,.int j=>yc (.int i) (.int j)
 |.str x,.int n=>if decide (1<=n/\n<=1000/\x.length<=1000)then ag (.str (nE x n))else am
 |_,_=>am
section
variable{X:Cx}
def HU:ik X (Xs .Mult) (rD X.K zW):=by
 rintro pins s σ H x y u v Q I rx ry ⟨O,a,b,d,hO,ha,hb,hg,q⟩;cases a with
 |int i=>
  cases b with
  |int j=>exact CY pins s σ H x y u v Q I rx ry (Ds (.int i) (.int j) d x y O H Q hO hg ha hb q)
  |_=>cases hg
 |str z=>
  cases b with
  |int n=>
   obtain⟨h1,h2⟩:=bQ hg;subst h2;obtain⟨n1,n2,zl⟩:=cr h1;rw[eM]at ha;rw[fP]at hb;subst ha hb;obtain⟨t,rfl⟩:=rx;obtain⟨t',rfl⟩:=ry;have zn:z.length*n.toNat<=1000*1000:=Nat.mul_le_mul zl ‹0›;refine P.mul_str (by rw[cb ‹0›,cb ‹0›];rfl) (λ_ _=>?_) (λ_ _=>?_) ?_
   ·have:(2^63-1:Int)/n>=(2^63-1)/1000:=by
     rw[ge_iff_le,Int.le_ediv_iff_mul_le ‹0›];have h3:(2^63-1:Int)/1000*n<=(2^63-1)/1000*1000:=Int.mul_le_mul_of_nonneg_left n2 (by decide);have h4:(2^63-1:Int)/1000*1000<=2^63-1:=(by decide);omega
    have h5:(2^63-1:Int)/1000=9223372036854775:=(by decide);omega
   ·unfold Builtin.Str.tooLong;rw[cb];rw[Xu];omega
   ·rw[br ‹0›];have fin:∀tk,EP X pins σ Q (.str (nE z n) tk) {s with toks:=s.toks+1}/\EP X pins σ Q (.str (nE z n) tk) s:=λtk=>⟨⟨.str (nE z n),H,I.tok _,⟨_,rfl⟩,q _ H (aO.refl H) (eM.mpr rfl)⟩,⟨.str (nE z n),H,I,⟨_,rfl⟩,q _ H (aO.refl H) (eM.mpr rfl)⟩⟩
    by_cases e:(n==1||z.length==0)=true
    ·rw[ba e]
     have:nE z n=z:=(by unfold nE;rw[ba e]);rw[this]at fin;exact(fin t).2
    ·rw[br e];have e2:nE z n=⟨(List.replicate n.toNat z.cps).foldl (·++·) #[]⟩:=(by unfold nE;rw[br e]);rw[e2]at fin;refine⟨?_,(fin _).1⟩;have rl:=Gj (x:=z) (n:=n) ‹0›;rw[e2]at rl;rw[rl,Xu,Nat.mul_comm];omega
  |_=>cases hg
 |_=>cases hg
end
theorem aY.dropLast{K:VC}{H:Hp}{ds:List D}{vs:aN}(h:aY K H ds vs):aY K H ds.dropLast vs.dropLast:=by
 rw[UY,UY,h.length];exact h.take _
structure NotIn(K:VC)(D C:WW):Prop where
 ne:D≠C
 cls:(V9 K C).isSome=true
 ty:VP K (.ref C)=ag (.type "type")
 ins:Wa K (.ref C) (.type "type")=ag true
 sub:Wb K (.ref D) (.ref C)=ag false
 fc:VG K (.ref D) "__class__"=ag (ag (.builtin "object.__class__"))
 sg:Wc K (.builtin "object.__class__") "__get__"=ag (ag (.builtin "getset_descriptor.__get__"))
 tk:Wd K (.builtin "object.__class__")=ag true
 mo:We K D (.type "object")=ag true
section
open PySem.W PySem.Calls PyProof.Rows
variable{prog:W1}{w:W0}{A:W7}{E:bI}{s:WZ}{K:VC}{x D C:WW}{ox od:Obj}
def xo{Q:Option WU->ib}(X:K.In s.heap)(I:InstAt s.heap x ox D (ag od))(cl:L2.iU K D)(n:NotIn K D C)(h:Q (ag (.ref D)) {s with toks:=s.toks+1}):Xa (model prog w) A (getAttr? (.ref x) "__class__") Q E s:=by
 obtain⟨hga,hk⟩:=plainGet_of (cl.get "__class__");have hf:=findObj_data (od:=od) (name:="__class__") (by obtain⟨cd,hc,_⟩:=any_some cl.hd;rw[hc];rfl) n.fc n.sg n.tk;obtain⟨hh,g,d,t,os⟩:=s;have L0:=I.type (M:=model prog w);have L1:=Yp (M:=model prog w) X hga;have L2:=looks_find (M:=model prog w) X I hf;have L3:=Yp (M:=model prog w) X hk;unfold getAttr? getAttrBy? getAttrBy;refine Xp (wpAny_mkText (Xp (Yn (X1 (Xp (L0.at (Xp (L1.at ?_))))))));show Xa _ _ (getAttrEveryday _ _ _) _ _ _;refine Xp (Yk (wpAny_runValue (codeAny_builtin PySem.F.plainObj_entry_getattr_hooked ?_)));refine Xp (Xo (Xp (L0.at (Xp (L2.at (Xp (L3.at ?_)))))));show Xa _ _ (holding [_] (call _ [_,.ref x,.ref D]) >>= ret) _ _ _;refine Xp (X1 (XH (class_get (s:=⟨hh,g,d,t+1,os⟩) (ox:=ox) (od:=ag od) X I n.mo ?_)));refine Xo ?_;show Xa _ _ (handedOut (.ref D)) _ _ _;exact handed_on rfl (Xo h)
def wg{dep:Int}{tk:Tok}{Q:PySem.Fin->ib}(X:K.In s.heap)(I:InstAt s.heap x ox D (ag od))(cl:L2.iU K D)(n:NotIn K D C)(h:Q (.done (.ret (.bool false))) {s with toks:=s.toks+1}):
  Xa (model prog w) A (Builtin.«isinstance.nested» ⟨[.ref x,.ref C,.int dep tk],[]⟩) Q E s:=by
 have ca:=λ{A E}{Q:Option WU->ib}(h:Q (ag (.ref D)) {s with toks:=s.toks+1})=>xo (prog:=prog) (w:=w) (A:=A) (E:=E) X I cl n h;obtain⟨hh,g,d,tt,os⟩:=s;have ht:=I.type (M:=model prog w);unfold Builtin.«isinstance.nested»;refine Xp (ht.at ?_);rw[br (λq=>n.ne (by have:=beq_iff_eq.mp q;cases this;rfl))];have L1:=looks_typeIn (M:=model prog w) X n.ty;have L2:=looks_instIn (M:=model prog w) X n.ins;have L4:Yq (model prog w) hh (isSubtype (.ref D) (.ref C)) false:=looks_subIn X n.sub;have L3:Yq (model prog w) hh (isInstance (.ref x) (.ref C)) false:=ht.andThen L4;refine Xp (L1.at ?_);rw[ba (by decide)]
 k_delta "plainIsInstance"
 unfold isType
 repeat lk
 have e0:=n.cls;unfold clsIn at e0;split at e0
 ·rename_i ho;refine nd_load (X _ _ ho) (nd_pure (Xo ?_));simp only[UZ,Ud,if_false];refine Xp (L3.at ?_);simp only[Ud,if_false];refine Xp (ca ?_);have e1:(clsIn K D).isSome=true:=by obtain⟨cd,hc,_⟩:=any_some cl.hd;rw[hc];rfl
  unfold clsIn at e1;split at e1
  ·rename_i ho2;refine Xp (nd_load (X _ _ ho2) (Xo ?_));simp only[UZ,Ud,if_false];refine Xp (Yd ?_);refine L4.at ?_;exact Xo h
  ·cases e1
 ·cases e0
def BZ{Q:bI}(X:K.In s.heap)(I:InstAt s.heap x ox D (ag od))(cl:L2.iU K D)(n:NotIn K D C)(h:Q (.bool false) {s with toks:=s.toks+1}):
  Xa (model prog w) A (call (.builtin "isinstance") [.ref x,.ref C]) Q E s:=
 call_isinstance (S:=λ_ R s=>(K.In s.heap/\InstAt s.heap x ox D (ag od))/\R (.ok (.ret (.bool false))) {s with toks:=s.toks+1})
  (λ_ _ _ _ _ hs=>isinstance_outer (wg hs.1.1 hs.1.2 cl n hs.2) (λz=>nomatch z)) ⟨⟨X,I⟩,h⟩
end
def wQ(K:VC)(mg:bN)(x:Str)(yes no:af):Prop:=∃C,mg x=ag (.ref C)/\(∀c∈yes,∀D,clsAt K c D->Wf K (.ref D) C=true)/\∀c∈no,∀D,clsAt K c D->iU K D/\NotIn K D C
def qL(yes no:af)(d:D):bE:=match d with
 |.obj c _ _=>if yes.contains c then ag (.bl true)else if no.contains c then ag (.bl false)else am
 |_=>am
def Qa(K:VC)(C:WW):aN->Hp->VK->Prop:=λxs H Q=>∃p D dx fs,xs=[.ref p,.ref C]/\H p=ag (.ins D dx fs)/\((Wf K (.ref D) C=true/\Q (.bl true) H)\/(iU K D/\NotIn K D C/\Q (.bl false) H))
section
variable{X:Cx}{p pos:Pos}{e:WX}{C:WW}
def DL:fW X (.builtin "isinstance") (Qa X.K C):=by
 rintro pins s σ H xs us Q I r ⟨p,D,dx,fs,ex,hp,hq⟩;subst ex;obtain⟨u,w',rfl,rx,rt⟩:=vals2 r;cases rx;cases rt;obtain⟨mA,om,_⟩:=oA I.hok hp;obtain⟨od,ia,_⟩:=om.look;rcases hq with⟨hi,q⟩|⟨cl,n,q⟩
 ·exact PySem.W.isi_call I.kIn (λM=>ia.type) hi (λz=>nomatch z) ⟨.bl true,H,I,rfl,q⟩
 ·exact BZ I.kIn ia cl n ⟨.bl false,H,I.tok _,rfl,q⟩
end
open PyProof.Rows PySem.W
noncomputable abbrev setG(st:SortSt)(g:Nat):SortSt:=SortSt.mk' (kindOf st) (arrOf st) (pendingOf st) g (failedOf st)
structure Jn(R:Nat->Nat->Prop)(B0 out a b:bJ):Prop where
 so:out.Pairwise R
 sa:a.Pairwise R
 sb:b.Pairwise R
 la:∀x∈out,∀y∈a,R x y
 lb:∀x∈out,∀y∈b,R x y
 pm:(out++(a++b)).Perm B0
abbrev S7:=Option (Array Yr)×Array Yr×Nat×Nat×Nat×Nat×Nat
section
variable{prog:W1}{w:W0}{A:W7}{E:bI}{s:WZ}{κ:SortKind}{it:Array Yr}{r:Nat->Nat}{N:Nat}{a b:Array Nat}{B0:bJ}
def PP(it:Array Yr)(r:Nat->Nat)(B0:bJ)(x:Array Yr):Prop:=∃q:Array Nat,x=q.map (kas_item it)/\(q.toList.Pairwise λx y=>r x<=r y)/\q.toList.Perm B0
end
abbrev H6:=Option (Array Yr)×Nat×Nat×Array Yr×Nat×Nat
abbrev H7:=Option (Array Yr)×Nat×Nat×Array Yr×Nat×Nat×Nat
abbrev H5:=Option (Array Yr)×Nat×Nat×Array Yr×Nat
section
variable{prog:W1}{w:W0}{A:W7}{E:bI}{s:WZ}{κ:SortKind}{it:Array Yr}{r:Nat->Nat}{N:Nat}{a b:Array Nat}{B0:bJ}{st:SortSt}
abbrev JH(r:Nat->Nat)(B0:bJ)(a b out:Array Nat)(na nb:Nat):Prop:=Jn (λx y=>r y<=r x) B0 out.toList (a.toList.take na).reverse (b.toList.take nb).reverse
def K7(it:Array Yr)(r:Nat->Nat)(B0:bJ)(a b:Array Nat)(m:Nat)(c:H7):Prop:=∃out na nb mg ac bc,c=(am,na,nb,out.map (kas_item it),mg,ac,bc)/\JH r B0 a b out na nb/\0<na/\1<nb/\na<=a.size/\nb<=b.size/\na+nb+m<=a.size+b.size
abbrev F7(it : Array Yr)(r : Nat -> Nat)(B0 : bJ)(a b : Array Nat)(m : Nat)(st : SortSt)(c : ForInStep H7)(st' : SortSt): Prop := (∃ g, st' = setG st g) /\ match c with
      |.done c=>(∃x,c.1=ag x/\PP it r B0 x)\/K7 it r B0 a b m c
      |.yield c=>K7 it r B0 a b m c
end
end
section
variable[ay]
noncomputable def Ow(x:Str):It:=⟨λi _=>i<x.cps.size,λi H v H'=>H'=H/\∃c,x.cps[i]?=ag c/\v=.str ⟨#[c]⟩,λi _=>x.cps.size<=i⟩
def Dn{P:W1}{w:W0}{K:VC}{tg:WX}{ty:String}(hty:ty="str_ascii_iterator"\/ty="str_iterator")(x:Str)(t:Tok)(it:WW):Turn P w K tg (Ow x) [it] it (λi h=>h.IsStrIter it ty x t i)where
 mem:=by simp
 obj:=λi h st b hb=>by
  have e:b=it:=by simpa using hb
  subst e;obtain⟨o,e,c,d⟩:=st;exact⟨o,e,λv z=>by rw[d]at z;cases z⟩
 keep:=λi h h' st k=>by
  obtain⟨o,e,r⟩:=st;exact⟨o,k it (by simp) o e,r⟩
 item:=by
  intro X hP hw hK hc i pins s σ H E I hf st hg;subst hP hw hK;obtain⟨f0,f1,f2,f3,f4,f5⟩:=hf it (by simp);have hg':i<x.cps.size:=hg;have hx:x.cps[i]?=ag x.cps[i]:=by simp
  have hn:(["enumerate","zip","dict_itemiterator","dict_reverseitemiterator","odict_iterator","itertools.zip_longest","itertools.pairwise"].contains ty)=false:=by rcases hty with rfl|rfl<;>decide
  have key:∀h',h'.IsStrIter it ty x t (i+1)->Wo it s.heap h'->∃u,ag (Value.str ⟨#[x.cps[i]]⟩ s.toks)=ag u/\
   Xa (model X.prog X.w) X.A (letOwnedTupleGo tg (.ref it) u) (λ_ s2=>∃x1 H',Inv X pins σ H' s2/\RelV x1 u/\(Ow x).yld i H x1 H'/\s2.heap.IsStrIter it ty x t (i+1)/\∀b∈[it],H' b=am) E {s with heap:=h',toks:=s.toks+1}:=by
   intro h' st' sb;have I1:Inv X pins σ H {s with heap:=h',toks:=s.toks+1}:=I.turned (λb o hb e=>(sb.2 b hb).trans e) f0 f1 f3 f4 f5;obtain⟨o,e,c,d⟩:=id st';exact⟨_,rfl,wJ (s:={s with heap:=h',toks:=s.toks+1}) e c d hn ⟨.str ⟨#[x.cps[i]]⟩,H,I1,⟨_,rfl⟩,⟨rfl,_,hx,rfl⟩,st',λb hb=>(hf b hb).1⟩⟩
  rcases hty with rfl|rfl
  ·exact Ys st hx key
  ·exact wpAny_pyNext_wide_item st hx key
 done:=by
  intro X hP hw hK hc i pins s σ H E I hf st hg;subst hP hw hK;obtain⟨f0,f1,f2,f3,f4,f5⟩:=hf it (by simp);have hx:x.cps[i]?=none:=by have:x.cps.size<=i:=hg;simp[this]
  rcases hty with rfl|rfl
  ·exact wpAny_pyNext_ascii_end (I.ok.hd hc) st hx λh' eb=>⟨rfl,I.turned (t':=s.toks) (λb o hb e=>eb b o hb e) f0 f1 f3 f4 f5⟩
  ·exact wpAny_pyNext_wide_end (I.ok.hd hc) st hx λh' eb=>⟨rfl,I.turned (t':=s.toks) (λb o hb e=>eb b o hb e) f0 f1 f3 f4 f5⟩
 self:=λ_ _ _ _ _ st h=>by
  rcases hty with rfl|rfl
  ·exact wpAny_pyIter_striter_ascii st h
  ·exact wpAny_pyIter_striter_wide st h
section
variable{X:Cx}{tg:WX}
def QH(tl:TE):TI:=λσ H R=>tl σ H λx H1=>∃z,x=.str z/\R (Ow z) H1
def Kp{l:WX}{tl:TE}(hl:PE X l tl):PI X tg l (QH tl):=by
 intro pins s σ H R I h;refine cR (hl pins s σ H _ I h) λv s1 Z=>Z.e λx Z=>Z.e λH1 Z=>Z.e λI1 Z=>Z.e λr1 q1=>?_;obtain⟨z,e,q⟩:=q1;subst e;obtain⟨t,rfl⟩:=r1;have fin:∀ty,(ty="str_ascii_iterator"\/ty="str_iterator")->PIE X pins σ tg R (.ref s1.heap.objs.size) {s1 with heap:=s1.heap.push {cls:=.type ty,data:=.fields #[.str z t,.int 0 0]}}:=λty hty=>
  ⟨s1.heap.objs.size,[s1.heap.objs.size],_,_,H1,rfl,I1.kept (t':=s1.toks) fun b o e=>Wp _ e,Dn hty z t _,⟨_,Wm _ rfl,rfl,rfl⟩,fun b hb=>by
   have e:b=s1.heap.objs.size:=(by simpa using hb);subst e;exact I1.fpOk (Tt _) (I1.hok.fresh (Tt _)),q⟩
 cases ha:z.cps.all (·<128)
 ·exact wpAny_pyIter_wide ha (fin _ (.inr rfl))
 ·exact wpAny_pyIter_ascii ha (fin _ (.inl rfl))
noncomputable def y9(x:Str):List D:=x.cps.toList.map λc=>.str ⟨#[c]⟩
def CD{K:VC}{Hd:Hp}(x:Str):Walk K Hd (Ow x) (y9 x):=λHn O' i hO s=>
  ⟨fun d e=>by
    unfold y9 at e;rw[TV]at e;cases hi:x.cps.toList[i]? with
    |none=>rw[hi]at e;cases e
    |some c=>
      rw[hi]at e;cases e;have hi':x.cps[i]?=ag c:=(by simpa using hi);have hlt:i<x.cps.size:=(Array.getElem?_eq_some_iff.mp hi').1;refine⟨hlt,λv H2 Z=>Z.e λe1 Z=>Z.e λc' Z=>Z.e λe2 e3=>?_⟩;rw[hi']at e2;cases e2;subst e1;exact⟨aO.refl _,eM.mpr e3⟩,
   λhl=>by
    have:(y9 x).length=x.cps.size:=(by unfold y9;simp);show x.cps.size<=i
    omega⟩
def Fu:D->Option (List D)
 |.str x=>ag (y9 x)
 |_=>am
def gO(f:FX):aQ:=λρ=>(f ρ).bind λd=>rO (Fu d)
noncomputable def yD(x y:Str):Bool:=!(Builtin.Str.occurrences x y 0 x.length 1).isEmpty
def qE(a b:D):bE:=match a,b with
 |.str y,.str x=>ag (.bl (yD x y))
 |_,_=>am
def FL:ik X (Xg .In) (rD X.K qE):=oW λpins s σ H a b d x y u v I ha hb ru rv hg=>by
 cases a with
 |str z1=>
  cases b with
  |str z2=>
   cases hg;rw[eM.mp ha]at ru;rw[eM.mp hb]at rv;obtain⟨t,rfl⟩:=ru;obtain⟨t2,rfl⟩:=rv;exact⟨_,rfl,λQ q=>PySem.P.in_str q⟩
  |_=>cases hg
 |_=>cases hg
end
open PySem.W PySem.Calls PyProof.Rows Builtin Builtin.ObjectAttr Builtin.Getset_descriptor
section
variable{prog:W1}{w:W0}{A:W7}{E:WU->WZ->Prop}{s:WZ}{K:Frag}{x D:WW}{ox:Obj}{R:Xv->WZ->Prop}
def C3{M:W9}{h:W3}(X:K.In h)(q1:findIn K (.ref D) "__class__"=ag (ag (.builtin "object.__class__")))(q2:specialIn K (.builtin "object.__class__") "__get__"=ag (ag (.builtin "getset_descriptor.__get__")))(q3:takesIn K (.builtin "object.__class__")=ag true):
  Yq M h (find (.ref x) (.ref D) "__class__") (.bind (.builtin "getset_descriptor.__get__") (.builtin "object.__class__")):=by
 have y1:=Yp (M:=M) X q1;have y2:Yq M h (getOf (ag (.builtin "object.__class__"))) (ag (.builtin "getset_descriptor.__get__")):=looks_specialIn X q2;have y3:=looks_takesIn (M:=M) X q3;refine y1.andThen (y2.andThen ?_);refine Looks.andThen (a:=ag (.builtin "getset_descriptor.__get__",.builtin "object.__class__")) (y3.andThen .now) ?_;exact Looks.tag .now
def G3{tp:WU}(y0:Yq (model prog w) s.heap (typeOf (.ref x)) (.ref D))(y1:Yq (model prog w) s.heap (isSubtype (.ref D) (.type "object")) true)(h:R (.ok (.ret (.ref D))) s):
  Xw (model prog w) A (.call (.builtin "getset_descriptor.__get__") ⟨[.builtin "object.__class__",.ref x,tp],[]⟩) R s:=by
 obtain⟨h₁,g₁,d₁,t₁,o₁⟩:=s;refine Yo KF.slot_gs.plain KF.entry_gs
  (KF.slot_gs.check _ _ _ _ _ _ _ _ KF.type_class (KF.args_gs _ _ _) ?_)
 unfold Builtin.«getset_descriptor.__get__»;unfold descrGet;rw[dga_obj];refine Xp (Xo ?_);unfold descrGetter descrCheckInstance;unfold descrNameAndClass isInstance;simp only[KF.owner_class]
 repeat lk
 refine⟨Code.quiet_builtin _ (by decide +kernel),
  codeAny_builtin KF.entry_class ?_⟩
 unfold Builtin.«object.__class__»;unfold shownTypeOf
 repeat lk
 exact h
structure Av(K:Frag)(D:WW):Prop where
 ga:findIn K (.ref D) "__getattribute__"=ag (ag (.builtin "BaseException.__getattribute__"))
 gn:findIn K (.ref D) "__getattr__"=ag am
 fc:findIn K (.ref D) "__class__"=ag (ag (.builtin "object.__class__"))
 sg:specialIn K (.builtin "object.__class__") "__get__"=ag (ag (.builtin "getset_descriptor.__get__"))
 tk:takesIn K (.builtin "object.__class__")=ag true
 ob:mroIn K D (.type "object")=ag true
 be:mroIn K D (.type "BaseException")=ag true
def AR{Q:Option WU->WZ->Prop}(Z:Av K D)(X:K.In s.heap)(y0:∀M,Yq M s.heap (typeOf (.ref x)) (.ref D))(h:Q (ag (.ref D)) {s with toks:=s.toks+1}):Xa (model prog w) A (getAttr? (.ref x) "__class__") Q E s:=by
 obtain⟨hh,g,d,t,os⟩:=s;have L0:=y0 (model prog w);have L1:=Yp (M:=model prog w) X Z.ga;have L2:=Yp (M:=model prog w) X Z.gn;have L3:=looks_mroIn (M:=model prog w) X Z.be;have L4:=C3 (M:=model prog w) (x:=x) X Z.fc Z.sg Z.tk;have L5:=looks_mroIn (M:=model prog w) X Z.ob;unfold getAttr? getAttrBy? getAttrBy;refine Xp (wpAny_mkText (Xp
  (Yn (X1 (Xp (L0.at (Xp (L1.at ?_))))))))
 show Xa _ _ (getAttrByItsOwn _ _ _ _ _ _) _ _ _;unfold getAttrByItsOwn;refine Xp ?_;show Xa _ _ (typeLookup (Value.ref D) "__getattr__") _ _ _;refine L2.at ?_;refine Xp (Yn (X1 ?_));show Xa _ _ (boundAndCalled _ _ _) _ _ _;unfold boundAndCalled;rw[PySem.F.attrBase_ValueError.ga.bind (.ref x)];refine Xp (Xo ?_);have ha:=F.args_bexc_ga (.ref x) (Value.str (Str.ofString "__class__") t);have hk:builtinKind "BaseException.__getattribute__"=ag .slot:=by
  decide +kernel
 have hsplit:splitId "BaseException.__getattribute__"=ag ("BaseException","__getattribute__"):=by
  decide +kernel
 refine XH (Yo PySem.F.attrBase_ValueError.ga.plain F.entry_bexc_ga ?_);have LI:Yq (model prog w) hh (isInstance (.ref x) (.type "BaseException")) true:=L0.andThen L3;have hT:∀A' (Q':Unit->WZ->Prop) E',Q' () ⟨hh,g,d,t+1,os⟩->Xa (model prog w) A' (checkBuiltinCall "BaseException.__getattribute__" ⟨[.ref x,Value.str (Str.ofString "__class__") t],[]⟩) Q' E' ⟨hh,g,d,t+1,os⟩:=λA' Q' E' hq=>by
  simp only[checkBuiltinCall,hk,hsplit];refine Xp (LI.at ?_)
  repeat (first|exact hq|wp_step)
 refine hT _ _ _ ?_;show Xa _ _ (Builtin.«object.__getattribute__» ⟨[.ref x,Value.str (Str.ofString "__class__") t],[]⟩) _ _ _;unfold Builtin.«object.__getattribute__»;refine Xp (Xo ?_);refine Xp (Xo ?_);refine Xp (L0.at ?_);refine Xp (L4.at ?_);show Xa _ _ (Builtin.ObjectAttr.bindTo (.builtin "getset_descriptor.__get__") (.builtin "object.__class__") (.ref x) (.ref D)) _ _ _;unfold Builtin.ObjectAttr.bindTo;dsimp only;refine Xp (X1 (XH (G3 (s:=⟨hh,g,d,t+1,os⟩) L0 L5 ?_)));exact Xo (handed_on rfl (Xo h))
def EE(F:Av K D):KitX K (.ref x) (.ref D) (λh=>∃o,h.get? x=ag o/\o.cls=.ref D):=by
 have cl:∃c d cd sl,K.lookup D=ag ⟨c,d,.cls cd,sl⟩:=by
  have z:=F.fc;unfold findIn at z;dsimp only at z;split at z
  ·rename_i ho;exact⟨_,_,_,_,ho⟩
  ·cases z
 have ty:∀(M:W9)(h:W3),(∃o,h.get? x=ag o/\o.cls=.ref D)->Yq M h (typeOf (.ref x)) (.ref D):=λM h ⟨o,e,c⟩=>c ▸ (Looks.ld e).andThen .now;refine⟨λM h _ I=>ty M h I,λM h X _=>?_,λh tp dd its n sl X htp=>?_,λX I k=>AR F X (λM=>ty M _ I) k⟩
 ·obtain⟨c,d,cd,sl,ho⟩:=cl;intro A' Q' E' s' k q;unfold isType loadHead;exact Xp (wpAny_loadPart (k _ _ (X _ _ ho)) (Xo q))
 ·obtain⟨c,d,cd,sl,ho⟩:=cl;cases hb:(Value.ref D==Value.ref tp)with
  |false=>rfl
  |true=>
   have e:D=tp:=Value.ref.inj (beq_iff_eq.mp hb);subst e;cases(X _ _ ho).symm.trans htp
end
end
section
open PySem.W PySem.Calls PyProof.Rows Builtin Builtin.ObjectAttr Builtin.Getset_descriptor
end
section
variable[ay]
open PyProof.Rows (AllBare OwnCls)
section
variable{X:Cx}{pins:bg}{σ:St}{H:Hp}{s:WZ}{h':W3}
def zP(I:Inv X pins σ H s)(hx:X.ex=[])(hst:X.stack=X.env::X.outer)(hf:X.env.frame=ag X.env.locals)(hfn:∀x,X.fn x=true)(us:s.heap.UpToSlots h')(k:∀b o,s.heap.get? b=ag o->eJ X H b->b∉frs X.stack->h'.get? b=ag o):
  Inv X [] σ H {s with heap:=h'}:=by
 have un:=xA I hx hst hf us k;have cellF:∀x c,X.env.cells.lookup x=ag c->c∉frs X.stack:=λx c e z=>by
  obtain⟨v,o,q,d⟩:=I.cell x c e;rw[hst]at z;have z':c∈X.env.locals::frs X.outer:=by
   have:frs (X.env::X.outer)=X.env.locals::frs X.outer:=(by show List.filterMap _ (_::_)=_;rw[Ti,hf];rfl);rw[this]at z;exact z
  rcases List.mem_cons.mp z' with z|z
  ·obtain⟨m,⟨o2,es,ep,e2,d2,_⟩,_⟩:=I.loc;rw[<-z,q]at e2;cases e2;rw[d]at d2;cases d2
  ·obtain⟨_,o2,e2,_⟩:=I.ok.funs.mem z;exact Te _ (Td (Wn e2) (I.ok.cab x c (hfn x) e))
 have cellK:∀x c v,X.env.cells.lookup x=ag c->s.heap.IsCell c v->h'.IsCell c v:=λx c v e Z=>Z.e λo Z=>Z.e λq d=>⟨o,k c o q (.inr (.inr (.inr ⟨x,e⟩))) (cellF x c e),d⟩
 obtain⟨m,hn,hl⟩:=I.loc;refine⟨I.ok,I.os,I.bare,by rw[hx];exact un,⟨m,us.ns hn,λi x v e1 e2 e3=>?_⟩,λx c e=>?_,I.free,I.freeC,λp hp=>?_,nO I k,I.len⟩
 ·obtain⟨u,r,q⟩:=hl i x v e1 e2 e3;refine⟨u,r,?_⟩;rcases q with q|⟨q1,c,q2,q3⟩
  ·exact .inl q
  ·exact .inr ⟨q1,c,q2,cellK x c _ q2 q3⟩
 ·obtain⟨v,q⟩:=I.cell x c e;exact⟨v,cellK x c v e q⟩
 ·rw[TJ]at hp;obtain⟨e,n,ne,nf,d⟩:=I.pin p (Tn _ hp);have nfs:p.1∉frs X.stack:=λz=>by
   have:frs X.stack=X.env.locals::frs X.outer:=(by rw[hst];show List.filterMap _ (_::_)=_;rw[Ti,hf];rfl);rw[this]at z;rcases List.mem_cons.mp z with z|z
   ·exact ne z
   ·exact nf z
  exact⟨k _ _ e (.inr (.inr (.inl ⟨p.2,hp⟩))) nfs,n,ne,nf,d⟩
def BW{e C:WW}{oe:Obj}(I:Inv X pins σ H s)(hx:X.ex=[])(hn:H e=am)(he:s.heap.get? e=ag oe)(hc:oe.cls=.ref C)(hno:V6 oe=true)(h0:X.s₀.heap.get? e=am)(hL:e≠X.env.locals)(hcl:∀x,X.env.cells.lookup x≠ag e)(hp:∀p∈X.pn++pins,p.1≠e):
  Inv X pins σ (upd H e (.ext (xW C e oe.dict))) s:=by
 have ne:∀b u,H b=ag u->b≠e:=λb u q z=>by rw[z,hn]at q;cases q
 have U:=I.base;refine⟨I.ok,I.os,I.bare,⟨U.keep,U.slot,λb o q n nx=>?_,U.there,λb xs q=>?_,λb o u q=>?_,λb ps q=>?_⟩,I.loc,I.cell,?_,λx c q=>?_,λp q=>?_,λa o q=>?_,I.len⟩
 ·rw[aL λz=>by rw[z,h0]at q;cases q];exact U.free b o q n nx
 ·have:=U.tups b xs q;rw[aL (ne _ _ this)];exact this
 ·have:=U.frzs b o u q;rw[aL (ne _ _ this)];exact this
 ·obtain⟨more,z⟩:=U.tbls b ps q;exact⟨more,by rw[aL (ne _ _ z)];exact z⟩
 ·rw[aL hL.symm];exact I.free
 ·rw[aL λz=>hcl x (by rw[<-z];exact q)];exact I.freeC x c q
 ·obtain⟨a1,a2,a3⟩:=I.pin p q;exact⟨a1,by rw[aL (hp p q)];exact a2,a3⟩
 ·by_cases z:a=e
  ·subst z;rw[bu]at q;cases q;exact⟨⟨oe,he,hc,rfl,hno⟩,⟨oe,he⟩,λ_ _ h1 h2 ⟨o,q1,q2⟩ _ k=>⟨o,k _ o (.inl rfl) q1,q2⟩⟩
  ·rw[aL z]at q;exact(I.hok a o q).stay (λb u _ q=>q) (λb q=>by rw[aL (ne _ _ q)];exact q) λb xs q=>by rw[aL (ne _ _ q)];exact q
end
abbrev Qg:bA:=[.type "ValueError",.type "Exception",.type "BaseException",.type "object"]
noncomputable def clsOf:Data->Option ClassData
 |.cls k=>ag k
 |_=>am
def Mj{d:Data}{k:ClassData}(h:clsOf d=ag k):d=.cls k:=by cases d<;>cases h;rfl
def Ge{α:Type}{p:α->Bool}:∀{o:Option α},o.any p=true->∃a,o=ag a/\p a=true
 |some a,h=>⟨a,rfl,h⟩
def six{α:Type}:∀{l:List α},l.length=6->∃a b c d e f,l=[a,b,c,d,e,f]
 |[a,b,c,d,e,f],_=>⟨a,b,c,d,e,f,rfl⟩
noncomputable def OQ(K:VC)(C:WW)(i:Option WU):Bool:=(K.lookup C).any λo=>o.cls==.type "type"&&((o.slots.toList.length==6&&o.slots.toList[4]?==ag (ag (.builtin "ValueError.__new__")))&&(clsOf o.data).any λk=>k.mro.head?==ag (.ref C)&&(!k.hasDel&&(Wg K Qg k.mro.tail&&(Wh K k.ns&&V5 K k.ns "__init__"==ag i))))
def G4{K:VC}{C:WW}{i:Option WU}(q:OQ K C i=true):∃nm qn N bs bm hd sn sub ab col dd k0 k1 k2 k3 k5,K.lookup C=ag (excClassObj nm qn C N bs bm hd sn sub ab col dd k0 k1 k2 k3 k5 "ValueError.__new__")/\Wg K Qg bm=true/\Wh K N=true/\V5 K N "__init__"=ag i:=by
 obtain⟨⟨cl,od,da,⟨l⟩⟩,look,q⟩:=Ge q;simp only[T6,beq_iff_eq]at q;obtain⟨rfl,⟨h1,h2⟩,q⟩:=q;obtain⟨k,hk,q⟩:=Ge q;simp only[T6,beq_iff_eq,U0]at q;obtain⟨y1,y3,y4,y5,y6⟩:=q;obtain⟨s0,s1,s2,s3,s4,s5,rfl⟩:=six h1;cases h2;cases Mj hk;obtain⟨d1,d2,d3,d4,d5,d6,d7,d8,d9,d10,d11⟩:=k;cases d3 with
 |nil=>cases y1
 |cons v bm=>
  cases y1;cases y3;exact⟨d1,d5,d4,d2,bm,d6,d7,d8,d9,d10,od,s0,s1,s2,s3,s5,look,y4,y5,y6⟩
def yW{K:VC}{h:W3}{C:WW}(X:K.In h)(q:OQ K C am=true)(x:Str):OwnCls x C Qg "ValueError.__new__" (λ_=>ag (.ref C)) h:=by
 obtain⟨d1,d5,d4,d2,bm,d6,d7,d8,d9,d10,od,s0,s1,s2,s3,s5,look,y4,y5,y6⟩:=G4 q;exact⟨rfl,bm,d4,d1,d5,d2,d6,d7,d8,d9,d10,od,s0,s1,s2,s3,s5,_,X _ _ look,.of_isNs (PySem.W.isNs_of_in X y5),PySem.W.nsMap_none_of_in X y5 y6,PySem.W.tail_of_in X y4⟩
def ExcAt(K:VC)(mg:bN)(x:Str):Prop:=∃C,clsAt K x C/\mg x=ag (.ref C)/\OQ K C am=true
def dU(c:Str)(f:aQ):bz:=λk ρ=>kE (f ρ) k ρ λds=>if small ds.length then k.ex ⟨c,[],[]⟩ ρ else un
theorem iI{base B h h':W3}(k:∀b o,h.get? b=ag o->h'.get? b=ag o):∀{l:List Env},(∀b∈frs l,B.get? b=am)->h.FunFrames base l->h'.FunFrames B l
 |[],_,_=>trivial
 |env::l,hb,⟨h1,⟨L,o,h2,_,h3,h4⟩,h5⟩=>by
  have mem:L∈frs (env::l):=by show L∈List.filterMap _ (_::_);rw[Ti,h2];exact Tj
  refine⟨h1,⟨L,o,h2,hb L mem,k _ _ h3,h4⟩,iI k (λb z=>hb b ?_) h5⟩;show b∈List.filterMap _ (_::_);rw[Ti,h2];exact Tl _ z
section
variable{X:Cx}{pos:Pos}
def vk{pins:bg}{σ:St}{H:Hp}{s:WZ}{h':W3}{e C:WW}{us:bA}(I:Inv X pins σ H s)(m:Heap.MadeExcOf s.heap h' e (.ref C) us):wY X H {s with heap:=h'} e C none:=by
 have hd:∀b o,(jz s.heap (λb=>if b∈frs X.stack then ag (.tup [])else am)).get? b=ag o->s.heap.get? b=ag o/\b∉frs X.stack:=λb o q=>by
  obtain⟨q1,q2⟩:=uU q;refine⟨q1,λz=>?_⟩;rw[ba z]at q2;cases q2
 obtain⟨t,m1,m2,m3⟩:=m.there;refine⟨λoe q=>by rw[m1]at q;cases q;rfl,jz s.heap (λb=>if b∈frs X.stack then ag (.tup [])else am),.ref t,λb o q=>m.keeps b o (hd b o q).1,?_,iI m.keeps (λb hb=>?_) I.stack,.inr ⟨_,_,m1,rfl,rfl,rfl,rfl⟩,λb o q kb nf=>?_⟩
 ·cases q:(jz s.heap (λb=>if b∈frs X.stack then ag (.tup [])else am)).get? e with
  |none=>rfl
  |some o=>have:=(hd e o q).1;rw[m.new]at this;cases this
 ·cases q:(jz s.heap (λb=>if b∈frs X.stack then ag (.tup [])else am)).get? b with
  |none=>rfl
  |some o=>exact bt hb (hd b o q).2
 ·obtain⟨o1,e1⟩:∃o1,s.heap.get? b=ag o1:=by
   rcases kb with⟨⟨o0,z⟩,nx⟩|z|⟨o0,z⟩|⟨y,z⟩
   ·exact I.base.there b o0 z nx
   ·cases q0:H b with
    |none=>exact bt q0 z
    |some ob=>exact uR (I.hok b ob q0)
   ·exact⟨_,(I.pin _ (Tn _ z)).1⟩
   ·obtain⟨v,o0,z0,_⟩:=I.cell y b z;exact⟨o0,z0⟩
  have:=m.keeps b o1 e1
  rw[show h'.get? b=ag o from q]at this;cases this;exact pj e1 (br nf)
end
end
section
variable[ay]
abbrev vm(X:Cx)(E:bI)(pn:bg):Cx:={X with xe:=E,pn:=pn}
abbrev pK(X:Cx)(A:W7)(pn:bg):Cx:={X with A:=A,xe:=λ_ _=>False,calm:=false,pn:=pn}
section
variable{X:Cx}{pins:bg}{σ:St}{H:Hp}{s:WZ}{E:bI}{A:W7}
def Js(I:L2.Inv X pins σ H s)(E:bI):L2.Inv (vm X E (X.pn++pins)) [] σ H s:=
 ⟨⟨I.ok.mod,I.ok.kind,I.ok.glob,I.ok.blt,I.ok.above,I.ok.inj,I.ok.has,I.ok.cab,I.ok.hd,I.ok.frames,I.ok.stk,I.ok.exf,I.ok.bs,I.ok.bsz,I.ok.noex,I.ok.exfs,I.ok.funs,I.ok.frf⟩,
  I.os,I.bare,I.base,I.loc,I.cell,I.free,I.freeC,λp hp=>I.pin p (by simpa using hp),I.hok,I.len⟩
def ji{E':bI}{A':W7}{c':Bool}(ok:X.Ok)(I:L2.Inv {X with A:=A',xe:=E',calm:=c',pn:=X.pn++pins} [] σ H s):L2.Inv X pins σ H s:=
 ⟨ok,I.os,I.bare,I.base,I.loc,I.cell,I.free,I.freeC,λp hp=>I.pin p (by simpa using hp),I.hok,I.len⟩
def vt{pn:bg}{ps:bg}(I:L2.Inv (vm X E pn) ps σ H s)(hA:A.frames=X.A.frames):L2.Inv (pK X A pn) ps σ H s:=
 ⟨⟨I.ok.mod,I.ok.kind,I.ok.glob,I.ok.blt,I.ok.above,I.ok.inj,I.ok.has,I.ok.cab,(fun z=>nomatch z),by rw [show (pK X A pn).A=A from rfl,hA]; exact I.ok.frames,I.ok.stk,I.ok.exf,I.ok.bs,I.ok.bsz,I.ok.noex,I.ok.exfs,I.ok.funs,I.ok.frf⟩,
  I.os,I.bare,I.base,I.loc,I.cell,I.free,I.freeC,I.pin,I.hok,I.len⟩
def Fq{i:Nat}{n:Str}{v:Option WU}{m:bN}{h9:W3}{t:Nat}(I:L2.Inv X pins σ H s)(hN:X.N.Nodup)(hi:X.N[i]?=ag n)(hn:s.heap.Ns X.env.locals m)
  (hl:∀(i:Nat)(x:Str)(v:V),X.N[i]?=ag x->σ[i]?=ag (ag v)->Mx X.env.scope x->∃u,RelV v u/\Look X.env s.heap m x u)
  (ns:h9.Ns X.env.locals (λx=>if x=n then v else m x)) (sb:Wo X.env.locals s.heap h9):L2.Inv X pins (σ.set i am) H {s with heap:=h9,toks:=t}:=by
 have old:∀b o,X.s₀.heap.get? b=ag o->b≠X.env.locals:=λb o q z=>by
  have h1:=Wn q;rw[z]at h1;exact Te _ (Td h1 I.ok.above)
 have go:∀b o,b≠X.env.locals->s.heap.get? b=ag o->h9.get? b=ag o:=λb o ne q=>(sb.2 b ne).trans q;have cne:∀c w,s.heap.IsCell c w->c≠X.env.locals:=λc w ⟨o,q,d⟩ z=>by
  obtain⟨o2,es,ep,e2,d2,_⟩:=hn;rw[z,e2]at q;cases q;rw[d2]at d;cases d
 have U:=I.base;refine⟨I.ok,I.os,I.bare,⟨λb o q n nb nx=>go b o (old b o q) (U.keep b o q n nb nx),λb o q n nb nx=>?_,U.free,λb o q nx=>?_,U.tups,U.frzs,U.tbls⟩,⟨_,ns,λj y v' e1 e2 e3=>?_⟩,λx c q=>?_,I.free,I.freeC,λp hp=>?_,λa o q=>?_,by rw[Uz];exact I.len⟩
 ·obtain⟨sl,z⟩:=U.slot b o q n nb nx;exact⟨sl,go b _ (old b o q) z⟩
 ·obtain⟨o1,z⟩:=U.there b o q nx;exact⟨o1,go b _ (old b o q) z⟩
 ·by_cases hj:j=i
  ·subst hj;have hlt:j<σ.length:=(by rw[I.len];exact(List.getElem?_eq_some_iff.mp hi).1);rw[To hlt]at e2;cases e2
  ·rw[Tp (Ne.symm hj)]at e2;have hy:y≠n:=λz=>by
    subst z;obtain⟨l1,g1⟩:=List.getElem?_eq_some_iff.mp e1;obtain⟨l2,g2⟩:=List.getElem?_eq_some_iff.mp hi;exact hj (List.getElem_inj hN |>.mp (g1.trans g2.symm))
   obtain⟨u,r,q⟩:=hl j y v' e1 e2 e3;refine⟨u,r,?_⟩;rcases q with⟨q1,q2⟩|⟨q1,c,q2,q3⟩
   ·exact .inl ⟨q1,by show(if y=n then v else m y)=ag u;rw[br hy];exact q2⟩
   ·obtain⟨o,z1,z2⟩:=id q3;exact .inr ⟨q1,c,q2,o,go c o (cne c _ q3) z1,z2⟩
 ·obtain⟨w,z⟩:=I.cell x c q;obtain⟨o,z1,z2⟩:=id z;exact⟨w,o,go c o (cne c _ z) z1,z2⟩
 ·obtain⟨e,n',ne,r⟩:=I.pin p hp;exact⟨go _ _ ne e,n',ne,r⟩
 ·refine(I.hok a o q).stay (λb u hb z=>go b u (λw=>?_) z) (λ_ q=>q) λ_ _ q=>q;have hz:=I.free;rw[<-w]at hz;rcases hb with e|e
  ·rw[e,q]at hz;cases hz
  ·rw[e]at hz;cases hz
def rJ{e C:WW}{dx:Option WW}(fl:wY X H s e C dx):∃oe vs,s.heap.get? e=ag oe/\oe.cls=.ref C/\oe.data=.fields vs:=by
 obtain⟨_,B,a0,_,_,_,b4,_⟩:=fl;rcases b4 with⟨_,oe,vs,T,oT,ts,h1,h2,h3,_⟩|⟨oe,vs,h1,h2,h3,_⟩
 ·exact⟨oe,vs,h1,h2.1,h3⟩
 ·exact⟨oe,vs,h1,h2,h3⟩
def wR{M:W9}{e C:WW}{dx:Option WW}{Q:Unit->ib}(hfr:A.frames=ag X.stack)(hst:X.stack=X.env::X.outer)(hf:X.env.frame=ag X.env.locals)(fl:wY X H s e C dx)
  (hQ:∀B a0 h',Ws B X.stack e (.ref C) a0 X.env.locals h'->s.heap.UpToSlots h'->(∀b o,s.heap.get? b=ag o->eJ X H b->b∉frs X.stack->B.get? b=ag o)->DS s.heap h'->Q () {s with heap:=h'}):
  Xa M A (noteFrame (.ref e) X.env) Q E s:=by
 obtain⟨_,B,a0,b1,b2,b3,b4,b5⟩:=fl;rw[hst]at hfr b3;refine DP.go (zh _ _) (P:=λh'=>Ws B X.stack e (.ref C) a0 X.env.locals h'/\s.heap.UpToSlots h') ?_ λh' z ds=>hQ B a0 h' z.1 z.2 b5 ds;rcases b4 with b4|⟨oe,vs,c1,c2,c3,c4,c5⟩
 ·exact pz hfr hf b3 b4 b1 b2 λh' hd us=>⟨h',rfl,by rw[hst];exact hd,us⟩
 ·unfold noteFrame;simp only[hf];refine Xp (X0 c1 c3 c4 ?_);rw[br (by decide)];refine wpAny_entryW hfr b3 hf c1 b1 b2 c3 (Array.getElem?_eq_some_iff.mp c4).1 c5 λh' hN=>?_;obtain⟨k1,k2,k3,k4⟩:=hN;exact⟨h',rfl,⟨k1,b2,by rw[hst];exact k2,c2 ▸ k3⟩,k4⟩
end
def bT.unset{K:VC}{Hb:Hp}{Ob O:aD}{H:Hp}{ρ:aq}{σ:St}(T:bT K Hb Ob O H ρ σ)(i:Nat):bT K Hb Ob O H (ρ.set i am) (σ.set i am):=by
 have key:∀(j:Nat)(x:S),(ρ.set i am)[j]?=ag (ag x)->j≠i/\ρ[j]?=ag (ag x):=λj x e=>by
  rcases aU e with⟨_,q⟩|⟨ne,q⟩
  ·cases q
  ·exact⟨ne,q⟩
 refine⟨⟨λj d e=>?_,λj d e=>?_,λj l xs ys a e1 e2 e3 e4=>?_,T.env.all⟩,T.base,λj xs a e1 e2=>?_,λj dn e=>?_⟩
 ·obtain⟨ne,q⟩:=key j _ e;obtain⟨v,q1,q2⟩:=T.env.val j d q;exact⟨v,by rw[Tp ne.symm];exact q1,q2⟩
 ·obtain⟨ne,q⟩:=key j _ e;obtain⟨a,q1,q2⟩:=T.env.own j d q;exact⟨a,by rw[Tp ne.symm];exact q1,q2⟩
 ·obtain⟨n1,q1⟩:=key j _ e1;obtain⟨n2,q2⟩:=key l _ e2;rw[Tp n1.symm]at e3;rw[Tp n2.symm]at e4;exact T.env.one j l xs ys a q1 q2 e3 e4
 ·obtain⟨ne,q⟩:=key j _ e1;rw[Tp ne.symm]at e2;exact T.mine j xs a q e2
 ·obtain⟨ne,q⟩:=key j _ e;refine(T.nst j dn q).to (Tp ne.symm) (λ_ _ z=>z) (λb q1 q2 q3 q4 _=>⟨rfl,q1,q2,λl d1 w=>?_⟩) λl d1 w=>⟨d1,(key l _ w).2⟩
  obtain⟨nl,z⟩:=key l _ w;rw[Tp nl.symm];exact q4 l d1 z
def wM(K:VC)(mg:bN)(g:Str)(cs:af):Prop:=∃G,mg g=ag (.ref G)/\∀c∈cs,∀C,clsAt K c C->Wi K (.ref C) (.ref G)=ag true
def Nb(i:Nat)(k:Ks):Ks:=⟨λρ=>k.nx (ρ.set i am),λρ=>k.bk (ρ.set i am),λρ=>k.ct (ρ.set i am),λ_ _=>un⟩
def Cp(cs:af)(i:Nat)(F Fh:bz):bz:=λk ρ=>F {k with ex:=λx ρ1=>if cs.contains x.c=true then Fh (Nb i k) (setV i (.exc x.c x.fs x.vs) ρ1)else un} ρ
section
variable{X:Cx}{pos:Pos}
def PD{body suite:cU}{b₀:WY}{g n:Str}{gp hpos:Pos}{F Fh:bz}{cs:af}{i:Nat}(hx:X.ex=[])(hst:X.stack=X.env::X.outer)(hf:X.env.frame=ag X.env.locals)(hfn:∀x,X.fn x=true)
  (hT:wM X.K X.mg g cs) (hg:Gl X g) (hN:X.N.Nodup) (hi:X.N[i]?=ag n) (hl:X.env.scope.names.lookup n=ag .local)
  (hb:∀E pn,Xm (model X.prog X.w) X.A X.env E->Nu (vm X E pn) body F) (hs:∀A pn,A.depth=X.A.depth->A.units=X.A.units->Nu (pK X A pn) (b₀::suite) Fh) (hdb:(g==("__debug__":Str))=false:=by decide):
  FS X (.Try body [.ExceptHandler (ag (.Name g gp)) (ag n) (b₀::suite) hpos] [] [] pos) (Cp cs i F Fh):=λHb Ob pins s σ H E I Z=>Z.e λO Z=>Z.e λρ Z=>Z.e λk Z=>Z.e λr Z=>Z.e λS Z=>Z.e λhF hk=>by
 obtain⟨G,hG,hcs⟩:=hT;refine wpAny_Try_except ?_;have land:∀O1 ρ1 σ1 H1 x,bT X.K Hb Ob O1 H1 ρ1 σ1->(if cs.contains x.c=true then Fh (Nb i k) (setV i (.exc x.c x.fs x.vs) ρ1)else un)=r->
   w8 (vm X (λe s₁=>Xa (model X.prog X.w) X.A (noteFrame e X.env) (λ_ s₂=>Xa (model X.prog X.w) X.A (setFlight e am) (λ_ s₃=>Xa (model X.prog X.w) X.A (handleBy e X.env [.ExceptHandler (ag (.Name g gp)) (ag n) (b₀::suite) hpos]) (SP X pins E) X.xe s₃) X.xe s₂) X.xe s₁) (X.pn++pins)) σ1 O1 H1 x:=by
  rintro O1 ρ1 σ1 H1 x S1 ex pins' s1 u H2 I1 sm ⟨e,C,dx,rfl,hd,fl⟩;have cond:cs.contains x.c=true:=by
   cases z:cs.contains x.c with
   |true=>rfl
   |false=>rw[z]at ex;exact bt ex.symm hk.ne
  rw[ba cond]at ex;obtain⟨oe1,vs1,he1,hc1,hd1⟩:=rJ fl;have nfr:e∉frs X.stack:=λz=>by
   obtain⟨_,o,q,nf⟩:=I1.stack.mem z;rw[he1]at q;cases q;exact nf _ hd1
  refine wR (X:=vm X _ (X.pn++pins)) I1.ok.frames hst hf fl λB a0 h4 held us4 kb ds4=>?_;have nk:¬eJ (vm X _ (X.pn++pins)) H2 e:=λz=>by
   have:=kb e oe1 he1 z nfr
   rw[held.2.1]at this;cases this
  refine DP.go (mz _ _) (P:=λh'=>Wt B X.stack e (.ref C) a0 h'/\h4.UpToSlots h') (wpAny_landsW held λh' x y=>⟨h',rfl,x,y⟩) λh5 z5 ds5=>?_;obtain⟨fl5,us5⟩:=z5;have I5:=zP I1 hx hst hf hfn (us4.trans us5) λb o q kb' nf=>fl5.1 b o (kb b o q kb' nf);obtain⟨oe5,he5,hc5⟩:=fl5.there;have I5h:=vt (A:=X.A.mark (ag (.ref e))) I5 rfl;refine wpAny_handleBy_cons (codeAny_handlers_test (gf (X:=pK X (X.A.mark (ag (.ref e))) (X.pn++pins)) I5h hg hG ?_ hdb)) (by intro z;cases z);refine(PySem.W.exm_one I5.kIn (show VX _ h5 (typeOf (.ref e)) (.ref C)from hc5 ▸ (PySem.W.Looks.ld he5).andThen .now) (hcs x.c (by simpa using cond) C hd.1)).at ?_;refine codeAny_handlers_suite_as ?_;refine DP.go (mz _ _) (P:=λh'=>Wt B X.stack e (.ref C) a0 h'/\h5.UpToSlots h') (PyProof.Rows.lands_againW fl5 λh' x y=>⟨h',rfl,x,y⟩) λh6 z6 ds6=>?_;obtain⟨fl6,us6⟩:=z6;have I6:=zP I1 hx hst hf hfn ((us4.trans us5).trans us6) λb o q kb' nf=>fl6.1 b o (kb b o q kb' nf);obtain⟨oe6,ws6,he6,hc6,hd6,_⟩:=fl6.first;have hdx:oe6.dict=dx:=(((ds4.trans ds5).trans ds6).dict he1 he6).trans (fl.1 _ he1);have hn:H2 e=none:=by
   cases q:H2 e with
   |none=>rfl
   |some ob=>exact bt (.inr (.inl (by rw[q];intro z;cases z))) nk
  have I6a:=BW (C:=C) I6 hx hn he6 hc6 (by unfold V6;rw[hd6]) (by
    cases q:X.s₀.heap.get? e with
    |none=>rfl
    |some o=>exact bt (.inl ⟨⟨o,q⟩,by rw[show(vm X _ (X.pn++pins)).ex=X.ex from rfl,hx];simp⟩) nk) (λz=>by
    apply nfr;rw[hst,z];show X.env.locals∈List.filterMap _ (_::_);rw[Ti,hf];exact Tj)
   (λy q=>nk (.inr (.inr (.inr ⟨y,q⟩)))) (λp hp q=>by
    rw[TJ]at hp;exact nk (.inr (.inr (.inl ⟨p.2,by rw[<-q];exact hp⟩))))
  have I6h:=vt (A:=X.A.mark (ag (.ref e))) I6a rfl;have same26:aO H2 (upd H2 e (.ext (xW C e oe6.dict))):=λb o q=>by rw[aL λz=>by rw[z,hn]at q;cases q];exact q
  have eO:e∉O1:=(S1.env.all.same sm).not hn;refine jm (X:=pK X (X.A.mark (ag (.ref e))) (X.pn++pins)) I6h hN hi (.inl hl) (show RelV (.ref e) (.ref e)from rfl) (λs7 I7=>?_) (.inl (hfn n));have S7:=(S1.same (sm.trans same26)).setV (i:=i) (d:=.exc x.c x.fs x.vs) (v:=.ref e) (by rw[I1.len];exact(List.getElem?_eq_some_iff.mp hi).1)
   (by
    obtain⟨c1,ws,w1,w2,w3⟩:=hd;have sh:aO (hid H2 O1) (hid (upd H2 e (.ext (xW C e oe6.dict))) O1):=ck same26;exact OC.mpr ⟨e,ws,rfl,w1.mono sh,w2,C,oe6.dict,c1,by rw[kC eO];exact bu,w3.imp id λZ=>Z.e λd Z=>Z.e λq1 q2=>⟨d,hdx.trans q1,sh _ _ q2⟩⟩)
  refine Xc (hs (X.A.mark (ag (.ref e))) (X.pn++pins) rfl rfl Hb Ob [] s7 _ _ {nx:=λσ' H'=>E.nx (σ'.set i am) H',rt:=E.rt,bk:=λσ' H'=>E.bk (σ'.set i am) H',ct:=λσ' H'=>E.ct (σ'.set i am) H'} I7
   ⟨O1,_,Nb i k,r,S7,ex,hk.ne,λO' ρ' σ' H' S' q=>hk.nx O' _ _ H' (S'.unset i) q,λO' ρ' σ' H' S' q=>hk.bk O' _ _ H' (S'.unset i) q,λO' ρ' σ' H' S' q=>hk.ct O' _ _ H' (S'.unset i) q,hk.rt,λO' ρ' σ' H' y S' q=>bt q.symm hk.ne⟩) (λf s8 h8=>?_) λ_ _ z=>z.elim
  have fin:∀σ' H',L2.Inv (pK X (X.A.mark (ag (.ref e))) (X.pn++pins)) [] σ' H' s8->∀Q:ib,(∀s9,L2.Inv X pins (σ'.set i am) H' s9->Q s9)->
    Xa (model X.prog X.w) X.A (do bindName X.env n .none;unbindBehindTheSuite X.env n hpos) (λ_ s₃=>Q s₃) X.xe s8:=λσ' H' I8 Q q=>by
   obtain⟨m,hm,hlk⟩:=I8.loc;exact wpAny_nameGoes_keeps hl hm (by rw[I8.ok.kind];rfl) λh9 v ns9 sb9=>q _ (ji I.ok (Fq I8 hN hi hm hlk ns9 sb9))
  cases f with
  |next=>obtain⟨σ',H',I8,q⟩:=h8;exact fin σ' H' I8 _ λs9 I9=>⟨_,H',I9,q⟩
  |brk=>obtain⟨σ',H',I8,q⟩:=h8;exact fin σ' H' I8 _ λs9 I9=>⟨_,H',I9,q⟩
  |cont=>obtain⟨σ',H',I8,q⟩:=h8;exact fin σ' H' I8 _ λs9 I9=>⟨_,H',I9,q⟩
  |ret u=>obtain⟨v,σ',H',I8,rv,q⟩:=h8;exact fin σ' H' I8 _ λs9 I9=>⟨v,_,H',I9,rv,q⟩
 refine Xc (hb _ (X.pn++pins) PassesOwn.looking Hb Ob [] s σ H E (Js I _) ⟨O,ρ,_,r,S,hF,hk.ne,hk.nx,hk.bk,hk.ct,hk.rt,land⟩) (λf s1 h1=>?_) λ_ _ z=>z;cases f with
 |next=>obtain⟨σ',H',I1,q⟩:=h1;exact uP pins s1 σ' H' E (ji I.ok I1) q
 |brk=>obtain⟨σ',H',I1,q⟩:=h1;exact⟨σ',H',ji I.ok I1,q⟩
 |cont=>obtain⟨σ',H',I1,q⟩:=h1;exact⟨σ',H',ji I.ok I1,q⟩
 |ret u=>obtain⟨v,σ',H',I1,rv,q⟩:=h1;exact⟨v,σ',H',ji I.ok I1,rv,q⟩
end
def vP(K:VC)(T:WU)(tbl:List (Str×Bool)):Prop:=∀c b,tbl.lookup c=ag b->∀D,clsAt K c D->Av K D/\V7 K (.ref D) T=ag b
def eK(tbl:List (Str×Bool))(d:D):bE:=match d with
 |.exc c _ _=>(tbl.lookup c).map .bl
 |_=>am
def dE(K:VC)(mg:bN)(x:Str)(tbl:List (Str×Bool)):Prop:=∃C,mg x=ag (.ref C)/\vP K (.ref C) tbl
def du{K:VC}{T:WU}:vP K T []:=λ_ _ h=>by cases h
def cD{K:VC}{T:WU}{c:Str}{D:WW}{b:Bool}{tbl:List (Str×Bool)}(ac:clsAt K c D)(F:Av K D)(k:V7 K (.ref D) T=ag b)(r:vP K T tbl):vP K T ((c,b)::tbl):=λc' b' h D' hD=>by
 rw[Ub]at h;split at h
 ·rename_i e;have e:=beq_iff_eq.mp e;subst e;cases h;cases aC hD ac;exact⟨F,k⟩
 ·exact r c' b' h D' hD
def vN{K:VC}{C:WW}{v:WU}(h:We K C v=ag true):(V9 K C).isSome=true:=by
 unfold We at h;cases e:V9 K C with
 |none=>rw[e]at h;cases h
 |some c=>rfl
def eD{K:VC}{C D:WW}{b:Bool}(hs:Wb K (.ref D) (.ref C)=ag b)(ho:We K C (.type "object")=ag true)(ht:VP K (.ref C)=ag (.type "type"))(hn:b=true\/D≠C):V7 K (.ref D) (.ref C)=ag b:=by
 unfold V7;by_cases e:D=C
 ·rcases hn with hn|hn
  ·rw[ba (by rw[e];simp),hn]
  ·exact bt e hn
 ·rw[br (by simpa using e)];unfold Wj;dsimp only;rw[ba (by rw[vN ho,ht];rfl)];exact hs
def Lv{K:VC}{D:WW}{b:Bool}(hs:Wb K (.ref D) (.type "ValueError")=ag b):V7 K (.ref D) (.type "ValueError")=ag b:=by
 unfold V7;rw[br (by simp)];unfold Wj;dsimp only;rw[ba (by decide +kernel)];exact hs
def Jr{K:VC}{C G:WW}(hb:Wb K (.ref G) (.type "BaseException")=ag true)(hs:Wb K (.ref C) (.ref G)=ag true)(ho:We K G (.type "object")=ag true)(ht:VP K (.ref G)=ag (.type "type")):Wi K (.ref C) (.ref G)=ag true:=by
 unfold Wi;rw[ba (by rw[hb];rfl)];unfold Wj;dsimp only;rw[ba (by rw[vN ho,ht];rfl)];exact hs
def Fv{K:VC}{mg:bN}{g:Str}{G:WW}{cs:af}(hm:mg g=ag (.ref G))(h:∀c∈cs,∃C,clsAt K c C/\Wi K (.ref C) (.ref G)=ag true):wM K mg g cs:=⟨G,hm,λc hc C hC=>by
 obtain⟨C',h1,h2⟩:=h c hc;cases aC hC h1;exact h2⟩
section
variable{X:Cx}{p pos:Pos}{e:WX}
def JO(K:VC)(tv:V)(T:WU):aN->Hp->VK->Prop:=λxs H Q=>∃a D dx b,xs=[.ref a,tv]/\H a=ag (.ext (xW D a dx))/\Av K D/\V7 K (.ref D) T=ag b/\Q (.bl b) H
def rV{tv:V}{T:WU}(hT:∀u,RelV tv u->u=T):fW X (.builtin "isinstance") (JO X.K tv T):=by
 rintro pins s σ H xs us Q I r ⟨a,D,dx,b,ex,ha,F,hk,q⟩;subst ex;obtain⟨u,w',rfl,rx,rt⟩:=vals2 r;cases rx;cases hT _ rt;obtain⟨⟨o,e1,e2,_⟩,_⟩:=(show gv X.prog X.w H s.heap a (.ext (xW D a dx))from I.hok a _ ha)
 exact V8 (EE F) I.kIn ⟨o,e1,e2⟩ hk (λz=>nomatch z) λtk=>⟨.bl _,H,I.tok _,rfl,q⟩
def yz{tbl:List (Str×Bool)}{a d:D}(h:eK tbl a=ag d):∃c fs vs b,a=.exc c fs vs/\tbl.lookup c=ag b/\d=.bl b:=by
 unfold eK at h;split at h
 ·rename_i c fs vs;cases e:tbl.lookup c with
  |none=>rw[e]at h;cases h
  |some b=>rw[e]at h;cases h;exact⟨c,fs,vs,b,rfl,e,rfl⟩
 ·cases h
def J8{tbl:List (Str×Bool)}{tv:V}{T:WU}{f:FX}(h:vP X.K T tbl):∀σ H Q,tF X (f1 (eK tbl) f) σ H Q->O8 (JO X.K tv T) (Ej (tF X f) (Ej (tC tv) Oj)) σ H Q:=λσ H Q Z=>Z.e λO Z=>Z.e λρ Z=>Z.e λE hF=>⟨O,ρ,E,(eQ.bind hF).imp λa hF v H1 s1 d1=>by
  obtain⟨d,e,q⟩:=eQ.rO hF;obtain⟨c,fs,vs,b,rfl,e2,rfl⟩:=yz e;obtain⟨a,ws,rfl,_,_,D,dx,hcl,ha,_⟩:=OC.mp d1;obtain⟨F,hk⟩:=h c b e2 D hcl;exact⟨a,D,dx,b,rfl,aP _ _ _ _ ha,F,hk,q _ H1 s1 (iu.mpr rfl)⟩⟩
end
open PyProof.Rows PySem.W
end
section
open PyProof.Rows PySem.W
end
section
open PySem.Calls
open PySem.SeqAt (EqAt list_indexAt)
variable[ay]
section
variable{X:Cx}{p pos:Pos}{e:WX}
end
end
section
variable[ay]
open PySem.Calls
open PySem.SeqAt (EqAt list_countAt)
end
section
variable[ay]
open PySem.Calls
end
section
variable[ay]
open PySem.Calls
end
section
variable[ay]
open PySem.Calls
end
end TG
namespace L2
open PyProof.Rows
end L2
namespace TG
section
variable[ay]
end
end TG
namespace L2
open PyProof.Rows
end L2
namespace TG
section
variable[ay]
open PySem.Calls
end
section
variable[ay]
open PySem.Calls
end
end TG
namespace L2
open PyProof.Rows
end L2
namespace TG
section
variable[ay]
open PySem.Calls
end
section
open PyProof.Rows
end
section
variable[ay]
open PySem.Calls
end
section
variable[ay]
def RB(K:VC)(n:Nat)(g:cM):Sp:=λvs H Q E=>∃O ds,vs.length=n/\dZ H O/\aY K (hid H O) ds vs/\match g ds with
 |.ok d=>∀p H',aO H H'->H p=am->(∃o,H' p=ag o/\jC o)->fZ K H' (p::O) p d->Q (.ref p) H'
 |.error (ag x)=>Ov K H O x E
 |.error am=>False
def Bj{X:Cx}{n:Nat}{g:cM}{f:aQ}(hn:∀ds,g ds≠un->ds.length=n):∀σ H Q,Oz X (fR g f) σ H Q->xL X (RB X.K n g) (OL X f) σ H Q:=λσ H Q Z=>Z.e λO Z=>Z.e λρ Z=>Z.e λE hF=>
 ⟨O,ρ,E,(eQ.bind hF).imp fun ds hF vs H1 s1 d1=>by
  cases hg:g ds with
  |ok d=>
   rw[hg]at hF;refine⟨E0,kO,O,ds,by rw[<-d1.length];exact hn ds (by rw[hg];intro z;cases z),E.all.same s1,d1,?_⟩;rw[hg];exact λp H2 s2 hp ho own=>hF p H2 (s1.trans s2) (s1.free hp) ho own
  |error z=>
   rw[hg]at hF;cases z with
   |none=>exact hF.elim
   |some x=>
    refine⟨sC X O H1 x,kH (w8.mono hF s1),O,ds,by rw[<-d1.length];exact hn ds (by rw[hg];intro z;cases z),E.all.same s1,d1,?_⟩;rw[hg];exact pV⟩
def Hq(P:W1)(w:W0)(K:VC)(mg:bN)(base:W3)(k:Nat)(x:Str)(ps:af)(g:cM):Prop:=
 ∃f fd,fw P w K mg base (gj P w) k f fd ps (RB K ps.length g)/\Binds K fd ps []/\VY K (.ref f)=true/\mg x=ag (.ref f)
open PySem.SeqAt
end
section
open PySem.SeqAt
open PySem.AutoSeq1 (wpAny_loadPart')
open PySem.MeetsSeq PySem.MeetsSeq2 PySem.MeetsSeq3
end
section
open PySem.SeqAt
variable[ay]
end
section
variable[ay]
open PySem.Calls
end
section
open PyProof.Rows
variable[ay]
end
section
open PySem.SetTable
noncomputable def rs(m:Nat)(h:Int):Nat->Nat×Nat
 |0=>(bits h%(m+1),bits h)
 |r+1=>leap m (rs m h r).1 (rs m h r).2
noncomputable def SU(m:Nat)(p:Probe):Probe:=advance ⟨m,#[],#[],0,false,0,false⟩ p
def st(m:Nat)(h:Int):Nat->Probe
 |0=>{j:=bits h%(m+1),more:=runEnd m (bits h%(m+1))-bits h%(m+1),i:=bits h%(m+1),perturb:=bits h,dummy:=am}
 |n+1=>SU m (st m h n)
open PySem.SetTable
noncomputable def lv(m:Nat)(owner:Array (Option Nat)):List (Nat×Nat):=(List.range (m+1)).filterMap λj=>(owner.getD j am).map (j,·)
open PySem.SetTable PyProof.Rows
end
section
open PySem.SetTable PySem.Calls
open PySem.SetTable PySem.Calls PySem.W PyProof.Rows
end
section
variable[ay]
def dd:List (List Key)->List (List Key)
 |[]=>[]
 |k::ks=>if ks.any (λq=>decide (q=k))then dd ks else k::dd ks
open PySem.Calls
section
variable{X:Cx}
def gP(x:Str):List D->bE
 |[.str y]=>ag (.bl (Txt.startswith x y))
 |_=>am
def vv{x:Str}{ds:List D}{d:D}(h:gP x ds=ag d):∃y,ds=[.str y]/\d=.bl (Txt.startswith x y):=by
 rcases ds with _|⟨e,_|⟨f,r⟩⟩
 ·cases h
 ·cases e with
  |str y=>cases h;exact⟨y,rfl,rfl⟩
  |_=>cases h
 ·cases e<;>cases h
def gd(f:FX)(g:aQ):FX:=λρ=>(f ρ).bind λa=>(rO (KG a)).bind λz=>(g ρ).bind λds=>rO (gP z ds)
def Bi:MK X "str.startswith" (λx xs H Q=>∃z y,x=.str z/\xs=[.str y]/\Q (.bl (Txt.startswith z y)) H):=by
 rintro pins s σ H x xs v us Q I rx rs ⟨z,y,ex,exs,q⟩;subst ex exs;obtain⟨t,rfl⟩:=rx;cases rs with|cons r1 rs=>?_
 cases rs;obtain⟨u,rfl⟩:=r1;exact SC.startswith ⟨.bl _,H,I,rfl,q⟩
def Ak{a e:WX}{fa:FX}{fs:aQ}{apos cpos:Pos}(ha:FE X a fa)(hs:FA X [e] fs)(hbase:Xx a "startswith" X.env (eval a X.env)=eval a X.env:=by rfl)
  (hfew:((backTo cpos (Xb [e] X.env)).all (fun x=>!x.1) && (backToKw cpos (Xz [] X.env)).all (fun x=>x.1.isSome)
   && decide (([e]:aS).length+([]:List X7).length+(if([]:List X7).isEmpty then 0 else 1)<30))=true:=by rfl)
  (hline:(apos.endLine==cpos.line)=true:=by rfl) (hst:Xb [e] X.env=(false,eval e X.env)::Xb [] X.env:=by rfl) (hplain:(backTo cpos (Xb [] X.env)).any (·.1)=false:=by rfl):
  FE X (.Call (.Attribute a "startswith" apos) [e] [] cpos) (gd fa fs):=
 PE.weak (vD F.plainAttrs_str F.slot_str_startswith F.type_str_startswith Bi ha hs hbase hfew hline hst hplain) λσ H Q Z=>Z.e λO Z=>Z.e λρ Z=>Z.e λE hF=>⟨O,ρ,E,(eQ.bind hF).imp λx hF v H1 s1 d1=>by
  obtain⟨z,ez,hF⟩:=eQ.rO (eQ.bind hF);rw[tH ez d1];exact⟨rfl,O,ρ,E.same s1,((eQ.bind hF).mono s1).imp λds hF vs H2 s2 d2=>by
   obtain⟨d,e,q⟩:=eQ.rO hF;obtain⟨y,rfl,rfl⟩:=vv e;obtain⟨w,rfl,dw⟩:=d2.one;rw[eM.mp dw];exact⟨z,y,rfl,rfl,q _ H2 (s1.trans s2) (iu.mpr rfl)⟩⟩⟩
end
section
variable{X:Cx}
def qe(x:Str):bE:=if x.length<=640 then(intText? x).bind λn=>ag (.int n)else am
def mY:List D->bE
 |[.str x]=>qe x
 |_=>am
def BI{ds:List D}{d:D}(h:mY ds=ag d):∃x n,ds=[.str x]/\x.length<=640/\intText? x=ag n/\d=.int n:=by
 rcases ds with _|⟨e,_|⟨f,r⟩⟩
 ·cases h
 ·cases e with
  |str x=>
   obtain⟨h1,h2⟩:x.length<=640/\((intText? x).bind λn=>ag (D.int n))=ag d:=by
    have h':qe x=ag d:=h;unfold qe at h';by_cases z:x.length<=640
    ·rw[ba z]at h';exact⟨z,h'⟩
    ·rw[br z]at h';cases h'
   obtain⟨n,e1,e2⟩:=Option.bind_eq_some_iff.mp h2;cases e2;exact⟨x,n,rfl,h1,e1,rfl⟩
  |_=>cases h
 ·cases e<;>cases h
def AB:fW X (.type "int") (Jf X.K mY):=by
 rintro pins s σ H xs us Q I r ⟨O,ds,d,hO,hd,hg,q⟩;obtain⟨x,n,rfl,h1,h2,rfl⟩:=BI hg;obtain⟨v,ev,h1'⟩:=hd.one;rw[eM.mp h1']at ev;subst ev;cases r with|cons r1 rs=>?_
 cases rs;obtain⟨t,rfl⟩:=r1;exact PySem.W.KIN.call_text h2 h1 ⟨.int n,H,I.tok _,⟨_,rfl⟩,q _ H (aO.refl H) (fP.mpr rfl)⟩
end
end
section
variable[ay]
def fT(a:WW)(H H':Hp):Prop:=∀b o,b≠a->H b=ag o->H' b=ag o
def fT.of{a:WW}{H H':Hp}(s:aO H H'):fT a H H':=λb o _ h=>s b o h
def fT.trans{a:WW}{H H1 H2:Hp}(x:fT a H H1)(y:fT a H1 H2):fT a H H2:=λb o n h=>y b o n (x b o n h)
theorem fT.upd{a:WW}{H:Hp}(o:HO):fT a H (upd H a o):=λb u n h=>by rw[aL n];exact h
theorem fT.hid{a:WW}{H H':Hp}{O:aD}(x:fT a H H')(m:a∈O):aO (TG.hid H O) (TG.hid H' O):=λb o h=>by
 unfold TG.hid at h ⊢;by_cases hb:b∈O
 ·rw[ba hb]at h;cases h
 ·rw[br hb]at h ⊢;exact x b o (λz=>hb (by rw[z];exact m)) h
section
variable{K:VC}{Hb:Hp}{Ob O:aD}{H H':Hp}{ρ:aq}{σ:St}
def NK{H H':Hp}{a:WW}{o:HO}(h:H' a=ag o)(o0:HO):L2.upd (L2.upd H' a o0) a o=H':=by
 funext b;by_cases z:b=a
 ·subst z;rw[bu,h]
 ·rw[aL z,aL z]
def fT.old{a:WW}{H H':Hp}{o0:HO}(x:fT a H H')(h:H a=ag o0):aO H (L2.upd H' a o0):=λb u q=>by
 by_cases z:b=a
 ·subst z;rw[h]at q;cases q;exact bu
 ·rw[aL z];exact x b u z q
def bT.chg(S:bT K Hb Ob O H ρ σ){j:Nat}{d d':D}{a:WW}(hj:ρ[j]?=ag (ag (.own d)))(ha:σ[j]?=ag (ag (.ref a)))(x:fT a H H')(m:∃o,H' a=ag o/\jC o)(new:fZ K H' O a d'):bT K Hb Ob O H' (ρ.set j (ag (.own d'))) σ:=by
 obtain⟨o,ho,mo⟩:=m;obtain⟨a',ha',haO,hat⟩:=S.env.own j d hj;rw[ha]at ha';cases ha';obtain⟨o0,h0⟩:=hat.some;have S1:=S.same (x.old h0);have e:=NK ho o0 (H:=H);have S2:=S1.setO (o:=o) hj ha mo (d':=d') (by rw[e];exact new);rw[e]at S2;exact S2
theorem bT.none(S:bT K Hb Ob O H ρ σ)(j:Nat):bT K Hb Ob O H (ρ.set j Option.none) σ:=by
 have bk:∀(i:Nat) x,(ρ.set j Option.none)[i]?=ag (ag x)->ρ[i]?=ag (ag x):=λi x e=>by
  rcases aU e with⟨_,q⟩|⟨_,q⟩
  ·cases q
  ·exact q
 refine⟨⟨λi d e=>S.env.val i d (bk i _ e),λi d e=>S.env.own i d (bk i _ e),λi l xs ys b e1 e2=>S.env.one i l xs ys b (bk i _ e1) (bk l _ e2),S.env.all⟩,S.base,λi xs b e=>S.mine i xs b (bk i _ e),λi d e=>?_⟩;exact(S.nst i d (bk i _ e)).to rfl (λ_ _ z=>z) (λb q1 q2 q3 q4 _=>⟨rfl,q1,q2,λl d' w=>q4 l d' (bk l _ w)⟩) λl d' w=>⟨d',bk l _ w⟩
def set_set{ρ:aq}{j:Nat}{x y:Option S}:(ρ.set j x).set j y=ρ.set j y:=by rw[U1]
def bT.chg0(S:bT K Hb Ob O H ρ σ){j:Nat}{d:D}{a:WW}(hj:ρ[j]?=ag (ag (.own d)))(ha:σ[j]?=ag (ag (.ref a)))(x:fT a H H')(m:∃o,H' a=ag o/\jC o):bT K Hb Ob O H' (ρ.set j Option.none) σ:=by
 obtain⟨o,ho,mo⟩:=m;obtain⟨a',ha',haO,hat⟩:=S.env.own j d hj;rw[ha]at ha';cases ha';obtain⟨o0,h0⟩:=hat.some;have S1:=S.same (x.old h0);have e:=NK ho o0 (H:=H);obtain⟨m1,m2⟩:=S1.mine j d a hj ha;have s:aO (hid (L2.upd H' a o0) O) (hid H' O):=by
  have:=iA (H:=L2.upd H' a o0) (o:=o) haO
  rw[e]at this;exact this
 have bk:∀(i:Nat) y,(ρ.set j Option.none)[i]?=ag (ag y)->i≠j/\ρ[i]?=ag (ag y):=λi y e=>by
  rcases aU e with⟨_,q⟩|⟨n,q⟩
  ·cases q
  ·exact⟨n,q⟩
 have E1:=S1.env;refine⟨⟨λi d' q=>?_,λi d' q=>?_,λi l xs ys b e1 e2=>E1.one i l xs ys b (bk i _ e1).2 (bk l _ e2).2,?_⟩,⟨λb u h=>?_,S1.base.sub,S1.base.new⟩,λi xs b q=>S1.mine i xs b (bk i _ q).2,λi d' q=>?_⟩
 ·obtain⟨v,q1,q2⟩:=E1.val i d' (bk i _ q).2;exact⟨v,q1,q2.mono s⟩
 ·obtain⟨n,q'⟩:=bk i _ q;obtain⟨b,q1,q2,q3⟩:=E1.own i d' q';have nb:b≠a:=λz=>n (E1.one i j d' d a q' hj (by rw[<-z];exact q1) ha);exact⟨b,q1,q2,q3.mono (by rw[aL nb]) s⟩
 ·have:=E1.all.upd haO mo
  rw[e]at this;exact this
 ·have nb:b≠a:=λz=>by rw[z,m1]at h;cases h
  have:=S1.base.same b u h
  rw[aL nb]at this;exact this
 ·refine(S1.nst i d' (bk i _ q).2).to rfl s (λb q1 q2 q3 q4 _=>⟨?_,q1,q2,λl d2 w=>q4 l d2 (bk l _ w).2⟩) λl d2 w=>⟨d2,(bk l _ w).2⟩
  have nb:b≠a:=λz=>q4 j d hj (by rw[z];exact ha);rw[aL nb]
end
def bT.frzW{K:VC}{Hb:Hp}{Ob O:aD}{H:Hp}{ρ:aq}{σ:St}(E:bT K Hb Ob O H ρ σ)(i:Nat):∃O',bT K Hb Ob O' H (TG.frz i ρ) σ/\(∀b∈O',b∈O)/\∀b∈O,b∉O'->∃d,ρ[i]?=ag (ag (.own d))/\σ[i]?=ag (ag (.ref b)):=by
 obtain⟨O',E',sub,gone⟩:=E.env.frz i;refine⟨O',⟨E',⟨E.base.same,λa ha=>?_,λa ha=>E.base.new a (sub a ha)⟩,λj xs a q1 q2=>?_,λj dn q1=>?_⟩,sub,gone⟩
 ·by_cases z:a∈O'
  ·exact z
  ·obtain⟨d,e1,e2⟩:=gone a (E.base.sub a ha) z;exact bt ha (E.mine i d a e1 e2).2
 ·have q:ρ[j]?=ag (ag (.own xs)):=by
   rcases xM i ρ with⟨_,_,fe⟩|fe<;>rw[fe]at q1
   ·rcases aU q1 with⟨_,q⟩|⟨_,q⟩
    ·cases q
    ·exact q
   ·exact q1
  exact E.mine j xs a q q2
 ·have bk:∀(l:Nat) x,(TG.frz i ρ)[l]?=ag (ag x)->(∀d,x≠.val d)->ρ[l]?=ag (ag x):=λl x e nv=>by
   rcases xM i ρ with⟨_,_,fe⟩|fe<;>rw[fe]at e
   ·rcases aU e with⟨_,q⟩|⟨_,q⟩
    ·cases q;exact bt rfl (nv _)
    ·exact q
   ·exact e
  refine(E.nst j dn (bk j _ q1 (λ_ z=>nomatch z))).to rfl (dD sub) (λb w1 w2 w3 w4 _=>⟨rfl,?_,w2,λl d1 w=>w4 l d1 (bk l _ w (λ_ z=>nomatch z))⟩) λl d1 w=>⟨d1,bk l _ w (λ_ z=>nomatch z)⟩
  by_cases z:b∈O'
  ·exact z
  ·obtain⟨d,e1,e2⟩:=gone b w1 z;exact bt e2 (w4 i d e1)
def dec:R D->R (D×List D)
 |.ok (.tup [d,.lst ys])=>.ok (d,ys)
 |.ok _=>un
 |.error x=>.error x
noncomputable def Qy(K:VC)(n:Nat)(g:cM):Sp:=λvs H Q E=>∃O a ws xs ds,vs=.ref a::ws/\vs.length=n/\dZ H O/\a∈O/\fZ K H O a (.lst xs)/\aY K (hid H O) ds ws/\match dec (g (.lst xs::ds))with
 |.ok (d,ys)=>∀v H',fT a H H'->(∃o,H' a=ag o/\jC o)->fZ K H' O a (.lst ys)->dS K (hid H' O) d v->Q v H'
 |.error (ag x)=>∀C dx H',fT a H H'->(∃o,H' a=ag o/\jC o)->JM K (hid H' O) x C dx->E (.ref C) dx H'
 |.error am=>False
def iO(P:W1)(w:W0)(K:VC)(mg:bN)(base:W3)(k:Nat)(x:Str)(ps:af)(g:cM):Prop:=
 ∃f fd,fw P w K mg base (gj P w) k f fd ps (Qy K ps.length g)/\Binds K fd ps []/\VY K (.ref f)=true/\mg x=ag (.ref f)
def sN{P:W1}{w:W0}{K:VC}{mg:bN}{base:W3}{x qual:Str}{st:WY}{f:WW}{fd:XD}{ps:af}(k:Nat)(F:kc K x qual st f fd)(b:Binds K fd ps [])(m:mg x=ag (.ref f)):iO P w K mg base k x ps (λ_=>un):=by
 have no:∀vs H Q E,¬Qy K ps.length (λ_=>un) vs H Q E:=λvs H Q E Z=>by
  obtain⟨_,_,_,_,_,_,_,_,_,_,_,z⟩:=Z;exact z
 exact⟨f,fd,⟨λvs H Q E h=>bt h (no vs H Q E),λA outer s H args us vs Q E _ _ _ _ h=>bt h (no vs H Q E)⟩,b,F.kp,m⟩
def EC(X:Cx)(O:aD)(H:Hp)(a:WW)(x:Ex):XK:=λu dx H'=>∃C,u=.ref C/\fT a H H'/\(∃o,H' a=ag o/\jC o)/\JM X.K (hid H' O) x C dx
def CB{X:Cx}{σ:St}{O:aD}{H:Hp}{a:WW}{x:Ex}(h:∀H',fT a H H'->(∃o,H' a=ag o/\jC o)->w8 X σ O H' x):hX (gj X.prog X.w) X σ (EC X O H a x):=by
 rintro pins H1 s u s' I ⟨e,C,dx,H',B,a0,rfl,hdx,os,bare,un,hok,fl,kp,C',eC,sm,mo,hd⟩;cases eC;exact kH (H:=H') (h H' sm mo) pins H1 s _ s' I ⟨e,C,dx,H',B,a0,rfl,hdx,os,bare,un,hok,fl,kp,C,rfl,aO.refl H',hd⟩
abbrev qK:=aq->R (D×List D)
def hV(X:Cx)(Hb:Hp)(Ob O:aD)(σ:St)(ρ:aq)(j:Nat)(a:WW)(H:Hp){α:Type}(r:R (α×List D))(Q:α->Hp->Prop):Prop:=match r with
 |.ok (d,ys)=>∀H',fT a H H'->bT X.K Hb Ob O H' (ρ.set j (ag (.own (.lst ys)))) σ->Q d H'
 |.error (ag x)=>∀H',fT a H H'->bT X.K Hb Ob O H' (ρ.set j am) σ->w8 X σ O H' x
 |.error am=>False
def SM(X:Cx)(Hb:Hp)(Ob:aD)(j:Nat)(a:WW)(F:qK):TE:=λσ H Q=>∃O ρ,bT X.K Hb Ob O H ρ σ/\σ[j]?=ag (ag (.ref a))/\a∈O/\hV X Hb Ob O σ ρ j a H (F ρ) λd H'=>∀v,dS X.K (hid H' O) d v->Q v H'
def Se(X:Cx)(Hb:Hp)(Ob:aD)(j:Nat)(a:WW)(F:aq->R (List D×List D)):TA:=λσ H Q=>∃O ρ,bT X.K Hb Ob O H ρ σ/\σ[j]?=ag (ag (.ref a))/\a∈O/\hV X Hb Ob O σ ρ j a H (F ρ) λds H'=>∀vs,aY X.K (hid H' O) ds vs->Q vs H'
def Kb(X:Cx)(j:Nat)(e:WX)(F:qK):Prop:=∀Hb Ob a,PE X e (SM X Hb Ob j a F)
def FAM(X:Cx)(j:Nat)(es:aS)(F:aq->R (List D×List D)):Prop:=∀Hb Ob a,PA X es (Se X Hb Ob j a F)
open PyProof.Rows (AllBare)
def Ky{P:W1}{w:W0}{K:VC}{mg:bN}{base:W3}{N:af}{qual:Str}{scope:W8}{f:WW}{cd:WU}{A:W7}{outer:List Env}{s:WZ}{H:Hp}{E:XK}{σ:St}{O':aD}{H':Hp}{x:Ex}
  (hx:∀C dx H1,aO H' H1->JM K (hid H1 O') x C dx->E (.ref C) dx H1):w8 (ef (gj P w) P w K mg base N qual scope f cd A outer s H E) σ O' H' x:=by
 rintro pins s1 u H1 I s2 ⟨e,C,dx,rfl,hd,hdx,B,a0,b1,b2,b3,b4,b5⟩;have fin:∀h',Wt B outer e (.ref C) a0 h'->s1.heap.UpToSlots h'->DS s1.heap h'->gj P w outer H s E (.ref e) {s1 with heap:=h'}:=λh' fl us ds=>by
  have k:∀b o,s1.heap.get? b=ag o->eJ (ef (gj P w) P w K mg base N qual scope f cd A outer s H E) H1 b->b∉frs (ef (gj P w) P w K mg base N qual scope f cd A outer s H E).stack->h'.get? b=ag o:=λb o q kb nf=>fl.1 b o (b5 b o q kb nf);have un:=xA I rfl rfl rfl us k;have hok:=nO I k;refine⟨e,C,dx,H1,B,a0,rfl,λoe' q=>?_,I.os,I.bare,un,hok,fl,λb o q hb nf=>?_,hx C dx H1 s2 hd⟩
  ·obtain⟨oe,q1⟩:∃oe,s1.heap.get? e=ag oe:=by
    rcases b4 with⟨_,oe,_,_,_,_,h1,_⟩|⟨oe,_,h1,_⟩
    ·exact⟨oe,h1⟩
    ·exact⟨oe,h1⟩
   exact(ds.dict q1 q).trans (hdx oe q1)
  have nf2:b∉frs (ef (gj P w) P w K mg base N qual scope f cd A outer s H E).stack:=λz=>by
   rcases List.mem_cons.mp (show b∈s.heap.objs.size::frs outer from z)with z|z
   ·rcases hb with hb|hb
    ·obtain⟨o',hb⟩:=hb
     have:=Wn hb
     rw[z]at this;exact Te _ this
    ·rw[z]at hb;exact hb I.free
   ·exact nf z
  have kb:eJ (ef (gj P w) P w K mg base N qual scope f cd A outer s H E) H1 b:=hb.elim (λz=>.inl ⟨z,λy=>nomatch y⟩) λz=>.inr (.inl z);obtain⟨o1,e1⟩:∃o1,s1.heap.get? b=ag o1:=by
   rcases hb with⟨o',hb⟩|hb
   ·exact I.base.there b o' hb (λz=>nomatch z)
   ·cases q0:H1 b with
    |none=>exact bt q0 hb
    |some ob=>exact uR (I.hok b ob q0)
  have:=k b o1 e1 kb nf2
  rw[q]at this;cases this;exact b5 b _ e1 kb nf2
 show Xa _ _ (leaving (Wx qual scope s.heap.objs.size f cd) (.ref e)) _ _ s1;refine DP.go (pG _ _) (P:=λh'=>Wt B outer e (.ref C) a0 h'/\s1.heap.UpToSlots h') ?_ λh' z ds=>fin h' z.1 z.2 ds;rcases b4 with b4|⟨oe,vs,c1,c2,c3,c4,c5⟩
 ·unfold leaving;refine Xp (pz I.ok.frames rfl b3 b4 b1 b2 λh1 held us=>wpAny_landsW held λh' fl us'=>?_);obtain⟨k1,k2,⟨_,_,k3⟩,k4⟩:=fl;exact⟨h',rfl,⟨k1,k2,k3,k4⟩,us.trans us'⟩
 ·refine wpAny_leaving_firstW I.ok.frames b3 rfl c1 b1 b2 c3 c4 c5 λh' hL=>?_;obtain⟨k1,⟨_,_,k2⟩,k3,k4⟩:=hL;exact⟨h',rfl,⟨k1,b2,k2,c2 ▸ k3⟩,k4⟩
section
variable{X:Cx}{Hb:Hp}{Ob O:aD}{σ:St}{ρ:aq}{j:Nat}{a:WW}{H H1:Hp}{α β:Type}
def hV.mono{r:R (α×List D)}{Q:α->Hp->Prop}(h:hV X Hb Ob O σ ρ j a H r Q)(s:aO H H1):hV X Hb Ob O σ ρ j a H1 r Q:=by
 match r,h with
 |.ok (d,ys),h=>exact λH' x S=>h H' ((fT.of s).trans x) S
 |.error (ag x),h=>exact λH' y S=>h H' ((fT.of s).trans y) S
 |.error am,h=>exact h
def hV.pre{fr:R β}{G:β->R (α×List D)}{Q:α->Hp->Prop}(h:hV X Hb Ob O σ ρ j a H (fr.bind G) Q)(S:bT X.K Hb Ob O H ρ σ):eQ X σ O H fr λb=>hV X Hb Ob O σ ρ j a H (G b) Q:=by
 match fr,h with
 |.ok b,h=>exact h
 |.error (ag x),h=>exact h H (λ_ _ _ z=>z) (S.none j)
 |.error am,h=>exact h
def hV.map{r:R (α×List D)}{φ:α->β}{Q:β->Hp->Prop}(h:hV X Hb Ob O σ ρ j a H (r.bind λp=>.ok (φ p.1,p.2)) Q):hV X Hb Ob O σ ρ j a H r λd H'=>Q (φ d) H':=by
 match r,h with
 |.ok (d,ys),h=>exact h
 |.error (ag x),h=>exact h
 |.error am,h=>exact h
def hV.thru{r:R (α×List D)}{G:α->R β}{Q:β->Hp->Prop}(h:hV X Hb Ob O σ ρ j a H (r.bind λp=>(G p.1).bind λd=>.ok (d,p.2)) Q):
  hV X Hb Ob O σ ρ j a H r λd H'=>bT X.K Hb Ob O H' (ρ.set j am) σ->eQ X σ O H' (G d) λe=>∀H2,aO H' H2->Q e H2:=by
 match r,h with
 |.ok (d,ys),h=>
  intro H' x S S0;have h:hV X Hb Ob O σ ρ j a H ((G d).bind λd=>.ok (d,ys)) Q:=h
  match hg:G d with
  |.ok e=>
   rw[hg]at h;exact λH2 s2=>h H2 (x.trans (fT.of s2)) (S.same s2)
  |.error (ag y)=>
   rw[hg]at h;exact h H' x S0
  |.error am=>rw[hg]at h;exact h.elim
 |.error (ag x),h=>exact h
 |.error am,h=>exact h
end
section
variable{X:Cx}{j:Nat}{pos:Pos}
def Gq{α:Type}(j:Nat)(ρ:aq)(f:List D->R α):R α:=match ρ[j]? with
 |some (ag (.own (.lst xs)))=>f xs
 |_=>un
def fI{α:Type}{j:Nat}{ρ:aq}{f:List D->R α}{xs:List D}(h:ρ[j]?=ag (ag (.own (.lst xs)))):Gq j ρ f=f xs:=by unfold Gq;rw[h]
def lB{α:Type}{j:Nat}{ρ:aq}{f:List D->R α}(h:Gq j ρ f≠un):∃xs,ρ[j]?=ag (ag (.own (.lst xs))):=by
 unfold Gq at h;rcases e:ρ[j]? with _|_|d
 ·rw[e]at h;exact bt rfl h
 ·rw[e]at h;exact bt rfl h
 ·cases d with
  |own d=>cases d with
   |lst xs=>exact⟨xs,rfl⟩
   |_=>rw[e]at h;exact bt rfl h
  |_=>rw[e]at h;exact bt rfl h
def bO(j:Nat)(g:cM)(h:aQ):qK:=λρ=>Gq j ρ λxs=>(h ρ).bind λds=>dec (g (.lst xs::ds))
def hV.ne{Hb:Hp}{Ob O:aD}{σ:St}{ρ:aq}{a:WW}{H:Hp}{α:Type}{r:R (α×List D)}{Q:α->Hp->Prop}(h:hV X Hb Ob O σ ρ j a H r Q):r≠un:=λz=>by subst z;exact h
def Dg{k k':Nat}{ps:af}{g:cM}{h:aQ}{x y:Str}{p p' pos:Pos}{es:aS}(C:iO X.prog X.w X.K X.mg X.base k x ps g)(hn:Ar ps.length g)(hr:dG k' X.A)(hk:k<=k')(hw:PE X (.Name y p') (qR j))(ha:FA X es h)(hg:Gl X x:=by rfl)
  (hdb:(x==("__debug__":Str))=false:=by decide) (hns:es.all noStar=true:=by rfl):
  Kb X j (.Call (.Name x p) (.Name y p'::es) [] pos) (bO j g h):=λHb Ob a=>by
 obtain⟨f,fd,F,b,kp,m⟩:=C;refine PE.weak (jy F (hr.mono hk) hg m kp b (eE hw ha (bf rfl)) hdb (bf rfl) (bY hns)) λσ H Q Z=>?_;obtain⟨O,ρ,S,hj,haO,hP⟩:=Z;obtain⟨xs,hxs⟩:=lB hP.ne;have e:bO j g h ρ=(h ρ).bind λds=>dec (g (.lst xs::ds)):=fI hxs;rw[e]at hP;refine⟨.ref a,hj,O,ρ,S.env,(hP.pre S).imp λds hP vs H1 s1 d1=>?_⟩;have S1:=S.same s1;have hP:=hP.mono s1;obtain⟨a',ha',_,own⟩:=S1.env.own j _ hxs;rw[hj]at ha';cases ha';have hl:g (.lst xs::ds)≠un->(V.ref a::vs).length=ps.length:=λz=>by
  have:=hn _ z
  rw[Tw]at this ⊢;rw[<-d1.length];exact this
 have ne:g (.lst xs::ds)≠un:=λz=>by rw[z]at hP;exact hP
 match e:dec (g (.lst xs::ds))with
 |.ok (d,ys)=>
  rw[e]at hP;refine⟨E0,kO,O,a,vs,xs,ds,rfl,hl ne,S1.env.all,haO,own,d1,?_⟩;rw[e];exact λv H' x m o dn=>hP H' x (S1.chg hxs hj x m o) v dn
 |.error (ag y)=>
  rw[e]at hP;refine⟨EC X O H1 a y,CB λH' x m=>hP H' x (S1.chg0 hxs hj x m),O,a,vs,xs,ds,rfl,hl ne,S1.env.all,haO,own,d1,?_⟩;rw[e];exact λC dx H' x m ed=>⟨C,rfl,x,m,ed⟩
 |.error am=>rw[e]at hP;exact hP.elim
def DY(xs:List D):R (D×List D):=match xs.getLast? with
 |some d=>.ok (d,xs.dropLast)
 |none=>un
def vp(j:Nat):qK:=λρ=>Gq j ρ DY
def HM{x:Str}{npos apos cpos:Pos}(hx:PE X (.Name x npos) (qR j))
  (hbase:Xx (.Name x npos) "pop" X.env (eval (.Name x npos) X.env)=eval (.Name x npos) X.env:=by rfl) (hline:(apos.endLine==cpos.line)=true:=by rfl):
  Kb X j (.Call (.Attribute (.Name x npos) "pop" apos) [] [] cpos) (vp j):=λHb Ob a=>PE.weak (D3 F.plainAttrs_list F.slot_list_pop F.type_list_pop K3 hx hbase hline) λσ H Q Z=>by
 obtain⟨O,ρ,S,hj,haO,hP⟩:=Z;obtain⟨xs,hxs⟩:=lB hP.ne;have e:vp j ρ=DY xs:=fI hxs;rw[e]at hP;unfold DY at hP;obtain⟨a',ha',_,o,vs0,ho,eo,dn⟩:=S.env.own j _ hxs;rw[hj]at ha';cases ha';subst eo;cases hl:xs.getLast? with
 |none=>rw[hl]at hP;exact hP.elim
 |some d=>
  rw[hl]at hP;have hl':xs[vs0.length-1]?=ag d:=by rw[<-dn.length];rw[List.getLast?_eq_getElem?]at hl;exact hl
  obtain⟨v,hv,dv⟩:=dn.get hl';refine⟨.ref a,hj,.inl ⟨rfl,vs0,km.of ho⟩,a,vs0,v,rfl,rfl,ho,hv,?_⟩;exact hP _ (fT.upd _) (S.chg hxs hj (fT.upd _) ⟨.lst vs0.dropLast,bu,trivial⟩ (jt haO dn.dropLast)) v (dv.mono (iA haO))
def dJ(F:qK):aq->R (List D×List D):=λρ=>(F ρ).bind λp=>.ok ([p.1],p.2)
def dI(f:FX)(G:aq->R (List D×List D)):aq->R (List D×List D):=λρ=>(f ρ).bind λd=>(G ρ).bind λp=>.ok (d::p.1,p.2)
def CU{e:WX}{F:qK}(h:Kb X j e F)(hns:noStar e=true:=by rfl):FAM X j [e] (dJ F):=λHb Ob a=>PA.weak (eE (h Hb Ob a) kn (bf hns)) λσ H Q Z=>by
 obtain⟨O,ρ,S,hj,haO,hP⟩:=Z;refine⟨O,ρ,S,hj,haO,?_⟩;have hP:=hV.map (φ:=λd=>[d]) hP;generalize F ρ=r at hP ⊢
 match r,hP with
 |.ok (d,ys),h=>exact λH' x S' v dv=>h H' x S' [v] (bP.mpr ⟨v,[],rfl,dv,cZ.mpr rfl⟩)
 |.error (ag x),h=>exact h
 |.error am,h=>exact h
def EA{e:WX}{es:aS}{f:FX}{G:aq->R (List D×List D)}(he:FE X e f)(h:FAM X j es G)(hns:noStar e=true:=by rfl):FAM X j (e::es) (dI f G):=λHb Ob a=>PA.weak (eE he (h Hb Ob a) (bf hns)) λσ H Q Z=>by
 obtain⟨O,ρ,S,hj,haO,hP⟩:=Z;have hP:hV X Hb Ob O σ ρ j a H ((f ρ).bind λd=>(G ρ).bind λp=>.ok (d::p.1,p.2)) _:=hP;refine⟨O,ρ,S.env,(hP.pre S).imp λd hP v H1 s1 d1=>⟨O,ρ,S.same s1,hj,haO,?_⟩⟩;have hP:=hV.map (φ:=λds=>d::ds) (hP.mono s1);generalize G ρ=r at hP ⊢
 match r,hP with
 |.ok (ds,ys),h=>exact λH' x S' vs dv=>h H' x S' (v::vs) (bP.mpr ⟨v,vs,rfl,d1.mono (x.hid haO),dv⟩)
 |.error (ag x),h=>exact h
 |.error am,h=>exact h
def x6(g:cM)(G:aq->R (List D×List D)):qK:=λρ=>(G ρ).bind λp=>(g p.1).bind λd=>.ok (d,p.2)
def xR{k k':Nat}{ps:af}{g:cM}{G:aq->R (List D×List D)}{x:Str}{p pos:Pos}{e:WX}{es:aS}
  (C:Callee X.prog X.w X.K X.mg X.base k x ps g) (hn:Ar ps.length g) (hr:dG k' X.A) (hk:k<=k') (ha:FAM X j (e::es) G) (hg:Gl X x:=by rfl)
  (hdb:(x==("__debug__":Str))=false:=by decide) (hns:(e::es).all noStar=true:=by rfl):
  Kb X j (.Call (.Name x p) (e::es) [] pos) (x6 g G):=λHb Ob a=>by
 obtain⟨f,fd,F,b,kp,m⟩:=C;refine PE.weak (jy F (hr.mono hk) hg m kp b (ha Hb Ob a) hdb (bf (T6 _ _ ▸ hns).1) (bY (T6 _ _ ▸ hns).2)) λσ H Q Z=>?_;obtain⟨O,ρ,S,hj,haO,hP⟩:=Z;refine⟨O,ρ,S,hj,haO,?_⟩;have hP:=hV.thru (G:=g) hP;generalize G ρ=r at hP ⊢
 match r,hP with
 |.ok (ds,ys),h=>
  intro H1 x S1 vs d1;have h:=h H1 x S1 (by have:=S1.none j;rw[set_set]at this;exact this);exact kd hn S1.env.all d1 (h.imp λd q v H2 s2 d2=>q H2 s2 v d2)
 |.error (ag x),h=>exact h
 |.error am,h=>exact h
def fS(c:Str)(fs:af)(G:aq->R (List D×List D)):qK:=λρ=>(G ρ).bind λp=>(if p.1.length=fs.length then .ok (.obj c fs p.1)else un:R D).bind λd=>.ok (d,p.2)
def Ii{c:Str}{fs ps:af}{k k':Nat}{G:aq->R (List D×List D)}{p pos:Pos}{e:WX}{es:aS}(IA:cz X.prog X.w X.K X.mg X.base k c ps fs)(hr:dG k' X.A)(hk:k+1<=k')(hg:Gl X c)(ha:FAM X j (e::es) G)(hdb:(c==("__debug__":Str))=false:=by decide)
  (hns:(e::es).all noStar=true:=by rfl):Kb X j (.Call (.Name c p) (e::es) [] pos) (fS c fs G):=λHb Ob a=>by
 obtain⟨C,f,fd,h1,h2,h3,h4,h5⟩:=IA;refine PE.weak (yI (dvs:=[]) (E:=E0) h2 h3 (hr.mono hk) hg h5 h4 .nil Ka (ha Hb Ob a) hdb (bf (T6 _ _ ▸ hns).1) (bY (T6 _ _ ▸ hns).2)) λσ H Q Z=>?_;obtain⟨O,ρ,S,hj,haO,hP⟩:=Z;refine⟨O,ρ,S,hj,haO,?_⟩;have hP:=hV.thru (G:=λas=>(if as.length=fs.length then .ok (.obj c fs as)else un:R D)) hP;generalize G ρ=r at hP ⊢
 match r,hP with
 |.ok (as,ys),h=>
  intro H1 y S1 vs d1 x dx hx hd ne;have h:=h H1 y S1 (by have:=S1.none j;rw[set_set]at this;exact this);by_cases hl:as.length=fs.length
  ·rw[ba hl]at h;rw[TJ];refine⟨x,dx,vs,rfl,by rw[<-d1.length,hl],by rw[bu],rfl,?_⟩;obtain⟨sm,dn⟩:=ju h1 hl d1 S1.env.all hx hd ne;exact h _ sm _ dn
  ·rw[br hl]at h;exact h.elim
 |.error (ag x),h=>exact h
 |.error am,h=>exact h
structure GN(X:Cx)(Hb:Hp)(Ob:aD)(j:Nat)(a:WW)(E:Ends)(k:Ks)(r:R D):Prop where
 ne:r≠un
 nx:∀O ρ σ H,bT X.K Hb Ob O H ρ σ->σ[j]?=ag (ag (.ref a))->a∈O->k.nx ρ=r->E.nx σ H
 bk:∀O ρ σ H,bT X.K Hb Ob O H ρ σ->σ[j]?=ag (ag (.ref a))->a∈O->k.bk ρ=r->E.bk σ H
 ct:∀O ρ σ H,bT X.K Hb Ob O H ρ σ->σ[j]?=ag (ag (.ref a))->a∈O->k.ct ρ=r->E.ct σ H
 rt:∀d ys O ρ σ v H,r=.ok (.tup [d,.lst ys])->bT X.K Hb Ob O H ρ σ->σ[j]?=ag (ag (.ref a))->ρ[j]?=ag (ag (.own (.lst ys)))->dS X.K (hid H O) d v->E.rt v H
 ex:∀O ρ σ H x,bT X.K Hb Ob O H ρ σ->a∈O->k.ex x ρ=r->w8 X σ O H x
def Pr(X:Cx)(Hb:Hp)(Ob:aD)(j:Nat)(a:WW)(F:bz):TS:=λE σ H=>∃O ρ k r,bT X.K Hb Ob O H ρ σ/\σ[j]?=ag (ag (.ref a))/\a∈O/\F k ρ=r/\GN X Hb Ob j a E k r
def FM(X:Cx)(j:Nat)(st:WY)(F:bz):Prop:=∀Hb Ob a,PS X st (Pr X Hb Ob j a F)
def Cg(X:Cx)(j:Nat)(st:cU)(F:bz):Prop:=∀Hb Ob a,qW X st (Pr X Hb Ob j a F)
def eQ.onM{Hb:Hp}{Ob O:aD}{a:WW}{H:Hp}{ρ:aq}{σ:St}{E:Ends}{k:Ks}{r:R D}{α:Type}{fr:R α}{G:α->R D}{Q:α->Prop}(h:kE fr k ρ G=r)(hk:GN X Hb Ob j a E k r)(S:bT X.K Hb Ob O H ρ σ)(m:a∈O)(q:∀a,G a=r->Q a):eQ X σ O H fr Q:=by
 match fr,h with
 |.ok a,h=>exact q a h
 |.error (ag x),h=>exact hk.ex O ρ σ H x S m h
 |.error am,h=>exact bt h.symm hk.ne
variable{st:WY}{rest body:cU}
def GZ:Cg X j [] bU:=λHb Ob a=>qW.weak uP λE σ H Z=>by
 obtain⟨O,ρ,k,r,S,hj,m,hF,hk⟩:=Z;exact hk.nx O ρ σ H S hj m hF
def Ec{F1 F2:bz}(h1:FM X j st F1)(h2:Cg X j rest F2):Cg X j (st::rest) (aF F1 F2):=λHb Ob a=>qW.weak (pM (h1 Hb Ob a) (h2 Hb Ob a)) λE σ H Z=>by
 obtain⟨O,ρ,k,r,S,hj,m,hF,hk⟩:=Z;exact⟨O,ρ,{k with nx:=F2 k},r,S,hj,m,hF,hk.ne,λO' ρ' σ' H' S' hj' m' e=>⟨O',ρ',k,r,S',hj',m',e,hk⟩,hk.bk,hk.ct,hk.rt,hk.ex⟩
def HQ{F1:bz}(h1:FM X j st F1):Cg X j [st] F1:=λHb Ob a=>tK (h1 Hb Ob a)
def j5(i j:Nat)(F:bz):bz:=λk ρ=>Gq j ρ λ_=>F k (frz i ρ)
def Hy{F:bz}(i:Nat)(hi:i≠j)(h:Cg X j body F):Cg X j body (j5 i j F):=λHb Ob a=>qW.weak (h Hb Ob a) λE σ H Z=>by
 obtain⟨O,ρ,k,r,S,hj,m,hF,hk⟩:=Z;obtain⟨xs,hxs⟩:=lB (f:=λ_=>F k (frz i ρ)) (by have e:j5 i j F k ρ=_:=hF;unfold j5 at e;rw[e];exact hk.ne);have e:j5 i j F k ρ=F k (frz i ρ):=fI hxs;rw[e]at hF;obtain⟨O',E',sub,gone⟩:=S.frzW i;refine⟨O',frz i ρ,k,r,E',hj,?_,hF,hk⟩;by_cases z:a∈O'
 ·exact z
 ·obtain⟨d,e1,e2⟩:=gone a m z;exact bt (S.env.one i j d _ a e1 hxs e2 hj) hi
def je(j:Nat)(f:FX):bz:=λk ρ=>kE (f ρ) k ρ λd=>Gq j ρ λys=>.ok (.tup [d,.lst ys])
def La{e:WX}{f:FX}(h:FE X e f):FM X j (.Return (ag e) pos) (je j f):=λHb Ob a=>PS.weak (yn h) λE σ H Z=>by
 obtain⟨O,ρ,k,r,S,hj,m,hF,hk⟩:=Z;refine⟨O,ρ,S.env,eQ.onM hF hk S m λd e v H' s' d'=>?_⟩;obtain⟨ys,hys⟩:=lB (by rw[e];exact hk.ne);rw[fI hys]at e;exact hk.rt d ys O ρ σ v H' e.symm (S.same s') hj hys d'
def gr(j:Nat)(F:qK):bz:=λk ρ=>match F ρ with
 |.ok p=>Gq j ρ λ_=>.ok (.tup [p.1,.lst p.2])
 |.error (ag x)=>k.ex x (ρ.set j am)
 |.error am=>un
def Gy{e:WX}{F:qK}(h:Kb X j e F):FM X j (.Return (ag e) pos) (gr j F):=λHb Ob a=>PS.weak (yn (h Hb Ob a)) λE σ H Z=>by
 obtain⟨O,ρ,k,r,S,hj,m,hF,hk⟩:=Z;refine⟨O,ρ,S,hj,m,?_⟩;unfold gr at hF
 match hp:F ρ with
 |.ok (d,ys)=>
  rw[hp]at hF;have hF:Gq j ρ (λ_=>.ok (.tup [d,.lst ys]))=r:=hF;obtain⟨xs,hxs⟩:=lB (by rw[hF];exact hk.ne);rw[fI hxs]at hF;intro H' x S' v dv;exact hk.rt d ys O _ σ v H' hF.symm S' hj (To (List.getElem?_eq_some_iff.mp hxs).1) dv
 |.error (ag y)=>
  rw[hp]at hF;exact λH' x S'=>hk.ex O _ σ H' y S' m hF
 |.error am=>rw[hp]at hF;exact bt hF.symm hk.ne
def dQ(i j:Nat)(F:qK):bz:=λk ρ=>match F ρ with
 |.ok p=>k.nx (setV i p.1 (ρ.set j (ag (.own (.lst p.2)))))
 |.error (ag x)=>k.ex x (ρ.set j am)
 |.error am=>un
def Gw{i:Nat}{x:Str}{e:WX}{F:qK}{pos':Pos}(hij:i≠j)(hN:X.N.Nodup)(hi:X.N[i]?=ag x)(hx:Loc X.env.scope x)(he:Kb X j e F)(hs:swapsWith e (ag (.Name x pos')) pos.line X.env=pure false:=by rfl)(hf:X.fn x=true\/X.env.scope.names.lookup x=ag .local:=by first|exact .inl rfl|exact .inr rfl|assumption):
  FM X j (.Assign [.Name x pos'] e pos) (dQ i j F):=λHb Ob a pins s σ H E I Z=>by
 obtain⟨O,ρ,k,r,S,hj,m,hF,hk⟩:=Z;refine pW hN hi hx (he Hb Ob a) hs hf pins s σ H E I ⟨O,ρ,S,hj,m,?_⟩;have hl:i<σ.length:=by rw[I.len];exact(List.getElem?_eq_some_iff.mp hi).1
 unfold dQ at hF
 match hp:F ρ with
 |.ok (d,ys)=>
  rw[hp]at hF;exact λH' x S' v dv=>hk.nx O _ _ H' (S'.setV hl dv) (by rw[Tp hij];exact hj) m hF
 |.error (ag y)=>
  rw[hp]at hF;exact λH' x S'=>hk.ex O _ σ H' y S' m hF
 |.error am=>rw[hp]at hF;exact bt hF.symm hk.ne
def Lb{i:Nat}{x:Str}{e:WX}{f:FX}{pos':Pos}(hij:i≠j)(hN:X.N.Nodup)(hi:X.N[i]?=ag x)(hx:Loc X.env.scope x)(he:FE X e f)(hs:swapsWith e (ag (.Name x pos')) pos.line X.env=pure false:=by rfl)(hf:X.fn x=true\/X.env.scope.names.lookup x=ag .local:=by first|exact .inl rfl|exact .inr rfl|assumption):
  FM X j (.Assign [.Name x pos'] e pos) (bK i f):=λHb Ob a pins s σ H E I Z=>by
 obtain⟨O,ρ,k,r,S,hj,m,hF,hk⟩:=Z;have hl:i<σ.length:=by rw[I.len];exact(List.getElem?_eq_some_iff.mp hi).1
 exact pW hN hi hx he hs hf pins s σ H E I ⟨O,ρ,S.env,eQ.onM hF hk S m λd e v H1 s1 d1=>hk.nx O _ _ H1 ((S.same s1).setV hl d1) (by rw[Tp hij];exact hj) m e⟩
def Lr{i:Nat}{x:Str}{e:WX}{f:FX}{pos':Pos}(hij:i≠j)(hN:X.N.Nodup)(hi:X.N[i]?=ag x)(hx:Loc X.env.scope x)(he:FN X e f)(hs:swapsWith e (ag (.Name x pos')) pos.line X.env=pure false:=by rfl)(hf:X.fn x=true\/X.env.scope.names.lookup x=ag .local:=by first|exact .inl rfl|exact .inr rfl|assumption):
  FM X j (.Assign [.Name x pos'] e pos) (mh i f):=λHb Ob a pins s σ H E I Z=>by
 obtain⟨O,ρ,k,r,S,hj,m,hF,hk⟩:=Z;have hl:i<σ.length:=by rw[I.len];exact(List.getElem?_eq_some_iff.mp hi).1
 exact pW hN hi hx he hs hf pins s σ H E I ⟨O,ρ,S.env,eQ.onM hF hk S m λd e p H1 s1 hp mo o=>hk.nx _ _ _ H1 (S.setNew hl s1 hp mo o) (by rw[Tp hij];exact hj) (Tl _ m) e⟩
def Ol{c:WX}{a b:cU}{tc:bL}{A B:bz}(hc:FT X c tc)(ha:Cg X j a A)(hb:Cg X j b B):FM X j (.If c a b pos) (fq tc A B):=λHb Ob q=>PS.weak (JV hc (ha Hb Ob q) (hb Hb Ob q)) λE σ H Z=>by
 obtain⟨O,ρ,k,r,S,hj,m,hF,hk⟩:=Z;exact⟨O,ρ,S.env,eQ.onM hF hk S m λz e H1 s1=>by
  cases z with
  |true=>exact qA ⟨O,ρ,k,r,S.same s1,hj,m,e,hk⟩
  |false=>exact qS ⟨O,ρ,k,r,S.same s1,hj,m,e,hk⟩⟩
def GN.loop{Hb:Hp}{Ob O:aD}{a:WW}{H:Hp}{E E':Ends}{k k':Ks}{r:R D}(hk:GN X Hb Ob j a E k r)(b:Base Hb Ob H O)(hn:∀O' ρ' σ' H',bT X.K (lb H O Ob) Ob O' H' ρ' σ'->σ'[j]?=ag (ag (.ref a))->a∈O'->k'.nx ρ'=r->E'.nx σ' H')(hc:∀O' ρ' σ' H',bT X.K (lb H O Ob) Ob O' H' ρ' σ'->σ'[j]?=ag (ag (.ref a))->a∈O'->k'.ct ρ'=r->E'.ct σ' H')
    (eb:k'.bk=k.nx) (ee:k'.ex=k.ex) (Eb:E'.bk=E.nx) (Er:E'.rt=E.rt):GN X (lb H O Ob) Ob j a E' k' r:=
  ⟨hk.ne,hn,fun O' ρ' σ' H' S hj m e=>by rw [Eb]; exact hk.nx O' ρ' σ' H' (S.back b) hj m (by rw [<- eb]; exact e),hc,fun d ys O' ρ' σ' v H' e S hj hys dv=>by rw [Er]; exact hk.rt d ys O' ρ' σ' v H' e (S.back b) hj hys dv,
   λO' ρ' σ' H' x S m e=>hk.ex O' ρ' σ' H' x (S.back b) m (by rw[<-ee];exact e)⟩
def CA{c:WX}{tc:bL}{B:bz}(n:Nat)(hp:Xm (model X.prog X.w) X.A X.env X.xe)(hc:FT X c tc)(hb:Cg X j body B):FM X j (.While c body [] pos) (jf n tc B):=λHb Ob a pins s σ H E I Z=>by
 obtain⟨O,ρ,k,r,S,hj,m,hF,hk⟩:=Z;have hall:qW X body (λE σ H=>∃Hb',Pr X Hb' Ob j a B E σ H):=λpins s σ H E I Z=>Z.e λHb' q=>hb Hb' Ob a pins s σ H E I q;refine vz hp hc hall pins s σ H E I ⟨λm σ H'=>∃O' ρ',bT X.K (lb H O Ob) Ob O' H' ρ' σ/\σ[j]?=ag (ag (.ref a))/\a∈O'/\dM tc B k m ρ'=r,⟨n,O,ρ,S.loop,hj,m,hF⟩,?_⟩;rintro m σ' H' ⟨O',ρ',E',hj',m',hr⟩;cases m with
 |zero=>exact bt hr.symm hk.ne
 |succ m=>
  refine⟨O',ρ',E'.env,?_⟩;have hr':kE (tc ρ') k ρ' (λb=>if b then B ⟨dM tc B k m,k.nx,dM tc B k m,k.ex⟩ ρ' else k.nx ρ')=r:=hr;refine eQ.onM hr' hk (E'.back S.base) m' λb hr H1 s1=>?_;cases b with
  |true=>
   refine qA ⟨λσ2 H2=>∃O' ρ',bT X.K (lb H O Ob) Ob O' H2 ρ' σ2/\σ2[j]?=ag (ag (.ref a))/\a∈O'/\dM tc B k m ρ'=r,λσ2 H2 z=>⟨m,TF m,z⟩,?_⟩;exact⟨lb H O Ob,O',ρ',⟨dM tc B k m,k.nx,dM tc B k m,k.ex⟩,r,E'.same s1,hj',m',hr,hk.loop S.base (λO4 ρ4 σ4 H4 E4 z1 z2 z=>⟨O4,ρ4,E4,z1,z2,z⟩) (λO4 ρ4 σ4 H4 E4 z1 z2 z=>⟨O4,ρ4,E4,z1,z2,z⟩) rfl rfl rfl rfl⟩
  |false=>exact qS (hk.nx O' ρ' σ' H1 ((E'.back S.base).same s1) hj' m' hr)
def Nr{i:Nat}{x m:Str}{id:String}{r:V->aN->Hp->VK->Prop}{u:List D->List D->Option (List D)}{e:WX}{es:aS}{f:aQ}{npos apos cpos pos:Pos}(slot:Slot "list" m id)(hty:typeOf (.builtin id)=pure (.type "method_descriptor"))(hm:OU X id r)(ok:DF X.K r u)(hx:PE X (.Name x npos) (qR i))(he:FA X (e::es) f)
  (hbase:Xx (.Name x npos) m X.env (eval (.Name x npos) X.env)=eval (.Name x npos) X.env:=by rfl)
  (hfew:((backTo cpos (Xb (e::es) X.env)).all (fun x=>!x.1) && (backToKw cpos (Xz [] X.env)).all (fun x=>x.1.isSome)
   && decide ((e::es:aS).length+([]:List X7).length+(if([]:List X7).isEmpty then 0 else 1)<30))=true:=by rfl)
  (hline:(apos.endLine==cpos.line)=true:=by rfl) (hs:Xb (e::es) X.env=(false,eval e X.env)::Xb es X.env:=by rfl) (hplain:(backTo cpos (Xb es X.env)).any (·.1)=false:=by rfl)
  (hsw:swapsWith (.Call (.Attribute (.Name x npos) m apos) (e::es) [] cpos) am pos.line X.env=pure false:=by rfl):
  FM X j (.Expr (.Call (.Attribute (.Name x npos) m apos) (e::es) [] cpos) pos) (Cd i u f):=λHb Ob q pins s σ H E I Z=>by
 obtain⟨O,ρ,k,rr,S,hj,mm,hF,hk⟩:=Z;rcases CV i u f k ρ with⟨xs,hxs,fe⟩|fe<;>rw[fe]at hF
 ·skip
  obtain⟨a,ha,haO,hat⟩:=S.env.own i _ hxs;obtain⟨o,vs0,ho,eo,dn⟩:=hat;subst eo;refine yT (vD F.plainAttrs_list slot hty hm hx he hbase hfew hline hs hplain) hsw pins s σ H E I ⟨.ref a,ha,.inl ⟨rfl,vs0,km.of ho⟩,O,ρ,S.env,eQ.onM hF hk S mm λds hr vs H1 s1 d1=>?_⟩;have S1:=S.same s1;cases hu1:u xs ds with
  |none=>rw[hu1]at hr;exact bt hr.symm hk.ne
  |some ys=>
   rw[hu1]at hr;exact ok H1 O a xs ys ds vs0 vs _ S1.env.all haO (s1 _ _ ho) (dn.mono (ck s1)) d1 hu1 λws' v new=>hk.nx O _ σ _ (S1.setO hxs ha trivial (jt haO new)) hj mm hr
 ·exact bt hF.symm hk.ne
def Dh{x:Str}{e:WX}{es:aS}{f:aQ}{np cpos:Pos}(hc:X.calm=true)(hx:ExcAt X.K X.mg x)(hg:Gl X x)(ha:FA X (e::es) f)
  (hdb:(x==("__debug__":Str))=false:=by decide) (hns:(e::es).all noStar=true:=by rfl):
  FM X j (.Raise (ag (.Call (.Name x np) (e::es) [] cpos)) am pos) (dU x f):=λHb Ob ad pins s σ H E I Z=>by
 obtain⟨O,ρ,k,r,S,hj,mm,hF,hk⟩:=Z;obtain⟨C,cl,hm,hi⟩:=hx;obtain⟨tl,N,nm,q,bs,hdct,sn,sub,ab,col,dd,k0,k1,k2,k3,k5,mN,hC,hN,hni,T⟩:=(yW I.mod.kin hi x).obj;have st:Xb (e::es) X.env=_:=bf (T6 _ _ ▸ hns).1;have plain:(backTo cpos (Xb (e::es) X.env)).any (·.1)=false:=bY hns;refine wpAny_Raise_call_subT (k5:=k5) (k3:=k3) (k2:=k2) (k1:=k1) (k0:=k0) (dd:=dd) (col:=col) (ab:=ab) (sub:=sub) (sn:=sn) (hdct:=hdct) (bs:=bs) (N:=N) (q:=q) (nm:=nm) WL (mN:=mN) (T.hasType PySem.F.excBase_ValueError.hasBase) (I.ok.hd hc) plain hni (gf I hg hm ⟨rfl,?_⟩ hdb);have A1:=ha cpos pins s σ H (λvs H1=>vs.length<=W4/\aO H H1/\k.ex ⟨x,[],[]⟩ ρ=r) I ⟨O,ρ,S.env,eQ.onM hF hk S mm λds e vs H' s' d'=>by
  have z:small ds.length=true:=by
   cases z:small ds.length with
   |true=>rfl
   |false=>rw[z]at e;exact bt e.symm hk.ne
  rw[z]at e;exact⟨by rw[<-d'.length];exact dF z,s',e⟩⟩
 rw[st]at A1 ⊢;refine Calls.evalArgs_plain (cR A1 λus s2 Z=>Z.e λvs Z=>Z.e λH1 Z=>Z.e λI1 Z=>Z.e λrv Z=>Z.e λq1 Z=>Z.e λq2 q3=>⟨rfl,by rw[<-rv.length];exact q1,I1.bk _ _ hC,hN.keeps I1.bk,T.keeps I1.bk,λh' a m=>?_⟩);exact hk.ex O ρ σ H1 _ (S.same q2) mm q3 pins _ _ H1 (I1.kept (t':=s2.toks) m.keeps) (aO.refl H1) ⟨a,C,am,rfl,⟨cl,[],cZ.mpr rfl,rfl,.inl rfl⟩,vk I1 m⟩
def FJ:Cg X j body rY:=λHb Ob a pins s σ H E I Z=>by
 obtain⟨O,ρ,k,rr,S,hj,mm,hF,hk⟩:=Z;exact bt hF.symm hk.ne
def GK:FM X j st rY:=λHb Ob a pins s σ H E I Z=>by
 obtain⟨O,ρ,k,rr,S,hj,mm,hF,hk⟩:=Z;exact bt hF.symm hk.ne
def NV:D->R (List D)
 |.lst xs=>.ok xs
 |_=>un
def mG(g:cM)(f:FX):FX:=λρ=>(f ρ).bind λd=>(NV d).bind λxs=>(dec (g [.lst xs])).bind λp=>.ok p.1
def Aj{k k':Nat}{ps:af}{g:cM}{f:FX}{x:Str}{p pos:Pos}{e:WX}(C:iO X.prog X.w X.K X.mg X.base k x ps g)(hn:Ar ps.length g)(hr:dG k' X.A)(hk:k<=k')(he:FN X e f)(hg:Gl X x:=by rfl)
  (hdb:(x==("__debug__":Str))=false:=by decide) (hns:noStar e=true:=by rfl):FE X (.Call (.Name x p) [e] [] pos) (mG g f):=by
 obtain⟨f',fd,F,b,kp,m⟩:=C;refine PE.weak (jy F (hr.mono hk) hg m kp b (eE he kn (bf hns)) hdb (bf hns) (bY rfl)) λσ H Q Z=>?_;obtain⟨O,ρ,E,hF⟩:=Z;refine⟨O,ρ,E,(eQ.bind hF).imp λd hF p H1 s1 hp mo own=>?_⟩;have hF:=eQ.bind hF;obtain⟨xs,rfl⟩:∃xs,d=.lst xs:=by
  cases d with
  |lst xs=>exact⟨xs,rfl⟩
  |_=>exact hF.elim
 have hF:=eQ.bind (show eQ X σ O H ((dec (g [.lst xs])).bind λp=>.ok p.1) _ from hF);have ne':g [.lst xs]≠un:=λz=>by rw[z]at hF;exact hF
 have len:([V.ref p]:aN).length=ps.length:=hn _ ne';have back:∀{H'},fT p H1 H'->aO H H':=λx b o q=>x b o (aT q hp) (s1 b o q);have less:∀b∈O,b∈p::O:=λb hb=>Tl _ hb;obtain⟨o,ho,mo'⟩:=mo;have oo:=(E.all.same s1).cons ho mo'
 match e:dec (g [.lst xs])with
 |.ok (d,ys)=>
  rw[e]at hF;refine⟨E0,kO,p::O,p,[],xs,[],rfl,len,oo,Tj,own,cZ.mpr rfl,?_⟩;rw[e];exact λv H' x _ _ dn=>hF v H' (back x) (dn.mono (dD less))
 |.error (ag y)=>
  rw[e]at hF;refine⟨sC X O H y,kH hF,p::O,p,[],xs,[],rfl,len,oo,Tj,own,cZ.mpr rfl,?_⟩;rw[e];exact λC dx H' x _ ed=>⟨C,rfl,back x,ed.mono (dD less)⟩
 |.error am=>rw[e]at hF;exact hF.elim
end
def BE(n:Nat):List D->aq
 |[]=>[]
 |d::ds=>ag (.own d)::(ds.map (λd=>ag (.val d))++List.replicate (n-(ds.length+1)) am)
def hW(B:bz)(np n:Nat):cM:=λds=>if ds.length=np then B K0 (BE n ds)else un
def uf{B:bz}{np n:Nat}:Ar np (hW B np n):=λds h=>by
 unfold hW at h;split at h
 ·assumption
 ·exact bt rfl h
def gZ{n:Nat}{d:D}{ds:List D}(i:Nat)(x:S)(e:(BE n (d::ds))[i]?=ag (ag x)):(i=0/\x=.own d)\/∃l d',i=l+1/\ds[l]?=ag d'/\x=.val d':=by
 cases i with
 |zero=>exact .inl ⟨rfl,(Option.some.inj (Option.some.inj e)).symm⟩
 |succ i=>
  have e:(ds.map (λd=>ag (S.val d))++List.replicate (n-(ds.length+1)) am)[i]?=ag (ag x):=e;refine .inr ⟨i,?_⟩;by_cases hi:i<ds.length
  ·rw[TU (by rw[Tz];exact hi),TV,Um hi]at e;exact⟨ds[i],rfl,by rw[Um hi],(Option.some.inj (Option.some.inj e)).symm⟩
  ·rw[TQ (by rw[Tz];omega),Tz,TR]at e;split at e
   ·cases e
   ·cases e
section
variable{P:W1}{w:W0}{K:VC}{mg:bN}{base:W3}
structure JW(P:W1)(w:W0)(K:VC)(mg:bN)(base:W3)(k:Nat)(N:af)(qual:Str)(st:WY)(f:WW)(B:bz):Prop where
 h:∀(cdv:WU)(A:W7)(outer:List Env)(s:WZ)(H:Hp)(E:XK),dG k (A.deeper (Wx qual (ak st) s.heap.objs.size f cdv))->Xm (model P w) (A.deeper (Wx qual (ak st) s.heap.objs.size f cdv)) (Wx qual (ak st) s.heap.objs.size f cdv) (ef (gj P w) P w K mg base N qual (ak st) f cdv A outer s H E).xe->
  Cg (ef (gj P w) P w K mg base N qual (ak st) f cdv A outer s H E) 0 (cO st) B
def Dr{x qual:Str}{st:WY}{f:WW}{fd:XD}{N ps:af}{k:Nat}{B:bz}(F:kc K x qual st f fd)(SC:bp N ps (ak st))(hb:JW P w K mg base k N qual st f B):
  fw P w K mg base (gj P w) (k+1) f fd ps (Qy K ps.length (hW B ps.length N.length)):=by
 refine M2 F SC (λvs H Q E h=>?_) λcdv A outer s H vs Q E hr h=>?_
 ·obtain⟨_,_,_,_,_,_,h1,_⟩:=h;exact h1
 ·obtain⟨O,a,ws,xs,ds,rfl,h1,h2,haO,own,h3,h4⟩:=h;have hl:(D.lst xs::ds).length=ps.length:=by rw[Tw]at h1 ⊢;rw[h3.length];exact h1
  have e4:hW B ps.length N.length (.lst xs::ds)=B K0 (BE N.length (.lst xs::ds)):=by unfold hW;rw[ba hl]
  rw[e4]at h4
  let Hb:Hp:=λb=>if b=a then am else H b
  let Ob:aD:=O.filter λb=>decide (b≠a)
  have hba:Hb a=none:=ba rfl;have hb1:∀b o,b≠a->H b=ag o->Hb b=ag o:=λb o n q=>by show(if b=a then am else H b)=_;rw[br n];exact q
  have sub:∀b∈Ob,b∈O:=λb z=>(List.mem_filter.mp z).1;have na:a∉Ob:=λz=>bt rfl (cr (List.mem_filter.mp z).2);have stG:∀(i:Nat) v,(V.ref a::ws)[i]?=ag v->(L2.start N (V.ref a::ws))[i]?=ag (ag v):=λi v e=>by
   unfold L2.start;have hi:i<(V.ref a::ws).length:=(List.getElem?_eq_some_iff.mp e).1;rw[TU (by rw[Tz];exact hi),TV,e];rfl
  have EO:dy K O H (BE N.length (.lst xs::ds)) (L2.start N (V.ref a::ws)):=by
   refine⟨λi d e=>?_,λi d e=>?_,λi l xs' ys b e1 e2 _ _=>?_,h2⟩
   ·rcases gZ i _ e with⟨_,z⟩|⟨l,d',rfl,e1,z⟩
    ·cases z
    ·cases z;obtain⟨v,e3,e4⟩:=h3.get e1;exact⟨v,stG _ _ e3,e4⟩
   ·rcases gZ i _ e with⟨rfl,z⟩|⟨l,d',rfl,e1,z⟩
    ·cases z;exact⟨a,stG 0 _ rfl,haO,own⟩
    ·cases z
   ·rcases gZ i _ e1 with⟨rfl,_⟩|⟨l',d',rfl,_,z⟩
    ·rcases gZ l _ e2 with⟨rfl,_⟩|⟨l',d',rfl,_,z⟩
     ·rfl
     ·cases z
    ·cases z
  have ES:bT K Hb Ob O H (BE N.length (.lst xs::ds)) (L2.start N (V.ref a::ws)):=by
   refine⟨EO,⟨λb o q=>?_,sub,λb hb=>?_⟩,λi d b e1 e2=>?_,λi d e=>?_⟩
   ·have q:(if b=a then am else H b)=ag o:=q;split at q
    ·cases q
    ·exact q
   ·by_cases z:b=a
    ·rw[z];exact .inr hba
    ·exact .inl (List.mem_filter.mpr ⟨hb,b0 z⟩)
   ·rcases gZ i _ e1 with⟨rfl,_⟩|⟨l',d',rfl,_,z⟩
    ·rw[stG 0 _ rfl]at e2;cases e2;exact⟨hba,na⟩
    ·cases z
   ·rcases gZ i _ e with⟨rfl,z⟩|⟨l',d',rfl,_,z⟩<;>cases z
  refine⟨_,hb.h cdv A outer s H E hr PassesOwn.leaving Hb Ob a,O,_,K0,_,ES,stG 0 _ rfl,haO,rfl,?_⟩;generalize B K0 (BE N.length (.lst xs::ds))=r at h4;have sx:∀{O':aD}{H':Hp},Base Hb Ob H' O'->fT a H H':=λB b o n q=>B.same b o (hb1 b o n q);have le:∀{O':aD}{H':Hp},Base Hb Ob H' O'->a∈O'->∀b∈O,b∈O':=λB m b hb=>by
   by_cases z:b=a
   ·rw[z];exact m
   ·exact B.sub b (List.mem_filter.mpr ⟨hb,b0 z⟩)
  have nu:r≠un:=λz=>by rw[z]at h4;exact h4
  refine⟨nu,λO' ρ' σ' H' S hj m e=>?_,λO' ρ' σ' H' S hj m e=>bt e.symm nu,λO' ρ' σ' H' S hj m e=>bt e.symm nu,λd ys O' ρ' σ' v H' e S hj hys dv=>?_,λO' ρ' σ' H' x S m e=>?_⟩
  ·have e:(.ok .non:R D)=r:=e;rw[<-e]at h4;exact h4.elim
  ·rw[e]at h4;obtain⟨b,q1,q2,q3⟩:=S.env.own 0 _ hys;rw[hj]at q1;cases q1;have l:=le S.base q2;exact h4 v H' (sx S.base) (S.env.all.2 a q2) (q3.mono rfl (dD l)) (dv.mono (dD l))
  ·have e:(.error (ag x):R D)=r:=e;rw[<-e]at h4;have l:=le S.base m;refine Ky λC dx H1 s1 ed=>h4 C dx H1 ((sx S.base).trans (fT.of s1)) ?_ (ed.mono (dD l));obtain⟨o,q,mo⟩:=S.env.all.2 a m;exact⟨o,s1 _ _ q,mo⟩
def yp{x qual:Str}{st:WY}{f:WW}{fd:XD}{N ps:af}{k:Nat}{B:bz}(F:kc K x qual st f fd)(b:Binds K fd ps [])(m:mg x=ag (.ref f))(SC:bp N ps (ak st))(hb:JW P w K mg base k N qual st f B):
  iO P w K mg base (k+1) x ps (hW B ps.length N.length):=⟨f,fd,Dr F SC hb,b,F.kp,m⟩
end
end
section
def lX{M:W9}{Γ:PySem.Ctx}{p:Pos}{t:Sem Fin}{fs:List Frame}{s s':WZ}{e:End}(h:Runs M Γ p t fs s e s'):s.toks<=s'.toks:=by
 induction h<;>first|exact Tt _|assumption|(rename_i ih;exact Tg (TK _) ih)|(rename_i ih1 ih2;exact Tg ih1 ih2)|(simp only[Shared.setGen]at *;omega)
def wp_toks{α:Type}{M:W9}{Γ:PySem.Ctx}{Q:α->Pos->WZ->Prop}{E:WU->Pos->WZ->Prop}:∀{t:Sem α}{p:Pos}{s:WZ},Sem.wp M Γ t (λa p' s'=>s.toks<=s'.toks->Q a p' s') (λa p' s'=>s.toks<=s'.toks->E a p' s') p s->Sem.wp M Γ t Q E p s:=by
 intro t p s h;have go:∀(n:Nat)(p:Pos)(s:WZ),n<=s.toks->Sem.wp M Γ t (λa p' s'=>n<=s'.toks->Q a p' s') (λa p' s'=>n<=s'.toks->E a p' s') p s->Sem.wp M Γ t Q E p s:=by
  intro n;clear h
  induction t with
  |pure a=>exact λp s z h=>h z
  |raise a=>exact λp s z h=>h z
  |unsupported _=>exact λp s z h=>h
  |finish _=>exact λp s z h=>h
  |rule _ k ih=>exact λp s z h=>ih () p s z h
  |«at» q k ih=>exact λp s z h=>ih () q s z h
  |load a _ k ih=>exact λp s z h=>let ⟨o,ho,h⟩:=h;⟨o,ho,ih o p s z h⟩
  |update a _ f k ih=>exact λp s z h=>⟨h.1,ih () p _ z h.2⟩
  |loadIfAlive a k ih=>exact λp s z h=>ih _ p s z h
  |point _ k ih=>exact λp s z h=>ih () p s z h
  |alloc o k ih=>exact λp s z h=>ih _ p _ z h
  |fresh k ih=>exact λp s z h=>ih _ p _ (Nat.le_succ_of_le z) h
  |ask k ih=>exact λp s z h=>ih _ p _ z h
  |stack k ih=>exact λp s z h=>ih _ p _ z h
  |choose src m k ih=>exact λp s z h=>⟨h.1,ih _ p _ z h.2⟩
  |os q l k ih=>exact λp s z h=>ih _ p _ z h
  |call c hd g l k ih=>exact λp s z h=>let ⟨r,s1,hr,h⟩:=h;⟨r,s1,hr,ih r p s1 (Tg z (lX hr)) h⟩
  |handled o k ih=>exact λp s z h=>ih _ p _ z h
  |genState g k ih=>exact λp s z h=>let ⟨st,hs,h⟩:=h;⟨st,hs,ih _ p s z h⟩
  |newGen c k ih=>exact λp s z h=>ih _ p _ z h
  |resume g r l k ih=>
   exact λp s z h=>by
    obtain⟨res,s1,hw,h⟩:=h;refine⟨res,s1,hw,ih _ p s1 (Tg z ?_) h⟩;unfold Wakes at hw;split at hw
    ·exact hw.elim
    ·split at hw
     ·obtain⟨e1,s2,hr,_,_,rfl⟩:=hw;have z:=lX hr;exact z
     ·rw[hw.2];exact Tt _
     ·rw[hw.2];exact Tt _
    ·obtain⟨e1,s2,hr,_,_,rfl⟩:=hw;have z:=lX hr;exact z
    ·rw[hw.2];exact Tt _
    ·rw[hw.2];exact Tt _
  |thread k ih=>exact λp s z h=>ih _ p _ z h
  |_=>exact λp s z h=>h.elim
 exact go s.toks p s (Tt _) h
def tT{α:Type}{M:W9}{A:W7}{t:Sem α}{Q:α->WZ->Prop}{E:WU->WZ->Prop}{s:WZ}(h:Xa M A t (λa s'=>s.toks<=s'.toks->Q a s') (λa s'=>s.toks<=s'.toks->E a s') s):Xa M A t Q E s:=
 λΓ p hi=>wp_toks (h Γ p hi)
def rH{α:Type}:Sem α->Prop
 |.pure _=>False
 |.raise _=>True
 |.unsupported _=>True
 |.finish _=>True
 |.rule _ k=>rH (k ())
 |.at _ k=>rH (k ())
 |.load _ _ k=>∀o,rH (k o)
 |.update _ _ _ k=>rH (k ())
 |.loadIfAlive _ k=>∀o,rH (k o)
 |.point _ k=>rH (k ())
 |.alloc _ k=>∀a,rH (k a)
 |.fresh _=>True
 |.ask k=>∀a,rH (k a)
 |.stack k=>∀a,rH (k a)
 |_=>False
theorem rH.bind{α β:Type}{f:α->Sem β}:∀{m:Sem α},rH m->rH (m >>= f):=λ{m} h=>by
 show rH (m.bind f)
 induction m with
 |pure a=>exact h.elim
 |raise _=>trivial
 |unsupported _=>trivial
 |finish _=>trivial
 |rule _ k ih=>exact ih () h
 |«at» _ k ih=>exact ih () h
 |load _ _ k ih=>exact λo=>ih o (h o)
 |update _ _ g k ih=>exact ih () h
 |loadIfAlive _ k ih=>exact λo=>ih o (h o)
 |point _ k ih=>exact ih () h
 |alloc _ k ih=>exact λo=>ih o (h o)
 |fresh k ih=>trivial
 |ask k ih=>exact λo=>ih o (h o)
 |stack k ih=>exact λo=>ih o (h o)
 |_=>exact h.elim
theorem rH.wp{α:Type}{M:W9}{Γ:PySem.Ctx}{Q:α->Pos->WZ->Prop}{E:WU->Pos->WZ->Prop}{t:Sem α}(d:rH t){p:Pos}{s:WZ}(h:Sem.wp M Γ t (λa p' s'=>0<s'.toks->Q a p' s') E p s):Sem.wp M Γ t Q E p s:=by
 induction t generalizing p s with
 |pure a=>exact d.elim
 |raise a=>exact h
 |unsupported _=>exact h
 |finish _=>exact h
 |rule _ k ih=>exact ih () d h
 |«at» q k ih=>exact ih () d h
 |load a _ k ih=>exact let ⟨o,ho,h⟩:=h;⟨o,ho,ih o (d o) h⟩
 |update a _ f k ih=>exact⟨h.1,ih () d h.2⟩
 |loadIfAlive a k ih=>exact ih _ (d _) h
 |point _ k ih=>exact ih () d h
 |alloc o k ih=>exact ih _ (d _) h
 |fresh k ih=>
  show Sem.wp M Γ (k s.toks) Q E p {s with toks:=s.toks+1};have h:Sem.wp M Γ (k s.toks) (λa p' s'=>0<s'.toks->Q a p' s') E p {s with toks:=s.toks+1}:=h;have h2:Sem.wp M Γ (k s.toks) (λa p' s'=>s.toks+1<=s'.toks->Q a p' s') (λa p' s'=>s.toks+1<=s'.toks->E a p' s') p {s with toks:=s.toks+1}:=by
   refine Sem.wp_mono M Γ (k s.toks) ?_ ?_ p _ h
   ·intro a p' s' x z;exact x (Td (Nat.succ_pos s.toks) z)
   ·intro a p' s' x z;exact x
  exact wp_toks h2
 |ask k ih=>exact ih _ (d _) h
 |stack k ih=>exact ih _ (d _) h
 |_=>exact d.elim
def rH.any{α:Type}{M:W9}{A:W7}{t:Sem α}(d:rH t){Q:α->WZ->Prop}{E:WU->WZ->Prop}{s:WZ}(h:Xa M A t (λa s'=>0<s'.toks->Q a s') E s):Xa M A t Q E s:=
 λΓ p hi=>d.wp (h Γ p hi)
def BL(ns:WW)(x:Str)(v:WU):rH (nsSet ns x v):=by
 unfold nsSet;exact λ_=>trivial
def Bp{env:Env}{x:Str}(v:WU)(hk:env.kindOf x=ag .local)(hc:(env.scope.kind==.class||(env.scope.kind==.module&&env.locals !=env.globals))=false):rH (storeName env x v):=by
 unfold storeName;rw[hk,hc];exact BL _ _ _
def NC{α:Type}:Sem α->Prop
 |.pure _=>True
 |.raise _=>True
 |.unsupported _=>True
 |.finish _=>True
 |.rule _ k=>NC (k ())
 |.at _ k=>NC (k ())
 |.load _ _ k=>∀o,NC (k o)
 |.update _ _ _ k=>NC (k ())
 |.loadIfAlive _ k=>∀o,NC (k o)
 |.point _ k=>NC (k ())
 |.alloc _ k=>∀a,NC (k a)
 |.fresh k=>∀a,NC (k a)
 |.ask k=>∀a,NC (k a)
 |.stack k=>∀a,NC (k a)
 |_=>False
def NC.both{α:Type}{M:W9}{Γ:PySem.Ctx}{Q Q':α->Pos->WZ->Prop}{E E':WU->Pos->WZ->Prop}{t:Sem α}(d:NC t){p:Pos}{s:WZ}(h:Sem.wp M Γ t Q E p s)(h':Sem.wp M Γ t Q' E' p s):Sem.wp M Γ t (λa p s=>Q a p s/\Q' a p s) (λa p s=>E a p s/\E' a p s) p s:=by
 induction t generalizing p s with
 |pure a=>exact⟨h,h'⟩
 |raise a=>exact⟨h,h'⟩
 |unsupported _=>exact h
 |finish _=>exact h
 |rule _ k ih=>exact ih () d h h'
 |«at» q k ih=>exact ih () d h h'
 |load a _ k ih=>
  obtain⟨o,ho,h⟩:=h;obtain⟨o',ho',h'⟩:=h';rw[ho]at ho';cases ho';exact⟨o,ho,ih o (d o) h h'⟩
 |update a _ f k ih=>exact⟨h.1,ih () d h.2 h'.2⟩
 |loadIfAlive a k ih=>exact ih _ (d _) h h'
 |point _ k ih=>exact ih () d h h'
 |alloc o k ih=>exact ih _ (d _) h h'
 |fresh k ih=>exact ih _ (d _) h h'
 |ask k ih=>exact ih _ (d _) h h'
 |stack k ih=>exact ih _ (d _) h h'
 |_=>exact d.elim
def NC.any{α:Type}{M:W9}{A:W7}{t:Sem α}(d:NC t){Q Q':α->WZ->Prop}{E E':WU->WZ->Prop}{s:WZ}(h:Xa M A t Q E s)(h':Xa M A t Q' E' s):Xa M A t (λa s=>Q a s/\Q' a s) (λa s=>E a s/\E' a s) s:=λΓ p hi=>d.both (h Γ p hi) (h' Γ p hi)
def oa{α β:Type}{f:α->Sem β}(hf:∀a,NC (f a)):∀{m:Sem α},NC m->NC (m >>= f):=λ{m} h=>by
 show NC (m.bind f)
 induction m with
 |pure a=>exact hf a
 |raise _=>trivial
 |unsupported _=>trivial
 |finish _=>trivial
 |rule _ k ih=>exact ih () h
 |«at» _ k ih=>exact ih () h
 |load _ _ k ih=>exact λo=>ih o (h o)
 |update _ _ g k ih=>exact ih () h
 |loadIfAlive _ k ih=>exact λo=>ih o (h o)
 |point _ k ih=>exact ih () h
 |alloc _ k ih=>exact λo=>ih o (h o)
 |fresh k ih=>exact λo=>ih o (h o)
 |ask k ih=>exact λo=>ih o (h o)
 |stack k ih=>exact λo=>ih o (h o)
 |_=>exact h.elim
def FU(ns:WW)(x:Str)(v:WU):NC (nsSet ns x v):=by
 unfold nsSet;refine oa (λh=>?_) (λ_=>trivial);refine oa (λk=>?_) (λ_=>trivial);refine oa (λo=>?_) (λ_=>trivial);split
 ·split
  ·trivial
  ·trivial
 ·trivial
def Cr{env:Env}{x:Str}(v:WU)(hk:env.kindOf x=ag .local)(hc:(env.scope.kind==.class||(env.scope.kind==.module&&env.locals !=env.globals))=false):NC (storeName env x v):=by
 unfold storeName;rw[hk,hc];exact FU _ _ _
def rH.bindR{α β:Type}{f:α->Sem β}(hf:∀a,rH (f a)):∀{m:Sem α},NC m->rH (m >>= f):=λ{m} h=>by
 show rH (m.bind f)
 induction m with
 |pure a=>exact hf a
 |raise _=>trivial
 |unsupported _=>trivial
 |finish _=>trivial
 |rule _ k ih=>exact ih () h
 |«at» _ k ih=>exact ih () h
 |load _ _ k ih=>exact λo=>ih o (h o)
 |update _ _ g k ih=>exact ih () h
 |loadIfAlive _ k ih=>exact λo=>ih o (h o)
 |point _ k ih=>exact ih () h
 |alloc _ k ih=>exact λo=>ih o (h o)
 |fresh k ih=>trivial
 |ask k ih=>exact λo=>ih o (h o)
 |stack k ih=>exact λo=>ih o (h o)
 |_=>exact h.elim
theorem wy{α β:Type}{f:α->β->Sem (ForInStep β)}(hf:∀a b,NC (f a b)):∀(l:List α)(b:β),NC (forIn l b f)
 |[],b=>by rw[UG];trivial
 |a::l,b=>by
  rw[Uc];refine oa (λr=>?_) (hf a b);cases r with
  |done b=>trivial
  |yield b=>exact wy hf l b
def IR{scope:W8}{g:WW}{x qual:Str}{v code:WU}{r:List (Str×WU)}{func:Option WW}{b:WW}(hk:scope.kind=.function)(hx:scope.names.lookup x=ag .local):rH (newFunctionEnv scope g [] ((x,v)::r) qual func code am b):=by
 unfold newFunctionEnv;refine rH.bindR (λL=>?_) (λ_=>trivial);refine rH.bindR (λcells=>?_) (wy (λa c=>?_) _ _)
 ·dsimp only;rw[Uc];refine rH.bind (rH.bind (rH.bind (Bp v ?_ ?_)))
  ·exact hx
  ·show(scope.kind==.class||(scope.kind==.module&&_))=false;rw[hk];rfl
 ·dsimp only;split
  ·exact λ_=>trivial
  ·trivial
open PyProof.Rows hiding St
def Li(X:Cx)(st:cU)(t:TS):Prop:=
 ∀(pins:bg)(s:WZ)(σ:St)(H:Hp)(D:Ends),Inv X pins σ H s->0<s.toks->t D σ H->Xa (model X.prog X.w) X.A (execs st X.env) (SP X pins D) X.xe s
def Lz{CX:vL}{P:W1}{w:W0}{K:VC}{mg:bN}{base:W3}{k:Nat}{f:WW}{name qual:Str}{params:Arguments}{body:cU}{scope:W8}{dV kV doc pm cdv ct oc:WU}{an od:Option WW}
  {osl:Array (Option WU)} {N ps:af} {sp:Sp} (lk:K.lookup f=ag ⟨oc,od,.func (V1 name qual params body scope dV kV doc pm an cdv ct),osl⟩) (hcd:V2 K cdv qual=true) (S:bp N ps scope) (hp0:∃x0 r,ps=x0::r/\scope.names.lookup x0=ag .local)
  (len:∀vs H Q E,sp vs H Q E->vs.length=ps.length)
  (hbody:∀ (A:W7) (outer:List Env) (s:WZ) (H:Hp) (vs:aN) (Q:VK) (E:XK),dG k (A.deeper (envOfC qual scope s.heap.objs.size f cdv))->sp vs H Q E ->
   ∃t,Li (ef CX P w K mg base N qual scope f cdv A outer s H E) body t/\t {nx:=λ_ H'=>Q .non H',rt:=Q} (start N vs) H):
  fw P w K mg base CX (k+1) f (V1 name qual params body scope dV kV doc pm an cdv ct) ps sp:=by
 refine⟨len,λA outer s H args us vs Q E hr e0 hb r hsp=>?_⟩;have hl:=len _ _ _ _ hsp;have KX:K.In s.heap:=e0.mod.kin.keeps λb o e=>(e0.bs b o e).1;have lim:s.heap.NoLimit:=e0.mod.nolimit.keeps λb o e=>(e0.bs b o e).1;have hkind:∀y∈ps.zip us,scope.names.lookup y.1=ag .local\/(scope.names.lookup y.1=ag .cell/\((cellsFrom (s.heap.objs.size+1) scope.names []).lookup y.1).isSome=true):=λ⟨n,v⟩ hy=>by
  rcases S.par n (TL hy).1 with q|q
  ·exact .inl q
  ·exact .inr ⟨q,V0 _ _ _ (.inl q)⟩
 refine codeAny_call_function hr.depth (KX _ _ lk) rfl S.co S.gen rfl (V3 KX hcd) (hb _ _ _ _ ?_);obtain⟨x0,r0,rfl,hx0⟩:=hp0;obtain⟨u0,ur,eu⟩:∃u0 ur,us=u0::ur:=by
  have hlu:=r.length;cases us with
  |nil=>rw[hl]at hlu;cases hlu
  |cons a b=>exact⟨a,b,rfl⟩
 refine rH.any ?tk (XR S.kind hkind λenv he s1 x tk0=>?_)
 case tk=>subst eu;exact IR S.kind hx0
 subst he;refine⟨lim.keeps x.toInCall.keep,codeAny_func ?_⟩;obtain⟨t,ht,hq⟩:=hbody A outer s H vs Q E (hr.deeper _) hsp;have I:Inv (ef CX P w K mg base N qual scope f cdv A outer s H E) [] (start N vs) H s1:=rG S hr.hd e0 hl r x;refine Xc (ht [] s1 (start N vs) H _ I tk0 hq) (λfl s' hs=>?_) λe s' hs=>hs;have fin:∀{σ':St}{H':Hp}{v:V}{u:WU},Inv (ef CX P w K mg base N qual scope f cdv A outer s H E) [] σ' H' s'->RelV v u->Q v H'->CE outer P w H s Q u s':=
  λ{σ' H' v u} J rv q=>⟨v,H',J.os,J.bare,J.base,J.hok,rv,q⟩
 cases fl with
 |ret u=>
  obtain⟨v,σ',H',J,rv,q⟩:=hs;exact fin J rv q
 |next=>
  obtain⟨σ',H',J,q⟩:=hs;exact fin (v:=V.non) (u:=Value.none) J rfl q
 |brk=>
  obtain⟨_,_,_,q⟩:=hs;exact False.elim q
 |cont=>
  obtain⟨_,_,_,q⟩:=hs;exact False.elim q
def qd{X:Cx}{pins:bg}{σ:L2.St}{H:Hp}{s:WZ}{x:Str}{m:bN}{u:WU}{pos:Pos}{Q:bI}{E:bI}(I:Inv X pins σ H s)(hk:X.env.scope.names.lookup x=ag .local)(hn:s.heap.Ns X.env.locals m)(hm:m x=ag u)(h:Q u s)(hd:(x==("__debug__":Str))=false:=by decide):
  Xa (model X.prog X.w) X.A (eval (.Name x pos) X.env) Q E s:=Xd (wpAny_loadName_local I.ok.kind hk hn hm h) hd
def zp{prog:W1}{w:W0}{A:W7}{E:bI}{s:WZ}{x y:Str}{t u:Tok}{Q:bI}(hx:x.length≠0)(hy:y.length≠0)(hz:(x++y).length<=W4)(h:Q (.str (x++y) s.toks) {s with toks:=s.toks+1}):
  Xa (model prog w) A (Xs .Add (.str x t) (.str y u)) Q E s:=by
 refine PySem.P.add_str ?_;rw[br (by simp[hx]),br (by simp[hy])];exact⟨hz,h⟩
noncomputable def tY(c:Str):Str:=((" ":Str)++c)++(" ":Str)
def Hc(c:Str):(tY c).length=c.length+2:=by
 unfold tY Str.length;show(_++_++_:Str).cps.size=_;show((((" ":Str).cps++c.cps)++(" ":Str).cps).size)=_;rw[Array.size_append,Array.size_append]
 have:(" ":Str).cps.size=1:=by decide
 omega
section
variable{X:Cx}{pins:bg}{σ:L2.St}{H:Hp}{s:WZ}{i:Nat}{xt xb y c:Str}{tk:Tok}{m:bN}{E:bI}{p1 p2 p3 p4 p5 p6 p7 p8:Pos}{k1 k2:Nat}
def Bq(I:Inv X pins σ H s)(hi:X.N[i]?=ag xt)(ht:X.env.scope.names.lookup xt=ag .local)(hb:X.env.scope.names.lookup xb=ag .local)(hn:s.heap.Ns X.env.locals m)(hm:m xb=ag (.str c tk))(h0:0<tk)(h1:tk<s.toks)(hy:σ[i]?=ag (ag (.str y)))(hl:y.length<=100000)(hc:c.length=1)
  {Q:bI} (hQ:∀t k,Q (.str (Txt.replace y c (tY c)) t) {s with toks:=k})
  (hdt:(xt==("__debug__":Str))=false:=by decide) (hdb:(xb==("__debug__":Str))=false:=by decide)
  (hbase:Xx (.Name xt p1) "replace" X.env (eval (.Name xt p1) X.env)=eval (.Name xt p1) X.env:=by rfl)
  (hfew:((backTo p8 (Xb [.Name xb p3,.BinOp (.BinOp (.Constant (.str " ") k1 p4) .Add (.Name xb p5) p6) .Add (.Constant (.str " ") k2 p7) p2] X.env)).all (fun x=>!x.1) && (backToKw p8 (Xz [] X.env)).all (fun x=>x.1.isSome)
   && decide (([.Name xb p3,.BinOp (.BinOp (.Constant (.str " ") k1 p4) .Add (.Name xb p5) p6) .Add (.Constant (.str " ") k2 p7) p2]:aS).length+([]:List X7).length+(if([]:List X7).isEmpty then 0 else 1)<30))=true:=by rfl)
  {apos:Pos} (hline:(apos.endLine==p8.line)=true:=by rfl):
  Xa (model X.prog X.w) X.A (eval (.Call (.Attribute (.Name xt p1) "replace" apos) [.Name xb p3,.BinOp (.BinOp (.Constant (.str " ") k1 p4) .Add (.Name xb p5) p6) .Add (.Constant (.str " ") k2 p7) p2] [] p8) X.env) Q E s:=by
 refine X8 hbase hfew hline rfl ?_;obtain⟨m',hn',hl'⟩:=I.loc;obtain⟨u,ru,lk⟩:=hl' i xt _ hi hy (.inl ht);obtain⟨t,rfl⟩:=ru;rcases lk with⟨hk,hmt⟩|⟨hk,_⟩
 rotate_left
 ·rcases hk with hk|hk<;>(have z:X.env.scope.names.lookup xt=_:=hk;rw[ht]at z;cases z)
 refine qd I ht hn' hmt ?_ hdt;refine⟨"str","str.replace",WM,WN,WO,X6 _ _ _,?_,?_⟩
 ·exact(λo z=>nomatch z)
 refine Calls.callWith_builtin (by rfl) (Calls.evalArgs_plain ?_);refine Calls.spliced_cons (qd I hb hn hm ?_ hdb);refine Calls.spliced_cons (Xt (Xt (Calls.Constant_str (qd (I.tok _) hb hn hm ?_ hdb))));have hs:(" ":Str).length=1:=by decide
 have a1:((" ":Str)++c).length=2:=by
  show((" ":Str).cps++c.cps).size=2;rw[Array.size_append];have e1:(" ":Str).cps.size=1:=by decide
  have e2:c.cps.size=1:=hc;omega
 have a2:=Hc c;refine zp (by rw[hs];decide) (by rw[hc];decide) (by rw[a1,Xu];decide) ?_;refine Calls.Constant_str ?_;refine zp (by rw[a1];decide) (by rw[hs];decide) ?_ ?_
 ·show(tY c).length<=_;rw[a2,hc,Xu];decide
 refine Calls.spliced_nil ?_;have nt:tk≠0:=Tr h0;refine SC.replace nt ?_ ?_ ?_ ?_ λt' k=>hQ t' k
 ·show(s.toks+1+1+1:Nat)≠0;omega
 ·show(tk:Nat)≠(s.toks+1+1+1:Nat);exact Tf (Td h1 (UK s.toks 3))
 ·show(c==tY c)=false;cases h:c==tY c with
  |false=>rfl
  |true=>
   have e:=eq_of_beq h
   have:c.length=(tY c).length:=(by rw[<-e]);omega
 ·show y.length+(y.length+1)*(tY c).length<=_;rw[a2,hc];omega
end
variable[ay]
def iW:bJ->Str->Option Str
 |[],y=>ag y
 |c::cs,y=>if y.length<=100000 then iW cs (Txt.replace y ⟨#[c]⟩ (tY ⟨#[c]⟩))else am
def D8(i j:Nat)(bs:Str):bz:=λk ρ=>match ρ[i]? with
 |some (ag (.val (.str y)))=>match iW bs.cps.toList y with
  |some z=>k.nx (setV i (.str z) (ρ.set j am))
  |none=>un
 |_=>un
section
variable{X:Cx}{i j:Nat}{xt xb xB bs:Str}{tb:Tok}{p0 p1 p2 p3 p4 p5 p6 p7 p8 p9 p10 p11 p12:Pos}{k1 k2:Nat}
def IH(hij:i≠j)(hN:X.N.Nodup)(hi:X.N[i]?=ag xt)(hj:X.N[j]?=ag xb)(ht:X.env.scope.names.lookup xt=ag .local)(hb:X.env.scope.names.lookup xb=ag .local)(hg:Gl X xB)(hm:X.mg xB=ag (.str bs tb))(ha:bs.cps.all (·<128)=true)
  (hp:Xm (model X.prog X.w) X.A X.env X.xe) (hc:X.calm=true)
  (hdt:(xt==("__debug__":Str))=false:=by decide) (hdb:(xb==("__debug__":Str))=false:=by decide) (hdB:(xB==("__debug__":Str))=false:=by decide)
  (hbase:Xx (.Name xt p1) "replace" X.env (eval (.Name xt p1) X.env)=eval (.Name xt p1) X.env:=by rfl)
  (hfew:((backTo p8 (Xb [.Name xb p3,.BinOp (.BinOp (.Constant (.str " ") k1 p4) .Add (.Name xb p5) p6) .Add (.Constant (.str " ") k2 p7) p2] X.env)).all (fun x=>!x.1) && (backToKw p8 (Xz [] X.env)).all (fun x=>x.1.isSome)
   && decide (([.Name xb p3,.BinOp (.BinOp (.Constant (.str " ") k1 p4) .Add (.Name xb p5) p6) .Add (.Constant (.str " ") k2 p7) p2]:aS).length+([]:List X7).length+(if([]:List X7).isEmpty then 0 else 1)<30))=true:=by rfl)
  {apos:Pos} (hline:(apos.endLine==p8.line)=true:=by rfl)
  (hsw:swapsWith (.Call (.Attribute (.Name xt p1) "replace" apos) [.Name xb p3,.BinOp (.BinOp (.Constant (.str " ") k1 p4) .Add (.Name xb p5) p6) .Add (.Constant (.str " ") k2 p7) p2] [] p8) (ag (.Name xt p9)) p10.line X.env=pure false:=by rfl)
  (hs:∀x,Xr (.Name xB p11) X.env x=pure x:=by intro _;rfl)
  (Hb:Hp) (Ob:aD) (pins:bg) (s:WZ) (σ:L2.St) (H:Hp) (E:Ends) (I:Inv X pins σ H s) (tk:0<s.toks) (Z:Hi X Hb Ob (D8 i j bs) E σ H):
  Xa (model X.prog X.w) X.A (exec (.For (.Name xb p12) (.Name xB p11) [.Assign [.Name xt p9] (.Call (.Attribute (.Name xt p1) "replace" apos) [.Name xb p3,.BinOp (.BinOp (.Constant (.str " ") k1 p4) .Add (.Name xb p5) p6) .Add (.Constant (.str " ") k2 p7) p2] [] p8) p10] [] p0) X.env) (SP X pins E) X.xe s:=by
 obtain⟨O,ρ,k,r,S,hF,hk⟩:=Z;obtain⟨y0,hy0,z,hz,hF⟩:∃y,ρ[i]?=ag (ag (.val (.str y)))/\∃z,iW bs.cps.toList y=ag z/\k.nx (setV i (.str z) (ρ.set j am))=r:=by
  unfold D8 at hF;split at hF
  ·rename_i y hy;split at hF
   ·rename_i z hz;exact⟨y,hy,z,hz,hF⟩
   ·exact bt hF.symm hk.ne
  ·exact bt hF.symm hk.ne
 obtain⟨v0,hv0,dv0⟩:=S.env.val i _ hy0;rw[eM]at dv0;subst dv0;have hcls:(X.env.scope.kind==.class||(X.env.scope.kind==.module&&X.env.locals !=X.env.globals))=false:=by rw[I.ok.kind];rfl
 refine wpAny_For (gf I hg hm (wpAny_pyIter_ascii ha ?_) hdB) hs
 let it:WW:=s.heap.objs.size
 have I1:Inv X pins σ H {s with heap:=s.heap.push {cls:=.type "str_ascii_iterator",data:=.fields #[.str bs tb,.int 0 0]}}:=I.kept (t':=s.toks) λb o e=>Wp _ e;have f0:nD X pins H it:=I.fpOk (Tt _) (I.hok.fresh (Tt _));have hiσ:i<σ.length:=by rw[I.len];exact(List.getElem?_eq_some_iff.mp hi).1
 have S0:bT X.K Hb Ob O H (setV i (.str y0) (ρ.set j am)) σ:=by
  have:=(S.none j).setV hiσ (d:=.str y0) (v:=.str y0) (eM.mpr rfl)
  have e:σ.set i (ag (.str y0))=σ:=by
   apply U2;intro n;rw[List.getElem?_set];split
   ·rename_i h;subst h;exact hv0.symm
   ·rfl
  rw[e]at this;exact this
 refine codeAny_forLoop_any (λn s'=>∃q σ' y,Inv X pins σ' H s'/\s'.heap.IsStrIter it "str_ascii_iterator" bs tb q/\0<s'.toks/\n=bs.cps.size-q/\bT X.K Hb Ob O H (setV i (.str y) (ρ.set j am)) σ'/\σ'[i]?=ag (ag (.str y))/\iW (bs.cps.toList.drop q) y=ag z) ?_ bs.cps.size
  ⟨0,σ,y0,I1,⟨_,Wm _ rfl,rfl,rfl⟩,tk,(Uy _).symm,S0,hv0,by rw[Ui];exact hz⟩
 rintro n s3 ⟨q,σ3,y,I3,st3,tk3,rfl,S3,hy3,hr⟩;by_cases hq:q<bs.cps.size
 ·have hx:bs.cps[q]?=ag bs.cps[q]:=by simp[hq]
  have hd:bs.cps.toList.drop q=bs.cps[q]::bs.cps.toList.drop (q+1):=by
   rw[UA (by simpa using hq)];simp
  rw[hd]at hr;have hyl:y.length<=100000:=by
   unfold iW at hr;split at hr
   ·assumption
   ·cases hr
  have hr2:iW (bs.cps.toList.drop (q+1)) (Txt.replace y ⟨#[bs.cps[q]]⟩ (tY ⟨#[bs.cps[q]]⟩))=ag z:=by
   unfold iW at hr;rw[ba hyl]at hr;exact hr
  have hjσ:∀{σ':L2.St}{s':WZ}{pp:bg},Inv X pp σ' H s'->j<σ'.length/\i<σ'.length:=λJ=>by
   rw[J.len];exact⟨(List.getElem?_eq_some_iff.mp hj).1,(List.getElem?_eq_some_iff.mp hi).1⟩
  refine Xn hp (Ys st3 hx λh4 st4 sb=>?_);have I4:Inv X pins σ3 H {s3 with heap:=h4,toks:=s3.toks+1}:=I3.turned (λb o hb e=>(sb.2 b hb).trans e) f0.1 f0.2.1 f0.2.2.2.1 f0.2.2.2.2.1 f0.2.2.2.2.2;obtain⟨oi,ei,ci,di⟩:=id st4;refine Xn hp (wJ (s:={s3 with heap:=h4,toks:=s3.toks+1}) ei ci di (by decide) ?_);have I4':=I4.pinned (fp:=[it]) (λb hb=>by rw[List.mem_singleton.mp hb];exact f0) (λb hb=>⟨oi,by rw[List.mem_singleton.mp hb];exact ei,λv e=>by rw[di]at e;cases e⟩);have mp:(it,oi)∈j9 [it] h4:=gA (List.mem_singleton.mpr rfl) ei;refine Xn hp (Xl ?_);obtain⟨m4,hn4,_⟩:=id I4'.loc;have st1:=jm (M:=model X.prog X.w) (A:=X.A) (E:=X.xe) (u:=.str ⟨#[bs.cps[q]]⟩ s3.toks) (Q:=λ_ s'=>Inv X (pins++j9 [it] h4) (σ3.set j (ag (.str ⟨#[bs.cps[q]]⟩))) H s') I4' hN hj (.inl hb) (v:=.str ⟨#[bs.cps[q]]⟩) ⟨_,rfl⟩ (λs' I'=>I') (.inr hb);have st2:Xa (model X.prog X.w) X.A (storeName X.env xb (.str ⟨#[bs.cps[q]]⟩ s3.toks)) (λ_ s'=>∃m,s'.heap.Ns X.env.locals m/\m xb=ag (.str ⟨#[bs.cps[q]]⟩ s3.toks)) X.xe {s3 with heap:=h4,toks:=s3.toks+1}:=wpAny_storeName_local hb hn4 (λh' hn' hs=>⟨_,hn',by simp⟩) hcls;refine tT (Xc (NC.any (Cr _ hb hcls) st1 st2) (λ_ s5 z5 tk5=>?_) λ_ s5 z5 _=>z5.1);obtain⟨I5,m5,hn5,hm5⟩:=z5;have tk5:s3.toks+1<=s5.toks:=tk5;refine Xn hp (tT ?_);refine Xk (wpAny_Assign_Name ?_ hsw);obtain⟨hj3,hi3⟩:=hjσ I3;refine Bq I5 hi ht hb hn5 hm5 tk3 (Td (TF _) tk5) (by rw[Tp (Ne.symm hij)];exact hy3) hyl rfl (λt' k'=>?_) hdt hdb hbase hfew hline;refine jm (v:=.str (Txt.replace y ⟨#[bs.cps[q]]⟩ (tY ⟨#[bs.cps[q]]⟩))) (I5.tok k') hN hi (.inl ht) ⟨_,rfl⟩ (λs7 I7=>?_) (.inr ht);refine Xj λtk7=>⟨bs.cps.size-(q+1),by omega,q+1,_,_,I7.unpinned,?_,?_,rfl,?_,?_,hr2⟩
  ·exact⟨oi,(I7.pin _ (Tu _ (Tu _ mp))).1,ci,di⟩
  ·have z:s5.toks<=s7.toks:=tk7;omega
  ·have S4:=((S3.setV hj3 (d:=.str ⟨#[bs.cps[q]]⟩) (v:=.str ⟨#[bs.cps[q]]⟩) (eM.mpr rfl)).none j).setV (i:=i) (by rw[Uz];exact hi3) (d:=.str (Txt.replace y ⟨#[bs.cps[q]]⟩ (tY ⟨#[bs.cps[q]]⟩))) (v:=.str (Txt.replace y ⟨#[bs.cps[q]]⟩ (tY ⟨#[bs.cps[q]]⟩))) (eM.mpr rfl);have e:setV i (.str (Txt.replace y ⟨#[bs.cps[q]]⟩ (tY ⟨#[bs.cps[q]]⟩))) ((setV j (.str ⟨#[bs.cps[q]]⟩) (setV i (.str y) (ρ.set j am))).set j am)=setV i (.str (Txt.replace y ⟨#[bs.cps[q]]⟩ (tY ⟨#[bs.cps[q]]⟩))) (ρ.set j am):=by
    unfold setV;rw[U1,List.set_comm _ _ hij,U1,U1]
   rw[e]at S4;exact S4
  ·rw[To (by rw[Uz];exact hi3)]
 ·have hx:bs.cps[q]?=none:=by simp;omega
  refine Xn hp (wpAny_pyNext_ascii_end (I3.ok.hd hc) st3 hx λh' eb=>?_);have I4:Inv X pins σ3 H {s3 with heap:=h'}:=I3.turned (t':=s3.toks) (λb o hb e=>eb b o hb e) f0.1 f0.2.1 f0.2.2.2.1 f0.2.2.2.2.1 f0.2.2.2.2.2;refine Xj ⟨σ3,H,I4,hk.nx O _ σ3 H S3 ?_⟩
  have:bs.cps.toList.drop q=[]:=by apply List.drop_of_length_le;simp;omega
  rw[this]at hr;cases hr;exact hF
end
def BQ{prog:W1}{w:W0}{A:W7}{E:bI}{s:WZ}{x:Str}{t:Tok}{Q:bI}(hsz:x.length+2<=W4)
  (h:∀l k,l.map (·.1)=Txt.words x->Q (.ref s.heap.objs.size) {s with heap:=s.heap.push {cls:=.type "list",data:=.seq (strValues l).toArray},toks:=k}):
  Xa (model prog w) A (call (.builtin "str.split") [.str x t]) Q E s:=by
 have hn:(Builtin.Str.spaceWords x (x.length+1)).length<=W4:=by
  have e1:=(StrLaws.sw_weight x).1;have e2:=StrLaws.len_le_wsum (Builtin.Str.spaceWords x (x.length+1));omega
 refine call_meets WP (X6 _ _ _) PySem.F.entry_str_split (PySem.F.args_str_split_1 _) (meets_str_split_space x t ‹0› hn) ?_;cases hw:Builtin.Str.spaceWords x (x.length+1)==[(0,x.length)]
 ·simp only[Ud,if_false];rw[strsFrom_eq];exact h (numbered s.toks (wordsOf x)) _ ((numbered_texts _ _).trans (br (ne_true_of_eq_false hw)).symm)
 ·simp only[if_true];exact h [(x,t)] s.toks (ba hw).symm
theorem pI:∀l:List (Str×Tok),Vals ((l.map (·.1)).map V.str) (strValues l)
 |[]=>.nil
 |(x,t)::l=>.cons ⟨t,rfl⟩ (pI l)
def sB(x:Str):(Txt.words x).length<=x.length+1:=by
 have:=StrLaws.words_weight x
 omega
def oI:D->bE
 |.str x=>if x.length<=100000 then ag (.lst ((Txt.words x).map .str))else am
 |_=>am
def Bh{X:Cx}:MK X "str.split" (λx xs H Q=>∃z,x=.str z/\xs=[]/\z.length<=100000/\∀p,H p=am->Q (.ref p) (upd H p (.lst ((Txt.words z).map .str)))):=by
 rintro pins s σ H x xs v us Q I rx rs ⟨z,rfl,rfl,hz,q⟩;obtain⟨t,rfl⟩:=rx;cases rs;have wl:=sB z;refine BQ (by rw[Xu];omega) λl k e=>⟨.ref s.heap.objs.size,_,I.lnew (its:=strValues l) (t':=k) (ys:=(Txt.words z).map .str) ?_ ?_,rfl,q _ I.fresh⟩
 ·rw[<-e];exact pI l
 ·rw[Tz,Xu];omega
def B9{X:Cx}{a:WX}{fa:FX}{apos cpos:Pos}(ha:FE X a fa)(hbase:Xx a "split" X.env (eval a X.env)=eval a X.env:=by rfl)(hline:(apos.endLine==cpos.line)=true:=by rfl):
  FE X (.Call (.Attribute a "split" apos) [] [] cpos) (f1 oI fa):=
 PE.weak (D3 WM WP PySem.F.type_str_split Bh ha hbase hline) λσ H Q Z=>by
  obtain⟨O,ρ,E,hF⟩:=Z;refine⟨O,ρ,E,(eQ.bind hF).imp λx hF v H1 s1 d1=>?_⟩;obtain⟨d,e,q⟩:=eQ.rO hF;cases x with
  |str z=>
   have e:(if z.length<=100000 then ag (D.lst ((Txt.words z).map .str))else am)=ag d:=e;by_cases hz:z.length<=100000
   ·rw[ba hz]at e;cases e;rw[eM.mp d1];refine⟨rfl,z,rfl,rfl,hz,λp hp=>?_⟩;exact q _ _ (s1.trans (dr hp _)) (gL (E.all.same s1) hp (kx _))
   ·rw[br hz]at e;cases e
  |_=>cases e
def OM(X:Cx)(st:WY)(F:bz):Prop:=∀(Hb:Hp)(Ob:aD)(pins:bg)(s:WZ)(σ:L2.St)(H:Hp)(E:Ends),Inv X pins σ H s->0<s.toks->Hi X Hb Ob F E σ H->Xa (model X.prog X.w) X.A (exec st X.env) (SP X pins E) X.xe s
def yC(X:Cx)(st:cU)(F:bz):Prop:=∀(Hb:Hp)(Ob:aD),Li X st (Hi X Hb Ob F)
def B1{X:Cx}{st:WY}{rest:cU}{F1 F2:bz}(h1:OM X st F1)(h2:Nu X rest F2):yC X (st::rest) (aF F1 F2):=λHb Ob pins s σ H D I tk Z=>by
 obtain⟨O,ρ,k,r,S,hF,hk⟩:=Z;refine Xk (cR (h1 Hb Ob pins s σ H {D with nx:=Hi X Hb Ob F2 D} I tk ⟨O,ρ,{k with nx:=F2 k},r,S,hF,hk.ne,λO' ρ' σ' H' S' e=>⟨O',ρ',k,r,S',e,hk⟩,hk.bk,hk.ct,hk.rt,hk.ex⟩) λf s1 q=>?_);cases f with
 |next=>
  obtain⟨σ',H',I',q⟩:=q;exact h2 Hb Ob pins s1 σ' H' D I' q
 |ret v=>exact q
 |brk=>exact q
 |cont=>exact q
section
variable{P:W1}{w:W0}{K:VC}{mg:bN}{base:W3}
structure JQ(P:W1)(w:W0)(K:VC)(mg:bN)(base:W3)(k:Nat)(N:af)(qual:Str)(st:WY)(f:WW)(B:bz):Prop where
 h:∀(cdv:WU)(A:W7)(outer:List Env)(s:WZ)(H:Hp)(E:XK),dG k (A.deeper (Wx qual (ak st) s.heap.objs.size f cdv))->Xm (model P w) (A.deeper (Wx qual (ak st) s.heap.objs.size f cdv)) (Wx qual (ak st) s.heap.objs.size f cdv) (ef (gj P w) P w K mg base N qual (ak st) f cdv A outer s H E).xe->
  yC (ef (gj P w) P w K mg base N qual (ak st) f cdv A outer s H E) (cO st) B
def QZ{x qual:Str}{st:WY}{f:WW}{fd:XD}{N ps:af}{k:Nat}{sp:Sp}{CX:vL}(F:kc K x qual st f fd)(S:bp N ps (ak st))(hp0:∃x0 r,ps=x0::r/\(ak st).names.lookup x0=ag .local)(len:∀vs H Q E,sp vs H Q E->vs.length=ps.length)
  (hbody:∀ (cdv:WU) (A:W7) (outer:List Env) (s:WZ) (H:Hp) (vs:aN) (Q:VK) (E:XK),dG k (A.deeper (Wx qual (ak st) s.heap.objs.size f cdv))->sp vs H Q E ->
   ∃t,Li (ef CX P w K mg base N qual (ak st) f cdv A outer s H E) (cO st) t/\t {nx:=λ_ H'=>Q .non H',rt:=Q} (L2.start N vs) H):fw P w K mg base CX (k+1) f fd ps sp:=by
 obtain⟨oc,od,kV,doc,pm,an,cdv,ct,osl,rfl,lk,hcd⟩:=F.ex;exact Lz lk hcd S hp0 len λA outer s H vs Q E hr hsp=>hbody cdv A outer s H vs Q E hr hsp
def DC{x qual:Str}{st:WY}{f:WW}{fd:XD}{N ps:af}{k:Nat}{B:bz}(F:kc K x qual st f fd)(SC:bp N ps (ak st))(hp0:∃x0 r,ps=x0::r/\(ak st).names.lookup x0=ag .local)(hb:JQ P w K mg base k N qual st f B):
  fw P w K mg base (gj P w) (k+1) f fd ps (Bc K ps.length (az B ps.length N.length)):=by
 refine QZ F SC hp0 (λvs H Q E h=>?_) λcdv A outer s H vs Q E hr h=>?_
 ·obtain⟨O,ds,h1,_⟩:=h;exact h1
 ·obtain⟨O,ds,h1,h2,h3,h4⟩:=h;have hl:ds.length=ps.length:=h3.length.trans h1;have e4:az B ps.length N.length ds=B K0 (env0 N.length ds):=by unfold az;rw[ba hl]
  rw[e4]at h4;refine⟨_,hb.h cdv A outer s H E hr PassesOwn.leaving H O,O,env0 N.length ds,K0,_,⟨qt h2 h3,⟨aO.refl H,λ_ z=>z,λa z=>.inl z⟩,λi xs a e=>?_,λi d e=>by obtain⟨d',_,e2⟩:=gq i _ e;cases e2⟩,rfl,?_⟩
  ·obtain⟨d',_,e2⟩:=gq i _ e;cases e2
  ·generalize B K0 (env0 N.length ds)=r at h4;refine⟨λz=>by rw[z]at h4;exact h4,λO' ρ' σ' H' S e=>?_,λO' ρ' σ' H' S e=>?_,λO' ρ' σ' H' S e=>?_,λd O' v H' e b dv=>?_,λO' ρ' σ' H' x S e=>?_⟩
   ·have e:(.ok .non:R D)=r:=e;subst e;exact h4 .non H' S.base.same (iw.mpr rfl)
   ·have e:(un:R D)=r:=e;subst e;exact h4.elim
   ·have e:(un:R D)=r:=e;subst e;exact h4.elim
   ·subst e;exact h4 v H' b.same (dv.mono (dD b.sub))
   ·have e:(.error (ag x):R D)=r:=e;subst e;exact CQ h4 S.base.same S.base.sub
def oZ{x qual:Str}{st:WY}{f:WW}{fd:XD}{N ps:af}{k:Nat}{B:bz}(F:kc K x qual st f fd)(b:Binds K fd ps [])(m:mg x=ag (.ref f))(SC:bp N ps (ak st))(hp0:∃x0 r,ps=x0::r/\(ak st).names.lookup x0=ag .local)(hb:JQ P w K mg base k N qual st f B):
  Callee P w K mg base (k+1) x ps (az B ps.length N.length):=⟨f,fd,DC F SC hp0 hb,b,F.kp,m⟩
end
end
section
variable[ay]
def Oe(K:VC)(p:Str×List Str)(q:Key×WU):Prop:=q.1=.inr p.1/\∃t,q.2=.ref t/\KTup K t p.2
def Ci(P:W1)(w:W0)(K:VC)(mg:bN)(x:Str)(kvs:List (Str×List Str)):Prop:=
 ∃(a:WW)(vs:List (Key×WU)),mg x=ag (.ref a)/\(a==sysModules)=false/\(∀h:W3,K.In h->h.DictOf (fN P w) a vs)/\W2 (Oe K) kvs vs
def JA{K:VC}{kvs:List (Str×List Str)}{vs:List (Key×WU)}(h:W2 (Oe K) kvs vs)(y:Str):
  (valueAt vs (Sum.inr y:Key)=am/\kvs.lookup y=am)\/∃t xs,valueAt vs (Sum.inr y:Key)=ag (.ref t)/\kvs.lookup y=ag xs/\KTup K t xs:=by
 induction h with
 |nil=>exact .inl ⟨rfl,rfl⟩
 |@cons p q ps qs h1 h2 ih=>
  obtain⟨e1,t,e2,kt⟩:=h1;obtain⟨pk,pv⟩:=p;obtain⟨qk,qv⟩:=q;have e1:qk=.inr pk:=e1;have e2:qv=.ref t:=e2;subst e1 e2;by_cases z:y=pk
  ·subst z;refine .inr ⟨t,pv,?_,?_,kt⟩
   ·unfold valueAt;rw[List.find?_cons_of_pos (by simp)];rfl
   ·rw[Ub,beq_self_eq_true]
  ·have n1:valueAt ((Sum.inr pk,Value.ref t)::qs) (Sum.inr y:Key)=valueAt qs (Sum.inr y):=by
    unfold valueAt;rw[List.find?_cons_of_neg];simp only[decide_eq_true_eq];intro e;exact z (Sum.inr.inj e).symm
   have n2:List.lookup y ((pk,pv)::ps)=List.lookup y ps:=by
    rw[Ub];cases hb:y==pk with
    |true=>exact bt (eq_of_beq hb) z
    |false=>rfl
   rw[n1,n2];exact ih
def B5(kvs:List (Str×List Str)):D->bE
 |.str y=>(kvs.lookup y).map .kt
 |_=>am
def uw(kvs:List (Str×List Str)):D->bE
 |.str y=>ag (.bl (!(kvs.lookup y).isSome))
 |_=>am
section
variable{X:Cx}{x:Str}{kvs:List (Str×List Str)}{e:WX}{f:FX}{p pos:Pos}
def Ie(C:Ci X.prog X.w X.K X.mg x kvs)(hg:Gl X x)(he:FE X e f)(hs:LA e)(hd:(x==("__debug__":Str))=false:=by decide):FE X (.Subscript (.Name x p) e pos) (f1 (B5 kvs) f):=by
 obtain⟨a,vs,h1,h2,h3,h4⟩:=C;intro pins s σ H Q I Z;obtain⟨O,ρ,E,hF⟩:=Z;have hE:=he pins s σ H (λv H1=>∃y xs t,v=.str y/\kvs.lookup y=ag xs/\valueAt vs (Sum.inr y:Key)=ag (.ref t)/\Q (.ref t) H1) I ⟨O,ρ,E,(eQ.bind hF).imp λd hF v H1 s1 d1=>by
  obtain⟨r,er,q⟩:=eQ.rO hF;cases d with
  |str y=>
   have er:(kvs.lookup y).map D.kt=ag r:=er;rcases JA h4 y with⟨z1,z2⟩|⟨t,xs,z1,z2,kt⟩
   ·rw[z2]at er;cases er
   ·rw[z2]at er;cases er;exact⟨y,xs,t,eM.mp d1,z2,z1,q _ H1 s1 (QI.mpr ⟨t,rfl,kt⟩)⟩
  |_=>cases er⟩
 refine Jl PySem.F.slot_dict_getitem.lookup hs (gf I hg h1 (cR hE λiv s2 Z=>?_) hd);obtain⟨yv,H2,I2,ry,y,xs,t,rfl,z2,z1,q⟩:=Z;have dd:=h3 s2.heap I2.kIn;exact⟨dd.typeIs,wpAny_getItem_of (J5 (k:=Sum.inr y) ry) dd.mapOf z1 ⟨.ref t,H2,I2.tok _,rfl,q⟩⟩
def JP{a:WW}{vs:List (Key×WU)}(h2:(a==sysModules)=false)(h3:∀h:W3,X.K.In h->h.DictOf (fN X.prog X.w) a vs):ik X (Xg .NotIn) (λx y H Q=>∃z,x=.str z/\y=.ref a/\Q (.bl (!(valueAt vs (Sum.inr z:Key)).isSome)) H):=by
 rintro pins s σ H x y u v Q I rx ry ⟨z,rfl,rfl,q⟩;cases ry;have dd:=h3 s.heap I.kIn;exact wpAny_notIn_of (J5 (k:=Sum.inr z) rx) h2 dd.mapOf ⟨.bl _,H,I.tok _,rfl,q⟩
def Gk{a:WW}{vs:List (Key×WU)}(h4:W2 (Oe X.K) kvs vs):∀σ H Q,tF X (f1 (uw kvs) f) σ H Q->ML (λx y H Q=>∃z,x=.str z/\y=.ref a/\Q (.bl (!(valueAt vs (Sum.inr z:Key)).isSome)) H) (tF X f) (tC (.ref a)) σ H Q:=λσ H Q Z=>by
 obtain⟨O,ρ,E,hF⟩:=Z;refine⟨O,ρ,E,(eQ.bind hF).imp λd hF v H1 s1 d1=>?_⟩;obtain⟨r,er,q⟩:=eQ.rO hF;cases d with
 |str y=>
  cases er;refine⟨y,eM.mp d1,rfl,q _ H1 s1 (iu.mpr ?_)⟩;rcases JA h4 y with⟨z1,z2⟩|⟨t,xs,z1,z2,_⟩<;>rw[z1,z2]<;>rfl
 |_=>cases er
def MP(C:Ci X.prog X.w X.K X.mg x kvs)(hg:Gl X x)(he:FE X e f)(hd:(x==("__debug__":Str))=false:=by decide):FE X (.Compare e [.NotIn] [.Name x p] pos) (f1 (uw kvs) f):=by
 obtain⟨a,vs,h1,h2,h3,h4⟩:=C;exact PE.weak (yV (JP h2 h3) he (jX (v:=.ref a) hg h1 rfl hd) rfl) (Gk h4)
def MQ(C:Ci X.prog X.w X.K X.mg x kvs)(hg:Gl X x)(he:FE X e f)(hd:(x==("__debug__":Str))=false:=by decide):FT X (.Compare e [.NotIn] [.Name x p] pos) (fB (f1 (uw kvs) f)):=by
 obtain⟨a,vs,h1,h2,h3,h4⟩:=C;exact PT.weak (yU (JP h2 h3) he (jX (v:=.ref a) hg h1 rfl hd) rfl) (jw (Gk h4))
end
def Lp{P:W1}{w:W0}{K:VC}{mg:bN}{x:Str}{kvs:List (Str×List Str)}{a:WW}{es:Array X9}{ep:Nat}{vs:List (Key×WU)}(h1:mg x=ag (.ref a))(h2:(a==sysModules)=false)(h3:K.lookup a=ag {cls:=.type "dict",data:=.dict es ep})
  (h4:KeysOf (fN P w) es) (h5:Pairs (fN P w) es.toList vs) (h6:(vs.map (·.1)).Nodup) (h7:W2 (Oe K) kvs vs):Ci P w K mg x kvs:=
 ⟨a,vs,h1,h2,λh kin=>⟨_,es,ep,kin _ _ h3,⟨rfl,rfl,rfl⟩,rfl,h4,h5,h6⟩,h7⟩
theorem BX:typeLookup (.type "list_reverseiterator") "__len__"=pure none:=by rw[typeLookup_type,builtinLookup_eq_fast];kernel_rfl
theorem Ft:typeLookup (.type "list_reverseiterator") "__length_hint__"=pure (ag (.builtin "list_reverseiterator.__length_hint__")):=by rw[typeLookup_type,builtinLookup_eq_fast];kernel_rfl
section
variable{prog:W1}{w:W0}{A:W7}{E:WU->WZ->Prop}{s:WZ}{r l:WW}{items:Array WU}
def O3(items:Array WU)(i:Nat)(v:WU):Prop:=items[items.size-1-i]?=ag v
theorem Fa{Q:Bool->WZ->Prop}(hT:s.TypeIs (.ref r) "list_reverseiterator")(h:Q false s):Xa (model prog w) A (Builtin.List.listLengthHint (.ref r)) Q E s:=by
 unfold Builtin.List.listLengthHint;refine Xp (Ya hT BX ?_);show Xa _ A (specialOf (Value.ref r) (Str.ofString "__length_hint__") >>= _) _ _ _;refine Xp (Ya hT Ft ?_);generalize hid:("list_reverseiterator.__length_hint__":String)=id0
 wp_delta
 rw[show splitId id0=ag ("list_reverseiterator","__length_hint__")from by subst hid;decide +kernel];subst hid;refine Xp (wpAny_isInstance (b:=true) hT (by rw[isSubtype_type];kernel_rfl) ?_);exact Xo h
def yd{R:Xv->WZ->Prop}(hh:A.handled=am)(hne:l≠r)(hit:s.heap.IsRevIter r l ((items.size:Int)-1))(hl:s.heap.IsList l items)(S:WW)(hSr:S≠r)(hSl:S≠l)(res:WU)(c₀:Nat)(hS:s.heap.get? S=ag {cls:=.type "list",data:=.seq #[] c₀})
  (hR:∀h' tk acc' c',(∀b o,b≠S->b≠r->s.heap.get? b=ag o->h'.get? b=ag o)->h'.get? S=ag {cls:=.type "list",dict:=am,data:=.seq acc' c',slots:=#[]}->ItemsOf (O3 items) acc' items.size->R (.ok (.ret res)) {s with heap:=h',toks:=tk}) (hn:items.size<=W4):
  Xa (model prog w) A.in1 (Builtin.List.listExtendWith (.ref S) (.ref r) res)
   (λfin s'=>match fin with|.done f=>R (.ok f) s'|.again c'=>c'.quiet=true/\Xw (model prog w) A c' R s') (λe s'=>R (.error e) s') s:=by
 have hSf:S∉[r,l]:=by simp only[UH,UI,or_false,not_or];exact⟨hSr,hSl⟩
 have W:=Walks.listRev (prog:=prog) (w:=w) (A:=A.in1) hh r l hne items;have st0:(0:Nat)<=items.size/\s.heap.IsRevIter r l ((items.size:Int)-1-((0:Nat):Int))/\s.heap.IsList l items:=⟨TH _,by simpa using hit,hl⟩
 have key:Xw (model prog w) A (.builtin "list.extend.loop" ⟨[.ref S,.ref r,res],[]⟩) R s:=by
  refine codeAny_extend_loopS W.toS hn S hSf res items.size 0 _ #[] c₀ rfl (TH _) st0 hS (ItemsOf.nil _) λs' acc' c' hm hS' hacc=>?_;rw[Moved.eq_with hm];refine hR s'.heap s'.toks acc' c' (λb o hb hr e=>hm.heap b o (λhmem=>?_) e) hS' hacc;rcases List.mem_cons.mp hmem with e'|hmem
  ·exact hb e'
  ·exact hr (List.mem_singleton.mp hmem)
 unfold Builtin.List.listExtendWith;refine Xp (X4 (T:="list_reverseiterator") hit.typeIs ?_);have h1:Builtin.List.listSameRef (.ref S) (.ref r)=false:=by simp[Builtin.List.listSameRef,hSr]
 rw[br (by rw[h1];decide)];refine Xp (wpAny_pyIter_revIter hit ?_);refine Xp (X1 (Fa hit.typeIs ?_));rw[br (by decide)];exact Xo ⟨plainId_quiet PySem.F.plain_extend_loop _,key⟩
def Dq{Q:WU->WZ->Prop}(hh:A.handled=am)(hne:l≠r)(hit:s.heap.IsRevIter r l ((items.size:Int)-1))(hl:s.heap.IsList l items)(hn:items.size<=W4)
  (hQ:∀h' tk acc' c',(∀b o,b≠r->s.heap.get? b=ag o->h'.get? b=ag o)->h'.get? s.heap.objs.size=ag {cls:=.type "list",dict:=am,data:=.seq acc' c',slots:=#[]}->ItemsOf (O3 items) acc' items.size->Q (.ref s.heap.objs.size) {s with heap:=h',toks:=tk}):
  Xa (model prog w) A (call (.type "list") [.ref r]) Q E s:=by
 refine callType_codes (Q₁:=λobj s₁=>obj=.ref s.heap.objs.size/\s₁={s with heap:=s.heap.push {cls:=.type "list",data:=.seq #[]}}) PySem.F.called_list (PySem.F.typeCall_list_1 _) PySem.F.entry_list_init
  (code_list_new _ ⟨rfl,rfl⟩) λobj s₁ h₁=>?_
 obtain⟨rfl,rfl⟩:=h₁;have hS:(s.heap.push {cls:=.type "list",data:=.seq #[]}).get? s.heap.objs.size=ag {cls:=.type "list",data:=.seq #[]}:=Wm _ rfl;have lr:r<s.heap.objs.size:=by obtain⟨_,ho,_⟩:=id hit;exact Wn ho
 have ll:l<s.heap.objs.size:=by obtain⟨_,ho,_⟩:=id hl;exact Wn ho
 have nr:s.heap.objs.size≠r:=Tr lr;have nl:s.heap.objs.size≠l:=Tr ll;refine⟨⟨_,hS,rfl⟩,PySem.F.args_list_init_2 _ _,?_⟩;show Xa _ _ (do let old<-Builtin.List.listItems (.ref s.heap.objs.size);Builtin.List.listUpdate (.ref s.heap.objs.size) (λ_=>#[]);letGo old.toList.reverse;Builtin.List.listExtendWith (.ref s.heap.objs.size) (.ref r) .none) _ _ _;refine Xp ?_;unfold Builtin.List.listItems;refine Xp (Yg hS rfl (Xo ?_));show Xa _ _ (updateSeq s.heap.objs.size (λ_=>#[]) >>= λ_=>letGo (#[]:Array WU).toList.reverse >>= λ_=>Builtin.List.listExtendWith (.ref s.heap.objs.size) (.ref r) .none) _ _ _;refine Xp (wpAny_updateSeq hS rfl ?_);have hS₂:=Wu (Obj.mapSeq (λ_=>(#[]:Array WU))) hS rfl;have oth:∀b o,b≠s.heap.objs.size->(s.heap.push {cls:=.type "list",data:=.seq #[]}).get? b=ag o->((s.heap.push {cls:=.type "list",data:=.seq #[]}).update s.heap.objs.size (Obj.mapSeq (λ_=>(#[]:Array WU)))).get? b=ag o:=
  λb o hb e=>(Wr _ _ (Ne.symm hb)).trans e
 refine Xp (Ym ?_);have up:∀b o,s.heap.get? b=ag o->((s.heap.push {cls:=.type "list",data:=.seq #[]}).update s.heap.objs.size (Obj.mapSeq (λ_=>(#[]:Array WU)))).get? b=ag o:=λb o e=>oth b o (Tf (Wn e)) (Wp _ e);refine yd (A:=A.in1) hh hne (hit.at λo e=>up r o e) (hl.at λo e=>up l o e) _ nr nl .none _ hS₂ (λh' tk acc' c' hk hS' hacc=>?_) hn;exact⟨rfl,hQ h' tk acc' c' (λb o hb e=>hk b o (Tf (Wn e)) hb (up b o e)) hS' hacc⟩
end
def HR{xs:aN}{its:bA}{acc:Array WU}(r:Vals xs its)(h:ItemsOf (O3 its.toArray) acc its.toArray.size):Vals xs.reverse acc.toList:=by
 have e:acc.toList=its.reverse:=by
  apply U2;intro j;by_cases hj:j<its.length
  ·have hz:acc.size=its.length:=(by rw[h.1];simp);have q:=h.2 j acc[j] (by simp[hz,hj]);unfold O3 at q;rw[List.getElem?_reverse hj];rw[Tv,List.getElem?_toArray]at q;rw[Array.getElem?_toList,q];simp[hz,hj]
  ·have hz:acc.size=its.length:=(by rw[h.1];simp);rw[U3 (by rw[Array.length_toList,hz];omega),U3 (by rw[U4];omega)]
 rw[e];exact Vals.reverse r
def rF:D->bE
 |.lst xs=>ag (.lst xs.reverse)
 |_=>am
def GD{X:Cx}{a:WX}{f:FX}{p q pos pos':Pos}(hc:X.calm=true)(hg:Gl X "list")(hm:X.mg "list"=am)(hg':Gl X "reversed")(hm':X.mg "reversed"=am)(ha:FE X a f)(hns:noStar a=true:=by rfl):
  FN X (.Call (.Name "list" p) [.Call (.Name "reversed" q) [a] [] pos'] [] pos) (f1 rF f):=by
 intro pins s σ H Q I Z;obtain⟨O,ρ,E,hF⟩:=Z;have hA:=ha pins s σ H (λv H1=>∃xs vs l,v=.ref l/\km X.K H1 l vs/\aO H H1/\aY X.K (hid H1 O) xs vs/\∀p H',aO H H'->H p=am->(∃o,H' p=ag o/\jC o)->fZ X.K H' (p::O) p (.lst xs.reverse)->Q (.ref p) H') I ⟨O,ρ,E,(eQ.bind hF).imp λd hF v H1 s1 d1=>by
  obtain⟨r,er,q⟩:=eQ.rO hF;cases d with
  |lst xs=>
   cases er;obtain⟨l,vs,rfl,g1,g2⟩:=cS.mp d1;exact⟨xs,vs,l,rfl,(aP H1 O).seq g1,s1,g2,q⟩
  |_=>cases er⟩
 refine Wz (kq I hg hm PyProof.Rows.boot_list (Wv ?_ (bf rfl) (bY rfl)));rw[bf (es:=[]) (env:=X.env) (e:=.Call (.Name "reversed" q) [a] [] pos') rfl];refine Calls.spliced_cons (Wz (kq I hg' hm' PyProof.Rows.boot_reversed (Wv ?_ (bf hns) (bY rfl))));rw[bf (es:=[]) (env:=X.env) hns];refine Calls.spliced_cons (cR hA λv s1 Z=>Calls.spliced_nil ?_);obtain⟨y,H1,I1,rv,xs,vs,l,rfl,sq,sm,dn,q⟩:=Z;cases rv;obtain⟨its,rvs,pl,hz⟩:=I1.list sq;have hl:=pl.isList;refine call_reversed_list hl (Calls.spliced_nil ?_);have ll:l<s1.heap.objs.size:=by obtain⟨_,ho,_⟩:=id hl;exact Wn ho
 have hln:=rvs.length;refine Dq (s:={s1 with heap:=s1.heap.push (revObj l ((its.toArray.size:Int)-1))}) (I1.ok.hd hc) (Tf ll) ⟨_,Wm _ rfl,rfl,rfl⟩ (hl.at λo e=>Wp _ e) (by rw[Tv];omega) λh' tk acc' c' hk hS hacc=>?_;have e1:(s1.heap.push (revObj l ((its.toArray.size:Int)-1))).objs.size=s1.heap.objs.size+1:=Wq _ _;have le:s1.heap.objs.size<=(s1.heap.push (revObj l ((its.toArray.size:Int)-1))).objs.size:=by rw[e1];omega
 have kp:∀b u,s1.heap.get? b=ag u->h'.get? b=ag u:=λb u e=>hk b u (Tf (Wn e)) (Wp _ e);have vr:=HR rvs hacc;have fr:=I1.hok.fresh le;refine⟨.ref _,_,I1.laid (t':=tk) (o:=.lst vs.reverse) kp le ?_,rfl,q _ _ (sm.trans (dr fr _)) (sm.free fr) ⟨_,bu,trivial⟩ (mZ fr dn.reverse)⟩;exact⟨by rw[U4];exact hz,acc'.toList,c',vr,by rw[Array.toArray_toList];exact hS⟩
section
variable{X:Cx}
def Dz(K:VC):V->aN->Hp->VK->Prop:=λx xs H Q=>∃z l ys,x=.str z/\xs=[.ref l]/\lW K H l (ys.map V.str)/\(ys.map (λy=>y.length)).sum+ys.length*z.length<=100000/\Q (.str (Txt.join z ys)) H
def EB:MK X "str.join" (Dz X.K):=by
 rintro pins s σ H x xs v us Q I rx rs ⟨z,l,ys,ex,exs,hl,hz,q⟩;subst ex exs;obtain⟨t,rfl⟩:=rx;obtain⟨u,rfl⟩:∃u,us=[u]:=by
  cases rs with
  |cons _ t=>cases t;exact⟨_,rfl⟩
 have ru:RelV (.ref l) u:=by cases rs with|cons h _=>exact h
 cases ru;obtain⟨its,r,ht,_⟩:=I.tuple hl;exact PyProof.Rows.join_tuple ht (sS r) ‹0› λt' k=>⟨.str _,H,I.tok _,⟨_,rfl⟩,q⟩
def pR(z:Str)(as:List D):bE:=match as with
 |[.tup xs]=>(jq xs).bind λys=>if small ((ys.map (λy=>y.length)).sum+ys.length*z.length)then ag (.str (Txt.join z ys))else am
 |_=>am
def qo(f:FX)(g:aQ):FX:=λρ=>(f ρ).bind λa=>(rO (KG a)).bind λz=>(g ρ).bind λds=>rO (pR z ds)
theorem vx(f:FX)(g:aQ)(ρ:aq):qo f g ρ=(f ρ).bind λa=>(rO (KG a)).bind λz=>(g ρ).bind λds=>rO (pR z ds):=rfl
def qT{K:VC}{H:Hp}{O:aD}{z:Str}{ds:List D}{d:D}{vs:aN}{Q:VK}(hg:pR z ds=ag d)(hd:aY K (hid H O) ds vs)(q:∀v,dS K (hid H O) d v->Q v H):Dz K (.str z) vs H Q:=by
 unfold pR at hg;split at hg
 ·rename_i xs;cases e:jq xs with
  |none=>rw[e]at hg;cases hg
  |some ys=>
   rw[e]at hg;obtain⟨h1,h2⟩:=bQ hg;subst h2;obtain⟨v,ev,h1'⟩:=hd.one;obtain⟨l,ws,el,hl,hw⟩:=cP.mp h1';rw[mU e]at hw;rw[mH hw]at hl;exact⟨z,l,ys,rfl,by rw[ev,el],cF (aP H O) hl,cr h1,q _ (eM.mpr rfl)⟩
 ·cases hg
end
open Builtin Builtin.Str
noncomputable def Cb(x y z:Str):Str:=if((occurrences x y 0 x.length 1).isEmpty||(y.length==0&&z.length==0))=true then x else glued z (partsBetween x (occurrences x y 0 x.length 1) y.length)
def Am(x y z:Str)(t u v w:Tok)(h0:(u==0||v==0)=false)(huv:(u==v)=false)(hyz:(y==z)=false)(hl:tooLong (x.length+(occurrences x y 0 x.length 1).length*z.length)=false):
    Gives («str.replace» ⟨[.str x t,.str y u,.str z v,.int 1 w],[]⟩) (if((occurrences x y 0 x.length 1).isEmpty||(y.length==0&&z.length==0))=true then .val (.str x t)else .str (glued z (partsBetween x (occurrences x y 0 x.length 1) y.length))):=by
  show Gives (if ((occurrences x y 0 x.length 1).isEmpty || (y.length == 0 && z.length == 0)) = true then (do rule "str.replace.nothing"; ret (.str x t)) else
          (do let same<-isSame (.str y u) (.str z v)
              if same=true then(do rule "str.replace.old-is-new";ret (.str x t))else
              if tooLong (x.length+(occurrences x y 0 x.length 1).length*z.length)=true then unsupported "str.replace:memory"else
              retStr (glued z (partsBetween x (occurrences x y 0 x.length 1) y.length)))) _
  cases hc:((occurrences x y 0 x.length 1).isEmpty||(y.length==0&&z.length==0))
  · rw[isSame_str_other y z u v h0 huv hyz,hl]
    exact .of_eq rfl
  ·exact .rule (.of_eq rfl)
def EY{x z:Str}(y:Str)(hb:x.length+z.length<=16777216):(glued z (partsBetween x (occurrences x y 0 x.length 1) y.length)).length<=W4:=by
 have h1:=StrLaws.occ_length_le x y 0 x.length 1;have hy:(glued y (partsBetween x (occurrences x y 0 x.length 1) y.length)).length=x.length:=by rw[StrLaws.glued_between_self]
 rw[size_glued,length_partsBetween,U5]at hy;rw[size_glued,length_partsBetween,U5,Xu];have h2:(occurrences x y 0 x.length 1).length*z.length<=1*z.length:=U6 _ h1;omega
def Dx{prog:W1}{w:W0}{A:W7}{E:bI}{s:WZ}{x y z:Str}{t u v r:Tok}{Q:bI}(hu:u≠0)(hv:v≠0)(huv:u≠v)(hyz:(y==z)=false)(hb:x.length+z.length<=1000000)
  (hq:∀t' k,Q (.str (Cb x y z) t') {s with toks:=k}):Xa (model prog w) A (call (.builtin "str.replace") [.str x t,.str y u,.str z v,.int 1 r]) Q E s:=by
 have h1:=StrLaws.occ_length_le x y 0 x.length 1;have hl:tooLong (x.length+(occurrences x y 0 x.length 1).length*z.length)=false:=by
  have h2:(occurrences x y 0 x.length 1).length*z.length<=1*z.length:=U6 _ h1;unfold tooLong;rw[Xu];exact cb ‹0›
 refine call_gives WN (X6 _ _ _) PySem.F.entry_str_replace (PySem.F.args_str_replace_4 _ _ _ _) (Am x y z t u v r (by simp[hu,hv]) (by simp[huv]) hyz hl) ?_;have hq':=hq;unfold Cb at hq';cases hc:((occurrences x y 0 x.length 1).isEmpty||(y.length==0&&z.length==0))
 ·rw[hc]at hq';simp only[Ud,if_false]at hq' ⊢;exact⟨EY y ‹0›,hq' _ _⟩
 ·rw[hc]at hq';simp only[if_true]at hq' ⊢;exact hq' t s.toks
def GP(y z:Str):D->bE
 |.str x=>if x.length<=100000 then ag (.str (Cb x y z))else am
 |_=>am
section
variable{X:Cx}
def MZ(X:Cx)(e:WX)(F:FX):Prop:=∀(pins:bg)(s:WZ)(σ:L2.St)(H:Hp)(Q:VK),Inv X pins σ H s->0<s.toks->tF X F σ H Q->Xa (model X.prog X.w) X.A (eval e X.env) (EP X pins σ Q) X.xe s
def Ji{o:WX}{fa:FX}{y z:Str}{apos cpos p1 p2 p3:Pos}{k1 k2 k3:Nat}(ho:FE X o fa)(hy:(y==z)=false)(hz:z.length<=1000)
  (hbase:Xx o "replace" X.env (eval o X.env)=eval o X.env:=by rfl)
  (hfew:((backTo cpos (Xb [.Constant (.str y) k1 p1,.Constant (.str z) k2 p2,.Constant (.int 1) k3 p3] X.env)).all (fun x=>!x.1) && (backToKw cpos (Xz [] X.env)).all (fun x=>x.1.isSome)
   && decide (([.Constant (.str y) k1 p1,.Constant (.str z) k2 p2,.Constant (.int 1) k3 p3]:aS).length+([]:List X7).length+(if([]:List X7).isEmpty then 0 else 1)<30))=true:=by rfl)
  (hline:(apos.endLine==cpos.line)=true:=by rfl):
  MZ X (.Call (.Attribute o "replace" apos) [.Constant (.str y) k1 p1,.Constant (.str z) k2 p2,.Constant (.int 1) k3 p3] [] cpos) (f1 (GP y z) fa):=by
 intro pins s σ H Q I tk Z;obtain⟨O,ρ,E,hF⟩:=Z;have hh:tF X fa σ H (λx H1=>∃a,x=.str a/\a.length<=100000/\Q (.str (Cb a y z)) H1):=⟨O,ρ,E,(eQ.bind hF).imp λx hF v H1 s1 d1=>by
  obtain⟨d,e,q⟩:=eQ.rO hF;cases x with
  |str a=>
   have e:(if a.length<=100000 then ag (D.str (Cb a y z))else am)=ag d:=e;by_cases ha:a.length<=100000
   ·rw[ba ha]at e;cases e;rw[eM.mp d1];exact⟨a,rfl,ha,q _ H1 s1 (eM.mpr rfl)⟩
   ·rw[br ha]at e;cases e
  |_=>cases e⟩
 refine X8 hbase hfew hline rfl (tT (Xc (ho pins s σ H _ I hh) (λv s1 Z tk1=>?_) (λe s1 x _=>x)));obtain⟨x,H1,I1,r1,a,rfl,ha,q⟩:=Z;obtain⟨t,rfl⟩:=r1;refine⟨"str","str.replace",WM,WN,WO,X6 _ _ _,?_,?_⟩
 ·exact(λo z=>nomatch z)
 refine Calls.callWith_builtin (by rfl) (Calls.evalArgs_plain ?_);refine Calls.spliced_cons (Calls.Constant_str (k:=k1) (pos:=p1) ?_);refine Calls.spliced_cons (Calls.Constant_str (k:=k2) (pos:=p2) ?_);refine Calls.spliced_cons (wpAny_Constant_int (k:=k3) (pos:=p3) ?_);refine Calls.spliced_nil ?_;have tk1:0<s1.toks:=Td tk tk1;refine Dx ?_ ?_ ?_ hy ‹0› λt' k=>⟨.str (Cb a y z),H1,I1.tok k,⟨_,rfl⟩,q⟩
 ·exact Tr tk1
 ·exact Nat.succ_ne_zero _
 ·exact Tf (TF _)
def Il{a b:WX}{op:Operator}{r:R2}{g:D->D->bE}{fa fb:FX}{pos:Pos}(ho:ik X (Xs op) r)(sv:dA X.K r g)(ha:MZ X a fa)(hb:FE X b fb):MZ X (.BinOp a op b pos) (f2 g fa fb):=by
 intro pins s σ H Q I tk h;have h:=qq sv σ H Q h;refine Xt (cR (ha pins s σ H _ I tk h) λv s1 Z=>Z.e λx Z=>Z.e λH1 Z=>Z.e λI1 Z=>Z.e λr1 q1=>?_);refine cR (hb pins s1 σ H1 _ I1 q1) λu s2 Z=>Z.e λy Z=>Z.e λH2 Z=>Z.e λI2 Z=>Z.e λr2 q2=>?_;exact ho pins s2 σ H2 x y v u Q I2 r1 r2 q2
def IG{e:WX}{f:FX}{pos:Pos}(h:MZ X e f):OM X (.Return (ag e) pos) (bi f):=λHb Ob pins s σ H E I tk Z=>by
 obtain⟨O,ρ,k,r,S,hF,hk⟩:=Z;exact wpAny_Return_some (cR (h pins s σ H _ I tk ⟨O,ρ,S.env,eQ.on hF hk S λd e v H' s' d'=>hk.rt d O v H' e.symm (S.base.same' s') d'⟩) λv s1 Z=>Z.e λx Z=>Z.e λH1 Z=>Z.e λI1 Z=>Z.e λr1 q1=>⟨x,σ,H1,I1,r1,q1⟩)
def Ah{st:WY}{rest:cU}{F1 F2:bz}(h1:FS X st F1)(h2:yC X rest F2):yC X (st::rest) (aF F1 F2):=λHb Ob pins s σ H D I tk Z=>by
 obtain⟨O,ρ,k,r,S,hF,hk⟩:=Z;refine Xk (tT (Xc (h1 Hb Ob pins s σ H {D with nx:=Hi X Hb Ob F2 D} I ⟨O,ρ,{k with nx:=F2 k},r,S,hF,hk.ne,λO' ρ' σ' H' S' e=>⟨O',ρ',k,r,S',e,hk⟩,hk.bk,hk.ct,hk.rt,hk.ex⟩) (λf s1 q tk1=>?_) λe s1 x _=>x));cases f with
 |next=>
  obtain⟨σ',H',I',q⟩:=q;exact h2 Hb Ob pins s1 σ' H' D I' (Td tk tk1) q
 |ret v=>exact q
 |brk=>exact q
 |cont=>exact q
def Cv{st:WY}{F:bz}(h:OM X st F):yC X [st] F:=λHb Ob pins s σ H D I tk Z=>by
 refine Xk (cR (h Hb Ob pins s σ H D I tk Z) λf s1 q=>?_);cases f with
 |next=>exact Xj q
 |ret v=>exact q
 |brk=>exact q
 |cont=>exact q
end
end
section
open PyProof.Rows (AllBare)
variable[ay]
section
variable{X:Cx}{pins:bg}{σ σ':L2.St}{O O':aD}{H H' H2 H3:Hp}{s3:WZ}{fp:aD}{scope:W8}{N:af}{cl:lD}{x:Ex}{QQ:bI}{acc:WU}
def xG(hx:X.ex=[])(hst:X.stack=X.env::X.outer)(hf:X.env.frame=ag X.env.locals)(csub:∀y c,cl.lookup y=ag c->X.env.cells.lookup y=ag c)
  (I3:Inv X pins σ H3 s3) (f2:∀b∈fp,nD X pins H2 b) (h:w8 X σ O H x) (sm:aO H H') (hs:∀a∈O,a∈O'):
  w8 (bD X scope N cl s3.heap.objs.size fp s3 H3 (notedBy (model X.prog X.w) X.A (compEnvC scope cl s3.heap.objs.size X.env) λe s'=>compPost (model X.prog X.w) X.A X.xe am QQ acc s3.heap.objs.size (.error e) s')) σ' O' H' x:=by
 rintro pins' s1 u H1 I1 ve ⟨e,C,dx,rfl,hd,fl⟩;obtain⟨oe1,vs1,he1,hc1,hd1⟩:=rJ fl;have up:∀b,eJ X H1 b->eJ (bD X scope N cl s3.heap.objs.size fp s3 H3 (notedBy (model X.prog X.w) X.A (compEnvC scope cl s3.heap.objs.size X.env) λe s'=>compPost (model X.prog X.w) X.A X.xe am QQ acc s3.heap.objs.size (.error e) s')) H1 b:=λb kb=>by
  rcases kb with⟨⟨o,q⟩,_⟩|kb|⟨o,q⟩|⟨y,q⟩
  ·refine .inl ⟨I3.base.there b o q (by rw[hx];simp),λz=>?_⟩;rcases(f2 b z).2.2.2.1 with w|w
   ·rw[hx]at w;cases w
   ·exact Te _ (Td (Wn q) w)
  ·exact .inr (.inl kb)
  ·refine .inl ⟨⟨o,(I3.pin (b,o) (Tn _ q)).1⟩,λz=>(f2 b z).2.2.2.2.2 (b,o) (Tn _ q) rfl⟩
  ·obtain⟨v,o,q1,_⟩:=I3.cell y b q;exact .inl ⟨⟨o,q1⟩,λz=>(f2 b z).2.2.2.2.1 y b q rfl⟩
 have lift:∀b,eJ {bD X scope N cl s3.heap.objs.size fp s3 H3 (λ_ _=>True)with env:=X.env,outer:=X.outer} H1 b->eJ (bD X scope N cl s3.heap.objs.size fp s3 H3 (notedBy (model X.prog X.w) X.A (compEnvC scope cl s3.heap.objs.size X.env) λe s'=>compPost (model X.prog X.w) X.A X.xe am QQ acc s3.heap.objs.size (.error e) s')) H1 b:=λb kb=>by
  rcases kb with kb|kb|⟨o,q⟩|⟨y,q⟩
  ·exact .inl kb
  ·exact .inr (.inl kb)
  ·cases q
  ·exact up b (.inr (.inr (.inr ⟨y,q⟩)))
 have nC:∀b,eJ (bD X scope N cl s3.heap.objs.size fp s3 H3 (notedBy (model X.prog X.w) X.A (compEnvC scope cl s3.heap.objs.size X.env) λe s'=>compPost (model X.prog X.w) X.A X.xe am QQ acc s3.heap.objs.size (.error e) s')) H1 b->b≠s3.heap.objs.size:=λb kb z=>by
  rcases kb with⟨⟨o,q⟩,_⟩|kb|⟨o,q⟩|⟨y,q⟩
  ·exact Tf (Wn q) z
  ·exact kb (z ▸ I1.free)
  ·cases q
  ·obtain⟨v,o,q1,_⟩:=I3.cell y b (csub y b q);exact Tf (Wn q1) z
 have fl':wY {bD X scope N cl s3.heap.objs.size fp s3 H3 (λ_ _=>True)with env:=X.env,outer:=X.outer} H1 s1 e C dx:=by
  obtain⟨a1,B,a0,b1,b2,b3,b4,b5⟩:=fl;exact⟨a1,B,a0,b1,b2,b3,b4,λb o q kb nf=>b5 b o q (lift b kb) nf⟩
 show Xa _ _ (noteFrame (.ref e) X.env) _ _ s1;refine wR (X:={bD X scope N cl s3.heap.objs.size fp s3 H3 (λ_ _=>True)with env:=X.env,outer:=X.outer}) I1.ok.frames hst hf fl' λB a0 h1 held us kb ds=>?_;obtain⟨k1,k2,k3,oe,vs,T,oT,ts,t1,⟨t2,t3⟩,t4,t5,t6,t7,t8,t9,t10⟩:=held;obtain⟨m,hn,_⟩:=I1.loc;have hn1:h1.Ns s3.heap.objs.size m:=us.ns hn;have eC:e≠s3.heap.objs.size:=λz=>by
  obtain⟨o,es,ep,e2,d2,_⟩:=hn1;rw[<-z,t1]at e2;cases e2;rw[t4]at d2;cases d2
 have TC:T≠s3.heap.objs.size:=λz=>by
  obtain⟨o,es,ep,e2,d2,_⟩:=hn1;rw[<-z,t8]at e2;cases e2;rw[t9]at d2;cases d2
 refine⟨m,hn1,λh2 sb cenv _=>?_⟩;have e2:h2.get? e=ag oe:=(sb.2 e eC).trans t1;have T2:h2.get? T=ag oT:=(sb.2 T TC).trans t8;unfold passOn;refine Xp (X0 e2 t4 t5 ?_);rw[br (show¬((Value.ref T==Value.none)=true)from by simp)];unfold setFlight;refine Xp (Xp (X0 e2 t4 t5 ?_));rw[ba (show(Value.ref T !=Value.none)=true from by simp)];have hz3:=(Array.getElem?_eq_some_iff.mp t10).1;refine Yc T2 t9 hz3 (wpAny_throw ?_);generalize hv:(cenv.frame.elim Value.none λf=>rawInt f)=vl;have o3:∀b,b≠T->(h2.update T (Obj.mapFields (·.setIfInBounds 3 vl))).get? b=h2.get? b:=λb hb=>Wr _ _ (Ne.symm hb);have e3:=(o3 e (Ne.symm t7)).trans e2;have T3:=Wu (Obj.mapFields (·.setIfInBounds 3 vl)) T2 (Obj.isFreed_of_fields (Obj.data_mapFields t9 _));generalize h2.update T (Obj.mapFields (·.setIfInBounds 3 vl))=h3 at o3 e3 T3 ⊢;have kp:∀b o,s1.heap.get? b=ag o->eJ (bD X scope N cl s3.heap.objs.size fp s3 H3 (notedBy (model X.prog X.w) X.A (compEnvC scope cl s3.heap.objs.size X.env) λe s'=>compPost (model X.prog X.w) X.A X.xe am QQ acc s3.heap.objs.size (.error e) s')) H1 b->b∉frs X.stack->B.get? b=ag o/\h3.get? b=ag o:=λb o q kb' nf=>by
  have qB:=kb b o q (by
   rcases kb' with z|z|⟨o,z⟩|⟨y,z⟩
   ·exact .inl z
   ·exact .inr (.inl z)
   ·cases z
   ·exact .inr (.inr (.inr ⟨y,csub y b z⟩))) nf
  have nT:b≠T:=λz=>by rw[z,t6]at qB;cases qB
  refine⟨qB,?_⟩;rw[o3 b nT,sb.2 b (nC b kb')];exact k1 b o qB
 have U:=I1.base;have fr:∀b o,b∈frs X.stack->s1.heap.get? b=ag o->∃sl,h3.get? b=ag {o with slots:=sl}:=λb o hb q=>by
  obtain⟨sl,q1⟩:=mF I1 us hb q;obtain⟨_,o',q2,nf⟩:=I1.stack.mem hb;rw[q]at q2;cases q2;obtain⟨_,o4,q4,_⟩:=I3.stack.mem hb;have nT:b≠T:=λz=>by
   rw[z,t8]at q1;cases q1;exact nf _ t9
  exact⟨sl,by rw[o3 b nT,sb.2 b (Tf (Wn q4))];exact q1⟩
 have un:Un (frs X.stack) fp H3 H1 s3.heap h3:=by
  refine⟨λb o q n nb nx=>(kp b o (U.keep b o q n nb nx) (.inl ⟨⟨o,q⟩,nx⟩) nb).2,λb o q n hb nx=>?_,λb o q n nx=>U.free b o q n nx,λb o q nx=>?_,U.tups,U.frzs,U.tbls⟩
  ·obtain⟨sl,q1⟩:=U.slot b o q n hb nx;obtain⟨sl',q2⟩:=fr b _ hb q1;exact⟨sl',q2⟩
  ·obtain⟨o1,q1⟩:=U.there b o q nx;by_cases hb:b∈frs X.stack
   ·obtain⟨sl,q2⟩:=fr b o1 hb q1;exact⟨_,q2⟩
   ·exact⟨o1,(kp b o1 q1 (.inl ⟨⟨o,q⟩,nx⟩) hb).2⟩
 have hok0:=nO (h':=h3) I1 λb o q kb' nf=>(kp b o q kb' nf).2;have hok:qJ X.prog X.w H1 h3:=hok0;have I':Inv X [] σ H1 {s1 with heap:=h3}:=(Inv.unpinned (pins:=[]) (pl:=pins) I3).call' (s':={s1 with heap:=h3}) (ch:=fp) I1.os un hok I1.bare λb hb=>by
  obtain⟨_,z2,_,z4,z5,z6⟩:=f2 b hb;exact⟨z4,z2,z5,λp hp=>z6 p (by rw[TJ]at hp;exact Tn _ hp)⟩
 have hB:∀b o,(jz B (λb=>if b=s3.heap.objs.size then ag (.tup [])else am)).get? b=ag o->B.get? b=ag o/\b≠s3.heap.objs.size:=λb o q=>by
  obtain⟨q1,q2⟩:=uU q;refine⟨q1,λz=>?_⟩;rw[ba z]at q2;cases q2
 have nB:∀b,B.get? b=am->(jz B (λb=>if b=s3.heap.objs.size then ag (.tup [])else am)).get? b=none:=λb q=>by
  cases z:(jz B (λb=>if b=s3.heap.objs.size then ag (.tup [])else am)).get? b with
  |none=>rfl
  |some o=>rw[(hB b o z).1]at q;cases q
 refine h [] {s1 with heap:=h3} (.ref e) H1 I' (sm.trans ve) ⟨e,C,dx,rfl,hd.mono (dD hs),λoe' q=>?_,jz B (λb=>if b=s3.heap.objs.size then ag (.tup [])else am),a0,λb o q=>?_,nB e k2,iI (λ_ _ z=>z) (λb hb=>nB b ?_) I'.stack,.inl ⟨vl,oe,vs,T,_,_,e3,⟨t2,t3⟩,t4,t5,nB T t6,t7,T3,Obj.data_mapFields t9 _,by simp[hz3]⟩,λb o q kb' nf=>?_⟩
 ·rw[e3]at q;cases q;exact(ds.dict he1 t1).trans (fl.1 _ he1)
 ·obtain⟨q1,ne⟩:=hB b o q;have nT:b≠T:=λz=>by rw[z,t6]at q1;cases q1
  rw[o3 b nT,sb.2 b ne];exact k1 b o q1
 ·exact(k3.mem hb).1
 ·have ky:=up b kb';obtain⟨o1,q1⟩:∃o1,s1.heap.get? b=ag o1:=by
   rcases ky with⟨⟨o0,z⟩,nx⟩|z|⟨o0,z⟩|⟨y,z⟩
   ·exact U.there b o0 z nx
   ·cases q0:H1 b with
    |none=>exact bt q0 z
    |some ob=>exact uR (I1.hok b ob q0)
   ·cases z
   ·obtain⟨v,o0,q0,_⟩:=I1.cell y b z;exact⟨o0,q0⟩
  obtain⟨q2,q3⟩:=kp b o1 q1 ky nf;rw[q]at q3;cases q3;exact pj q2 (br (nC b ky))
end
def vd(ρ:aq)(g:GF)(Fe:FX):List D->R (List D)
 |[]=>.ok []
 |d::ds=>(rO (g d ρ)).bind λρ1=>(Fe ρ1).bind λv=>(vd ρ g Fe ds).bind λr=>.ok (v::r)
theorem jG(ρ:aq)(g:GF)(Fe:FX)(d:D)(ds:List D):vd ρ g Fe (d::ds)=(rO (g d ρ)).bind λρ1=>(Fe ρ1).bind λv=>(vd ρ g Fe ds).bind λr=>.ok (v::r):=rfl
def mw(ix:eV)(G:aQ)(g:GF)(Fe:FX):FX:=λρ=>(G ρ).bind λds=>if small ds.length then(vd (inB ix ρ) g Fe ds).bind λr=>.ok (.lst r)else un
def SD(K:VC)(F:FX)(XB:Hp->aD->Ex->Prop):TE:=λσ H Q=>∃O ρ,dy K O H ρ σ/\match F ρ with
 |.ok d=>∀v H',aO H H'->dS K (hid H' O) d v->Q v H'
 |.error (ag x)=>XB H O x
 |.error am=>False
section
variable{X:Cx}{elt tg iter:WX}{scope:W8}{pos:Pos}{N:af}{ix:eV}{G:aQ}{g:GF}{Fe:FX}
def M5{σ:L2.St}{O:aD}{H:Hp}{ρ:aq}{Q:VK}(tk:kB ix g)(E:dy X.K O H ρ σ)(hF:eQ X σ O H (mw ix G g Fe ρ) λd=>∀v H',aO H H'->dS X.K (hid H' O) d v->Q v H'):
  MX (OO X G) (N0 X.K g) (HV X.K eF) (SD X.K Fe λH' O' x=>w8 X σ O H x/\aO H H'/\∀a∈O,a∈O') ix σ H Q:=by
 refine⟨O,ρ,E,(eQ.bind hF).imp λds hF=>?_⟩;have hz:small ds.length=true:=by
  cases e:small ds.length with
  |true=>rfl
  |false=>rw[e]at hF;exact hF.elim
 rw[hz,ba rfl]at hF;have hfill:=tk.fill;have hown:=tk.own;refine λJ H1 s1 wk D hD=>?_;have E1:dy X.K (D::O) (upd H1 D (.lst [])) (inB ix ρ) (inBlock ix σ):=((zy ix E).same s1).hideNew trivial hD;have DO:D∉O:=(E.all.same s1).not hD;refine⟨λi m σ' H'=>m=ds.length-i/\i<=ds.length/\aO H1 H'/\dy X.K (D::O) H' (inB ix ρ) σ'/\∃acc dn,H' D=ag (.lst acc)/\acc.length<=i/\aY X.K (hid H' (D::O)) dn acc/\eQ X σ O H ((vd (inB ix ρ) g Fe (ds.drop i)).bind λr=>.ok (.lst (dn++r))) λd=>∀v H',aO H H'->dS X.K (hid H' O) d v->Q v H',
  ⟨ds.length,by rw[Uy],TH _,dr hD _,E1,[],[],bu,Tt _,cZ.mpr rfl,by rw[Ui];exact hF⟩,?_⟩
 rintro i m σ' H' ⟨rfl,hi,sm,E',acc,dn,hacc,hlen,hdn,hrest⟩;have sH:aO (hid H1 O) (hid H' (D::O)):=λb o h=>by
  have h2:=sm b o (aP H1 O b o h);unfold hid at h ⊢;by_cases hb:b∈O
  ·rw[ba hb]at h;cases h
  ·rw[br hb]at h;have ne:b≠D:=aT h hD;rw[br (by intro z;rcases List.mem_cons.mp z with z|z;exact ne z;exact hb z)];exact h2
 by_cases hlt:i<ds.length
 ·right;obtain⟨go,yl⟩:=(wk H' (D::O) i E'.all sH).1 ds[i] (by simp[hlt]);refine⟨go,λx H2 y=>?_⟩;obtain⟨s2,dx'⟩:=yl x H2 y;have E':=E'.same s2;have sm:=sm.trans s2;have hacc:=s2 _ _ hacc;have hdn:=hdn.mono (ck s2);rw[UA hlt,jG]at hrest;obtain⟨ρ1,g1,hrest⟩:=eQ.rO (eQ.bind (eQ.bind hrest));have hrest:=eQ.bind hrest;refine⟨D::O,inB ix ρ,ds[i],ρ1,E',dx',g1,λσ3 E3 _=>?_⟩;refine⟨D::O,ρ1,true,E3,rfl,λH4 s4=>?_⟩;have E4:=E3.same s4;have back:∀{H5:Hp},dy X.K (D::O) H5 ρ1 σ3->dy X.K (D::O) H5 (inB ix ρ) σ3:=λz=>z.forget λj x e=>hfill ρ _ _ g1 j x e;refine qA ?_;refine⟨D::O,ρ1,E4,?_⟩;cases hv:Fe ρ1 with
  |error z=>
   rw[hv]at hrest;cases z with
   |none=>exact hrest
   |some x=>exact⟨hrest,s1.trans (sm.trans s4),λa ha=>Tl _ ha⟩
  |ok v=>
   rw[hv]at hrest;intro w H5 s5 dw;have s45:=s4.trans s5;have ha5:H5 D=ag (.lst acc):=s45 _ _ hacc;have hzl:ds.length<W4:=UB (cr hz) (by decide);refine⟨acc,ha5,by omega,ds.length-(i+1),by omega,rfl,hlt,?_,?_,acc++[w],dn++[v],bu,by rw[T1,T9];omega,?_,?_⟩
   ·intro b o h;rw[aL (aT h hD)];exact s45 _ _ (sm _ _ h)
   ·exact back ((E3.same s45).rewrite trivial Tj λj xs e=>bt e (hown ρ _ _ g1 j xs))
   ·have s6:aO (hid H5 (D::O)) (hid (upd H5 D (.lst (acc++[w]))) (D::O)):=iA Tj;exact(hdn.mono ((ck s45).trans s6)).snoc (dw.mono s6)
   ·have h2:eQ X σ O H ((vd (inB ix ρ) g Fe (ds.drop (i+1))).bind λr=>.ok (v::r)) _:=hrest;cases hl:vd (inB ix ρ) g Fe (ds.drop (i+1))with
    |ok r=>
     rw[hl]at h2;show∀v H',_;rw[UC];exact h2
    |error z=>
     rw[hl]at h2;cases z with
     |none=>exact h2
     |some x=>exact h2
 ·left;have ei:i=ds.length:=by omega
  subst ei;refine⟨(wk H' (D::O) ds.length E'.all sH).2 rfl,?_⟩;rw[UD]at hrest;have q:∀v H',aO H H'->dS X.K (hid H' O) (.lst (dn++[])) v->Q v H':=hrest;rw[TJ]at q;exact q (.ref D) H' (s1.trans sm) (cS.mpr ⟨D,acc,rfl,km.of (by rw[kC DO];exact hacc),hdn.mono (dD λa ha=>Tl _ ha)⟩)
def KC(hx:X.ex=[])(hst:X.stack=X.env::X.outer)(hf:X.env.frame=ag X.env.locals)(hc:X.calm=true)(ok:jL X scope N ix)(tk:kB ix g)(hi:FI X tg iter G)(hb:Pq X scope N tg elt [] g eF Fe)
  (hs:∀x,Xr iter X.env x=pure x:=by intro _;rfl):FE X (.ListComp elt [⟨tg,iter,[],0⟩] scope pos) (mw ix G g Fe):=by
 intro pins s σ H Q I Z;obtain⟨O,ρ,E,hF⟩:=Z;have h:=M5 tk E hF;rw[eval_ListComp];refine Yb (use:=am) rfl hs (iF λp hp hk=>I.ok.has p.1 (ok.free p hp hk)) ok.kind ok.names (cR (hi pins s σ H _ I h) λv s1 h1=>cR h1 λitv s2 h2=>?_);obtain⟨it,fp,tn,J,H2,e,I2,T,st2,f2,q⟩:=h2;subst e;refine kh (Q:=Q) (RR:=λacc C=>compPost (model X.prog X.w) X.A X.xe am (EP X pins σ Q) acc C) (PX:=λY=>∀σ' H' O' x,(w8 X σ O H x/\aO H H'/\∀a∈O,a∈O')->w8 Y σ' O' H' x) hc ok.cell ok.kind ok.free ok.ix (λcl C fp s H0 E0 px=>?_) (λs3 H3 I3 _ _ σ' H' O' x z=>?_) I2 T st2 f2 q ?_
 ·obtain⟨h1,h2,h3⟩:=hb cl C fp s H0 E0;refine⟨h1,λpins s σ H Q I Z=>Z.e λO Z=>Z.e λρ Z=>Z.e λb Z=>Z.e λe1 Z=>Z.e λe2 q=>h2 pins s σ H Q I ⟨O,ρ,e1,by rw[e2];exact q⟩,λpins s σ' H' Q I Z=>?_⟩;obtain⟨O',ρ',E',q⟩:=Z;refine h3 pins s σ' H' Q I ⟨O',ρ',E',?_⟩;cases hv:Fe ρ' with
  |ok d=>rw[hv]at q;exact q
  |error z=>
   rw[hv]at q;cases z with
   |none=>exact q
   |some x=>exact px _ _ _ _ q
 ·exact xG hx hst hf (ic scope.names [] (λx c e=>by simp at e)) I3 f2 z.1 z.2.1 z.2.2
 ·intro D C H' s' m _ _ _ hn hI hq;exact⟨m,hn,λh' sb=>⟨.ref D,H',hI h' sb,rfl,hq⟩⟩
end
end
end TG
namespace TX
open TG
variable[ay]
structure XE(X:Cx)(e:WX)(F:FX):Prop where h:FE X e F
structure XT(X:Cx)(e:WX)(F:bL):Prop where h:FT X e F
structure XW(X:Cx)(e:WX)(F:bL):Prop where h:FW X e F
structure XA(X:Cx)(e:aS)(F:aQ):Prop where h:FA X e F
structure XS(X:Cx)(e:WY)(F:bz):Prop where h:FS X e F
structure vJ(X:Cx)(e:cU)(F:bz):Prop where h:Nu X e F
structure XI(X:Cx)(t e:WX)(F:aQ):Prop where h:FI X t e F
structure XG(X:Cx)(e:WX)(F:GF):Prop where h:FG X e F
structure Mr(X:Cx)(e:aS)(F:Gr):Prop where h:S5 X e F
structure XO(X:Cx)(e:Option WX)(F:aq->R dH):Prop where h:FO X e F
structure XN(X:Cx)(e:WX)(F:FX):Prop where h:FN X e F
structure NS(X:Cx)(e:aS)(F:bL):Prop where h:Qx X e F
structure XV(X:Cx)(e:WX)(i:Nat):Prop where h:PE X e (qR i)
structure XB(X:Cx)(scope:W8)(N:af)(tg elt:WX)(ifs:aS)(g:GF)(C:bL)(Fe:FX)(cl:lD)(C':WW)(fp:aD)(s:WZ)(H:Hp)(E:bI):Prop where
 a:XG (bD X scope N cl C' fp s H E) tg g
 b:NS (bD X scope N cl C' fp s H E) ifs C
 c:XE (bD X scope N cl C' fp s H E) elt Fe
structure pU(X:Cx)(scope:W8)(N:af)(tg elt:WX)(ifs:aS)(g:GF)(C:bL)(Fe:FX):Prop where
 q:∀cl C' fp s H E,XB X scope N tg elt ifs g C Fe cl C' fp s H E
theorem pU.h{X:Cx}{scope:W8}{N:af}{tg elt:WX}{ifs:aS}{g:GF}{C:bL}{Fe:FX}(x:pU X scope N tg elt ifs g C Fe):Pq X scope N tg elt ifs g C Fe:=λcl C' fp s H E=>⟨(x.q cl C' fp s H E).a.h,(x.q cl C' fp s H E).b.h,(x.q cl C' fp s H E).c.h⟩
def xv{X:Cx}(i:Nat){x:Str}{pos:Pos}(hN:X.N[i]?=ag x:=by rfl)(hv:Mx X.env.scope x:=by first|exact Or.inl rfl|exact Or.inr (Or.inl rfl)|exact Or.inr (Or.inr rfl))(hd:(x==("__debug__":Str))=false:=by decide)
  (hcd:(x==("__classdict__":Str))=false:=by decide):XV X (.Name x pos) i:=⟨pv i hN hv hd hcd⟩
def Ru{X:Cx}{e:WX}{f:bL}(h:XW X e f):XT X e f:=⟨FW.ft h.h⟩
section
variable[ay]{X:Cx}
def Ik{i:Nat}{x:Str}{pos:Pos}(h:XV X (.Name x pos) i):XE X (.Name x pos) (ae i):=⟨PE.weak h.h λσ H Q Z=>Z.e λO Z=>Z.e λρ Z=>Z.e λE hF=>by
  obtain⟨d,e,q⟩:=Bu hF;obtain⟨v,e,dv⟩:=E.val i d e;exact⟨v,e,q v H (aO.refl H) dv⟩⟩
def GY{i j pos}:XE X (.Constant (.int i) j pos) (fC (.int i)):=⟨ig Kr λ_ _=>fP.mpr rfl⟩
def LR{b j pos}:XE X (.Constant (.bool b) j pos) (fC (.bl b)):=⟨ig Oc λ_ _=>iu.mpr rfl⟩
def II{j pos}:XE X (.Constant .none j pos) (fC .non):=⟨ig Mv λ_ _=>iw.mpr rfl⟩
def G9{x j pos}:XE X (.Constant (.str x) j pos) (fC (.str x)):=⟨ig Mt λ_ _=>eM.mpr rfl⟩
def yS:XA X [] aj:=⟨TG.Qk ⟩
def o7{e:WX}{es:aS}{f:FX}{g:aQ}(he:XE X e f)(hs:XA X es g)(hns:noStar e=true:=by rfl):XA X (e::es) (aa f g):=⟨TG.O2 he.h hs.h hns⟩
def IU{es:aS}{g:aQ}{k pos}(h:XA X es g):XE X (.Tuple es k pos) (iq g):=⟨PE.weak (KS h.h) λσ H Q Z=>Z.e λO Z=>Z.e λρ Z=>Z.e λE hF=>⟨O,ρ,E,(eQ.bind hF).imp λxs hF vs H1 s1 d1=>by
  obtain⟨d,e,q⟩:=eQ.rO hF;obtain⟨hz,e⟩:=bQ e;subst e;refine⟨by rw[<-d1.length];exact dF hz,λp hp=>?_⟩;exact q _ _ (s1.trans (dr hp _)) (fU (E.all.same s1) hp d1)⟩⟩
def HH{es:aS}{g:aQ}{pos}(h:XA X es g):XE X (.List es pos) (dP g):=⟨PE.weak (Et h.h) λσ H Q Z=>Z.e λO Z=>Z.e λρ Z=>Z.e λE hF=>⟨O,ρ,E,(eQ.bind hF).imp λxs hF vs H1 s1 d1=>by
  obtain⟨d,e,q⟩:=eQ.rO hF;obtain⟨hz,e⟩:=bQ e;subst e;refine⟨by rw[<-d1.length];exact dF hz,λp hp=>?_⟩;exact q _ _ (s1.trans (dr hp _)) (gL (E.all.same s1) hp d1)⟩⟩
def iC{a b:WX}{op:Operator}{r:R2}{g:D->D->bE}{fa fb:FX}{pos:Pos}(ho:ik X (Xs op) r)(s:dA X.K r g)(ha:XE X a fa)(hb:XE X b fb):XE X (.BinOp a op b pos) (f2 g fa fb):=⟨PE.weak (Oi ho ha.h hb.h) (qq s)⟩
def lI{a b:WX}{op:Xf}{r:R2}{g:D->D->bE}{fa fb:FX}{pos:Pos}(ho:ik X (Xg op) r)(s:dA X.K r g)(ha:XE X a fa)(hb:XE X b fb)(hm:Xh op b=false):XE X (.Compare a [op] [b] pos) (f2 g fa fb):=⟨PE.weak (yV ho ha.h hb.h hm) (qq s)⟩
def lw{a b:WX}{op:Xf}{r:R2}{g:D->D->bE}{fa fb:FX}{pos:Pos}(ho:ik X (Xg op) r)(s:dA X.K r g)(ha:XE X a fa)(hb:XE X b fb)(hm:Xh op b=false):XT X (.Compare a [op] [b] pos) (fB (f2 g fa fb)):=⟨PT.weak (yU ho ha.h hb.h hm) (jw (qq s))⟩
end
section
variable[ay]{X:Cx}{a b c:WX}{rest:aS}{pos:Pos}{f g:bL}
def IY(h:XT X a f):XT X (.UnaryOp .Not a pos) (fV f):=⟨PT.weak (Ln h.h) λσ H Q ⟨O,ρ,E,hF⟩=>⟨O,ρ,E,(eQ.bind hF).imp λb q H1 s1=>q H1 s1⟩⟩
def DH(h:XT X a f):XW X (.BoolOp .And [a] pos) f:=⟨Jd h.h⟩
def Hu(h:XT X a f):XW X (.BoolOp .Or [a] pos) f:=⟨Mg h.h⟩
def G0(ha:XT X a f)(hb:XW X (.BoolOp .And (b::rest) pos) g):XW X (.BoolOp .And (a::b::rest) pos) (ph f g):=⟨PW.weak (KJ ha.h hb.h) λσ H Q Z=>Z.e λO Z=>Z.e λρ Z=>Z.e λE hF=>⟨O,ρ,E,(eQ.bind hF).imp λc hF H1 s1=>by
 cases c with
 |true=>exact qA ⟨O,ρ,E.same s1,(hF.mono s1).imp λb q H2 s2=>q H2 (s1.trans s2)⟩
 |false=>exact qS (hF H1 s1)⟩⟩
def Kj(ha:XT X a f)(hb:XW X (.BoolOp .Or (b::rest) pos) g):XW X (.BoolOp .Or (a::b::rest) pos) (B8 f g):=⟨PW.weak (Nq ha.h hb.h) λσ H Q Z=>Z.e λO Z=>Z.e λρ Z=>Z.e λE hF=>⟨O,ρ,E,(eQ.bind hF).imp λc hF H1 s1=>by
 cases c with
 |false=>exact qS ⟨O,ρ,E.same s1,(hF.mono s1).imp λb q H2 s2=>q H2 (s1.trans s2)⟩
 |true=>exact qA (hF H1 s1)⟩⟩
end
section
variable[ay]{X:Cx}{a b c:WX}{rest:aS}{pos:Pos}{f g:bL}{fa fb:FX}
def Jb{op}(h:XE X a fa):XE X (.BoolOp op [a] pos) fa:=⟨Ki h.h⟩
def G5(ha:XE X a fa)(hb:XE X (.BoolOp .And (b::rest) pos) fb):XE X (.BoolOp .And (a::b::rest) pos) (gu fa fb):=⟨PE.weak (MD ha.h hb.h) λσ H Q Z=>Z.e λO Z=>Z.e λρ Z=>Z.e λE hF=>⟨O,ρ,E,(eQ.bind hF).imp λd hF x H1 s1 d1=>by
 cases d with
 |bl c=>
  refine⟨c,iu.mp d1,?_⟩;cases c with
  |true=>exact qA ⟨O,ρ,E.same s1,(hF.mono s1).imp λd q v H2 s2 d2=>q v H2 (s1.trans s2) d2⟩
  |false=>exact qS (hF _ H1 s1 (iu.mpr rfl))
 |_=>exact hF.elim⟩⟩
def Ho(ha:XE X a fa):XE X (.UnaryOp .Not a pos) (vA fa):=⟨PE.weak (MA ha.h) λσ H Q Z=>Z.e λO Z=>Z.e λρ Z=>Z.e λE hF=>⟨O,ρ,E,(eQ.bind hF).imp λd hF x H1 s1 d1=>by
 obtain⟨d',e,q⟩:=eQ.rO hF;cases d with
 |bl c=>
  cases e;exact⟨c,iu.mp d1,q _ H1 s1 (iu.mpr rfl)⟩
 |_=>cases e⟩⟩
def Kk(hc:XT X c f)(ha:XE X a fa)(hb:XE X b fb):XE X (.IfExp c a b pos) (Jy f fa fb):=⟨PE.weak (Ct hc.h ha.h hb.h) λσ H Q Z=>Z.e λO Z=>Z.e λρ Z=>Z.e λE hF=>⟨O,ρ,E,(eQ.bind hF).imp λd hF H1 s1=>by
 cases d with
 |true=>exact qA ⟨O,ρ,E.same s1,(hF.mono s1).imp λd q v H2 s2 d2=>q v H2 (s1.trans s2) d2⟩
 |false=>exact qS ⟨O,ρ,E.same s1,(hF.mono s1).imp λd q v H2 s2 d2=>q v H2 (s1.trans s2) d2⟩⟩⟩
end
section
variable[ay]{X:Cx}
def LW{a b:WX}{fa fb:FX}{pos:Pos}(ha:XE X a fa)(hb:XE X b fb)(hs:tN b):XE X (.Subscript a b pos) (f2 aX fa fb):=⟨PE.weak (M9 Pp ha.h hb.h hs) (qq cX)⟩
def DE:XO X am cj:=⟨λpins s σ H Q I Z=>Z.e λO Z=>Z.e λρ Z=>Z.e λE q=>Io pins s σ H Q I (q H (aO.refl H))⟩
def DA{e:WX}{f:FX}(h:XE X e f):XO X (ag e) (dY f):=⟨λpins s σ H Q I Z=>Z.e λO Z=>Z.e λρ Z=>Z.e λE hF=>
 HE h.h pins s σ H Q I ⟨O,ρ,E,(eQ.bind hF).imp λd hF v H1 s1 d1=>by
  obtain⟨o,e,q⟩:=eQ.rO hF;cases d with
  |int i=>
   cases e;exact⟨i,fP.mp d1,q H1 s1⟩
  |_=>cases e⟩⟩
def An{e:WX}{f:FX}{l h:aq->R dH}{lo hi:Option WX}{p2 pos:Pos}(he:XE X e f)(hl:XO X lo l)(hh:XO X hi h):XE X (.Subscript e (.Slice lo hi am p2) pos) (cN f l h):=⟨PE.weak (Fs P4 he.h hl.h hh.h) λσ H Q Z=>Z.e λO Z=>Z.e λρ Z=>Z.e λE hF=>⟨O,ρ,E,(eQ.bind hF).imp λa hF x H1 s1 d1=>⟨O,ρ,E.same s1,((eQ.bind hF).mono s1).imp λlo' hF H2 s2=>⟨O,ρ,E.same (s1.trans s2),((eQ.bind hF).mono (s1.trans s2)).imp λhi' hF H3 s3=>by
  obtain⟨d,e,q⟩:=eQ.rO hF;exact⟨O,a,d,E.all.same ((s1.trans s2).trans s3),d1.mono (ck (s2.trans s3)),e,λv H4 s4 d4=>q v H4 (((s1.trans s2).trans s3).trans s4) d4⟩⟩⟩⟩⟩
end
section
variable[ay]{X:Cx}{x:Str}{p pos:Pos}{e:WX}{es:aS}{id T:String}{g:List D->bE}{f:aQ}
def lZ(hc:fW X (.builtin id) (Jf X.K g))(hg:Gl X x)(hm:X.mg x=am)(hv:W6 x=ag (.builtin id))(ha:XA X (e::es) f)(hn:x≠"__name__":=by decide)(hdb:(x==("__debug__":Str))=false:=by decide)(hns:(e::es).all noStar=true:=by rfl):XE X (.Call (.Name x p) (e::es) [] pos) (fL g f):=⟨PE.weak (jo hc hg hm hv ha.h hn hdb (bf (T6 _ _ ▸ hns).1) (bY (T6 _ _ ▸ hns).2)) (Ed pP)⟩
def ko(hc:fW X (.type T) (Jf X.K g))(hg:Gl X x)(hm:X.mg x=am)(hv:W6 x=ag (.type T))(ha:XA X (e::es) f)(hn:x≠"__name__":=by decide)(hdb:(x==("__debug__":Str))=false:=by decide)(hns:(e::es).all noStar=true:=by rfl):XE X (.Call (.Name x p) (e::es) [] pos) (fL g f):=⟨PE.weak (AF hc hg hm hv ha.h hn hdb (bf (T6 _ _ ▸ hns).1) (bY (T6 _ _ ▸ hns).2)) (Ed pP)⟩
def nW{f:FX}{xT:Str}{p2:Pos}(ok:yx X.K T)(hg:Gl X "isinstance")(hm:X.mg "isinstance"=am)(hgT:Gl X xT)(hmT:X.mg xT=am)(hvT:W6 xT=ag (.type T))(he:XE X e f)(hn2:xT≠"__name__":=by decide)(hd2:(xT==("__debug__":Str))=false:=by decide)(hns:noStar e=true:=by rfl):XE X (.Call (.Name "isinstance" p) [e,.Name xT p2] [] pos) (nH T f):=⟨PE.weak (jo (Gg ok) hg hm kY (eE he.h (eE (yP (v:=.ty T) hgT hmT hvT rfl hn2 hd2) kn (bf rfl)) (bf hns)) (by decide) (by decide) (bf hns) (bY rfl)) λσ H Q Z=>Z.e λO Z=>Z.e λρ Z=>Z.e λE hF=>⟨O,ρ,E,(eQ.bind hF).imp λa hF v H1 s1 d1=>by
  obtain⟨d,e,q⟩:=eQ.rO hF;obtain⟨h1,h2⟩:=bQ e;subst h2;exact⟨O,v,a,rfl,h1,d1,q _ H1 s1 (iu.mpr rfl)⟩⟩⟩
end
section
variable[ay]{X:Cx}{a:WX}{f:FX}{pos:Pos}
def HA{j pos'}(h:XE X a f):XE X (.Compare a [.Is] [.Constant .none j pos'] pos) (ql f):=⟨PE.weak (CF (E5 h.h)) λσ H Q q=>zm σ H Q q⟩
def E9{j pos'}(h:XE X a f):XE X (.Compare a [.IsNot] [.Constant .none j pos'] pos) (j0 f):=⟨PE.weak (CF (zF h.h)) λσ H Q q=>wO σ H Q q⟩
def Im{j pos'}(h:XE X a f):XT X (.Compare a [.Is] [.Constant .none j pos'] pos) (fB (ql f)):=⟨PT.weak (CN (E5 h.h)) λσ H Q q=>jw (t:=λσ H Q=>tF X f σ H λv H'=>Q (.bl (decide (v=.non))) H') zm σ H Q q⟩
def D7{j pos'}(h:XE X a f):XT X (.Compare a [.IsNot] [.Constant .none j pos'] pos) (fB (j0 f)):=⟨PT.weak (CN (zF h.h)) λσ H Q q=>jw (t:=λσ H Q=>tF X f σ H λv H'=>Q (.bl (!decide (v=.non))) H') wO σ H Q q⟩
def AZ(h:XE X a f)(he:∀whole,isTrue a X.env whole=(do let v<-whole;standAt a.pos;holding [v] (truthy v)):=by intro _;rfl):XT X a (bW f):=⟨PT.weak (Gi h.h he) λσ H Q Z=>Z.e λO Z=>Z.e λρ Z=>Z.e λE hF=>⟨O,ρ,E,(eQ.bind hF).imp λd hF x H1 s1 d1=>by
 obtain⟨r,hF,q⟩:=eQ.rO hF;refine⟨r,?_,q H1 s1⟩;cases d with
 |non=>cases hF;rw[iw.mp d1];rfl
 |bl b=>cases hF;rw[iu.mp d1];rfl
 |int i=>cases hF;rw[fP.mp d1];rfl
 |str y=>
  obtain⟨hz,e⟩:=bQ hF;subst e;rw[eM.mp d1];refine⟨dF hz,?_⟩;show(y.length !=0)=((y.length:Int) !=0)
  cases y.length<;>rfl
 |tup xs=>
  cases hF;obtain⟨p,vs,e,g1,g2⟩:=cP.mp d1;rw[e];refine .inr (.inl ⟨vs,cF (aP H1 O) g1,?_⟩);have l:=g2.length;cases xs<;>cases vs<;>first|rfl|(simp at l)
 |lst xs=>
  cases hF;obtain⟨p,vs,e,g1,g2⟩:=cS.mp d1;rw[e];refine .inl ⟨vs,(aP H1 O).seq g1,?_⟩;have l:=g2.length;cases xs<;>cases vs<;>first|rfl|(simp at l)
 |_=>cases hF⟩⟩
end
section
variable[ay]{X:Cx}{tg:WX}
def Hx{e:WX}{f:FX}(h:XE X e f):XI X tg e (fj f):=by
 refine⟨?_⟩;rintro pins s σ H R I ⟨O,ρ,E,hG⟩;have hG':=eQ.bind hG;cases hf:f ρ with
 |error z=>exact zU h.h pins s σ H R I ⟨O,ρ,E,by rw[hf]at hG' ⊢;cases z with|none=>exact hG'.elim|some x=>exact hG'⟩
 |ok d=>
  rw[hf]at hG';obtain⟨ds,e1,q⟩:=eQ.rO (α:=List D) (o:=pT d) hG';cases d with
  |lst xs=>
   cases e1;refine zU h.h pins s σ H R I ⟨O,ρ,E,?_⟩;rw[hf];refine λv H1 s1 d1=>?_;obtain⟨p,vs,ev,g1,g2⟩:=cS.mp d1;exact⟨p,ev,⟨vs,(aP H1 O).seq g1⟩,q _ H1 s1 (BG g1 g2)⟩
  |tup xs=>
   cases e1;refine MF h.h pins s σ H R I ⟨O,ρ,E,?_⟩;rw[hf];refine λv H1 s1 d1=>?_;obtain⟨p,vs,ev,g1,g2⟩:=cP.mp d1;exact⟨p,ev,⟨vs,cF (aP H1 O) g1⟩,q _ H1 s1 (EQ g1 g2)⟩
  |_=>cases e1
def xK{a:WX}{f:aQ}{p pos:Pos}(hg:Gl X "range")(hm:X.mg "range"=am)(ha:XA X [a] f)(hs:Xb [a] X.env=[(false,eval a X.env)]:=by rfl):XI X tg (.Call (.Name "range" p) [a] [] pos) (gh f):=by
 refine⟨?_⟩;rintro pins s σ H R I ⟨O,ρ,E,hG⟩;refine A8 hg hm ha.h hs pins s σ H R I ⟨O,ρ,E,(eQ.bind hG).imp λes hG' vs H1 s1 d1=>?_⟩;clear hG;obtain⟨ds,hG,q⟩:=eQ.rO hG';clear hG';unfold jU at hG;split at hG
 ·rename_i j;obtain⟨h1,h2⟩:=bQ hG;subst h2;obtain⟨j1,j2⟩:=cr h1;obtain⟨v,ev,dv⟩:=d1.one;exact⟨j,by rw[ev,fP.mp dv],j1,j2,q _ H1 s1 (xJ 0 _)⟩
 ·cases hG
end
section
variable[ay]{X:Cx}{pos:Pos}
def Ek{i:Nat}{x:Str}(hN:X.N.Nodup)(hi:X.N[i]?=ag x)(hx:Loc X.env.scope x)(hf:X.fn x=true\/X.env.scope.names.lookup x=ag .local:=by first|exact .inl rfl|exact .inr rfl|assumption):XG X (.Name x pos) (gN i):=by
 refine⟨?_⟩;rintro pins s σ H v u Q I r ⟨O,ρ,d,ρ',E,hd,hg,q⟩;cases hg;have hiσ:i<σ.length:=by rw[I.len];exact(List.getElem?_eq_some_iff.mp hi).1
 refine Iy hN hi hx hf pins s σ H v u Q I r (q _ (E.setV hiσ hd) λj x e nv=>?_);rcases aU e with⟨_,eq⟩|⟨ne,eq⟩
 ·cases eq;exact bt rfl (nv _)
 ·exact⟨Tp (Ne.symm ne),eq⟩
def Dj:Mr X [] J2:=by
 refine⟨?_⟩;rintro pins s σ H vs us Q I r ⟨O,ρ,ds,ρ',E,hd,hg,q⟩;cases ds with
 |nil=>
  cases hg;rw[cZ]at hd;exact GO pins s σ H vs us Q I r ⟨hd,q _ E λi x e _=>⟨rfl,e⟩⟩
 |cons _ _=>cases hg
def AH{e:WX}{es:aS}{g:GF}{h:Gr}(h1:XG X e g)(h2:Mr X es h)(hs:(assignEach (e::es) X.env).map (·.2)=assign e X.env::(assignEach es X.env).map (·.2):=by rfl):Mr X (e::es) (DK g h):=by
 refine⟨?_⟩;rintro pins s σ H vs us Q I r ⟨O,ρ,ds,ρ',E,hd,hg,q⟩;cases ds with
 |nil=>cases hg
 |cons d ds=>
  obtain⟨ρ1,e1,e2⟩:=bind_some hg;rw[bP]at hd;obtain⟨v,vr,ev,d1,d2⟩:=hd;exact Fc h1.h h2.h hs pins s σ H vs us Q I r ⟨v,vr,ev,O,ρ,d,ρ1,E,d1,e1,λσ1 E1 k1=>⟨O,ρ1,ds,ρ',E1,d2,e2,λσ2 E2 k2=>q σ2 E2 λi x e nv=>by
   obtain⟨a1,a2⟩:=k2 i x e nv;obtain⟨b1,b2⟩:=k1 i x a2 nv;exact⟨a1.trans b1,b2⟩⟩⟩
def Jv{es:aS}{k:Nat}{g:Gr}{n:Nat}(hc:X.calm=true)(h:Mr X es g)(hn:(assignEach es X.env).length=n:=by rfl)(hst:(assignEach es X.env).findIdx? (·.1)=none:=by rfl):XG X (.Tuple es k pos) (gT n g):=by
 refine⟨?_⟩;rintro pins s σ H v u Q I r ⟨O,ρ,d,ρ',E,hd,hg,q⟩;cases d with
 |tup xs=>
  obtain⟨p,vs,ev,g1,g2⟩:=cP.mp hd;have hg':(if xs.length=n then g xs ρ else am)=ag ρ':=hg;by_cases hl:xs.length=n
  ·rw[ba hl]at hg';exact Kw hc h.h hn hst pins s σ H v u Q I r ⟨p,vs,ev,cF (aP H O) g1,by rw[<-g2.length];exact hl,O,ρ,xs,ρ',E,g2,hg',q⟩
  ·rw[br hl]at hg';cases hg'
 |_=>cases hg
end
section
variable[ay]
def Di{X:Cx}:NS X [] eF:=⟨TG.OG ⟩
def Du{X:Cx}{c:WX}{F:bL}(h:XT X c F):NS X [c] F:=⟨Iw h.h⟩
end
section
variable[ay]{X:Cx}{elt tg iter:WX}{ifs:aS}{scope:W8}{pos:Pos}{N:af}{ix:eV}{G:aQ}{g:GF}{C:bL}{Fe:FX}
def K8(hc:X.calm=true)(ok:jL X scope N ix)(tk:kB ix g)(hi:XI X tg iter G)(hb:pU X scope N tg elt ifs g C Fe)(hs:∀x,Xr iter X.env x=pure x:=by intro _;rfl):XE X (.ListComp elt [⟨tg,iter,ifs,0⟩] scope pos) (kD ix G g C Fe):=⟨PE.weak (JD hc ok.cell ok.kind ok.names ok.free ok.ix hi.h hb.h.k hs) (J3 tk)⟩
end
section
variable[ay]{X:Cx}{st:WY}{rest body:cU}{pos:Pos}
def CO:vJ X [] bU:=⟨λHb Ob=>qW.weak uP λE σ H Z=>Z.e λO Z=>Z.e λρ Z=>Z.e λk Z=>Z.e λr Z=>Z.e λS Z=>Z.e λhF hk=>hk.nx O ρ σ H S hF⟩
def Bv{F1 F2:bz}(h1:XS X st F1)(h2:vJ X rest F2):vJ X (st::rest) (aF F1 F2):=⟨λHb Ob=>qW.weak (pM (h1.h Hb Ob) (h2.h Hb Ob)) λE σ H Z=>Z.e λO Z=>Z.e λρ Z=>Z.e λk Z=>Z.e λr Z=>Z.e λS Z=>Z.e λhF hk=>
 ⟨O,ρ,{k with nx:=F2 k},r,S,hF,hk.ne,λO' ρ' σ' H' S' e=>⟨O',ρ',k,r,S',e,hk⟩,hk.bk,hk.ct,hk.rt,hk.ex⟩⟩
def wX{F1:bz}(h1:XS X st F1):vJ X [st] F1:=⟨λHb Ob=>tK (h1.h Hb Ob)⟩
def zk{e:WX}{f:FX}(h:XE X e f):XS X (.Return (ag e) pos) (bi f):=⟨λHb Ob=>PS.weak (yn h.h) λE σ H Z=>Z.e λO Z=>Z.e λρ Z=>Z.e λk Z=>Z.e λr Z=>Z.e λS Z=>Z.e λhF hk=>
 ⟨O,ρ,S.env,eQ.on hF hk S λd e v H' s' d'=>hk.rt d O v H' e.symm (S.base.same' s') d'⟩⟩
def Eg:XS X (.Pass pos) bU:=⟨λHb Ob=>PS.weak Ha λE σ H Z=>Z.e λO Z=>Z.e λρ Z=>Z.e λk Z=>Z.e λr Z=>Z.e λS Z=>Z.e λhF hk=>hk.nx O ρ σ H S hF⟩
def HJ{x j pos'}:XS X (.Expr (.Constant (.str x) j pos) pos') bU:=⟨λHb Ob=>PS.weak ME λE σ H Z=>Z.e λO Z=>Z.e λρ Z=>Z.e λk Z=>Z.e λr Z=>Z.e λS Z=>Z.e λhF hk=>hk.nx O ρ σ H S hF⟩
def LV{c:WX}{a b:cU}{tc:bL}{A B:bz}(hc:XT X c tc)(ha:vJ X a A)(hb:vJ X b B):XS X (.If c a b pos) (fq tc A B):=⟨λHb Ob=>PS.weak (JV hc.h (ha.h Hb Ob) (hb.h Hb Ob)) λE σ H Z=>Z.e λO Z=>Z.e λρ Z=>Z.e λk Z=>Z.e λr Z=>Z.e λS Z=>Z.e λhF hk=>
 ⟨O,ρ,S.env,eQ.on hF hk S fun z e H1 s1=>by
  cases z with
  |true=>exact qA ⟨O,ρ,k,r,S.same s1,e,hk⟩
  |false=>exact qS ⟨O,ρ,k,r,S.same s1,e,hk⟩⟩⟩
def G1{i:Nat}{x:Str}{e:WX}{f:FX}{pos':Pos}(hN:X.N.Nodup)(hi:X.N[i]?=ag x)(hx:Loc X.env.scope x)(he:XE X e f)(hs:swapsWith e (ag (.Name x pos')) pos.line X.env=pure false:=by rfl)(hf:X.fn x=true\/X.env.scope.names.lookup x=ag .local:=by first|exact .inl rfl|exact .inr rfl|assumption):XS X (.Assign [.Name x pos'] e pos) (bK i f):=⟨sj (List.getElem?_eq_some_iff.mp hi).1 (pW hN hi hx he.h hs hf)⟩
def Kg{elt tg iter:WX}{ifs:aS}{scope:W8}{N:af}{ix:eV}{G:aQ}{g:GF}{C:bL}{Fe:FX}{i:Nat}{y:Str}{lpos py spos:Pos}(hN:X.N.Nodup)(hi':X.N[i]?=ag y)(hx:Loc X.env.scope y)(hc:X.calm=true)(ok:jL X scope N ix)(tk:kB ix g)(hi:XI X tg iter G)(hb:pU X scope N tg elt ifs g C Fe)(hsw:swapsWith (.ListComp elt [⟨tg,iter,ifs,0⟩] scope lpos) (ag (.Name y py)) spos.line X.env=pure true:=by rfl)(hs:∀x,Xr iter X.env x=pure x:=by intro _;rfl)(hf:X.fn y=true\/X.env.scope.names.lookup y=ag .local:=by first|exact .inl rfl|exact .inr rfl|assumption):XS X (.Assign [.Name y py] (.ListComp elt [⟨tg,iter,ifs,0⟩] scope lpos) spos) (bK i (kD ix G g C Fe)):=⟨sj (List.getElem?_eq_some_iff.mp hi').1 (PS.weak (JY hN hi' hx hc ok.cell ok.kind ok.names ok.free ok.ix hi.h hb.h.k hsw hs hf) λE σ H q=>J3 tk σ H _ q)⟩
def GH{tg e:WX}{f:FX}{g:GF}(he:XE X e f)(hg:XG X tg g)(hs:swapsWithSole [tg] e pos.line X.env=pure false:=by rfl)(hw:swappedStores [tg] e X.env=pure none:=by rfl)(h1:(assignEach [tg] X.env).map (·.2)=[assign tg X.env]:=by rfl):XS X (.Assign [tg] e pos) (uM f g):=⟨λHb Ob=>PS.weak (LU he.h hg.h hs hw h1) λE σ H Z=>Z.e λO Z=>Z.e λρ Z=>Z.e λk Z=>Z.e λr Z=>Z.e λS Z=>Z.e λhF hk=>
 ⟨O,ρ,S.env,eQ.on hF hk S fun d e v H1 s1 d1=>by
  cases hg.h:g d ρ with
  |none=>rw[hg.h]at e;exact bt e.symm hk.ne
  |some ρ1=>
   rw[hg.h]at e;refine⟨O,ρ,d,ρ1,(S.same s1).env,d1,hg.h,λσ' E' own=>hk.nx O ρ1 σ' H1 ((S.same s1).after E' own) e⟩⟩⟩
def BJ{st:cU}{F:bz}(is:bJ)(h:vJ X st F):vJ X st (rK is F):=⟨λHb Ob=>qW.weak (h.h Hb Ob) λE σ H Z=>Z.e λO Z=>Z.e λρ Z=>Z.e λk Z=>Z.e λr Z=>Z.e λS Z=>Z.e λhF hk=>⟨O,TG.kill is ρ,k,r,S.kill is,hF,hk⟩⟩
def HY{tg iter:WX}{G:aQ}{g:GF}{B:bz}(hp:Xm (model X.prog X.w) X.A X.env X.xe)(hc:X.calm=true)(hi:XI X tg iter G)(hg:XG X tg g)(hb:vJ X body B)(hs:∀x,Xr iter X.env x=pure x:=by intro _;rfl):XS X (.For tg iter body [] pos) (DI G g B):=⟨λHb Ob pins s σ H E I Z=>Z.e λO Z=>Z.e λρ Z=>Z.e λk Z=>Z.e λr Z=>Z.e λS Z=>Z.e λhF hk=>by
 have hall:qW X body (λE σ H=>∃Hb',Hi X Hb' Ob B E σ H):=λpins s σ H E I Z=>Z.e λHb' q=>hb.h Hb' Ob pins s σ H E I q;refine KY hp hc hi.h hg.h hall hs pins s σ H E I ⟨O,ρ,S.env,eQ.on hF hk S λds hF J H1 s1 wk=>?_⟩;have E1:=S.same s1;refine⟨λi m σ H=>m=ds.length-i/\i<=ds.length/\∃O' ρ',bT X.K (lb H1 O Ob) Ob O' H ρ' σ/\ja g B k (ds.drop i) ρ'=r,
  ⟨ds.length,by rw[Uy],TH _,O,ρ,E1.loop,by rw[Ui];exact hF⟩,?_⟩
 rintro i m σ' H' ⟨rfl,hi',O',ρ',E',hr⟩;have sD:=Eo E1.base E'.base;by_cases hlt:i<ds.length
 ·right;obtain⟨go,yl⟩:=(wk H' O' i E'.env.all sD).1 ds[i] (by simp[hlt]);refine⟨go,λσ2 H2=>ds.length-(i+1)=ds.length-(i+1)/\i+1<=ds.length/\∃O' ρ',bT X.K (lb H1 O Ob) Ob O' H2 ρ' σ2/\ja g B k (ds.drop (i+1)) ρ'=r,λσ2 H2 z=>⟨ds.length-(i+1),by omega,z⟩,λx H2 y=>?_⟩;obtain⟨s2,dx⟩:=yl x H2 y;have E':=E'.same s2;rw[UA hlt]at hr;cases hg':g ds[i] ρ' with
  |none=>
   have hr':(rO (g ds[i] ρ')).bind (λρ1=>B ⟨ja g B k (ds.drop (i+1)),k.nx,ja g B k (ds.drop (i+1)),k.ex⟩ ρ1)=r:=hr;rw[hg']at hr';exact bt hr'.symm hk.ne
  |some ρ1=>
   have hr':(rO (g ds[i] ρ')).bind (λρ1=>B ⟨ja g B k (ds.drop (i+1)),k.nx,ja g B k (ds.drop (i+1)),k.ex⟩ ρ1)=r:=hr;rw[hg']at hr';refine⟨O',ρ',ds[i],ρ1,E'.env,dx,hg',λσ3 E3 own=>?_⟩;have E3':bT X.K (lb H1 O Ob) Ob O' H2 ρ1 σ3:=E'.after E3 own;exact⟨lb H1 O Ob,O',ρ1,⟨ja g B k (ds.drop (i+1)),k.nx,ja g B k (ds.drop (i+1)),k.ex⟩,r,E3',hr',hk.loop E1.base (λO4 ρ4 σ4 H4 E4 z=>⟨rfl,hlt,O4,ρ4,E4,z⟩) (λO4 ρ4 σ4 H4 E4 z=>⟨rfl,hlt,O4,ρ4,E4,z⟩) rfl rfl rfl rfl⟩
 ·left;have ei:i=ds.length:=by omega
  subst ei;refine⟨(wk H' O' ds.length E'.env.all sD).2 rfl,?_⟩;rw[UD]at hr;exact hk.nx O' ρ' σ' H' (E'.back E1.base) hr⟩
def AK{c:WX}{tc:bL}{B:bz}(n:Nat)(hp:Xm (model X.prog X.w) X.A X.env X.xe)(hc:XT X c tc)(hb:vJ X body B):XS X (.While c body [] pos) (jf n tc B):=⟨λHb Ob pins s σ H E I Z=>Z.e λO Z=>Z.e λρ Z=>Z.e λk Z=>Z.e λr Z=>Z.e λS Z=>Z.e λhF hk=>by
 have hall:qW X body (λE σ H=>∃Hb',Hi X Hb' Ob B E σ H):=λpins s σ H E I Z=>Z.e λHb' q=>hb.h Hb' Ob pins s σ H E I q;refine vz hp hc.h hall pins s σ H E I ⟨λm σ H'=>∃O' ρ',bT X.K (lb H O Ob) Ob O' H' ρ' σ/\dM tc B k m ρ'=r,⟨n,O,ρ,S.loop,hF⟩,?_⟩;rintro m σ' H' ⟨O',ρ',E',hr⟩;cases m with
 |zero=>exact bt hr.symm hk.ne
 |succ m=>
  refine⟨O',ρ',E'.env,?_⟩;have hr':kE (tc ρ') k ρ' (λb=>if b then B ⟨dM tc B k m,k.nx,dM tc B k m,k.ex⟩ ρ' else k.nx ρ')=r:=hr;refine eQ.on hr' hk (E'.back S.base) λb hr H1 s1=>?_;cases b with
  |true=>
   refine qA ⟨λσ2 H2=>∃O' ρ',bT X.K (lb H O Ob) Ob O' H2 ρ' σ2/\dM tc B k m ρ'=r,λσ2 H2 z=>⟨m,TF m,z⟩,?_⟩;exact⟨lb H O Ob,O',ρ',⟨dM tc B k m,k.nx,dM tc B k m,k.ex⟩,r,E'.same s1,hr,hk.loop S.base (λO4 ρ4 σ4 H4 E4 z=>⟨O4,ρ4,E4,z⟩) (λO4 ρ4 σ4 H4 E4 z=>⟨O4,ρ4,E4,z⟩) rfl rfl rfl rfl⟩
  |false=>exact qS (hk.nx O' ρ' σ' H1 ((E'.back S.base).same s1) hr)⟩
end
section
variable[ay]{X:Cx}{pos:Pos}
def Gz{es:aS}{g:aQ}(h:XA X es g):XN X (.List es pos) (dP g):=⟨PE.weak (Et h.h) λσ H Q Z=>Z.e λO Z=>Z.e λρ Z=>Z.e λE hF=>⟨O,ρ,E,(eQ.bind hF).imp λxs hF vs H1 s1 d1=>by
  obtain⟨d,e,q⟩:=eQ.rO hF;obtain⟨hz,e⟩:=bQ e;subst e;refine⟨by rw[<-d1.length];exact dF hz,λp hp=>?_⟩;exact q p _ (s1.trans (dr hp _)) (s1.free hp) ⟨_,bu,trivial⟩ (mZ hp d1)⟩⟩
def IE{i:Nat}{x:Str}{e:WX}{f:FX}{pos':Pos}(hN:X.N.Nodup)(hi:X.N[i]?=ag x)(hx:Loc X.env.scope x)(he:XN X e f)(hs:swapsWith e (ag (.Name x pos')) pos.line X.env=pure false:=by rfl)(hf:X.fn x=true\/X.env.scope.names.lookup x=ag .local:=by first|exact .inl rfl|exact .inr rfl|assumption):XS X (.Assign [.Name x pos'] e pos) (mh i f):=⟨rC (List.getElem?_eq_some_iff.mp hi).1 (pW hN hi hx he.h hs hf)⟩
end
section
variable[ay]
def Bg{X:Cx}{elt tg iter:WX}{ifs:aS}{scope:W8}{N:af}{ix:eV}{G:aQ}{g:GF}{C:bL}{Fe:FX}{i:Nat}{y:Str}{lpos py spos:Pos}(hN:X.N.Nodup)(hi':X.N[i]?=ag y)(hx:Loc X.env.scope y)(hc:X.calm=true)(ok:jL X scope N ix)(tk:kB ix g)(hi:XI X tg iter G)(hb:pU X scope N tg elt ifs g C Fe)(hsw:swapsWith (.ListComp elt [⟨tg,iter,ifs,0⟩] scope lpos) (ag (.Name y py)) spos.line X.env=pure true:=by rfl)(hs:∀x,Xr iter X.env x=pure x:=by intro _;rfl)(hf:X.fn y=true\/X.env.scope.names.lookup y=ag .local:=by first|exact .inl rfl|exact .inr rfl|assumption):XS X (.Assign [.Name y py] (.ListComp elt [⟨tg,iter,ifs,0⟩] scope lpos) spos) (mh i (kD ix G g C Fe)):=⟨rC (List.getElem?_eq_some_iff.mp hi').1 (PS.weak (JY hN hi' hx hc ok.cell ok.kind ok.names ok.free ok.ix hi.h hb.h.k hsw hs hf) λE σ H q=>Fk tk σ H _ (JU σ H _ q))⟩
def Ly{X:Cx}{elt tg iter:WX}{ifs:aS}{scope:W8}{pos:Pos}{N:af}{ix:eV}{G:aQ}{g:GF}{C:bL}{Fe:FX}(hc:X.calm=true)(ok:jL X scope N ix)(tk:kB ix g)(hi:XI X tg iter G)(hb:pU X scope N tg elt ifs g C Fe)(hs:∀x,Xr iter X.env x=pure x:=by intro _;rfl):XN X (.ListComp elt [⟨tg,iter,ifs,0⟩] scope pos) (kD ix G g C Fe):=⟨PE.weak (JD hc ok.cell ok.kind ok.names ok.free ok.ix hi.h hb.h.k hs) λσ H Q q=>Fk tk σ H _ (JU σ H _ q)⟩
def KZ{X : Cx}{i : Nat}{x m : Str}{id : String}{r : V -> aN -> Hp -> VK -> Prop}{u : List D -> List D -> Option (List D)}{e : WX}{es : aS}{f : aQ}{npos apos cpos pos : Pos}(slot : Slot "list" m id)(hty : typeOf (.builtin id) = pure (.type "method_descriptor"))(hm : OU X id r)(ok : DF X.K r u)(hx : XV X (.Name x npos) i)(he : XA X (e :: es) f)(hbase : Xx (.Name x npos) m X.env (eval (.Name x npos) X.env) = eval (.Name x npos) X.env := by rfl)(hfew : ((backTo cpos (Xb (e :: es) X.env)).all (fun x => !x.1) && (backToKw cpos (Xz [] X.env)).all (fun x => x.1.isSome)
      && decide ((e::es:aS).length+([]:List X7).length+(if([]:List X7).isEmpty then 0 else 1)<30))=true:=by rfl)(hline:(apos.endLine==cpos.line)=true:=by rfl)(hs:Xb (e::es) X.env=(false,eval e X.env)::Xb es X.env:=by rfl)(hplain:(backTo cpos (Xb es X.env)).any (·.1)=false:=by rfl)(hsw:swapsWith (.Call (.Attribute (.Name x npos) m apos) (e::es) [] cpos) am pos.line X.env=pure false:=by rfl):XS X (.Expr (.Call (.Attribute (.Name x npos) m apos) (e::es) [] cpos) pos) (Cd i u f):=⟨λHb Ob pins s σ H E I Z=>Z.e λO Z=>Z.e λρ Z=>Z.e λk Z=>Z.e λrr Z=>Z.e λS Z=>Z.e λhF hk=>by
  rcases CV i u f k ρ with⟨xs,hxs,fe⟩|fe<;>rw[fe]at hF
  · skip
    obtain⟨a,ha,haO,hat⟩:=S.env.own i _ hxs;obtain⟨o,vs0,ho,eo,dn⟩:=hat;subst eo;refine yT (vD F.plainAttrs_list slot hty hm hx.h he.h hbase hfew hline hs hplain) hsw pins s σ H E I ⟨.ref a,ha,.inl ⟨rfl,vs0,km.of ho⟩,O,ρ,S.env,eQ.on hF hk S λds hr vs H1 s1 d1=>?_⟩;have S1:=S.same s1;cases hu1:u xs ds with
    |none=>rw[hu1]at hr;exact bt hr.symm hk.ne
    |some ys=>
      rw[hu1]at hr;exact ok H1 O a xs ys ds vs0 vs _ S1.env.all haO (s1 _ _ ho) (dn.mono (ck s1)) d1 hu1 λws' v new=>hk.nx O _ σ _ (S1.setO hxs ha trivial (jt haO new)) hr
  ·exact bt hF.symm hk.ne⟩
def Fi{X:Cx}{e:WX}{f:bL}(is:bJ)(h:XT X e f):XT X e (mL is f):=⟨PT.weak h.h λσ H Q Z=>Z.e λO Z=>Z.e λρ Z=>Z.e λE hF=>by
 obtain⟨O',E'⟩:=E.frzs is;refine⟨O',TG.frzs is ρ,E',?_⟩;unfold mL at hF;cases hf:f (TG.frzs is ρ)with
 |error z=>rw[hf]at hF;exact hF.elim
 |ok d=>rw[hf]at hF;exact hF⟩
def ye{X:Cx}{k k':Nat}{ps:af}{g:cM}{h:aQ}{x:Str}{p pos:Pos}{e:WX}{es:aS}(C:Callee X.prog X.w X.K X.mg X.base k x ps g)(hn:Ar ps.length g)(hr:dG k' X.A)(hk:k<=k')(ha:XA X (e::es) h)(hg:Gl X x:=by rfl)(hdb:(x==("__debug__":Str))=false:=by decide)(hns:(e::es).all noStar=true:=by rfl):XE X (.Call (.Name x p) (e::es) [] pos) (fR g h):=by
 refine⟨?_⟩;obtain⟨f,fd,F,b,kp,m⟩:=C;exact PE.weak (jy F (hr.mono hk) hg m kp b ha.h hdb (bf (T6 _ _ ▸ hns).1) (bY (T6 _ _ ▸ hns).2)) (AJ hn)
end
section
variable[ay]{X:Cx}{a b c:WX}{fa fb fc:FX}{pos:Pos}
def A4{op op':Xf}{r r':R2}{g g':D->D->bE}(ho:ik X (Xg op) r)(s:dA X.K r g)(ho':ik X (Xg op') r')(s':dA X.K r' g')(ha:XE X a fa)(hb:XE X b fb)(hc:XE X c fc)(hm:lastMarks [op,op'] [b,c]=false:=by with_unfolding_all rfl):XE X (.Compare a [op,op'] [b,c] pos) (iz g g' fa fb fc):=⟨PE.weak (FR ho ho' ha.h hb.h hc.h hm) (rn s s')⟩
def Bl{op op':Xf}{r r':R2}{g g':D->D->bE}(ho:ik X (Xg op) r)(s:dA X.K r g)(ho':ik X (Xg op') r')(s':dA X.K r' g')(ha:XE X a fa)(hb:XE X b fb)(hc:XE X c fc)(hm:lastMarks [op,op'] [b,c]=false:=by with_unfolding_all rfl):XT X (.Compare a [op,op'] [b,c] pos) (fB (iz g g' fa fb fc)):=⟨PT.weak (Do ho ho' ha.h hb.h hc.h hm) (jw (rn s s'))⟩
def HI(ha:XE X a fa):XE X (.UnaryOp .USub a pos) (EL fa):=⟨PE.weak (MV KW ha.h) (KN λx d v O H Q _ e dv q=>by
 cases x with
 |int i=>cases e;exact⟨i,fP.mp dv,q _ H (aO.refl H) (fP.mpr rfl)⟩
 |_=>cases e)⟩
def Dy{x:Str}{i:Int}(hg:Gl X x)(hm:∃t,X.mg x=ag (.int i t))(hd:(x==("__debug__":Str))=false:=by decide):XE X (.Name x pos) (fC (.int i)):=by
 refine⟨?_⟩;obtain⟨t,m⟩:=hm;exact ig (jX (v:=.int i) hg m ⟨t,rfl⟩ hd) λ_ _=>fP.mpr rfl
def Ea{x y:Str}(hg:Gl X x)(hm:∃t,X.mg x=ag (.str y t))(hd:(x==("__debug__":Str))=false:=by decide):XE X (.Name x pos) (fC (.str y)):=by
 refine⟨?_⟩;obtain⟨t,m⟩:=hm;exact ig (jX (v:=.str y) hg m ⟨t,rfl⟩ hd) λ_ _=>eM.mpr rfl
end
section
variable[ay]{X:Cx}
def GX{a b:WX}{es:aS}{k:Nat}{tpos:Pos}{f:aQ}{p pos:Pos}(hg:Gl X "zip")(hm:X.mg "zip"=am)(ha:XA X [a,b] f)(hs:Xb [a,b] X.env=(false,eval a X.env)::Xb [b] X.env:=by rfl)(hpl:(backTo pos (Xb [b] X.env)).any (·.1)=false:=by rfl):XI X (.Tuple es k tpos) (.Call (.Name "zip" p) [a,b] [] pos) (xS f):=by
 refine⟨?_⟩;rintro pins s σ H RR I ⟨O,ρ,E,hG⟩;have hA:=ha.h pos pins s σ H (λvs H1=>∃ds r,EW ds=ag r/\aY X.K (hid H1 O) ds vs/\∀J,Walk X.K (hid H1 O) J r->RR J H1) I ⟨O,ρ,E,(eQ.bind hG).imp λds hG vs H1 s1 d1=>by
  obtain⟨r,e,q⟩:=eQ.rO hG;exact⟨ds,r,e,d1,λJ wk=>q J H1 s1 wk⟩⟩
 refine Wz (kq I hg hm PyProof.Rows.boot_zip (Wv (cR hA λus s1 Z=>Z.e λvs Z=>Z.e λH1 Z=>Z.e λI1 Z=>Z.e λr1 Z=>Z.e λds Z=>Z.e λr Z=>Z.e λer Z=>Z.e λd1 q=>?_) hs hpl));exact K6 I1 er d1 r1 q
end
section
variable[ay]{X:Cx}{a o e:WX}{es:aS}{fa fo:FX}{fas:aQ}{f m x:Str}{cs:af}{pos apos p:Pos}{k k':Nat}{ps:af}
def GW(ok:bB X.K f cs)(h:XE X a fa)(hb:Xx a f X.env (eval a X.env)=eval a X.env:=by rfl):XE X (.Attribute a f pos) (f1 (bV f cs) fa):=⟨PE.weak (Ke h.h hb) λσ H Q Z=>Z.e λO Z=>Z.e λρ Z=>Z.e λE hF=>⟨O,ρ,E,(eQ.bind hF).imp λd hF v H1 s1 d1=>by
  obtain⟨r,e,q⟩:=eQ.rO hF;cases d with
  |obj c fs vs=>
   have e':(if cs.contains c then(fs.zip vs).lookup f else am)=ag r:=e;cases hc:cs.contains c with
   |false=>rw[hc]at e';cases e'
   |true=>
    rw[hc]at e';obtain⟨a,ws,ev,g1,g2,C,dx,g3,g4⟩:=OV.mp d1;obtain⟨w,l1,l2⟩:=qc g1 e';obtain⟨cl,na⟩:=ok c (List.contains_iff_mem.mp hc) C g3;exact⟨a,C,dx,_,w,ev,aP H1 O _ _ g4,cl,na,l1,q w H1 s1 l2⟩
  |_=>cases e⟩⟩
def DZ{tbl : List (Str × (cM))}{pl : Sem Bool}(tb : pE X.prog X.w X.K X.mg X.base k m ps tbl)(hr : dG k' X.A)(hk : k <= k')(ho : XE X o fo)(ha : XA X (e :: es) fas)(hns : (e :: es).all noStar = true := by rfl)(ht : eval (.Call (.Attribute o m apos) (e :: es) [] pos) X.env = (do
      let ov<-eval o X.env
      standAt apos.atName
      let (f,first)<-holding [ov] (getMethod ov m pl)
      Xy pos f first (backTo pos (Xb (e::es) X.env)) (backToKw pos (Xz [] X.env))):=by rfl):XE X (.Call (.Attribute o m apos) (e::es) [] pos) (iY m tbl fo fas):=⟨w6 tb (hr.mono hk) ho.h (λpins s1 σ H1 O ρ a f od Q g fd _ kp F b ar I1 E1 dO hP=>by
    refine VZ (first:=[.ref a]) (h₀:=X.base) I1.ok.mod.kin kp (cR (ha.h pos pins s1 σ H1 _ I1 ⟨O,ρ,E1,(eQ.bind hP).imp λas hP vs H2 s2 d2=>kd (vs:=.ref a::vs) ar (E1.all.same s2) (bP.mpr ⟨_,_,rfl,dO.mono (ck s2),d2⟩) ((hP.mono s2).imp λd q v H3 s3 d3=>q v H3 (s2.trans s3) d3)⟩) λus s2 Z=>Z.e λvs Z=>Z.e λH2 Z=>Z.e λI2 Z=>Z.e λr Z=>Z.e λEx Z=>Z.e λhx q2=>⟨I2.kIn,?_⟩) (bf (T6 _ _ ▸ hns).1) (bY (T6 _ _ ▸ hns).2);exact sW (us:=.ref a::us) (vs:=.ref a::vs) F (hr.mono hk) b hx I2 (.cons rfl r) q2) ht⟩
def AD{tbl : List (Str × (cM))}{pl : Sem Bool}(tb : pE X.prog X.w X.K X.mg X.base k m ps tbl)(hr : dG k' X.A)(hk : k <= k')(ho : XE X o fo)(ht : eval (.Call (.Attribute o m apos) [] [] pos) X.env = (do
      let ov<-eval o X.env
      standAt apos.atName
      let (f,first)<-holding [ov] (getMethod ov m pl)
      Xy pos f first (backTo pos (Xb [] X.env)) (backToKw pos (Xz [] X.env))):=by rfl):XE X (.Call (.Attribute o m apos) [] [] pos) (iY m tbl fo aj):=⟨w6 tb (hr.mono hk) ho.h (λpins s1 σ H1 O ρ a f od Q g fd _ kp F b ar I1 E1 dO hP=>by
    have hP':eQ X σ O H1 (g [od]) λd=>∀v H',aO H1 H'->dS X.K (hid H' O) d v->Q v H':=hP;obtain⟨Ex,hx,q2⟩:=kd (vs:=[.ref a]) ar E1.all (bP.mpr ⟨_,_,rfl,dO,cZ.mpr rfl⟩) hP';exact Wk (first:=[.ref a]) I1.kIn kp (sW (us:=[.ref a]) (vs:=[.ref a]) F (hr.mono hk) b hx I1 (.cons rfl .nil) q2)) ht⟩
def Ig{c:Str}{fs:af}(IA:cz X.prog X.w X.K X.mg X.base k c ps fs)(hr:dG k' X.A)(hk:k+1<=k')(hg:Gl X c)(ha:XA X (e::es) fas)(hdb:(c==("__debug__":Str))=false:=by decide)(hns:(e::es).all noStar=true:=by rfl):XE X (.Call (.Name c p) (e::es) [] pos) (fNew c fs fas):=by
 refine⟨?_⟩;obtain⟨C,f,fd,h1,h2,h3,h4,h5⟩:=IA;refine PE.weak (yI (dvs:=[]) (E:=E0) h2 h3 (hr.mono hk) hg h5 h4 .nil Ka ha.h hdb (bf (T6 _ _ ▸ hns).1) (bY (T6 _ _ ▸ hns).2)) λσ H Q Z=>Z.e λO Z=>Z.e λρ Z=>Z.e λE hF=>⟨O,ρ,E,(eQ.bind hF).imp λas hF vs H1 s1 d1 x dx hx hd ne=>?_⟩
 by_cases hl:as.length=fs.length
 ·rw[ba hl]at hF;rw[TJ];refine⟨x,dx,vs,rfl,by rw[<-d1.length,hl],by rw[bu],rfl,?_⟩;obtain⟨sm,dn⟩:=ju h1 hl d1 (E.all.same s1) hx hd ne;exact hF _ _ (s1.trans sm) dn
 ·rw[br hl]at hF;exact hF.elim
end
section
variable[ay]{X:Cx}
def Cq{a e : WX}{es : aS}{fa : FX}{fs : aQ}{apos cpos : Pos}(ha : XE X a fa)(hs : XA X (e :: es) fs)(hbase : Xx a "join" X.env (eval a X.env) = eval a X.env := by rfl)(hfew : ((backTo cpos (Xb (e :: es) X.env)).all (fun x => !x.1) && (backToKw cpos (Xz [] X.env)).all (fun x => x.1.isSome)
      && decide ((e::es).length+([]:List X7).length+(if([]:List X7).isEmpty then 0 else 1)<30))=true:=by rfl)(hline:(apos.endLine==cpos.line)=true:=by rfl)(hst:Xb (e::es) X.env=(false,eval e X.env)::Xb es X.env:=by rfl)(hplain:(backTo cpos (Xb es X.env)).any (·.1)=false:=by rfl):XE X (.Call (.Attribute a "join" apos) (e::es) [] cpos) (zc fa fs):=⟨PE.weak (vD F.plainAttrs_str F.slot_str_join F.type_str_join HB ha.h hs.h hbase hfew hline hst hplain) λσ H Q Z=>Z.e λO Z=>Z.e λρ Z=>Z.e λE hF=>⟨O,ρ,E,(eQ.bind hF).imp λx hF v H1 s1 d1=>by
    obtain⟨z,ez,hF⟩:=eQ.rO (eQ.bind hF);rw[tH ez d1];exact⟨rfl,O,ρ,E.same s1,((eQ.bind hF).mono s1).imp λds hF vs H2 s2 d2=>by
      obtain⟨d,e,q⟩:=eQ.rO hF;exact sJ e d2 λw dw=>q w H2 (s1.trans s2) dw⟩⟩⟩
end
section
variable[ay]{X:Cx}{C:WW}{pins:bg}{σ:St}{H:Hp}{s:WZ}{Q:VK}
def DQ{c:Str}{p pos:Pos}(NA:DX X.K X.mg c)(hg:Gl X c)(hdb:(c==("__debug__":Str))=false:=by decide):XE X (.Call (.Name c p) [] [] pos) (fC (.obj c [] [])):=by
 refine⟨?_⟩;obtain⟨C,h1,h2,h3⟩:=NA;rintro pins s σ H Q I ⟨O,ρ,E,hF⟩;refine XQ (gf I hg h3 ?_ hdb);refine Wk I.kIn h2.kp (run_plain h2 I λx dx hx hd ne=>?_);obtain⟨sm,dn⟩:=ju (fs:=[]) (as:=[]) (vs:=[]) h1 rfl (cZ.mpr rfl) E.all hx hd ne;have e:upd (upd (upd H dx (.own x)) x (.ins C dx [])) x (.ins C dx (([]:af).zip []))=upd (upd H dx (.own x)) x (.ins C dx []):=by rw[yM];rfl
 rw[e]at sm dn;exact hF _ _ sm dn
end
section
variable[ay]{X:Cx}{p pos:Pos}{e:WX}{C:WW}
def G6{f:FX}{x:Str}{p2:Pos}{yes no:af}(h:wQ X.K X.mg x yes no)(hg:Gl X "isinstance")(hm:X.mg "isinstance"=am)(hgx:Gl X x)(he:XE X e f)(hd2:(x==("__debug__":Str))=false:=by decide)(hns:noStar e=true:=by rfl):XE X (.Call (.Name "isinstance" p) [e,.Name x p2] [] pos) (f1 (qL yes no) f):=by
 refine⟨?_⟩;obtain⟨C,hC,hy,hn⟩:=h;exact PE.weak (jo DL hg hm kY (eE he.h (eE (jX (v:=.ref C) hgx hC rfl hd2) kn (bf rfl)) (bf hns)) (by decide) (by decide) (bf hns) (bY rfl)) λσ H Q Z=>Z.e λO Z=>Z.e λρ Z=>Z.e λE hF=>⟨O,ρ,E,(eQ.bind hF).imp λa hF v H1 s1 d1=>by
  obtain⟨d,e,q⟩:=eQ.rO hF;unfold qL at e;split at e
  ·rename_i c fs vs;obtain⟨a,ws,rfl,_,_,D,dx,hcl,ha⟩:=OV.mp d1;by_cases h1:yes.contains c=true
   ·rw[ba h1]at e;cases e;exact⟨a,D,dx,_,rfl,aP _ _ _ _ ha,.inl ⟨hy c (by simpa using h1) D hcl,q _ H1 s1 (iu.mpr rfl)⟩⟩
   ·rw[br h1]at e;obtain⟨h2,h3⟩:=bQ e;subst h3;obtain⟨cl,n⟩:=hn c (by simpa using h2) D hcl;exact⟨a,D,dx,_,rfl,aP _ _ _ _ ha,.inr ⟨cl,n,q _ H1 s1 (iu.mpr rfl)⟩⟩
  ·cases e⟩
end
section
variable[ay]{X:Cx}{tg:WX}
def GC{e:WX}{f:FX}(h:XE X e f):XI X tg e (gO f):=by
 refine⟨?_⟩;rintro pins s σ H R I ⟨O,ρ,E,hG⟩;refine Kp h.h pins s σ H R I ⟨O,ρ,E,(eQ.bind hG).imp λd hG' v H1 s1 d1=>?_⟩;obtain⟨ds,e1,q⟩:=eQ.rO (α:=List D) (o:=Fu d) hG';cases d with
 |str x=>cases e1;exact⟨x,eM.mp d1,q _ H1 s1 (CD x)⟩
 |_=>cases e1
end
section
variable[ay]{X:Cx}{pos:Pos}
def Ai{x:Str}{e:WX}{es:aS}{f:aQ}{np cpos:Pos}(hc:X.calm=true)(hx:ExcAt X.K X.mg x)(hg:Gl X x)(ha:XA X (e::es) f)(hdb:(x==("__debug__":Str))=false:=by decide)(hns:(e::es).all noStar=true:=by rfl):XS X (.Raise (ag (.Call (.Name x np) (e::es) [] cpos)) am pos) (dU x f):=⟨λHb Ob pins s σ H E I Z=>Z.e λO Z=>Z.e λρ Z=>Z.e λk Z=>Z.e λr Z=>Z.e λS Z=>Z.e λhF hk=>by
 obtain⟨C,cl,hm,hi⟩:=hx;obtain⟨tl,N,nm,q,bs,hdct,sn,sub,ab,col,dd,k0,k1,k2,k3,k5,mN,hC,hN,hni,T⟩:=(yW I.mod.kin hi x).obj;have st:Xb (e::es) X.env=_:=bf (T6 _ _ ▸ hns).1;have plain:(backTo cpos (Xb (e::es) X.env)).any (·.1)=false:=bY hns;refine wpAny_Raise_call_subT (k5:=k5) (k3:=k3) (k2:=k2) (k1:=k1) (k0:=k0) (dd:=dd) (col:=col) (ab:=ab) (sub:=sub) (sn:=sn) (hdct:=hdct) (bs:=bs) (N:=N) (q:=q) (nm:=nm) WL (mN:=mN) (T.hasType PySem.F.excBase_ValueError.hasBase) (I.ok.hd hc) plain hni (gf I hg hm ⟨rfl,?_⟩ hdb);have A1:=ha.h cpos pins s σ H (λvs H1=>vs.length<=W4/\aO H H1/\k.ex ⟨x,[],[]⟩ ρ=r) I ⟨O,ρ,S.env,eQ.on hF hk S λds e vs H' s' d'=>by
  have z:small ds.length=true:=by
   cases z:small ds.length with
   |true=>rfl
   |false=>rw[z]at e;exact bt e.symm hk.ne
  rw[z]at e;exact⟨by rw[<-d'.length];exact dF z,s',e⟩⟩
 rw[st]at A1 ⊢;refine Calls.evalArgs_plain (cR A1 λus s2 Z=>Z.e λvs Z=>Z.e λH1 Z=>Z.e λI1 Z=>Z.e λrv Z=>Z.e λq1 Z=>Z.e λq2 q3=>⟨rfl,by rw[<-rv.length];exact q1,I1.bk _ _ hC,hN.keeps I1.bk,T.keeps I1.bk,λh' a m=>?_⟩);exact hk.ex O ρ σ H1 _ (S.same q2) q3 pins _ _ H1 (I1.kept (t':=s2.toks) m.keeps) (aO.refl H1) ⟨a,C,am,rfl,⟨cl,[],cZ.mpr rfl,rfl,.inl rfl⟩,vk I1 m⟩⟩
end
section
variable[ay]{X:Cx}{p pos:Pos}{e:WX}
def Cz{f:FX}{x:Str}{p2:Pos}{tbl:List (Str×Bool)}(h:dE X.K X.mg x tbl)(hg:Gl X "isinstance")(hm:X.mg "isinstance"=am)(hgx:Gl X x)(he:XE X e f)(hd2:(x==("__debug__":Str))=false:=by decide)(hns:noStar e=true:=by rfl):XE X (.Call (.Name "isinstance" p) [e,.Name x p2] [] pos) (f1 (eK tbl) f):=by
 refine⟨?_⟩;obtain⟨C,hC,h⟩:=h;exact PE.weak (jo (rV (tv:=.ref C) (T:=.ref C) λu r=>r) hg hm kY (eE he.h (eE (jX (v:=.ref C) hgx hC rfl hd2) kn (bf rfl)) (bf hns)) (by decide) (by decide) (bf hns) (bY rfl)) (J8 h)
def Ao{f:FX}{x:Str}{T:String}{p2:Pos}{tbl:List (Str×Bool)}(h:vP X.K (.type T) tbl)(hg:Gl X "isinstance")(hm:X.mg "isinstance"=am)(hgx:Gl X x)(hmx:X.mg x=am)(hv:W6 x=ag (.type T))(he:XE X e f)(hn2:x≠"__name__":=by decide)(hd2:(x==("__debug__":Str))=false:=by decide)(hns:noStar e=true:=by rfl):XE X (.Call (.Name "isinstance" p) [e,.Name x p2] [] pos) (f1 (eK tbl) f):=⟨PE.weak (jo (rV (tv:=.ty T) (T:=.type T) λu r=>r) hg hm kY (eE he.h (eE (yP (v:=.ty T) hgx hmx hv rfl hn2 hd2) kn (bf rfl)) (bf hns)) (by decide) (by decide) (bf hns) (bY rfl)) (J8 h)⟩
end
section
variable[ay]
def xD{X:Cx}{k k':Nat}{ps:af}{g:cM}{h:aQ}{x:Str}{p pos:Pos}{e:WX}{es:aS}(C:Hq X.prog X.w X.K X.mg X.base k x ps g)(hn:Ar ps.length g)(hr:dG k' X.A)(hk:k<=k')(ha:XA X (e::es) h)(hg:Gl X x:=by rfl)(hdb:(x==("__debug__":Str))=false:=by decide)(hns:(e::es).all noStar=true:=by rfl):XN X (.Call (.Name x p) (e::es) [] pos) (fR g h):=by
 refine⟨?_⟩;obtain⟨f,fd,F,b,kp,m⟩:=C;exact PE.weak (jy F (hr.mono hk) hg m kp b ha.h hdb (bf (T6 _ _ ▸ hns).1) (bY (T6 _ _ ▸ hns).2)) (Bj hn)
end
def Hj{X:Cx}{pos:Pos}{body suite:cU}{b₀:WY}{g n:Str}{gp hpos:Pos}{F Fh:bz}{cs:af}{i:Nat}(hx:X.ex=[])(hst:X.stack=X.env::X.outer)(hf:X.env.frame=ag X.env.locals)(hfn:∀x,X.fn x=true)
  (hT:wM X.K X.mg g cs) (hg:Gl X g) (hN:X.N.Nodup) (hi:X.N[i]?=ag n) (hl:X.env.scope.names.lookup n=ag .local)
  (hb:∀E pn,Xm (model X.prog X.w) X.A X.env E->vJ (vm X E pn) body F) (hs:∀A pn,A.depth=X.A.depth->A.units=X.A.units->vJ (pK X A pn) (b₀::suite) Fh) (hdb:(g==("__debug__":Str))=false:=by decide):
  XS X (.Try body [.ExceptHandler (ag (.Name g gp)) (ag n) (b₀::suite) hpos] [] [] pos) (Cp cs i F Fh):=⟨TG.PD hx hst hf hfn hT hg hN hi hl (λE pn hp=>(hb E pn hp).h) (λA pn h1 h2=>(hs A pn h1 h2).h) hdb⟩
abbrev Lk(K:VC)(f:WW)(nm qual:Str)(st:WY)(oc:WU)(od:Option WW)(kV dc pm:WU)(an:Option WW)(cd ct:WU)(sl:Array (Option WU)):Prop:=K.lookup f=ag ⟨oc,od,.func (V1 nm qual (iG st) (cO st) (ak st) .none kV dc pm an cd ct),sl⟩
structure zI(P:W1)(w:W0)(K:VC)(mg:bN)(base:W3)(k:Nat)(N:af)(qual:Str)(st:WY)(f:WW)(B:bz):Prop where
 h:∀(cdv:WU)(A:W7)(outer:List Env)(s:WZ)(H:Hp)(E:XK),dG k (A.deeper (Wx qual (ak st) s.heap.objs.size f cdv))->Xm (model P w) (A.deeper (Wx qual (ak st) s.heap.objs.size f cdv)) (Wx qual (ak st) s.heap.objs.size f cdv) (ef (gj P w) P w K mg base N qual (ak st) f cdv A outer s H E).xe->
  vJ (ef (gj P w) P w K mg base N qual (ak st) f cdv A outer s H E) (cO st) B
def zI.ok{P:W1}{w:W0}{K:VC}{mg:bN}{base:W3}{k:Nat}{N:af}{qual:Str}{st:WY}{f:WW}{B:bz}(h:zI P w K mg base k N qual st f B):BodyOk P w K mg base k N qual st f B:=⟨λcdv A outer s H E hr hp=>(h.h cdv A outer s H E hr hp).h⟩
section
variable{X:Cx}{x:Str}{pos:Pos}
def xw(i:Nat)(hN:X.N[i]?=ag x:=by rfl)(hv:Mx X.env.scope x:=by first|exact Or.inl rfl|exact Or.inr (Or.inl rfl)|exact Or.inr (Or.inr rfl))(hd:(x==("__debug__":Str))=false:=by decide)(hcd:(x==("__classdict__":Str))=false:=by decide):XE X (.Name x pos) (ae i):=Ik (xv i hN hv hd hcd)
def xi{a b:WX}{fa fb:FX}(ha:XE X a fa)(hb:XE X b fb)(hs:tN b:=by exact λ_ _=>rfl):XE X (.Subscript a b pos) (f2 aX fa fb):=LW ha hb hs
def xa1{e:WX}{f:FX}(he:XE X e f)(h:noStar e=true:=by rfl):XA X [e] (aa f aj):=o7 he yS h
def xa2{e e':WX}{f f':FX}(he:XE X e f)(he':XE X e' f')(h:noStar e=true:=by rfl)(h':noStar e'=true:=by rfl):XA X [e,e'] (aa f (aa f' aj)):=o7 he (xa1 he' h') h
def xs(i:Nat){e:WX}{f:FX}{pos':Pos}(hN:X.N.Nodup)(he:XE X e f)(hi:X.N[i]?=ag x:=by rfl)(hx:Loc X.env.scope x:=by first|exact Or.inl rfl|exact Or.inr rfl)(hs:swapsWith e (ag (.Name x pos')) pos.line X.env=pure false:=by rfl)(hf:X.fn x=true\/X.env.scope.names.lookup x=ag .local:=by first|exact .inl rfl|exact .inr rfl|assumption):XS X (.Assign [.Name x pos'] e pos) (bK i f):=G1 hN hi hx he hs hf
end
def Px:af->Bool
 |[]=>true
 |x::r=>!(r.contains x)&&Px r
def js{l:af}(h:Px l=true):l.Nodup:=by
 induction l with
 |nil=>exact List.nodup_nil
 |cons x r ih=>
  simp only[Px,T6,U0]at h;exact List.nodup_cons.mpr ⟨λm=>by rw[List.contains_iff_mem.mpr m]at h;exact bt h.1 (by decide),ih h.2⟩
def Gp:WX->af
 |.Name x _=>[x]
 |.Tuple es _ _=>es.filterMap λe=>match e with
  |.Name x _=>ag x
  |_=>am
 |_=>[]
def AO(N:af):eV->af->af
 |[],_=>[]
 |some j::r,t=>N.getD j ""::AO N r t
 |none::r,x::t=>x::AO N r t
 |none::r,[]=>""::AO N r []
section
variable{X:Cx}{elt tg iter:WX}{ifs:aS}{scope:W8}{ix:eV}{G:aQ}{g:GF}{C:bL}{Fe:FX}{i:Nat}{y:Str}{lpos py pos:Pos}
def xl(hc:X.calm=true)(tk:kB ix g)(hi:XI X tg iter G)(hb:pU X scope (AO X.N ix (Gp tg)) tg elt ifs g C Fe)(ok:il X.env.scope.names X.N scope (AO X.N ix (Gp tg)) ix=true:=by rfl)(hs:∀x,Xr iter X.env x=pure x:=by intro _;rfl):XE X (.ListComp elt [⟨tg,iter,ifs,0⟩] scope pos) (kD ix G g C Fe):=K8 hc (.of ok) tk hi hb hs
def Sd(hc:X.calm=true)(tk:kB ix g)(hi:XI X tg iter G)(hb:pU X scope (AO X.N ix (Gp tg)) tg elt ifs g C Fe)(ok:il X.env.scope.names X.N scope (AO X.N ix (Gp tg)) ix=true:=by rfl)(hs:∀x,Xr iter X.env x=pure x:=by intro _;rfl):XN X (.ListComp elt [⟨tg,iter,ifs,0⟩] scope pos) (kD ix G g C Fe):=Ly hc (.of ok) tk hi hb hs
def S6(hN:X.N.Nodup)(hc:X.calm=true)(tk:kB ix g)(hi:XI X tg iter G)(hb:pU X scope (AO X.N ix (Gp tg)) tg elt ifs g C Fe)(hi':X.N[i]?=ag y:=by rfl)(hx:Loc X.env.scope y:=by first|exact Or.inl rfl|exact Or.inr rfl)(ok:il X.env.scope.names X.N scope (AO X.N ix (Gp tg)) ix=true:=by rfl)(hsw:swapsWith (.ListComp elt [⟨tg,iter,ifs,0⟩] scope lpos) (ag (.Name y py)) pos.line X.env=pure true:=by rfl)(hs:∀x,Xr iter X.env x=pure x:=by intro _;rfl)(hf:X.fn y=true\/X.env.scope.names.lookup y=ag .local:=by first|exact .inl rfl|exact .inr rfl|assumption):XS X (.Assign [.Name y py] (.ListComp elt [⟨tg,iter,ifs,0⟩] scope lpos) pos) (bK i (kD ix G g C Fe)):=Kg hN hi' hx hc (.of ok) tk hi hb hsw hs hf
def R7(hN:X.N.Nodup)(hc:X.calm=true)(tk:kB ix g)(hi:XI X tg iter G)(hb:pU X scope (AO X.N ix (Gp tg)) tg elt ifs g C Fe)(hi':X.N[i]?=ag y:=by rfl)(hx:Loc X.env.scope y:=by first|exact Or.inl rfl|exact Or.inr rfl)(ok:il X.env.scope.names X.N scope (AO X.N ix (Gp tg)) ix=true:=by rfl)(hsw:swapsWith (.ListComp elt [⟨tg,iter,ifs,0⟩] scope lpos) (ag (.Name y py)) pos.line X.env=pure true:=by rfl)(hs:∀x,Xr iter X.env x=pure x:=by intro _;rfl)(hf:X.fn y=true\/X.env.scope.names.lookup y=ag .local:=by first|exact .inl rfl|exact .inr rfl|assumption):XS X (.Assign [.Name y py] (.ListComp elt [⟨tg,iter,ifs,0⟩] scope lpos) pos) (mh i (kD ix G g C Fe)):=Bg hN hi' hx hc (.of ok) tk hi hb hsw hs hf
end
structure U where
 P:W1
 w:W0
 K:VC
 mg:bN
 base:W3
 cL:WW
 T:WW
abbrev Ca(u:U)(k:Nat)(x:Str)(ps:af)(g:cM):Prop:=Callee u.P u.w u.K u.mg u.base k x ps g
abbrev Ma(u:U)(k:Nat)(c m:Str)(ps:af)(g:cM):Prop:=MethAt u.P u.w u.K u.mg u.base k c m ps g
abbrev Ta(u:U)(k:Nat)(m:Str)(ps:af)(t:List (Str×(cM))):Prop:=pE u.P u.w u.K u.mg u.base k m ps t
def Df(u:U)(x:Str)(st:WY):Prop:=∃f fd,kc u.K x x st f fd/\u.mg x=ag (.ref f)
def Dm(u:U)(c m qual:Str)(st:WY):Prop:=∃C f fd,clsAt u.K c C/\iU u.K C/\Meth u.K C m f/\kc u.K m qual st f fd
def Bd(x qual:Str)(st:WY)(ps:af):Prop:=∀us:bA,us.length=ps.length->∀(kV doc pm:WU)(an:Option WW)(cdv ct:WU),bindArgs (V1 x qual (iG st) (cO st) (ak st) .none kV doc pm an cdv ct) ⟨us,[]⟩=pure (ps.zip us)
def kc.bd{K:VC}{x qual:Str}{st:WY}{f:WW}{fd:XD}{ps:af}(F:kc K x qual st f fd)(h:Bd x qual st ps):Binds K fd ps []:=F.binds λkV doc pm an cdv ct us e=>h us e kV doc pm an cdv ct
section
variable{u:U}{x c m qual:Str}{st:WY}{ps:af}{k:Nat}{B:bz}
def RC(M:af)(d:Df u x st)(b:Bd x x st ps)(sc:bp (ps++M) ps (ak st))(h:(ps++M).Nodup->∀f,zI u.P u.w u.K u.mg u.base k (ps++M) x st f B):Ca u (k+1) x ps (az B ps.length (ps++M).length):=by
 obtain⟨f,fd,F,e⟩:=d;exact BV F (kc.bd F b) e sc (h sc.nd f).ok
def Sf(d:Df u x st)(b:Bd x x st ps):Ca u k x ps λ_=>un:=by
 obtain⟨f,fd,F,e⟩:=d;exact v7 k F (kc.bd F b) e
def Sl(M:af)(d:Dm u c m qual st)(b:Bd m qual st ps)(sc:bp (ps++M) ps (ak st))(h:(ps++M).Nodup->∀f,zI u.P u.w u.K u.mg u.base k (ps++M) qual st f B):Ma u (k+1) c m ps (az B ps.length (ps++M).length):=by
 obtain⟨C,f,fd,h1,h2,h3,F⟩:=d;exact Bz h1 h2 h3 F (kc.bd F b) sc (h sc.nd f).ok
def Sn(M:af){f:WW}{fd:XD}(F:kc u.K x x st f fd)(sc:bp (ps++M) ps (ak st))(h:(ps++M).Nodup->zI u.P u.w u.K u.mg u.base k (ps++M) x st f B):fw u.P u.w u.K u.mg u.base (gj u.P u.w) (k+1) f fd ps (Bc u.K ps.length (az B ps.length (ps++M).length)):=ui F sc (h sc.nd).ok
end
def KD(K:VC)(x:Str)(st:WY):Prop:=∃f oc od kV dc pm an cd ct sl,V5 K W5 x=ag (ag (.ref f))/\Lk K f x x st oc od kV dc pm an cd ct sl/\V2 K cd x=true/\VY K (.ref f)=true
def KD.mk{K:VC}{x:Str}{st:WY}{f:WW}{oc:WU}{od:Option WW}{kV dc pm:WU}{an:Option WW}{cd ct:WU}{sl:Array (Option WU)}(a:V5 K W5 x=ag (ag (.ref f)))(l:Lk K f x x st oc od kV dc pm an cd ct sl)(c:V2 K cd x=true)(k:VY K (.ref f)=true):KD K x st:=⟨f,oc,od,kV,dc,pm,an,cd,ct,sl,a,l,c,k⟩
def KDs(K:VC):List (Str×WY)->Prop
 |[]=>True
 |p::r=>KD K p.1 p.2/\KDs K r
def KDs.mk{K:VC}{x:Str}{st:WY}{r:List (Str×WY)}(h:KD K x st)(t:KDs K r):KDs K ((x,st)::r):=⟨h,t⟩
def O5(u:U)(Z:Prop):List (Str×WY)->Prop
 |[]=>Z
 |p::r=>O5 u Z r/\Df u p.1 p.2
def KZs(K:VC):af->Prop
 |[]=>True
 |x::r=>V5 K W5 x=ag am/\KZs K r
def KZs.mk{K:VC}{x:Str}{r:af}(h:V5 K W5 x=ag am)(t:KZs K r):KZs K (x::r):=⟨h,t⟩
def Zs(u:U):af->Prop
 |[]=>True
 |x::r=>Zs u r/\u.mg x=am
section
variable{u:U}{h:W3}
theorem O5.of{Z:Prop}(X:u.K.In h)(G:h.Ns W5 u.mg)(z:Z):∀{l:List (Str×WY)},KDs u.K l->O5 u Z l
 |[],_=>z
 |_::_,h=>by
  obtain⟨⟨_,_,_,_,_,_,_,_,_,_,a,l,c,k⟩,r⟩:=h;exact⟨O5.of X G z r,_,_,cW l c k,Wl X G a⟩
theorem Zs.of(X:u.K.In h)(G:h.Ns W5 u.mg):∀{l:af},KZs u.K l->Zs u l
 |[],_=>trivial
 |_::_,⟨a,r⟩=>⟨Zs.of X G r,PySem.W.mg_none_of X G a⟩
end
def IV{us:bA}{n:Nat}(h:us.length=n+1):∃a r,us=a::r/\r.length=n:=by
 cases us with
 |nil=>cases h
 |cons a r=>exact⟨a,r,rfl,Nat.succ.inj h⟩
def N8{us:bA}(h:us.length=1):∃a,us=[a]:=List.length_eq_one_iff.mp h
def FZ{us:bA}(h:us.length=2):∃a b,us=[a,b]:=by
 obtain⟨a,r,rfl,k⟩:=IV h;obtain⟨b,rfl⟩:=N8 k;exact⟨a,b,rfl⟩
def xX{us:bA}(h:us.length=3):∃a b c,us=[a,b,c]:=by
 obtain⟨a,r,rfl,k⟩:=IV h;obtain⟨b,c,rfl⟩:=FZ k;exact⟨a,b,c,rfl⟩
def NI{us:bA}(h:us.length=4):∃a b c d,us=[a,b,c,d]:=by
 obtain⟨a,r,rfl,k⟩:=IV h;obtain⟨b,c,d,rfl⟩:=xX k;exact⟨a,b,c,d,rfl⟩
def MY{us:bA}(h:us.length=5):∃a b c d e,us=[a,b,c,d,e]:=by
 obtain⟨a,r,rfl,k⟩:=IV h;obtain⟨b,c,d,e,rfl⟩:=NI k;exact⟨a,b,c,d,e,rfl⟩
end TX
namespace TG
instance(priority:=low) noTabs:ay:=⟨λ_=>True,λ_ _=>trivial,λ_ _ _=>trivial⟩
end TG
namespace TX
section
open TG
variable[ay]
structure XM(X:Cx)(j:Nat)(st:WY)(F:bz):Prop where h:FM X j st F
structure xc(X:Cx)(j:Nat)(st:cU)(F:bz):Prop where h:Cg X j st F
structure Ce(X:Cx)(j:Nat)(e:WX)(F:qK):Prop where h:Kb X j e F
structure Jx(X:Cx)(j:Nat)(es:aS)(F:aq->R (List D×List D)):Prop where h:FAM X j es F
section
variable{X:Cx}{j:Nat}{pos:Pos}{st:WY}{rest body:cU}
def B2{k k':Nat}{ps:af}{g:cM}{h:aQ}{x y:Str}{p p' pos:Pos}{es:aS}(C:iO X.prog X.w X.K X.mg X.base k x ps g)(hn:Ar ps.length g)(hr:dG k' X.A)(hk:k<=k')(hw:XV X (.Name y p') j)(ha:XA X es h)(hg:Gl X x:=by rfl)
  (hdb:(x==("__debug__":Str))=false:=by decide) (hns:es.all noStar=true:=by rfl):Ce X j (.Call (.Name x p) (.Name y p'::es) [] pos) (bO j g h):=⟨Dg C hn hr hk hw.h ha.h hg hdb hns⟩
def DT{x:Str}{npos apos cpos:Pos}(hx:XV X (.Name x npos) j)
  (hbase:Xx (.Name x npos) "pop" X.env (eval (.Name x npos) X.env)=eval (.Name x npos) X.env:=by rfl) (hline:(apos.endLine==cpos.line)=true:=by rfl):
  Ce X j (.Call (.Attribute (.Name x npos) "pop" apos) [] [] cpos) (vp j):=⟨HM hx.h hbase hline⟩
def A0{e:WX}{F:qK}(h:Ce X j e F)(hns:noStar e=true:=by rfl):Jx X j [e] (dJ F):=⟨CU h.h hns⟩
def BK{e:WX}{es:aS}{f:FX}{G:aq->R (List D×List D)}(he:XE X e f)(h:Jx X j es G)(hns:noStar e=true:=by rfl):Jx X j (e::es) (dI f G):=⟨EA he.h h.h hns⟩
def vq{k k':Nat}{ps:af}{g:cM}{G:aq->R (List D×List D)}{x:Str}{p pos:Pos}{e:WX}{es:aS}
  (C:Callee X.prog X.w X.K X.mg X.base k x ps g) (hn:Ar ps.length g) (hr:dG k' X.A) (hk:k<=k') (ha:Jx X j (e::es) G) (hg:Gl X x:=by rfl)
  (hdb:(x==("__debug__":Str))=false:=by decide) (hns:(e::es).all noStar=true:=by rfl):Ce X j (.Call (.Name x p) (e::es) [] pos) (x6 g G):=⟨xR C hn hr hk ha.h hg hdb hns⟩
def EF{c:Str}{fs ps:af}{k k':Nat}{G:aq->R (List D×List D)}{p pos:Pos}{e:WX}{es:aS}(IA:cz X.prog X.w X.K X.mg X.base k c ps fs)(hr:dG k' X.A)(hk:k+1<=k')(hg:Gl X c)(ha:Jx X j (e::es) G)(hdb:(c==("__debug__":Str))=false:=by decide)
  (hns:(e::es).all noStar=true:=by rfl):Ce X j (.Call (.Name c p) (e::es) [] pos) (fS c fs G):=⟨Ii IA hr hk hg ha.h hdb hns⟩
def Fx:xc X j [] bU:=⟨GZ⟩
def Bs:xc X j body rY:=⟨FJ⟩
def Br{F1 F2:bz}(h1:XM X j st F1)(h2:xc X j rest F2):xc X j (st::rest) (aF F1 F2):=⟨Ec h1.h h2.h⟩
def CG{F1:bz}(h1:XM X j st F1):xc X j [st] F1:=⟨HQ h1.h⟩
def Ff{F:bz}(i:Nat)(hi:i≠j)(h:xc X j body F):xc X j body (j5 i j F):=⟨Hy i hi h.h⟩
def G2{e:WX}{f:FX}(h:XE X e f):XM X j (.Return (ag e) pos) (je j f):=⟨La h.h⟩
def Ey{e:WX}{F:qK}(h:Ce X j e F):XM X j (.Return (ag e) pos) (gr j F):=⟨Gy h.h⟩
def EH{i:Nat}{x:Str}{e:WX}{F:qK}{pos':Pos}(hij:i≠j)(hN:X.N.Nodup)(he:Ce X j e F)(hi:X.N[i]?=ag x:=by rfl)(hx:Loc X.env.scope x:=by first|exact Or.inl rfl|exact Or.inr rfl)(hs:swapsWith e (ag (.Name x pos')) pos.line X.env=pure false:=by rfl)(hf:X.fn x=true\/X.env.scope.names.lookup x=ag .local:=by first|exact .inl rfl|exact .inr rfl|assumption):
  XM X j (.Assign [.Name x pos'] e pos) (dQ i j F):=⟨Gw hij hN hi hx he.h hs hf⟩
def GL{i:Nat}{x:Str}{e:WX}{f:FX}{pos':Pos}(hij:i≠j)(hN:X.N.Nodup)(he:XE X e f)(hi:X.N[i]?=ag x:=by rfl)(hx:Loc X.env.scope x:=by first|exact Or.inl rfl|exact Or.inr rfl)(hs:swapsWith e (ag (.Name x pos')) pos.line X.env=pure false:=by rfl)(hf:X.fn x=true\/X.env.scope.names.lookup x=ag .local:=by first|exact .inl rfl|exact .inr rfl|assumption):
  XM X j (.Assign [.Name x pos'] e pos) (bK i f):=⟨Lb hij hN hi hx he.h hs hf⟩
def IL{i:Nat}{x:Str}{e:WX}{f:FX}{pos':Pos}(hij:i≠j)(hN:X.N.Nodup)(he:XN X e f)(hi:X.N[i]?=ag x:=by rfl)(hx:Loc X.env.scope x:=by first|exact Or.inl rfl|exact Or.inr rfl)(hs:swapsWith e (ag (.Name x pos')) pos.line X.env=pure false:=by rfl)(hf:X.fn x=true\/X.env.scope.names.lookup x=ag .local:=by first|exact .inl rfl|exact .inr rfl|assumption):
  XM X j (.Assign [.Name x pos'] e pos) (mh i f):=⟨Lr hij hN hi hx he.h hs hf⟩
def Mo{c:WX}{a b:cU}{tc:bL}{A B:bz}(hc:XT X c tc)(ha:xc X j a A)(hb:xc X j b B):XM X j (.If c a b pos) (fq tc A B):=⟨Ol hc.h ha.h hb.h⟩
def A3{c:WX}{tc:bL}{B:bz}(n:Nat)(hp:Xm (model X.prog X.w) X.A X.env X.xe)(hc:XT X c tc)(hb:xc X j body B):XM X j (.While c body [] pos) (jf n tc B):=⟨CA n hp hc.h hb.h⟩
def HX{i:Nat}{x:Str}{e:WX}{es:aS}{f:aQ}{npos apos cpos pos:Pos}(hx:XV X (.Name x npos) i)(he:XA X (e::es) f)
  (hbase:Xx (.Name x npos) "append" X.env (eval (.Name x npos) X.env)=eval (.Name x npos) X.env:=by rfl)
  (hfew:((backTo cpos (Xb (e::es) X.env)).all (fun x=>!x.1) && (backToKw cpos (Xz [] X.env)).all (fun x=>x.1.isSome)
   && decide ((e::es:aS).length+([]:List X7).length+(if([]:List X7).isEmpty then 0 else 1)<30))=true:=by rfl)
  (hline:(apos.endLine==cpos.line)=true:=by rfl) (hs:Xb (e::es) X.env=(false,eval e X.env)::Xb es X.env:=by rfl) (hplain:(backTo cpos (Xb es X.env)).any (·.1)=false:=by rfl)
  (hsw:swapsWith (.Call (.Attribute (.Name x npos) "append" apos) (e::es) [] cpos) am pos.line X.env=pure false:=by rfl):
  XM X j (.Expr (.Call (.Attribute (.Name x npos) "append" apos) (e::es) [] cpos) pos) (Cd i tU f):=⟨Nr WQ WR my rN hx.h he.h hbase hfew hline hs hplain hsw⟩
def Au{x:Str}{e:WX}{es:aS}{f:aQ}{np cpos:Pos}(hc:X.calm=true)(hx:ExcAt X.K X.mg x)(hg:Gl X x)(ha:XA X (e::es) f)
  (hdb:(x==("__debug__":Str))=false:=by decide) (hns:(e::es).all noStar=true:=by rfl):
  XM X j (.Raise (ag (.Call (.Name x np) (e::es) [] cpos)) am pos) (dU x f):=⟨Dh hc hx hg ha.h hdb hns⟩
def Cw:XM X j st rY:=⟨GK⟩
def yq{k k':Nat}{ps:af}{g:cM}{f:FX}{x:Str}{p pos:Pos}{e:WX}(C:iO X.prog X.w X.K X.mg X.base k x ps g)(hn:Ar ps.length g)(hr:dG k' X.A)(hk:k<=k')(he:XN X e f)(hg:Gl X x:=by rfl)
  (hdb:(x==("__debug__":Str))=false:=by decide) (hns:noStar e=true:=by rfl):XE X (.Call (.Name x p) [e] [] pos) (mG g f):=⟨Aj C hn hr hk he.h hg hdb hns⟩
def xm{a e:WX}{fa:FX}{fs:aQ}{apos cpos:Pos}(ha:XE X a fa)(hs:XA X [e] fs)(hbase:Xx a "startswith" X.env (eval a X.env)=eval a X.env:=by rfl)
  (hfew:((backTo cpos (Xb [e] X.env)).all (fun x=>!x.1) && (backToKw cpos (Xz [] X.env)).all (fun x=>x.1.isSome)
   && decide (([e]:aS).length+([]:List X7).length+(if([]:List X7).isEmpty then 0 else 1)<30))=true:=by rfl)
  (hline:(apos.endLine==cpos.line)=true:=by rfl) (hst:Xb [e] X.env=(false,eval e X.env)::Xb [] X.env:=by rfl) (hplain:(backTo cpos (Xb [] X.env)).any (·.1)=false:=by rfl):
  XE X (.Call (.Attribute a "startswith" apos) [e] [] cpos) (gd fa fs):=⟨Ak ha.h hs.h hbase hfew hline hst hplain⟩
def Ga{x:Str}{kvs:List (Str×List Str)}{e:WX}{f:FX}{p:Pos}(C:Ci X.prog X.w X.K X.mg x kvs)(hg:Gl X x)(he:XE X e f)(hs:LA e)(hd:(x==("__debug__":Str))=false:=by decide):XE X (.Subscript (.Name x p) e pos) (f1 (B5 kvs) f):=⟨Ie C hg he.h hs hd⟩
def Kc{x:Str}{kvs:List (Str×List Str)}{e:WX}{f:FX}{p:Pos}(C:Ci X.prog X.w X.K X.mg x kvs)(hg:Gl X x)(he:XE X e f)(hd:(x==("__debug__":Str))=false:=by decide):XE X (.Compare e [.NotIn] [.Name x p] pos) (f1 (uw kvs) f):=⟨MP C hg he.h hd⟩
def Mb{x:Str}{kvs:List (Str×List Str)}{e:WX}{f:FX}{p:Pos}(C:Ci X.prog X.w X.K X.mg x kvs)(hg:Gl X x)(he:XE X e f)(hd:(x==("__debug__":Str))=false:=by decide):XT X (.Compare e [.NotIn] [.Name x p] pos) (fB (f1 (uw kvs) f)):=⟨MQ C hg he.h hd⟩
def pJ{a:WX}{fa:FX}{apos cpos:Pos}(ha:XE X a fa)(hbase:Xx a "split" X.env (eval a X.env)=eval a X.env:=by rfl)(hline:(apos.endLine==cpos.line)=true:=by rfl):
  XE X (.Call (.Attribute a "split" apos) [] [] cpos) (f1 oI fa):=⟨B9 ha.h hbase hline⟩
def Eu{a:WX}{f:FX}{p q pos pos':Pos}(hc:X.calm=true)(hg:Gl X "list")(hm:X.mg "list"=am)(hg':Gl X "reversed")(hm':X.mg "reversed"=am)(ha:XE X a f)(hns:noStar a=true:=by rfl):
  XN X (.Call (.Name "list" p) [.Call (.Name "reversed" q) [a] [] pos'] [] pos) (f1 rF f):=⟨GD hc hg hm hg' hm' ha.h hns⟩
end
structure K2(P:W1)(w:W0)(K:VC)(mg:bN)(base:W3)(k:Nat)(N:af)(qual:Str)(st:WY)(f:WW)(B:bz):Prop where
 h:∀(cdv:WU)(A:W7)(outer:List Env)(s:WZ)(H:Hp)(E:XK),dG k (A.deeper (Wx qual (ak st) s.heap.objs.size f cdv))->Xm (model P w) (A.deeper (Wx qual (ak st) s.heap.objs.size f cdv)) (Wx qual (ak st) s.heap.objs.size f cdv) (ef (gj P w) P w K mg base N qual (ak st) f cdv A outer s H E).xe->
  xc (ef (gj P w) P w K mg base N qual (ak st) f cdv A outer s H E) 0 (cO st) B
abbrev MJ(u:U)(k:Nat)(x:Str)(ps:af)(g:cM):Prop:=iO u.P u.w u.K u.mg u.base k x ps g
section
variable{u:U}{x:Str}{st:WY}{ps:af}{k:Nat}{B:bz}
def Mh(M:af)(d:Df u x st)(b:Bd x x st ps)(sc:bp (ps++M) ps (ak st))(h:(ps++M).Nodup->∀f,K2 u.P u.w u.K u.mg u.base k (ps++M) x st f B):MJ u (k+1) x ps (hW B ps.length (ps++M).length):=by
 obtain⟨f,fd,F,e⟩:=d;exact yp F (kc.bd F b) e sc ⟨λcdv A outer s H E hr hp=>((h sc.nd f).h cdv A outer s H E hr hp).h⟩
def Rf(d:Df u x st)(b:Bd x x st ps):MJ u k x ps λ_=>un:=by
 obtain⟨f,fd,F,e⟩:=d;exact sN k F (kc.bd F b) e
def SW{bs:Str}(hm:∃t,u.mg "BRACKETS"=ag (.str bs t))(ha:bs.cps.all (·<128)=true)(M:af)(d:Df u x st)(b:Bd x x st ps)(sc:bp (ps++M) ps (ak st))(hp0:∃x0 r,ps=x0::r/\(ak st).names.lookup x0=ag .local)
  (h:(ps++M).Nodup->∀ (tb:Tok),u.mg "BRACKETS"=ag (.str bs tb)->∀ (f:WW) (cdv:WU) (A:W7) (outer:List Env) (s:WZ) (H:Hp) (E:XK),dG k (A.deeper (Wx x (ak st) s.heap.objs.size f cdv))->Xm (model u.P u.w) (A.deeper (Wx x (ak st) s.heap.objs.size f cdv)) (Wx x (ak st) s.heap.objs.size f cdv) (ef (gj u.P u.w) u.P u.w u.K u.mg u.base (ps++M) x (ak st) f cdv A outer s H E).xe ->
   yC (ef (gj u.P u.w) u.P u.w u.K u.mg u.base (ps++M) x (ak st) f cdv A outer s H E) (cO st) B):Ca u (k+1) x ps (az B ps.length (ps++M).length):=by
 obtain⟨f,fd,F,e⟩:=d;obtain⟨t,hm⟩:=hm;exact oZ F (kc.bd F b) e sc hp0 ⟨λcdv A outer s H E hr hp=>h sc.nd t hm f cdv A outer s H E hr hp⟩
end
noncomputable def Dp(w:W0)(p:Str×Tok×WW×List Str):X9:=⟨hashStr w p.1,.str p.1 p.2.1,.ref p.2.2.1⟩
def PH(K:VC):List (Str×Tok×WW×List Str)->Prop
 |[]=>True
 |p::r=>KTup K p.2.2.1 p.2.2.2/\PH K r
theorem wv:∀{xs:af}{its:bA},its.map mC=xs.map (λx=>ag (V.str x))->Vals (xs.map V.str) its
 |[],[],_=>.nil
 |x::xs,v::its,h=>by
  have h1:mC v=ag (V.str x):=(List.cons.inj h).1;have h2:=(List.cons.inj h).2;refine .cons ?_ (wv h2);cases v<;>first|(cases h1;exact⟨_,rfl⟩)|cases h1
 |[],_::_,h=>by cases h
 |_::_,[],h=>by cases h
def gi{K:VC}{a:WW}{xs:af}{od:Option WW}{its:Array WU}{n:Nat}{sl:Array (Option WU)}(h:K.lookup a=ag ⟨.type "tuple",od,.seq its n,sl⟩)(e:its.toList.map mC=xs.map (λx=>ag (V.str x)))(hz:decide (xs.length<=100)=true):KTup K a xs:=
 ⟨_,its,n,h,rfl,rfl,by
  have hz:=cr hz
  have:=dl List.length e
  rw[Tz,Tz,Array.length_toList]at this;rw[Xu];omega,wv e⟩
theorem PH.paired{K:VC}:∀{L:List (Str×Tok×WW×List Str)},PH K L->W2 (Oe K) (L.map λp=>(p.1,p.2.2.2)) (L.map λp=>((.inr p.1:Key),Value.ref p.2.2.1))
 |[],_=>.nil
 |_::_,h=>.cons ⟨rfl,_,rfl,h.1⟩ (PH.paired h.2)
def FK{P:W1}{w:W0}{K:VC}{mg:bN}{x:Str}{a:WW}{es:Array X9}{ep:Nat}{L:List (Str×Tok×WW×List Str)}(h1:mg x=ag (.ref a))(h2:(a==sysModules)=false)(h3:K.lookup a=ag {cls:=.type "dict",data:=.dict es ep})
  (h4:es.toList=L.map (Dp w)) (h5:PH K L) (h6:(L.map (·.1)).Nodup):Ci P w K mg x (L.map λp=>(p.1,p.2.2.2)):=by
 refine Lp h1 h2 h3 ?_ (vs:=L.map λp=>((.inr p.1:Key),Value.ref p.2.2.1)) ?_ ?_ h5.paired
 ·intro e he;have he:e∈es.toList:=by simpa using he
  rw[h4]at he;obtain⟨p,_,rfl⟩:=List.mem_map.mp he;exact⟨.inr p.1,jH P w p.1 p.2.1,rfl⟩
 ·rw[h4];clear h3 h4 h5 h6
  induction L with
  |nil=>exact .nil
  |cons p r ih=>exact .cons (jH P w p.1 p.2.1) rfl ih
 ·rw[U7]
  have:(L.map ((λq:Key×WU=>q.1)∘λp=>((Sum.inr p.1:Key),Value.ref p.2.2.1)))=(L.map (·.1)).map Sum.inr:=by rw[U7];rfl
  rw[this];exact List.Pairwise.map _ (λa b hn h=>hn (Sum.inr.inj h)) h6
section
variable{X:Cx}
def BM{a e : WX}{es : aS}{fa : FX}{fs : aQ}{apos cpos : Pos}(ha : XE X a fa)(hs : XA X (e :: es) fs)(hbase : Xx a "join" X.env (eval a X.env) = eval a X.env := by rfl)(hfew : ((backTo cpos (Xb (e :: es) X.env)).all (fun x => !x.1) && (backToKw cpos (Xz [] X.env)).all (fun x => x.1.isSome)
      && decide ((e::es).length+([]:List X7).length+(if([]:List X7).isEmpty then 0 else 1)<30))=true:=by rfl)(hline:(apos.endLine==cpos.line)=true:=by rfl)(hst:Xb (e::es) X.env=(false,eval e X.env)::Xb es X.env:=by rfl)(hplain:(backTo cpos (Xb es X.env)).any (·.1)=false:=by rfl):XE X (.Call (.Attribute a "join" apos) (e::es) [] cpos) (qo fa fs):=⟨PE.weak (vD F.plainAttrs_str F.slot_str_join F.type_str_join EB ha.h hs.h hbase hfew hline hst hplain) λσ H Q Z=>Z.e λO Z=>Z.e λρ Z=>Z.e λE hF=>⟨O,ρ,E,(eQ.bind hF).imp λx hF v H1 s1 d1=>by
    obtain⟨z,ez,hF⟩:=eQ.rO (eQ.bind hF);rw[tH ez d1];exact⟨rfl,O,ρ,E.same s1,((eQ.bind hF).mono s1).imp λds hF vs H2 s2 d2=>by
      obtain⟨d,e,q⟩:=eQ.rO hF;exact qT e d2 λw dw=>q w H2 (s1.trans s2) dw⟩⟩⟩
end
structure OB(X:Cx)(e:WX)(F:FX):Prop where h:MZ X e F
structure RD(X:Cx)(st:WY)(F:bz):Prop where h:OM X st F
structure GU(X:Cx)(st:cU)(F:bz):Prop where h:yC X st F
section
variable{X:Cx}{pos:Pos}{st:WY}{rest:cU}
def Fy{o:WX}{fa:FX}{y z:Str}{apos cpos p1 p2 p3:Pos}{k1 k2 k3:Nat}(ho:XE X o fa)(hy:(y==z)=false)(hz:z.length<=1000)
  (hbase:Xx o "replace" X.env (eval o X.env)=eval o X.env:=by rfl)
  (hfew:((backTo cpos (Xb [.Constant (.str y) k1 p1,.Constant (.str z) k2 p2,.Constant (.int 1) k3 p3] X.env)).all (fun x=>!x.1) && (backToKw cpos (Xz [] X.env)).all (fun x=>x.1.isSome)
   && decide (([.Constant (.str y) k1 p1,.Constant (.str z) k2 p2,.Constant (.int 1) k3 p3]:aS).length+([]:List X7).length+(if([]:List X7).isEmpty then 0 else 1)<30))=true:=by rfl)
  (hline:(apos.endLine==cpos.line)=true:=by rfl):
  OB X (.Call (.Attribute o "replace" apos) [.Constant (.str y) k1 p1,.Constant (.str z) k2 p2,.Constant (.int 1) k3 p3] [] cpos) (f1 (GP y z) fa):=⟨Ji ho.h hy hz hbase hfew hline⟩
def Cu{a b:WX}{op:Operator}{r:R2}{g:D->D->bE}{fa fb:FX}(ho:ik X (Xs op) r)(sv:dA X.K r g)(ha:OB X a fa)(hb:XE X b fb):OB X (.BinOp a op b pos) (f2 g fa fb):=⟨Il ho sv ha.h hb.h⟩
def FP{e:WX}{f:FX}(h:OB X e f):RD X (.Return (ag e) pos) (bi f):=⟨IG h.h⟩
def ki{F1 F2:bz}(h1:XS X st F1)(h2:GU X rest F2):GU X (st::rest) (aF F1 F2):=⟨Ah h1.h h2.h⟩
def Ng{F:bz}(h:RD X st F):GU X [st] F:=⟨Cv h.h⟩
end
section
variable{u:U}{k:Nat}{x:Str}{st:WY}{ps:af}{B:bz}
def Sb(M:af)(d:Df u x st)(b:Bd x x st ps)(sc:bp (ps++M) ps (ak st))(hp0:∃x0 r,ps=x0::r/\(ak st).names.lookup x0=ag .local)
  (h:(ps++M).Nodup->∀ (f:WW) (cdv:WU) (A:W7) (outer:List Env) (s:WZ) (H:Hp) (E:XK),dG k (A.deeper (Wx x (ak st) s.heap.objs.size f cdv))->Xm (model u.P u.w) (A.deeper (Wx x (ak st) s.heap.objs.size f cdv)) (Wx x (ak st) s.heap.objs.size f cdv) (ef (gj u.P u.w) u.P u.w u.K u.mg u.base (ps++M) x (ak st) f cdv A outer s H E).xe ->
   GU (ef (gj u.P u.w) u.P u.w u.K u.mg u.base (ps++M) x (ak st) f cdv A outer s H E) (cO st) B):Ca u (k+1) x ps (az B ps.length (ps++M).length):=by
 obtain⟨f,fd,F,e⟩:=d;exact oZ F (kc.bd F b) e sc hp0 ⟨λcdv A outer s H E hr hp=>(h sc.nd f cdv A outer s H E hr hp).h⟩
end
section
variable{X:Cx}{elt tg iter:WX}{scope:W8}{pos:Pos}{ix:eV}{G:aQ}{g:GF}{Fe:FX}
def R0(hx:X.ex=[])(hst:X.stack=X.env::X.outer)(hf:X.env.frame=ag X.env.locals)(hc:X.calm=true)(tk:kB ix g)(hi:XI X tg iter G)(hb:pU X scope (AO X.N ix (Gp tg)) tg elt [] g eF Fe)
  (ok:il X.env.scope.names X.N scope (AO X.N ix (Gp tg)) ix=true:=by rfl) (hs:∀x,Xr iter X.env x=pure x:=by intro _;rfl):XE X (.ListComp elt [⟨tg,iter,[],0⟩] scope pos) (mw ix G g Fe):=⟨KC hx hst hf hc (.of ok) tk hi.h hb.h hs⟩
end
end
end TX
namespace TG
def nr{α:Sort _}{a b:α}(h:a=b):a=b:=h
theorem gJ{α β:Type}(a:α)(f:α->R β):Except.bind (Except.ok a:R α) f=f a:=nr rfl
theorem zx{α β:Type}(x:Option Ex)(f:α->R β):Except.bind (Except.error x:R α) f=.error x:=nr rfl
theorem fA{α:Type}(a:α)(k:Ks)(ρ:aq)(f:α->R D):kE (.ok a) k ρ f=f a:=nr rfl
theorem vg{α:Type}(x:Ex)(k:Ks)(ρ:aq)(f:α->R D):kE (.error (ag x)) k ρ f=k.ex x ρ:=nr rfl
theorem rE{α:Type}(a:α):Jw (.ok a:R α)=.ok a:=nr rfl
theorem jP{α:Type}(a:α):rO (ag a)=.ok a:=nr rfl
theorem ge_0(d:D)(ρ:aq):kT (ag (.val d)::ρ) 0=.ok d:=rfl
theorem Jj(x:Option S)(ρ:aq)(i:Nat):kT (x::ρ) (i+1)=kT ρ i:=rfl
theorem sV(i:Nat)(ρ:aq):ae i ρ=kT ρ i:=rfl
theorem Ic(d:D)(ρ:aq):fC d ρ=.ok d:=rfl
theorem qI(ρ:aq):aj ρ=.ok []:=rfl
theorem lC(f:FX)(g:aQ)(ρ:aq):aa f g ρ=(f ρ).bind λx=>(g ρ).bind λxs=>.ok (x::xs):=rfl
theorem sK(g:aQ)(ρ:aq):iq g ρ=(g ρ).bind λxs=>rO (nq xs):=rfl
theorem tS(g:aQ)(ρ:aq):dP g ρ=(g ρ).bind λxs=>rO (o5 xs):=rfl
theorem Jo(g:D->bE)(f:FX)(ρ:aq):f1 g f ρ=(f ρ).bind λa=>rO (g a):=rfl
theorem Hw(g:D->D->bE)(f h:FX)(ρ:aq):f2 g f h ρ=(f ρ).bind λa=>(h ρ).bind λb=>rO (g a b):=rfl
theorem GJ(f:FX)(ρ:aq):fB f ρ=(f ρ).bind λd=>rO (OD d):=rfl
theorem I0(g:List D->bE)(f:aQ)(ρ:aq):fL g f ρ=(f ρ).bind λds=>rO (g ds):=rfl
theorem HP(g:cM)(f:aQ)(ρ:aq):fR g f ρ=(f ρ).bind g:=nr rfl
theorem sY(f:bL)(ρ:aq):fV f ρ=(f ρ).bind λb=>.ok (!b):=rfl
theorem uc(f g:bL)(ρ:aq):ph f g ρ=(f ρ).bind λb=>if b then g ρ else .ok false:=rfl
theorem zG(f g:bL)(ρ:aq):B8 f g ρ=(f ρ).bind λb=>if b then .ok true else g ρ:=rfl
theorem lT(f:FX)(ρ:aq):bW f ρ=(f ρ).bind λd=>rO (truth d):=rfl
theorem oG(f g:FX)(ρ:aq):gu f g ρ=(f ρ).bind λd=>xk d (g ρ):=rfl
theorem tG(f g:FX)(ρ:aq):Pz f g ρ=(f ρ).bind λd=>MO d (g ρ):=rfl
theorem oq(f:FX)(ρ:aq):vA f ρ=(f ρ).bind λa=>rO (Lh a):=rfl
theorem yK(t:bL)(f g:FX)(ρ:aq):Jy t f g ρ=(t ρ).bind λc=>if c then f ρ else g ρ:=rfl
theorem um(T:String)(f:FX)(ρ:aq):nH T f ρ=(f ρ).bind λa=>rO (xq T a):=rfl
theorem u5(f:FX)(ρ:aq):ql f ρ=(f ρ).bind λa=>.ok (.bl (isNon a)):=rfl
theorem oC(f:FX)(ρ:aq):j0 f ρ=(f ρ).bind λa=>.ok (.bl (!isNon a)):=rfl
theorem sL(f:FX)(ρ:aq):EL f ρ=(f ρ).bind λa=>rO (Kl a):=rfl
theorem lJ(f:FX)(ρ:aq):K5 f ρ=(f ρ).bind λa=>rO (ER a):=rfl
theorem uO(f:FX)(ρ:aq):P0 f ρ=(f ρ).bind λa=>rO (Mf a):=rfl
theorem kZ(g g':D->D->bE)(fa fb fc:FX)(ρ:aq):iz g g' fa fb fc ρ=(fa ρ).bind λx=>(fb ρ).bind λy=>(rO (g x y)).bind λz=>xk z ((fc ρ).bind λw=>rO (g' y w)):=rfl
theorem lK(f:FX)(ρ:aq):fj f ρ=(f ρ).bind λd=>rO (pT d):=rfl
theorem jS(f:aQ)(ρ:aq):gh f ρ=(f ρ).bind λds=>rO (jU ds):=rfl
theorem jN(f:aQ)(ρ:aq):Jt f ρ=(f ρ).bind λds=>rO (zY ds):=rfl
theorem tW(f:aQ)(ρ:aq):xS f ρ=(f ρ).bind λds=>rO (EW ds):=rfl
theorem n6(f:aQ)(ρ:aq):xF f ρ=(f ρ).bind λds=>rO (JG ds):=rfl
theorem uF(z:Str):KG (.str z)=ag z:=rfl
theorem jO(ρ:aq):cj ρ=.ok none:=rfl
theorem oK(f:FX)(ρ:aq):dY f ρ=(f ρ).bind λd=>rO (xU d):=rfl
theorem lU(f:FX)(l h:aq->R dH)(ρ:aq):cN f l h ρ=(f ρ).bind λa=>(l ρ).bind λlo=>(h ρ).bind λhi=>rO (fh a lo hi):=rfl
theorem nR(ρ:aq):eF ρ=.ok true:=rfl
theorem nS(k:Ks)(ρ:aq):bU k ρ=k.nx ρ:=nr rfl
theorem bS(A B:bz)(k:Ks)(ρ:aq):aF A B k ρ=A {k with nx:=B k} ρ:=nr rfl
theorem lR(f:FX)(k:Ks)(ρ:aq):bi f k ρ=kE (f ρ) k ρ .ok:=nr rfl
theorem kG(k:Ks)(ρ:aq):NT k ρ=.ok .non:=nr rfl
theorem jD(c:bL)(A B:bz)(k:Ks)(ρ:aq):fq c A B k ρ=kE (c ρ) k ρ λb=>if b then A k ρ else B k ρ:=nr rfl
theorem eX(i:Nat)(f:FX)(k:Ks)(ρ:aq):bK i f k ρ=kE (f ρ) k ρ λd=>k.nx (setV i d ρ):=nr rfl
theorem kK(is:bJ)(F:bz)(k:Ks)(ρ:aq):rK is F k ρ=F k (kill is ρ):=nr rfl
theorem lE(G:aQ)(g:GF)(B:bz)(k:Ks)(ρ:aq):DI G g B k ρ=kE (G ρ) k ρ λds=>ja g B k ds ρ:=nr rfl
theorem IZ(d:D)(x:Option S)(ρ:aq):setV 0 d (x::ρ)=ag (.val d)::ρ:=rfl
theorem GQ(i:Nat)(d:D)(x:Option S)(ρ:aq):setV (i+1) d (x::ρ)=x::setV i d ρ:=rfl
theorem tI(ρ:aq):kill [] ρ=ρ:=rfl
theorem oj(i:Nat)(is:bJ)(ρ:aq):kill (i::is) ρ=kill is (ρ.set i am):=rfl
theorem aG(B:bz)(n:Nat)(a:D):az B 1 n [a]=B K0 (env0 n [a]):=nr rfl
theorem bb(B:bz)(n:Nat)(a b:D):az B 2 n [a,b]=B K0 (env0 n [a,b]):=nr rfl
theorem C9(B:bz)(n:Nat)(a b c:D):az B 3 n [a,b,c]=B K0 (env0 n [a,b,c]):=nr rfl
theorem tu(ρ:aq):inB [] ρ=[]:=rfl
theorem nM(ix:eV)(ρ:aq):inB (am::ix) ρ=am::inB ix ρ:=rfl
def pick(ρ:aq)(i:Nat):Option S:=match ρ[i]? with
 |some (ag (.val d))=>ag (.val d)
 |_=>am
theorem nY(i:Nat)(ix:eV)(ρ:aq):inB (ag i::ix) ρ=pick ρ i::inB ix ρ:=rfl
theorem IK(d:D)(ρ:aq):pick (ag (.val d)::ρ) 0=ag (.val d):=rfl
theorem Hf(x:Option S)(ρ:aq)(i:Nat):pick (x::ρ) (i+1)=pick ρ i:=rfl
theorem oE(i:Nat)(f:FX)(k:Ks)(ρ:aq):mh i f k ρ=kE (f ρ) k ρ λd=>k.nx (ρ.set i (ag (.own d))):=nr rfl
theorem nN(i:Nat)(F:bz)(k:Ks)(ρ:aq):PJ i F k ρ=F k (frz i ρ):=nr rfl
theorem IW(d:D)(ρ:aq):frz 0 (ag (.own d)::ρ)=ag (.val d)::ρ:=rfl
theorem zv(d:D)(ρ:aq):frz 0 (ag (.val d)::ρ)=ag (.val d)::ρ:=rfl
def HS(i:Nat)(x:Option S)(ρ:aq):frz (i+1) (x::ρ)=x::frz i ρ:=by
 unfold frz;rw[UJ];cases ρ[i]? with
 |none=>rfl
 |some z=>cases z with
  |none=>rfl
  |some s=>cases s<;>rfl
theorem sM(i j:Int):av (.int i) (.int j)=ag (.int (i+j)):=nr rfl
theorem sP(i j:Int):TG.Bb (.int i) (.int j)=ag (.int (i-j)):=nr rfl
theorem z9(i j:Int):Sa (.int i) (.int j)=ag (.bl (decide (i<j))):=nr rfl
theorem uv(i j:Int):mn (.int i) (.int j)=ag (.bl (decide (i<j))):=nr rfl
theorem uQ(x y:Str):mn (.str x) (.str y)=ag (.bl (decide (x.cps.toList<y.cps.toList))):=nr rfl
theorem uZ(c d:Bool):QB (.bl c) (.bl d)=ag (.bl (c==d)):=nr rfl
theorem jI(c d:Bool):Ju (.bl c) (.bl d)=ag (.bl (!(c==d))):=nr rfl
theorem yN(i j:Int):zX (.int i) (.int j)=ag (.bl (decide (i<=j))):=nr rfl
theorem yR(i j:Int):Sy (.int i) (.int j)=ag (.bl (decide (j<i))):=nr rfl
theorem zC(i j:Int):Sr (.int i) (.int j)=ag (.bl (decide (j<=i))):=nr rfl
theorem uq(i:Int):Kl (.int i)=ag (.int (-i)):=nr rfl
def eI{i j:Int}(h:0<j):gW (.int i) (.int j)=ag (.int (i%j)):=by
 show(if decide (0<j)then ag (D.int (i%j))else am)=_;rw[b0 h];rfl
def gV{i j:Int}(h:0<j)(h':j<10^200):jv (.int i) (.int j)=ag (.int (i/j)):=by
 show(if decide (0<j/\j<10^200)then ag (D.int (i/j))else am)=_;rw[b0 ⟨h,h'⟩];rfl
def IP{i j:Int}(h:-(2^64)<i)(h':i<2^64):yc (.int i) (.int j)=ag (.int (i*j)):=by
 show(if decide ((-(2^64)<i/\i<2^64)\/(-(2^64)<j/\j<2^64))then ag (D.int (i*j))else am)=_;rw[b0 (.inl ⟨h,h'⟩)];rfl
def Ir{i j:Int}(h:-(2^64)<j)(h':j<2^64):yc (.int i) (.int j)=ag (.int (i*j)):=by
 show(if decide ((-(2^64)<i/\i<2^64)\/(-(2^64)<j/\j<2^64))then ag (D.int (i*j))else am)=_;rw[b0 (.inr ⟨h,h'⟩)];rfl
def xP(i:Int)(n:Nat)(h:n<=1000000)(h':i.natAbs<2^64):md (.int i) (.int n)=ag (.int (i^n)):=by
 show(if decide (0<=(n:Int)/\(n:Int)<=1000000/\i.natAbs<2^64)then ag (D.int (i^(n:Int).toNat))else am)=_;rw[b0 ⟨by omega,by omega,h'⟩];rfl
def Fw:md (.int 10) (.int 60)=ag (.int (10^60)):=xP 10 60 (by decide) (by decide)
def Gb:md (.int 10) (.int 40)=ag (.int (10^40)):=xP 10 40 (by decide) (by decide)
noncomputable def JS:Int:=10^60
noncomputable def Gn:Int:=10^40
def Nf:1000000<JS/\JS<10^199/\JS<10^69:=by decide +kernel
def LO:md (.int 10) (.int 60)=ag (.int JS):=Fw
def LK:md (.int 10) (.int 40)=ag (.int Gn):=Gb
theorem lh(i j:Int):jc (.int i) (.int j)=ag (.bl (i==j)):=nr rfl
theorem lG(i j:Str):jc (.str i) (.str j)=ag (.bl (i==j)):=nr rfl
theorem lQ(i j:Bool):jc (.bl i) (.bl j)=ag (.bl (i==j)):=nr rfl
theorem kR(i j:Int):xr (.int i) (.int j)=ag (.bl (!(i==j))):=nr rfl
theorem jF(i j:Str):xr (.str i) (.str j)=ag (.bl (!(i==j))):=nr rfl
theorem lV(i j:Bool):xr (.bl i) (.bl j)=ag (.bl (!(i==j))):=nr rfl
def Md{α:Type}(xs:List α)(n:Nat):j6 xs (n:Int)=xs[n]?:=by
 unfold j6 HD;rw[ba ‹0›];by_cases h:n<xs.length
 ·rw[ba ‹0›];rfl
 ·rw[br ‹0›,U3 ‹0›];rfl
def Bn{α:Type}(a:α)(xs:List α):j6 (a::xs) 0=ag a:=Md (a::xs) 0
def Al{α:Type}(a:α)(xs:List α)(n:Nat):j6 (a::xs) ((n+1:Nat):Int)=j6 xs (n:Int):=by
 rw[Md,Md,UJ]
theorem Ij(xs:List D)(i:Int):aX (.tup xs) (.int i)=j6 xs i:=nr rfl
def vV(a:D)(xs:List D):aX (.tup (a::xs)) (.int 0)=ag a:=Bn a xs
def za(a b:D)(xs:List D):aX (.tup (a::b::xs)) (.int 1)=ag b:=(Al a _ 0).trans (Bn b xs)
def zj(a b c:D)(xs:List D):aX (.tup (a::b::c::xs)) (.int 2)=ag c:=(Al a _ 1).trans ((Al b _ 0).trans (Bn c xs))
def yY(a:D)(xs:List D):aX (.lst (a::xs)) (.int 0)=ag a:=Bn a xs
def Aa(a b:D)(xs:List D):aX (.lst (a::b::xs)) (.int 1)=ag b:=(Al a _ 0).trans (Bn b xs)
def yQ(a b c:D)(xs:List D):aX (.lst (a::b::c::xs)) (.int 2)=ag c:=(Al a _ 1).trans ((Al b _ 0).trans (Bn c xs))
theorem lS(xs:List D):fz [.lst xs]=ag (.int xs.length):=nr rfl
theorem lM(xs:List D):fz [.tup xs]=ag (.int xs.length):=nr rfl
theorem iH(xs:List D):kj [.lst xs]=ag (.tup xs):=nr rfl
theorem iK(xs:List D):kj [.tup xs]=ag (.tup xs):=nr rfl
theorem uK(b:Bool):OD (.bl b)=ag b:=nr rfl
theorem jQ(i:Int):xU (.int i)=ag (ag i):=nr rfl
theorem iE(b:Bool):truth (.bl b)=ag b:=nr rfl
theorem ir(xs:List D):truth (.tup xs)=ag (!xs.isEmpty):=nr rfl
theorem ip(xs:List D):truth (.lst xs)=ag (!xs.isEmpty):=nr rfl
theorem tE(i j:Int):N5 [.int i,.int j]=ag (.int (if j>i then j else i)):=nr rfl
theorem tQ(i j:Int):Nv [.int i,.int j]=ag (.int (if j<i then j else i)):=nr rfl
theorem iB(xs:List D):pT (.lst xs)=ag xs:=nr rfl
theorem iD(xs:List D):pT (.tup xs)=ag xs:=nr rfl
theorem lj(k:R D):xk (.bl true) k=k:=nr rfl
theorem lH(k:R D):xk (.bl false) k=.ok (.bl false):=nr rfl
theorem nI(k:R D):MO (.bl true) k=.ok (.bl true):=nr rfl
theorem oh(k:R D):MO (.bl false) k=k:=nr rfl
def kI(a b:Bool):xk (.bl a) (.ok (.bl b))=.ok (.bl (a&&b)):=by cases a<;>rfl
def ou(a b:Bool):MO (.bl a) (.ok (.bl b))=.ok (.bl (a||b)):=by cases a<;>rfl
theorem sI(b:Bool):Lh (.bl b)=ag (.bl (!b)):=nr rfl
theorem ux(xs:List D):Mf (.lst xs)=ag (.lst xs.reverse):=nr rfl
def me(n:Nat)(h:n<2^62):jU [.int n]=ag (eR 0 n):=by
 show(if okR (n:Int)then ag (eR 0 ((n:Int).toNat))else am)=_
 have:okR (n:Int)=true:=b0 ⟨by omega,by omega⟩
 rw[this];rfl
def DU(xs ys:List D)(h:xs.length+ys.length<=100000):av (.lst xs) (.lst ys)=ag (.lst (xs++ys)):=by
 show(if small (xs.length+ys.length)then ag (D.lst (xs++ys))else am)=_;rw[cm h];rfl
theorem oM(xs:List D)(lo hi:dH):fh (.lst xs) lo hi=ag (.lst (cutD xs lo hi)):=nr rfl
theorem n5(xs:List D)(lo hi:dH):fh (.tup xs) lo hi=ag (.tup (cutD xs lo hi)):=nr rfl
def gI{ix:eV}{G:aQ}{g:GF}{C:bL}{Fe:FX}{ρ:aq}{ds r:List D}(h1:G ρ=.ok ds)(h2:ds.length<=100000)(h3:Gh (inB ix ρ) g C Fe ds=.ok r):kD ix G g C Fe ρ=.ok (.lst r):=by
 unfold kD;rw[h1,gJ,cm h2,h3];rfl
theorem pC{α:Type}{ρ:aq}{g:GF}{C:bL}{Fe:FX}(mk:α->D)(p:α->Bool)(v:α->D):∀xs:List α,(∀a∈xs,∃ρ1,g (mk a) ρ=ag ρ1/\C ρ1=.ok (p a)/\Fe ρ1=.ok (v a))->
  Gh ρ g C Fe (xs.map mk)=.ok ((xs.filter p).map v)
 |[],_=>rfl
 |a::xs,h=>by
  obtain⟨ρ1,h1,h2,h3⟩:=h a Tj;rw[Tx,v6,h1,jP,gJ,h2,rE,gJ,h3,rE,gJ,pC mk p v xs λb hb=>h b (Tl _ hb)];cases e:p a with
  |true=>rw[ba rfl,List.filter_cons_of_pos e];rfl
  |false=>rw[br Tq,List.filter_cons_of_neg (by simp[e])]
def gC{α:Type}{ρ:aq}{g:GF}{C:bL}{Fe:FX}(mk:α->D)(v:α->D)(xs:List α)(h:∀a∈xs,∃ρ1,g (mk a) ρ=ag ρ1/\C ρ1=.ok true/\Fe ρ1=.ok (v a)):Gh ρ g C Fe (xs.map mk)=.ok (xs.map v):=by
 rw[pC mk (λ_=>true) v xs h,List.filter_eq_self.mpr λ_ _=>rfl]
theorem zO{g:GF}{B:bz}{k:Ks}(Iv:Nat->aq->Prop):∀(ds:List D)(i:Nat)(ρ:aq),(∀j d ρ (k':Ks),i<=j->ds[j-i]?=ag d->Iv j ρ->∃ρ1 ρ2,g d ρ=ag ρ1/\Iv (j+1) ρ2/\B k' ρ1=k'.nx ρ2)->Iv i ρ->∃ρ',Iv (i+ds.length) ρ'/\ja g B k ds ρ=k.nx ρ'
 |[],i,ρ,_,h=>⟨ρ,h,rfl⟩
 |d::ds,i,ρ,st,h=>by
  obtain⟨ρ1,ρ2,e1,h2,e2⟩:=st i d ρ ⟨ja g B k ds,k.nx,ja g B k ds,k.ex⟩ (Tt _) (by rw[UR];rfl) h;obtain⟨ρ',h3,e3⟩:=zO (g:=g) (B:=B) (k:=k) Iv ds (i+1) ρ2 (λj d' ρ k' hj hd=>st j d' ρ k' ‹0› (by rw[show j-i=(j-(i+1))+1 by omega,UJ];exact hd)) h2;refine⟨ρ',?_,?_⟩
  ·rw[Tw]
   have:i+(ds.length+1)=i+1+ds.length:=(by omega);rw[this];exact h3
  ·show((rO (g d ρ)).bind λρ1=>B ⟨ja g B k ds,k.nx,ja g B k ds,k.ex⟩ ρ1)=_;rw[e1,jP,gJ,e2];exact e3
def zV{g:GF}{B:bz}{k:Ks}{ds:List D}{ρ:aq}{Q:R D->Prop}(Iv:Nat->aq->Prop)(st:∀i d ρ (k':Ks),ds[i]?=ag d->Iv i ρ->∃ρ1 ρ2,g d ρ=ag ρ1/\Iv (i+1) ρ2/\B k' ρ1=k'.nx ρ2)(h:Iv 0 ρ)(q:∀ρ',Iv ds.length ρ'->Q (k.nx ρ')):Q (ja g B k ds ρ):=by
 obtain⟨ρ',h1,e⟩:=zO (k:=k) Iv ds 0 ρ (λj d ρ k' _ hd=>st j d ρ k' hd) h;rw[e];rw[U8]at h1;exact q ρ' h1
def sk{α:Type}{xs:List α}{i:Nat}{a:α}(h:xs[i]?=ag a):i<xs.length:=by
 rcases Nat.lt_or_ge i xs.length with z|z
 ·exact z
 ·rw[U3 z]at h;cases h
def yE{α:Type}{xs:List α}{i:Nat}{a:α}(h:xs[i]?=ag a):a∈xs:=TZ h
def iy{α β:Type}(f:α->β)(xs:List α)(i:Int):j6 (xs.map f) i=(j6 xs i).map f:=by
 unfold j6;rw[Tz];cases HD xs.length i with
 |none=>rfl
 |some j=>simp
def gw{α:Type}{xs:List α}{k:Nat}(h:k<xs.length):j6 xs (k:Int)=ag xs[k]:=by
 unfold j6 HD;rw[ba ‹0›,ba ‹0›];simp[h]
def u9{α:Type}{xs:List α}{i:Int}(h0:0<=i)(h:i<xs.length):j6 xs i=ag (xs[i.toNat]'‹0›):=by
 have e:i=((i.toNat:Nat):Int):=by omega
 conv=>lhs;rw[e]
 exact gw ‹0›
def J4:bz:=aF (fq (fB (f2 mn (ae 1) (fL fz (aa (ae 0) aj)))) (bi (f2 aX (ae 0) (ae 1))) bU) (bi (fC (.int 0)))
def Jc(ns:List Int)(k:Nat):az J4 2 2 [.lst (ns.map .int),.int k]=.ok (.int (ns.getD k 0)):=by
 show(if decide ((k:Int)<((ns.map D.int).length:Int))then kE (rO (j6 (ns.map D.int) (k:Int))) _ _ .ok else .ok (.int 0))=_;rw[Tz];by_cases h:k<ns.length
 ·rw[ba (by simpa using h),iy,gw h,Option.map_some,U9,Um h];rfl
 ·rw[br (by simpa using h),U9,U3 ‹0›];rfl
def CM(ns:List Int)(i:Int)(h:0<=i):∃c:Int,az J4 2 2 [.lst (ns.map .int),.int i]=.ok (.int c):=by
 have e:i=((i.toNat:Nat):Int):=by omega
 exact⟨ns.getD i.toNat 0,by rw[e];exact Jc ns i.toNat⟩
def ww(x y:Str)(h:x.length<=1000)(h':y.length<=1000):av (.str x) (.str y)=ag (.str (x++y)):=by
 show(if small (x.length+y.length)then ag (D.str (x++y))else am)=_;rw[cm ‹0›];rfl
theorem rq(lo:Int)(n:Nat):eR lo n=(List.range n).map λ(k:Nat)=>D.int (lo+(k:Int)):=nr rfl
def iJ(lo:Int)(n:Nat):(eR lo n).length=n:=by unfold eR;rw[Tz,Ux]
theorem oQ:∀ys:af,jq (ys.map .str)=ag ys
 |[]=>rfl
 |y::ys=>by
  show(jq (ys.map .str)).bind (λzs=>ag (y::zs))=_;rw[oQ ys];rfl
def LJ{α:Type}(xs:List α)(m:Nat):cutD xs am (ag (m:Int))=xs.take m:=by
 unfold cutD;rw[HT.NP,HT.OW,Ui,Uy];rcases Nat.le_total m xs.length with h|h
 ·rw[Nat.min_eq_left h]
 ·rw[Nat.min_eq_right h,Va h,Va (Tt _)]
def vw{α:Type}(xs:List α)(m:Nat):cutD xs (ag (m:Int)) am=xs.drop m:=by
 unfold cutD;rw[HT.NP,HT.OW];rcases Nat.le_total m xs.length with h|h
 ·rw[Nat.min_eq_left h];exact Va (by rw[T5];exact Tt _)
 ·rw[Nat.min_eq_right h,UR,Ug,List.drop_eq_nil_of_le h]
local macro_rules
 |`(tactic| simp! only[$xs,*])=>`(tactic| simp only[gJ,zx,fA,vg,rE,jP,ge_0,Jj,sV,Ic,qI,lC,sK,tS,Jo,Hw,GJ,I0,HP,sY,uc,zG,lT,oG,tG,oq,yK,um,u5,oC,sL,lJ,uO,kZ,lK,jS,jN,tW,n6,jO,oK,lU,nR,nS,bS,lR,kG,jD,eX,kK,lE,oE,nN,IW,zv,HS,IZ,GQ,tI,oj,tu,nM,nY,IK,Hf,Vb,Vc,Tx,Ua,Ue,Uv,K0,env0,List.replicate,UT,TJ,U8,Nat.reduceAdd,Nat.reduceSub,Tw,UW,sM,sP,z9,uv,uQ,uZ,jI,uF,yN,yR,zC,uq,lh,lG,lQ,kR,jF,lV,vV,za,zj,yY,Aa,yQ,lS,lM,iH,iK,uK,jQ,iE,ir,ip,tE,tQ,iB,iD,lj,lH,nI,oh,kI,ou,sI,ux,oM,n5,gN,if_true,if_false,UZ,Vd,Ud,$xs,*])
inductive F2{α β:Type}(R:α->β->Prop):List α->List β->Prop where
 |nil:F2 R [] []
 |cons {a:α} {b:β} {as:List α} {bs:List β} (h:R a b) (t:F2 R as bs):F2 R (a::as) (b::bs)
end TG
namespace TD
section
open TG TX
def bw:bz:=aF (fq (fB (f2 mn (ae 1) (fL fz (aa (ae 0) aj)))) (bi (f2 aX (ae 0) (ae 1))) bU) (bi (fC (.int 0)))
def cC:bz:=bi (Jy (bW (nH "str" (ae 0))) (f2 av (fC (.str ".")) (ae 0)) (fL tM (aa (ae 0) aj)))
end
section
open TG
local macro_rules
 |`(tactic| simp! only[$xs,*])=>`(tactic| simp only[gJ,zx,fA,vg,rE,jP,ge_0,Jj,sV,Ic,qI,lC,sK,tS,Jo,Hw,GJ,I0,HP,sY,uc,zG,lT,oG,tG,oq,yK,um,u5,oC,sL,lJ,uO,kZ,lK,jS,jN,tW,n6,jO,oK,lU,nR,nS,bS,lR,kG,jD,eX,kK,lE,oE,nN,IW,zv,HS,IZ,GQ,tI,oj,tu,nM,nY,IK,Hf,Vb,Vc,Tx,Ua,Ue,Uv,K0,env0,List.replicate,UT,TJ,U8,Nat.reduceAdd,Nat.reduceSub,Tw,UW,sM,sP,z9,uv,uQ,uZ,jI,uF,yN,yR,zC,uq,lh,lG,lQ,kR,jF,lV,vV,za,zj,yY,Aa,yQ,lS,lM,iH,iK,uK,jQ,iE,ir,ip,tE,tQ,iB,iD,lj,lH,nI,oh,kI,ou,sI,ux,oM,n5,gN,if_true,if_false,UZ,Vd,Ud,$xs,*])
def Ox(ns:List Int)(i:Int)(h:0<=i):∃c:Int,az bw 2 2 [.lst (ns.map .int),.int i]=.ok (.int c):=CM ns i h
def C5(x:Str)(h:x.length<=1000)(i:Int)(h0:0<=i)(h1:i<x.length):aX (.str x) (.int i)=ag (.str ⟨#[x.cps.toList.getD i.toNat 0]⟩):=by
 have hl:x.cps.toList.length=x.length:=by simp[Str.length]
 have hi:i<x.cps.toList.length:=by omega
 show(if small x.length then(j6 x.cps.toList i).bind λc=>ag (D.str ⟨#[c]⟩)else am)=_;have e:x.cps.toList.getD i.toNat 0=x.cps.toList[i.toNat]'‹0›:=by
  rw[U9,Um ‹0›];rfl
 rw[cm ‹0›,ba rfl,u9 h0 hi,e];rfl
local macro_rules
 |`(tactic| simp! only[$xs,*])=>`(tactic| simp only[gJ,zx,fA,vg,rE,jP,ge_0,Jj,sV,Ic,qI,lC,sK,tS,Jo,Hw,GJ,I0,HP,sY,uc,zG,lT,oG,tG,oq,yK,um,u5,oC,sL,lJ,uO,kZ,lK,jS,jN,tW,n6,jO,oK,lU,nR,nS,bS,lR,kG,jD,eX,kK,lE,oE,nN,IW,zv,HS,IZ,GQ,tI,oj,tu,nM,nY,IK,Hf,Vb,Vc,Tx,Ua,Ue,Uv,K0,env0,List.replicate,UT,TJ,U8,Nat.reduceAdd,Nat.reduceSub,Tw,UW,sM,sP,z9,uv,uQ,uZ,jI,uF,yN,yR,zC,uq,lh,lG,lQ,kR,jF,lV,vV,za,zj,yY,Aa,yQ,lS,lM,iH,iK,uK,jQ,iE,ir,ip,tE,tQ,iB,iD,lj,lH,nI,oh,kI,ou,sI,ux,oM,n5,gN,if_true,if_false,UZ,Vd,Ud,$xs,*])
end
end TD
namespace Tk91
section
open TG TX TD
noncomputable abbrev cE:List (Str×List Str):=[("join",[]),("gather",["name"])]
noncomputable abbrev dR:List (Str×List Str):=[("rename",["name","name"]),("part",["name","number","name","name"]),("fuse",["name","name","number","name"]),("drop",["name","value"]),("sieve",["name","number","number"]),("nest",["number","name"]),("unnest",["name"])]
noncomputable def top(i:Nat):WY:=PySem.Challenge.pw_twoglass_k91_no_glass_written.main.body.getD i (.Pass ⟨0,0,0,0⟩)
abbrev gF:WY:=inClass (top 36) 0
def ku:bp ["self","name"] ["self","name"] (ak gF):=‹2›
abbrev gX:WY:=inClass (top 51) 0
def kS:bp ["self","name","kind"] ["self","name","kind"] (ak gX):=‹2›
abbrev gM:WY:=inClass (top 49) 0
def kr:bp ["self","old","new"] ["self","old","new"] (ak gM):=‹2›
abbrev iZ:WY:=inClass (top 46) 0
def mM:bp ["self","name","by","quotient","rest"] ["self","name","by","quotient","rest"] (ak iZ):=‹2›
abbrev iQ:WY:=inClass (top 47) 0
def mq:bp ["self","quotient","rest","by","name"] ["self","quotient","rest","by","name"] (ak iQ):=‹2›
abbrev iX:WY:=inClass (top 31) 0
def mI:bp ["self","name","value"] ["self","name","value"] (ak iX):=‹2›
abbrev iP:WY:=inClass (top 43) 0
def mV:bp ["self","many","name"] ["self","many","name"] (ak iP):=‹2›
abbrev gH:WY:=inClass (top 44) 0
def kA:bp ["self","name"] ["self","name"] (ak gH):=‹2›
abbrev iV:WY:=inClass (top 40) 0
def mx:bp ["self","glass","step"] ["self","glass","step"] (ak iV):=‹2›
abbrev iT:WY:=inClass (top 41) 0
def mi:bp ["self","one","other","pair"] ["self","one","other","pair"] (ak iT):=‹2›
abbrev iR:WY:=inClass (top 39) 0
def ml:bp ["self","name"] ["self","name"] (ak iR):=‹2›
def cH:bz:=bi (iq (aa (fC (.str "drop")) (aa (f1 (bV "name" ["Drop"]) (ae 0)) (aa (fR (az cC 1 1) (aa (f1 (bV "value" ["Drop"]) (ae 0)) aj)) aj))))
def dz:bz:=bi (iq (aa (fC (.str "join")) aj))
def cA:bz:=bi (iq (aa (fC (.str "gather")) (aa (f1 (bV "name" ["Gather"]) (ae 0)) aj)))
def dk:bz:=bi (iq (aa (fC (.str "nest")) (aa (fR (az cC 1 1) (aa (f1 (bV "many" ["Nest"]) (ae 0)) aj)) (aa (f1 (bV "name" ["Nest"]) (ae 0)) aj))))
def cy:bz:=bi (iq (aa (fC (.str "unnest")) (aa (f1 (bV "name" ["Unnest"]) (ae 0)) aj)))
def dj:bz:=bi (iq (aa (fC (.str "part")) (aa (f1 (bV "name" ["Part"]) (ae 0)) (aa (fR (az cC 1 1) (aa (f1 (bV "by" ["Part"]) (ae 0)) aj)) (aa (f1 (bV "quotient" ["Part"]) (ae 0)) (aa (f1 (bV "rest" ["Part"]) (ae 0)) aj))))))
def dm:bz:=bi (iq (aa (fC (.str "fuse")) (aa (f1 (bV "quotient" ["Fuse"]) (ae 0)) (aa (f1 (bV "rest" ["Fuse"]) (ae 0)) (aa (fR (az cC 1 1) (aa (f1 (bV "by" ["Fuse"]) (ae 0)) aj)) (aa (f1 (bV "name" ["Fuse"]) (ae 0)) aj))))))
def cv:bz:=bi (iq (aa (fC (.str "rename")) (aa (f1 (bV "old" ["Rename"]) (ae 0)) (aa (f1 (bV "new" ["Rename"]) (ae 0)) aj))))
noncomputable def cq:bz:=aF (fq (fB (f2 jc (f2 aX (f1 (bV "kind" ["Sieve"]) (ae 0)) (fC (.int 0))) (fC (.str "number")))) (bi (iq (aa (fC (.str "sieve")) (aa (f1 (bV "name" ["Sieve"]) (ae 0)) (aa (fR (az cC 1 1) (aa (f2 aX (f1 (bV "kind" ["Sieve"]) (ae 0)) (fC (.int 1))) aj)) (aa (fR (az cC 1 1) (aa (f2 aX (f1 (bV "kind" ["Sieve"]) (ae 0)) (fC (.int 2))) aj)) aj)))))) bU) (bi (f2 av (iq (aa (fC (.str "keep")) (aa (f1 (bV "name" ["Sieve"]) (ae 0)) aj))) (fL kj (aa (kD [am] (fj (f2 aX (f1 (bV "kind" ["Sieve"]) (ae 0)) (fC (.int 1)))) (gN 0) eF (fR (az cC 1 1) (aa (ae 0) aj))) aj))))
noncomputable def jR(cg:cM):bz:=aF (fq (bW (f1 (qL ["Over"] ["Leaf","Both"]) (ae 0))) (aF (fq (fB (f2 jc (iY "words" [("Drop",(az cH 1 1)),("Join",(az dz 1 1)),("Gather",(az cA 1 1)),("Nest",(az dk 1 1)),("Unnest",(az cy 1 1)),("Part",(az dj 1 1)),("Fuse",(az dm 1 1)),("Rename",(az cv 1 1)),("Sieve",(az cq 1 1))] (f1 (bV "step" ["Over"]) (ae 0)) aj) (iq aj))) (dU "NoText" (aa (fC (.str "a plain step has no words")) aj)) bU) (bi (f2 av (f2 av (fC (.str "(")) (qo (fC (.str " ")) (aa (f2 av (iq (aa (fR cg (aa (f1 (bV "glass" ["Over"]) (ae 0)) aj)) aj)) (iY "words" [("Drop",(az cH 1 1)),("Join",(az dz 1 1)),("Gather",(az cA 1 1)),("Nest",(az dk 1 1)),("Unnest",(az cy 1 1)),("Part",(az dj 1 1)),("Fuse",(az dm 1 1)),("Rename",(az cv 1 1)),("Sieve",(az cq 1 1))] (f1 (bV "step" ["Over"]) (ae 0)) aj)) aj))) (fC (.str ")"))))) bU) (aF (fq (bW (f1 (qL ["Both"] ["Leaf","Over"]) (ae 0))) (aF (bK 1 (iY "words" [("Drop",(az cH 1 1)),("Join",(az dz 1 1)),("Gather",(az cA 1 1)),("Nest",(az dk 1 1)),("Unnest",(az cy 1 1)),("Part",(az dj 1 1)),("Fuse",(az dm 1 1)),("Rename",(az cv 1 1)),("Sieve",(az cq 1 1))] (f1 (bV "pair" ["Both"]) (ae 0)) aj)) (bi (f2 av (f2 av (fC (.str "[")) (qo (fC (.str " ")) (aa (f2 av (iq (aa (f2 aX (ae 1) (fC (.int 0))) (aa (fR cg (aa (f1 (bV "one" ["Both"]) (ae 0)) aj)) (aa (fR cg (aa (f1 (bV "other" ["Both"]) (ae 0)) aj)) aj)))) (cN (ae 1) (dY (fC (.int 1))) cj)) aj))) (fC (.str "]"))))) bU) (bi (f1 (bV "name" ["Drop","Gather","Leaf","Nest","Unnest","Part","Fuse","Sieve"]) (ae 0))))
def cg:Nat->cM
 |0=>λ_=>un
 |n+1=>az (jR (cg n)) 1 2
def fk(n:Nat):cg (n+1)=az (jR (cg n)) 1 2:=by rw[cg]
def qx:∀n:Nat,Ar 1 (cg n)
 |0=>λ_ h=>bt (by rw[cg]) h
 |n+1=>by rw[fk];exact kg
def bH:bz:=aF (fq (B8 (fV (bW (nH "str" (ae 0)))) (fV (fB (iz zX zX (ae 1) (fL fz (aa (ae 0) aj)) (fC (.int 8)))))) (bi (fC (.bl false))) bU) (bi (fL qQ (aa (kD [am] (gO (ae 0)) (gN 0) eF (f2 qE (ae 0) (fC (.str "abcdefghijklmnopqrstuvwxyz")))) aj)))
def fK:bz:=bi (fR (az bH 2 2) (aa (ae 0) (aa (fC (.int 1)) aj)))
def bR:bz:=aF (fq (fV (bW (fR (az fK 1 1) (aa (ae 0) aj)))) (dU "NoText" (aa (fC (.str "it is no name")) aj)) bU) (bi (ae 0))
def bh:bz:=aF (fq (B8 (fV (bW (gd (ae 0) (aa (fC (.str ".")) aj)))) (fV (bW (fR (az bH 2 2) (aa (cN (ae 0) (dY (fC (.int 1))) cj) (aa (fC (.int 0)) aj)))))) (dU "NoText" (aa (fC (.str "it is no word")) aj)) bU) (bi (cN (ae 0) (dY (fC (.int 1))) cj))
noncomputable def aZ:bz:=aF (bK 1 (Jy (bW (gd (ae 0) (aa (fC (.str "-")) aj))) (cN (ae 0) (dY (fC (.int 1))) cj) (ae 0))) (aF (fq (B8 (fV (fB (iz zX zX (fC (.int 1)) (fL fz (aa (ae 1) aj)) (fC (.int 60))))) (fV (bW (fL qQ (aa (kD [am] (gO (ae 1)) (gN 0) eF (f2 qE (ae 0) (fC (.str "0123456789")))) aj))))) (dU "NoText" (aa (fC (.str "it is no number, or one of too many figures")) aj)) bU) (bi (fL mY (aa (ae 0) aj))))
def aA:bz:=aF (fq (fB (f2 jc (ae 0) (fC (.str "name")))) (bi (fR (az bR 1 1) (aa (ae 1) aj))) bU) (aF (fq (B8 (fB (f2 jc (ae 0) (fC (.str "number")))) (fV (bW (gd (ae 1) (aa (fC (.str ".")) aj))))) (bi (fR (az aZ 1 2) (aa (ae 1) aj))) bU) (bi (fR (az bh 1 1) (aa (ae 1) aj))))
def aM:bz:=aF (fq (fB (f2 xr (fL fz (aa (ae 0) aj)) (fL fz (aa (ae 1) aj)))) (dU "NoText" (aa (fC (.str "there are too few words, or too many")) aj)) bU) (bi (mw [am,am] (xS (aa (ae 0) (aa (ae 1) aj))) (gT 2 (vc [0,1])) (fR (az aA 2 2) (aa (ae 0) (aa (ae 1) aj)))))
noncomputable def bn:bz:=aF (fq (fB (f1 (uw cE) (ae 0))) (dU "NoText" (aa (fC (.str "there is no such pair")) aj)) bU) (aF (bK 2 (fR (az aM 2 2) (aa (f1 (B5 cE) (ae 0)) (aa (ae 1) aj)))) (bi (Jy (fB (f2 jc (ae 0) (fC (.str "join")))) (fC (.obj "Join" [] [])) (fNew "Gather" ["name"] (aa (f2 aX (ae 2) (fC (.int 0))) aj)))))
def cu:bz:=aF (fq (mL [0] (fV (bW (ae 0)))) (dU "NoText" (aa (fC (.str "the text ends too early")) aj)) bU) (gr 0 (vp 0))
def aJ:bz:=aF (mh 2 (dP aj)) (aF (dQ 3 0 (bO 0 (hW cu 1 1) aj)) (aF (jf 20000 (fB (f2 xr (ae 3) (ae 1))) (aF (Cd 2 tU (aa (ae 3) aj)) (dQ 3 0 (bO 0 (hW cu 1 1) aj)))) (j5 2 0 (je 0 (ae 2)))))
noncomputable def cY:bz:=aF (fq (B8 (fV (bW (nH "tuple" (ae 0)))) (fV (fB (iz zX zX (fC (.int 1)) (fL fz (aa (ae 0) aj)) (fC (.int 12)))))) (bi (fC (.bl false))) bU) (aF (fq (fV (bW (fL qQ (aa (kD [am] (fj (ae 0)) (gN 0) eF (fR (az bH 2 2) (aa (ae 0) (aa (fC (.int 0)) aj)))) aj)))) (bi (fC (.bl false))) bU) (bi (fL qQ (aa (kD [am,ag 0] (gh (aa (f2 Bb (fL fz (aa (ae 0) aj)) (fC (.int 1))) aj)) (gN 0) eF (f2 mn (f2 aX (ae 1) (ae 0)) (f2 aX (ae 1) (f2 av (ae 0) (fC (.int 1)))))) aj))))
def cI:bz:=bi (gu (nH "tuple" (ae 0)) (f2 jc (fL fz (aa (ae 0) aj)) (ae 1)))
def bZ:bz:=bi (gu (fR (az cI 2 2) (aa (ae 0) (aa (fC (.int 2)) aj))) (gu (f2 jc (f2 aX (ae 0) (fC (.int 0))) (fC (.str "word"))) (fR (az cY 1 1) (aa (f2 aX (ae 0) (fC (.int 1))) aj))))
def fF:bz:=bi (gu (nH "int" (ae 0)) (vA (nH "bool" (ae 0))))
noncomputable def bG:bz:=aF (fq (B8 (fV (bW (fR (az cI 2 2) (aa (ae 0) (aa (fC (.int 3)) aj))))) (fB (f2 xr (f2 aX (ae 0) (fC (.int 0))) (fC (.str "number"))))) (bi (fC (.bl false))) bU) (bi (gu (fR (az fF 1 1) (aa (f2 aX (ae 0) (fC (.int 1))) aj)) (gu (fR (az fF 1 1) (aa (f2 aX (ae 0) (fC (.int 2))) aj)) (f2 zX (f2 aX (ae 0) (fC (.int 1))) (f2 aX (ae 0) (fC (.int 2)))))))
noncomputable def aW:bz:=aF (fq (ph (fV (bW (fR (az bG 1 1) (aa (ae 1) aj)))) (fV (bW (fR (az bZ 1 1) (aa (ae 1) aj))))) (dU "NoText" (aa (fC (.str "the low is more than the high, or the words are none, too many, or don't rise")) aj)) bU) (bi (fNew "Sieve" ["name","kind"] (aa (ae 0) (aa (ae 1) aj))))
noncomputable def aR:bz:=aF (fq (fB (f2 jc (ae 0) (fC (.str "rename")))) (bi (fNew "Rename" ["old","new"] (aa (f2 aX (ae 1) (fC (.int 0))) (aa (f2 aX (ae 1) (fC (.int 1))) aj)))) bU) (aF (fq (fB (f2 jc (ae 0) (fC (.str "part")))) (bi (fNew "Part" ["name","by","quotient","rest"] (aa (f2 aX (ae 1) (fC (.int 0))) (aa (f2 aX (ae 1) (fC (.int 1))) (aa (f2 aX (ae 1) (fC (.int 2))) (aa (f2 aX (ae 1) (fC (.int 3))) aj)))))) bU) (aF (fq (fB (f2 jc (ae 0) (fC (.str "fuse")))) (bi (fNew "Fuse" ["quotient","rest","by","name"] (aa (f2 aX (ae 1) (fC (.int 0))) (aa (f2 aX (ae 1) (fC (.int 1))) (aa (f2 aX (ae 1) (fC (.int 2))) (aa (f2 aX (ae 1) (fC (.int 3))) aj)))))) bU) (aF (fq (fB (f2 jc (ae 0) (fC (.str "drop")))) (bi (fNew "Drop" ["name","value"] (aa (f2 aX (ae 1) (fC (.int 0))) (aa (f2 aX (ae 1) (fC (.int 1))) aj)))) bU) (aF (fq (fB (f2 jc (ae 0) (fC (.str "sieve")))) (bi (fR (az aW 2 2) (aa (f2 aX (ae 1) (fC (.int 0))) (aa (iq (aa (fC (.str "number")) (aa (f2 aX (ae 1) (fC (.int 1))) (aa (f2 aX (ae 1) (fC (.int 2))) aj)))) aj)))) bU) (aF (fq (fB (f2 jc (ae 0) (fC (.str "nest")))) (bi (fNew "Nest" ["many","name"] (aa (f2 aX (ae 1) (fC (.int 0))) (aa (f2 aX (ae 1) (fC (.int 1))) aj)))) bU) (bi (fNew "Unnest" ["name"] (aa (f2 aX (ae 1) (fC (.int 0))) aj))))))))
noncomputable def bF:bz:=aF (fq (fV (bW (ae 0))) (dU "NoText" (aa (fC (.str "there is no field to keep by")) aj)) bU) (bi (fR (az aW 2 2) (aa (fR (az bR 1 1) (aa (f2 aX (ae 0) (fC (.int 0))) aj)) (aa (iq (aa (fC (.str "word")) (aa (fL kj (aa (mw [am] (fj (cN (ae 0) (dY (fC (.int 1))) cj)) (gN 0) (fR (az bh 1 1) (aa (ae 0) aj))) aj)) aj))) aj))))
noncomputable def aE:bz:=aF (fq (fV (bW (ae 0))) (dU "NoText" (aa (fC (.str "there is no step")) aj)) bU) (aF (fq (fB (f2 jc (f2 aX (ae 0) (fC (.int 0))) (fC (.str "keep")))) (bi (fR (az bF 1 1) (aa (cN (ae 0) (dY (fC (.int 1))) cj) aj))) bU) (aF (fq (fB (f1 (uw dR) (f2 aX (ae 0) (fC (.int 0))))) (dU "NoText" (aa (fC (.str "there is no such step")) aj)) bU) (bi (fR (az aR 2 2) (aa (f2 aX (ae 0) (fC (.int 0))) (aa (fR (az aM 2 2) (aa (f1 (B5 dR) (f2 aX (ae 0) (fC (.int 0)))) (aa (cN (ae 0) (dY (fC (.int 1))) cj) aj))) aj))))))
noncomputable def aV(ah:cM):bz:=aF (dQ 1 0 (bO 0 (hW cu 1 1) aj)) (aF (fq (fB (f2 jc (ae 1) (fC (.str "(")))) (aF (dQ 2 0 (bO 0 ah aj)) (gr 0 (fS "Over" ["glass","step"] (dI (ae 2) (dJ (x6 (az aE 1 1) (dJ (bO 0 (hW aJ 2 4) (aa (fC (.str ")")) aj))))))))) bU) (aF (fq (fB (f2 jc (ae 1) (fC (.str "[")))) (aF (dQ 3 0 (bO 0 (hW cu 1 1) aj)) (aF (dQ 4 0 (bO 0 ah aj)) (aF (dQ 5 0 (bO 0 ah aj)) (gr 0 (fS "Both" ["one","other","pair"] (dI (ae 4) (dI (ae 5) (dJ (x6 (az bn 2 3) (dI (ae 3) (dJ (bO 0 (hW aJ 2 4) (aa (fC (.str "]")) aj))))))))))))) bU) (je 0 (fNew "Leaf" ["name"] (aa (fR (az bR 1 1) (aa (ae 1) aj)) aj)))))
def ah:Nat->cM
 |0=>λ_=>un
 |n+1=>hW (aV (ah n)) 1 6
def bC(n:Nat):ah (n+1)=hW (aV (ah n)) 1 6:=by rw[ah]
def i9:∀n:Nat,Ar 1 (ah n)
 |0=>λ_ h=>bt (by rw[ah]) h
 |n+1=>by rw[bC];exact uf
def fH:bz:=aF (D8 0 1 "()[]") (bi (f1 oI (ae 0)))
def cV:bz:=aF (bK 1 (mG (ah 16) (f1 rF (fR (az fH 1 2) (aa (ae 0) aj))))) (aF (fq (fB (f2 xr (fR (cg 16) (aa (ae 1) aj)) (ae 0))) (dU "NoText" (aa (fC (.str "it is not written so")) aj)) bU) (bi (ae 1)))
noncomputable def dq:bz:=aF (fq (B8 (fV (bW (f1 (eK [("NoText",true)]) (ae 0)))) (fV (bW (f1 (eK [("NoText",true)]) (ae 0))))) (bi (fC (.bl false))) bU) (aF (bK 1 (dP (aa (f1 (eK [("NoText",false)]) (ae 0)) (aa (f1 (eK [("NoText",false)]) (ae 0)) (aa (f1 (eK [("NoText",false)]) (ae 0)) (aa (f1 (eK [("NoText",false)]) (ae 0)) aj)))))) (aF (bK 1 (f2 av (ae 1) (dP (aa (f1 (eK [("NoText",false)]) (ae 0)) (aa (f1 (eK [("NoText",false)]) (ae 0)) (aa (f1 (eK [("NoText",false)]) (ae 0)) aj)))))) (aF (bK 1 (f2 av (ae 1) (dP (aa (f1 (eK [("NoText",false)]) (ae 0)) (aa (f1 (eK [("NoText",false)]) (ae 0)) (aa (f1 (eK [("NoText",false)]) (ae 0)) aj)))))) (bi (vA (fL HL (aa (f2 av (ae 1) (dP (aa (f1 (eK [("NoText",false)]) (ae 0)) (aa (f1 (eK [("NoText",false)]) (ae 0)) aj)))) aj)))))))
def cB:bz:=aF (bK 1 (fC .non)) (aF (bK 2 (fC .non)) (aF (Cp ["NoText"] 3 (bK 1 (fR (az cV 1 2) (aa (ae 0) aj))) (bK 2 (ae 3))) (bi (iq (aa (ae 1) (aa (ae 2) aj))))))
noncomputable def cJ:bz:=aF (bK 1 (fC (.str "abcdefghijklmnopqrstuvwxyz"))) (aF (fq (fB (f2 jc (f2 gW (ae 0) (fC (.int 5))) (fC (.int 1)))) (bi (f2 aX (dP (aa (fC (.str "join")) (aa (fC (.str "gather")) (aa (fC (.str "rename")) (aa (fC (.str "drop")) (aa (fC (.str "keep")) (aa (fC (.str "in")) (aa (fC (.str "nest")) (aa (fC (.str "unnest")) (aa (fC (.str "sieve")) aj)))))))))) (f2 gW (f2 jv (ae 0) (fC (.int 5))) (fC (.int 9))))) bU) (aF (bK 2 (f2 gW (f2 jv (ae 0) (fC (.int 40))) (f2 md (fC (.int 26)) (fC (.int 8))))) (aF (bK 3 (fC (.str ""))) (aF (DI (gh (aa (f2 av (fC (.int 1)) (f2 gW (f2 jv (ae 0) (fC (.int 5))) (fC (.int 8)))) aj)) (gN 4) (aF (bK 3 (f2 av (ae 3) (f2 aX (ae 1) (f2 gW (ae 2) (fC (.int 26)))))) (aF (bK 2 (f2 jv (ae 2) (fC (.int 26)))) (rK [4] bU)))) (bi (ae 3))))))
noncomputable def cw:bz:=aF (bK 1 (fR (az cJ 1 5) (aa (f2 jv (ae 0) (fC (.int 42))) aj))) (aF (bK 2 (dP (aa (f2 av (fC (.str "rename ")) (ae 1)) (aa (f2 av (f2 av (f2 av (f2 av (f2 av (fC (.str "rename ")) (ae 1)) (fC (.str " "))) (ae 1)) (fC (.str " "))) (ae 1)) (aa (f2 av (fC (.str "drop ")) (ae 1)) (aa (f2 av (f2 av (fC (.str "drop ")) (ae 1)) (fC (.str " a"))) (aa (fC (.str "drop A 1")) aj))))))) (aF (bK 2 (f2 av (ae 2) (dP (aa (f2 av (f2 av (fC (.str "drop ")) (ae 1)) (fC (.str " 01"))) (aa (f2 av (f2 av (fC (.str "drop ")) (ae 1)) (fC (.str " -0"))) (aa (f2 av (f2 av (fC (.str "drop ")) (ae 1)) (fC (.str " +1"))) (aa (f2 av (f2 av (fC (.str "drop ")) (ae 1)) (fC (.str " 1.0"))) aj))))))) (aF (bK 2 (f2 av (ae 2) (dP (aa (f2 av (f2 av (fC (.str "drop ")) (ae 1)) (fC (.str " .A"))) (aa (f2 av (f2 av (fC (.str "drop ")) (ae 1)) (fC (.str " .abcdefghi"))) (aa (f2 av (f2 av (f2 av (fC (.str "drop ")) (ae 1)) (fC (.str " 1"))) (f2 zW (fC (.str "0")) (fC (.int 60)))) aj)))))) (aF (bK 2 (f2 av (ae 2) (dP (aa (f2 av (f2 av (fC (.str "sieve ")) (ae 1)) (fC (.str " 4 3"))) (aa (f2 av (f2 av (fC (.str "sieve ")) (ae 1)) (fC (.str " 3"))) (aa (f2 av (f2 av (fC (.str "sieve ")) (ae 1)) (fC (.str " .a .b"))) (aa (f2 av (fC (.str "keep ")) (ae 1)) aj))))))) (aF (bK 2 (f2 av (ae 2) (dP (aa (f2 av (f2 av (fC (.str "keep ")) (ae 1)) (fC (.str " .b .a"))) (aa (f2 av (f2 av (fC (.str "keep ")) (ae 1)) (fC (.str " .a .a"))) (aa (f2 av (f2 av (fC (.str "keep ")) (ae 1)) (fC (.str " a"))) (aa (f2 av (f2 av (fC (.str "part ")) (ae 1)) (fC (.str " 10 q"))) aj))))))) (aF (bK 2 (f2 av (ae 2) (dP (aa (f2 av (f2 av (f2 av (fC (.str "keep ")) (ae 1)) (fC (.str " ."))) (zc (fC (.str " .")) (aa (kD [am] (gh (aa (fC (.int 13)) aj)) (gN 0) eF (f2 aX (fC (.str "abcdefghijklm")) (ae 0))) aj))) (aa (f2 av (f2 av (fC (.str "nest ")) (ae 1)) (fC (.str " 1"))) aj))))) (aF (bK 2 (f2 av (ae 2) (dP (aa (fC (.str "fuse q r 10")) (aa (fC (.str "nest 1")) (aa (fC (.str "unnest")) (aa (f2 av (f2 av (f2 av (fC (.str "unnest ")) (ae 1)) (fC (.str " "))) (ae 1)) (aa (f2 av (fC (.str "join ")) (ae 1)) (aa (fC (.str "Rename a b")) aj))))))))) (aF (bK 2 (f2 av (ae 2) (dP (aa (f2 av (f2 av (fC (.str "rename ")) (ae 1)) (fC (.str " Ab"))) (aa (f2 av (fC (.str "rename a1 ")) (ae 1)) (aa (fC (.str "nest 1 abcdefghi")) (aa (f2 av (fC (.str "nest 01 ")) (ae 1)) (aa (f2 av (fC (.str "nest x ")) (ae 1)) aj)))))))) (aF (bK 2 (f2 av (ae 2) (dP (aa (f2 av (fC (.str "nest -0 ")) (ae 1)) (aa (fC (.str "unnest a1")) (aa (f2 av (f2 av (fC (.str "part ")) (ae 1)) (fC (.str " 10 q R"))) (aa (fC (.str "part A 10 q r")) (aa (fC (.str "fuse q r 10 abcdefghi")) aj)))))))) (aF (bK 2 (f2 av (ae 2) (dP (aa (fC (.str "fuse Q r 10 n")) (aa (fC (.str "sieve A 3 4")) (aa (fC (.str "keep a1 .a")) (aa (fC (.str "drop abcdefghi 1")) aj))))))) (bi (f2 aX (ae 2) (f2 gW (ae 0) (fC (.int 42)))))))))))))))
noncomputable def eW:bz:=aF (bK 2 (dP (aa (fC (.str "")) (aa (fC (.str " ")) (aa (fC (.str "(")) (aa (fC (.str ")")) (aa (fC (.str "[]")) (aa (fC (.str "()")) (aa (f2 av (ae 0) (fC (.str ")"))) (aa (f2 av (ae 0) (fC (.str "]"))) (aa (f2 av (f2 av (fC (.str "(")) (ae 0)) (fC (.str ")"))) (aa (f2 av (f2 av (fC (.str "[")) (ae 0)) (fC (.str "]"))) (aa (f2 av (ae 0) (fC (.str " a"))) aj))))))))))))) (aF (bK 2 (f2 av (ae 2) (dP (aa (f2 av (f2 av (fC (.str "[join ")) (ae 0)) (fC (.str "]"))) (aa (f2 av (f2 av (fC (.str "[join ")) (ae 0)) (fC (.str " a b]"))) (aa (f2 av (f2 av (fC (.str "[gather ")) (ae 0)) (fC (.str " a]"))) aj)))))) (aF (bK 2 (f2 av (ae 2) (dP (aa (f2 av (f2 av (fC (.str "[joins ")) (ae 0)) (fC (.str " a]"))) (aa (fC (.str "A")) (aa (fC (.str "abcdefghi")) (aa (fC (.str "a1")) (aa (f2 av (f2 av (fC (.str "[gather ")) (ae 0)) (fC (.str " a In]"))) aj)))))))) (aF (bK 2 (f2 av (ae 2) (dP (aa (f2 av (f2 av (fC (.str "[join ")) (ae 0)) (fC (.str " A]"))) (aa (f2 av (f2 av (fC (.str "[gather ")) (ae 0)) (fC (.str " abcdefghi in]"))) aj))))) (bi (f2 aX (ae 2) (f2 gW (ae 1) (fC (.int 21))))))))
noncomputable def eL:bz:=aF (bK 3 (f2 gW (f2 jv (ae 2) (fC (.int 14))) (fL fz (aa (ae 0) aj)))) (aF (bK 4 (f2 aX (fC (.str " ()[]aA0-.1_\n7")) (f2 gW (ae 2) (fC (.int 14))))) (aF (fq (fB (f2 mn (ae 1) (fC (.int 3)))) (bi (f2 av (f2 av (cN (ae 0) cj (dY (ae 3))) (ae 4)) (cN (ae 0) (dY (ae 3)) cj))) bU) (aF (fq (fB (f2 mn (ae 1) (fC (.int 5)))) (bi (f2 av (cN (ae 0) cj (dY (ae 3))) (cN (ae 0) (dY (f2 av (ae 3) (fC (.int 1)))) cj))) bU) (aF (fq (fB (f2 mn (ae 1) (fC (.int 8)))) (bi (f2 av (f2 av (cN (ae 0) cj (dY (ae 3))) (ae 4)) (cN (ae 0) (dY (f2 av (ae 3) (fC (.int 1)))) cj))) bU) (aF (fq (fB (f2 jc (ae 1) (fC (.int 8)))) (bi (cN (ae 0) cj (dY (EL (fC (.int 1)))))) bU) (aF (fq (fB (f2 jc (ae 1) (fC (.int 9)))) (bi (f2 av (ae 0) (f2 aX (ae 0) (EL (fC (.int 1)))))) bU) (bi (f2 av (f1 (GP " " "  ") (ae 0)) (f2 aX (dP (aa (fC (.str "")) (aa (fC (.str " ")) aj))) (f2 gW (ae 2) (fC (.int 2))))))))))))
noncomputable def cx:bz:=aF (bK 3 (f2 aX (dP (aa (fC (.int 1234567891)) (aa (fC (.int 1876543217)) (aa (fC (.int 987654323)) (aa (fC (.int 1597463007)) (aa (fC (.int 1357924681)) (aa (fC (.int 1112131419)) aj))))))) (ae 1))) (aF (bK 4 (f2 aX (dP (aa (fC (.int 2147483647)) (aa (fC (.int 2147483629)) (aa (fC (.int 2147483587)) (aa (fC (.int 2147483579)) (aa (fC (.int 2147483563)) (aa (fC (.int 2147483549)) aj))))))) (ae 1))) (bi (f2 gW (f2 gW (f2 yc (f2 av (f2 gW (ae 0) (fC (.int 1000000007))) (fC (.int 11))) (ae 3)) (ae 4)) (ae 2))))
noncomputable def dh:bz:=aF (bK 1 (fR (az cJ 1 5) (aa (f2 jv (ae 0) (fC (.int 9))) aj))) (aF (bK 2 (fR (az cJ 1 5) (aa (f2 av (f2 jv (ae 0) (fC (.int 11))) (fC (.int 3))) aj))) (aF (bK 3 (fL tM (aa (f2 Bb (f2 gW (f2 jv (ae 0) (fC (.int 13))) (f2 yc (fC (.int 2)) (f2 md (fC (.int 10)) (fC (.int 40))))) (f2 md (fC (.int 10)) (fC (.int 40)))) aj))) (aF (bK 4 (dP (aa (f2 av (f2 av (f2 av (fC (.str "rename ")) (ae 1)) (fC (.str " "))) (ae 2)) (aa (f2 av (f2 av (f2 av (fC (.str "drop ")) (ae 1)) (fC (.str " "))) (ae 3)) (aa (f2 av (f2 av (f2 av (fC (.str "drop ")) (ae 1)) (fC (.str " ."))) (ae 2)) aj))))) (aF (bK 4 (f2 av (ae 4) (dP (aa (f2 av (f2 av (f2 av (fC (.str "sieve ")) (ae 1)) (fC (.str " -5 "))) (fL tM (aa (f2 gW (f2 jv (ae 0) (fC (.int 13))) (f2 md (fC (.int 10)) (fC (.int 60)))) aj))) (aa (f2 av (f2 av (fC (.str "keep ")) (ae 1)) (fC (.str " . .a .ab .b"))) aj))))) (aF (bK 4 (f2 av (ae 4) (dP (aa (f2 av (f2 av (fC (.str "part ")) (ae 1)) (fC (.str " 10 q r"))) (aa (f2 av (f2 av (f2 av (fC (.str "fuse q r ")) (ae 3)) (fC (.str " "))) (ae 1)) (aa (f2 av (fC (.str "nest 1 ")) (ae 1)) (aa (f2 av (fC (.str "unnest ")) (ae 1)) aj))))))) (bi (f2 aX (ae 4) (fR (az cx 3 5) (aa (ae 0) (aa (fC (.int 0)) (aa (fC (.int 9)) aj)))))))))))
noncomputable def fQ:bz:=aF (bK 2 (fR (az cJ 1 5) (aa (ae 1) aj))) (rK [1] (aF (DI (fj (ae 0)) (gN 3) (aF (bK 4 (fR (az cJ 1 5) (aa (f2 av (f2 jv (ae 3) (fC (.int 17))) (fC (.int 1))) aj))) (aF (bK 5 (fR (az cx 3 5) (aa (ae 3) (aa (fC (.int 1)) (aa (fC (.int 9)) aj))))) (aF (bK 6 (f2 aX (dP (aa (ae 4) (aa (f2 av (f2 av (f2 av (f2 av (fC (.str "(")) (ae 4)) (fC (.str " "))) (fR (az dh 1 5) (aa (f2 jv (ae 3) (fC (.int 3))) aj))) (fC (.str ")"))) aj))) (fR (az cx 3 5) (aa (ae 3) (aa (fC (.int 2)) (aa (fC (.int 2)) aj)))))) (aF (fq (fB (f2 jc (ae 5) (fC (.int 0)))) (bK 2 (f2 av (f2 av (f2 av (f2 av (fC (.str "[join ")) (ae 2)) (fC (.str " "))) (ae 6)) (fC (.str "]")))) (fq (fB (f2 jc (ae 5) (fC (.int 1)))) (bK 2 (f2 av (f2 av (f2 av (f2 av (fC (.str "[gather ")) (ae 6)) (fC (.str " "))) (ae 2)) (fC (.str " in]")))) (bK 2 (f2 av (f2 av (f2 av (f2 av (fC (.str "(")) (ae 2)) (fC (.str " "))) (fR (az dh 1 5) (aa (ae 3) aj))) (fC (.str ")")))))) (rK [3,4,5,6] bU)))))) (bi (ae 2))))
noncomputable def ny:bz:=aF (bK 1 (fR (az fQ 2 7) (aa (cN (ae 0) (dY (fC (.int 4))) (dY (fC (.int 9)))) (aa (fR (az bw 2 2) (aa (ae 0) (aa (fC (.int 0)) aj))) aj)))) (aF (fq (fB (f2 xr (fR (cg 16) (aa (fR (az cV 1 2) (aa (ae 1) aj)) aj)) (ae 1))) (bi (fC (.bl false))) bU) (aF (bK 2 (f2 gW (fR (az bw 2 2) (aa (ae 0) (aa (fC (.int 1)) aj))) (fC (.int 12)))) (aF (bK 3 (fR (az eL 3 5) (aa (ae 1) (aa (ae 2) (aa (fR (az bw 2 2) (aa (ae 0) (aa (fC (.int 2)) aj))) aj))))) (aF (fq (fB (f2 jc (ae 2) (fC (.int 11)))) (bK 3 (fR (az eW 2 3) (aa (ae 1) (aa (fR (az bw 2 2) (aa (ae 0) (aa (fC (.int 2)) aj))) aj)))) bU) (aF (uM (fR (az cB 1 4) (aa (ae 3) aj)) (gT 2 (vc [4,5]))) (aF (fq (B8 (ph (fB (ql (ae 4))) (fV (bW (fR (az dq 1 2) (aa (ae 5) aj))))) (ph (fB (j0 (ae 4))) (fB (f2 xr (fR (cg 16) (aa (ae 4) aj)) (ae 3))))) (bi (fC (.bl false))) bU) (aF (fq (ph (fB (f2 jc (ae 2) (fC (.int 11)))) (fB (j0 (ae 4)))) (bi (fC (.bl false))) bU) (aF (uM (fR (az cB 1 4) (aa (f2 av (f2 av (f2 av (f2 av (fC (.str "(")) (ae 1)) (fC (.str " "))) (fR (az cw 1 3) (aa (fR (az bw 2 2) (aa (ae 0) (aa (fC (.int 3)) aj))) aj))) (fC (.str ")"))) aj)) (gT 2 (vc [4,5]))) (bi (gu (ql (ae 4)) (gu (fR (az dq 1 2) (aa (ae 5) aj)) (f2 jc (fR (cg 16) (aa (fR (az cV 1 2) (aa (ae 1) aj)) aj)) (ae 1)))))))))))))
set_option hygiene false
local macro_rules|`(tactic|ktr_call $p $e)=>`(tactic|((with_reducible show $p);refine $e))
local macro_rules|`(tactic|walk_at "A")=>`(tactic|first|ktr_call (vJ _ _ (aF _ _)) (Bv ?_ ?_)|ktr_call (vJ _ _ (rK _ _)) (BJ _ ?_)|ktr_call (vJ _ _ bU) CO|refine wX ?_)
local macro_rules|`(tactic|walk_at "B")=>`(tactic|first|ktr_call (XS _ _ (bi _)) (zk ?_)|ktr_call (XS _ _ (bK _ (kD _ _ _ _ _))) (S6 (by first|assumption|exact js rfl) rfl (by first|exact g6 rfl|exact gx rfl) ?_ ?_)|ktr_call (XS _ _ (bK _ _)) (xs _ (by first|assumption|exact js rfl) ?_)|ktr_call (XS _ _ (fq _ _ _)) (LV ?_ ?_ ?_)|ktr_call (XS _ _ bU) Eg|ktr_call (XS _ _ bU) HJ|ktr_call (XS _ _ (dU _ _)) (Ai rfl (by walk_at "a") rfl ?_)|ktr_call (XS _ _ (uM _ _)) (GH ?_ ?_)|ktr_call (XS _ _ (DI _ _ _)) (HY hp rfl ?_ ?_ ?_)|ktr_call (XS _ _ (jf _ _ _)) (AK _ hp ?_ ?_)|ktr_call (XS _ _ (mh _ (kD _ _ _ _ _))) (R7 (by first|assumption|exact js rfl) rfl (by first|exact g6 rfl|exact gx rfl) ?_ ?_)|ktr_call (XS _ _ (mh _ _)) (IE (by first|assumption|exact js rfl) rfl (by first|exact Or.inl rfl|exact Or.inr rfl) ?_)|ktr_call (XS _ _ (Cd _ tU _)) (KZ WQ WR my rN (xv _) ?_)|ktr_call (XS _ _ (Cp _ _ _ _)) (Hj rfl rfl rfl (fun _=>rfl) (by walk_at "a") rfl (by first|assumption|exact js rfl) rfl rfl (fun E' pn hp=>?_) (fun A' pn hA hU=>?_)))
local macro_rules|`(tactic|walk_at "C")=>`(tactic|first|ktr_call (XT _ _ (fB (f2 jc _ _))) (lw (Ee hr.units) cX ?_ ?_ (jE _))|ktr_call (XT _ _ (fV _)) (IY ?_)|ktr_call (XT _ _ (bW _)) (AZ ?_)|ktr_call (XT _ _ (B8 _ _)) (Ru ?_)|ktr_call (XT _ _ (fB (f2 xr _ _))) (lw (D6 hr.units) cX ?_ ?_ (jE _))|ktr_call (XT _ _ (ph _ _)) (Ru ?_)|ktr_call (XT _ _ (fB (f2 mn _ _))) (lw (C1 hr.units) cX ?_ ?_ (jE _))|ktr_call (XT _ _ (fB (iz zX zX _ _ _))) (Bl sf gm sf gm ?_ ?_ ?_)|ktr_call (XT _ _ (fB (j0 _))) (D7 ?_)|ktr_call (XT _ _ (fB (f1 (uw _) _))) (Mb (by walk_at "a") rfl ?_)|ktr_call (XT _ _ (fB (ql _))) (Im ?_)|ktr_call (XT _ _ (mL _ _)) (Fi _ ?_)|ktr_call (XT _ _ (fB (f2 zX _ _))) (lw sf gm ?_ ?_ (jE _))|ktr_call (XT _ _ (fB (f2 qE _ _))) (lw FL cX ?_ ?_ rfl))
local macro_rules|`(tactic|walk_at "D")=>`(tactic|first|ktr_call (XW _ _ (ph _ _)) (G0 ?_ ?_)|ktr_call (XW _ _ (B8 _ _)) (Kj ?_ ?_)|refine DH ?_|refine Hu ?_)
local macro_rules|`(tactic|walk_at "F")=>`(tactic|first|ktr_call (XI _ _ _ (fj _)) (Hx ?_)|ktr_call (XI _ _ _ (gh _)) (xK rfl (by walk_at "a") ?_)|ktr_call (XI _ _ _ (gO _)) (GC ?_)|ktr_call (XI _ _ _ (xS _)) (GX rfl (by walk_at "a") ?_))
local macro_rules|`(tactic|walk_at "L")=>`(tactic|first|ktr_call (XN _ _ (dP _)) (Gz ?_)|ktr_call (XN _ _ (kD _ _ _ _ _)) (Sd rfl (by first|exact g6 rfl|exact gx rfl) ?_ ?_)|ktr_call (XN _ _ (fR _ _)) (xD (by walk_at "a") (by first|exact kg|walk_at "a") hr ‹0› ?_)|ktr_call (XN _ _ (f1 rF _)) (Eu rfl rfl (by walk_at "a") rfl (by walk_at "a") ?_))
local macro_rules|`(tactic|walk_at "M")=>`(tactic|first|with_reducible refine Jb ?_|ktr_call (XE _ _ (ae _)) (xw _)|ktr_call (XE _ _ (fC .non)) II|ktr_call (XE _ _ (fC (.str _))) G9|ktr_call (XE _ _ (fC (.str _))) (Ea rfl (by walk_at "a"))|ktr_call (XE _ _ (f2 av _ _)) (iC zZ cX ?_ ?_)|ktr_call (XE _ _ (fC (.int _))) GY|ktr_call (XE _ _ (fC (.int _))) (Dy rfl (by walk_at "a"))|ktr_call (XE _ _ (fR _ _)) (ye (by walk_at "a") (by first|exact kg|walk_at "a") hr ‹0› ?_)|ktr_call (XE _ _ (f2 aX _ _)) (xi ?_ ?_)|ktr_call (XE _ _ (f1 (bV _ _) _)) (GW (by walk_at "a") ?_)|ktr_call (XE _ _ (dP _)) (HH ?_)|ktr_call (XE _ _ (f2 jc _ _)) (lI (Ee hr.units) cX ?_ ?_ (jE _))|ktr_call (XE _ _ (iq _)) (IU ?_)|ktr_call (XE _ _ (f2 gW _ _)) (iC Mp Mm ?_ ?_)|ktr_call (XE _ _ (cN _ _ _)) (An ?_ ?_ ?_)|ktr_call (XE _ _ (f1 (eK _) _)) (Cz (by walk_at "a") rfl (by walk_at "a") rfl ?_)|ktr_call (XE _ _ (f1 (eK _) _)) (Ao (by walk_at "a") rfl (by walk_at "a") rfl (by walk_at "a") PyProof.Rows.Boot.«ValueError» ?_)|ktr_call (XE _ _ (f2 jv _ _)) (iC DG Mz ?_ ?_)|ktr_call (XE _ _ (fNew _ _ _)) (Ig (by walk_at "a") hr ‹0› rfl ?_)|ktr_call (XE _ _ (fC (.bl _))) LR|ktr_call (XE _ _ (gu _ _)) (G5 ?_ ?_)|ktr_call (XE _ _ (fL fz _)) (lZ BC rfl (by walk_at "a") PySem.boot_len ?_)|ktr_call (XE _ _ (f2 xr _ _)) (lI (D6 hr.units) cX ?_ ?_ (jE _))|ktr_call (XE _ _ (kD _ _ _ _ _)) (xl rfl (by first|exact g6 rfl|exact gx rfl) ?_ ?_)|ktr_call (XE _ _ (nH "int" _)) (nW Ep rfl (by walk_at "a") rfl (by walk_at "a") WB ?_)|ktr_call (XE _ _ (nH "bool" _)) (nW A7 rfl (by walk_at "a") rfl (by walk_at "a") PyProof.Rows.boot_bool ?_)|ktr_call (XE _ _ (nH "str" _)) (nW Dt rfl (by walk_at "a") rfl (by walk_at "a") WC ?_)|ktr_call (XE _ _ (nH "tuple" _)) (nW yF rfl (by walk_at "a") rfl (by walk_at "a") WF ?_)|ktr_call (XE _ _ (f2 md _ _)) (iC Kz Kx ?_ ?_)|ktr_call (XE _ _ (f2 mn _ _)) (lI (C1 hr.units) cX ?_ ?_ (jE _))|ktr_call (XE _ _ (fL qQ _)) (lZ (AY rfl) rfl (by walk_at "a") PyProof.Rows.boot_all ?_)|ktr_call (XE _ _ (iz zX zX _ _ _)) (A4 sf gm sf gm ?_ ?_ ?_)|ktr_call (XE _ _ (iY _ _ _ (aa _ _))) (DZ (by walk_at "a") hr ‹0› ?_ ?_)|ktr_call (XE _ _ (iY _ _ _ aj)) (AD (by walk_at "a") hr ‹0› ?_)|ktr_call (XE _ _ (gd _ _)) (xm ?_ ?_)|ktr_call (XE _ _ (f2 Bb _ _)) (iC qw KQ ?_ ?_)|ktr_call (XE _ _ (f2 yc _ _)) (iC CY Ds ?_ ?_)|ktr_call (XE _ _ (f2 qE _ _)) (lI FL cX ?_ ?_ rfl)|ktr_call (XE _ _ (ql _)) (HA ?_)|ktr_call (XE _ _ (j0 _)) (E9 ?_)|ktr_call (XE _ _ (vA _)) (Ho ?_)|ktr_call (XE _ _ (EL _)) (HI ?_)|ktr_call (XE _ _ (Jy _ _ _)) (Kk ?_ ?_ ?_)|ktr_call (XE _ _ (f1 (qL _ _) _)) (G6 (by walk_at "a") rfl (by walk_at "a") rfl ?_)|ktr_call (XE _ _ (fL kj _)) (ko wr rfl (by walk_at "a") WF ?_)|ktr_call (XE _ _ (fL tM _)) (ko B4 rfl (by walk_at "a") WC ?_)|ktr_call (XE _ _ (f1 (B5 _) _)) (Ga (by walk_at "a") rfl ?_ (fun _ _=>rfl))|ktr_call (XE _ _ (f1 (uw _) _)) (Kc (by walk_at "a") rfl ?_)|ktr_call (XE _ _ (qo _ _)) (BM ?_ ?_)|ktr_call (XE _ _ (mw _ _ _ _)) (R0 rfl rfl rfl rfl (by first|exact g6 rfl|exact gx rfl) ?_ ?_)|ktr_call (XE _ _ (fC (.obj _ _ _))) (DQ (by walk_at "a") rfl)|ktr_call (XE _ _ (f2 zW _ _)) (iC HU cX ?_ ?_)|ktr_call (XE _ _ (f2 zX _ _)) (lI sf gm ?_ ?_ (jE _))|ktr_call (XE _ _ (fL HL _)) (lZ (AQ rfl) rfl (by walk_at "a") PyProof.Rows.boot_any ?_)|ktr_call (XE _ _ (zc _ _)) (Cq ?_ ?_)|ktr_call (XE _ _ (mG _ _)) (yq (by walk_at "a") (by first|exact uf|exact kg|walk_at "a") hr ‹0› ?_)|ktr_call (XE _ _ (fL mY _)) (ko AB rfl (by walk_at "a") WB ?_)|ktr_call (XE _ _ (f1 oI _)) (pJ ?_))
local macro_rules|`(tactic|walk_at "N")=>`(tactic|first|ktr_call (xc _ _ _ (aF _ _)) (Br ?_ ?_)|ktr_call (xc _ _ _ (j5 _ _ _)) (Ff _ (by decide) ?_)|ktr_call (xc _ _ _ bU) Fx|ktr_call (xc _ _ _ rY) Bs|refine CG ?_)
local macro_rules|`(tactic|walk_at "O")=>`(tactic|first|ktr_call (XM _ _ _ (fq _ _ _)) (Mo ?_ ?_ ?_)|ktr_call (XM _ _ _ (je _ _)) (G2 ?_)|ktr_call (XM _ _ _ (gr _ _)) (Ey ?_)|ktr_call (XM _ _ _ (dQ _ _ _)) (EH (by decide) (by first|assumption|exact js rfl) ?_)|ktr_call (XM _ _ _ (mh _ _)) (IL (by decide) (by first|assumption|exact js rfl) ?_)|ktr_call (XM _ _ _ (bK _ _)) (GL (by decide) (by first|assumption|exact js rfl) ?_)|ktr_call (XM _ _ _ (jf _ _ _)) (A3 _ hp ?_ ?_)|ktr_call (XM _ _ _ (Cd _ tU _)) (HX (xv _) ?_)|ktr_call (XM _ _ _ (dU _ _)) (Au rfl (by walk_at "a") rfl ?_)|ktr_call (XM _ _ _ rY) Cw)
local macro_rules|`(tactic|walk_at "P")=>`(tactic|first|ktr_call (Ce _ _ _ (bO _ _ _)) (B2 (by walk_at "a") (by first|exact uf|exact kg|walk_at "a") hr ‹0› (xv _) ?_)|ktr_call (Ce _ _ _ (vp _)) (DT (xv _))|ktr_call (Ce _ _ _ (x6 _ _)) (vq (by walk_at "a") (by first|exact uf|exact kg|walk_at "a") hr ‹0› ?_)|ktr_call (Ce _ _ _ (fS _ _ _)) (EF (by walk_at "a") hr ‹0› rfl ?_))
local macro_rules|`(tactic|walk_at "d")=>`(tactic|((first|((with_reducible show XE _ _ _);walk_at "M")|((with_reducible show XA _ _ _);first|ktr_call (XA _ _ (aa _ _)) (o7 ?_ ?_)|ktr_call (XA _ _ aj) yS)|((with_reducible show XS _ _ _);walk_at "B")|((with_reducible show vJ _ _ _);walk_at "A")|((with_reducible show XT _ _ _);walk_at "C")|((with_reducible show XW _ _ _);walk_at "D")|((with_reducible show XI _ _ _ _);walk_at "F")|((with_reducible show XG _ _ _);first|ktr_call (XG _ _ (gN _)) (Ek (by first|assumption|exact js rfl) rfl (by first|exact Or.inl rfl|exact Or.inr rfl))|ktr_call (XG _ _ (gT _ _)) (Jv rfl ?_))|((with_reducible show Mr _ _ _);first|ktr_call (Mr _ _ (vc (_ :: _))) (AH ?_ ?_)|ktr_call (Mr _ _ (vc [])) Dj)|((with_reducible show XO _ _ _);first|ktr_call (XO _ _ cj) DE|ktr_call (XO _ _ (dY _)) (DA ?_))|((with_reducible show NS _ _ _);first|ktr_call (NS _ _ eF) Di|refine Du ?_)|((with_reducible show pU _ _ _ _ _ _ _ _ _);first|refine ⟨fun _ _ _ _ _ _=>⟨?_, ?_, ?_⟩⟩)|((with_reducible show XN _ _ _);walk_at "L")|((with_reducible show xc _ _ _ _);walk_at "N")|((with_reducible show XM _ _ _ _);walk_at "O")|((with_reducible show Ce _ _ _ _);walk_at "P")|((with_reducible show Jx _ _ _ _);first|ktr_call (Jx _ _ _ (dI _ _)) (BK ?_ ?_)|ktr_call (Jx _ _ _ (dJ _)) (A0 ?_)))<;>walk_at "d"))
local macro_rules | `(tactic| walk_at "a") => `(tactic| first | assumption | exact q.2 | exact q.1.2 | exact q.1.1.2 | exact q.1.1.1.2 | exact q.1.1.1.1.2 | exact q.1.1.1.1.1.2 | exact q.1.1.1.1.1.1.2 | exact q.1.1.1.1.1.1.1.2 | (replace q := q.1.1.1.1.1.1.1.1; walk_at "a") | exact q.1 | exact q.1.1 | exact q.1.1.1 | exact q.1.1.1.1 | exact q.1.1.1.1.1 | exact q.1.1.1.1.1.1 | exact q.1.1.1.1.1.1.1)
local macro_rules | `(tactic| walk_at "b") => `(tactic| (intro us hl _ _ _ _ _ _; first | (obtain ⟨a, rfl⟩ := N8 hl; rfl) | (obtain ⟨a, b, rfl⟩ := FZ hl; rfl) | (obtain ⟨a, b, c, rfl⟩ := xX hl; rfl)))
local macro_rules | `(tactic| walk_at "m") => `(tactic| ((· walk_at "a"); (· walk_at "b"); (· exact ‹2›); first | refine fun nd f => ⟨fun cdv A outer s H E hr hp => ?_⟩ | intro nd f A outer s H E hr hp))
local macro_rules | `(tactic| ktn_call $m $b:ident) => `(tactic| ((first | (apply RC $m; walk_at "m") | (apply Sl $m; walk_at "m")); unfold $b; walk_at "d"))
local macro_rules | `(tactic| walk_at "t") => `(tactic| first | exact Hm | (refine Gf (MethAt.mono (by walk_at "a") (by first | decide | omega)) (by first | exact kg | walk_at "a") ?_; walk_at "t"))
section
variable{u:U}
def Q0(u:U):Prop:=((((((((((((((((((((((((((((((((((((((((((((((((((((((((((((((((((((((((O5 u (O5 u (Zs u ["isinstance","str","tuple","len","all","int","zip","range","bool","list","reversed","ValueError","any"]) [("written",top 29),("shown",top 58),("is_letters",top 21),("is_name",top 22),("read_name",top 71),("read_word",top 73),("read_number",top 72),("read_value",top 70),("read_values",top 69),("read_pair",top 64),("taken",top 61),("taken_until",top 62),("are_words",top 26),("has_parts",top 23),("is_word_kind",top 25),("is_whole",top 20),("is_number_kind",top 24),("made_sieve",top 68),("made_step",top 66),("read_keep",top 67),("read_step",top 65),("read_glass",top 63),("words_of",top 60),("read",top 59),("_law_alone",top 84),("_law_read",top 83),("_law_name",top 77),("_law_no_step",top 80),("_law_cell_at",top 75),("_law_other",top 81)]) [("_law_spoilt",top 82),("_law_pick",top 76),("_law_step",top 78),("_law_text",top 79)])/\∃t,u.mg "MOST_LETTERS"=ag (.int 8 t))/\∃t,u.mg "LETTERS"=ag (.str "abcdefghijklmnopqrstuvwxyz" t))/\∃t,u.mg "MOST_FIGURES"=ag (.int 60 t))/\∃t,u.mg "FIGURES"=ag (.str "0123456789" t))/\∃t,u.mg "MOST_WORDS"=ag (.int 12 t))/\∃t,u.mg "BRACKETS"=ag (.str "()[]" t))/\Ci u.P u.w u.K u.mg "PAIRS" cE)/\Ci u.P u.w u.K u.mg "STEPS" dR)/\bB u.K "value" ["Drop"])/\bB u.K "name" ["Drop"])/\bB u.K "name" ["Gather"])/\bB u.K "name" ["Nest"])/\bB u.K "many" ["Nest"])/\bB u.K "name" ["Unnest"])/\bB u.K "rest" ["Part"])/\bB u.K "quotient" ["Part"])/\bB u.K "by" ["Part"])/\bB u.K "name" ["Part"])/\bB u.K "name" ["Fuse"])/\bB u.K "by" ["Fuse"])/\bB u.K "rest" ["Fuse"])/\bB u.K "quotient" ["Fuse"])/\bB u.K "new" ["Rename"])/\bB u.K "old" ["Rename"])/\bB u.K "kind" ["Sieve"])/\bB u.K "name" ["Sieve"])/\bB u.K "step" ["Over"])/\bB u.K "glass" ["Over"])/\bB u.K "pair" ["Both"])/\bB u.K "other" ["Both"])/\bB u.K "one" ["Both"])/\bB u.K "name" ["Drop","Gather","Leaf","Nest","Unnest","Part","Fuse","Sieve"])/\cz u.P u.w u.K u.mg u.base 1 "Gather" ["self","name"] ["name"])/\cz u.P u.w u.K u.mg u.base 1 "Sieve" ["self","name","kind"] ["name","kind"])/\cz u.P u.w u.K u.mg u.base 1 "Rename" ["self","old","new"] ["old","new"])/\cz u.P u.w u.K u.mg u.base 1 "Part" ["self","name","by","quotient","rest"] ["name","by","quotient","rest"])/\cz u.P u.w u.K u.mg u.base 1 "Fuse" ["self","quotient","rest","by","name"] ["quotient","rest","by","name"])/\cz u.P u.w u.K u.mg u.base 1 "Drop" ["self","name","value"] ["name","value"])/\cz u.P u.w u.K u.mg u.base 1 "Nest" ["self","many","name"] ["many","name"])/\cz u.P u.w u.K u.mg u.base 1 "Unnest" ["self","name"] ["name"])/\cz u.P u.w u.K u.mg u.base 1 "Over" ["self","glass","step"] ["glass","step"])/\cz u.P u.w u.K u.mg u.base 1 "Both" ["self","one","other","pair"] ["one","other","pair"])/\cz u.P u.w u.K u.mg u.base 1 "Leaf" ["self","name"] ["name"])/\DX u.K u.mg "Join")/\wQ u.K u.mg "Over" ["Over"] ["Leaf","Both"])/\wQ u.K u.mg "Both" ["Both"] ["Leaf","Over"])/\ExcAt u.K u.mg "NoText")/\wM u.K u.mg "GlassError" ["NoText"])/\dE u.K u.mg "NoText" [("NoText",true)])/\dE u.K u.mg "NoKey" [("NoText",false)])/\dE u.K u.mg "Twice" [("NoText",false)])/\dE u.K u.mg "NoKind" [("NoText",false)])/\dE u.K u.mg "NoForm" [("NoText",false)])/\dE u.K u.mg "Nothing" [("NoText",false)])/\dE u.K u.mg "NoTable" [("NoText",false)])/\dE u.K u.mg "NoField" [("NoText",false)])/\dE u.K u.mg "Torn" [("NoText",false)])/\dE u.K u.mg "Blind" [("NoText",false)])/\dE u.K u.mg "TooMany" [("NoText",false)])/\dE u.K u.mg "NoPane" [("NoText",false)])/\dE u.K u.mg "Stale" [("NoText",false)])/\vP u.K (.type "ValueError") [("NoText",true)])/\Dm u "Drop" "words" "Drop.words" (inClass (top 31) 1))/\Dm u "Join" "words" "Join.words" (inClass (top 34) 0))/\Dm u "Gather" "words" "Gather.words" (inClass (top 36) 1))/\Dm u "Nest" "words" "Nest.words" (inClass (top 43) 1))/\Dm u "Unnest" "words" "Unnest.words" (inClass (top 44) 1))/\Dm u "Part" "words" "Part.words" (inClass (top 46) 1))/\Dm u "Fuse" "words" "Fuse.words" (inClass (top 47) 1))/\Dm u "Rename" "words" "Rename.words" (inClass (top 49) 1))/\Dm u "Sieve" "words" "Sieve.words" (inClass (top 51) 1))
def Q1(u:U):Prop:=Q0 u/\Ca u 1 "written" ["value"] (az cC 1 1)
def e1(q:Q0 u):Q1 u:=⟨q,(by ktn_call [] cC)⟩
def Q2(u:U):Prop:=Q1 u/\Ma u 2 "Drop" "words" ["self"] (az cH 1 1)
def e2(q:Q1 u):Q2 u:=⟨q,(by ktn_call [] cH)⟩
def Q3(u:U):Prop:=Q2 u/\Ma u 1 "Join" "words" ["self"] (az dz 1 1)
def e3(q:Q2 u):Q3 u:=⟨q,(by ktn_call [] dz)⟩
def Q4(u:U):Prop:=Q3 u/\Ma u 1 "Gather" "words" ["self"] (az cA 1 1)
def e4(q:Q3 u):Q4 u:=⟨q,(by ktn_call [] cA)⟩
def Q5(u:U):Prop:=Q4 u/\Ma u 2 "Nest" "words" ["self"] (az dk 1 1)
def e5(q:Q4 u):Q5 u:=⟨q,(by ktn_call [] dk)⟩
def Q6(u:U):Prop:=Q5 u/\Ma u 1 "Unnest" "words" ["self"] (az cy 1 1)
def e6(q:Q5 u):Q6 u:=⟨q,(by ktn_call [] cy)⟩
def Q7(u:U):Prop:=Q6 u/\Ma u 2 "Part" "words" ["self"] (az dj 1 1)
def e7(q:Q6 u):Q7 u:=⟨q,(by ktn_call [] dj)⟩
def Q8(u:U):Prop:=Q7 u/\Ma u 2 "Fuse" "words" ["self"] (az dm 1 1)
def e8(q:Q7 u):Q8 u:=⟨q,(by ktn_call [] dm)⟩
def Q9(u:U):Prop:=Q8 u/\Ma u 1 "Rename" "words" ["self"] (az cv 1 1)
def e9(q:Q8 u):Q9 u:=⟨q,(by ktn_call [] cv)⟩
def Pn(u:U):Prop:=Q9 u/\Ma u 2 "Sieve" "words" ["self"] (az cq 1 1)
def e10(q:Q9 u):Pn u:=⟨q,(by ktn_call [] cq)⟩
def OZ(u:U):Prop:=Pn u/\Ta u 2 "words" ["self"] [("Drop",(az cH 1 1)),("Join",(az dz 1 1)),("Gather",(az cA 1 1)),("Nest",(az dk 1 1)),("Unnest",(az cy 1 1)),("Part",(az dj 1 1)),("Fuse",(az dm 1 1)),("Rename",(az cv 1 1)),("Sieve",(az cq 1 1))]
def Pb(q:Pn u):OZ u:=⟨q,(by walk_at "t")⟩
theorem sA(q:OZ u):∀n:Nat,Ca u (2+n) "shown" ["glass"] (cg n)
 |0=>by
  rw[cg];exact Sf (by walk_at "a") (by walk_at "b")
 |n+1=>by
  have ih:=sA q n;have c0:=ih;have a0:=qx n;rw[fk];apply RC (k:=2+n) ["words"];walk_at "m";unfold jR;walk_at "d"
def PY(u:U):Prop:=(OZ u/\Ca u (18) "shown" ["glass"] (cg 16))/\Ar 1 (cg 16)
def R4(q:OZ u):PY u:=⟨⟨q,(sA q 16)⟩,qx 16⟩
def QE(u:U):Prop:=PY u/\Ca u 1 "is_letters" ["value","fewest"] (az bH 2 2)
def RX(q:PY u):QE u:=⟨q,(by ktn_call [] bH)⟩
def PR(u:U):Prop:=QE u/\Ca u 2 "is_name" ["value"] (az fK 1 1)
def S9(q:QE u):PR u:=⟨q,(by ktn_call [] fK)⟩
def Qs(u:U):Prop:=PR u/\Ca u 3 "read_name" ["word"] (az bR 1 1)
def RH(q:PR u):Qs u:=⟨q,(by ktn_call [] bR)⟩
def Rh(u:U):Prop:=Qs u/\Ca u 2 "read_word" ["word"] (az bh 1 1)
def SE(q:Qs u):Rh u:=⟨q,(by ktn_call [] bh)⟩
def P6(u:U):Prop:=Rh u/\Ca u 1 "read_number" ["word"] (az aZ 1 2)
def RN(q:Rh u):P6 u:=⟨q,(by ktn_call ["figures"] aZ)⟩
def Rl(u:U):Prop:=P6 u/\Ca u 4 "read_value" ["sort","word"] (az aA 2 2)
def SY(q:P6 u):Rl u:=⟨q,(by ktn_call [] aA)⟩
def Ql(u:U):Prop:=Rl u/\Ca u 5 "read_values" ["sorts","words"] (az aM 2 2)
def RL(q:Rl u):Ql u:=⟨q,(by ktn_call [] aM)⟩
def Pw(u:U):Prop:=Ql u/\Ca u 6 "read_pair" ["first","words"] (az bn 2 3)
def e20(q:Ql u):Pw u:=⟨q,(by ktn_call ["values"] bn)⟩
def Qq(u:U):Prop:=Pw u/\MJ u 1 "taken" ["waiting"] (hW cu 1 1)
def Sj(q:Pw u):Qq u:=⟨q,(by apply Mh [];walk_at "m";unfold cu;walk_at "d")⟩
def QT(u:U):Prop:=Qq u/\MJ u 2 "taken_until" ["waiting","end"] (hW aJ 2 4)
def RU(q:Qq u):QT u:=⟨q,(by apply Mh ["words","word"];walk_at "m";unfold aJ;walk_at "d")⟩
def Qn(u:U):Prop:=QT u/\Ca u 2 "are_words" ["value"] (az cY 1 1)
def S8(q:QT u):Qn u:=⟨q,(by ktn_call [] cY)⟩
def Qe(u:U):Prop:=Qn u/\Ca u 1 "has_parts" ["value","many"] (az cI 2 2)
def SH(q:Qn u):Qe u:=⟨q,(by ktn_call [] cI)⟩
def Ph(u:U):Prop:=Qe u/\Ca u 3 "is_word_kind" ["value"] (az bZ 1 1)
def SN(q:Qe u):Ph u:=⟨q,(by ktn_call [] bZ)⟩
def QP(u:U):Prop:=Ph u/\Ca u 1 "is_whole" ["value"] (az fF 1 1)
def R9(q:Ph u):QP u:=⟨q,(by ktn_call [] fF)⟩
def Qr(u:U):Prop:=QP u/\Ca u 2 "is_number_kind" ["value"] (az bG 1 1)
def SJ(q:QP u):Qr u:=⟨q,(by ktn_call [] bG)⟩
def QL(u:U):Prop:=Qr u/\Ca u 4 "made_sieve" ["name","kind"] (az aW 2 2)
def SK(q:Qr u):QL u:=⟨q,(by ktn_call [] aW)⟩
def Qm(u:U):Prop:=QL u/\Ca u 5 "made_step" ["first","values"] (az aR 2 2)
def SL(q:QL u):Qm u:=⟨q,(by ktn_call [] aR)⟩
def PN(u:U):Prop:=Qm u/\Ca u 5 "read_keep" ["words"] (az bF 1 1)
def Ss(q:Qm u):PN u:=⟨q,(by ktn_call [] bF)⟩
def Oo(u:U):Prop:=PN u/\Ca u 6 "read_step" ["words"] (az aE 1 1)
def Sv(q:PN u):Oo u:=⟨q,(by ktn_call [] aE)⟩
theorem jg(q:Oo u):∀n:Nat,MJ u (6+n) "read_glass" ["waiting"] (ah n)
 |0=>by
  rw[ah];exact Rf (by walk_at "a") (by walk_at "b")
 |n+1=>by
  have ih:=jg q n;have c0:=ih;have a0:=i9 n;rw[bC];apply Mh (k:=6+n) ["word","glass","first","one","other"];walk_at "m";unfold aV;walk_at "d"
def Pt(u:U):Prop:=(Oo u/\MJ u (22) "read_glass" ["waiting"] (ah 16))/\Ar 1 (ah 16)
def RQ(q:Oo u):Pt u:=⟨⟨q,(jg q 16)⟩,i9 16⟩
def QD(u:U):Prop:=Pt u/\Ca u 1 "words_of" ["text"] (az fH 1 2)
def Su(q:Pt u):QD u:=⟨q,(by apply SW (bs:="()[]") (by walk_at "a") (by decide +kernel) ["bracket"];(· walk_at "a");(· walk_at "b");(· exact‹2›);(· exact⟨_,_,rfl,rfl⟩);intro nd tb hm f cdv A outer s H E hr hp;unfold fH;exact B1 (λHb Ob pins s σ H E I tk Z=>IH (i:=0) (j:=1) (hij:=by decide) (hN:=nd) (hi:=by rfl) (hj:=by rfl) (ht:=by rfl) (hb:=by rfl) (hg:=by rfl) (hm:=hm) (ha:=by decide +kernel) (hp:=hp) (hc:=by rfl) (Hb:=Hb) (Ob:=Ob) (pins:=pins) (s:=s) (σ:=σ) (H:=H) (E:=E) (I:=I) (tk:=tk) (Z:=Z)) (wX (zk (pJ (xw _)))).h)⟩
def QN(u:U):Prop:=QD u/\Ca u 23 "read" ["text"] (az cV 1 2)
def RV(q:QD u):QN u:=⟨q,(by ktn_call ["glass"] cV)⟩
def Qj(u:U):Prop:=QN u/\Ca u 1 "_law_alone" ["_law_error"] (az dq 1 2)
def RW(q:QN u):Qj u:=⟨q,(by ktn_call ["_law_some"] dq)⟩
def PZ(u:U):Prop:=Qj u/\Ca u 24 "_law_read" ["_law_text_here"] (az cB 1 4)
def R5(q:Qj u):PZ u:=⟨q,(by ktn_call ["_law_found","_law_error","e"] cB)⟩
def Ri(u:U):Prop:=PZ u/\Ca u 1 "_law_name" ["_law_cell"] (az cJ 1 5)
def Sz(q:PZ u):Ri u:=⟨q,(by ktn_call ["_law_letters","_law_rest","_law_name_here","_law_k"] cJ)⟩
def Rc(u:U):Prop:=Ri u/\Ca u 2 "_law_no_step" ["_law_cell"] (az cw 1 3)
def RT(q:Ri u):Rc u:=⟨q,(by ktn_call ["_law_one","_law_some"] cw)⟩
def Rk(u:U):Prop:=Rc u/\Ca u 1 "_law_cell_at" ["_law_script","_law_k"] (az bw 2 2)
def SF(q:Rc u):Rk u:=⟨q,(by ktn_call [] bw)⟩
def QK(u:U):Prop:=Rk u/\Ca u 1 "_law_other" ["_law_text_here","_law_cell"] (az eW 2 3)
def RP(q:Rk u):QK u:=⟨q,(by ktn_call ["_law_some"] eW)⟩
def PB(u:U):Prop:=QK u/\Ca u 1 "_law_spoilt" ["_law_text_here","_law_way","_law_cell"] (az eL 3 5)
def RY(q:QK u):PB u:=⟨q,(by apply Sb ["_law_at","_law_sign"];(· walk_at "a");(· walk_at "b");(· exact‹2›);(· exact⟨_,_,rfl,rfl⟩);intro nd f cdv A outer s H E hr hp;unfold eL;refine ki ?_ (ki ?_ (ki ?_ (ki ?_ (ki ?_ (ki ?_ (ki ?_ (Ng (FP (Cu zZ cX (Fy ?_ (by decide) (by decide)) ?_)))))))))<;>walk_at "d")⟩
def QC(u:U):Prop:=PB u/\Ca u 1 "_law_pick" ["_law_cell","_law_k","_law_many"] (az cx 3 5)
def R6(q:PB u):QC u:=⟨q,(by ktn_call ["_law_step_here","_law_prime"] cx)⟩
def Pu(u:U):Prop:=QC u/\Ca u 2 "_law_step" ["_law_cell"] (az dh 1 5)
def SR(q:QC u):Pu u:=⟨q,(by ktn_call ["_law_one","_law_other_here","_law_far","_law_some"] dh)⟩
def Rz(u:U):Prop:=Pu u/\Ca u 3 "_law_text" ["_law_cells","_law_first"] (az fQ 2 7)
def R8(q:Pu u):Rz u:=⟨q,(by ktn_call ["_law_text_here","_law_cell","_law_leaf","_law_way","_law_side"] fQ)⟩
def ND{f:WW}{fd:XD}(F:kc u.K "law" "law" (top 85) f fd)(q:Rz u):fw u.P u.w u.K u.mg u.base (gj u.P u.w) 25 f fd ["_law_script"] (Bc u.K 1 (az ny 1 6)):=by
 refine Sn ["_law_text_here","_law_way","_law_spoilt_here","_law_found","_law_error"] F ?_ ?_
 ·exact‹2›
 refine λnd=>⟨λcdv A outer s H E hr hp=>?_⟩
 unfold ny;walk_at "d"
set_option hygiene true
variable{P:W1}{w:W0}{K:VC}{mg:bN}{base:W3}
def vB{C f:WW}{fd:XD}(h1:clsAt K "Gather" C)(hM:Mk K C f)(cl:iU K C)(na:∀g∈(["name"]:af),dN K C g)(F:kc K "__init__" "Gather.__init__" gF f fd)(b:Binds K fd ["self","name"] [])(hmg:mg "Gather"=ag (.ref C)):cz P w K mg base 1 "Gather" ["self","name"] ["name"]:=
 dC (k:=0) h1 hM cl na F b hmg ku rfl (by decide +kernel) (by decide) λcdv A outer s H E=>(dB rfl (pv 0) (pv 1) rfl)
def yg{C f:WW}{fd:XD}(h1:clsAt K "Sieve" C)(hM:Mk K C f)(cl:iU K C)(na:∀g∈(["name","kind"]:af),dN K C g)(F:kc K "__init__" "Sieve.__init__" gX f fd)(b:Binds K fd ["self","name","kind"] [])(hmg:mg "Sieve"=ag (.ref C)):cz P w K mg base 1 "Sieve" ["self","name","kind"] ["name","kind"]:=
 dC (k:=0) h1 hM cl na F b hmg kS rfl (by decide +kernel) (by decide) λcdv A outer s H E=>(cp rfl (pv 0) (pv 1) rfl (dB rfl (pv 0) (pv 2) rfl))
def wB{C f:WW}{fd:XD}(h1:clsAt K "Rename" C)(hM:Mk K C f)(cl:iU K C)(na:∀g∈(["old","new"]:af),dN K C g)(F:kc K "__init__" "Rename.__init__" gM f fd)(b:Binds K fd ["self","old","new"] [])(hmg:mg "Rename"=ag (.ref C)):cz P w K mg base 1 "Rename" ["self","old","new"] ["old","new"]:=
 dC (k:=0) h1 hM cl na F b hmg kr rfl (by decide +kernel) (by decide) λcdv A outer s H E=>(cp rfl (pv 0) (pv 1) rfl (dB rfl (pv 0) (pv 2) rfl))
def A9{C f:WW}{fd:XD}(h1:clsAt K "Part" C)(hM:Mk K C f)(cl:iU K C)(na:∀g∈(["name","by","quotient","rest"]:af),dN K C g)(F:kc K "__init__" "Part.__init__" iZ f fd)(b:Binds K fd ["self","name","by","quotient","rest"] [])(hmg:mg "Part"=ag (.ref C)):cz P w K mg base 1 "Part" ["self","name","by","quotient","rest"] ["name","by","quotient","rest"]:=
 dC (k:=0) h1 hM cl na F b hmg mM rfl (by decide +kernel) (by decide) λcdv A outer s H E=>(cp rfl (pv 0) (pv 1) rfl (cp rfl (pv 0) (pv 2) rfl (cp rfl (pv 0) (pv 3) rfl (dB rfl (pv 0) (pv 4) rfl))))
def Az{C f:WW}{fd:XD}(h1:clsAt K "Fuse" C)(hM:Mk K C f)(cl:iU K C)(na:∀g∈(["quotient","rest","by","name"]:af),dN K C g)(F:kc K "__init__" "Fuse.__init__" iQ f fd)(b:Binds K fd ["self","quotient","rest","by","name"] [])(hmg:mg "Fuse"=ag (.ref C)):cz P w K mg base 1 "Fuse" ["self","quotient","rest","by","name"] ["quotient","rest","by","name"]:=
 dC (k:=0) h1 hM cl na F b hmg mq rfl (by decide +kernel) (by decide) λcdv A outer s H E=>(cp rfl (pv 0) (pv 1) rfl (cp rfl (pv 0) (pv 2) rfl (cp rfl (pv 0) (pv 3) rfl (dB rfl (pv 0) (pv 4) rfl))))
def A6{C f:WW}{fd:XD}(h1:clsAt K "Drop" C)(hM:Mk K C f)(cl:iU K C)(na:∀g∈(["name","value"]:af),dN K C g)(F:kc K "__init__" "Drop.__init__" iX f fd)(b:Binds K fd ["self","name","value"] [])(hmg:mg "Drop"=ag (.ref C)):cz P w K mg base 1 "Drop" ["self","name","value"] ["name","value"]:=
 dC (k:=0) h1 hM cl na F b hmg mI rfl (by decide +kernel) (by decide) λcdv A outer s H E=>(cp rfl (pv 0) (pv 1) rfl (dB rfl (pv 0) (pv 2) rfl))
def As{C f:WW}{fd:XD}(h1:clsAt K "Nest" C)(hM:Mk K C f)(cl:iU K C)(na:∀g∈(["many","name"]:af),dN K C g)(F:kc K "__init__" "Nest.__init__" iP f fd)(b:Binds K fd ["self","many","name"] [])(hmg:mg "Nest"=ag (.ref C)):cz P w K mg base 1 "Nest" ["self","many","name"] ["many","name"]:=
 dC (k:=0) h1 hM cl na F b hmg mV rfl (by decide +kernel) (by decide) λcdv A outer s H E=>(cp rfl (pv 0) (pv 1) rfl (dB rfl (pv 0) (pv 2) rfl))
def wx{C f:WW}{fd:XD}(h1:clsAt K "Unnest" C)(hM:Mk K C f)(cl:iU K C)(na:∀g∈(["name"]:af),dN K C g)(F:kc K "__init__" "Unnest.__init__" gH f fd)(b:Binds K fd ["self","name"] [])(hmg:mg "Unnest"=ag (.ref C)):cz P w K mg base 1 "Unnest" ["self","name"] ["name"]:=
 dC (k:=0) h1 hM cl na F b hmg kA rfl (by decide +kernel) (by decide) λcdv A outer s H E=>(dB rfl (pv 0) (pv 1) rfl)
def Bf{C f:WW}{fd:XD}(h1:clsAt K "Over" C)(hM:Mk K C f)(cl:iU K C)(na:∀g∈(["glass","step"]:af),dN K C g)(F:kc K "__init__" "Over.__init__" iV f fd)(b:Binds K fd ["self","glass","step"] [])(hmg:mg "Over"=ag (.ref C)):cz P w K mg base 1 "Over" ["self","glass","step"] ["glass","step"]:=
 dC (k:=0) h1 hM cl na F b hmg mx rfl (by decide +kernel) (by decide) λcdv A outer s H E=>(cp rfl (pv 0) (pv 1) rfl (dB rfl (pv 0) (pv 2) rfl))
def AV{C f:WW}{fd:XD}(h1:clsAt K "Both" C)(hM:Mk K C f)(cl:iU K C)(na:∀g∈(["one","other","pair"]:af),dN K C g)(F:kc K "__init__" "Both.__init__" iT f fd)(b:Binds K fd ["self","one","other","pair"] [])(hmg:mg "Both"=ag (.ref C)):cz P w K mg base 1 "Both" ["self","one","other","pair"] ["one","other","pair"]:=
 dC (k:=0) h1 hM cl na F b hmg mi rfl (by decide +kernel) (by decide) λcdv A outer s H E=>(cp rfl (pv 0) (pv 1) rfl (cp rfl (pv 0) (pv 2) rfl (dB rfl (pv 0) (pv 3) rfl)))
def Bm{C f:WW}{fd:XD}(h1:clsAt K "Leaf" C)(hM:Mk K C f)(cl:iU K C)(na:∀g∈(["name"]:af),dN K C g)(F:kc K "__init__" "Leaf.__init__" iR f fd)(b:Binds K fd ["self","name"] [])(hmg:mg "Leaf"=ag (.ref C)):cz P w K mg base 1 "Leaf" ["self","name"] ["name"]:=
 dC (k:=0) h1 hM cl na F b hmg ml rfl (by decide +kernel) (by decide) λcdv A outer s H E=>(dB rfl (pv 0) (pv 1) rfl)
end
def all_mk{l:V4}{w:W0}{K:VC}{h:W3}{mg:bN}{fa:WW}(X:K.In h)(G:h.Ns W5 mg)(hfa:mg "law"=ag (.ref fa)){f1 f2:WW}
  (ac0:V5 K W5 "Drop"=ag (ag (.ref Cl0)))
  (ac1:V5 K W5 "Gather"=ag (ag (.ref Cl1)))
  (ac2:V5 K W5 "Nest"=ag (ag (.ref Cl2)))
  (ac3:V5 K W5 "Unnest"=ag (ag (.ref Cl3)))
  (ac4:V5 K W5 "Part"=ag (ag (.ref Cl4)))
  (ac5:V5 K W5 "Fuse"=ag (ag (.ref Cl5)))
  (ac6:V5 K W5 "Rename"=ag (ag (.ref Cl6)))
  (ac7:V5 K W5 "Sieve"=ag (ag (.ref Cl7)))
  (ac8:V5 K W5 "Over"=ag (ag (.ref Cl8)))
  (ac9:V5 K W5 "Both"=ag (ag (.ref Cl9)))
  (ac10:V5 K W5 "Leaf"=ag (ag (.ref Cl10)))
  (ac11:V5 K W5 "Join"=ag (ag (.ref Cl11)))
  (a0:VG K (.ref Cl0) "words"=ag (ag (.ref f0)))
  (i0:VJ K (.ref f0)=true)
  (l0:Lk K f0 "words" "Drop.words" (inClass (top 31) 1) oc0 od0 kV0 dc0 pm0 an0 cd0 ct0 sl0)
  (c0:V2 K cd0 "Drop.words"=true)
  (k0:VY K (.ref f0)=true)
  (a1:VG K (.ref Cl11) "words"=ag (ag (.ref f1)))
  (i1:VJ K (.ref f1)=true)
  (l1:Lk K f1 "words" "Join.words" (inClass (top 34) 0) oc1 od1 kV1 dc1 pm1 an1 cd1 ct1 sl1)
  (c1:V2 K cd1 "Join.words"=true)
  (k1:VY K (.ref f1)=true)
  (a2:VG K (.ref Cl1) "words"=ag (ag (.ref f2)))
  (i2:VJ K (.ref f2)=true)
  (l2:Lk K f2 "words" "Gather.words" (inClass (top 36) 1) oc2 od2 kV2 dc2 pm2 an2 cd2 ct2 sl2)
  (c2:V2 K cd2 "Gather.words"=true)
  (k2:VY K (.ref f2)=true)
  (a3:VG K (.ref Cl2) "words"=ag (ag (.ref f3)))
  (i3:VJ K (.ref f3)=true)
  (l3:Lk K f3 "words" "Nest.words" (inClass (top 43) 1) oc3 od3 kV3 dc3 pm3 an3 cd3 ct3 sl3)
  (c3:V2 K cd3 "Nest.words"=true)
  (k3:VY K (.ref f3)=true)
  (a4:VG K (.ref Cl3) "words"=ag (ag (.ref f4)))
  (i4:VJ K (.ref f4)=true)
  (l4:Lk K f4 "words" "Unnest.words" (inClass (top 44) 1) oc4 od4 kV4 dc4 pm4 an4 cd4 ct4 sl4)
  (c4:V2 K cd4 "Unnest.words"=true)
  (k4:VY K (.ref f4)=true)
  (a5:VG K (.ref Cl4) "words"=ag (ag (.ref f5)))
  (i5:VJ K (.ref f5)=true)
  (l5:Lk K f5 "words" "Part.words" (inClass (top 46) 1) oc5 od5 kV5 dc5 pm5 an5 cd5 ct5 sl5)
  (c5:V2 K cd5 "Part.words"=true)
  (k5:VY K (.ref f5)=true)
  (a6:VG K (.ref Cl5) "words"=ag (ag (.ref f6)))
  (i6:VJ K (.ref f6)=true)
  (l6:Lk K f6 "words" "Fuse.words" (inClass (top 47) 1) oc6 od6 kV6 dc6 pm6 an6 cd6 ct6 sl6)
  (c6:V2 K cd6 "Fuse.words"=true)
  (k6:VY K (.ref f6)=true)
  (a7:VG K (.ref Cl6) "words"=ag (ag (.ref f7)))
  (i7:VJ K (.ref f7)=true)
  (l7:Lk K f7 "words" "Rename.words" (inClass (top 49) 1) oc7 od7 kV7 dc7 pm7 an7 cd7 ct7 sl7)
  (c7:V2 K cd7 "Rename.words"=true)
  (k7:VY K (.ref f7)=true)
  (a8:VG K (.ref Cl7) "words"=ag (ag (.ref f8)))
  (i8:VJ K (.ref f8)=true)
  (l8:Lk K f8 "words" "Sieve.words" (inClass (top 51) 1) oc8 od8 kV8 dc8 pm8 an8 cd8 ct8 sl8)
  (c8:V2 K cd8 "Sieve.words"=true)
  (k8:VY K (.ref f8)=true)
  (a9:V5 K W5 "law"=ag (ag (.ref f9)))
  (l9:Lk K f9 "law" "law" (top 85) oc9 od9 kV9 dc9 pm9 an9 cd9 ct9 sl9)
  (c9:V2 K cd9 "law"=true)
  (k9:VY K (.ref f9)=true)
  (a10:VG K (.ref Cl1) "__init__"=ag (ag (.ref f10)))
  (i10:VJ K (.ref f10)=true)
  (l10:Lk K f10 "__init__" "Gather.__init__" (inClass (top 36) 0) oc10 od10 kV10 dc10 pm10 an10 cd10 ct10 sl10)
  (c10:V2 K cd10 "Gather.__init__"=true)
  (k10:VY K (.ref f10)=true)
  (a11:VG K (.ref Cl7) "__init__"=ag (ag (.ref f11)))
  (i11:VJ K (.ref f11)=true)
  (l11:Lk K f11 "__init__" "Sieve.__init__" (inClass (top 51) 0) oc11 od11 kV11 dc11 pm11 an11 cd11 ct11 sl11)
  (c11:V2 K cd11 "Sieve.__init__"=true)
  (k11:VY K (.ref f11)=true)
  (a12:VG K (.ref Cl6) "__init__"=ag (ag (.ref f12)))
  (i12:VJ K (.ref f12)=true)
  (l12:Lk K f12 "__init__" "Rename.__init__" (inClass (top 49) 0) oc12 od12 kV12 dc12 pm12 an12 cd12 ct12 sl12)
  (c12:V2 K cd12 "Rename.__init__"=true)
  (k12:VY K (.ref f12)=true)
  (a13:VG K (.ref Cl4) "__init__"=ag (ag (.ref f13)))
  (i13:VJ K (.ref f13)=true)
  (l13:Lk K f13 "__init__" "Part.__init__" (inClass (top 46) 0) oc13 od13 kV13 dc13 pm13 an13 cd13 ct13 sl13)
  (c13:V2 K cd13 "Part.__init__"=true)
  (k13:VY K (.ref f13)=true)
  (a14:VG K (.ref Cl5) "__init__"=ag (ag (.ref f14)))
  (i14:VJ K (.ref f14)=true)
  (l14:Lk K f14 "__init__" "Fuse.__init__" (inClass (top 47) 0) oc14 od14 kV14 dc14 pm14 an14 cd14 ct14 sl14)
  (c14:V2 K cd14 "Fuse.__init__"=true)
  (k14:VY K (.ref f14)=true)
  (a15:VG K (.ref Cl0) "__init__"=ag (ag (.ref f15)))
  (i15:VJ K (.ref f15)=true)
  (l15:Lk K f15 "__init__" "Drop.__init__" (inClass (top 31) 0) oc15 od15 kV15 dc15 pm15 an15 cd15 ct15 sl15)
  (c15:V2 K cd15 "Drop.__init__"=true)
  (k15:VY K (.ref f15)=true)
  (a16:VG K (.ref Cl2) "__init__"=ag (ag (.ref f16)))
  (i16:VJ K (.ref f16)=true)
  (l16:Lk K f16 "__init__" "Nest.__init__" (inClass (top 43) 0) oc16 od16 kV16 dc16 pm16 an16 cd16 ct16 sl16)
  (c16:V2 K cd16 "Nest.__init__"=true)
  (k16:VY K (.ref f16)=true)
  (a17:VG K (.ref Cl3) "__init__"=ag (ag (.ref f17)))
  (i17:VJ K (.ref f17)=true)
  (l17:Lk K f17 "__init__" "Unnest.__init__" (inClass (top 44) 0) oc17 od17 kV17 dc17 pm17 an17 cd17 ct17 sl17)
  (c17:V2 K cd17 "Unnest.__init__"=true)
  (k17:VY K (.ref f17)=true)
  (a18:VG K (.ref Cl8) "__init__"=ag (ag (.ref f18)))
  (i18:VJ K (.ref f18)=true)
  (l18:Lk K f18 "__init__" "Over.__init__" (inClass (top 40) 0) oc18 od18 kV18 dc18 pm18 an18 cd18 ct18 sl18)
  (c18:V2 K cd18 "Over.__init__"=true)
  (k18:VY K (.ref f18)=true)
  (a19:VG K (.ref Cl9) "__init__"=ag (ag (.ref f19)))
  (i19:VJ K (.ref f19)=true)
  (l19:Lk K f19 "__init__" "Both.__init__" (inClass (top 41) 0) oc19 od19 kV19 dc19 pm19 an19 cd19 ct19 sl19)
  (c19:V2 K cd19 "Both.__init__"=true)
  (k19:VY K (.ref f19)=true)
  (a20:VG K (.ref Cl10) "__init__"=ag (ag (.ref f20)))
  (i20:VJ K (.ref f20)=true)
  (l20:Lk K f20 "__init__" "Leaf.__init__" (inClass (top 39) 0) oc20 od20 kV20 dc20 pm20 an20 cd20 ct20 sl20)
  (c20:V2 K cd20 "Leaf.__init__"=true)
  (k20:VY K (.ref f20)=true)
  (p0:VE K Cl0 Str.empty=true)
  (q0:VF K Cl0=true)
  (r0:VL K Cl0=true)
  (s0:VG K (.ref Cl0) "__setattr__"=ag (ag (.builtin "object.__setattr__")))
  (n0_0:VG K (.ref Cl0) "name"=ag am)
  (n0_1:VG K (.ref Cl0) "value"=ag am)
  (m0:VO K Cl0=true)
  (kp0:VY K (.ref Cl0)=true)
  (p1:VE K Cl1 Str.empty=true)
  (q1:VF K Cl1=true)
  (r1:VL K Cl1=true)
  (s1:VG K (.ref Cl1) "__setattr__"=ag (ag (.builtin "object.__setattr__")))
  (n1_0:VG K (.ref Cl1) "name"=ag am)
  (m1:VO K Cl1=true)
  (kp1:VY K (.ref Cl1)=true)
  (p2:VE K Cl2 Str.empty=true)
  (q2:VF K Cl2=true)
  (r2:VL K Cl2=true)
  (s2:VG K (.ref Cl2) "__setattr__"=ag (ag (.builtin "object.__setattr__")))
  (n2_0:VG K (.ref Cl2) "many"=ag am)
  (n2_1:VG K (.ref Cl2) "name"=ag am)
  (m2:VO K Cl2=true)
  (kp2:VY K (.ref Cl2)=true)
  (p3:VE K Cl3 Str.empty=true)
  (q3:VF K Cl3=true)
  (r3:VL K Cl3=true)
  (s3:VG K (.ref Cl3) "__setattr__"=ag (ag (.builtin "object.__setattr__")))
  (n3_0:VG K (.ref Cl3) "name"=ag am)
  (m3:VO K Cl3=true)
  (kp3:VY K (.ref Cl3)=true)
  (p4:VE K Cl4 Str.empty=true)
  (q4:VF K Cl4=true)
  (r4:VL K Cl4=true)
  (s4:VG K (.ref Cl4) "__setattr__"=ag (ag (.builtin "object.__setattr__")))
  (n4_0:VG K (.ref Cl4) "name"=ag am)
  (n4_1:VG K (.ref Cl4) "by"=ag am)
  (n4_2:VG K (.ref Cl4) "quotient"=ag am)
  (n4_3:VG K (.ref Cl4) "rest"=ag am)
  (m4:VO K Cl4=true)
  (kp4:VY K (.ref Cl4)=true)
  (p5:VE K Cl5 Str.empty=true)
  (q5:VF K Cl5=true)
  (r5:VL K Cl5=true)
  (s5:VG K (.ref Cl5) "__setattr__"=ag (ag (.builtin "object.__setattr__")))
  (n5_0:VG K (.ref Cl5) "quotient"=ag am)
  (n5_1:VG K (.ref Cl5) "rest"=ag am)
  (n5_2:VG K (.ref Cl5) "by"=ag am)
  (n5_3:VG K (.ref Cl5) "name"=ag am)
  (m5:VO K Cl5=true)
  (kp5:VY K (.ref Cl5)=true)
  (p6:VE K Cl6 Str.empty=true)
  (q6:VF K Cl6=true)
  (r6:VL K Cl6=true)
  (s6:VG K (.ref Cl6) "__setattr__"=ag (ag (.builtin "object.__setattr__")))
  (n6_0:VG K (.ref Cl6) "old"=ag am)
  (n6_1:VG K (.ref Cl6) "new"=ag am)
  (m6:VO K Cl6=true)
  (kp6:VY K (.ref Cl6)=true)
  (p7:VE K Cl7 Str.empty=true)
  (q7:VF K Cl7=true)
  (r7:VL K Cl7=true)
  (s7:VG K (.ref Cl7) "__setattr__"=ag (ag (.builtin "object.__setattr__")))
  (n7_0:VG K (.ref Cl7) "name"=ag am)
  (n7_1:VG K (.ref Cl7) "kind"=ag am)
  (m7:VO K Cl7=true)
  (kp7:VY K (.ref Cl7)=true)
  (p8:VE K Cl8 Str.empty=true)
  (q8:VF K Cl8=true)
  (r8:VL K Cl8=true)
  (s8:VG K (.ref Cl8) "__setattr__"=ag (ag (.builtin "object.__setattr__")))
  (n8_0:VG K (.ref Cl8) "glass"=ag am)
  (n8_1:VG K (.ref Cl8) "step"=ag am)
  (m8:VO K Cl8=true)
  (kp8:VY K (.ref Cl8)=true)
  (p9:VE K Cl9 Str.empty=true)
  (q9:VF K Cl9=true)
  (r9:VL K Cl9=true)
  (s9:VG K (.ref Cl9) "__setattr__"=ag (ag (.builtin "object.__setattr__")))
  (n9_0:VG K (.ref Cl9) "one"=ag am)
  (n9_1:VG K (.ref Cl9) "other"=ag am)
  (n9_2:VG K (.ref Cl9) "pair"=ag am)
  (m9:VO K Cl9=true)
  (kp9:VY K (.ref Cl9)=true)
  (p10:VE K Cl10 Str.empty=true)
  (q10:VF K Cl10=true)
  (r10:VL K Cl10=true)
  (s10:VG K (.ref Cl10) "__setattr__"=ag (ag (.builtin "object.__setattr__")))
  (n10_0:VG K (.ref Cl10) "name"=ag am)
  (m10:VO K Cl10=true)
  (kp10:VY K (.ref Cl10)=true)
  (p11:VE K Cl11 Str.empty=true)
  (q11:VF K Cl11=true)
  (r11:VL K Cl11=true)
  (s11:VG K (.ref Cl11) "__setattr__"=ag (ag (.builtin "object.__setattr__")))
  (o11:VG K (.ref Cl11) "__init__"=ag (ag (.builtin "object.__init__")))
  (m11:VO K Cl11=true)
  (kp11:VY K (.ref Cl11)=true)
  (vsg:Wc K (.builtin "object.__class__") "__get__"=ag (ag (.builtin "getset_descriptor.__get__")))
  (vtk:Wd K (.builtin "object.__class__")=ag true)
  (vf8:VG K (.ref Cl8) "__class__"=ag (ag (.builtin "object.__class__")))
  (vm8:We K Cl8 (.type "object")=ag true)
  (vf9:VG K (.ref Cl9) "__class__"=ag (ag (.builtin "object.__class__")))
  (vm9:We K Cl9 (.type "object")=ag true)
  (vf10:VG K (.ref Cl10) "__class__"=ag (ag (.builtin "object.__class__")))
  (vm10:We K Cl10 (.type "object")=ag true)
  (vt8:VP K (.ref Cl8)=ag (.type "type"))
  (vi8:Wa K (.ref Cl8) (.type "type")=ag true)
  (yy8_8:Wf K (.ref Cl8) Cl8=true)
  (vs8_10:Wb K (.ref Cl10) (.ref Cl8)=ag false)
  (vn8_10:Cl10≠Cl8)
  (vs8_9:Wb K (.ref Cl9) (.ref Cl8)=ag false)
  (vn8_9:Cl9≠Cl8)
  (vt9:VP K (.ref Cl9)=ag (.type "type"))
  (vi9:Wa K (.ref Cl9) (.type "type")=ag true)
  (yy9_9:Wf K (.ref Cl9) Cl9=true)
  (vs9_10:Wb K (.ref Cl10) (.ref Cl9)=ag false)
  (vn9_10:Cl10≠Cl9)
  (vs9_8:Wb K (.ref Cl8) (.ref Cl9)=ag false)
  (vn9_8:Cl8≠Cl9)
  (xa0:V5 K W5 "NoText"=ag (ag (.ref Xl0)))
  (xa1:V5 K W5 "NoKey"=ag (ag (.ref Xl1)))
  (xa2:V5 K W5 "Twice"=ag (ag (.ref Xl2)))
  (xa3:V5 K W5 "NoKind"=ag (ag (.ref Xl3)))
  (xa4:V5 K W5 "NoForm"=ag (ag (.ref Xl4)))
  (xa5:V5 K W5 "Nothing"=ag (ag (.ref Xl5)))
  (xa6:V5 K W5 "NoTable"=ag (ag (.ref Xl6)))
  (xa7:V5 K W5 "NoField"=ag (ag (.ref Xl7)))
  (xa8:V5 K W5 "Torn"=ag (ag (.ref Xl8)))
  (xa9:V5 K W5 "Blind"=ag (ag (.ref Xl9)))
  (xa10:V5 K W5 "TooMany"=ag (ag (.ref Xl10)))
  (xa11:V5 K W5 "NoPane"=ag (ag (.ref Xl11)))
  (xa12:V5 K W5 "Stale"=ag (ag (.ref Xl12)))
  (xa13:V5 K W5 "GlassError"=ag (ag (.ref Xl13)))
  (xe0:OQ K Xl0 am=true)
  (xsg:Wc K (.builtin "object.__class__") "__get__"=ag (ag (.builtin "getset_descriptor.__get__")))
  (xtk:Wd K (.builtin "object.__class__")=ag true)
  (xg0:VG K (.ref Xl0) "__getattribute__"=ag (ag (.builtin "BaseException.__getattribute__")))
  (xn0:VG K (.ref Xl0) "__getattr__"=ag am)
  (xf0:VG K (.ref Xl0) "__class__"=ag (ag (.builtin "object.__class__")))
  (xb0:We K Xl0 (.type "BaseException")=ag true)
  (xo0:We K Xl0 (.type "object")=ag true)
  (xt0:VP K (.ref Xl0)=ag (.type "type"))
  (xo1:We K Xl1 (.type "object")=ag true)
  (xt1:VP K (.ref Xl1)=ag (.type "type"))
  (xo2:We K Xl2 (.type "object")=ag true)
  (xt2:VP K (.ref Xl2)=ag (.type "type"))
  (xo3:We K Xl3 (.type "object")=ag true)
  (xt3:VP K (.ref Xl3)=ag (.type "type"))
  (xo4:We K Xl4 (.type "object")=ag true)
  (xt4:VP K (.ref Xl4)=ag (.type "type"))
  (xo5:We K Xl5 (.type "object")=ag true)
  (xt5:VP K (.ref Xl5)=ag (.type "type"))
  (xo6:We K Xl6 (.type "object")=ag true)
  (xt6:VP K (.ref Xl6)=ag (.type "type"))
  (xo7:We K Xl7 (.type "object")=ag true)
  (xt7:VP K (.ref Xl7)=ag (.type "type"))
  (xo8:We K Xl8 (.type "object")=ag true)
  (xt8:VP K (.ref Xl8)=ag (.type "type"))
  (xo9:We K Xl9 (.type "object")=ag true)
  (xt9:VP K (.ref Xl9)=ag (.type "type"))
  (xo10:We K Xl10 (.type "object")=ag true)
  (xt10:VP K (.ref Xl10)=ag (.type "type"))
  (xo11:We K Xl11 (.type "object")=ag true)
  (xt11:VP K (.ref Xl11)=ag (.type "type"))
  (xo12:We K Xl12 (.type "object")=ag true)
  (xt12:VP K (.ref Xl12)=ag (.type "type"))
  (xo13:We K Xl13 (.type "object")=ag true)
  (xt13:VP K (.ref Xl13)=ag (.type "type"))
  (xw13:Wb K (.ref Xl13) (.type "BaseException")=ag true)
  (xm13_0:Wb K (.ref Xl0) (.ref Xl13)=ag true)
  (xk0_0:Wb K (.ref Xl0) (.ref Xl0)=ag true)
  (xk1_0:Wb K (.ref Xl0) (.ref Xl1)=ag false)
  (vnx1_0:Xl0≠Xl1)
  (xk2_0:Wb K (.ref Xl0) (.ref Xl2)=ag false)
  (vnx2_0:Xl0≠Xl2)
  (xk3_0:Wb K (.ref Xl0) (.ref Xl3)=ag false)
  (vnx3_0:Xl0≠Xl3)
  (xk4_0:Wb K (.ref Xl0) (.ref Xl4)=ag false)
  (vnx4_0:Xl0≠Xl4)
  (xk5_0:Wb K (.ref Xl0) (.ref Xl5)=ag false)
  (vnx5_0:Xl0≠Xl5)
  (xk6_0:Wb K (.ref Xl0) (.ref Xl6)=ag false)
  (vnx6_0:Xl0≠Xl6)
  (xk7_0:Wb K (.ref Xl0) (.ref Xl7)=ag false)
  (vnx7_0:Xl0≠Xl7)
  (xk8_0:Wb K (.ref Xl0) (.ref Xl8)=ag false)
  (vnx8_0:Xl0≠Xl8)
  (xk9_0:Wb K (.ref Xl0) (.ref Xl9)=ag false)
  (vnx9_0:Xl0≠Xl9)
  (xk10_0:Wb K (.ref Xl0) (.ref Xl10)=ag false)
  (vnx10_0:Xl0≠Xl10)
  (xk11_0:Wb K (.ref Xl0) (.ref Xl11)=ag false)
  (vnx11_0:Xl0≠Xl11)
  (xk12_0:Wb K (.ref Xl0) (.ref Xl12)=ag false)
  (vnx12_0:Xl0≠Xl12)
  (xv_ValueError_0:Wb K (.ref Xl0) (.type "ValueError")=ag true)
  (dd0:KDs K [("written",top 29),("shown",top 58),("is_letters",top 21),("is_name",top 22),("read_name",top 71),("read_word",top 73),("read_number",top 72),("read_value",top 70),("read_values",top 69),("read_pair",top 64),("taken",top 61),("taken_until",top 62),("are_words",top 26),("has_parts",top 23),("is_word_kind",top 25),("is_whole",top 20),("is_number_kind",top 24),("made_sieve",top 68),("made_step",top 66),("read_keep",top 67),("read_step",top 65),("read_glass",top 63),("words_of",top 60),("read",top 59),("_law_alone",top 84),("_law_read",top 83),("_law_name",top 77),("_law_no_step",top 80),("_law_cell_at",top 75),("_law_other",top 81)])
  (dd1:KDs K [("_law_spoilt",top 82),("_law_pick",top 76),("_law_step",top 78),("_law_text",top 79)])
  (zz:KZs K ["isinstance","str","tuple","len","all","int","zip","range","bool","list","reversed","ValueError","any"])
  (ke0:V5 K W5 "MOST_LETTERS"=ag (ag (.int 8 tk0)))
  (ke1:V5 K W5 "LETTERS"=ag (ag (.str "abcdefghijklmnopqrstuvwxyz" tk1)))
  (ke2:V5 K W5 "MOST_FIGURES"=ag (ag (.int 60 tk2)))
  (ke3:V5 K W5 "FIGURES"=ag (ag (.str "0123456789" tk3)))
  (ke4:V5 K W5 "MOST_WORDS"=ag (ag (.int 12 tk4)))
  (ke5:V5 K W5 "BRACKETS"=ag (ag (.str "()[]" tk5)))
  (da0:V5 K W5 "PAIRS"=ag (ag (.ref dA0)))
  (dl0:K.lookup dA0=ag {cls:=.type "dict",data:=.dict dE0 dP0})
  (dsx0:(dA0==sysModules)=false)
  (dex0:dE0.toList=([("join",dk0_0,dv0_0,[]),("gather",dk0_1,dv0_1,["name"])]:List (Str×Tok×WW×List Str)).map (Dp w))
  (dt0_0:K.lookup dv0_0=ag ⟨.type "tuple",do0_0,.seq di0_0 dn0_0,dz0_0⟩)
  (dxx0_0:di0_0.toList.map mC=([]:af).map (λx=>ag (V.str x)))
  (dt0_1:K.lookup dv0_1=ag ⟨.type "tuple",do0_1,.seq di0_1 dn0_1,dz0_1⟩)
  (dxx0_1:di0_1.toList.map mC=(["name"]:af).map (λx=>ag (V.str x)))
  (da1:V5 K W5 "STEPS"=ag (ag (.ref dA1)))
  (dl1:K.lookup dA1=ag {cls:=.type "dict",data:=.dict dE1 dP1})
  (dsx1:(dA1==sysModules)=false)
  (dex1:dE1.toList=([("rename",dk1_0,dv1_0,["name","name"]),("part",dk1_1,dv1_1,["name","number","name","name"]),("fuse",dk1_2,dv1_2,["name","name","number","name"]),("drop",dk1_3,dv1_3,["name","value"]),("sieve",dk1_4,dv1_4,["name","number","number"]),("nest",dk1_5,dv1_5,["number","name"]),("unnest",dk1_6,dv1_6,["name"])]:List (Str×Tok×WW×List Str)).map (Dp w))
  (dt1_0:K.lookup dv1_0=ag ⟨.type "tuple",do1_0,.seq di1_0 dn1_0,dz1_0⟩)
  (dxx1_0:di1_0.toList.map mC=(["name","name"]:af).map (λx=>ag (V.str x)))
  (dt1_1:K.lookup dv1_1=ag ⟨.type "tuple",do1_1,.seq di1_1 dn1_1,dz1_1⟩)
  (dxx1_1:di1_1.toList.map mC=(["name","number","name","name"]:af).map (λx=>ag (V.str x)))
  (dt1_2:K.lookup dv1_2=ag ⟨.type "tuple",do1_2,.seq di1_2 dn1_2,dz1_2⟩)
  (dxx1_2:di1_2.toList.map mC=(["name","name","number","name"]:af).map (λx=>ag (V.str x)))
  (dt1_3:K.lookup dv1_3=ag ⟨.type "tuple",do1_3,.seq di1_3 dn1_3,dz1_3⟩)
  (dxx1_3:di1_3.toList.map mC=(["name","value"]:af).map (λx=>ag (V.str x)))
  (dt1_4:K.lookup dv1_4=ag ⟨.type "tuple",do1_4,.seq di1_4 dn1_4,dz1_4⟩)
  (dxx1_4:di1_4.toList.map mC=(["name","number","number"]:af).map (λx=>ag (V.str x)))
  (dt1_5:K.lookup dv1_5=ag ⟨.type "tuple",do1_5,.seq di1_5 dn1_5,dz1_5⟩)
  (dxx1_5:di1_5.toList.map mC=(["number","name"]:af).map (λx=>ag (V.str x)))
  (dt1_6:K.lookup dv1_6=ag ⟨.type "tuple",do1_6,.seq di1_6 dn1_6,dz1_6⟩)
  (dxx1_6:di1_6.toList.map mC=(["name"]:af).map (λx=>ag (V.str x))):
  ∃fd:XD,(∀(s:WZ)(v:WU),XF s fd ⟨[v],[]⟩ [("_law_script",v)])/\∀base:W3,K.In base->base.Ns W5 mg->fw l.prog w K mg base (gj l.prog w) 25 fa fd ["_law_script"] (Bc K 1 (az ny 1 6)):=by
 have e:=hfa.symm.trans (Wl X G a9);cases e;have c_MOST_LETTERS:∃t,mg "MOST_LETTERS"=ag (.int 8 t):=⟨_,Wl X G ke0⟩
 have c_LETTERS:∃t,mg "LETTERS"=ag (.str "abcdefghijklmnopqrstuvwxyz" t):=⟨_,Wl X G ke1⟩
 have c_MOST_FIGURES:∃t,mg "MOST_FIGURES"=ag (.int 60 t):=⟨_,Wl X G ke2⟩
 have c_FIGURES:∃t,mg "FIGURES"=ag (.str "0123456789" t):=⟨_,Wl X G ke3⟩
 have c_MOST_WORDS:∃t,mg "MOST_WORDS"=ag (.int 12 t):=⟨_,Wl X G ke4⟩
 have c_BRACKETS:∃t,mg "BRACKETS"=ag (.str "()[]" t):=⟨_,Wl X G ke5⟩
 have KD_PAIRS:Ci l.prog w K mg "PAIRS" cE:=FK (L:=([("join",dk0_0,dv0_0,[]),("gather",dk0_1,dv0_1,["name"])]:List (Str×Tok×WW×List Str))) (Wl X G da0) dsx0 dl0 dex0 ⟨gi dt0_0 dxx0_0 rfl,gi dt0_1 dxx0_1 rfl,trivial⟩ (js rfl);have KD_STEPS:Ci l.prog w K mg "STEPS" dR:=FK (L:=([("rename",dk1_0,dv1_0,["name","name"]),("part",dk1_1,dv1_1,["name","number","name","name"]),("fuse",dk1_2,dv1_2,["name","name","number","name"]),("drop",dk1_3,dv1_3,["name","value"]),("sieve",dk1_4,dv1_4,["name","number","number"]),("nest",dk1_5,dv1_5,["number","name"]),("unnest",dk1_6,dv1_6,["name"])]:List (Str×Tok×WW×List Str))) (Wl X G da1) dsx1 dl1 dex1 ⟨gi dt1_0 dxx1_0 rfl,gi dt1_1 dxx1_1 rfl,gi dt1_2 dxx1_2 rfl,gi dt1_3 dxx1_3 rfl,gi dt1_4 dxx1_4 rfl,gi dt1_5 dxx1_5 rfl,gi dt1_6 dxx1_6 rfl,trivial⟩ (js rfl);have F0:=cW (st:=(inClass (top 31) 1)) l0 c0 k0;have F1:=cW (st:=(inClass (top 34) 0)) l1 c1 k1;have F2:=cW (st:=(inClass (top 36) 1)) l2 c2 k2;have F3:=cW (st:=(inClass (top 43) 1)) l3 c3 k3;have F4:=cW (st:=(inClass (top 44) 1)) l4 c4 k4;have F5:=cW (st:=(inClass (top 46) 1)) l5 c5 k5;have F6:=cW (st:=(inClass (top 47) 1)) l6 c6 k6;have F7:=cW (st:=(inClass (top 49) 1)) l7 c7 k7;have F8:=cW (st:=(inClass (top 51) 1)) l8 c8 k8;have F9:=cW (st:=(top 85)) l9 c9 k9;have F10:=cW (st:=(inClass (top 36) 0)) l10 c10 k10;have b10:=F10.binds (ps:=["self","name"]) λ_ _ _ _ _ _ us hl=>by obtain⟨u0,u1,rfl⟩:=FZ hl;rfl
 have F11:=cW (st:=(inClass (top 51) 0)) l11 c11 k11;have b11:=F11.binds (ps:=["self","name","kind"]) λ_ _ _ _ _ _ us hl=>by obtain⟨u0,u1,u2,rfl⟩:=xX hl;rfl
 have F12:=cW (st:=(inClass (top 49) 0)) l12 c12 k12;have b12:=F12.binds (ps:=["self","old","new"]) λ_ _ _ _ _ _ us hl=>by obtain⟨u0,u1,u2,rfl⟩:=xX hl;rfl
 have F13:=cW (st:=(inClass (top 46) 0)) l13 c13 k13;have b13:=F13.binds (ps:=["self","name","by","quotient","rest"]) λ_ _ _ _ _ _ us hl=>by obtain⟨u0,u1,u2,u3,u4,rfl⟩:=MY hl;rfl
 have F14:=cW (st:=(inClass (top 47) 0)) l14 c14 k14;have b14:=F14.binds (ps:=["self","quotient","rest","by","name"]) λ_ _ _ _ _ _ us hl=>by obtain⟨u0,u1,u2,u3,u4,rfl⟩:=MY hl;rfl
 have F15:=cW (st:=(inClass (top 31) 0)) l15 c15 k15;have b15:=F15.binds (ps:=["self","name","value"]) λ_ _ _ _ _ _ us hl=>by obtain⟨u0,u1,u2,rfl⟩:=xX hl;rfl
 have F16:=cW (st:=(inClass (top 43) 0)) l16 c16 k16;have b16:=F16.binds (ps:=["self","many","name"]) λ_ _ _ _ _ _ us hl=>by obtain⟨u0,u1,u2,rfl⟩:=xX hl;rfl
 have F17:=cW (st:=(inClass (top 44) 0)) l17 c17 k17;have b17:=F17.binds (ps:=["self","name"]) λ_ _ _ _ _ _ us hl=>by obtain⟨u0,u1,rfl⟩:=FZ hl;rfl
 have F18:=cW (st:=(inClass (top 40) 0)) l18 c18 k18;have b18:=F18.binds (ps:=["self","glass","step"]) λ_ _ _ _ _ _ us hl=>by obtain⟨u0,u1,u2,rfl⟩:=xX hl;rfl
 have F19:=cW (st:=(inClass (top 41) 0)) l19 c19 k19;have b19:=F19.binds (ps:=["self","one","other","pair"]) λ_ _ _ _ _ _ us hl=>by obtain⟨u0,u1,u2,u3,rfl⟩:=NI hl;rfl
 have F20:=cW (st:=(inClass (top 39) 0)) l20 c20 k20;have b20:=F20.binds (ps:=["self","name"]) λ_ _ _ _ _ _ us hl=>by obtain⟨u0,u1,rfl⟩:=FZ hl;rfl
 have cl0:iU K Cl0:=⟨p0,q0,r0,s0⟩
 have cl1:iU K Cl1:=⟨p1,q1,r1,s1⟩
 have cl2:iU K Cl2:=⟨p2,q2,r2,s2⟩
 have cl3:iU K Cl3:=⟨p3,q3,r3,s3⟩
 have cl4:iU K Cl4:=⟨p4,q4,r4,s4⟩
 have cl5:iU K Cl5:=⟨p5,q5,r5,s5⟩
 have cl6:iU K Cl6:=⟨p6,q6,r6,s6⟩
 have cl7:iU K Cl7:=⟨p7,q7,r7,s7⟩
 have cl8:iU K Cl8:=⟨p8,q8,r8,s8⟩
 have cl9:iU K Cl9:=⟨p9,q9,r9,s9⟩
 have cl10:iU K Cl10:=⟨p10,q10,r10,s10⟩
 have cl11:iU K Cl11:=⟨p11,q11,r11,s11⟩
 have qM:bB K "value" ["Drop"]:=by
  intro c hc C hC;simp only[UH,Ve,or_false]at hc;rcases hc with rfl
  ·cases aC hC ac0;exact⟨cl0,n0_1⟩
 have tR:bB K "name" ["Drop"]:=by
  intro c hc C hC;simp only[UH,Ve,or_false]at hc;rcases hc with rfl
  ·cases aC hC ac0;exact⟨cl0,n0_0⟩
 have qf:bB K "name" ["Gather"]:=by
  intro c hc C hC;simp only[UH,Ve,or_false]at hc;rcases hc with rfl
  ·cases aC hC ac1;exact⟨cl1,n1_0⟩
 have tL:bB K "name" ["Nest"]:=by
  intro c hc C hC;simp only[UH,Ve,or_false]at hc;rcases hc with rfl
  ·cases aC hC ac2;exact⟨cl2,n2_1⟩
 have ug:bB K "many" ["Nest"]:=by
  intro c hc C hC;simp only[UH,Ve,or_false]at hc;rcases hc with rfl
  ·cases aC hC ac2;exact⟨cl2,n2_0⟩
 have oX:bB K "name" ["Unnest"]:=by
  intro c hc C hC;simp only[UH,Ve,or_false]at hc;rcases hc with rfl
  ·cases aC hC ac3;exact⟨cl3,n3_0⟩
 have ud:bB K "rest" ["Part"]:=by
  intro c hc C hC;simp only[UH,Ve,or_false]at hc;rcases hc with rfl
  ·cases aC hC ac4;exact⟨cl4,n4_3⟩
 have mj:bB K "quotient" ["Part"]:=by
  intro c hc C hC;simp only[UH,Ve,or_false]at hc;rcases hc with rfl
  ·cases aC hC ac4;exact⟨cl4,n4_2⟩
 have x5:bB K "by" ["Part"]:=by
  intro c hc C hC;simp only[UH,Ve,or_false]at hc;rcases hc with rfl
  ·cases aC hC ac4;exact⟨cl4,n4_1⟩
 have uI:bB K "name" ["Part"]:=by
  intro c hc C hC;simp only[UH,Ve,or_false]at hc;rcases hc with rfl
  ·cases aC hC ac4;exact⟨cl4,n4_0⟩
 have uV:bB K "name" ["Fuse"]:=by
  intro c hc C hC;simp only[UH,Ve,or_false]at hc;rcases hc with rfl
  ·cases aC hC ac5;exact⟨cl5,n5_3⟩
 have xZ:bB K "by" ["Fuse"]:=by
  intro c hc C hC;simp only[UH,Ve,or_false]at hc;rcases hc with rfl
  ·cases aC hC ac5;exact⟨cl5,n5_2⟩
 have ue:bB K "rest" ["Fuse"]:=by
  intro c hc C hC;simp only[UH,Ve,or_false]at hc;rcases hc with rfl
  ·cases aC hC ac5;exact⟨cl5,n5_1⟩
 have lY:bB K "quotient" ["Fuse"]:=by
  intro c hc C hC;simp only[UH,Ve,or_false]at hc;rcases hc with rfl
  ·cases aC hC ac5;exact⟨cl5,n5_0⟩
 have qN:bB K "new" ["Rename"]:=by
  intro c hc C hC;simp only[UH,Ve,or_false]at hc;rcases hc with rfl
  ·cases aC hC ac6;exact⟨cl6,n6_1⟩
 have ri:bB K "old" ["Rename"]:=by
  intro c hc C hC;simp only[UH,Ve,or_false]at hc;rcases hc with rfl
  ·cases aC hC ac6;exact⟨cl6,n6_0⟩
 have qV:bB K "kind" ["Sieve"]:=by
  intro c hc C hC;simp only[UH,Ve,or_false]at hc;rcases hc with rfl
  ·cases aC hC ac7;exact⟨cl7,n7_1⟩
 have qZ:bB K "name" ["Sieve"]:=by
  intro c hc C hC;simp only[UH,Ve,or_false]at hc;rcases hc with rfl
  ·cases aC hC ac7;exact⟨cl7,n7_0⟩
 have uN:bB K "step" ["Over"]:=by
  intro c hc C hC;simp only[UH,Ve,or_false]at hc;rcases hc with rfl
  ·cases aC hC ac8;exact⟨cl8,n8_1⟩
 have qO:bB K "glass" ["Over"]:=by
  intro c hc C hC;simp only[UH,Ve,or_false]at hc;rcases hc with rfl
  ·cases aC hC ac8;exact⟨cl8,n8_0⟩
 have tP:bB K "pair" ["Both"]:=by
  intro c hc C hC;simp only[UH,Ve,or_false]at hc;rcases hc with rfl
  ·cases aC hC ac9;exact⟨cl9,n9_2⟩
 have qP:bB K "other" ["Both"]:=by
  intro c hc C hC;simp only[UH,Ve,or_false]at hc;rcases hc with rfl
  ·cases aC hC ac9;exact⟨cl9,n9_1⟩
 have wU:bB K "one" ["Both"]:=by
  intro c hc C hC;simp only[UH,Ve,or_false]at hc;rcases hc with rfl
  ·cases aC hC ac9;exact⟨cl9,n9_0⟩
 have cG:bB K "name" ["Drop","Gather","Leaf","Nest","Unnest","Part","Fuse","Sieve"]:=by
  intro c hc C hC;simp only[UH,Ve,or_false]at hc;rcases hc with rfl|rfl|rfl|rfl|rfl|rfl|rfl|rfl
  ·cases aC hC ac0;exact⟨cl0,n0_0⟩
  ·cases aC hC ac1;exact⟨cl1,n1_0⟩
  ·cases aC hC ac10;exact⟨cl10,n10_0⟩
  ·cases aC hC ac2;exact⟨cl2,n2_1⟩
  ·cases aC hC ac3;exact⟨cl3,n3_0⟩
  ·cases aC hC ac4;exact⟨cl4,n4_0⟩
  ·cases aC hC ac5;exact⟨cl5,n5_3⟩
  ·cases aC hC ac7;exact⟨cl7,n7_0⟩
 refine⟨V1 "law" "law" (iG (top 85)) (cO (top 85)) (ak (top 85)) .none kV9 dc9 pm9 an9 cd9 ct9,λs v=>.of_eq rfl,λbase _ _=>?_⟩;have Y_Over:wQ K mg "Over" ["Over"] ["Leaf","Both"]:=by
  refine⟨_,Wl X G ac8,λc hc D hD=>?_,λc hc D hD=>?_⟩<;>simp only[UH,Ve,or_false]at hc
  ·rcases hc with rfl;cases aC hD ac8;exact yy8_8
  ·rcases hc with rfl|rfl
   ·cases aC hD ac10;exact⟨cl10,⟨vn8_10,(by obtain⟨cd,hc,_⟩:=VN cl8.hd;rw[hc];rfl),vt8,vi8,vs8_10,vf10,vsg,vtk,vm10⟩⟩
   ·cases aC hD ac9;exact⟨cl9,⟨vn8_9,(by obtain⟨cd,hc,_⟩:=VN cl8.hd;rw[hc];rfl),vt8,vi8,vs8_9,vf9,vsg,vtk,vm9⟩⟩
 have Y_Both:wQ K mg "Both" ["Both"] ["Leaf","Over"]:=by
  refine⟨_,Wl X G ac9,λc hc D hD=>?_,λc hc D hD=>?_⟩<;>simp only[UH,Ve,or_false]at hc
  ·rcases hc with rfl;cases aC hD ac9;exact yy9_9
  ·rcases hc with rfl|rfl
   ·cases aC hD ac10;exact⟨cl10,⟨vn9_10,(by obtain⟨cd,hc,_⟩:=VN cl9.hd;rw[hc];rfl),vt9,vi9,vs9_10,vf10,vsg,vtk,vm10⟩⟩
   ·cases aC hD ac8;exact⟨cl8,⟨vn9_8,(by obtain⟨cd,hc,_⟩:=VN cl9.hd;rw[hc];rfl),vt9,vi9,vs9_8,vf8,vsg,vtk,vm8⟩⟩
 have E_NoText:ExcAt K mg "NoText":=⟨_,xa0,Wl X G xa0,xe0⟩
 have xK0:Av K Xl0:=⟨xg0,xn0,xf0,xsg,xtk,xo0,xb0⟩
 have T_GlassError:wM K mg "GlassError" ["NoText"]:=Fv (Wl X G xa13) (by
  intro c hc;simp only[UH,Ve,or_false]at hc;rcases hc with rfl
  ·exact⟨_,xa0,Jr xw13 xm13_0 xo13 xt13⟩)
 have CL:dE K mg "NoText" [("NoText",true)]:=⟨_,Wl X G xa0,cD xa0 xK0 (eD xk0_0 xo0 xt0 (.inl rfl)) du⟩
 have HZ:dE K mg "NoKey" [("NoText",false)]:=⟨_,Wl X G xa1,cD xa0 xK0 (eD xk1_0 xo1 xt1 (.inr vnx1_0)) du⟩
 have Ih:dE K mg "Twice" [("NoText",false)]:=⟨_,Wl X G xa2,cD xa0 xK0 (eD xk2_0 xo2 xt2 (.inr vnx2_0)) du⟩
 have D5:dE K mg "NoKind" [("NoText",false)]:=⟨_,Wl X G xa3,cD xa0 xK0 (eD xk3_0 xo3 xt3 (.inr vnx3_0)) du⟩
 have DV:dE K mg "NoForm" [("NoText",false)]:=⟨_,Wl X G xa4,cD xa0 xK0 (eD xk4_0 xo4 xt4 (.inr vnx4_0)) du⟩
 have AU:dE K mg "Nothing" [("NoText",false)]:=⟨_,Wl X G xa5,cD xa0 xK0 (eD xk5_0 xo5 xt5 (.inr vnx5_0)) du⟩
 have AX:dE K mg "NoTable" [("NoText",false)]:=⟨_,Wl X G xa6,cD xa0 xK0 (eD xk6_0 xo6 xt6 (.inr vnx6_0)) du⟩
 have B7:dE K mg "NoField" [("NoText",false)]:=⟨_,Wl X G xa7,cD xa0 xK0 (eD xk7_0 xo7 xt7 (.inr vnx7_0)) du⟩
 have Kv:dE K mg "Torn" [("NoText",false)]:=⟨_,Wl X G xa8,cD xa0 xK0 (eD xk8_0 xo8 xt8 (.inr vnx8_0)) du⟩
 have IM:dE K mg "Blind" [("NoText",false)]:=⟨_,Wl X G xa9,cD xa0 xK0 (eD xk9_0 xo9 xt9 (.inr vnx9_0)) du⟩
 have BP:dE K mg "TooMany" [("NoText",false)]:=⟨_,Wl X G xa10,cD xa0 xK0 (eD xk10_0 xo10 xt10 (.inr vnx10_0)) du⟩
 have Dw:dE K mg "NoPane" [("NoText",false)]:=⟨_,Wl X G xa11,cD xa0 xK0 (eD xk11_0 xo11 xt11 (.inr vnx11_0)) du⟩
 have GR:dE K mg "Stale" [("NoText",false)]:=⟨_,Wl X G xa12,cD xa0 xK0 (eD xk12_0 xo12 xt12 (.inr vnx12_0)) du⟩
 have V_ValueError:vP K (.type "ValueError") [("NoText",true)]:=cD xa0 xK0 (Lv xv_ValueError_0) (du);have N_Join:DX K mg "Join":=⟨_,ac11,⟨m11,o11,kp11⟩,Wl X G ac11⟩
 have E8:=vB (P:=l.prog) (w:=w) (base:=base) ac1 ⟨m1,a10,i10,kp1⟩ cl1 (by intro g hg;simp only[UH,Ve,or_false]at hg;rcases hg with rfl;exact n1_0) F10 b10 (Wl X G ac1);have Jg:=yg (P:=l.prog) (w:=w) (base:=base) ac7 ⟨m7,a11,i11,kp7⟩ cl7 (by intro g hg;simp only[UH,Ve,or_false]at hg;rcases hg with rfl|rfl<;>first|exact n7_0|exact n7_1) F11 b11 (Wl X G ac7);have C8:=wB (P:=l.prog) (w:=w) (base:=base) ac6 ⟨m6,a12,i12,kp6⟩ cl6 (by intro g hg;simp only[UH,Ve,or_false]at hg;rcases hg with rfl|rfl<;>first|exact n6_0|exact n6_1) F12 b12 (Wl X G ac6);have Mi:=A9 (P:=l.prog) (w:=w) (base:=base) ac4 ⟨m4,a13,i13,kp4⟩ cl4 (by intro g hg;simp only[UH,Ve,or_false]at hg;rcases hg with rfl|rfl|rfl|rfl<;>first|exact n4_0|exact n4_1|exact n4_2|exact n4_3) F13 b13 (Wl X G ac4);have Kt:=Az (P:=l.prog) (w:=w) (base:=base) ac5 ⟨m5,a14,i14,kp5⟩ cl5 (by intro g hg;simp only[UH,Ve,or_false]at hg;rcases hg with rfl|rfl|rfl|rfl<;>first|exact n5_0|exact n5_1|exact n5_2|exact n5_3) F14 b14 (Wl X G ac5);have Ld:=A6 (P:=l.prog) (w:=w) (base:=base) ac0 ⟨m0,a15,i15,kp0⟩ cl0 (by intro g hg;simp only[UH,Ve,or_false]at hg;rcases hg with rfl|rfl<;>first|exact n0_0|exact n0_1) F15 b15 (Wl X G ac0);have Mu:=As (P:=l.prog) (w:=w) (base:=base) ac2 ⟨m2,a16,i16,kp2⟩ cl2 (by intro g hg;simp only[UH,Ve,or_false]at hg;rcases hg with rfl|rfl<;>first|exact n2_0|exact n2_1) F16 b16 (Wl X G ac2);have C0:=wx (P:=l.prog) (w:=w) (base:=base) ac3 ⟨m3,a17,i17,kp3⟩ cl3 (by intro g hg;simp only[UH,Ve,or_false]at hg;rcases hg with rfl;exact n3_0) F17 b17 (Wl X G ac3);have LQ:=Bf (P:=l.prog) (w:=w) (base:=base) ac8 ⟨m8,a18,i18,kp8⟩ cl8 (by intro g hg;simp only[UH,Ve,or_false]at hg;rcases hg with rfl|rfl<;>first|exact n8_0|exact n8_1) F18 b18 (Wl X G ac8);have Lg:=AV (P:=l.prog) (w:=w) (base:=base) ac9 ⟨m9,a19,i19,kp9⟩ cl9 (by intro g hg;simp only[UH,Ve,or_false]at hg;rcases hg with rfl|rfl|rfl<;>first|exact n9_0|exact n9_1|exact n9_2) F19 b19 (Wl X G ac9);have LZ:=Bm (P:=l.prog) (w:=w) (base:=base) ac10 ⟨m10,a20,i20,kp10⟩ cl10 (by intro g hg;simp only[UH,Ve,or_false]at hg;rcases hg with rfl;exact n10_0) F20 b20 (Wl X G ac10)
 let u:U:=⟨l.prog,w,K,mg,base,(0:Nat),(0:Nat)⟩
 have q0:Q0 u:=⟨⟨⟨⟨⟨⟨⟨⟨⟨⟨⟨⟨⟨⟨⟨⟨⟨⟨⟨⟨⟨⟨⟨⟨⟨⟨⟨⟨⟨⟨⟨⟨⟨⟨⟨⟨⟨⟨⟨⟨⟨⟨⟨⟨⟨⟨⟨⟨⟨⟨⟨⟨⟨⟨⟨⟨⟨⟨⟨⟨⟨⟨⟨⟨⟨⟨⟨⟨⟨⟨⟨(O5.of X G (O5.of X G (Zs.of X G zz) dd0) dd1),c_MOST_LETTERS⟩,c_LETTERS⟩,c_MOST_FIGURES⟩,c_FIGURES⟩,c_MOST_WORDS⟩,c_BRACKETS⟩,KD_PAIRS⟩,KD_STEPS⟩,qM⟩,tR⟩,qf⟩,tL⟩,ug⟩,oX⟩,ud⟩,mj⟩,x5⟩,uI⟩,uV⟩,xZ⟩,ue⟩,lY⟩,qN⟩,ri⟩,qV⟩,qZ⟩,uN⟩,qO⟩,tP⟩,qP⟩,wU⟩,cG⟩,E8⟩,Jg⟩,C8⟩,Mi⟩,Kt⟩,Ld⟩,Mu⟩,C0⟩,LQ⟩,Lg⟩,LZ⟩,N_Join⟩,Y_Over⟩,Y_Both⟩,E_NoText⟩,T_GlassError⟩,CL⟩,HZ⟩,Ih⟩,D5⟩,DV⟩,AU⟩,AX⟩,B7⟩,Kv⟩,IM⟩,BP⟩,Dw⟩,GR⟩,V_ValueError⟩,⟨_,_,_,ac0,cl0,⟨a0,i0,k0⟩,F0⟩⟩,⟨_,_,_,ac11,cl11,⟨a1,i1,k1⟩,F1⟩⟩,⟨_,_,_,ac1,cl1,⟨a2,i2,k2⟩,F2⟩⟩,⟨_,_,_,ac2,cl2,⟨a3,i3,k3⟩,F3⟩⟩,⟨_,_,_,ac3,cl3,⟨a4,i4,k4⟩,F4⟩⟩,⟨_,_,_,ac4,cl4,⟨a5,i5,k5⟩,F5⟩⟩,⟨_,_,_,ac5,cl5,⟨a6,i6,k6⟩,F6⟩⟩,⟨_,_,_,ac6,cl6,⟨a7,i7,k7⟩,F7⟩⟩,⟨_,_,_,ac7,cl7,⟨a8,i8,k8⟩,F8⟩⟩
 exact ND (u:=u) F9 (R8 (SR (R6 (RY (RP (SF (RT (Sz (R5 (RW (RV (Su (RQ (Sv (Ss (SL (SK (SJ (R9 (SN (SH (S8 (RU (Sj (e20 (RL (SY (RN (SE (RH (S9 (RX (R4 (Pb (e10 (e9 (e8 (e7 (e6 (e5 (e4 (e3 (e2 (e1 q0))))))))))))))))))))))))))))))))))))))))))))
def walk{l:V4}{q:W1}{loose:af}{XP:(bN)->W3->Prop}{YP:W0->W3->Prop}{d:DefRec}{K:Params->VC}(hn:l.most=ag 63)(hdf:d.params.defaults=[])
  (hY:∀(w:W0)(h:W3),YP w h->(K w.params).In h)
  (F:∀ (w:W0) (mg:bN) (fa:WW) (h:W3),(K w.params).In h->h.Ns W5 mg->mg d.name=ag (.ref fa) ->
   ∃fd:XD,(∀(s:WZ)(u:WU),XF s fd ⟨[u],[]⟩ [("_law_script",u)])/\∀base:W3,(K w.params).In base->base.Ns W5 mg->fw l.prog w (K w.params) mg base (gj l.prog w) 25 fa fd ["_law_script"] (Bc (K w.params) 1 (az ny 1 6)))
  (math:∀ns:List Int,ns.length<=63->az ny 1 6 [.lst (ns.map .int)]=.ok (.bl true)):PySem.W.WalkO q loose XP YP l.row.toRowW d [] (λf vs=>PySem.call f vs):=
 L2.O6 (n:=63) (k:=25) (x:="_law_script") (CX:=λw=>gj l.prog w) (sp:=λw=>Bc (K w.params) 1 (az ny 1 6)) hn (by decide) hdf ⟨rfl,by decide,by decide⟩ hY F
  (λw H a ns hl _ hS=>⟨[],[.lst (ns.map .int)],rfl,⟨trivial,λa h=>nomatch h⟩,by rw[IQ];exact bP.mpr ⟨.ref a,[],rfl,cS.mpr ⟨a,_,rfl,hS,rT ns⟩,cZ.mpr rfl⟩,by rw[math ns hl];exact λv H' _ d=>iu.mp d⟩) λ_ _ _ _ _ z=>by obtain⟨_,_,_,_,_,_,_,_,_,_,_,_,_,_,z⟩:=z;exact z
end
section
open TG TD
local macro_rules|`(‹$x›)=>do if x.raw.isOfKind `num then Lean.Macro.throwUnsupported else `(ag (S.val $x))
local macro_rules
 |`(tactic| simp! only[$xs,*])=>`(tactic| simp only[gJ,zx,fA,vg,rE,jP,ge_0,Jj,sV,Ic,qI,lC,sK,tS,Jo,Hw,GJ,I0,HP,sY,uc,zG,lT,oG,tG,oq,yK,um,u5,oC,sL,lJ,uO,kZ,lK,jS,jN,tW,n6,jO,oK,lU,nR,nS,bS,lR,kG,jD,eX,kK,lE,oE,nN,IW,zv,HS,IZ,GQ,tI,oj,tu,nM,nY,IK,Hf,Vb,Vc,Tx,Ua,Ue,Uv,K0,env0,List.replicate,UT,TJ,U8,Nat.reduceAdd,Nat.reduceSub,Tw,UW,sM,sP,z9,uv,uQ,uZ,jI,uF,yN,yR,zC,uq,lh,lG,lQ,kR,jF,lV,vV,za,zj,yY,Aa,yQ,lS,lM,iH,iK,uK,jQ,iE,ir,ip,tE,tQ,iB,iD,lj,lH,nI,oh,kI,ou,sI,ux,oM,n5,gN,if_true,if_false,UZ,Vd,Ud,$xs,*])
abbrev ap(x:Str):bJ:=x.cps.toList
def mk(l:bJ):Str:=⟨l.toArray⟩
def pf(x:Str):mk (ap x)=x:=by cases x;rfl
def cf(l:bJ):ap (mk l)=l:=by unfold ap mk;simp
def aI{x y:Str}(h:ap x=ap y):x=y:=by rw[<-pf x,<-pf y,h]
def ao(x y:Str):ap (x++y)=ap x++ap y:=by
 show(x.cps++y.cps).toList=_;rw[Array.toList_append]
def aB(x:Str):x.length=(ap x).length:=by unfold ap Str.length;simp
def rp(c:Nat)(z:bJ)(l:bJ):bJ:=l.flatMap λk=>if k=c then z else[k]
def mD(c:Nat)(z a b:bJ):rp c z (a++b)=rp c z a++rp c z b:=by unfold rp;rw[Vf]
theorem uA(c:Nat)(z:bJ):∀l:bJ,c∉l->rp c z l=l
 |[],_=>rfl
 |k::r,h=>by
  have h1:¬k=c:=λe=>h (e ▸ Tj ..);have h2:c∉r:=λm=>h (Tl _ m);have ih:=uA c z r h2;unfold rp at ih ⊢;rw[Vg,br h1,ih];rfl
theorem zT(c:Nat)(z:Str):∀parts:af,(∀p∈parts,c∉ap p)->rp c (ap z) (ap (Str.join ⟨#[c]⟩ parts))=ap (Str.join z parts)
 |[],_=>rfl
 |[p],h=>uA c _ _ (h p (List.mem_singleton.mpr rfl))
 |p::q::r,h=>by
  have ih:=zT c z (q::r) λa ha=>h a (Tl _ ha);show rp c (ap z) (ap (p++⟨#[c]⟩++Str.join ⟨#[c]⟩ (q::r)))=ap (p++z++Str.join z (q::r));rw[ao,ao,ao,ao,mD,mD,ih,uA c _ _ (h p (Tj ..))];have e:rp c (ap z) (ap ⟨#[c]⟩)=ap z:=by
   show rp c (ap z) [c]=_;unfold rp;simp
  rw[e]
def yt(x z:Str)(c:Nat):ap (Txt.replace x ⟨#[c]⟩ z)=rp c (ap z) (ap x):=by
 rw[StrLaws.replace_one,<-zT c z _ (StrLaws.split_free x c),StrLaws.join_split]
def sp(B:bJ)(l:bJ):bJ:=l.flatMap λk=>if B.contains k then[32,k,32]else[k]
def mK(B a b:bJ):sp B (a++b)=sp B a++sp B b:=by unfold sp;rw[Vf]
def Ms(l:bJ):sp [] l=l:=by
 unfold sp
 induction l with
 |nil=>rfl
 |cons k r ih=>rw[Vg,ih];rfl
def ua(B:bJ)(l:bJ):(sp B l).length<=3*l.length:=by
 unfold sp
 induction l with
 |nil=>exact Tt _
 |cons k r ih=>
  rw[Vg,T1,Tw];split
  ·show 3+_<=_;omega
  ·show 1+_<=_;omega
def N3{B:bJ}{c:Nat}(hc:B.contains c=false)(h32:c≠32)(l:bJ):rp c [32,c,32] (sp B l)=sp (c::B) l:=by
 induction l with
 |nil=>rfl
 |cons k r ih=>
  have e1:sp B (k::r)=(if B.contains k then[32,k,32]else[k])++sp B r:=rfl;have e2:sp (c::B) (k::r)=(if(c::B).contains k then[32,k,32]else[k])++sp (c::B) r:=rfl;rw[e1,e2,mD,ih];congr 1;by_cases hk:k=c
  ·subst hk;rw[hc,br Tq,ba (by simp)];unfold rp;simp
  ·have hz:(c::B).contains k=B.contains k:=by
    rw[UO]
    have:(k==c)=false:=(by simpa using hk);rw[this,Bool.false_or]
   rw[hz];split
   ·unfold rp;simp[hk,Ne.symm h32]
   ·unfold rp;simp[hk]
abbrev BR:bJ:=[93,91,41,40]
def GV(c:Nat):ap (tY ⟨#[c]⟩)=[32,c,32]:=by
 unfold tY;rw[ao,ao];have e:ap (" ":Str)=[32]:=by decide
 rw[e];rfl
def jJ{B:bJ}{c:Nat}{cs:bJ}{y:Str}(hc:B.contains c=false)(h32:c≠32)(h:y.length<=30000):iW (c::cs) (mk (sp B (ap y)))=iW cs (mk (sp (c::B) (ap y))):=by
 have hl:(mk (sp B (ap y))).length<=100000:=by
  rw[aB,cf]
  have:=ua B (ap y)
  rw[<-aB]at this;omega
 have e:Txt.replace (mk (sp B (ap y))) ⟨#[c]⟩ (tY ⟨#[c]⟩)=mk (sp (c::B) (ap y)):=aI (by rw[yt,GV,cf,N3 hc h32,cf]);show(if(mk (sp B (ap y))).length<=100000 then iW cs (Txt.replace (mk (sp B (ap y))) ⟨#[c]⟩ (tY ⟨#[c]⟩))else am)=_;rw[ba hl,e]
def Sx:("()[]":Str).cps.toList=[40,41,91,93]:=by decide
def GB{y:Str}(h:y.length<=30000):iW ("()[]":Str).cps.toList y=ag (mk (sp BR (ap y))):=by
 rw[Sx];have e:y=mk (sp [] (ap y)):=by rw[Ms,pf]
 conv=>lhs;rw[e]
 rw[jJ (by decide) (by decide) h,jJ (by decide) (by decide) h,jJ (by decide) (by decide) h,jJ (by decide) (by decide) h];rfl
abbrev Sc:=List Str×Str
def flush(st:Sc):af:=if st.2.length=0 then st.1 else st.1++[st.2]
def sc(st:Sc)(l:bJ):Sc:=l.foldl KWd.step st
def mP(st:Sc)(a b:bJ):sc st (a++b)=sc (sc st a) b:=List.foldl_append
def NB:Unicode.isSpace 32=true:=by decide
def EG(st:Sc)(l:bJ):sc st (32::l)=sc (flush st,Str.empty) l\/(st.2.length=0/\sc st (32::l)=sc st l):=by
 show sc (KWd.step st 32) l=_\/_;unfold KWd.step;rw[ba NB];by_cases h:st.2.length=0
 ·right;refine⟨h,?_⟩;show sc (KWd.step st 32) l=_;unfold KWd.step;rw[ba NB,ba h]
 ·left;rw[br h];unfold flush;rw[br h]
def xY{x:Str}(h:x.length=0):x=Str.empty:=aI (by
 rw[aB]at h;rw[List.length_eq_zero_iff.mp h];rfl)
def wZ(st:Sc)(l:bJ):sc st (32::l)=sc (flush st,Str.empty) l:=by
 rcases EG st l with h|⟨h,e⟩
 ·exact h
 ·rw[e]
  have:(flush st,Str.empty)=st:=by
   obtain⟨a,b⟩:=st;have hb:=xY h;subst hb;unfold flush;rw[ba h]
  rw[this]
structure j8(x:Str):Prop where
 ne:ap x≠[]
 sg:∀c∈ap x,Unicode.isSpace c=false/\BR.contains c=false
def Jq{x:bJ}(h:∀c∈x,BR.contains c=false):sp BR x=x:=by
 induction x with
 |nil=>rfl
 |cons c r ih=>
  have e:sp BR (c::r)=(if BR.contains c then[32,c,32]else[c])++sp BR r:=rfl;rw[e,h c Tj,br Tq,ih λd hd=>h d (Tl _ hd)];rfl
theorem zg:∀{x:bJ}{ws:af}{r:Str},(∀c∈x,Unicode.isSpace c=false)->sc (ws,r) x=(ws,r++mk x)
 |[],ws,r,_=>by
  show(ws,r)=_
  have:r++mk []=r:=aI (by rw[ao,cf,TJ])
  rw[this]
 |c::x,ws,r,h=>by
  show sc (KWd.step (ws,r) c) x=_;unfold KWd.step;rw[h c Tj,br Tq,zg λd hd=>h d (Tl _ hd)]
  have:r++⟨#[c]⟩++mk x=r++mk (c::x):=aI (by rw[ao,ao,ao,cf,cf,UC];rfl)
  rw[this]
def Pc(l:bJ)(ws:af):Prop:=∀us:af,flush (sc (us,Str.empty) (sp BR l))=us++ws
def kL{x:Str}(h:j8 x):Pc (ap x) [x]:=λus=>by
 rw[Jq λc hc=>(h.sg c hc).2,zg λc hc=>(h.sg c hc).1];have e:Str.empty++mk (ap x)=x:=by rw[pf];exact aI (by rw[ao];rfl)
 rw[e];unfold flush;rw[br];rw[aB];intro z;exact h.ne (List.length_eq_zero_iff.mp z)
def kF{a b:bJ}{ws vs:af}(h:Pc a ws)(k:Pc b vs):Pc (a++32::b) (ws++vs):=λus=>by
 rw[mK];have e:sp BR (32::b)=32::sp BR b:=rfl;rw[e,mP,wZ,h us,k,UC]
def vR{c d:Nat}{a:bJ}{ws:af}(hc:BR.contains c=true)(hd:BR.contains d=true)(nc:Unicode.isSpace c=false)(nd:Unicode.isSpace d=false)(h:Pc a ws):Pc (c::(a++[d])) (⟨#[c]⟩::(ws++[⟨#[d]⟩])):=λus=>by
 have e1:sp BR (c::(a++[d]))=[32,c,32]++(sp BR a++[32,d,32]):=by
  have z:sp BR (c::(a++[d]))=(if BR.contains c then[32,c,32]else[c])++sp BR (a++[d]):=rfl;rw[z,hc,ba rfl,mK];have z2:sp BR [d]=(if BR.contains d then[32,d,32]else[d])++[]:=rfl;rw[z2,hd,ba rfl];rfl
 have one:∀{u:Nat}{st:Sc}{l:bJ},Unicode.isSpace u=false->sc st (32::u::32::l)=sc (flush st++[⟨#[u]⟩],Str.empty) l:=λ{u st l} hu=>by
  rw[wZ];show sc (KWd.step (flush st,Str.empty) u) (32::l)=_;unfold KWd.step;rw[hu,br Tq,wZ];have e:Str.empty++⟨#[u]⟩=(⟨#[u]⟩:Str):=aI (by rw[ao];rfl);rw[e];rfl
 rw[e1];show flush (sc (us,Str.empty) (32::c::32::(sp BR a++[32,d,32])))=_;rw[one nc,mP,one nd];have f0:flush (us,Str.empty)=us:=rfl;rw[f0,h];show flush (us++[⟨#[c]⟩]++ws++[⟨#[d]⟩],Str.empty)=_;show us++[⟨#[c]⟩]++ws++[⟨#[d]⟩]=_;simp
def CI{y:Str}{ws:af}(h:Pc (ap y) ws):Txt.words (mk (sp BR (ap y)))=ws:=by
 have e:KWd.scan (mk (sp BR (ap y)))=sc ([],Str.empty) (sp BR (ap y)):=by
  unfold KWd.scan sc
  have:(mk (sp BR (ap y))).cps.toList=sp BR (ap y):=cf _
  rw[this]
 have w:=KWd.words_of (x:=mk (sp BR (ap y))) (ws:=(sc ([],Str.empty) (sp BR (ap y))).1) (r:=(sc ([],Str.empty) (sp BR (ap y))).2) e;rw[w]
 have:=h []
 unfold flush at this;rw[Uv]at this;exact this
section
variable{k:Ks}{ρ:aq}{i j:Nat}{F:qK}{f:FX}{d:D}{xs ys:List D}{A B:bz}{c:bL}{b:Bool}
def vX(h:F ρ=.ok (d,ys)):dQ i j F k ρ=k.nx (setV i d (ρ.set j (ag (.own (.lst ys))))):=by unfold dQ;rw[h]
def vW(h:F ρ=.ok (d,ys))(e:ρ[j]?=ag (ag (.own (.lst xs)))):gr j F k ρ=.ok (.tup [d,.lst ys]):=by
 unfold gr;rw[h];exact fI e
def yH(h:f ρ=.ok d)(e:ρ[j]?=ag (ag (.own (.lst xs)))):je j f k ρ=.ok (.tup [d,.lst xs]):=by
 unfold je;rw[h,fA];exact fI e
def M4{u:List D->List D->Option (List D)}{fs:aQ}{ds:List D}(e:ρ[i]?=ag (ag (.own (.lst xs))))(h:fs ρ=.ok ds)(hu:u xs ds=ag ys):Cd i u fs k ρ=k.nx (ρ.set i (ag (.own (.lst ys)))):=by
 unfold Cd;rw[e];show kE (fs ρ) k ρ _=_;rw[h,fA,hu];rfl
def nG(e:c ρ=.ok b):aF (fq c A bU) B k ρ=if b then A {k with nx:=B k} ρ else B k ρ:=by
 rw[bS,jD,e,fA];rfl
def N7(e:ρ[j]?=ag (ag (.own (.lst xs)))):j5 i j A k ρ=A k (frz i ρ):=by unfold j5;rw[fI e]
end
def Es(xs:List D)(x:D):DY (xs++[x])=.ok (x,xs):=by
 unfold DY;rw[List.getLast?_concat,List.dropLast_concat]
def DN(xs:List D)(x:D):hW cu 1 1 [.lst (xs++[x])]=.ok (.tup [x,.lst xs]):=by
 have e:(xs++[x]).isEmpty=false:=by cases xs<;>rfl
 have e1:mL [0] (fV (bW (ae 0))) [ag (.own (.lst (xs++[x])))]=.ok false:=by
  show Jw ((rO (ag (!(xs++[x]).isEmpty))).bind λb=>.ok (!b))=_;rw[e];rfl
 show cu K0 [ag (.own (.lst (xs++[x])))]=_;unfold cu;rw[nG e1,br Tq];exact vW (xs:=xs++[x]) ((fI rfl).trans (Es xs x)) rfl
def bX{ρ:aq}{xs:List D}{x:D}(h:ρ[0]?=ag (ag (.own (.lst (xs++[x]))))):bO 0 (hW cu 1 1) aj ρ=.ok (x,xs):=by
 unfold bO;rw[fI h];show dec (hW cu 1 1 [.lst (xs++[x])])=_;rw[DN];rfl
abbrev uW:bL:=fB (f2 xr (ae 3) (ae 1))
abbrev uB:bz:=aF (Cd 2 tU (aa (ae 3) aj)) (dQ 3 0 (bO 0 (hW cu 1 1) aj))
def uE(l:List D)(e:Str)(acc:List D)(w:Str):aq:=[ag (.own (.lst l)),‹.str e›,ag (.own (.lst acc)),‹.str w›]
def Dv(l:List D)(e:Str)(acc:List D)(w:Str):uW (uE l e acc w)=.ok (!(w==e)):=by
 show(rO (xr (.str w) (.str e))).bind (λd=>rO (OD d))=_;rw[jF];rfl
theorem pL(e:Str)(k:Ks):∀(ws:af)(n:Nat)(rest acc:List D),ws.length<n->(∀w∈ws,w≠e)->acc.length+ws.length<=20000->∀(w0:Str)(ws0:af),w0::ws0=ws++[e]->
  dM uW uB k n (uE (rest++(ws0.map D.str).reverse) e acc w0)=k.nx (uE rest e (acc++ws.map D.str) e)
 |[],n,rest,acc,hn,hw,hl,w0,ws0,h=>by
  obtain⟨rfl,rfl⟩:=List.cons.inj h;cases n with
  |zero=>exact bt hn (Vh _)
  |succ n=>
   show kE (uW _) k _ _=_;rw[Dv,beq_self_eq_true,fA];show k.nx _=_;simp
 |w::ws,n,rest,acc,hn,hw,hl,w0,ws0,h=>by
  obtain⟨rfl,h2⟩:=List.cons.inj h;cases n with
  |zero=>exact bt hn (Vh _)
  |succ n=>
   obtain⟨w1,ws1,h3⟩:∃w1 ws1,w1::ws1=ws++[e]:=by
    cases ws with
    |nil=>exact⟨e,[],rfl⟩
    |cons a b=>exact⟨a,b++[e],rfl⟩
   rw[Tw]at hn hl;have ne:(w0==e)=false:=(by simpa using hw w0 Tj);show kE (uW _) k _ _=_;rw[Dv,ne,fA];show uB _ _=_;have ha:tU acc [.str w0]=ag (acc++[.str w0]):=by
    show(if small (acc.length+1)then ag (acc++[D.str w0])else am)=_;rw[cm ‹0›];rfl
   unfold uB;rw[bS,M4 (xs:=acc) (ds:=[.str w0]) rfl rfl ha];have h2:ws0=ws++[e]:=h2;have hx:rest++(ws0.map D.str).reverse=(rest++(ws1.map D.str).reverse)++[.str w1]:=by
    rw[h2,<-h3,Tx,T8,UC]
   show dQ 3 0 (bO 0 (hW cu 1 1) aj) _ [ag (.own (.lst (rest++(ws0.map D.str).reverse))),‹.str e›,ag (.own (.lst (acc++[.str w0]))),‹.str w0›]=_;rw[hx,vX (bX rfl)];have ih:=pL e k ws n rest (acc++[.str w0]) ‹0› (λx hx=>hw x (Tl _ hx)) (by rw[T1];show acc.length+1+_<=_;omega) w1 ws1 h3;rw[Tx,<-List.append_cons]at *;exact ih
def li(e:Str)(ws:af)(rest:List D)(hw:∀w∈ws,w≠e)(hl:ws.length<=10000):hW aJ 2 4 [.lst (rest++((ws++[e]).map D.str).reverse),.str e]=.ok (.tup [.lst (ws.map D.str),.lst rest]):=by
 obtain⟨w0,ws0,h⟩:∃w0 ws0,w0::ws0=ws++[e]:=by
  cases ws with
  |nil=>exact⟨e,[],rfl⟩
  |cons a b=>exact⟨a,b++[e],rfl⟩
 have hx:rest++((ws++[e]).map D.str).reverse=(rest++(ws0.map D.str).reverse)++[.str w0]:=by
  rw[<-h,Tx,T8,UC]
 rw[hx];show aJ K0 [ag (.own (.lst ((rest++(ws0.map D.str).reverse)++[.str w0]))),‹.str e›,am,am]=_;unfold aJ;have nw:∀(B:bz)(ρ:aq),aF (mh 2 (dP aj)) B K0 ρ=B K0 (ρ.set 2 (ag (.own (.lst [])))):=λ_ _=>rfl;rw[nw,bS,vX (bX (xs:=rest++(ws0.map D.str).reverse) (x:=.str w0) rfl)];show aF (jf 20000 uW uB) _ K0 (uE (rest++(ws0.map D.str).reverse) e [] w0)=_;rw[bS];show dM uW uB _ 20000 _=_;rw[pL e _ ws 20000 rest [] ‹0› hw (by simp;omega) w0 ws0 h];show j5 2 0 (je 0 (ae 2)) K0 (uE rest e ([]++ws.map D.str) e)=_;rw[N7 (xs:=rest) rfl,Uv];exact yH (xs:=rest) rfl rfl
abbrev nT:R D:=.error (ag ⟨"NoText",[],[]⟩)
def Em:hW cu 1 1 [.lst []]=nT:=by
 have e1:mL [0] (fV (bW (ae 0))) [ag (.own (.lst []))]=.ok true:=rfl;show cu K0 [ag (.own (.lst []))]=_;unfold cu;rw[nG e1,ba rfl];rfl
def fO{ρ:aq}(h:ρ[0]?=ag (ag (.own (.lst [])))):bO 0 (hW cu 1 1) aj ρ=.error (ag ⟨"NoText",[],[]⟩):=by
 unfold bO;rw[fI h];show dec (hW cu 1 1 [.lst []])=_;rw[Em];rfl
def xC{k:Ks}{ρ:aq}{i j:Nat}{F:qK}{x:Ex}(h:F ρ=.error (ag x)):dQ i j F k ρ=k.ex x (ρ.set j am):=by unfold dQ;rw[h]
theorem qG(e:Str)(k:Ks)(hk:∀x ρ,k.ex x ρ=.error (ag x)):∀(ws:af)(n:Nat)(acc:List D),ws.length<n->(∀w∈ws,w≠e)->acc.length+ws.length<=20000->∀(w0:Str)(ws0:af),w0::ws0=ws->
  dM uW uB k n (uE (ws0.map D.str).reverse e acc w0)=nT
 |[],n,acc,hn,hw,hl,w0,ws0,h=>nomatch h
 |w::ws,n,acc,hn,hw,hl,w0,ws0,h=>by
  obtain⟨rfl,h2⟩:=List.cons.inj h;cases n with
  |zero=>exact bt hn (Vh _)
  |succ n=>
   rw[Tw]at hn hl;have ne:(w0==e)=false:=(by simpa using hw w0 Tj);show kE (uW _) k _ _=_;rw[Dv,ne,fA];show uB _ _=_;have ha:tU acc [.str w0]=ag (acc++[.str w0]):=by
    show(if small (acc.length+1)then ag (acc++[D.str w0])else am)=_;rw[cm ‹0›];rfl
   unfold uB;rw[bS,M4 (xs:=acc) (ds:=[.str w0]) rfl rfl ha];subst h2;cases ws0 with
   |nil=>
    show dQ 3 0 (bO 0 (hW cu 1 1) aj) _ [ag (.own (.lst [])),‹.str e›,ag (.own (.lst (acc++[.str w0]))),‹.str w0›]=_;rw[xC (fO rfl)];exact hk _ _
   |cons w1 ws1=>
    have hx:((w1::ws1).map D.str).reverse=(ws1.map D.str).reverse++[.str w1]:=(by rw[Tx,T8]);show dQ 3 0 (bO 0 (hW cu 1 1) aj) _ [ag (.own (.lst ((w1::ws1).map D.str).reverse)),‹.str e›,ag (.own (.lst (acc++[.str w0]))),‹.str w0›]=_;rw[hx,vX (bX rfl)];exact qG e k hk (w1::ws1) n (acc++[.str w0]) ‹0› (λx hx=>hw x (Tl _ hx)) (by rw[T1];show acc.length+1+_<=_;omega) w1 ws1 rfl
def EJ(e:Str)(ws:af)(hw:∀w∈ws,w≠e)(hl:ws.length<=10000):hW aJ 2 4 [.lst (ws.map D.str).reverse,.str e]=nT:=by
 show aJ K0 [ag (.own (.lst (ws.map D.str).reverse)),‹.str e›,am,am]=_;unfold aJ;have nw:∀(B:bz)(ρ:aq),aF (mh 2 (dP aj)) B K0 ρ=B K0 (ρ.set 2 (ag (.own (.lst [])))):=λ_ _=>rfl;rw[nw,bS];cases ws with
 |nil=>
  rw[Ua,List.reverse_nil,xC (fO rfl)];rfl
 |cons w0 ws0=>
  have hx:((w0::ws0).map D.str).reverse=(ws0.map D.str).reverse++[.str w0]:=by rw[Tx,T8]
  rw[hx,vX (bX (xs:=(ws0.map D.str).reverse) (x:=.str w0) rfl)];show aF (jf 20000 uW uB) _ K0 (uE (ws0.map D.str).reverse e [] w0)=_;rw[bS];show dM uW uB _ 20000 _=_;exact qG e _ (λ_ _=>rfl) (w0::ws0) 20000 [] ‹0› hw (by simp at hl ⊢;omega) w0 ws0 rfl
def rk(e:Str)(ws:af)(hl:ws.length<=10000):hW aJ 2 4 [.lst (ws.map D.str).reverse,.str e]=nT\/∃us rest,ws=us++e::rest/\hW aJ 2 4 [.lst (ws.map D.str).reverse,.str e]=.ok (.tup [.lst (us.map D.str),.lst (rest.map D.str).reverse]):=by
 by_cases h:e∈ws
 ·right;obtain⟨us,rest,rfl,hn⟩:=List.eq_append_cons_of_mem h;refine⟨us,rest,rfl,?_⟩
  have:=li e us (rest.map D.str).reverse (λw hw z=>hn (z ▸ hw)) (by rw[T1]at hl;omega)
  rw[<-this];congr 3;rw[show us++e::rest=(us++[e])++rest by simp,Uw,Vi]
 ·exact .inl (EJ e ws (λw hw z=>h (z ▸ hw)) hl)
noncomputable def LS:Str:="abcdefghijklmnopqrstuvwxyz"
def LT:bJ:=LS.cps.toList
def yB:LT.length=26:=by decide +kernel
def LY:LS.length=26:=by decide +kernel
noncomputable def lt(i:Int):Nat:=LT.getD i.toNat 0
noncomputable def IT(n:Nat):Str:=⟨#[n]⟩
def N4(i:Int)(h0:0<=i)(h1:i<26):aX (.str LS) (.int i)=ag (.str (IT (lt i))):=by
 have hl:=LY;have e:aX (.str LS) (.int i)=if small LS.length then(j6 LS.cps.toList i).bind λc=>ag (D.str ⟨#[c]⟩)else none:=rfl
 rw[e,cm ‹0›,ba rfl,u9 h0 (by show i<(LT.length:Int);rw[yB];omega)];show ag _=ag _;congr 1;show D.str ⟨#[_]⟩=D.str ⟨#[LT.getD i.toNat 0]⟩;rw[U9,Um (by rw[yB];omega)];rfl
theorem Pm(i:Int):xq "int" (.int i)=ag (.bl true):=nr rfl
theorem QA(i:Int):xq "bool" (.int i)=ag (.bl false):=nr rfl
theorem C4(w:Str):xq "str" (.str w)=ag (.bl true):=nr rfl
theorem Fj(xs:List D):xq "tuple" (.tup xs)=ag (.bl true):=nr rfl
def parts(xs:List D)(m:Int):az cI 2 2 [.tup xs,.int m]=.ok (.bl ((xs.length:Int)==m)):=by
 rw[bb];unfold cI;simp! only[Fj,Bool.true_and]
def whole(i:Int):az fF 1 1 [.int i]=.ok (.bl true):=by
 rw[aG];unfold fF;simp! only[Pm,QA,Vj]
def RE(a b c:D):az cI 2 2 [.tup [a,b,c],.int 3]=.ok (.bl true):=parts _ _
def Sq(a b:D):az cI 2 2 [.tup [a,b],.int 3]=.ok (.bl false):=parts _ _
def Rw(a b:D):az cI 2 2 [.tup [a,b],.int 2]=.ok (.bl true):=parts _ _
def SZ(a b c:D):az cI 2 2 [.tup [a,b,c],.int 2]=.ok (.bl false):=parts _ _
def HC{lo hi:Int}(h:lo<=hi):az bG 1 1 [.tup [.str "number",.int lo,.int hi]]=.ok (.bl true):=by
 have e:decide (lo<=hi)=true:=by simp[h]
 rw[aG];unfold bG;simp! only[RE,whole,BEq.rfl,e,Vj]
def wt(x:D):az bG 1 1 [.tup [.str "word",x]]=.ok (.bl false):=by
 rw[aG];unfold bG;simp! only[Sq]
def Hz:(LT.all λn=>yD LS ⟨#[n]⟩)=true:=by decide +kernel
theorem tX:∀bs:List Bool,allB (bs.map .bl)=ag (bs.all id)
 |[]=>rfl
 |b::bs=>by
  show(allB (bs.map .bl)).bind (λc=>ag (b&&c))=_;rw[tX bs];rfl
def jk{α:Type}(xs:List α):qQ [.lst (xs.map λ_=>.bl true)]=ag (.bl true):=by
 have e:qQ [.lst ((xs.map λ_=>true).map .bl)]=(allB ((xs.map λ_=>true).map .bl)).bind λb=>ag (D.bl b):=rfl;rw[U7]at e;refine e.trans ?_;have e2:((xs.map λ_=>true).all id)=true:=by rw[List.all_eq_true];intro x hx;obtain⟨_,_,rfl⟩:=List.mem_map.mp hx;rfl
 have e3:=tX (xs.map λ_=>true);rw[U7,e2]at e3;rw[e3];rfl
def gg(x:Str)(few:Int)(h1:few<=x.length)(h2:x.length<=8)(hx:∀n∈x.cps.toList,n∈LT):az bH 2 2 [.str x,.int few]=.ok (.bl true):=by
 have e1:decide (few<=(x.length:Int))=true:=by simp[h1]
 have e2:decide ((x.length:Int)<=8)=true:=by simp;omega
 have el:fz [.str x]=ag (.int x.length):=by show(if small x.length then _ else _)=_;rw[cm ‹0›];rfl
 have f0:kD [am] (gO (ae 0)) (gN 0) eF (f2 qE (ae 0) (fC (.str LS))) [‹.str x›,‹.int few›]=.ok (.lst (x.cps.toList.map λ_=>.bl true)):=by
  refine gI (ds:=y9 x) rfl (by unfold y9;rw[Tz];show x.cps.toList.length<=_;rw[Array.length_toList];have:x.cps.size=x.length:=rfl;omega) ?_;unfold y9;refine gC (λn=>D.str ⟨#[n]⟩) _ _ λn hn=>⟨_,rfl,rfl,?_⟩
  have:=List.all_eq_true.mp Hz n (hx n hn)
  have e:qE (.str ⟨#[n]⟩) (.str LS)=ag (.bl true):=by show ag (D.bl (yD LS ⟨#[n]⟩))=_;rw[this]
  simp! only[e]
 rw[bb];unfold bH;simp! only[show("abcdefghijklmnopqrstuvwxyz":Str)=LS from rfl,C4,el,e1,e2,Vj,f0,jk]
def Mq(i:Int)(h0:0<=i)(h1:i<26):lt i∈LT:=by
 unfold lt;rw[U9,Um (by rw[yB];omega)];exact Vk _
def Lw(x:Str):Prop:=x.length<=8/\∀n∈x.cps.toList,n∈LT
def Up(ws:af):Prop:=ws.Pairwise λx y=>x.cps.toList<y.cps.toList
def nZ(ws:af):D:=.tup [.str "word",.tup (ws.map .str)]
def xu{ws:af}(h1:ws≠[])(h2:ws.length<=12)(h3:Up ws)(h4:∀w∈ws,Lw w):az bZ 1 1 [nZ ws]=.ok (.bl true):=by
 have hl:0<ws.length:=List.length_pos_iff.mpr h1;have e1:decide ((1:Int)<=(ws.length:Int))=true:=by simp;omega
 have e2:decide ((ws.length:Int)<=12)=true:=by simp;omega
 have f0:kD [am] (fj (ae 0)) (gN 0) eF (fR (az bH 2 2) (aa (ae 0) (aa (fC (.int 0)) aj))) [‹.tup (ws.map .str)›]=.ok (.lst (ws.map λ_=>.bl true)):=by
  refine gI (ds:=ws.map .str) (by simp! only[]) (by rw[Tz];omega) ?_;refine gC D.str _ ws λw hw=>⟨_,rfl,rfl,?_⟩
  have l:=gg w 0 ‹0› (h4 w hw).1 (h4 w hw).2;simp! only[l]
 have rg:jU [.int ((ws.length:Int)-1)]=ag (eR 0 (ws.length-1)):=by
  rw[show(ws.length:Int)-1=((ws.length-1:Nat):Int)by omega];exact me _ ‹0›
 have f1:kD [am,ag 0] (gh (aa (f2 Bb (fL fz (aa (ae 0) aj)) (fC (.int 1))) aj)) (gN 0) eF (f2 mn (f2 aX (ae 1) (ae 0)) (f2 aX (ae 1) (f2 av (ae 0) (fC (.int 1))))) [‹.tup (ws.map .str)›]=.ok (.lst ((List.range (ws.length-1)).map λ_=>.bl true)):=by
  refine gI (ds:=eR 0 (ws.length-1)) (by simp! only[Tz,rg]) (by rw[iJ];omega) ?_;rw[rq];refine gC (λ(k:Nat)=>D.int (0+(k:Int))) _ _ λk hk=>⟨_,rfl,rfl,?_⟩
  have hk:=List.mem_range.mp hk;have i1:aX (.tup (ws.map .str)) (.int (k:Int))=ag (.str (ws[k]'‹0›)):=by rw[Ij,iy,gw ‹0›];rfl
  have i2:aX (.tup (ws.map .str)) (.int ((k:Int)+1))=ag (.str (ws[k+1]'‹0›)):=by
   rw[show(k:Int)+1=((k+1:Nat):Int)by omega,Ij,iy,gw ‹0›];rfl
  have lt:=List.pairwise_iff_getElem.mp h3 k (k+1) ‹0› ‹0› ‹0›;have e:decide ((ws[k]'‹0›).cps.toList<(ws[k+1]'‹0›).cps.toList)=true:=b0 lt;rw[Int.zero_add];simp! only[i1,i2,e]
 have aw:az cY 1 1 [.tup (ws.map .str)]=.ok (.bl true):=by
  rw[aG];unfold cY;simp! only[Fj,Tz,e1,e2,Vj,f0,f1,jk]
 rw[aG];unfold bZ nZ;simp! only[Rw,BEq.rfl,aw,Vj]
theorem cc(c:Str)(f:aQ)(k:Ks)(ρ:aq):dU c f k ρ=kE (f ρ) k ρ λds=>if small ds.length then k.ex ⟨c,[],[]⟩ ρ else un:=nr rfl
theorem ve:small 1=true:=rfl
structure fY(x:Str):Prop where
 one:1<=x.length
 eig:x.length<=8
 lts:∀n∈x.cps.toList,n∈LT
def NF:LT=List.range' 97 26:=by decide
def sF{n:Nat}(h:n∈LT):97<=n/\n<=122:=by
 rw[NF]at h;obtain⟨i,hi,rfl⟩:=List.mem_range'.mp h;omega
def JK{n:Nat}(h:n∈LT):Unicode.isSpace n=false/\BR.contains n=false:=by
 have z:(LT.all λn=>!Unicode.isSpace n&&!BR.contains n)=true:=by decide +kernel
 have:=List.all_eq_true.mp z n h
 rw[T6]at this
 simpa using this
def fY.w{x:Str}(h:fY x):j8 x:=⟨λz=>by
  have:=h.one
  rw[aB,z]at this;exact bt this (by decide),λc hc=>JK (h.lts c hc)⟩
def gk{x:Str}(h:fY x):az bR 1 1 [.str x]=.ok (.str x):=by
 have l:=gg x 1 (by have:=h.one;omega) h.eig h.lts;have n:az fK 1 1 [.str x]=.ok (.bl true):=by
  rw[aG];unfold fK;simp! only[l]
 rw[aG];unfold bR;simp! only[n]
noncomputable abbrev dot(w:Str):Str:=(".":Str)++w
def kX(w:Str):ap (dot w)=46::ap w:=by
 rw[ao]
 have:ap (".":Str)=[46]:=by decide
 rw[this];rfl
def sX(w:Str):(dot w).length=w.length+1:=by rw[aB,kX,Tw,<-aB]
def B3(x:Str)(c:Nat):Txt.startswith x ⟨#[c]⟩=decide ((ap x)[0]?=ag c):=by
 have h:=StrLaws.subAt_one x c 0;unfold Txt.startswith
 by_cases z:(ap x)[0]?=ag c
 ·obtain⟨h1,h2⟩:=h.mpr z;rw[h2,b0 h1,b0 z];rfl
 ·rw[cb z,Bool.and_eq_false_iff];by_cases w:0+(⟨#[c]⟩:Str).length<=x.length
  ·right;cases q:Builtin.Str.subAt x ⟨#[c]⟩ 0 with
   |false=>rfl
   |true=>exact bt (h.mp ⟨w,q⟩) z
  ·left;exact cb w
def gS:(".":Str)=⟨#[46]⟩:=by decide
def gG:("-":Str)=⟨#[45]⟩:=by decide
def eS(x:Str)(c:Nat):gP x [.str ⟨#[c]⟩]=ag (.bl (decide ((ap x)[0]?=ag c))):=by
 show ag (D.bl (Txt.startswith x ⟨#[c]⟩))=_;rw[B3]
def ke{α:Type}(xs:List α):cutD xs (ag 1) am=xs.drop 1:=by
 unfold cutD;have e:HT.sIx xs.length 0 (ag 1)=min 1 xs.length:=HT.OW _ _ 1;have e2:HT.sIx xs.length xs.length am=xs.length:=rfl;rw[e,e2];cases xs with
 |nil=>rfl
 |cons a r=>
  have:min 1 (a::r).length=1:=by rw[Tw];omega
  rw[this];show r.take (r.length+1-1)=r;exact Va ‹0›
def ow{x:Str}(h:x.length<=90000):fh (.str x) (ag 1) am=ag (.str (mk ((ap x).drop 1))):=by
 show(if small x.length then ag (D.str ⟨(cutD x.cps.toList (ag 1) am).toArray⟩)else am)=_;rw[cm ‹0›,ke];rfl
structure uG(w:Str):Prop where
 eig:w.length<=8
 lts:∀n∈w.cps.toList,n∈LT
def uG.w{x:Str}(h:uG x):j8 (dot x):=⟨λz=>(by rw[kX]at z;cases z),λc hc=>by
 rw[kX]at hc;rcases List.mem_cons.mp hc with z|z
 ·rw[z];decide
 ·exact JK (h.lts c z)⟩
def Dc{w:Str}(h:w.length<=8):fh (.str (dot w)) (ag 1) am=ag (.str w):=by
 rw[ow (by rw[sX];omega),kX];show ag (D.str (mk (ap w)))=_;rw[pf]
def qH(w:Str):gP (dot w) [.str ⟨#[46]⟩]=ag (.bl true):=by rw[eS,kX];rfl
theorem cn(f:FX)(g:aQ)(ρ:aq):gd f g ρ=(f ρ).bind λa=>(rO (KG a)).bind λz=>(g ρ).bind λds=>rO (gP z ds):=nr rfl
def mJ{w:Str}(h:uG w):az bh 1 1 [.str (dot w)]=.ok (.str w):=by
 have l:=gg w 0 ‹0› h.eig h.lts;have t:=Dc h.eig;have s:=qH w;rw[aG];unfold bh;generalize dot w=x at *;simp! only[gS,cn,s,t,l]
theorem wj:∀(k m:Nat),m<10^(k+1)->(Nat.toDigits 10 m).length<=k+1
 |0,m,h=>by rw[Vl ‹0›];exact Tt _
 |k+1,m,h=>by
  by_cases z:m<10
  ·rw[Vl z];show 1<=_;omega
  ·have hm:m%10<10:=Nat.mod_lt m (by decide);have t:Nat.toDigits 10 (m/10)++Nat.toDigits 10 (m%10)=Nat.toDigits 10 (10*(m/10)+m%10):=Nat.toDigits_append_toDigits (by decide) ‹0› hm;rw[Nat.div_add_mod]at t;rw[<-t,T1,Vl hm];have ih:=wj k (m/10) (by rw[Nat.div_lt_iff_lt_mul (by decide)];rw[Nat.pow_succ]at h;exact h);show _+1<=_;omega
noncomputable abbrev nst(n:Int):Str:=Str.ofString (toString n)
abbrev dg(m:Nat):bJ:=(Nat.toDigits 10 m).map Char.toNat
def qj{m c:Nat}(h:c∈dg m):48<=c/\c<=57:=by
 obtain⟨ch,hch,e⟩:=List.mem_map.mp h;have r:=PyProof.Rows.digit_range (Nat.isDigit_of_mem_toDigits (by decide) (by decide) hch);rw[<-e];exact r
def CJ(m:Nat):dg m≠[]:=λe=>by
 have h:=PySem.toDigits_len_ge 10 m;rw[List.map_eq_nil_iff.mp e]at h;exact bt h (by decide)
def IJ(m:Nat):ap (nst (m:Int))=dg m:=PySem.W.KIN.signs_num m
def Iq(m:Nat):ap (nst (-((m+1:Nat):Int)))=45::dg (m+1):=by
 show(Str.ofString (toString (Int.negSucc m))).cps.toList=_;rw[PyProof.Rows.signs_ofString];show(("-"++Nat.repr (m+1)):String).toList.map Char.toNat=_;rw[String.toList_append,Uw,Nat.toList_repr];rfl
def jT(n:Int)(h:n.natAbs<10^60):∃m:Nat,dg m≠[]/\(dg m).length<=60/\((ap (nst n)=dg m/\n=(m:Int))\/(ap (nst n)=45::dg m/\n=-(m:Int))):=by
 have hl:∀m:Nat,m<10^60->(dg m).length<=60:=λm hm=>by rw[Tz];exact wj 59 m hm
 cases n with
 |ofNat m=>exact⟨m,CJ m,hl m h,.inl ⟨IJ m,rfl⟩⟩
 |negSucc m=>exact⟨m+1,CJ _,hl _ h,.inr ⟨Iq m,rfl⟩⟩
def Rm{x:Str}{m:Nat}(h:ap x=dg m\/ap x=45::dg m):j8 x:=by
 have sg:∀c∈dg m,Unicode.isSpace c=false/\BR.contains c=false:=λc hc=>by
  have z:((List.range' 48 10).all λn=>!Unicode.isSpace n&&!BR.contains n)=true:=by decide +kernel
  have r:=qj hc
  have:=List.all_eq_true.mp z c (List.mem_range'.mpr ⟨c-48,by omega,by omega⟩)
  rw[T6]at this
  simpa using this
 rcases h with h|h
 ·exact⟨by rw[h];exact CJ m,by rw[h];exact sg⟩
 ·refine⟨(by rw[h];exact λz=>nomatch z),λc hc=>?_⟩;rw[h]at hc;rcases List.mem_cons.mp hc with z|z
  ·rw[z];decide
  ·exact sg c z
noncomputable def Cj:Str:="0123456789"
def Ib:((List.range' 48 10).all λn=>yD Cj ⟨#[n]⟩)=true:=by decide +kernel
def jp{x:Str}(h:x.length<=90000):fz [.str x]=ag (.int x.length):=by show(if small x.length then _ else _)=_;rw[cm ‹0›];rfl
def nz(n:Int)(h:n.natAbs<10^60):az aZ 1 2 [.str (nst n)]=.ok (.int n):=by
 obtain⟨m,h0,h1,hc⟩:=jT n h;have figs:∀y:Str,ap y=dg m->∀ρ0:Option S,kD [am] (gO (ae 1)) (gN 0) eF (f2 qE (ae 0) (fC (.str Cj))) [ρ0,‹.str y›]=.ok (.lst ((dg m).map λ_=>.bl true)):=λy hy ρ0=>by
  refine gI (ds:=y9 y) rfl (by unfold y9;rw[Tz];show(ap y).length<=_;rw[hy];omega) ?_;unfold y9;rw[show y.cps.toList=dg m from hy];refine gC (λn=>D.str ⟨#[n]⟩) _ _ λc hc=>⟨_,rfl,rfl,?_⟩
  have r:=qj hc
  have:=List.all_eq_true.mp Ib c (List.mem_range'.mpr ⟨c-48,by omega,by omega⟩)
  have e:qE (.str ⟨#[c]⟩) (.str Cj)=ag (.bl true):=by show ag (D.bl (yD Cj ⟨#[c]⟩))=_;rw[this]
  simp! only[e]
 have lens:∀y:Str,ap y=dg m->fz [.str y]=ag (.int y.length)/\decide ((1:Int)<=(y.length:Int))=true/\decide ((y.length:Int)<=60)=true:=λy hy=>by
  have e:y.length=(dg m).length:=by rw[aB,hy]
  have:0<(dg m).length:=List.length_pos_iff.mpr h0
  exact⟨jp ‹0›,by simp;omega,by simp;omega⟩
 have ad:NumText.AllDigits (dg m):=λc hc=>qj hc;rcases hc with⟨hx,hn⟩|⟨hx,hn⟩
 ·have hx':(nst n).cps.toList=dg m:=hx;have it:mY [.str (nst n)]=ag (.int n):=by
   have e:=intText_digits (x:=nst n) (by rw[hx'];exact ad) (by rw[hx'];exact h0) (by rw[aB,hx];omega);have l:(nst n).length<=640:=(by rw[aB,hx];omega);show qe (nst n)=_;unfold qe;rw[ba l,e,hx',PySem.W.KIN.val_back];show ag (D.int _)=_;rw[hn]
  have st:gP (nst n) [.str ⟨#[45]⟩]=ag (.bl false):=by
   rw[eS,hx]
   have:¬(dg m)[0]?=ag 45:=λz=>by have:=qj (TZ z);omega
   rw[cb this]
  obtain⟨l1,l2,l3⟩:=lens (nst n) hx;have fg:=figs (nst n) hx (‹.str (nst n)›);rw[aG];unfold aZ;generalize nst n=x at *;simp! only[gG,show("0123456789":Str)=Cj from rfl,cn,st,l1,l2,l3,Vj,fg,jk,it]
 ·have it:mY [.str (nst n)]=ag (.int n):=by
   have e:=intText_neg (x:=nst n) hx ad h0 (by rw[aB,hx,Tw];omega);have l:(nst n).length<=640:=(by rw[aB,hx,Tw];omega);show qe (nst n)=_;unfold qe;rw[ba l,e,PySem.W.KIN.val_back];show ag (D.int _)=_;rw[hn]
  have st:gP (nst n) [.str ⟨#[45]⟩]=ag (.bl true):=by
   rw[eS,hx];rfl
  have tl:fh (.str (nst n)) (ag 1) am=ag (.str (mk (dg m))):=by
   rw[ow (by rw[aB,hx,Tw];omega),hx];rfl
  obtain⟨l1,l2,l3⟩:=lens (mk (dg m)) (cf _);have fg:=figs (mk (dg m)) (cf _) (‹.str (nst n)›);rw[aG];unfold aZ;generalize nst n=x at *;generalize mk (dg m)=y at *;simp! only[gG,show("0123456789":Str)=Cj from rfl,cn,st,tl,l1,l2,l3,Vj,fg,jk,it]
def qg:(("part":Str)==("rename":Str))=false:=by decide
def qy:(("fuse":Str)==("rename":Str))=false:=by decide
def sO:(("fuse":Str)==("part":Str))=false:=by decide
def pB:(("drop":Str)==("rename":Str))=false:=by decide
def ul:(("drop":Str)==("part":Str))=false:=by decide
def sQ:(("drop":Str)==("fuse":Str))=false:=by decide
def fX:(("sieve":Str)==("rename":Str))=false:=by decide
def gQ:(("sieve":Str)==("part":Str))=false:=by decide
def gU:(("sieve":Str)==("fuse":Str))=false:=by decide
def gR:(("sieve":Str)==("drop":Str))=false:=by decide
def qa:(("nest":Str)==("rename":Str))=false:=by decide
def uH:(("nest":Str)==("part":Str))=false:=by decide
def uj:(("nest":Str)==("fuse":Str))=false:=by decide
def u6:(("nest":Str)==("drop":Str))=false:=by decide
def qX:(("nest":Str)==("sieve":Str))=false:=by decide
def mR:(("unnest":Str)==("rename":Str))=false:=by decide
def pA:(("unnest":Str)==("part":Str))=false:=by decide
def pH:(("unnest":Str)==("fuse":Str))=false:=by decide
def qC:(("unnest":Str)==("drop":Str))=false:=by decide
def nF:(("unnest":Str)==("sieve":Str))=false:=by decide
def o8:(("unnest":Str)==("nest":Str))=false:=by decide
def nJ:(("number":Str)==("name":Str))=false:=by decide
def jM:(("value":Str)==("name":Str))=false:=by decide
def jW:(("value":Str)==("number":Str))=false:=by decide
def v_name{x:Str}(h:fY x):az aA 2 2 [.str "name",.str x]=.ok (.str x):=by
 have e:=gk h;rw[bb];unfold aA;simp! only[BEq.rfl,e]
def o6(n:Int)(h:n.natAbs<10^60):az aA 2 2 [.str "number",.str (nst n)]=.ok (.int n):=by
 have e:=nz n h;rw[bb];unfold aA;generalize nst n=x at *;simp! only[BEq.rfl,nJ,e]
def HG(n:Int)(h:n.natAbs<10^60):gP (nst n) [.str ⟨#[46]⟩]=ag (.bl false):=by
 obtain⟨m,h0,h1,hc⟩:=jT n h;rw[eS]
 have:¬(ap (nst n))[0]?=ag 46:=λz=>by
  rcases hc with⟨hx,_⟩|⟨hx,_⟩<;>rw[hx]at z
  ·have:=qj (TZ z);omega
  ·cases z
 rw[cb this]
def KA(n:Int)(h:n.natAbs<10^60):az aA 2 2 [.str "value",.str (nst n)]=.ok (.int n):=by
 have e:=nz n h;have s:=HG n h;rw[bb];unfold aA;generalize nst n=x at *;simp! only[gS,cn,jM,jW,s,e]
def Jm{w:Str}(h:uG w):az aA 2 2 [.str "value",.str (dot w)]=.ok (.str w):=by
 have e:=mJ h;have s:=qH w;rw[bb];unfold aA;generalize dot w=x at *;simp! only[gS,cn,jM,jW,s,e]
section
variable{α:Type}{ρ:aq}{g:GF}{Fe:FX}{ix:eV}{G:aQ}{ds r:List D}{x:Ex}
theorem oJ(mk v:α->D):∀xs:List α,(∀a∈xs,∃ρ1,g (mk a) ρ=ag ρ1/\Fe ρ1=.ok (v a))->vd ρ g Fe (xs.map mk)=.ok (xs.map v)
 |[],_=>rfl
 |a::xs,h=>by
  obtain⟨ρ1,h1,h2⟩:=h a Tj;have ih:=oJ mk v xs λb hb=>h b (Tl _ hb);rw[Tx,jG,h1];show(Fe ρ1).bind _=_;rw[h2];show(vd ρ g Fe (xs.map mk)).bind _=_;rw[ih];rfl
def jx(h1:G ρ=.ok ds)(h2:ds.length<=100000)(h3:vd (inB ix ρ) g Fe ds=.ok r):mw ix G g Fe ρ=.ok (.lst r):=by
 unfold mw;rw[h1,gJ,cm h2,h3];rfl
def nX(h1:G ρ=.ok ds)(h2:ds.length<=100000)(h3:vd (inB ix ρ) g Fe ds=.error (ag x)):mw ix G g Fe ρ=.error (ag x):=by
 unfold mw;rw[h1,gJ,cm h2,h3];rfl
inductive Gs(P:α->D->Prop):List α->List D->Prop
 |nil:Gs P [] []
 |cons {a:α} {v:D} {xs:List α} {vs:List D}:P a v->Gs P xs vs->Gs P (a::xs) (v::vs)
theorem nV(mk:α->D)(P:α->D->Prop):∀xs:List α,(∀a∈xs,∃ρ1,g (mk a) ρ=ag ρ1/\(Fe ρ1=.error (ag x)\/∃v,P a v/\Fe ρ1=.ok v))->vd ρ g Fe (xs.map mk)=.error (ag x)\/∃vs,Gs P xs vs/\vd ρ g Fe (xs.map mk)=.ok vs
 |[],_=>.inr ⟨[],.nil,rfl⟩
 |a::xs,h=>by
  obtain⟨ρ1,h1,h2⟩:=h a Tj;have ih:=nV mk P xs λb hb=>h b (Tl _ hb);have e:vd ρ g Fe ((a::xs).map mk)=(Fe ρ1).bind λv=>(vd ρ g Fe (xs.map mk)).bind λr=>.ok (v::r):=by
   rw[Tx,jG,h1];rfl
  rcases h2 with h2|⟨v,pv,h2⟩
  ·exact .inl (by rw[e,h2];rfl)
  ·rcases ih with ih|⟨vs,hv,ih⟩
   ·exact .inl (by rw[e,h2,gJ,ih];rfl)
   ·exact .inr ⟨v::vs,.cons pv hv,by rw[e,h2,gJ,ih];rfl⟩
theorem zJ(mk v:α->D)(ys:List α)(b:α):∀xs:List α,(∀a∈xs,∃ρ1,g (mk a) ρ=ag ρ1/\Fe ρ1=.ok (v a))->(∃ρ1,g (mk b) ρ=ag ρ1/\Fe ρ1=.error (ag x))->vd ρ g Fe ((xs++b::ys).map mk)=.error (ag x)
 |[],_,⟨ρ1,h1,h2⟩=>by
  rw[Uv,Tx,jG,h1];show(Fe ρ1).bind _=_;rw[h2];rfl
 |a::xs,h,k=>by
  obtain⟨ρ1,h1,h2⟩:=h a Tj;have ih:=zJ mk v ys b xs (λc hc=>h c (Tl _ hc)) k;rw[Ue,Tx,jG,h1];show(Fe ρ1).bind _=_;rw[h2];show(vd ρ g Fe ((xs++b::ys).map mk)).bind _=_;rw[ih];rfl
end
def Qd(p:Str×Str×D):Prop:=az aA 2 2 [.str p.1,.str p.2.1]=.ok p.2.2
theorem zip_map:∀L:List (Str×Str×D),iL ((L.map (·.1)).map D.str) ((L.map (·.2.1)).map D.str)=L.map λp=>.tup [.str p.1,.str p.2.1]
 |[]=>rfl
 |p::L=>by
  show _::iL _ _=_;rw[zip_map L];rfl
def BD(L:List (Str×Str×D))(h:∀p∈L,Qd p)(hl:L.length<=100):az aM 2 2 [.kt (L.map (·.1)),.lst ((L.map (·.2.1)).map .str)]=.ok (.lst (L.map (·.2.2))):=by
 have e1:fz [.kt (L.map (·.1))]=ag (.int (L.length:Int)):=by show ag (D.int ((L.map (·.1)).length:Int))=_;rw[Tz]
 have e2:fz [.lst ((L.map (·.2.1)).map .str)]=ag (.int (L.length:Int)):=by show ag (D.int (((L.map (·.2.1)).map D.str).length:Int))=_;rw[Tz,Tz]
 have f0:mw [am,am] (xS (aa (ae 0) (aa (ae 1) aj))) (gT 2 (vc [0,1])) (fR (az aA 2 2) (aa (ae 0) (aa (ae 1) aj))) [‹.kt (L.map (·.1))›,‹.lst ((L.map (·.2.1)).map .str)›]=.ok (.lst (L.map (·.2.2))):=by
  refine jx (ds:=L.map λp=>.tup [.str p.1,.str p.2.1]) ?_ (by rw[Tz];omega) ?_
  ·show(rO (ag (iL ((L.map (·.1)).map D.str) ((L.map (·.2.1)).map D.str))))=_;rw[zip_map];rfl
  ·refine oJ (λp:Str×Str×D=>D.tup [.str p.1,.str p.2.1]) _ _ λp hp=>⟨_,rfl,?_⟩
   have:=h p hp
   unfold Qd at this;simp! only[this]
 rw[bb];unfold aM;generalize D.kt (L.map (·.1))=a at *;generalize D.lst ((L.map (·.2.1)).map .str)=b at *;simp! only[e1,e2,BEq.rfl,f0]
def cK{ss ws:af}{vs:List D}(L:List (Str×Str×D))(h:∀p∈L,Qd p)(hl:L.length<=100)(e1:ss=L.map (·.1))(e2:ws=L.map (·.2.1))(e3:vs=L.map (·.2.2)):az aM 2 2 [.kt ss,.lst (ws.map .str)]=.ok (.lst vs):=by
 subst e1 e2 e3;exact BD L h hl
abbrev WT:List (Str×(cM)):=[("Drop",(az cH 1 1)),("Join",(az dz 1 1)),("Gather",(az cA 1 1)),("Nest",(az dk 1 1)),("Unnest",(az cy 1 1)),("Part",(az dj 1 1)),("Fuse",(az dm 1 1)),("Rename",(az cv 1 1)),("Sieve",(az cq 1 1))]
structure kU(s:D)(w:af):Prop where
 rd:az aE 1 1 [.lst (w.map .str)]=.ok s
 wd:∀(fo:FX)(ρ:aq),fo ρ=.ok s->iY "words" WT fo aj ρ=.ok (.tup (w.map .str))
 ok:∀x∈w,j8 x
 ne:w≠[]
 ln:w.length<=14
 sm:(w.map (·.length)).sum<=200
abbrev sv(c:Str)(fs:af)(vs:List D):D:=.obj c fs vs
def eY{s:D}{c:Str}{fs:af}{vs:List D}{g:cM}{r:R D}(e:s=.obj c fs vs)(h:List.lookup c WT=ag g)(hf:fs.contains "words"=false)(hr:g [s]=r)(fo:FX)(ρ:aq)(ho:fo ρ=.ok s):iY "words" WT fo aj ρ=r:=by
 subst e;unfold iY;rw[ho];show(match List.lookup c WT with|some g=>if fs.contains "words"then un else(aj ρ).bind λas=>g (.obj c fs vs::as)|none=>un)=_;rw[h];show(if fs.contains "words"then un else(aj ρ).bind λas=>g (.obj c fs vs::as))=_;rw[hf,br Tq];exact hr
def mQ(n:Int)(h:n.natAbs<10^60):az cC 1 1 [.int n]=.ok (.str (nst n)):=by
 have e:tM [.int n]=ag (.str (nst n)):=by
  show(if decide (n.natAbs.log2<1920)then ag (D.str (toString n))else am)=_
  have:n.natAbs.log2<1920:=by
   by_cases z:n.natAbs=0
   ·rw[z];decide
   ·rw[Ut z];exact Uu h (Td (show 10^60<2^200 by decide) (Vm (by decide) (by decide)))
  rw[b0 this];rfl
 have ti:xq "str" (.int n)=ag (.bl false):=rfl;rw[aG];unfold cC;simp! only[ti,e]
def yO{w:Str}(h:w.length<=8):az cC 1 1 [.str w]=.ok (.str (dot w)):=by
 have e:av (.str "." ) (.str w)=ag (.str (dot w)):=ww _ _ (by decide) ‹0›;rw[aG];unfold cC;simp! only[C4,e]
noncomputable abbrev oR(a b:Str):D:=.obj "Rename" ["old","new"] [.str a,.str b]
noncomputable abbrev oD(a:Str)(v:D):D:=.obj "Drop" ["name","value"] [.str a,v]
noncomputable abbrev oS(a:Str)(k:D):D:=.obj "Sieve" ["name","kind"] [.str a,k]
abbrev oP(a:Str)(n:Int)(q r:Str):D:=.obj "Part" ["name","by","quotient","rest"] [.str a,.int n,.str q,.str r]
abbrev oF(q r:Str)(n:Int)(a:Str):D:=.obj "Fuse" ["quotient","rest","by","name"] [.str q,.str r,.int n,.str a]
noncomputable abbrev oN(n:Int)(a:Str):D:=.obj "Nest" ["many","name"] [.int n,.str a]
noncomputable abbrev oU(a:Str):D:=.obj "Unnest" ["name"] [.str a]
def gE{f:Str}{ws:af}{ss:af}{vs:List D}{s:D}(hk:(f==("keep":Str))=false)(hn:uw dR (.str f)=ag (.bl false))(hd:B5 dR (.str f)=ag (.kt ss))(hv:az aM 2 2 [.kt ss,.lst (ws.map .str)]=.ok (.lst vs))(hm:az aR 2 2 [.str f,.lst vs]=.ok s):az aE 1 1 [.lst ((f::ws).map .str)]=.ok s:=by
 rw[aG];unfold aE;rw[Tx];generalize ws.map D.str=l at *;simp! only[Vn,hk,hn,hd,ke,Uj,Ui,hv,hm]
def gK{n:Int}(h:n.natAbs<10^60):(nst n).length<=61:=by
 obtain⟨m,_,h1,hc⟩:=jT n h;rw[aB];rcases hc with⟨hx,_⟩|⟨hx,_⟩<;>rw[hx]
 ·omega
 ·rw[Tw];omega
def sy{n:Int}(h:n.natAbs<10^60):j8 (nst n):=by
 obtain⟨m,_,_,hc⟩:=jT n h;exact Rm (hc.imp And.left And.left)
def eN{x:Str}(h:(!(ap x).isEmpty&&(ap x).all λc=>!Unicode.isSpace c&&!BR.contains c)=true):j8 x:=by
 rw[T6]at h;refine⟨λz=>(by rw[z]at h;exact bt h.1 (by decide)),λc hc=>?_⟩
 have:=List.all_eq_true.mp h.2 c hc
 rw[T6]at this
 simpa using this
theorem eU(c:Str)(fs:af)(f:aQ)(ρ:aq):fNew c fs f ρ=(f ρ).bind λas=>if as.length=fs.length then .ok (.obj c fs as)else un:=nr rfl
theorem JC(a b c:D):nq [a,b,c]=ag (.tup [a,b,c]):=rfl
theorem sd(a b c d:D):aX (.lst [a,b,c,d]) (.int 3)=ag d:=by rfl
theorem Gu(a b:D):nq [a,b]=ag (.tup [a,b]):=rfl
theorem RJ(a b c d:D):nq [a,b,c,d]=ag (.tup [a,b,c,d]):=rfl
theorem Rx(a b c d e:D):nq [a,b,c,d,e]=ag (.tup [a,b,c,d,e]):=rfl
def rA{a b:Str}:az aR 2 2 [.str "rename",.lst [.str a,.str b]]=.ok (oR a b):=by
 rw[bb];unfold aR;simp! only[BEq.rfl,eU,sd]
def lO{a:Str}{v:D}:az aR 2 2 [.str "drop",.lst [.str a,v]]=.ok (oD a v):=by
 rw[bb];unfold aR;simp! only[BEq.rfl,eU,sd,pB,ul,sQ]
def zB{a q r:Str}{n:Int}:az aR 2 2 [.str "part",.lst [.str a,.int n,.str q,.str r]]=.ok (oP a n q r):=by
 rw[bb];unfold aR;simp! only[BEq.rfl,eU,sd,qg]
def zH{q r a:Str}{n:Int}:az aR 2 2 [.str "fuse",.lst [.str q,.str r,.int n,.str a]]=.ok (oF q r n a):=by
 rw[bb];unfold aR;simp! only[BEq.rfl,eU,sd,qy,sO]
def tq{a:Str}{n:Int}:az aR 2 2 [.str "nest",.lst [.int n,.str a]]=.ok (oN n a):=by
 rw[bb];unfold aR;simp! only[BEq.rfl,eU,sd,qa,uH,uj,u6,qX]
def se{a:Str}:az aR 2 2 [.str "unnest",.lst [.str a]]=.ok (oU a):=by
 rw[bb];unfold aR;simp! only[BEq.rfl,eU,sd,mR,pA,pH,qC,nF,o8]
def su{a b:Str}(ha:fY a)(hb:fY b):kU (oR a b) ["rename",a,b]where
 rd:=gE (ws:=[a,b]) (ss:=["name","name"]) (vs:=[.str a,.str b]) (by decide) rfl rfl
  (cK [("name",a,.str a),("name",b,.str b)] (by
   intro p hp;simp only[UH,UI,or_false]at hp;rcases hp with rfl|rfl
   ·exact v_name ha
   ·exact v_name hb) (Vo rfl) rfl rfl rfl) rA
 wd:=eY rfl rfl (by decide) (by
  rw[aG];unfold cv;have g0:bV "old" ["Rename"] (oR a b)=ag (.str a):=rfl;have g1:bV "new" ["Rename"] (oR a b)=ag (.str b):=rfl;simp! only[g0,g1,JC])
 ok:=by
  intro x hx;simp only[UH,UI,or_false]at hx;rcases hx with rfl|rfl|rfl
  ·exact eN (by decide +kernel)
  ·exact ha.w
  ·exact hb.w
 ne:=λz=>nomatch z
 ln:=Vo rfl
 sm:=by
  have:=ha.eig
  have:=hb.eig
  have l:("rename":Str).length=6:=by decide
  simp only[Tx,Ua,Vp,Vq,l];omega
def pQ{a:Str}{n:Int}(ha:fY a)(hn:n.natAbs<10^60):kU (oD a (.int n)) ["drop",a,nst n]where
 rd:=gE (ws:=[a,nst n]) (ss:=["name","value"]) (vs:=[.str a,.int n]) (by decide) rfl rfl
  (cK [("name",a,.str a),("value",nst n,.int n)] (by
   intro p hp;simp only[UH,UI,or_false]at hp;rcases hp with rfl|rfl
   ·exact v_name ha
   ·exact KA n hn) (Vo rfl) rfl rfl rfl) lO
 wd:=eY rfl rfl (by decide) (by
  rw[aG];unfold cH;have g0:bV "name" ["Drop"] (oD a (.int n))=ag (.str a):=rfl;have g1:bV "value" ["Drop"] (oD a (.int n))=ag (.int n):=rfl;have w1:=mQ n hn;simp! only[g0,g1,w1,JC])
 ok:=by
  intro x hx;simp only[UH,UI,or_false]at hx;rcases hx with rfl|rfl|rfl
  ·exact eN (by decide +kernel)
  ·exact ha.w
  ·exact sy hn
 ne:=λz=>nomatch z
 ln:=Vo rfl
 sm:=by
  have:=ha.eig
  have:=gK hn
  have l:("drop":Str).length=4:=by decide
  simp only[Tx,Ua,Vp,Vq,l];omega
def vO{a w:Str}(ha:fY a)(hw:uG w):kU (oD a (.str w)) ["drop",a,dot w]where
 rd:=gE (ws:=[a,dot w]) (ss:=["name","value"]) (vs:=[.str a,.str w]) (by decide) rfl rfl
  (cK [("name",a,.str a),("value",dot w,.str w)] (by
   intro p hp;simp only[UH,UI,or_false]at hp;rcases hp with rfl|rfl
   ·exact v_name ha
   ·exact Jm hw) (Vo rfl) rfl rfl rfl) lO
 wd:=eY rfl rfl (by decide) (by
  rw[aG];unfold cH;have g0:bV "name" ["Drop"] (oD a (.str w))=ag (.str a):=rfl;have g1:bV "value" ["Drop"] (oD a (.str w))=ag (.str w):=rfl;have w1:=yO hw.eig;simp! only[g0,g1,w1,JC])
 ok:=by
  intro x hx;simp only[UH,UI,or_false]at hx;rcases hx with rfl|rfl|rfl
  ·exact eN (by decide +kernel)
  ·exact ha.w
  ·exact hw.w
 ne:=λz=>nomatch z
 ln:=Vo rfl
 sm:=by
  have:=ha.eig
  have:=(show(dot w).length<=9 by rw[sX];have:=hw.eig;omega)
  have l:("drop":Str).length=4:=by decide
  simp only[Tx,Ua,Vp,Vq,l];omega
def zf{a q r:Str}{n:Int}(ha:fY a)(hn:n.natAbs<10^60)(hq:fY q)(hr:fY r):kU (oP a n q r) ["part",a,nst n,q,r]where
 rd:=gE (ws:=[a,nst n,q,r]) (ss:=["name","number","name","name"]) (vs:=[.str a,.int n,.str q,.str r]) (by decide) rfl rfl
  (cK [("name",a,.str a),("number",nst n,.int n),("name",q,.str q),("name",r,.str r)] (by
   intro p hp;simp only[UH,UI,or_false]at hp;rcases hp with rfl|rfl|rfl|rfl
   ·exact v_name ha
   ·exact o6 n hn
   ·exact v_name hq
   ·exact v_name hr) (Vo rfl) rfl rfl rfl) zB
 wd:=eY rfl rfl (by decide) (by
  rw[aG];unfold dj;have g0:bV "name" ["Part"] (oP a n q r)=ag (.str a):=rfl;have g1:bV "by" ["Part"] (oP a n q r)=ag (.int n):=rfl;have w1:=mQ n hn;have g2:bV "quotient" ["Part"] (oP a n q r)=ag (.str q):=rfl;have g3:bV "rest" ["Part"] (oP a n q r)=ag (.str r):=rfl;simp! only[g0,g1,w1,g2,g3,Rx])
 ok:=by
  intro x hx;simp only[UH,UI,or_false]at hx;rcases hx with rfl|rfl|rfl|rfl|rfl
  ·exact eN (by decide +kernel)
  ·exact ha.w
  ·exact sy hn
  ·exact hq.w
  ·exact hr.w
 ne:=λz=>nomatch z
 ln:=Vo rfl
 sm:=by
  have:=ha.eig
  have:=gK hn
  have:=hq.eig
  have:=hr.eig
  have l:("part":Str).length=4:=by decide
  simp only[Tx,Ua,Vp,Vq,l];omega
def yL{q r a:Str}{n:Int}(hq:fY q)(hr:fY r)(hn:n.natAbs<10^60)(ha:fY a):kU (oF q r n a) ["fuse",q,r,nst n,a]where
 rd:=gE (ws:=[q,r,nst n,a]) (ss:=["name","name","number","name"]) (vs:=[.str q,.str r,.int n,.str a]) (by decide) rfl rfl
  (cK [("name",q,.str q),("name",r,.str r),("number",nst n,.int n),("name",a,.str a)] (by
   intro p hp;simp only[UH,UI,or_false]at hp;rcases hp with rfl|rfl|rfl|rfl
   ·exact v_name hq
   ·exact v_name hr
   ·exact o6 n hn
   ·exact v_name ha) (Vo rfl) rfl rfl rfl) zH
 wd:=eY rfl rfl (by decide) (by
  rw[aG];unfold dm;have g0:bV "quotient" ["Fuse"] (oF q r n a)=ag (.str q):=rfl;have g1:bV "rest" ["Fuse"] (oF q r n a)=ag (.str r):=rfl;have g2:bV "by" ["Fuse"] (oF q r n a)=ag (.int n):=rfl;have w2:=mQ n hn;have g3:bV "name" ["Fuse"] (oF q r n a)=ag (.str a):=rfl;simp! only[g0,g1,g2,w2,g3,Rx])
 ok:=by
  intro x hx;simp only[UH,UI,or_false]at hx;rcases hx with rfl|rfl|rfl|rfl|rfl
  ·exact eN (by decide +kernel)
  ·exact hq.w
  ·exact hr.w
  ·exact sy hn
  ·exact ha.w
 ne:=λz=>nomatch z
 ln:=Vo rfl
 sm:=by
  have:=hq.eig
  have:=hr.eig
  have:=gK hn
  have:=ha.eig
  have l:("fuse":Str).length=4:=by decide
  simp only[Tx,Ua,Vp,Vq,l];omega
def uk{a:Str}{n:Int}(hn:n.natAbs<10^60)(ha:fY a):kU (oN n a) ["nest",nst n,a]where
 rd:=gE (ws:=[nst n,a]) (ss:=["number","name"]) (vs:=[.int n,.str a]) (by decide) rfl rfl
  (cK [("number",nst n,.int n),("name",a,.str a)] (by
   intro p hp;simp only[UH,UI,or_false]at hp;rcases hp with rfl|rfl
   ·exact o6 n hn
   ·exact v_name ha) (Vo rfl) rfl rfl rfl) tq
 wd:=eY rfl rfl (by decide) (by
  rw[aG];unfold dk;have g0:bV "many" ["Nest"] (oN n a)=ag (.int n):=rfl;have w0:=mQ n hn;have g1:bV "name" ["Nest"] (oN n a)=ag (.str a):=rfl;simp! only[g0,w0,g1,JC])
 ok:=by
  intro x hx;simp only[UH,UI,or_false]at hx;rcases hx with rfl|rfl|rfl
  ·exact eN (by decide +kernel)
  ·exact sy hn
  ·exact ha.w
 ne:=λz=>nomatch z
 ln:=Vo rfl
 sm:=by
  have:=gK hn
  have:=ha.eig
  have l:("nest":Str).length=4:=by decide
  simp only[Tx,Ua,Vp,Vq,l];omega
def rL{a:Str}(ha:fY a):kU (oU a) ["unnest",a]where
 rd:=gE (ws:=[a]) (ss:=["name"]) (vs:=[.str a]) (by decide) rfl rfl
  (cK [("name",a,.str a)] (by
   intro p hp;simp only[UH,UI,or_false]at hp;subst hp;exact v_name ha) (Vo rfl) rfl rfl rfl) se
 wd:=eY rfl rfl (by decide) (by
  rw[aG];unfold cy;have g0:bV "name" ["Unnest"] (oU a)=ag (.str a):=rfl;simp! only[g0,Gu])
 ok:=by
  intro x hx;simp only[UH,UI,or_false]at hx;rcases hx with rfl|rfl
  ·exact eN (by decide +kernel)
  ·exact ha.w
 ne:=λz=>nomatch z
 ln:=Vo rfl
 sm:=by
  have:=ha.eig
  have l:("unnest":Str).length=6:=by decide
  simp only[Tx,Ua,Vp,Vq,l];omega
noncomputable abbrev kN(lo hi:Int):D:=.tup [.str "number",.int lo,.int hi]
def CH{a:Str}{lo hi:Int}(h:lo<=hi):az aW 2 2 [.str a,kN lo hi]=.ok (oS a (kN lo hi)):=by
 have e:=HC h;rw[bb];unfold aW;simp! only[e,eU]
def IC{a:Str}{ws:af}(h1:ws≠[])(h2:ws.length<=12)(h3:Up ws)(h4:∀w∈ws,Lw w):az aW 2 2 [.str a,nZ ws]=.ok (oS a (nZ ws)):=by
 have e:=xu h1 h2 h3 h4;have f:=wt (.tup (ws.map .str));rw[bb];unfold aW;unfold nZ at *;generalize D.tup (ws.map .str)=x at *;simp! only[e,f,eU]
def vQ{a:Str}{lo hi:Int}:az aR 2 2 [.str "sieve",.lst [.str a,.int lo,.int hi]]=az aW 2 2 [.str a,kN lo hi]:=by
 rw[bb];unfold aR;cases e:az aW 2 2 [.str a,kN lo hi]with
 |ok d=>simp! only[BEq.rfl,fX,gQ,gU,gR,JC,e]
 |error z=>
  cases z with
  |none=>simp! only[BEq.rfl,fX,gQ,gU,gR,JC,e];rfl
  |some x=>simp! only[BEq.rfl,fX,gQ,gU,gR,JC,e]
def vy{a:Str}{lo hi:Int}(ha:fY a)(hl:lo.natAbs<10^60)(hh:hi.natAbs<10^60)(h:lo<=hi):kU (oS a (kN lo hi)) ["sieve",a,nst lo,nst hi]where
 rd:=gE (ws:=[a,nst lo,nst hi]) (ss:=["name","number","number"]) (vs:=[.str a,.int lo,.int hi]) (by decide) rfl rfl
  (cK [("name",a,.str a),("number",nst lo,.int lo),("number",nst hi,.int hi)] (by
   intro p hp;simp only[UH,UI,or_false]at hp;rcases hp with rfl|rfl|rfl
   ·exact v_name ha
   ·exact o6 lo hl
   ·exact o6 hi hh) (Vo rfl) rfl rfl rfl) (vQ.trans (CH h))
 wd:=eY rfl rfl (by decide) (by
  rw[aG];unfold cq;have g0:bV "name" ["Sieve"] (oS a (kN lo hi))=ag (.str a):=rfl;have g1:bV "kind" ["Sieve"] (oS a (kN lo hi))=ag (kN lo hi):=rfl;have w0:=mQ lo hl;have w1:=mQ hi hh;simp! only[g0,g1,w0,w1,BEq.rfl,RJ])
 ok:=by
  intro x hx;simp only[UH,UI,or_false]at hx;rcases hx with rfl|rfl|rfl|rfl
  ·exact eN (by decide +kernel)
  ·exact ha.w
  ·exact sy hl
  ·exact sy hh
 ne:=λz=>nomatch z
 ln:=Vo rfl
 sm:=by
  have:=ha.eig
  have:=gK hl
  have:=gK hh
  have l:("sieve":Str).length=5:=by decide
  simp only[Tx,Ua,Vp,Vq,l];omega
theorem vi:∀(ws:af),(∀w∈ws,uG w)->((ws.map dot).map (·.length)).sum<=9*ws.length
 |[],_=>Tt _
 |w::ws,h=>by
  have ih:=vi ws λx hx=>h x (Tl _ hx)
  have:=(h w Tj).eig
  have:=sX w
  simp only[Tx,Vp,Tw];omega
def qi(xs ys:List D)(h:xs.length+ys.length<=1000):av (.tup xs) (.tup ys)=ag (.tup (xs++ys)):=by
 show(if small (xs.length+ys.length)then ag (D.tup (xs++ys))else am)=_;rw[cm ‹0›];rfl
def zA{a:Str}{ws:af}(ha:fY a)(h1:ws≠[])(h2:ws.length<=12)(h3:Up ws)(h4:∀w∈ws,uG w):kU (oS a (nZ ws)) ("keep"::a::ws.map dot)where
 rd:=by
  have n:=gk ha;have m:=IC (a:=a) h1 h2 h3 λw hw=>⟨(h4 w hw).eig,(h4 w hw).lts⟩
  have f0:mw [am] (fj (cN (ae 0) (dY (fC (.int 1))) cj)) (gN 0) (fR (az bh 1 1) (aa (ae 0) aj)) [‹.lst (.str a::(ws.map dot).map .str)›]=.ok (.lst (ws.map .str)):=by
   refine jx (ds:=(ws.map dot).map .str) (by simp! only[ke,Uj,Ui]) (by rw[Tz,Tz];omega) ?_;rw[U7];refine oJ (D.str∘dot) D.str ws λw hw=>⟨_,rfl,?_⟩
   have e:=mJ (h4 w hw);show(fR (az bh 1 1) (aa (ae 0) aj)) [‹.str (dot w)›]=_;generalize dot w=x at *;simp! only[e]
  have k:az bF 1 1 [.lst (.str a::(ws.map dot).map .str)]=.ok (oS a (nZ ws)):=by
   rw[aG];unfold bF;unfold nZ at m ⊢;simp! only[Vn,n,f0,Gu,m]
  rw[aG];unfold aE;rw[Tx,Tx];generalize (ws.map dot).map D.str=l at *;simp! only[Vn,BEq.rfl,ke,Uj,Ui,k]
 wd:=eY rfl rfl (by decide) (by
  have g0:bV "name" ["Sieve"] (oS a (nZ ws))=ag (.str a):=rfl;have g1:bV "kind" ["Sieve"] (oS a (nZ ws))=ag (nZ ws):=rfl;have f0:kD [am] (fj (f2 aX (f1 (bV "kind" ["Sieve"]) (ae 0)) (fC (.int 1)))) (gN 0) eF (fR (az cC 1 1) (aa (ae 0) aj)) [‹oS a (nZ ws)›]=.ok (.lst (ws.map λw=>.str (dot w))):=by
   refine gI (ds:=ws.map .str) (by unfold nZ at g1;unfold nZ;simp! only[g1]) (by rw[Tz];omega) ?_;refine gC D.str _ ws λw hw=>⟨_,rfl,rfl,?_⟩
   have e:=yO (h4 w hw).eig;simp! only[e]
  have bq:(("word":Str)==("number":Str))=false:=by decide
  have ad:=qi [.str "keep",.str a] (ws.map λw=>.str (dot w)) (by rw[Tz];show 2+_<=_;omega);rw[aG];unfold cq;have i0:aX (nZ ws) (.int 0)=ag (.str "word"):=rfl;simp! only[g0,g1,i0,bq,f0,Gu,ad];rw[U7];rfl)
 ok:=by
  intro x hx;rcases List.mem_cons.mp hx with rfl|hx
  ·exact eN (by decide +kernel)
  rcases List.mem_cons.mp hx with rfl|hx
  ·exact ha.w
  obtain⟨w,hw,rfl⟩:=List.mem_map.mp hx;exact(h4 w hw).w
 ne:=λz=>nomatch z
 ln:=by rw[Tw,Tw,Tz];omega
 sm:=by
  have:=ha.eig
  have:=vi ws h4
  have l:("keep":Str).length=4:=by decide
  simp only[Tx,Vp,l];simp only[U7]at this ⊢;omega
structure Hg(p:D)(f:Str)(w:af):Prop where
 rd:az bn 2 3 [.str f,.lst (w.map .str)]=.ok p
 wd:∀(fo:FX)(ρ:aq),fo ρ=.ok p->iY "words" WT fo aj ρ=.ok (.tup ((f::w).map .str))
 ok:∀x∈f::w,j8 x
 ln:w.length<=2
 sm:((f::w).map (·.length)).sum<=40
def zS:Hg (.obj "Join" [] []) "join" []where
 rd:=by
  have v:=cK (ss:=[]) (ws:=[]) (vs:=[]) [] (λp hp=>nomatch hp) (Vo rfl) rfl rfl rfl;have hn:uw cE (.str "join")=ag (.bl false):=rfl;have hd:B5 cE (.str "join")=ag (.kt []):=rfl;rw[Ua]at v;rw[bb];unfold bn;simp! only[hn,hd,v,BEq.rfl]
 wd:=eY rfl rfl (by decide) (by
  rw[aG];unfold dz
  rfl)
 ok:=by
  intro x hx;rw[List.mem_singleton.mp hx];exact eN (by decide +kernel)
 ln:=Vo rfl
 sm:=by decide
def ro{a:Str}(ha:fY a):Hg (.obj "Gather" ["name"] [.str a]) "gather" [a]where
 rd:=by
  have v:=cK (ss:=["name"]) (ws:=[a]) (vs:=[.str a]) [("name",a,.str a)] (λp hp=>by rw[List.mem_singleton.mp hp];exact v_name ha) (Vo rfl) rfl rfl rfl;have hn:uw cE (.str "gather")=ag (.bl false):=rfl;have hd:B5 cE (.str "gather")=ag (.kt ["name"]):=rfl;have bq:(("gather":Str)==("join":Str))=false:=by decide
  rw[bb];unfold bn;rw[Tx,Ua]at *;simp! only[hn,hd,v,bq,eU]
 wd:=eY rfl rfl (by decide) (by
  rw[aG];unfold cA;have g0:bV "name" ["Gather"] (.obj "Gather" ["name"] [.str a])=ag (.str a):=rfl;simp! only[g0,Gu])
 ok:=by
  intro x hx;simp only[UH,UI,or_false]at hx;rcases hx with rfl|rfl
  ·exact eN (by decide +kernel)
  ·exact ha.w
 ln:=Vo rfl
 sm:=by
  have:=ha.eig
  have l:("gather":Str).length=6:=by decide
  simp only[Tx,Ua,Vp,Vq,l];omega
noncomputable abbrev oL(n:Str):D:=.obj "Leaf" ["name"] [.str n]
noncomputable abbrev oO(g s:D):D:=.obj "Over" ["glass","step"] [g,s]
noncomputable abbrev oB(g h p:D):D:=.obj "Both" ["one","other","pair"] [g,h,p]
abbrev tO(t:Str)(sw:af):Str:=("(":Str)++Txt.join " " (t::sw)++(")":Str)
abbrev tB(f t u:Str)(pw:af):Str:=("[":Str)++Txt.join " " (f::t::u::pw)++("]":Str)
inductive jd:D->Str->af->Nat->Prop
 |lf {n:Str}:fY n->jd (oL n) n [n] 0
 |ov {g s:D} {t:Str} {w sw:af} {m:Nat}:jd g t w m->kU s sw->jd (oO g s) (tO t sw) (⟨#[40]⟩::((w++sw)++[⟨#[41]⟩])) (m+1)
 |bo {g h p:D} {t u f:Str} {w v pw:af} {m n:Nat}:jd g t w m->jd h u v n->Hg p f pw->jd (oB g h p) (tB f t u pw) (⟨#[91]⟩::((f::(w++(v++pw)))++[⟨#[93]⟩])) (m+n+1)
theorem bj(x:Str):Txt.join " " [x]=x:=rfl
def au(x y:Str)(ys:af):ap (Txt.join " " (x::y::ys))=ap x++32::ap (Txt.join " " (y::ys)):=by
 have e:∀zs:af,Txt.join " " zs=Str.join " " zs:=StrLaws.glued_eq_join " ";rw[e,e];show ap (x++" "++Str.join " " (y::ys))=_;rw[ao,ao,UC];rfl
theorem gD:∀ys:af,(Txt.join " " ys).length<=(ys.map (·.length)).sum+ys.length
 |[]=>TH _
 |[x]=>by rw[bj,Tx,Vp];omega
 |x::y::ys=>by
  have ih:=gD (y::ys);rw[aB]at ih ⊢;rw[au,T1,Tw,Tx,Vp,Tw,<-aB x];omega
theorem lg:∀(ws:af)(t:Str)(w:af),Pc (ap t) w->(∀x∈ws,j8 x)->Pc (ap (Txt.join " " (t::ws))) (w++ws)
 |[],t,w,h,_=>by rw[bj,TJ];exact h
 |x::xs,t,w,h,k=>by
  rw[au];exact kF h (lg xs x [x] (kL (k x Tj)) λy hy=>k y (Tl _ hy))
def tD(a b:Nat)(t:Str):ap (((⟨#[a]⟩:Str)++t)++(⟨#[b]⟩:Str))=a::(ap t++[b]):=by
 rw[ao,ao];rfl
def zL:("(":Str)=⟨#[40]⟩:=by decide
def we:(")":Str)=⟨#[41]⟩:=by decide
def zQ:("[":Str)=⟨#[91]⟩:=by decide
def rQ:("]":Str)=⟨#[93]⟩:=by decide
def jj(t:Str)(sw:af):ap (tO t sw)=40::(ap (Txt.join " " (t::sw))++[41]):=by
 unfold tO;rw[zL,we,tD]
def jr(f t u:Str)(pw:af):ap (tB f t u pw)=91::(ap (Txt.join " " (f::t::u::pw))++[93]):=by
 unfold tB;rw[zQ,rQ,tD]
def jd.pc{g:D}{t:Str}{w:af}{m:Nat}(h:jd g t w m):Pc (ap t) w:=by
 induction h with
 |lf h=>exact kL h.w
 |ov _ s ih=>
  rw[jj];exact vR (by decide) (by decide) (by decide) (by decide) (lg _ _ _ ih s.ok)
 |bo _ _ p ih jh=>
  rw[jr,au,au];exact vR (by decide) (by decide) (by decide) (by decide) (kF (kL (p.ok _ Tj)) (kF ih (lg _ _ _ jh λx hx=>p.ok x (Tl _ hx))))
def jd.len{g:D}{t:Str}{w:af}{m:Nat}(h:jd g t w m):t.length<=300*m+100:=by
 induction h with
 |lf h=>have:=h.eig;omega
 |@ov g s t w sw m _ s ih=>
  have j:=gD (t::sw);rw[Tx,Vp,Tw,aB]at j
  have:=s.sm
  have:=s.ln
  rw[aB,jj,Tw,T1,T9];omega
 |@bo g h p t u f w v pw m n _ _ p ih jh=>
  have j:=gD (f::t::u::pw);rw[Tx,Vp,Tw,Tx,Vp,Tw,Tx,Vp,Tw,aB (Txt.join _ _)]at j;have q:=p.sm;rw[Tx,Vp]at q
  have:=p.ln
  rw[aB,jr,Tw,T1,T9];omega
theorem v8:∀ws:af,xf (ws.map .str)=true
 |[]=>rfl
 |w::ws=>by
  have:=v8 ws
  rw[Tx];show(pl (.str w)&&xf (ws.map .str))=true;rw[this];rfl
def Kd{ws:af}(h:ws≠[]):jc (.tup (ws.map .str)) (.tup [])=ag (.bl false):=by
 have e:pl (.tup (ws.map D.str))=true:=by rw[eA,v8]
 cases ws with
 |nil=>exact bt rfl h
 |cons w ws=>
  show(if(pl _&&pl _)&&(gB 8 _||gB 8 (.tup []))then _ else _)=_;rw[e,show gB 8 (.tup [])=true from rfl,Bool.or_true];rfl
def vS(ys:af)(h:(ys.map (·.length)).sum+ys.length<=90000):pR " " [.tup (ys.map .str)]=ag (.str (Txt.join " " ys)):=by
 show(jq (ys.map .str)).bind (λys=>if small ((ys.map (λy=>y.length)).sum+ys.length*(" ":Str).length)then ag (D.str (Txt.join " " ys))else am)=_;have e:(" ":Str).length=1:=by decide
 have h2:(ys.map (λy=>y.length)).sum+ys.length*(" ":Str).length<=100000:=by rw[e];omega
 rw[oQ];show(if small _ then _ else _)=_;rw[cm h2];rfl
def iS(x y:Str)(h:x.length+y.length<=90000):av (.str x) (.str y)=ag (.str (x++y)):=by
 show(if small (x.length+y.length)then _ else _)=_;rw[cm ‹0›];rfl
def PL{x:D}{xs:List D}:fh (.tup (x::xs)) (ag 1) am=ag (.tup xs):=by
 show ag (D.tup (cutD (x::xs) (ag 1) am))=_;rw[ke];rfl
def jd.shown{g:D}{t:Str}{w:af}{m:Nat}(h:jd g t w m):m<=12->∀n,m<n->cg n [g]=.ok (.str t):=by
 induction h with
 |@lf x h=>
  intro _ n hn;cases n with
  |zero=>omega
  |succ n=>
   rw[fk,aG];unfold jR;have j1:qL ["Over"] ["Leaf","Both"] (oL x)=ag (.bl false):=rfl;have j3:qL ["Both"] ["Leaf","Over"] (oL x)=ag (.bl false):=rfl;have g0:bV "name" ["Drop","Gather","Leaf","Nest","Unnest","Part","Fuse","Sieve"] (oL x)=ag (.str x):=rfl;simp! only[j1,j3,g0]
 |@ov g st t w sw m h s ih=>
  intro hm n hn;cases n with
  |zero=>omega
  |succ n=>
   have e:=ih ‹0› n ‹0›;have hl:=h.len;have s1:=s.sm;have s2:=s.ln;have jl:=gD (t::sw);have hs:((t::sw).map (·.length)).sum+(t::sw).length<=5000:=by
    rw[Tx,Vp,Tw];omega
   have a0:av (.tup [.str t]) (.tup (sw.map .str))=ag (.tup ((t::sw).map .str)):=qi _ _ (by rw[Tz,T9];omega);have jn:=vS (t::sw) ‹0›;have a1:=iS "(" (Txt.join " " (t::sw)) (by rw[show("(":Str).length=1 from by decide];omega);have a2:=iS ("("++Txt.join " " (t::sw)) ")" (by
    rw[show(")":Str).length=1 from by decide,aB,ao,T1,<-aB,<-aB,show("(":Str).length=1 from by decide];omega)
   have wd:=s.wd (f1 (bV "step" ["Over"]) (ae 0)) [‹oO g st›,am] rfl;have ne:=Kd s.ne;have g0:bV "glass" ["Over"] (oO g st)=ag g:=rfl;rw[fk,aG];unfold jR;have j1:qL ["Over"] ["Leaf","Both"] (oO g st)=ag (.bl true):=rfl;rw[Tx]at a0 jn;have tp1:nq ([]:List D)=ag (.tup []):=rfl;have tpx:∀a:D,nq [a]=ag (.tup [a]):=λ_=>rfl;simp! only[j1,wd,ne,g0,e,vx,a0,jn,a1,a2,tp1,tpx]
 |@bo g h pr t u f w v pw m n hg hh p ih jh=>
  intro hm k hn;cases k with
  |zero=>omega
  |succ k=>
   have e1:=ih ‹0› k ‹0›;have e2:=jh ‹0› k ‹0›;have l1:=hg.len;have l2:=hh.len;have s1:=p.sm;have s2:=p.ln;rw[Tx,Vp]at s1;have jl:=gD (f::t::u::pw);have hs:((f::t::u::pw).map (·.length)).sum+(f::t::u::pw).length<=9000:=by
    simp only[Tx,Vp,Tw];omega
   have a0:av (.tup [.str f,.str t,.str u]) (.tup (pw.map .str))=ag (.tup ((f::t::u::pw).map .str)):=qi _ _ (by rw[Tz];show 3+_<=_;omega);have jn:=vS (f::t::u::pw) ‹0›;have a1:=iS "[" (Txt.join " " (f::t::u::pw)) (by rw[show("[":Str).length=1 from by decide];omega);have a2:=iS ("["++Txt.join " " (f::t::u::pw)) "]" (by
    rw[show("]":Str).length=1 from by decide,aB,ao,T1,<-aB,<-aB,show("[":Str).length=1 from by decide];omega)
   have wd:=p.wd (f1 (bV "pair" ["Both"]) (ae 0)) [‹oB g h pr›,am] rfl;have g0:bV "one" ["Both"] (oB g h pr)=ag g:=rfl;have g1:bV "other" ["Both"] (oB g h pr)=ag h:=rfl;have i0:aX (.tup (.str f::pw.map .str)) (.int 0)=ag (.str f):=vV _ _;have sl:fh (.tup (.str f::pw.map .str)) (ag 1) am=ag (.tup (pw.map .str)):=PL;rw[fk,aG];unfold jR;have j1:qL ["Over"] ["Leaf","Both"] (oB g h pr)=ag (.bl false):=rfl;have j2:qL ["Both"] ["Leaf","Over"] (oB g h pr)=ag (.bl true):=rfl;rw[Tx]at wd;simp only[Tx]at a0 jn;simp! only[j1,j2,wd,i0,sl,g0,g1,e1,e2,vx,a0,jn,a1,a2,JC]
def fJ{ρ:aq}{xs ys:List D}{d:D}{g:cM}{h:aQ}{ds:List D}(e:ρ[0]?=ag (ag (.own (.lst xs))))(eh:h ρ=.ok ds)(eg:g (.lst xs::ds)=.ok (.tup [d,.lst ys])):bO 0 g h ρ=.ok (d,ys):=by
 unfold bO;rw[fI e,eh];show dec (g (.lst xs::ds))=_;rw[eg];rfl
def ej{k:Ks}{ρ ρ':aq}{i j:Nat}{F:qK}{d:D}{ys:List D}{B:bz}(h:F ρ=.ok (d,ys))(e:setV i d (ρ.set j (ag (.own (.lst ys))))=ρ'):aF (dQ i j F) B k ρ=B k ρ':=by
 rw[bS,vX h,e]
def Km(rest:List D)(w:Str)(ws:af):rest++(((w::ws).map D.str)).reverse=(rest++(ws.map D.str).reverse)++[.str w]:=by
 rw[Tx,T8,UC]
def MG(rest:List D)(us ws:af):rest++((us++ws).map D.str).reverse=(rest++(ws.map D.str).reverse)++(us.map D.str).reverse:=by
 rw[Uw,Vi,UC]
def AA{x:Str}(h:j8 x){c:Nat}(hc:BR.contains c=true):x≠⟨#[c]⟩:=λe=>by
 have:=(h.sg c (by rw[e];exact List.mem_singleton.mpr rfl)).2
 rw[hc]at this;cases this
def jd.read{g:D}{t:Str}{w:af}{m:Nat}(h:jd g t w m):∀(n:Nat)(rest:List D),m<n->ah n [.lst (rest++(w.map D.str).reverse)]=.ok (.tup [g,.lst rest]):=by
 induction h with
 |@lf x h=>
  intro n rest hn;cases n with
  |zero=>omega
  |succ n=>
   rw[bC];show aV _ K0 [ag (.own (.lst (rest++[.str x]))),am,am,am,am,am]=_;unfold aV;rw[ej (ρ':=[ag (.own (.lst rest)),‹.str x›,am,am,am,am]) (bX rfl) rfl];have b1:(x==("(":Str))=false:=(by rw[zL];simpa using AA h.w (c:=40) (by decide));have b2:(x==("[":Str))=false:=(by rw[zQ];simpa using AA h.w (c:=91) (by decide));rw[nG (b:=false) (by simp! only[b1]),br Tq,nG (b:=false) (by simp! only[b2]),br Tq];exact yH (xs:=rest) (by simp! only[gk h,eU]) rfl
 |@ov g st t w sw m h s ih=>
  intro n rest hn;cases n with
  |zero=>omega
  |succ n=>
   have u:=li ")" sw rest (λx hx=>by rw[we];exact AA (s.ok x hx) (by decide)) (by have:=s.ln;omega);have e:=ih n (rest++((sw++[(⟨#[41]⟩:Str)]).map D.str).reverse) ‹0›;rw[Km,UC w,MG,bC];show aV _ K0 [ag (.own (.lst (rest++((sw++[(⟨#[41]⟩:Str)]).map D.str).reverse++(w.map D.str).reverse++[.str ⟨#[40]⟩]))),am,am,am,am,am]=_;unfold aV;rw[ej (ρ':=[ag (.own (.lst (rest++((sw++[(⟨#[41]⟩:Str)]).map D.str).reverse++(w.map D.str).reverse))),‹.str ⟨#[40]⟩›,am,am,am,am]) (bX rfl) rfl];have b1:((⟨#[40]⟩:Str)==("(":Str))=true:=(by decide);rw[nG (b:=true) (by simp! only[b1]),ba rfl,ej (ρ':=[ag (.own (.lst (rest++((sw++[(⟨#[41]⟩:Str)]).map D.str).reverse))),‹.str ⟨#[40]⟩›,‹g›,am,am,am]) (fJ (ds:=[]) rfl rfl e) rfl];refine vW (xs:=rest++((sw++[(⟨#[41]⟩:Str)]).map D.str).reverse) (ys:=rest) ?_ rfl;have c:=fJ (ρ:=[ag (.own (.lst (rest++((sw++[(⟨#[41]⟩:Str)]).map D.str).reverse))),‹.str ⟨#[40]⟩›,‹g›,am,am,am]) (h:=aa (fC (.str ")")) aj) (ds:=[.str ")"]) rfl (by simp! only[]) (by rw[<-we];exact u);show fS _ _ _ [ag (.own (.lst (rest++((sw++[(⟨#[41]⟩:Str)]).map D.str).reverse))),‹.str ⟨#[40]⟩›,‹g›,am,am,am]=_;simp! only[fS,dI,dJ,x6,c,s.rd]
 |@bo g h pr t u f w v pw m n hg hh p ih jh=>
  intro k rest hn;cases k with
  |zero=>omega
  |succ k=>
   have un:=li "]" pw rest (λx hx=>by rw[rQ];exact AA (p.ok x (Tl _ hx)) (by decide)) (by have:=p.ln;omega);have e1:=ih k (rest++((pw++[(⟨#[93]⟩:Str)]).map D.str).reverse++(v.map D.str).reverse) ‹0›;have e2:=jh k (rest++((pw++[(⟨#[93]⟩:Str)]).map D.str).reverse) ‹0›;rw[Km,Ue,Km,UC w,UC v,MG,MG,bC];show aV _ K0 [ag (.own (.lst (rest++((pw++[(⟨#[93]⟩:Str)]).map D.str).reverse++(v.map D.str).reverse++(w.map D.str).reverse++[.str f]++[.str ⟨#[91]⟩]))),am,am,am,am,am]=_;unfold aV;rw[ej (ρ':=[ag (.own (.lst (rest++((pw++[(⟨#[93]⟩:Str)]).map D.str).reverse++(v.map D.str).reverse++(w.map D.str).reverse++[.str f]))),‹.str ⟨#[91]⟩›,am,am,am,am]) (bX rfl) rfl];have b1:((⟨#[91]⟩:Str)==("(":Str))=false:=(by decide);have b2:((⟨#[91]⟩:Str)==("[":Str))=true:=(by decide);rw[nG (b:=false) (by simp! only[b1]),br Tq,nG (b:=true) (by simp! only[b2]),ba rfl,
    ej (ρ':=[ag (.own (.lst (rest++((pw++[(⟨#[93]⟩:Str)]).map D.str).reverse++(v.map D.str).reverse++(w.map D.str).reverse))),‹.str ⟨#[91]⟩›,am,‹.str f›,am,am]) (bX rfl) rfl,
    ej (ρ':=[ag (.own (.lst (rest++((pw++[(⟨#[93]⟩:Str)]).map D.str).reverse++(v.map D.str).reverse))),‹.str ⟨#[91]⟩›,am,‹.str f›,‹g›,am]) (fJ (ds:=[]) rfl rfl e1) rfl,
    ej (ρ':=[ag (.own (.lst (rest++((pw++[(⟨#[93]⟩:Str)]).map D.str).reverse))),‹.str ⟨#[91]⟩›,am,‹.str f›,‹g›,‹h›]) (fJ (ds:=[]) rfl rfl e2) rfl]
   refine vW (xs:=rest++((pw++[(⟨#[93]⟩:Str)]).map D.str).reverse) (ys:=rest) ?_ rfl;have c:=fJ (ρ:=[ag (.own (.lst (rest++((pw++[(⟨#[93]⟩:Str)]).map D.str).reverse))),‹.str ⟨#[91]⟩›,am,‹.str f›,‹g›,‹h›]) (h:=aa (fC (.str "]")) aj) (ds:=[.str "]"]) rfl (by simp! only[]) (by rw[<-rQ];exact un);show fS _ _ _ [ag (.own (.lst (rest++((pw++[(⟨#[93]⟩:Str)]).map D.str).reverse))),‹.str ⟨#[91]⟩›,am,‹.str f›,‹g›,‹h›]=_;simp! only[fS,dI,dJ,x6,c,p.rd]
def EZ(x:Str)(c:Nat):yD x ⟨#[c]⟩=decide (c∈x.cps.toList):=StrLaws.found_one x c
def uD(bs:List Bool):qQ [.lst (bs.map .bl)]=ag (.bl (bs.all id)):=by
 show(allB (bs.map .bl)).bind (λb=>ag (D.bl b))=_;rw[tX];rfl
def qD(T:Str)(x:Str)(hl:x.length<=90000){ρ:aq}{j:Nat}(h:kT ρ j=.ok (.str x)):kD [am] (gO (ae j)) (gN 0) eF (f2 qE (ae 0) (fC (.str T))) ρ=.ok (.lst ((x.cps.toList.map λn=>decide (n∈T.cps.toList)).map .bl)):=by
 refine gI (ds:=y9 x) ?_ (by unfold y9;rw[Tz];show x.cps.toList.length<=_;rw[Array.length_toList];have:x.cps.size=x.length:=rfl;omega) ?_
 ·unfold gO;rw[show ae j ρ=.ok (.str x)from h];rfl
 ·unfold y9;rw[U7];refine gC (λn=>D.str ⟨#[n]⟩) _ _ λn hn=>⟨_,rfl,rfl,?_⟩
  have e:qE (.str ⟨#[n]⟩) (.str T)=ag (.bl (decide (n∈T.cps.toList))):=by show ag (D.bl (yD T ⟨#[n]⟩))=_;rw[EZ]
  simp! only[e];rfl
def mX(x:Str)(few:Int)(hl:x.length<=90000):∃b:Bool,az bH 2 2 [.str x,.int few]=.ok (.bl b)/\(b=true->few<=(x.length:Int)/\x.length<=8/\∀n∈x.cps.toList,n∈LT):=by
 have el:=jp hl;have f0:=qD LS x hl (ρ:=[‹.str x›,‹.int few›]) (j:=0) rfl;have ga:=uD (x.cps.toList.map λn=>decide (n∈LS.cps.toList));cases c1:decide (few<=(x.length:Int))with
 |false=>
  refine⟨false,?_,λz=>by cases z⟩;rw[bb];unfold bH;simp! only[C4,el,c1,Ts]
 |true=>
 cases c2:decide ((x.length:Int)<=8)with
 |false=>
  refine⟨false,?_,λz=>by cases z⟩;rw[bb];unfold bH;simp! only[C4,el,c1,c2,Ur]
 |true=>
  refine⟨(x.cps.toList.map λn=>decide (n∈LS.cps.toList)).all id,?_,λz=>⟨cr c1,by have:=cr c2;omega,λn hn=>?_⟩⟩
  ·rw[bb];unfold bH;simp! only[show("abcdefghijklmnopqrstuvwxyz":Str)=LS from rfl,C4,el,c1,c2,Vj,f0,ga]
  ·have:=List.all_eq_true.mp z _ (List.mem_map.mpr ⟨n,hn,rfl⟩)
   exact cr this
def pF(x:Str)(hl:x.length<=90000):az bR 1 1 [.str x]=nT\/(fY x/\az bR 1 1 [.str x]=.ok (.str x)):=by
 obtain⟨b,hb,h⟩:=mX x 1 hl;have n:az fK 1 1 [.str x]=.ok (.bl b):=by
  rw[aG];unfold fK;simp! only[hb]
 cases b with
 |true=>
  obtain⟨h1,h2,h3⟩:=h rfl;have ok:fY x:=⟨by omega,h2,h3⟩
  exact .inr ⟨ok,gk ok⟩
 |false=>
  left;rw[aG];unfold bR;simp! only[n,cc,ve]
def wH(x:Str)(hl:x.length<=90000):az bh 1 1 [.str x]=nT\/∃w,uG w/\az bh 1 1 [.str x]=.ok (.str w):=by
 have s:=eS x 46;have t:=ow hl;have lt:(mk ((ap x).drop 1)).length<=90000:=by rw[aB,cf,T5,<-aB];omega
 obtain⟨b,hb,h⟩:=mX (mk ((ap x).drop 1)) 0 lt;generalize mk ((ap x).drop 1)=y at *;cases c:decide ((ap x)[0]?=ag 46)with
 |false=>
  rw[c]at s;left;rw[aG];unfold bh;simp! only[gS,cn,s,cc,ve]
 |true=>
  rw[c]at s;cases b with
  |false=>
   left;rw[aG];unfold bh;simp! only[gS,cn,s,t,hb,cc,ve]
  |true=>
   obtain⟨_,h2,h3⟩:=h rfl;refine .inr ⟨y,⟨h2,h3⟩,?_⟩;rw[aG];unfold bh;simp! only[gS,cn,s,t,hb]
theorem JE:∀(cs:bJ)(a:Nat),NumText.AllDigits cs->cs.foldl (λacc c=>acc*10+(c-48)) a<(a+1)*10^cs.length
 |[],a,_=>by simp
 |c::cs,a,h=>by
  have hc:=h c Tj;have ih:=JE cs (a*10+(c-48)) λd hd=>h d (Tl _ hd);rw[List.foldl_cons,Tw,Nat.pow_succ];refine Td ih ?_
  have:(a*10+(c-48)+1)*10^cs.length<=((a+1)*10)*10^cs.length:=U6 _ ‹0›
  rw[Nat.mul_assoc,Nat.mul_comm 10 (10^cs.length)]at this;exact this
def Of{cs:bJ}(h:NumText.AllDigits cs)(hl:cs.length<=60):NumText.digitsVal cs<10^60:=by
 have:=JE cs 0 h
 rw[U8,Nat.one_mul]at this;exact Td this (Vm (by decide) hl)
def zR:Cj.cps.toList=List.range' 48 10:=by decide
def pZ(x:Str)(hl:x.length<=90000):az aZ 1 2 [.str x]=nT\/∃n:Int,n.natAbs<10^60/\az aZ 1 2 [.str x]=.ok (.int n):=by
 have s:=eS x 45;have tl:=ow hl;obtain⟨y,hy,ey⟩:∃y:Str,y.length<=90000/\((decide ((ap x)[0]?=ag 45)=true/\y=mk ((ap x).drop 1))\/(decide ((ap x)[0]?=ag 45)=false/\y=x)):=by
  cases c:decide ((ap x)[0]?=ag 45)with
  |true=>exact⟨mk ((ap x).drop 1),by rw[aB,cf,T5,<-aB];omega,.inl ⟨rfl,rfl⟩⟩
  |false=>exact⟨x,hl,.inr ⟨rfl,rfl⟩⟩
 have el:=jp hy;have f0:=qD Cj y hy (ρ:=[‹.str x›,‹.str y›]) (j:=1) rfl;have ga:=uD (y.cps.toList.map λn=>decide (n∈Cj.cps.toList));have e1:Jy (bW (gd (ae 0) (aa (fC (.str ⟨#[45]⟩)) aj))) (cN (ae 0) (dY (fC (.int 1))) cj) (ae 0) [‹.str x›,am]=.ok (.str y):=by
  rcases ey with⟨c,e⟩|⟨c,e⟩<;>rw[c]at s<;>subst e
  ·simp! only[cn,s,tl]
  ·simp! only[cn,s]
 have e1:Jy (bW (gd (ae 0) (aa (fC (.str ⟨#[45]⟩)) aj))) (cN (ae 0) (dY (fC (.int 1))) cj) (ae 0) (env0 2 [.str x])=.ok (.str y):=e1;cases c1:decide ((1:Int)<=(y.length:Int))with
 |false=>
  left;rw[aG];unfold aZ;rw[gG,bS,eX,e1];simp! only[el,c1,Ts,cc,ve]
 |true=>
 cases c2:decide ((y.length:Int)<=60)with
 |false=>
  left;rw[aG];unfold aZ;rw[gG,bS,eX,e1];simp! only[el,c1,c2,Ur,cc,ve]
 |true=>
 cases c3:(y.cps.toList.map λn=>decide (n∈Cj.cps.toList)).all id with
 |false=>
  rw[c3]at ga;left;rw[aG];unfold aZ;rw[gG,bS,eX,e1];simp! only[show("0123456789":Str)=Cj from rfl,el,c1,c2,Vj,f0,ga,cc,ve]
 |true=>
  rw[c3]at ga;have ad:NumText.AllDigits (ap y):=λc hc=>by
   have:=List.all_eq_true.mp c3 _ (List.mem_map.mpr ⟨c,hc,rfl⟩)
   have:=cr this
   rw[zR]at this;obtain⟨i,hi,rfl⟩:=List.mem_range'.mp this;omega
  have l1:=cr c1;have l2:=cr c2;have ly:=aB y;have ne:ap y≠[]:=λz=>by rw[z]at ly;simp at ly;omega
  have bd:=Of ad ‹0›;right;rcases ey with⟨c,e⟩|⟨c,e⟩
  ·have hx:ap x=45::ap y:=by
    rw[e,cf];have c:=cr c;cases hh:ap x with
    |nil=>rw[hh]at c;cases c
    |cons a r=>rw[hh]at c;rw[<-Option.some.inj c];rfl
   have lx:x.length=y.length+1:=(by rw[aB,hx,Tw,<-aB]);have it:mY [.str x]=ag (.int (-((NumText.digitsVal (ap y):Nat):Int))):=by
    have e:=intText_neg (x:=x) hx ad ne ‹0›;show qe x=_;unfold qe;rw[ba ‹0›,e];rfl
   refine⟨-((NumText.digitsVal (ap y):Nat):Int),by rw[Int.natAbs_neg];exact bd,?_⟩;rw[aG];unfold aZ;rw[gG,bS,eX,e1];simp! only[show("0123456789":Str)=Cj from rfl,el,c1,c2,Vj,f0,ga,it]
  ·subst e;have it:mY [.str y]=ag (.int ((NumText.digitsVal (ap y):Nat):Int)):=by
    have e:=intText_digits (x:=y) ad ne ‹0›;show qe y=_;unfold qe;rw[ba ‹0›,e];rfl
   refine⟨((NumText.digitsVal (ap y):Nat):Int),bd,?_⟩;rw[aG];unfold aZ;rw[gG,bS,eX,e1];simp! only[show("0123456789":Str)=Cj from rfl,el,c1,c2,Vj,f0,ga,it]
def VS(s:Str)(v:D):Prop:=(s="name"/\∃y,fY y/\v=.str y)\/(s="number"/\∃n:Int,n.natAbs<10^60/\v=.int n)\/(s="value"/\((∃n:Int,n.natAbs<10^60/\v=.int n)\/∃w,uG w/\v=.str w))
def sorts:af:=["name","number","value"]
def rS(s x:Str)(hs:s∈sorts)(hl:x.length<=90000):az aA 2 2 [.str s,.str x]=nT\/∃v,VS s v/\az aA 2 2 [.str s,.str x]=.ok v:=by
 simp only[sorts,UH,UI,or_false]at hs;rcases hs with rfl|rfl|rfl
 ·rcases pF x hl with h|⟨ok,h⟩
  ·left;rw[bb];unfold aA;simp! only[BEq.rfl,h]
  ·exact .inr ⟨_,.inl ⟨rfl,x,ok,rfl⟩,v_name ok⟩
 ·rcases pZ x hl with h|⟨n,hn,h⟩
  ·left;rw[bb];unfold aA;simp! only[BEq.rfl,nJ,h]
  ·refine .inr ⟨_,.inr (.inl ⟨rfl,n,hn,rfl⟩),?_⟩;rw[bb];unfold aA;simp! only[BEq.rfl,nJ,h]
 ·have s:=eS x 46;cases c:decide ((ap x)[0]?=ag 46)with
  |false=>
   rw[c]at s;rcases pZ x hl with h|⟨n,hn,h⟩
   ·left;rw[bb];unfold aA;simp! only[gS,cn,jM,jW,s,h]
   ·refine .inr ⟨_,.inr (.inr ⟨rfl,.inl ⟨n,hn,rfl⟩⟩),?_⟩;rw[bb];unfold aA;simp! only[gS,cn,jM,jW,s,h]
  |true=>
   rw[c]at s;rcases wH x hl with h|⟨w,hw,h⟩
   ·left;rw[bb];unfold aA;simp! only[gS,cn,jM,jW,s,h]
   ·refine .inr ⟨_,.inr (.inr ⟨rfl,.inr ⟨w,hw,rfl⟩⟩),?_⟩;rw[bb];unfold aA;simp! only[gS,cn,jM,jW,s,h]
theorem yu:∀ss ws:af,iL (ss.map D.str) (ws.map D.str)=(ss.zip ws).map λp=>.tup [.str p.1,.str p.2]
 |[],ws=>by cases ws<;>rfl
 |_::_,[]=>rfl
 |s::ss,w::ws=>by
  show _::iL _ _=_;rw[yu ss ws];rfl
theorem Gs.fst{P:Str->D->Prop}:∀{ss ws:af}{vs:List D},ss.length=ws.length->Gs (λ(p:Str×Str) v=>P p.1 v) (ss.zip ws) vs->Gs P ss vs
 |[],[],_,_,h=>by cases h;exact .nil
 |[],_::_,_,e,_=>by cases e
 |_::_,[],_,e,_=>by cases e
 |s::ss,w::ws,vs,e,h=>by
  cases h with
  |cons p r=>exact .cons p (Gs.fst (Nat.succ.inj e) r)
def kf(ss ws:af)(hs:∀s∈ss,s∈sorts)(hw:∀w∈ws,w.length<=90000)(hl:ss.length<=100):az aM 2 2 [.kt ss,.lst (ws.map .str)]=nT\/∃vs,Gs VS ss vs/\az aM 2 2 [.kt ss,.lst (ws.map .str)]=.ok (.lst vs):=by
 have e1:fz [.kt ss]=ag (.int (ss.length:Int)):=rfl;have e2:fz [.lst (ws.map .str)]=ag (.int (ws.length:Int)):=by show ag (D.int ((ws.map D.str).length:Int))=_;rw[Tz]
 cases c:((ss.length:Int)==(ws.length:Int))with
 |false=>
  left;rw[bb];unfold aM;generalize D.lst (ws.map .str)=b at *;simp! only[e1,e2,c,cc,ve]
 |true=>
  have el:ss.length=ws.length:=by have:=eq_of_beq c;omega
  have hz:xS (aa (ae 0) (aa (ae 1) aj)) [‹.kt ss›,‹.lst (ws.map .str)›]=.ok ((ss.zip ws).map λp=>.tup [.str p.1,.str p.2]):=by
   show(rO (ag (iL (ss.map D.str) (ws.map D.str))))=_;rw[yu];rfl
  have la:=nV (ρ:=inB [am,am] [‹.kt ss›,‹.lst (ws.map .str)›]) (g:=gT 2 (vc [0,1])) (Fe:=fR (az aA 2 2) (aa (ae 0) (aa (ae 1) aj))) (x:=⟨"NoText",[],[]⟩) (λp:Str×Str=>D.tup [.str p.1,.str p.2]) (λp v=>VS p.1 v) (ss.zip ws) λp hp=>⟨_,rfl,by
   have m:=TL (a:=p.1) (b:=p.2) hp;rcases rS p.1 p.2 (hs _ m.1) (hw _ m.2)with h|⟨v,hv,h⟩
   ·left;simp! only[h]
   ·exact .inr ⟨v,hv,by simp! only[h]⟩⟩
  have lz:((ss.zip ws).map λp:Str×Str=>D.tup [.str p.1,.str p.2]).length<=100000:=by rw[Tz,UX];omega
  rcases la with la|⟨vs,hv,la⟩
  ·left;have f0:=nX hz lz la;rw[bb];unfold aM;generalize D.lst (ws.map .str)=b at *;simp! only[e1,e2,c,f0]
  ·refine .inr ⟨vs,hv.fst el,?_⟩;have f0:=jx hz lz la;rw[bb];unfold aM;generalize D.lst (ws.map .str)=b at *;simp! only[e1,e2,c,f0]
def J1:¬("name":Str)="number":=by decide
def JT:¬("name":Str)="value":=by decide
def JI:¬("number":Str)="value":=by decide
def VS.nm{v:D}(h:VS "name" v):∃y,fY y/\v=.str y:=by
 rcases h with⟨_,h⟩|⟨z,_⟩|⟨z,_⟩
 ·exact h
 ·exact bt z J1
 ·exact bt z JT
def VS.nb{v:D}(h:VS "number" v):∃n:Int,n.natAbs<10^60/\v=.int n:=by
 rcases h with⟨z,_⟩|⟨_,h⟩|⟨z,_⟩
 ·exact bt z.symm J1
 ·exact h
 ·exact bt z JI
def VS.vl{v:D}(h:VS "value" v):(∃n:Int,n.natAbs<10^60/\v=.int n)\/∃w,uG w/\v=.str w:=by
 rcases h with⟨z,_⟩|⟨z,_⟩|⟨_,h⟩
 ·exact bt z.symm JT
 ·exact bt z.symm JI
 ·exact h
def Nn{ws:af}(h:∀k,(hk:k+1<ws.length)->ws[k].cps.toList<ws[k+1].cps.toList):Up ws:=by
 refine List.pairwise_iff_getElem.mpr λi j hi hj hij=>?_
 induction j with
 |zero=>omega
 |succ j ih=>
  by_cases z:i=j
  ·subst z;exact h i hj
  ·exact List.lt_trans (ih ‹0› ‹0›) (h j hj)
def BH(ws:af)(h4:∀w∈ws,uG w)(hl:ws.length<=90000):∃b:Bool,az bZ 1 1 [nZ ws]=.ok (.bl b)/\(b=true->ws≠[]/\ws.length<=12/\Up ws):=by
 have aw:∃b:Bool,az cY 1 1 [.tup (ws.map .str)]=.ok (.bl b)/\(b=true->ws≠[]/\ws.length<=12/\Up ws):=by
  cases c1:decide ((1:Int)<=(ws.length:Int))with
  |false=>
   refine⟨false,?_,λz=>by cases z⟩;rw[aG];unfold cY;simp! only[Fj,Tz,c1,Ts]
  |true=>
  cases c2:decide ((ws.length:Int)<=12)with
  |false=>
   refine⟨false,?_,λz=>by cases z⟩;rw[aG];unfold cY;simp! only[Fj,Tz,c1,c2,Ur]
  |true=>
   have k1:=cr c1;have k2:=cr c2;have f0:kD [am] (fj (ae 0)) (gN 0) eF (fR (az bH 2 2) (aa (ae 0) (aa (fC (.int 0)) aj))) [‹.tup (ws.map .str)›]=.ok (.lst (ws.map λ_=>.bl true)):=by
    refine gI (ds:=ws.map .str) (by simp! only[]) (by rw[Tz];omega) ?_;refine gC D.str _ ws λw hw=>⟨_,rfl,rfl,?_⟩
    have l:=gg w 0 ‹0› (h4 w hw).eig (h4 w hw).lts;simp! only[l]
   have rg:jU [.int ((ws.length:Int)-1)]=ag (eR 0 (ws.length-1)):=by
    rw[show(ws.length:Int)-1=((ws.length-1:Nat):Int)by omega];exact me _ ‹0›
   have f1:kD [am,ag 0] (gh (aa (f2 Bb (fL fz (aa (ae 0) aj)) (fC (.int 1))) aj)) (gN 0) eF (f2 mn (f2 aX (ae 1) (ae 0)) (f2 aX (ae 1) (f2 av (ae 0) (fC (.int 1))))) [‹.tup (ws.map .str)›]=.ok (.lst (((List.range (ws.length-1)).map λk=>decide ((ws.getD k "").cps.toList<(ws.getD (k+1) "").cps.toList)).map .bl)):=by
    refine gI (ds:=eR 0 (ws.length-1)) (by simp! only[Tz,rg]) (by rw[iJ];omega) ?_;rw[rq,U7];refine gC (λ(k:Nat)=>D.int (0+(k:Int))) _ _ λk hk=>⟨_,rfl,rfl,?_⟩
    have hk:=List.mem_range.mp hk;have i1:aX (.tup (ws.map .str)) (.int (k:Int))=ag (.str (ws.getD k "")):=(by rw[Ij,iy,gw ‹0›,U9,Um ‹0›];rfl);have i2:aX (.tup (ws.map .str)) (.int ((k:Int)+1))=ag (.str (ws.getD (k+1) "")):=by
     rw[show(k:Int)+1=((k+1:Nat):Int)by omega,Ij,iy,gw ‹0›,U9,Um ‹0›];rfl
    rw[Int.zero_add];simp! only[i1,i2];rfl
   have ga:=uD ((List.range (ws.length-1)).map λk=>decide ((ws.getD k "").cps.toList<(ws.getD (k+1) "").cps.toList));refine⟨((List.range (ws.length-1)).map λk=>decide ((ws.getD k "").cps.toList<(ws.getD (k+1) "").cps.toList)).all id,?_,λz=>⟨λe=>(by rw[e]at k1;simp at k1),by omega,Nn λk hk=>?_⟩⟩
   ·rw[aG];unfold cY;simp! only[Fj,Tz,c1,c2,Vj,f0,jk,f1,ga]
   ·have:=List.all_eq_true.mp z _ (List.mem_map.mpr ⟨k,List.mem_range.mpr ‹0›,rfl⟩)
    have:=cr this
    rw[U9,Um ‹0›,U9,Um hk]at this;exact this
 obtain⟨b,hb,h⟩:=aw;refine⟨b,?_,h⟩;rw[aG];unfold bZ nZ;simp! only[Rw,BEq.rfl,hb,Bool.true_and]
def pY(a:Str)(ws:af)(h4:∀w∈ws,uG w)(hl:ws.length<=90000):az aW 2 2 [.str a,nZ ws]=nT\/((ws≠[]/\ws.length<=12/\Up ws)/\az aW 2 2 [.str a,nZ ws]=.ok (oS a (nZ ws))):=by
 obtain⟨b,e,h⟩:=BH ws h4 hl;have f:=wt (.tup (ws.map .str));unfold nZ at *;generalize D.tup (ws.map .str)=x at *;cases b with
 |false=>
  left;rw[bb];unfold aW;simp! only[e,f,cc,ve]
 |true=>
  refine .inr ⟨h rfl,?_⟩;rw[bb];unfold aW;simp! only[e,f,eU]
def vU(a:Str)(lo hi:Int)(h:¬lo<=hi):az aW 2 2 [.str a,kN lo hi]=nT:=by
 have e:decide (lo<=hi)=false:=cb h;have f1:az bG 1 1 [kN lo hi]=.ok (.bl false):=by
  rw[aG];unfold bG;simp! only[RE,whole,BEq.rfl,e,Vj,Ur]
 have f2':az bZ 1 1 [kN lo hi]=.ok (.bl false):=by
  rw[aG];unfold bZ;simp! only[SZ,Ts]
 rw[bb];unfold aW;simp! only[f1,f2',cc,ve]
def Ck(f g:R D)(h:∀d,f=.ok d->g=.ok d)(hn:f=un->g=un)(hx:∀x,f=.error (ag x)->g=.error (ag x)):g=f:=by
 cases f with
 |ok d=>exact h d rfl
 |error z=>
  cases z with
  |none=>exact hn rfl
  |some x=>exact hx x rfl
def nU{f:Str}{ws:af}{ss:af}{vs:List D}(hk:(f==("keep":Str))=false)(hd:dR.lookup f=ag ss)(hv:az aM 2 2 [.kt ss,.lst (ws.map .str)]=.ok (.lst vs)):az aE 1 1 [.lst ((f::ws).map .str)]=az aR 2 2 [.str f,.lst vs]:=by
 have hn:uw dR (.str f)=ag (.bl false):=by show ag (D.bl (!(dR.lookup f).isSome))=_;rw[hd];rfl
 have hd:B5 dR (.str f)=ag (.kt ss):=by show(dR.lookup f).map D.kt=_;rw[hd];rfl
 rw[aG];unfold aE;rw[Tx];generalize ws.map D.str=l at *;refine Ck _ _ (λd e=>?_) (λe=>?_) λx e=>?_
 ·simp! only[Vn,hk,hn,hd,ke,Uj,Ui,hv,e]
 ·simp! only[Vn,hk,hn,hd,ke,Uj,Ui,hv,e];rfl
 ·simp! only[Vn,hk,hn,hd,ke,Uj,Ui,hv,e]
def pq{f:Str}{ws:af}{ss:af}(hk:(f==("keep":Str))=false)(hd:dR.lookup f=ag ss)(hv:az aM 2 2 [.kt ss,.lst (ws.map .str)]=nT):az aE 1 1 [.lst ((f::ws).map .str)]=nT:=by
 have hn:uw dR (.str f)=ag (.bl false):=by show ag (D.bl (!(dR.lookup f).isSome))=_;rw[hd];rfl
 have hd:B5 dR (.str f)=ag (.kt ss):=by show(dR.lookup f).map D.kt=_;rw[hd];rfl
 rw[aG];unfold aE;rw[Tx];generalize ws.map D.str=l at *;simp! only[Vn,hk,hn,hd,ke,Uj,Ui,hv]
def oV{f:Str}{ws:af}(hk:(f==("keep":Str))=false)(hd:dR.lookup f=am):az aE 1 1 [.lst ((f::ws).map .str)]=nT:=by
 have hn:uw dR (.str f)=ag (.bl true):=by show ag (D.bl (!(dR.lookup f).isSome))=_;rw[hd];rfl
 rw[aG];unfold aE;rw[Tx];generalize ws.map D.str=l at *;simp! only[Vn,hk,hn,cc,ve]
def vI:az aE 1 1 [.lst []]=nT:=by
 rw[aG];unfold aE;simp! only[List.isEmpty_nil,cc,ve]
def n8(ws:af):az aE 1 1 [.lst ((("keep":Str)::ws).map .str)]=az bF 1 1 [.lst (ws.map .str)]:=by
 rw[aG];unfold aE;rw[Tx];generalize ws.map D.str=l at *;refine Ck _ _ (λd e=>?_) (λe=>?_) λx e=>?_
 ·simp! only[Vn,BEq.rfl,ke,Uj,Ui,e]
 ·simp! only[Vn,BEq.rfl,ke,Uj,Ui,e];rfl
 ·simp! only[Vn,BEq.rfl,ke,Uj,Ui,e]
def keep_nil:az bF 1 1 [.lst []]=nT:=by
 rw[aG];unfold bF;simp! only[List.isEmpty_nil,cc,ve]
def wG(a:Str)(ws:af)(h:az bR 1 1 [.str a]=nT):az bF 1 1 [.lst ((a::ws).map .str)]=nT:=by
 rw[aG];unfold bF;rw[Tx];generalize ws.map D.str=l at *;simp! only[Vn,h]
abbrev QU:FX:=mw [am] (fj (cN (ae 0) (dY (fC (.int 1))) cj)) (gN 0) (fR (az bh 1 1) (aa (ae 0) aj))
def wu{a:Str}{ws:af}(ha:fY a)(h:QU [‹.lst (.str a::ws.map .str)›]=nT):az bF 1 1 [.lst ((a::ws).map .str)]=nT:=by
 have n:=gk ha;rw[aG];unfold bF;rw[Tx];generalize ws.map D.str=l at *;simp! only[Vn,n,h]
def zD{a:Str}{ws us:af}(ha:fY a)(h:QU [‹.lst (.str a::ws.map .str)›]=.ok (.lst (us.map .str))):az bF 1 1 [.lst ((a::ws).map .str)]=az aW 2 2 [.str a,nZ us]:=by
 have n:=gk ha;unfold nZ;rw[aG];unfold bF;rw[Tx];generalize ws.map D.str=l at *;refine Ck _ _ (λd e=>?_) (λe=>?_) λx e=>?_
 ·simp! only[Vn,n,h,Gu,e]
 ·simp! only[Vn,n,h,Gu,e];rfl
 ·simp! only[Vn,n,h,Gu,e]
theorem Gs.words:∀{ws:af}{vs:List D},Gs (λ_ v=>∃w,uG w/\v=.str w) ws vs->∃us:af,us.length=ws.length/\(∀u∈us,uG u)/\vs=us.map .str
 |_,_,.nil=>⟨[],rfl,(λu hu=>by cases hu),rfl⟩
 |_,_,.cons ⟨w,hw,e⟩ r=>by
  obtain⟨us,h1,h2,h3⟩:=r.words;refine⟨w::us,by rw[Tw,Tw,h1],λu hu=>?_,by rw[e,h3];rfl⟩;rcases List.mem_cons.mp hu with z|z
  ·rw[z];exact hw
  ·exact h2 u z
def SQ(r:R D):Prop:=r=nT\/∃s sw,kU s sw/\r=.ok s
def Ez(ws:af)(hw:∀w∈ws,w.length<=90000)(hl:ws.length<=10000):SQ (az bF 1 1 [.lst (ws.map .str)]):=by
 cases ws with
 |nil=>exact .inl keep_nil
 |cons a ws=>
  rcases pF a (hw a Tj)with h|⟨ha,_⟩
  ·exact .inl (wG a ws h)
  rw[Tw]at hl;have hi:fj (cN (ae 0) (dY (fC (.int 1))) cj) [‹.lst (.str a::ws.map .str)›]=.ok (ws.map .str):=by simp! only[ke,Uj,Ui]
  have la:=nV (ρ:=inB [am] [‹.lst (.str a::ws.map .str)›]) (g:=gN 0) (Fe:=fR (az bh 1 1) (aa (ae 0) aj)) (x:=⟨"NoText",[],[]⟩) D.str (λ_ v=>∃w,uG w/\v=.str w) ws λw hw'=>⟨_,rfl,by
   rcases wH w (hw w (Tl _ hw'))with h|⟨u,hu,h⟩
   ·left;simp! only[h]
   ·exact .inr ⟨_,⟨u,hu,rfl⟩,by simp! only[h]⟩⟩
  have lz:(ws.map D.str).length<=100000:=by rw[Tz];omega
  rcases la with la|⟨vs,hv,la⟩
  ·exact .inl (wu ha (nX hi lz la))
  obtain⟨us,h1,h2,rfl⟩:=hv.words;have k:=zD ha (jx hi lz la);rcases pY a us h2 ‹0›with h|⟨⟨c1,c2,c3⟩,h⟩
  ·exact .inl (k.trans h)
  ·exact .inr ⟨_,_,zA ha c1 c2 c3 h2,k.trans h⟩
def C6(f:Str):dR.lookup f=am\/(f="rename"/\dR.lookup f=ag (["name","name"]:af))\/(f="part"/\dR.lookup f=ag (["name","number","name","name"]:af))\/(f="fuse"/\dR.lookup f=ag (["name","name","number","name"]:af))\/(f="drop"/\dR.lookup f=ag (["name","value"]:af))\/(f="sieve"/\dR.lookup f=ag (["name","number","number"]:af))\/(f="nest"/\dR.lookup f=ag (["number","name"]:af))\/(f="unnest"/\dR.lookup f=ag (["name"]:af)):=by
 by_cases h1:f="rename"
 ·subst h1;exact .inr (.inl ⟨rfl,rfl⟩)
 by_cases h2:f="part"
 ·subst h2;exact .inr (.inr (.inl ⟨rfl,rfl⟩))
 by_cases h3:f="fuse"
 ·subst h3;exact .inr (.inr (.inr (.inl ⟨rfl,rfl⟩)))
 by_cases h4:f="drop"
 ·subst h4;exact .inr (.inr (.inr (.inr (.inl ⟨rfl,rfl⟩))))
 by_cases h5:f="sieve"
 ·subst h5;exact .inr (.inr (.inr (.inr (.inr (.inl ⟨rfl,rfl⟩)))))
 by_cases h6:f="nest"
 ·subst h6;exact .inr (.inr (.inr (.inr (.inr (.inr (.inl ⟨rfl,rfl⟩))))))
 by_cases h7:f="unnest"
 ·subst h7;exact .inr (.inr (.inr (.inr (.inr (.inr (.inr ⟨rfl,rfl⟩))))))
 left;have n:∀{k:Str},¬f=k->(f==k)=false:=λh=>by simpa using h
 simp only[dR,Ub,n h1,n h2,n h3,n h4,n h5,n h6,n h7,List.lookup_nil]
def step_any(ws:af)(hw:∀w∈ws,w.length<=90000)(hl:ws.length<=10000):SQ (az aE 1 1 [.lst (ws.map .str)]):=by
 cases ws with
 |nil=>exact .inl vI
 |cons f ws=>
  have hw':∀w∈ws,w.length<=90000:=λw h=>hw w (Tl _ h);rw[Tw]at hl;cases hk:f==("keep":Str)with
  |true=>
   rw[eq_of_beq hk,n8];exact Ez ws hw' ‹0›
  |false=>
  have go:∀{ss:af},dR.lookup f=ag ss->(∀s∈ss,s∈sorts)->ss.length<=100->(∀vs,Gs VS ss vs->SQ (az aR 2 2 [.str f,.lst vs]))->SQ (az aE 1 1 [.lst ((f::ws).map .str)]):=λ{ss} e hs hl' k=>by
   rcases kf ss ws hs hw' hl' with h|⟨vs,hv,h⟩
   ·exact .inl (pq hk e h)
   ·rw[nU hk e h];exact k vs hv
  rcases C6 f with e|⟨rfl,e⟩|⟨rfl,e⟩|⟨rfl,e⟩|⟨rfl,e⟩|⟨rfl,e⟩|⟨rfl,e⟩|⟨rfl,e⟩
  ·exact .inl (oV hk e)
  ·refine go e (by decide) (by decide) λvs hv=>?_;cases hv with
   |cons a hv=>cases hv with
    |cons b hv=>
     cases hv;obtain⟨x,hx,rfl⟩:=a.nm;obtain⟨y,hy,rfl⟩:=b.nm;exact .inr ⟨_,_,su hx hy,rA⟩
  ·refine go e (by decide) (by decide) λvs hv=>?_;cases hv with
   |cons a hv=>cases hv with
    |cons b hv=>cases hv with
     |cons c hv=>cases hv with
      |cons d hv=>
       cases hv;obtain⟨x,hx,rfl⟩:=a.nm;obtain⟨n,hn,rfl⟩:=b.nb;obtain⟨y,hy,rfl⟩:=c.nm;obtain⟨z,hz,rfl⟩:=d.nm;exact .inr ⟨_,_,zf hx hn hy hz,zB⟩
  ·refine go e (by decide) (by decide) λvs hv=>?_;cases hv with
   |cons a hv=>cases hv with
    |cons b hv=>cases hv with
     |cons c hv=>cases hv with
      |cons d hv=>
       cases hv;obtain⟨x,hx,rfl⟩:=a.nm;obtain⟨y,hy,rfl⟩:=b.nm;obtain⟨n,hn,rfl⟩:=c.nb;obtain⟨z,hz,rfl⟩:=d.nm;exact .inr ⟨_,_,yL hx hy hn hz,zH⟩
  ·refine go e (by decide) (by decide) λvs hv=>?_;cases hv with
   |cons a hv=>cases hv with
    |cons b hv=>
     cases hv;obtain⟨x,hx,rfl⟩:=a.nm;rcases b.vl with⟨n,hn,rfl⟩|⟨w,hw,rfl⟩
     ·exact .inr ⟨_,_,pQ hx hn,lO⟩
     ·exact .inr ⟨_,_,vO hx hw,lO⟩
  ·refine go e (by decide) (by decide) λvs hv=>?_;cases hv with
   |cons a hv=>cases hv with
    |cons b hv=>cases hv with
     |cons c hv=>
      cases hv;obtain⟨x,hx,rfl⟩:=a.nm;obtain⟨lo,hlo,rfl⟩:=b.nb;obtain⟨hi,hhi,rfl⟩:=c.nb;rw[vQ];by_cases h:lo<=hi
      ·exact .inr ⟨_,_,vy hx hlo hhi h,CH h⟩
      ·exact .inl (vU x lo hi h)
  ·refine go e (by decide) (by decide) λvs hv=>?_;cases hv with
   |cons a hv=>cases hv with
    |cons b hv=>
     cases hv;obtain⟨n,hn,rfl⟩:=a.nb;obtain⟨x,hx,rfl⟩:=b.nm;exact .inr ⟨_,_,uk hn hx,tq⟩
  ·refine go e (by decide) (by decide) λvs hv=>?_;cases hv with
   |cons a hv=>
    cases hv;obtain⟨x,hx,rfl⟩:=a.nm;exact .inr ⟨_,_,rL hx,se⟩
def PQ(f:Str)(r:R D):Prop:=r=nT\/∃p pw,Hg p f pw/\r=.ok p
def DB{f:Str}(ws:af)(h:cE.lookup f=am):az bn 2 3 [.str f,.lst (ws.map .str)]=nT:=by
 have hn:uw cE (.str f)=ag (.bl true):=by show ag (D.bl (!(cE.lookup f).isSome))=_;rw[h];rfl
 rw[bb];unfold bn;generalize ws.map D.str=l at *;simp! only[hn,cc,ve]
def vZ{f:Str}{ss:af}{ws:af}(h:cE.lookup f=ag ss)(hv:az aM 2 2 [.kt ss,.lst (ws.map .str)]=nT):az bn 2 3 [.str f,.lst (ws.map .str)]=nT:=by
 have hn:uw cE (.str f)=ag (.bl false):=by show ag (D.bl (!(cE.lookup f).isSome))=_;rw[h];rfl
 have hd:B5 cE (.str f)=ag (.kt ss):=by show(cE.lookup f).map D.kt=_;rw[h];rfl
 rw[bb];unfold bn;generalize ws.map D.str=l at *;simp! only[hn,hd,hv]
def Fd(f:Str)(ws:af)(hw:∀w∈ws,w.length<=90000):PQ f (az bn 2 3 [.str f,.lst (ws.map .str)]):=by
 by_cases h1:f="join"
 ·subst h1;rcases kf [] ws (by decide) hw (by decide)with h|⟨vs,hv,h⟩
  ·exact .inl (vZ rfl h)
  ·cases hv;refine .inr ⟨_,_,zS,?_⟩;have hn:uw cE (.str "join")=ag (.bl false):=rfl;have hd:B5 cE (.str "join")=ag (.kt []):=rfl;rw[bb];unfold bn;generalize ws.map D.str=l at *;simp! only[hn,hd,h,BEq.rfl]
 by_cases h2:f="gather"
 ·subst h2;rcases kf ["name"] ws (by decide) hw (by decide)with h|⟨vs,hv,h⟩
  ·exact .inl (vZ rfl h)
  ·cases hv with
   |cons a hv=>
    cases hv;obtain⟨x,hx,rfl⟩:=a.nm;refine .inr ⟨_,_,ro hx,?_⟩;have hn:uw cE (.str "gather")=ag (.bl false):=rfl;have hd:B5 cE (.str "gather")=ag (.kt ["name"]):=rfl;have bq:(("gather":Str)==("join":Str))=false:=(by decide);rw[bb];unfold bn;generalize ws.map D.str=l at *;simp! only[hn,hd,h,bq,eU]
 left;have n:∀{k:Str},¬f=k->(f==k)=false:=λh=>by simpa using h
 exact DB ws (by simp only[cE,Ub,n h1,n h2,List.lookup_nil])
abbrev rv(ws:af):D:=.lst (ws.map D.str).reverse
def ut(w:Str)(ws:af):rv (w::ws)=.lst ((ws.map D.str).reverse++[.str w]):=by
 show D.lst _=_;rw[Tx,T8]
noncomputable abbrev lp:Str:=⟨#[40]⟩
noncomputable abbrev lb:Str:=⟨#[91]⟩
section
variable{k:Ks}{ρ:aq}{i j:Nat}{F:qK}{x:Ex}{B:bz}{f:FX}
def kW(h:F ρ=.error (ag x)):aF (dQ i j F) B k ρ=k.ex x (ρ.set j am):=by rw[bS,xC h]
def sR(h:F ρ=.error (ag x)):gr j F k ρ=k.ex x (ρ.set j am):=by unfold gr;rw[h]
def Jh(h:f ρ=.error (ag x)):je j f k ρ=k.ex x ρ:=by unfold je;rw[h,vg]
end
def qp{ρ:aq}{xs:List D}{x:Ex}{g:cM}{h:aQ}{ds:List D}(e:ρ[0]?=ag (ag (.own (.lst xs))))(eh:h ρ=.ok ds)(eg:g (.lst xs::ds)=.error (ag x)):bO 0 g h ρ=.error (ag x):=by
 unfold bO;rw[fI e,eh];show dec (g (.lst xs::ds))=_;rw[eg];rfl
def qm(n:Nat):ah (n+1) [rv []]=nT:=by
 rw[bC];show aV _ K0 [ag (.own (.lst [])),am,am,am,am,am]=_;unfold aV;rw[kW (fO rfl)];rfl
abbrev Rp:qK:=fS "Over" ["glass","step"] (dI (ae 2) (dJ (x6 (az aE 1 1) (dJ (bO 0 (hW aJ 2 4) (aa (fC (.str ")")) aj))))))
def wK(n:Nat)(ws:af):∃k:Ks,(∀x ρ,k.ex x ρ=.error (ag x))/\ah (n+1) [rv (lp::ws)]=aF (dQ 2 0 (bO 0 (ah n) aj)) (gr 0 Rp) k [ag (.own (.lst (ws.map D.str).reverse)),‹.str lp›,am,am,am,am]:=by
 have b1:(lp==("(":Str))=true:=by decide
 refine⟨?_,?_,?_⟩
 rotate_left 2
 ·rw[bC,ut];show aV _ K0 [ag (.own (.lst ((ws.map D.str).reverse++[.str lp]))),am,am,am,am,am]=_;unfold aV;rw[ej (ρ':=[ag (.own (.lst (ws.map D.str).reverse)),‹.str lp›,am,am,am,am]) (bX rfl) rfl,nG (b:=true) (by simp! only[b1]),ba rfl]
 ·exact λ_ _=>rfl
def qu{n:Nat}{ws:af}(e:ah n [rv ws]=nT):ah (n+1) [rv (lp::ws)]=nT:=by
 obtain⟨k,hk,h⟩:=wK n ws;rw[h,kW (qp (ds:=[]) rfl rfl e)];exact hk _ _
section
variable{n:Nat}{ws rest us r2:af}{g s:D}
def o9(e:ah n [rv ws]=.ok (.tup [g,rv rest])):∃k:Ks,(∀x ρ,k.ex x ρ=.error (ag x))/\ah (n+1) [rv (lp::ws)]=gr 0 Rp k [ag (.own (.lst (rest.map D.str).reverse)),‹.str lp›,‹g›,am,am,am]:=by
 obtain⟨k,hk,h⟩:=wK n ws;exact⟨k,hk,by rw[h,ej (ρ':=[ag (.own (.lst (rest.map D.str).reverse)),‹.str lp›,‹g›,am,am,am]) (fJ (ds:=[]) rfl rfl e) rfl]⟩
def Hk(e:ah n [rv ws]=.ok (.tup [g,rv rest]))(hu:hW aJ 2 4 [rv rest,.str ")"]=nT):ah (n+1) [rv (lp::ws)]=nT:=by
 obtain⟨k,hk,h⟩:=o9 e;have c:=qp (ρ:=[ag (.own (.lst (rest.map D.str).reverse)),‹.str lp›,‹g›,am,am,am]) (h:=aa (fC (.str ")")) aj) (ds:=[.str ")"]) rfl (by simp! only[]) hu;rw[h,sR (x:=⟨"NoText",[],[]⟩) (by simp! only[fS,dI,dJ,x6,c])];exact hk _ _
def uY(e:ah n [rv ws]=.ok (.tup [g,rv rest]))(hu:hW aJ 2 4 [rv rest,.str ")"]=.ok (.tup [.lst (us.map D.str),rv r2]))(hs:az aE 1 1 [.lst (us.map .str)]=nT):ah (n+1) [rv (lp::ws)]=nT:=by
 obtain⟨k,hk,h⟩:=o9 e;have c:=fJ (ρ:=[ag (.own (.lst (rest.map D.str).reverse)),‹.str lp›,‹g›,am,am,am]) (h:=aa (fC (.str ")")) aj) (ds:=[.str ")"]) rfl (by simp! only[]) hu;rw[h,sR (x:=⟨"NoText",[],[]⟩) (by simp! only[fS,dI,dJ,x6,c,hs])];exact hk _ _
def Jz(e:ah n [rv ws]=.ok (.tup [g,rv rest]))(hu:hW aJ 2 4 [rv rest,.str ")"]=.ok (.tup [.lst (us.map D.str),rv r2]))(hs:az aE 1 1 [.lst (us.map .str)]=.ok s):ah (n+1) [rv (lp::ws)]=.ok (.tup [oO g s,rv r2]):=by
 obtain⟨k,hk,h⟩:=o9 e;have c:=fJ (ρ:=[ag (.own (.lst (rest.map D.str).reverse)),‹.str lp›,‹g›,am,am,am]) (h:=aa (fC (.str ")")) aj) (ds:=[.str ")"]) rfl (by simp! only[]) hu;rw[h];exact vW (xs:=(rest.map D.str).reverse) (by simp! only[fS,dI,dJ,x6,c,hs]) rfl
end
abbrev RA:qK:=fS "Both" ["one","other","pair"] (dI (ae 4) (dI (ae 5) (dJ (x6 (az bn 2 3) (dI (ae 3) (dJ (bO 0 (hW aJ 2 4) (aa (fC (.str "]")) aj))))))))
def lA(n:Nat)(ws:af):∃k:Ks,(∀x ρ,k.ex x ρ=.error (ag x))/\ah (n+1) [rv (lb::ws)]=aF (dQ 3 0 (bO 0 (hW cu 1 1) aj)) (aF (dQ 4 0 (bO 0 (ah n) aj)) (aF (dQ 5 0 (bO 0 (ah n) aj)) (gr 0 RA))) k [ag (.own (.lst (ws.map D.str).reverse)),‹.str lb›,am,am,am,am]:=by
 have b1:(lb==("(":Str))=false:=by decide
 have b2:(lb==("[":Str))=true:=by decide
 refine⟨?_,?_,?_⟩
 rotate_left 2
 ·rw[bC,ut];show aV _ K0 [ag (.own (.lst ((ws.map D.str).reverse++[.str lb]))),am,am,am,am,am]=_;unfold aV;rw[ej (ρ':=[ag (.own (.lst (ws.map D.str).reverse)),‹.str lb›,am,am,am,am]) (bX rfl) rfl,nG (b:=false) (by simp! only[b1]),br Tq,nG (b:=true) (by simp! only[b2]),ba rfl]
 ·exact λ_ _=>rfl
def KU(n:Nat):ah (n+1) [rv [lb]]=nT:=by
 obtain⟨k,hk,h⟩:=lA n [];rw[h,kW (fO rfl)];exact hk _ _
section
variable{n:Nat}{f:Str}{ws r1 r2 us r3:af}{g h p:D}
def CC(e:ah n [rv ws]=nT):ah (n+1) [rv (lb::f::ws)]=nT:=by
 obtain⟨k,hk,q⟩:=lA n (f::ws);rw[q,Tx,T8,ej (ρ':=[ag (.own (.lst (ws.map D.str).reverse)),‹.str lb›,am,‹.str f›,am,am]) (bX rfl) rfl,kW (qp (ds:=[]) rfl rfl e)];exact hk _ _
def EK(e:ah n [rv ws]=.ok (.tup [g,rv r1]))(e2:ah n [rv r1]=nT):ah (n+1) [rv (lb::f::ws)]=nT:=by
 obtain⟨k,hk,q⟩:=lA n (f::ws);rw[q,Tx,T8,ej (ρ':=[ag (.own (.lst (ws.map D.str).reverse)),‹.str lb›,am,‹.str f›,am,am]) (bX rfl) rfl,
  ej (ρ':=[ag (.own (.lst (r1.map D.str).reverse)),‹.str lb›,am,‹.str f›,‹g›,am]) (fJ (ds:=[]) rfl rfl e) rfl,kW (qp (ds:=[]) rfl rfl e2)]
 exact hk _ _
def qF(e:ah n [rv ws]=.ok (.tup [g,rv r1]))(e2:ah n [rv r1]=.ok (.tup [h,rv r2])):∃k:Ks,(∀x ρ,k.ex x ρ=.error (ag x))/\ah (n+1) [rv (lb::f::ws)]=gr 0 RA k [ag (.own (.lst (r2.map D.str).reverse)),‹.str lb›,am,‹.str f›,‹g›,‹h›]:=by
 obtain⟨k,hk,q⟩:=lA n (f::ws);exact⟨k,hk,by rw[q,Tx,T8,ej (ρ':=[ag (.own (.lst (ws.map D.str).reverse)),‹.str lb›,am,‹.str f›,am,am]) (bX rfl) rfl,
  ej (ρ':=[ag (.own (.lst (r1.map D.str).reverse)),‹.str lb›,am,‹.str f›,‹g›,am]) (fJ (ds:=[]) rfl rfl e) rfl,
  ej (ρ':=[ag (.own (.lst (r2.map D.str).reverse)),‹.str lb›,am,‹.str f›,‹g›,‹h›]) (fJ (ds:=[]) rfl rfl e2) rfl]⟩
def Hr(e:ah n [rv ws]=.ok (.tup [g,rv r1]))(e2:ah n [rv r1]=.ok (.tup [h,rv r2]))(hu:hW aJ 2 4 [rv r2,.str "]"]=nT):ah (n+1) [rv (lb::f::ws)]=nT:=by
 obtain⟨k,hk,q⟩:=qF (f:=f) e e2;have c:=qp (ρ:=[ag (.own (.lst (r2.map D.str).reverse)),‹.str lb›,am,‹.str f›,‹g›,‹h›]) (h:=aa (fC (.str "]")) aj) (ds:=[.str "]"]) rfl (by simp! only[]) hu;rw[q,sR (x:=⟨"NoText",[],[]⟩) (by simp! only[fS,dI,dJ,x6,c])];exact hk _ _
def zK(e:ah n [rv ws]=.ok (.tup [g,rv r1]))(e2:ah n [rv r1]=.ok (.tup [h,rv r2]))(hu:hW aJ 2 4 [rv r2,.str "]"]=.ok (.tup [.lst (us.map D.str),rv r3]))(hp:az bn 2 3 [.str f,.lst (us.map .str)]=nT):ah (n+1) [rv (lb::f::ws)]=nT:=by
 obtain⟨k,hk,q⟩:=qF (f:=f) e e2;have c:=fJ (ρ:=[ag (.own (.lst (r2.map D.str).reverse)),‹.str lb›,am,‹.str f›,‹g›,‹h›]) (h:=aa (fC (.str "]")) aj) (ds:=[.str "]"]) rfl (by simp! only[]) hu;rw[q,sR (x:=⟨"NoText",[],[]⟩) (by simp! only[fS,dI,dJ,x6,c,hp])];exact hk _ _
def N9(e:ah n [rv ws]=.ok (.tup [g,rv r1]))(e2:ah n [rv r1]=.ok (.tup [h,rv r2]))(hu:hW aJ 2 4 [rv r2,.str "]"]=.ok (.tup [.lst (us.map D.str),rv r3]))(hp:az bn 2 3 [.str f,.lst (us.map .str)]=.ok p):ah (n+1) [rv (lb::f::ws)]=.ok (.tup [oB g h p,rv r3]):=by
 obtain⟨k,hk,q⟩:=qF (f:=f) e e2;have c:=fJ (ρ:=[ag (.own (.lst (r2.map D.str).reverse)),‹.str lb›,am,‹.str f›,‹g›,‹h›]) (h:=aa (fC (.str "]")) aj) (ds:=[.str "]"]) rfl (by simp! only[]) hu;rw[q];exact vW (xs:=(r2.map D.str).reverse) (by simp! only[fS,dI,dJ,x6,c,hp]) rfl
end
def pO(n:Nat){w:Str}(ws:af)(h1:w≠lp)(h2:w≠lb):∃k:Ks,(∀x ρ,k.ex x ρ=.error (ag x))/\ah (n+1) [rv (w::ws)]=je 0 (fNew "Leaf" ["name"] (aa (fR (az bR 1 1) (aa (ae 1) aj)) aj)) k [ag (.own (.lst (ws.map D.str).reverse)),‹.str w›,am,am,am,am]:=by
 have b1:(w==("(":Str))=false:=by rw[zL];simpa using h1
 have b2:(w==("[":Str))=false:=by rw[zQ];simpa using h2
 refine⟨K0,λ_ _=>rfl,?_⟩;rw[bC,ut];show aV _ K0 [ag (.own (.lst ((ws.map D.str).reverse++[.str w]))),am,am,am,am,am]=_;unfold aV;rw[ej (ρ':=[ag (.own (.lst (ws.map D.str).reverse)),‹.str w›,am,am,am,am]) (bX rfl) rfl,nG (b:=false) (by simp! only[b1]),br Tq,nG (b:=false) (by simp! only[b2]),br Tq]
def dL(n:Nat){w:Str}(ws:af)(h1:w≠lp)(h2:w≠lb)(h:az bR 1 1 [.str w]=nT):ah (n+1) [rv (w::ws)]=nT:=by
 obtain⟨k,hk,q⟩:=pO n ws h1 h2;rw[q,Jh (x:=⟨"NoText",[],[]⟩) (by simp! only[h,eU])];exact hk _ _
def LC(w:Str):Bool:=w==lp||w==lb
def wc(ws:af):Nat:=ws.countP LC
def gb(w:Str)(ws:af):wc (w::ws)=wc ws+if LC w then 1 else 0:=by unfold wc;rw[List.countP_cons]
def tV(us ws:af):wc (us++ws)=wc us+wc ws:=Vr
def EI:LC lp=true:=by decide
def FD:LC lb=true:=by decide
theorem jV:∀(n:Nat)(ws:af),wc ws<n->ws.length<=10000->(∀w∈ws,w.length<=90000)->ah n [rv ws]=nT\/∃g t w m us rest,jd g t w m/\ws=us++rest/\m+wc rest<=wc ws/\ah n [rv ws]=.ok (.tup [g,rv rest])
 |0,_,h,_,_=>bt h (Vh _)
 |n+1,[],_,_,_=>.inl (qm n)
 |n+1,w::ws,h,hl,hw=>by
  rw[gb]at h;rw[Tw]at hl;have hw':∀w∈ws,w.length<=90000:=λv hv=>hw v (Tl _ hv);by_cases h1:w=lp
  ·subst h1;rw[EI,ba rfl]at h;rcases jV n ws ‹0› ‹0› hw' with e|⟨g,t,w,m,us,rest,hg,rfl,hm,e⟩
   ·exact .inl (qu e)
   have hr:∀w∈rest,w.length<=90000:=λv hv=>hw' v (Tu _ hv);rw[T1]at hl;rcases rk ")" rest ‹0›with u|⟨us2,r2,rfl,u⟩
   ·exact .inl (Hk e u)
   rw[T1,Tw]at hl;rcases step_any us2 (λv hv=>hr v (Tn _ hv)) ‹0›with s|⟨s,sw,hs,es⟩
   ·exact .inl (uY e u s)
   refine .inr ⟨_,_,_,_,lp::(us++(us2++[(")":Str)])),r2,.ov hg hs,by simp,?_,Jz e u es⟩;rw[gb,EI,ba rfl];rw[tV us2,gb]at hm;omega
  by_cases h2:w=lb
  ·subst h2;rw[FD,ba rfl]at h;cases ws with
   |nil=>exact .inl (KU n)
   |cons f ws=>
    rw[gb]at h;rw[Tw]at hl;have hw2:∀w∈ws,w.length<=90000:=λv hv=>hw' v (Tl _ hv);rcases jV n ws ‹0› ‹0› hw2 with e|⟨g,t,w,m,us,r1,hg,rfl,hm,e⟩
    ·exact .inl (CC e)
    rw[T1]at hl;have hr1:∀w∈r1,w.length<=90000:=λv hv=>hw2 v (Tu _ hv);rcases jV n r1 ‹0› ‹0› hr1 with e2|⟨g2,t2,w2,m2,us2,r2,hg2,rfl,hm2,e2⟩
    ·exact .inl (EK e e2)
    rw[T1]at hl;have hr2:∀w∈r2,w.length<=90000:=λv hv=>hr1 v (Tu _ hv);rcases rk "]" r2 ‹0›with u|⟨us3,r3,rfl,u⟩
    ·exact .inl (Hr e e2 u)
    rcases Fd f us3 (λv hv=>hr2 v (Tn _ hv))with s|⟨p,pw,hp,ep⟩
    ·exact .inl (zK e e2 u s)
    refine .inr ⟨_,_,_,_,lb::f::(us++(us2++(us3++[("]":Str)]))),r3,.bo hg hg2 hp,by simp,?_,N9 e e2 u ep⟩;rw[gb,FD,ba rfl,gb];rw[tV us3,gb]at hm2;omega
  rcases pF w (hw w Tj)with e|⟨ok,e⟩
  ·exact .inl (dL n ws h1 h2 e)
  ·obtain⟨k,hk,q⟩:=pO n ws h1 h2;refine .inr ⟨_,_,_,_,[w],ws,.lf ok,rfl,?_,q.trans (yH (xs:=(ws.map D.str).reverse) (by simp! only[e,eU]) rfl)⟩;rw[gb];omega
noncomputable def CW(c:Nat):Bool:=c==40||c==91
def op(l:bJ):Nat:=l.countP CW
def dW(a b:bJ):op (a++b)=op a+op b:=Vr
def eB(c:Nat)(l:bJ):op (c::l)=op l+if CW c then 1 else 0:=by unfold op;rw[List.countP_cons]
def Kn{w:Str}(h:LC w=true):∃c,CW c=true/\ap w=[c]:=by
 unfold LC at h;rw[Us]at h;rcases h with h|h
 ·exact⟨40,rfl,by rw[eq_of_beq h]⟩
 ·exact⟨91,rfl,by rw[eq_of_beq h]⟩
def Jk(st:Sc)(c:Nat):wc (flush (KWd.step st c))<=wc (flush st)+if CW c then 1 else 0:=by
 obtain⟨ws,r⟩:=st;unfold KWd.step;by_cases hs:Unicode.isSpace c=true
 ·rw[ba hs];dsimp only;by_cases hr:r.length=0
  ·rw[ba hr];exact UK _ _
  ·rw[br hr];have e:flush (ws,r)=ws++[r]:=(by unfold flush;rw[br hr]);rw[e];exact UK _ _
 ·rw[br hs];dsimp only;have e:flush (ws,r++⟨#[c]⟩)=ws++[r++⟨#[c]⟩]:=by
   unfold flush;rw[br];rw[aB,ao,T1];exact Nat.succ_ne_zero _
  have low:wc ws<=wc (flush (ws,r)):=by
   unfold flush;split
   ·exact Tt _
   ·rw[tV];exact UK _ _
  rw[e,tV];have one:wc [r++(⟨#[c]⟩:Str)]<=if CW c then 1 else 0:=by
   rw[gb];show 0+_<=_;rw[U8];cases h:LC (r++(⟨#[c]⟩:Str))with
   |false=>exact TH _
   |true=>
    obtain⟨d,hd,q⟩:=Kn h;rw[ao]at q
    have:ap r=[]:=by
     have l:=dl List.length q;rw[T1]at l;exact List.length_eq_zero_iff.mp (by simpa using l)
    rw[this,Uv]at q
    have:c=d:=(by cases q;rfl);rw[this,hd];exact Tt _
  omega
theorem JB:∀(l:bJ)(st:Sc),wc (flush (sc st l))<=wc (flush st)+op l
 |[],st=>Tt _
 |c::l,st=>by
  have:=JB l (KWd.step st c)
  have:=Jk st c
  rw[eB];show wc (flush (sc (KWd.step st c) l))<=_;omega
theorem Ef(M:Nat):∀(l:bJ)(st:Sc),(∀w∈st.1,w.length<=M)->st.2.length+l.length<=M->∀w∈flush (sc st l),w.length<=M
 |[],(ws,r),h,k,w,hw=>by
  have hw:w∈flush (ws,r):=hw;unfold flush at hw;split at hw
  ·exact h w hw
  ·rcases List.mem_append.mp hw with z|z
   ·exact h w z
   ·rw[List.mem_singleton.mp z];exact k
 |c::l,(ws,r),h,k,w,hw=>by
  rw[Tw]at k;refine Ef M l (KWd.step (ws,r) c) ?_ ?_ w hw
  ·unfold KWd.step;by_cases hs:Unicode.isSpace c=true
   ·rw[ba hs];dsimp only;by_cases hr:r.length=0
    ·rw[ba hr];exact h
    ·rw[br hr];intro v hv;rcases List.mem_append.mp hv with z|z
     ·exact h v z
     ·rw[List.mem_singleton.mp z];dsimp only at k;omega
   ·rw[br hs];exact h
  ·dsimp only at k;unfold KWd.step;by_cases hs:Unicode.isSpace c=true
   ·rw[ba hs];dsimp only;by_cases hr:r.length=0
    ·rw[ba hr];dsimp only;omega
    ·rw[br hr];show(0:Nat)+l.length<=M;omega
   ·rw[br hs];dsimp only
    have:(r++(⟨#[c]⟩:Str)).length=r.length+1:=(by rw[aB,ao,T1,<-aB];rfl);omega
abbrev WD(y:Str):af:=Txt.words (mk (sp BR (ap y)))
def vn(y:Str):WD y=flush (sc ([],Str.empty) (sp BR (ap y))):=by
 have e:KWd.scan (mk (sp BR (ap y)))=sc ([],Str.empty) (sp BR (ap y)):=by
  unfold KWd.scan sc
  have:(mk (sp BR (ap y))).cps.toList=sp BR (ap y):=cf _
  rw[this]
 exact KWd.words_of (x:=mk (sp BR (ap y))) (ws:=(sc ([],Str.empty) (sp BR (ap y))).1) (r:=(sc ([],Str.empty) (sp BR (ap y))).2) e
theorem JR:∀l:bJ,op (sp BR l)=op l
 |[]=>rfl
 |c::l=>by
  have e:sp BR (c::l)=(if BR.contains c then[32,c,32]else[c])++sp BR l:=rfl;rw[e,dW,JR l,eB];split
  ·rw[eB,eB,eB];have z:op []=0:=rfl;have z2:CW 32=false:=rfl;rw[z,z2]
   simp;omega
  ·rw[eB];have z:op []=0:=rfl;rw[z];omega
def Nc(y:Str):wc (WD y)<=op (ap y):=by
 rw[vn]
 have:=JB (sp BR (ap y)) ([],Str.empty)
 rw[JR]at this;have z:wc (flush (([],Str.empty):Sc))=0:=rfl;omega
def Ko(y:Str):(WD y).length<=3*y.length+1:=by
 show(Txt.words (mk (sp BR (ap y)))).length<=_
 have:=sB (mk (sp BR (ap y)))
 have:=ua BR (ap y)
 rw[aB (mk _),cf]at *;rw[aB y];omega
def HN{y:Str}(hl:y.length<=30000):∀w∈WD y,w.length<=90000:=by
 rw[vn];refine Ef 90000 _ _ (λw hw=>by cases hw) ?_
 have:=ua BR (ap y)
 rw[<-aB]at this;show 0+_<=_;omega
def wz{y:Str}(hl:y.length<=30000):az fH 1 2 [.str y]=.ok (.lst ((WD y).map .str)):=by
 have e:(mk (sp BR (ap y))).length<=100000:=by
  rw[aB,cf]
  have:=ua BR (ap y)
  rw[<-aB]at this;omega
 show(match iW ("()[]":Str).cps.toList y with|some z=>_|none=>un)=_;rw[GB hl];show kE (rO (if(mk (sp BR (ap y))).length<=100000 then ag (D.lst ((Txt.words (mk (sp BR (ap y)))).map .str))else am)) K0 _ .ok=_;rw[ba e];rfl
abbrev Nh:FX:=mG (ah 16) (f1 rF (fR (az fH 1 2) (aa (ae 0) aj)))
def uo{y:Str}(hl:y.length<=30000):Nh [‹.str y›,am]=(dec (ah 16 [rv (WD y)])).bind λp=>.ok p.1:=by
 have w:=wz hl;have e:f1 rF (fR (az fH 1 2) (aa (ae 0) aj)) [‹.str y›,am]=.ok (rv (WD y)):=by
  simp! only[w];rfl
 unfold Nh mG;rw[e];rfl
def ii{y:Str}(hl:y.length<=30000)(h:ah 16 [rv (WD y)]=nT):az cV 1 2 [.str y]=nT:=by
 have c:=uo hl;rw[h]at c;have c:Nh [‹.str y›,am]=nT:=c;rw[aG];unfold cV;simp! only[c]
def sG{y t:Str}{g:D}{w rest:af}{m:Nat}(hl:y.length<=30000)(hg:jd g t w m)(hm:m<=12)(h:ah 16 [rv (WD y)]=.ok (.tup [g,rv rest]))(ne:t≠y):az cV 1 2 [.str y]=nT:=by
 have c:=uo hl;rw[h]at c;have c:Nh [‹.str y›,am]=.ok g:=c;have s:=hg.shown hm 16 ‹0›;have b:(t==y)=false:=by simpa using ne
 rw[aG];unfold cV;simp! only[c,s,b,cc,ve]
def z7{y:Str}{g:D}{w rest:af}{m:Nat}(hl:y.length<=30000)(hg:jd g y w m)(hm:m<=12)(h:ah 16 [rv (WD y)]=.ok (.tup [g,rv rest])):az cV 1 2 [.str y]=.ok g:=by
 have c:=uo hl;rw[h]at c;have c:Nh [‹.str y›,am]=.ok g:=c;have s:=hg.shown hm 16 ‹0›;rw[aG];unfold cV;simp! only[c,s,BEq.rfl]
def v9(y:Str)(hl:y.length<=3300)(ho:op (ap y)<=12):az cV 1 2 [.str y]=nT\/∃g w m,jd g y w m/\m<=12/\az cV 1 2 [.str y]=.ok g:=by
 have h1:=Nc y;have h2:=Ko y;rcases jV 16 (WD y) ‹0› ‹0› (HN ‹0›)with e|⟨g,t,w,m,us,rest,hg,_,hm,e⟩
 ·exact .inl (ii ‹0› e)
 ·by_cases h:t=y
  ·subst h;exact .inr ⟨g,w,m,hg,by omega,z7 ‹0› hg ‹0› e⟩
  ·exact .inl (sG ‹0› hg ‹0› e h)
def wF{y:Str}{ws:af}(h:Pc (ap y) ws):WD y=ws:=CI h
def z8{g:D}{t:Str}{w:af}{m:Nat}(h:jd g t w m)(hm:m<=12):az cV 1 2 [.str t]=.ok g:=by
 have l:=h.len;have rd:=h.read 16 [] ‹0›;rw[Uv]at rd;exact z7 (rest:=[]) ‹0› h hm (by rw[wF h.pc];exact rd)
noncomputable abbrev xN:D:=.exc "NoText" [] []
theorem zt(cs:af)(i:Nat)(F Fh:bz)(k:Ks)(ρ:aq):Cp cs i F Fh k ρ=F {k with ex:=λx ρ1=>if cs.contains x.c=true then Fh (Nb i k) (setV i (.exc x.c x.fs x.vs) ρ1)else un} ρ:=nr rfl
def vE{y:Str}(h:az cV 1 2 [.str y]=nT):az cB 1 4 [.str y]=.ok (.tup [.non,xN]):=by
 have c:(["NoText"]:af).contains "NoText"=true:=by decide
 rw[aG];unfold cB;simp! only[zt,h,c,Nb,Gu]
def E6{y:Str}{g:D}(h:az cV 1 2 [.str y]=.ok g):az cB 1 4 [.str y]=.ok (.tup [g,.non]):=by
 rw[aG];unfold cB;simp! only[zt,h,Gu]
theorem DR:az dq 1 2 [xN]=.ok (.bl true):=by kernel_rfl
section
variable{Q:R D->Prop}{k:Ks}{ρ ρ':aq}{i:Nat}{f:FX}{d:D}{A A' B:bz}{c:bL}{b:Bool}{g:GF}
def cT(e:f ρ=.ok d)(z:setV i d ρ=ρ')(h:Q (B k ρ')):Q (aF (bK i f) B k ρ):=by rw[bS,eX,e,fA,z];exact h
def uz(e:f ρ=.ok d)(z:setV i d ρ=ρ')(h:Q (k.nx ρ')):Q (bK i f k ρ):=by rw[eX,e,fA,z];exact h
def Af(e:c ρ=.ok b)(ht:b=true->Q (A {k with nx:=B k} ρ))(hf:b=false->Q (B k ρ)):Q (aF (fq c A bU) B k ρ):=by
 rw[bS,jD,e,fA];cases b with
 |true=>exact ht rfl
 |false=>exact hf rfl
def qb(e:c ρ=.ok b)(ht:b=true->Q (A k ρ))(hf:b=false->Q (A' k ρ)):Q (fq c A A' k ρ):=by
 rw[jD,e,fA];cases b with
 |true=>exact ht rfl
 |false=>exact hf rfl
def DW(e:c ρ=.ok false)(hf:Q (B k ρ)):Q (aF (fq c A bU) B k ρ):=by
 rw[bS,jD,e,fA];exact hf
def j4(e:f ρ=.ok d)(h:Q (.ok d)):Q (bi f k ρ):=by rw[lR,e,fA];exact h
theorem G7(f:FX)(g:GF)(k:Ks)(ρ:aq):uM f g k ρ=kE (f ρ) k ρ λd=>(rO (g d ρ)).bind k.nx:=nr rfl
def Dd(e:f ρ=.ok d)(hg:g d ρ=ag ρ')(h:Q (B k ρ')):Q (aF (uM f g) B k ρ):=by rw[bS,G7,e,fA,hg];exact h
def Aw{r j:Int}(h:kT ρ i=.ok (.int r))(e:(r==j)=b):fB (f2 jc (ae i) (fC (.int j))) ρ=.ok b:=by simp! only[h,e]
end
def cQ(x y:Str):(x++y).length=x.length+y.length:=by rw[aB,ao,T1,<-aB,<-aB]
structure ES(f:FX)(ρ:aq)(x:Str)(n:Nat):Prop where
 e:f ρ=.ok (.str x)
 l:x.length<=4000*n
def aH{ρ:aq}(x:Str)(h:x.length<=4000):ES (fC (.str x)) ρ x 1:=⟨rfl,by omega⟩
def bM{ρ:aq}{i:Nat}{x:Str}(e:kT ρ i=.ok (.str x))(h:x.length<=4000):ES (ae i) ρ x 1:=⟨e,by omega⟩
def aK{f g:FX}{ρ:aq}{x y:Str}{m n:Nat}(h:ES f ρ x m)(k:ES g ρ y n)(hl:m+n<=20):ES (f2 av f g) ρ (x++y) (m+n):=by
 have h1:=h.l;have h2:=k.l;have a:=iS x y ‹0›;refine⟨by simp! only[h.e,k.e,a],?_⟩;rw[cQ];omega
theorem dX{ρ:aq}:aj ρ=.ok (([]:af).map D.str):=rfl
def ax{f:FX}{F:aQ}{ρ:aq}{x:Str}{n:Nat}{xs:af}(h:ES f ρ x n)(k:F ρ=.ok (xs.map D.str)):aa f F ρ=.ok ((x::xs).map D.str):=by
 simp! only[h.e,k]
def pN{F:aQ}{ρ:aq}{xs:af}(k:F ρ=.ok (xs.map D.str))(hl:xs.length<=1000):dP F ρ=.ok (.lst (xs.map D.str)):=by
 have e:o5 (xs.map D.str)=ag (.lst (xs.map D.str)):=by unfold o5;rw[cm (by rw[Tz];omega)];rfl
 simp! only[k,e]
def fi{F:aQ}{ρ:aq}{i:Nat}{xs ys:af}(e:kT ρ i=.ok (.lst (xs.map D.str)))(k:F ρ=.ok (ys.map D.str))(hl:xs.length<=1000)(hm:ys.length<=1000):f2 av (ae i) (dP F) ρ=.ok (.lst ((xs++ys).map D.str)):=by
 have a:=DU (xs.map D.str) (ys.map D.str) (by rw[Tz,Tz];omega);rw[<-Uw]at a;have z:=pN k hm;have e:ae i ρ=.ok (.lst (xs.map D.str)):=e;show((ae i ρ).bind λa=>(dP F ρ).bind λb=>rO (av a b))=_;rw[e,z];show rO (av _ _)=_;rw[a];rfl
def wo{xs:af}{j:Int}(h0:0<=j)(h1:j<xs.length):∃x∈xs,aX (.lst (xs.map .str)) (.int j)=ag (.str x):=by
 refine⟨xs[j.toNat]'‹0›,Vk _,?_⟩;show j6 (xs.map D.str) j=_;rw[iy,u9 h0 h1];rfl
theorem RZ(a b c d e f:D):o5 [a,b,c,d,e,f]=ag (.lst [a,b,c,d,e,f]):=nr rfl
def tZ(c:Int)(k:Nat)(hk:k<4)(many:Int)(hm:0<many):∃r:Int,0<=r/\r<many/\az cx 3 5 [.int c,.int (k:Int),.int many]=.ok (.int r):=by
 obtain⟨st,pr,i1,i2,b1,b2,b3⟩:∃st pr:Int,aX (.lst [.int 1234567891,.int 1876543217,.int 987654323,.int 1597463007,.int 1357924681,.int 1112131419]) (.int (k:Int))=ag (.int st)/\aX (.lst [.int 2147483647,.int 2147483629,.int 2147483587,.int 2147483579,.int 2147483563,.int 2147483549]) (.int (k:Int))=ag (.int pr)/\0<st/\st<2^62/\0<pr:=by
  match k,hk with
  |0,_=>exact⟨_,_,rfl,rfl,by decide,by decide,by decide⟩
  |1,_=>exact⟨_,_,rfl,rfl,by decide,by decide,by decide⟩
  |2,_=>exact⟨_,_,rfl,rfl,by decide,by decide,by decide⟩
  |3,_=>exact⟨_,_,rfl,rfl,by decide,by decide,by decide⟩
 have m1:=λi=>eI (i:=i) (show(0:Int)<1000000007 by decide);have m2:=λi=>eI (i:=i) b3;have m3:=λi=>eI (i:=i) hm;have mu:=λi=>Ir (i:=i) (j:=st) ‹0› ‹0›;refine⟨(c%1000000007+11)*st%pr%many,Vs _ ‹0›,Vt _ hm,?_⟩;rw[C9];unfold cx;simp! only[RZ,i1,i2,m1,mu,m2,m3]
def lL{x:Str}(h:(decide (1<=x.length)&&decide (x.length<=8)&&(x.cps.toList.all λn=>LT.contains n))=true):fY x:=by
 rw[T6,T6]at h;exact⟨cr h.1.1,cr h.1.2,λn hn=>by simpa using List.all_eq_true.mp h.2 n hn⟩
def NM:af:=["join","gather","rename","drop","keep","in","nest","unnest","sieve"]
def K4:(NM.all λx=>decide (1<=x.length)&&decide (x.length<=8)&&(x.cps.toList.all λn=>LT.contains n))=true:=by decide +kernel
theorem R3(a b c d e f g h i:D):o5 [a,b,c,d,e,f,g,h,i]=ag (.lst [a,b,c,d,e,f,g,h,i]):=nr rfl
def Cm:md (.int 26) (.int 8)=ag (.int 208827064576):=xP 26 8 (by decide) (by decide)
def lF(c:Int):∃x:Str,fY x/\az cJ 1 5 [.int c]=.ok (.str x):=by
 have g5:=λi=>eI (i:=i) (show(0:Int)<5 by decide);have g9:=λi=>eI (i:=i) (show(0:Int)<9 by decide);have g8:=λi=>eI (i:=i) (show(0:Int)<8 by decide);have g26:=λi=>eI (i:=i) (show(0:Int)<26 by decide);have gN':=λi=>eI (i:=i) (show(0:Int)<208827064576 by decide);have d5:=λi=>gV (i:=i) (show(0:Int)<5 by decide) (show(5:Int)<10^200 by decide);have d40:=λi=>gV (i:=i) (show(0:Int)<40 by decide) (show(40:Int)<10^200 by decide);have d26:=λi=>gV (i:=i) (show(0:Int)<26 by decide) (show(26:Int)<10^200 by decide);by_cases h:c%5=1
 ·have e:(c%5==1)=true:=by simp[h]
  obtain⟨a,ha,ea⟩:∃a:Nat,a<9/\c/5%9=(a:Int):=⟨(c/5%9).toNat,by omega,by omega⟩
  have ix:aX (.lst (NM.map .str)) (.int (a:Int))=ag (.str (NM[a]'(by show a<9;omega))):=by
   show(j6 (NM.map D.str) (a:Int))=_;rw[iy,gw (by show a<9;omega)];rfl
  refine⟨_,lL (List.all_eq_true.mp K4 _ (Vk (by show a<9;omega))),?_⟩;have em:(.lst [.str "join",.str "gather",.str "rename",.str "drop",.str "keep",.str "in",.str "nest",.str "unnest",.str "sieve"]:D)=.lst (NM.map .str):=rfl;rw[aG];unfold cJ;simp! only[g5,e,d5,g9,ea,R3];rw[em,ix];rfl
 ·have e:(c%5==1)=false:=by simp[h]
  obtain⟨n,hn,hn',en⟩:∃n:Nat,1<=n/\n<=8/\1+c/5%8=(n:Int):=⟨(1+c/5%8).toNat,by omega,by omega,by omega⟩
  rw[aG];unfold cJ;simp! only[show("abcdefghijklmnopqrstuvwxyz":Str)=LS from rfl,g5,e,d5,Cm,gN',d40,g8,en,me n ‹0›];refine zV (Q:=λr=>∃x:Str,fY x/\r=.ok (.str x)) (λi ρ=>∃(x:Str)(r:Int),x.length=i/\(∀n∈x.cps.toList,n∈LT)/\ρ=[‹.int c›,‹.str LS›,‹.int r›,‹.str x›,am]) ?_ ⟨"",_,rfl,λn hn=>(by cases hn),rfl⟩ ?_
  ·intro i d ρ k' hd;rintro⟨x,r,hx,hl,rfl⟩;have hi:=sk hd;rw[iJ]at hi;have ix:=N4 (r%26) ‹0› ‹0›;have ad:=ww x (IT (lt (r%26))) ‹0› (by show 1<=_;omega);refine⟨_,[‹.int c›,‹.str LS›,‹.int (r/26)›,‹.str (x++IT (lt (r%26)))›,am],rfl,⟨_,_,?_,?_,rfl⟩,?_⟩
   ·rw[aB,ao,T1,<-aB,hx];rfl
   ·intro n hn;have hn:n∈ap (x++IT (lt (r%26))):=hn;rw[ao]at hn;rcases List.mem_append.mp hn with q|q
    ·exact hl n q
    ·rw[List.mem_singleton.mp q];exact Mq _ ‹0› ‹0›
   ·simp! only[g26,ix,ad,d26]
  ·rintro ρ' ⟨x,r,hx,hl,rfl⟩;rw[iJ]at hx;exact⟨x,⟨by omega,by omega,hl⟩,by simp! only[]⟩
def yX{n:Int}(h:n.natAbs<10^60):tM [.int n]=ag (.str (nst n)):=by
 show(if decide (n.natAbs.log2<1920)then ag (D.str (toString n))else am)=_
 have:n.natAbs.log2<1920:=by
  by_cases z:n.natAbs=0
  ·rw[z];decide
  ·rw[Ut z];exact Uu h (Td (show 10^60<2^200 by decide) (Vm (by decide) (by decide)))
 rw[b0 this];rfl
def ST(x:Str):Prop:=∃s sw,kU s sw/\x=Txt.join " " sw
def Nk:fY "q":=lL (by decide +kernel)
def Nx:fY "r":=lL (by decide +kernel)
def Om{w:Str}(h:(decide (w.length<=8)&&w.cps.toList.all λn=>LT.contains n)=true):uG w:=by
 rw[T6]at h;exact⟨cr h.1,λn hn=>by simpa using List.all_eq_true.mp h.2 n hn⟩
def fY.d{x:Str}(h:fY x):uG x:=⟨h.eig,h.lts⟩
def MR:nst (-5)="-5":=by decide +kernel
def KI:nst 10="10":=by decide +kernel
def Nz:nst 1="1":=by decide +kernel
def M8{o:Str}(h:fY o):kU (oS o (nZ ["","a","ab","b"])) ["keep",o,".",".a",".ab",".b"]:=by
 have z:=zA (ws:=["","a","ab","b"]) h (by decide) (by decide) (by unfold Up;decide +kernel) (by
  intro w hw;simp only[UH,UI,or_false]at hw;rcases hw with rfl|rfl|rfl|rfl<;>exact Om (by decide +kernel))
 have e:(["","a","ab","b"]:af).map dot=([".",".a",".ab",".b"]:af):=by decide +kernel
 rw[e]at z;exact z
def zE(c:Int):∃x:Str,ST x/\x.length<=400/\az dh 1 5 [.int c]=.ok (.str x):=by
 obtain⟨o,ho,eo⟩:=lF (c/9);obtain⟨q,hq,eq⟩:=lF (c/11+3);obtain⟨r,r0,r1,er⟩:=tZ c 0 (by decide) 9 (by decide);have er:az cx 3 5 [.int c,.int 0,.int 9]=.ok (.int r):=er;have d9:=gV (i:=c) (show(0:Int)<9 by decide) (show(9:Int)<10^200 by decide);have d11:=gV (i:=c) (show(0:Int)<11 by decide) (show(11:Int)<10^200 by decide);have d13:=gV (i:=c) (show(0:Int)<13 by decide) (show(13:Int)<10^200 by decide);have mu:=IP (i:=2) (j:=Gn) (by decide) (by decide);have b40:(1:Int)<Gn/\Gn<10^59:=by decide +kernel
 have b60:=Nf;have pe:(10^60:Nat)=JS.natAbs:=by decide +kernel
 have p4:Gn*100<JS:=by decide +kernel
 have g40:=eI (i:=c/13) (show(0:Int)<2*Gn by omega);have g60:=eI (i:=c/13) (show(0:Int)<JS by omega);obtain⟨n,en⟩:∃n:Int,n=c/13%(2*Gn)-Gn:=⟨_,rfl⟩
 obtain⟨m,em⟩:∃m:Int,m=c/13%JS:=⟨_,rfl⟩
 have hn:n.natAbs<10^60:=by
  have:=Vs (c/13) (show 2*Gn≠0 by omega)
  have:=Vt (c/13) (show 0<2*Gn by omega)
  rw[pe,en];omega
 have m0:0<=m:=by rw[em];exact Vs _ ‹0›
 have hm:m.natAbs<10^60:=by
  have:=Vt (c/13) (show 0<JS by omega)
  rw[pe];omega
 have sn:=yX hn;have sm:=yX hm;have ln:=gK hn;have lm:=gK hm;have lo:=ho.eig;have lq:=hq.eig;have h5:(-5:Int).natAbs<10^60:=by decide
 have h10:(10:Int).natAbs<10^60:=by decide
 have h1:(1:Int).natAbs<10^60:=by decide
 obtain⟨L,hL⟩:∃L:af,L=[("rename ":Str)++o++" "++q,("drop ":Str)++o++" "++nst n,("drop ":Str)++o++" ."++q]++[("sieve ":Str)++o++" -5 "++nst m,("keep ":Str)++o++" . .a .ab .b"]++[("part ":Str)++o++" 10 q r",("fuse q r ":Str)++nst n++" "++o,("nest 1 ":Str)++o,("unnest ":Str)++o]:=⟨_,rfl⟩
 have all:∀x∈L,ST x:=λx hx=>by
  rw[hL]at hx;simp only[Ue,Uv,UH,UI,or_false]at hx;rcases hx with rfl|rfl|rfl|rfl|rfl|rfl|rfl|rfl|rfl
  ·exact⟨_,_,su ho hq,aI (by simp only[ao,au,bj,UC];rfl)⟩
  ·exact⟨_,_,pQ ho hn,aI (by simp only[ao,au,bj,UC];rfl)⟩
  ·exact⟨_,_,vO ho hq.d,aI (by simp only[ao,au,bj,UC];rfl)⟩
  ·refine⟨_,_,vy ho h5 hm ‹0›,aI ?_⟩;rw[MR];simp only[ao,au,bj,UC];rfl
  ·exact⟨_,_,M8 ho,aI (by simp only[ao,au,bj,UC];rfl)⟩
  ·refine⟨_,_,zf ho h10 Nk Nx,aI ?_⟩;rw[KI];simp only[ao,au,bj,UC];rfl
  ·exact⟨_,_,yL Nk Nx hn ho,aI (by simp only[ao,au,bj,UC];rfl)⟩
  ·refine⟨_,_,uk h1 ho,aI ?_⟩;rw[Nz];simp only[ao,au,bj,UC];rfl
  ·exact⟨_,_,rL ho,aI (by simp only[ao,au,bj,UC];rfl)⟩
 have lenL:L.length=9:=by rw[hL];rfl
 obtain⟨x,hx,ix⟩:=wo (xs:=L) r0 (by rw[lenL];exact r1);have lx:x.length<=400:=by
  obtain⟨s,sw,hs,e⟩:=all x hx;have j:=gD sw
  have:=hs.sm
  have:=hs.ln
  rw[e];omega
 refine⟨x,all x hx,lx,?_⟩;rw[aG];unfold dh;refine cT (Q:=λz=>z=_) (d:=.str o) (ρ':=[‹.int c›,‹.str o›,am,am,am]) (by simp! only[d9,eo]) rfl ?_;refine cT (Q:=λz=>z=_) (d:=.str q) (ρ':=[‹.int c›,‹.str o›,‹.str q›,am,am]) (by simp! only[d11,eq]) rfl ?_;refine cT (Q:=λz=>z=_) (d:=.str (nst n)) (ρ':=[‹.int c›,‹.str o›,‹.str q›,‹.str (nst n)›,am]) (by simp! only[d13,LK,mu,g40,<-en,sn]) rfl ?_;refine cT (Q:=λz=>z=_) (d:=.lst (([("rename ":Str)++o++" "++q,("drop ":Str)++o++" "++nst n,("drop ":Str)++o++" ."++q]).map D.str)) (ρ':=[‹.int c›,‹.str o›,‹.str q›,‹.str (nst n)›,‹.lst (([("rename ":Str)++o++" "++q,("drop ":Str)++o++" "++nst n,("drop ":Str)++o++" ."++q]).map D.str)›])
  (pN (ax (aK (aK (aK (aH _ (by decide)) (bM rfl ‹0›) (by decide)) (aH _ (by decide)) (by decide)) (bM rfl ‹0›) (by decide)) (ax (aK (aK (aK (aH _ (by decide)) (bM rfl ‹0›) (by decide)) (aH _ (by decide)) (by decide)) (bM rfl ‹0›) (by decide)) (ax (aK (aK (aK (aH _ (by decide)) (bM rfl ‹0›) (by decide)) (aH _ (by decide)) (by decide)) (bM rfl ‹0›) (by decide)) dX))) (Vo rfl)) rfl ?_
 have fm:fL tM (aa (f2 gW (f2 jv (ae 0) (fC (.int 13))) (f2 md (fC (.int 10)) (fC (.int 60)))) aj) [‹.int c›,‹.str o›,‹.str q›,‹.str (nst n)›,‹.lst (([("rename ":Str)++o++" "++q,("drop ":Str)++o++" "++nst n,("drop ":Str)++o++" ."++q]).map D.str)›]=.ok (.str (nst m)):=by simp! only[d13,LO,g60,<-em,sm]
 generalize e1:([("rename ":Str)++o++" "++q,("drop ":Str)++o++" "++nst n,("drop ":Str)++o++" ."++q]:af)=L1 at *;have k1:L1.length=3:=by rw[<-e1];rfl
 generalize e2:([("sieve ":Str)++o++" -5 "++nst m,("keep ":Str)++o++" . .a .ab .b"]:af)=L2 at *;have k2:L2.length=2:=by rw[<-e2];rfl
 generalize e3:([("part ":Str)++o++" 10 q r",("fuse q r ":Str)++nst n++" "++o,("nest 1 ":Str)++o,("unnest ":Str)++o]:af)=L3 at *;have k3:L3.length=4:=by rw[<-e3];rfl
 refine cT (Q:=λz=>z=_) (d:=.lst ((L1++L2).map D.str)) (ρ':=[‹.int c›,‹.str o›,‹.str q›,‹.str (nst n)›,‹.lst ((L1++L2).map D.str)›]) (fi rfl (by
  rw[<-e2];exact ax (aK (aK (aK (aH _ (by decide)) (bM rfl ‹0›) (by decide)) (aH _ (by decide)) (by decide)) ⟨fm,(show(nst m).length<=4000*1 by omega)⟩ (by decide)) (ax (aK (aK (aH _ (by decide)) (bM rfl ‹0›) (by decide)) (aH _ (by decide)) (by decide)) dX)) ‹0› ‹0›) rfl ?_
 refine cT (Q:=λz=>z=_) (d:=.lst ((L1++L2++L3).map D.str)) (ρ':=[‹.int c›,‹.str o›,‹.str q›,‹.str (nst n)›,‹.lst ((L1++L2++L3).map D.str)›]) (fi rfl (by
  rw[<-e3];exact ax (aK (aK (aH _ (by decide)) (bM rfl ‹0›) (by decide)) (aH _ (by decide)) (by decide)) (ax (aK (aK (aK (aH _ (by decide)) (bM rfl ‹0›) (by decide)) (aH _ (by decide)) (by decide)) (bM rfl ‹0›) (by decide)) (ax (aK (aH _ (by decide)) (bM rfl ‹0›) (by decide)) (ax (aK (aH _ (by decide)) (bM rfl ‹0›) (by decide)) dX)))) (by rw[T1];omega) ‹0›) rfl ?_
 rw[<-hL];exact j4 (Q:=λz=>z=_) (d:=.str x) (by simp! only[er,ix]) rfl
def Bk(t u:Str):("[join ":Str)++t++" "++u++"]"=tB "join" t u []:=aI (by
 rw[jr,au,au,bj,ao,ao,ao,ao,show ap ("[join ":Str)=91::(ap "join"++[32])from by decide,show ap ("]":Str)=[93]from by decide,show ap (" ":Str)=[32]from by decide]
 simp)
def vG{n z:Str}(t u:Str)(hz:ap z=32::(ap n++[93])):("[gather ":Str)++t++" "++u++z=tB "gather" t u [n]:=aI (by
 rw[jr,au,au,au,bj,ao,ao,ao,ao,hz,show ap ("[gather ":Str)=91::(ap "gather"++[32])from by decide,show ap (" ":Str)=[32]from by decide]
 simp)
def kP{t:Str}:∀{sw:af},sw≠[]->("(":Str)++t++" "++Txt.join " " sw++")"=tO t sw
 |[],h=>bt rfl h
 |x::xs,_=>aI (by
  rw[jj,au,ao,ao,ao,ao,show ap ("(":Str)=[40]from by decide,show ap (")":Str)=[41]from by decide,show ap (" ":Str)=[32]from by decide]
  simp)
def JF{g:D}{t x:Str}{w:af}{m:Nat}(h:jd g t w m)(hx:ST x):∃g' w',jd g' (("(":Str)++t++" "++x++")") w' (m+1):=by
 obtain⟨s,sw,hs,rfl⟩:=hx;rw[kP hs.ne];exact⟨_,_,.ov h hs⟩
def NQ:fY "in":=lL (by decide +kernel)
def GT(t:Str)(n:Nat):Prop:=∃g w m,jd g t w m/\m<=n
theorem GT.len{t:Str}{n:Nat}(h:GT t n):t.length<=300*n+100:=by
 obtain⟨g,w,m,h,hm⟩:=h
 have:=h.len
 omega
def Hv(ds:List D)(hd:∀d∈ds,∃c:Int,d=.int c)(hl:ds.length<=5)(f:Int):∃t:Str,GT t 10/\az fQ 2 7 [.lst ds,.int f]=.ok (.str t):=by
 obtain⟨x,hx,ex⟩:=lF f;rw[bb];unfold fQ;refine cT (Q:=λr=>∃t:Str,GT t 10/\r=.ok (.str t)) (d:=.str x) (ρ':=[‹.lst ds›,‹.int f›,‹.str x›,am,am,am,am]) (by simp! only[ex]) rfl ?_;show∃t:Str,GT t 10/\aF _ _ _ [‹.lst ds›,am,‹.str x›,am,am,am,am]=.ok (.str t);rw[bS,lE];have it:fj (ae 0) [‹.lst ds›,am,‹.str x›,am,am,am,am]=.ok ds:=by simp! only[]
 rw[it,fA];refine zV (Q:=λr=>∃t:Str,GT t 10/\r=.ok (.str t)) (λi ρ=>∃t:Str,GT t (2*i)/\ρ=[‹.lst ds›,am,‹.str t›,am,am,am,am]) ?_ ⟨x,⟨_,_,_,.lf hx,Tt _⟩,rfl⟩ ?_
 ·intro i d ρ k' hdi;rintro⟨t,ht,rfl⟩;have hi:=sk hdi;obtain⟨c,rfl⟩:=hd d (yE hdi);have lt:=ht.len;obtain⟨o,ho,eo⟩:=lF (c/17+1);obtain⟨r,_,_,er⟩:=tZ c 1 (by decide) 9 (by decide);have er:az cx 3 5 [.int c,.int 1,.int 9]=.ok (.int r):=er;obtain⟨p,p0,p1,ep⟩:=tZ c 2 (by decide) 2 (by decide);have ep:az cx 3 5 [.int c,.int 2,.int 2]=.ok (.int p):=ep;obtain⟨u,hu,lu,eu⟩:=zE (c/3);obtain⟨v,hv,lv,ev⟩:=zE c;have lo:=ho.eig;have d17:=gV (i:=c) (show(0:Int)<17 by decide) (show(17:Int)<10^200 by decide);have d3:=gV (i:=c) (show(0:Int)<3 by decide) (show(3:Int)<10^200 by decide);obtain⟨z,hz,ez⟩:=wo (xs:=[o,("(":Str)++o++" "++u++")"]) p0 (show p<2 from p1);have gz:GT z 1:=by
   simp only[UH,UI,or_false]at hz;rcases hz with rfl|rfl
   ·exact⟨_,_,_,.lf ho,by decide⟩
   ·obtain⟨g',w',h'⟩:=JF (.lf ho) hu;exact⟨_,_,_,h',by decide⟩
  have lz:=gz.len;obtain⟨t',ht',body⟩:∃t':Str,GT t' (2*(i+1))/\∀kk:Ks,fq (fB (f2 jc (ae 5) (fC (.int 0)))) (bK 2 (f2 av (f2 av (f2 av (f2 av (fC (.str "[join ")) (ae 2)) (fC (.str " "))) (ae 6)) (fC (.str "]")))) (fq (fB (f2 jc (ae 5) (fC (.int 1)))) (bK 2 (f2 av (f2 av (f2 av (f2 av (fC (.str "[gather ")) (ae 6)) (fC (.str " "))) (ae 2)) (fC (.str " in]")))) (bK 2 (f2 av (f2 av (f2 av (f2 av (fC (.str "(")) (ae 2)) (fC (.str " "))) (fR (az dh 1 5) (aa (ae 3) aj))) (fC (.str ")"))))) kk [‹.lst ds›,am,‹.str t›,‹.int c›,‹.str o›,‹.int r›,‹.str z›]=kk.nx [‹.lst ds›,am,‹.str t'›,‹.int c›,‹.str o›,‹.int r›,‹.str z›]:=by
   obtain⟨g,w,m,hg,hm⟩:=ht;obtain⟨gs,ws,ms,hs,hms⟩:=gz;cases h0:r==0 with
   |true=>
    refine⟨_,⟨_,_,_,.bo hg hs zS,by omega⟩,λkk=>qb (Q:=λz=>z=_) (Aw rfl h0) (λ_=>?_) λz=>by cases z⟩;rw[<-Bk];exact uz (Q:=λz=>z=_) (aK (aK (aK (aK (aH _ (by decide)) (bM rfl ‹0›) (by decide)) (aH _ (by decide)) (by decide)) (bM rfl ‹0›) (by decide)) (aH _ (by decide)) (by decide)).e rfl rfl
   |false=>
   cases h1:r==1 with
   |true=>
    refine⟨_,⟨_,_,_,.bo hs hg (ro NQ),by omega⟩,λkk=>qb (Q:=λz=>z=_) (Aw rfl h0) (λz=>by cases z) λ_=>qb (Q:=λz=>z=_) (Aw rfl h1) (λ_=>?_) λz=>by cases z⟩;rw[<-vG (n:="in") (z:=" in]") _ _ (by decide)];exact uz (Q:=λz=>z=_) (aK (aK (aK (aK (aH _ (by decide)) (bM rfl ‹0›) (by decide)) (aH _ (by decide)) (by decide)) (bM rfl ‹0›) (by decide)) (aH _ (by decide)) (by decide)).e rfl rfl
   |false=>
    obtain⟨g',w',h'⟩:=JF hg hv;refine⟨_,⟨_,_,_,h',by omega⟩,λkk=>qb (Q:=λz=>z=_) (Aw rfl h0) (λz=>by cases z) λ_=>qb (Q:=λz=>z=_) (Aw rfl h1) (λz=>by cases z) λ_=>?_⟩;have fv:fR (az dh 1 5) (aa (ae 3) aj) [‹.lst ds›,am,‹.str t›,‹.int c›,‹.str o›,‹.int r›,‹.str z›]=.ok (.str v):=(by simp! only[ev]);exact uz (Q:=λz=>z=_) (aK (aK (aK (aK (aH _ (by decide)) (bM rfl ‹0›) (by decide)) (aH _ (by decide)) (by decide)) ⟨fv,(show v.length<=4000*1 by omega)⟩ (by decide)) (aH _ (by decide)) (by decide)).e rfl rfl
  refine⟨[‹.lst ds›,am,‹.str t›,‹.int c›,am,am,am],[‹.lst ds›,am,‹.str t'›,am,am,am,am],rfl,⟨t',ht',rfl⟩,?_⟩;refine cT (Q:=λz=>z=_) (d:=.str o) (ρ':=[‹.lst ds›,am,‹.str t›,‹.int c›,‹.str o›,am,am]) (by simp! only[d17,eo]) rfl ?_;refine cT (Q:=λz=>z=_) (d:=.int r) (ρ':=[‹.lst ds›,am,‹.str t›,‹.int c›,‹.str o›,‹.int r›,am]) (by simp! only[er]) rfl ?_;have fu:fR (az dh 1 5) (aa (f2 jv (ae 3) (fC (.int 3))) aj) [‹.lst ds›,am,‹.str t›,‹.int c›,‹.str o›,‹.int r›,am]=.ok (.str u):=by simp! only[d3,eu]
  have fl:=pN (ax (bM (ρ:=[‹.lst ds›,am,‹.str t›,‹.int c›,‹.str o›,‹.int r›,am]) (i:=4) rfl ‹0›) (ax (aK (aK (aK (aK (aH "(" (by decide)) (bM (i:=4) rfl ‹0›) (by decide)) (aH " " (by decide)) (by decide)) ⟨fu,(show u.length<=4000*1 by omega)⟩ (by decide)) (aH ")" (by decide)) (by decide)) dX)) (Vo rfl);have fp:fR (az cx 3 5) (aa (ae 3) (aa (fC (.int 2)) (aa (fC (.int 2)) aj))) [‹.lst ds›,am,‹.str t›,‹.int c›,‹.str o›,‹.int r›,am]=.ok (.int p):=by simp! only[ep]
  refine cT (Q:=λz=>z=_) (d:=.str z) (ρ':=[‹.lst ds›,am,‹.str t›,‹.int c›,‹.str o›,‹.int r›,‹.str z›]) (by
   show((dP _ _).bind λa=>(fR _ _ _).bind λb=>rO (aX a b))=_;rw[fl,fp];show rO (aX _ _)=_;rw[ez];rfl) rfl ?_
  rw[bS,body];rfl
 ·rintro ρ' ⟨t,⟨g,w,m,hg,hm⟩,rfl⟩;exact⟨t,⟨g,w,m,hg,by omega⟩,by simp! only[]⟩
def qw{a b:bJ}(h:a.Sublist b):op a<=op b:=h.countP_le
def uC{x:Str}(h:j8 x):op (ap x)=0:=by
 unfold op;rw[List.countP_eq_zero];intro c hc z
 have:=(h.sg c hc).2
 unfold CW at z;rw[Us]at z;rcases z with z|z
 ·rw[eq_of_beq z]at this;cases this
 ·rw[eq_of_beq z]at this;cases this
theorem sU:∀(ws:af)(t:Str),(∀x∈ws,j8 x)->op (ap (Txt.join " " (t::ws)))=op (ap t)
 |[],t,_=>by rw[bj]
 |x::xs,t,h=>by
  rw[au,dW,eB,sU xs x λy hy=>h y (Tl _ hy),uC (h x Tj)];rfl
theorem jd.op{g:D}{t:Str}{w:af}{m:Nat}(h:jd g t w m):Tk91.op (ap t)<=m:=by
 induction h with
 |lf h=>rw[uC h.w];exact Tt _
 |ov _ s ih=>
  rw[jj,eB,dW,sU _ _ s.ok];have z1:CW 40=true:=rfl;have z2:Tk91.op [41]=0:=rfl;rw[z1,z2,ba rfl];omega
 |bo _ _ p ih jh=>
  rw[jr,eB,dW,au,au,dW,eB,dW,eB,sU _ _ (λx hx=>p.ok x (Tl _ hx)),uC (p.ok _ Tj)];have z1:CW 91=true:=rfl;have z2:Tk91.op [93]=0:=rfl;have z3:CW 32=false:=rfl;rw[z1,z2,z3,ba rfl,br Tq];omega
def jd.pos{g:D}{t:Str}{w:af}{m:Nat}(h:jd g t w m):1<=t.length:=by
 cases h with
 |lf h=>exact h.one
 |ov _ s=>rw[aB,jj,Tw];omega
 |bo _ _ p=>rw[aB,jr,Tw];omega
def yJ(x:Str)(h:x.length<=90000)(a b:dH):fh (.str x) a b=ag (.str (mk (cutD (ap x) a b))):=by
 show(if small x.length then ag (D.str ⟨(cutD x.cps.toList a b).toArray⟩)else am)=_;rw[cm ‹0›];rfl
def Ku(x:Str):(Cb x " " "  ").length<=x.length+2/\Tk91.op (ap (Cb x " " "  "))<=Tk91.op (ap x):=by
 unfold Cb;split
 ·exact⟨by omega,Tt _⟩
 ·rename_i hc;have hl:=StrLaws.occ_length_le x " " 0 x.length 1;generalize Builtin.Str.occurrences x " " 0 x.length 1=cs at *
  match cs,hl,hc with
  |[],_,hc=>exact bt rfl hc
  |[i],_,_=>
   have e:ap (Builtin.Str.glued "  " (Builtin.Str.partsBetween x [i] (" ":Str).length))=(ap x).take i++([32,32]++((ap x).drop (i+1)).take (x.length-(i+1))):=by
    show((x.cps.extract 0 i)++("  ":Str).cps++(x.cps.extract (i+(" ":Str).length) x.length)).toList=_;have l1:(" ":Str).length=1:=(by decide);have c2:("  ":Str).cps.toList=[32,32]:=(by decide);rw[Array.toList_append,Array.toList_append,Array.toList_extract,Array.toList_extract,l1,c2,UC];simp[List.extract_eq_drop_take]
   refine⟨?_,?_⟩
   ·rw[aB,e,T1,T1,TN,TN,T5,aB x];show _+(2+_)<=_;omega
   ·rw[e,dW,dW];have z:Tk91.op [32,32]=0:=rfl;have h1:Tk91.op (((ap x).drop (i+1)).take (x.length-(i+1)))<=Tk91.op ((ap x).drop i):=qw ((TY _ _).trans (by rw[<-List.drop_drop];exact Vu _ _));have h2:=dW ((ap x).take i) ((ap x).drop i);rw[Vv]at h2;omega
def CK(c:Nat):Tk91.op (ap (⟨#[c]⟩:Str))<=1:=by
 show Tk91.op [c]<=1;rw[eB];have z:Tk91.op []=0:=rfl;rw[z];split<;>omega
noncomputable def SG:Str:=" ()[]aA0-.1_\n7"
def MH:SG.length=14:=by decide
def MS(j:Int)(h0:0<=j)(h1:j<14):∃c:Nat,aX (.str SG) (.int j)=ag (.str ⟨#[c]⟩):=⟨_,C5 SG (by decide) j h0 (by rw[MH];exact h1)⟩
def y8(y:Str):Prop:=y.length<=3300/\Tk91.op (ap y)<=12
def AC{t:Str}(ht:GT t 10)(way c:Int):∃y,y8 y/\az eL 3 5 [.str t,.int way,.int c]=.ok (.str y):=by
 have lt:=ht.len;obtain⟨g0,w0,m0,hg,hm⟩:=ht;have ot:=hg.op;have pt:=hg.pos;have el:=jp (x:=t) ‹0›;have d14:=gV (i:=c) (show(0:Int)<14 by decide) (show(14:Int)<10^200 by decide);have g14:=eI (i:=c) (show(0:Int)<14 by decide);have g2:=eI (i:=c) (show(0:Int)<2 by decide);have gl:=eI (i:=c/14) (show(0:Int)<(t.length:Int)by omega);have n0:=Vs (c/14) (show(t.length:Int)≠0 by omega);have n1:=Vt (c/14) (show(0:Int)<(t.length:Int)by omega);obtain⟨a,ea⟩:∃a:Nat,c/14%(t.length:Int)=(a:Int):=⟨(c/14%(t.length:Int)).toNat,by omega⟩
 rw[ea]at gl;obtain⟨sg,es⟩:=MS (c%14) ‹0› ‹0›;have lc:=aB t;have s1:fh (.str t) am (ag (a:Int))=ag (.str (mk ((ap t).take a))):=by rw[yJ t ‹0›,LJ]
 have s2:fh (.str t) (ag (a:Int)) am=ag (.str (mk ((ap t).drop a))):=by rw[yJ t ‹0›,vw]
 have s3:fh (.str t) (ag ((a:Int)+1)) am=ag (.str (mk ((ap t).drop (a+1)))):=by rw[show(a:Int)+1=((a+1:Nat):Int)by omega,yJ t ‹0›,vw]
 have s4:=yJ t ‹0› am (ag (-1));have l1:(mk ((ap t).take a)).length<=3100:=by rw[aB,cf,TN];omega
 have l2:(mk ((ap t).drop a)).length+(mk ((ap t).take a)).length=t.length:=by rw[aB,cf,aB,cf,T5,TN];omega
 have l3:(mk ((ap t).drop (a+1))).length<=(mk ((ap t).drop a)).length:=by rw[aB,cf,aB,cf,T5,T5];omega
 have o1:=dW ((ap t).take a) ((ap t).drop a);rw[Vv]at o1;have o2:Tk91.op ((ap t).drop (a+1))<=Tk91.op ((ap t).drop a):=qw (by rw[<-List.drop_drop];exact Vu _ _);have os:=CK sg;have ls:(⟨#[sg]⟩:Str).length=1:=rfl;rw[C9];unfold eL;rw[show(" ()[]aA0-.1_\n7":Str)=SG from rfl];refine cT (Q:=λr=>∃y,y8 y/\r=.ok (.str y)) (d:=.int a) (ρ':=[‹.str t›,‹.int way›,‹.int c›,‹.int a›,am]) (by simp! only[d14,el,gl]) rfl ?_;refine cT (Q:=λr=>∃y,y8 y/\r=.ok (.str y)) (d:=.str ⟨#[sg]⟩) (ρ':=[‹.str t›,‹.int way›,‹.int c›,‹.int a›,‹.str ⟨#[sg]⟩›]) (by simp! only[g14,es]) rfl ?_;refine Af (Q:=λr=>∃y,y8 y/\r=.ok (.str y)) (b:=decide (way<3)) (by simp! only[]) (λ_=>?_) λ_=>?_
 ·have a1:=iS (mk ((ap t).take a)) ⟨#[sg]⟩ ‹0›;have a2:=iS (mk ((ap t).take a)++⟨#[sg]⟩) (mk ((ap t).drop a)) (by rw[cQ];omega);refine j4 (Q:=λr=>∃y,y8 y/\r=.ok (.str y)) (d:=.str (mk ((ap t).take a)++⟨#[sg]⟩++mk ((ap t).drop a))) (by simp! only[s1,s2,a1,a2]) ⟨_,⟨?_,?_⟩,rfl⟩
  ·rw[cQ,cQ];omega
  ·rw[ao,ao,dW,dW,cf,cf];omega
 refine Af (Q:=λr=>∃y,y8 y/\r=.ok (.str y)) (b:=decide (way<5)) (by simp! only[]) (λ_=>?_) λ_=>?_
 ·have a1:=iS (mk ((ap t).take a)) (mk ((ap t).drop (a+1))) ‹0›;refine j4 (Q:=λr=>∃y,y8 y/\r=.ok (.str y)) (d:=.str (mk ((ap t).take a)++mk ((ap t).drop (a+1)))) (by simp! only[s1,s3,a1]) ⟨_,⟨?_,?_⟩,rfl⟩
  ·rw[cQ];omega
  ·rw[ao,dW,cf,cf];omega
 refine Af (Q:=λr=>∃y,y8 y/\r=.ok (.str y)) (b:=decide (way<8)) (by simp! only[]) (λ_=>?_) λ_=>?_
 ·have a1:=iS (mk ((ap t).take a)) ⟨#[sg]⟩ ‹0›;have a2:=iS (mk ((ap t).take a)++⟨#[sg]⟩) (mk ((ap t).drop (a+1))) (by rw[cQ];omega);refine j4 (Q:=λr=>∃y,y8 y/\r=.ok (.str y)) (d:=.str (mk ((ap t).take a)++⟨#[sg]⟩++mk ((ap t).drop (a+1)))) (by simp! only[s1,s3,a1,a2]) ⟨_,⟨?_,?_⟩,rfl⟩
  ·rw[cQ,cQ];omega
  ·rw[ao,ao,dW,dW,cf,cf];omega
 refine Af (Q:=λr=>∃y,y8 y/\r=.ok (.str y)) (b:=way==8) (by simp! only[]) (λ_=>?_) λ_=>?_
 ·refine j4 (Q:=λr=>∃y,y8 y/\r=.ok (.str y)) (d:=.str (mk (cutD (ap t) am (ag (-1))))) (by simp! only[s4]) ⟨_,⟨?_,?_⟩,rfl⟩
  ·rw[aB,cf]
   have:=vH (ap t) am (ag (-1))
   omega
  ·rw[cf]
   have:Tk91.op (cutD (ap t) am (ag (-1)))<=Tk91.op (ap t):=qw ((TY _ _).trans (Vu _ _))
   omega
 refine Af (Q:=λr=>∃y,y8 y/\r=.ok (.str y)) (b:=way==9) (by simp! only[]) (λ_=>?_) λ_=>?_
 ·have ne:ap t≠[]:=λz=>by rw[z]at lc;simp at lc;omega
  have e:=CT (ap t).dropLast ((ap t).getLast ne);rw[List.dropLast_concat_getLast]at e;have i1:aX (.str t) (.int (-1))=ag (.str ⟨#[(ap t).getLast ne]⟩):=by
   show(if small t.length then(j6 (ap t) (-1)).bind λc=>ag (D.str ⟨#[c]⟩)else am)=_;rw[cm ‹0›,ba rfl,e];rfl
  have ll:(⟨#[(ap t).getLast ne]⟩:Str).length=1:=rfl;have a1:=iS t ⟨#[(ap t).getLast ne]⟩ ‹0›
  have:=CK ((ap t).getLast ne)
  refine j4 (Q:=λr=>∃y,y8 y/\r=.ok (.str y)) (d:=.str (t++⟨#[(ap t).getLast ne]⟩)) (by simp! only[i1,a1]) ⟨_,⟨?_,?_⟩,rfl⟩
  ·rw[cQ];omega
  ·rw[ao,dW];omega
 obtain⟨r1,r2⟩:=Ku t;have er:GP " " "  " (.str t)=ag (.str (Cb t " " "  ")):=by
  show(if t.length<=100000 then _ else _)=_;rw[ba ‹0›]
 obtain⟨z,hz,ez⟩:=wo (xs:=([""," "]:af)) (j:=c%2) ‹0› (show c%2<2 by omega);have hz:z.length<=1/\Tk91.op (ap z)=0:=by
  simp only[UH,UI,or_false]at hz;rcases hz with rfl|rfl
  ·exact⟨by decide,by decide⟩
  ·exact⟨by decide,by decide⟩
 have m2:o5 [.str "",.str " "]=ag (.lst [.str "",.str " "]):=rfl;have ez:aX (.lst [.str "",.str " "]) (.int (c%2))=ag (.str z):=ez;have a1:=iS (Cb t " " "  ") z ‹0›;refine j4 (Q:=λr=>∃y,y8 y/\r=.ok (.str y)) (d:=.str (Cb t " " "  "++z)) (by simp! only[er,m2,g2,ez,a1]) ⟨_,⟨?_,?_⟩,rfl⟩
 ·rw[cQ];omega
 ·rw[ao,dW];omega
def rW{ss ws:af}(h:ss.length≠ws.length):az aM 2 2 [.kt ss,.lst (ws.map .str)]=nT:=by
 have e1:fz [.kt ss]=ag (.int (ss.length:Int)):=rfl;have e2:fz [.lst (ws.map .str)]=ag (.int (ws.length:Int)):=by show ag (D.int ((ws.map D.str).length:Int))=_;rw[Tz]
 have c:((ss.length:Int)==(ws.length:Int))=false:=by simpa using λz=>h ‹0›
 rw[bb];unfold aM;generalize D.lst (ws.map .str)=b at *;simp! only[e1,e2,c,cc,ve]
theorem Gs.mem{α:Type}{P:α->D->Prop}{a:α}:∀{xs:List α}{vs:List D},Gs P xs vs->a∈xs->∃v,P a v
 |_,_,.nil,h=>nomatch h
 |_,_,.cons p r,h=>by
  rcases List.mem_cons.mp h with z|z
  ·subst z;exact⟨_,p⟩
  ·exact r.mem z
def yh{ss ws:af}(hs:∀s∈ss,s∈sorts)(hw:∀w∈ws,w.length<=90000)(hl:ss.length<=100){s w:Str}(hm:(s,w)∈ss.zip ws)(hb:az aA 2 2 [.str s,.str w]=nT):az aM 2 2 [.kt ss,.lst (ws.map .str)]=nT:=by
 by_cases el:ss.length=ws.length
 ·have e1:fz [.kt ss]=ag (.int (ss.length:Int)):=rfl;have e2:fz [.lst (ws.map .str)]=ag (.int (ws.length:Int)):=by show ag (D.int ((ws.map D.str).length:Int))=_;rw[Tz]
  have c:((ss.length:Int)==(ws.length:Int))=true:=by rw[el];exact BEq.rfl
  have hz:xS (aa (ae 0) (aa (ae 1) aj)) [‹.kt ss›,‹.lst (ws.map .str)›]=.ok ((ss.zip ws).map λp=>.tup [.str p.1,.str p.2]):=by
   show(rO (ag (iL (ss.map D.str) (ws.map D.str))))=_;rw[yu];rfl
  have lz:((ss.zip ws).map λp:Str×Str=>D.tup [.str p.1,.str p.2]).length<=100000:=by rw[Tz,UX];omega
  have la:=nV (ρ:=inB [am,am] [‹.kt ss›,‹.lst (ws.map .str)›]) (g:=gT 2 (vc [0,1])) (Fe:=fR (az aA 2 2) (aa (ae 0) (aa (ae 1) aj))) (x:=⟨"NoText",[],[]⟩) (λp:Str×Str=>D.tup [.str p.1,.str p.2]) (λp v=>az aA 2 2 [.str p.1,.str p.2]=.ok v) (ss.zip ws) λp hp=>⟨_,rfl,by
   have m:=TL (a:=p.1) (b:=p.2) hp;rcases rS p.1 p.2 (hs _ m.1) (hw _ m.2)with h|⟨v,hv,h⟩
   ·left;simp! only[h]
   ·exact .inr ⟨v,h,by simp! only[h]⟩⟩
  rcases la with la|⟨vs,hv,la⟩
  ·have f0:=nX hz lz la;rw[bb];unfold aM;generalize D.lst (ws.map .str)=b at *;simp! only[e1,e2,c,f0]
  ·obtain⟨v,q⟩:=hv.mem hm;have q:az aA 2 2 [.str s,.str w]=.ok v:=q;rw[hb]at q;cases q
 ·exact rW el
def AW:af->Prop
 |[]=>True
 |w::ws=>(j8 w/\w.length<=62)/\AW ws
theorem AW.mem:∀{ws:af},AW ws->∀w∈ws,j8 w/\w.length<=62
 |_::_,h,w,hw=>by
  rcases List.mem_cons.mp hw with z|z
  ·rw[z];exact h.1
  ·exact AW.mem h.2 w z
def wk(x:Str)(h:(!(ap x).isEmpty&&(ap x).all λc=>!Unicode.isSpace c&&!BR.contains c)=true)(hl:x.length<=62):j8 x/\x.length<=62:=⟨eN h,hl⟩
def AW.l{ws:af}(h:AW ws):∀w∈ws,w.length<=90000:=λw hw=>Tg (h.mem w hw).2 (by decide)
def BS(x:Str):Prop:=∃nw:af,nw≠[]/\AW nw/\nw.length<=20/\x=Txt.join " " nw/\(az aE 1 1 [.lst (nw.map .str)]=nT\/∃s sw,kU s sw/\az aE 1 1 [.lst (nw.map .str)]=.ok s/\Txt.join " " sw≠Txt.join " " nw)
def x8:af->Prop
 |[]=>True
 |x::xs=>BS x/\x8 xs
theorem x8.mem:∀{xs:af},x8 xs->∀x∈xs,BS x
 |_::_,h,x,hx=>by
  rcases List.mem_cons.mp hx with z|z
  ·rw[z];exact h.1
  ·exact x8.mem h.2 x z
theorem x8.app:∀{xs ys:af},x8 xs->x8 ys->x8 (xs++ys)
 |[],_,_,h=>h
 |_::_,_,h,k=>⟨h.1,x8.app h.2 k⟩
def ce{x f:Str}{ws:af}(e:x=Txt.join " " (f::ws))(hw:AW (f::ws))(hl:ws.length<=19)(h:az aE 1 1 [.lst ((f::ws).map .str)]=nT):BS x:=⟨f::ws,Vw _ _,hw,Nat.succ_le_succ hl,e,.inl h⟩
def lN{f:Str}{ss ws:af}(hk:(f==("keep":Str))=false)(hd:dR.lookup f=ag ss)(h:ss.length≠ws.length):az aE 1 1 [.lst ((f::ws).map .str)]=nT:=pq hk hd (rW h)
def eT{f:Str}{ss ws:af}{s w:Str}(hk:(f==("keep":Str))=false)(hd:dR.lookup f=ag ss)(hs:∀s∈ss,s∈sorts)(hl:ss.length<=100)(hw:AW ws)(hm:(s,w)∈ss.zip ws)(hb:az aA 2 2 [.str s,.str w]=nT):az aE 1 1 [.lst ((f::ws).map .str)]=nT:=pq hk hd (yh hs hw.l hl hm hb)
def Bo{o:Str}(ho:fY o):az aZ 1 2 [.str o]=nT:=by
 have s:=eS o 45;have c:decide ((ap o)[0]?=ag 45)=false:=cb λz=>by have:=sF (ho.lts _ (TZ z));omega
 rw[c]at s;have l8:=ho.eig;have l1:=ho.one;have el:=jp (x:=o) ‹0›;have f0:=qD Cj o ‹0› (ρ:=[‹.str o›,‹.str o›]) (j:=1) rfl;have ga:=uD (o.cps.toList.map λn=>decide (n∈Cj.cps.toList));have c3:(o.cps.toList.map λn=>decide (n∈Cj.cps.toList)).all id=false:=by
  cases h:o.cps.toList with
  |nil=>have:=aB o;rw[show ap o=[]from h]at this;simp at this;omega
  |cons a r=>
   have ha:=sF (ho.lts a (by rw[h];exact Tj))
   have:decide (a∈Cj.cps.toList)=false:=cb λz=>by
    rw[zR]at z;obtain⟨i,hi,e⟩:=List.mem_range'.mp z;omega
   rw[Tx,Uk,this];rfl
 rw[c3]at ga;have c1:decide ((1:Int)<=(o.length:Int))=true:=b0 ‹0›;have c2:decide ((o.length:Int)<=60)=true:=b0 ‹0›;rw[aG];unfold aZ;simp! only[gG,show("0123456789":Str)=Cj from rfl,cn,s,el,c1,c2,Vj,f0,ga,cc,ve]
def PV{o:Str}(ho:fY o):az aA 2 2 [.str "number",.str o]=nT:=by
 have e:=Bo ho;rw[bb];unfold aA;simp! only[BEq.rfl,nJ,e]
def MU{a:Str}{us:af}(hu:∀u∈us,uG u)(hl:us.length<=50):QU [‹.lst (.str a::(us.map dot).map .str)›]=.ok (.lst (us.map .str)):=by
 refine jx (ds:=(us.map dot).map .str) (by simp! only[ke,Uj,Ui]) (by rw[Tz,Tz];omega) ?_;rw[U7];refine oJ (D.str∘dot) D.str us λw hw=>⟨_,rfl,?_⟩
 have e:=mJ (hu w hw);show(fR (az bh 1 1) (aa (ae 0) aj)) [‹.str (dot w)›]=_;generalize dot w=x at *;simp! only[e]
def ub{o:Str}(ho:fY o)(us ws:af)(e:us.map dot=ws)(hu:∀u∈us,uG u)(hl:us.length<=50)(h:¬(us≠[]/\us.length<=12/\Up us)):az aE 1 1 [.lst (((("keep":Str))::o::ws).map .str)]=nT:=by
 subst e;rw[n8,zD ho (MU hu hl)];rcases pY o us hu ‹0›with z|⟨z,_⟩
 ·exact z
 ·exact bt z h
theorem P7{o:Str}(ho:fY o):az aE 1 1 [.lst (((("keep":Str))::o::["a"]).map .str)]=nT:=by
 rw[n8];have la:vd (inB [am] [‹.lst (.str o::(["a"]:af).map .str)›]) (gN 0) (fR (az bh 1 1) (aa (ae 0) aj)) ((["a"]:af).map D.str)=.error (ag ⟨"NoText",[],[]⟩):=by
  have e:az bh 1 1 [.str "a"]=nT:=by kernel_rfl
  exact zJ (α:=Str) D.str D.str [] "a" [] (λa ha=>nomatch ha) ⟨_,rfl,by simp! only[e]⟩
 exact wu ho (nX (ds:=(["a"]:af).map D.str) (by simp! only[ke,Uj,Ui]) (by decide) la)
def M3{o:Str}(ho:fY o):az aE 1 1 [.lst (((("sieve":Str))::[o,"4","3"]).map .str)]=nT:=by
 have e4:nst 4="4":=by decide +kernel
 have e3:nst 3="3":=by decide +kernel
 have v:=cK (ss:=["name","number","number"]) (ws:=[o,nst 4,nst 3]) (vs:=[.str o,.int 4,.int 3]) [("name",o,.str o),("number",nst 4,.int 4),("number",nst 3,.int 3)] (by
  intro p hp;simp only[UH,UI,or_false]at hp;rcases hp with rfl|rfl|rfl
  ·exact v_name ho
  ·exact o6 4 (by decide)
  ·exact o6 3 (by decide)) (Vo rfl) rfl rfl rfl
 rw[e4,e3]at v;rw[nU (by decide) rfl v,vQ];exact vU o 4 3 (by decide)
def MT{o z:Str}{n:Int}(ho:fY o)(hn:n.natAbs<10^60)(hz:AW [z])(v:az aA 2 2 [.str "value",.str z]=.ok (.int n))(ne:ap (nst n)≠ap z){x:Str}(e:x=Txt.join " " ["drop",o,z]):BS x:=by
 refine⟨["drop",o,z],Vw _ _,⟨wk _ (by decide +kernel) (by decide),⟨ho.w,Tg ho.eig (by decide)⟩,hz⟩,Vo rfl,e,.inr ⟨_,_,pQ ho hn,?_,λq=>ne ?_⟩⟩
 ·have va:=cK (ss:=["name","value"]) (ws:=[o,z]) (vs:=[.str o,.int n]) [("name",o,.str o),("value",z,.int n)] (by
   intro p hp;simp only[UH,UI,or_false]at hp;rcases hp with rfl|rfl
   ·exact v_name ho
   ·exact v) (Vo rfl) rfl rfl rfl
  exact(nU (by decide) rfl va).trans lO
 ·have q:=dl ap q;rw[au,au,bj,au,au,bj]at q;exact(List.cons.inj (Vx (List.cons.inj (Vx q)).2)).2
def N2{o z:Str}{n:Int}(ho:fY o)(hn:n.natAbs<10^60)(hz:j8 z/\z.length<=62)(v:az aA 2 2 [.str "number",.str z]=.ok (.int n))(ne:(ap (nst n)).length≠(ap z).length){x:Str}(e:x=Txt.join " " ["nest",z,o]):BS x:=by
 refine⟨["nest",z,o],Vw _ _,⟨wk _ (by decide +kernel) (by decide),hz,⟨ho.w,Tg ho.eig (by decide)⟩,trivial⟩,Vo rfl,e,.inr ⟨_,_,uk hn ho,?_,λq=>ne ?_⟩⟩
 ·have va:=cK (ss:=["number","name"]) (ws:=[z,o]) (vs:=[.int n,.str o]) [("number",z,.int n),("name",o,.str o)] (by
   intro p hp;simp only[UH,UI,or_false]at hp;rcases hp with rfl|rfl
   ·exact v
   ·exact v_name ho) (Vo rfl) rfl rfl rfl
  exact(nU (by decide) rfl va).trans tq
 ·have q:=dl (λy=>(ap y).length) q;simp only[au,bj,T1,Tw]at q;omega
def Qi{us:af}(h:(us.all λw=>decide (w.length<=8)&&w.cps.toList.all λn=>LT.contains n)=true):∀u∈us,uG u:=λu hu=>Om (List.all_eq_true.mp h u hu)
def Oy:Str:=nE "0" 60
def Ra:Str:=("1":Str)++Oy
noncomputable def Qp:Str:=Txt.join " ." ["a","b","c","d","e","f","g","h","i","j","k","l","m"]
def Rv:j8 Ra/\Ra.length<=62:=wk _ (by decide +kernel) (by decide +kernel)
theorem p1{o:Str}(ho:fY o)(vo:j8 o/\o.length<=62):x8 [("rename ":Str)++o,("rename ":Str)++o++" "++o++" "++o,("drop ":Str)++o,("drop ":Str)++o++" a","drop A 1"]:=⟨
  (ce (f:="rename") (ws:=[o]) (aI (by simp only[ao,au,bj,UC];rfl)) ⟨wk _ (by decide +kernel) (by decide),vo,trivial⟩ (Vo rfl) (lN (by decide) rfl (Vy rfl))),
  (ce (f:="rename") (ws:=[o,o,o]) (aI (by simp only[ao,au,bj,UC];rfl)) ⟨wk _ (by decide +kernel) (by decide),vo,vo,vo,trivial⟩ (Vo rfl) (lN (by decide) rfl (Vy rfl))),
  (ce (f:="drop") (ws:=[o]) (aI (by simp only[ao,au,bj,UC];rfl)) ⟨wk _ (by decide +kernel) (by decide),vo,trivial⟩ (Vo rfl) (lN (by decide) rfl (Vy rfl))),
  (ce (f:="drop") (ws:=[o,"a"]) (aI (by simp only[ao,au,bj,UC];rfl)) ⟨wk _ (by decide +kernel) (by decide),vo,wk _ (by decide +kernel) (by decide),trivial⟩ (Vo rfl) (eT (s:="value") (w:="a") (by decide) rfl (by decide) (by decide) ⟨vo,wk _ (by decide +kernel) (by decide),trivial⟩ (.tail _ (.head _)) (by kernel_rfl))),
  (ce (f:="drop") (ws:=["A","1"]) (by decide +kernel) ⟨wk _ (by decide +kernel) (by decide),wk _ (by decide +kernel) (by decide),wk _ (by decide +kernel) (by decide),trivial⟩ (Vo rfl) (eT (s:="name") (w:="A") (by decide) rfl (by decide) (by decide) ⟨wk _ (by decide +kernel) (by decide),wk _ (by decide +kernel) (by decide),trivial⟩ (.head _) (by kernel_rfl))),trivial⟩
theorem p2{o:Str}(ho:fY o)(vo:j8 o/\o.length<=62):x8 [("drop ":Str)++o++" 01",("drop ":Str)++o++" -0",("drop ":Str)++o++" +1",("drop ":Str)++o++" 1.0"]:=⟨
  (MT (n:=1) (z:="01") ho (by decide) ⟨wk _ (by decide +kernel) (by decide),trivial⟩ (by kernel_rfl) (by decide +kernel) (aI (by simp only[ao,au,bj,UC];rfl))),
  (MT (n:=0) (z:="-0") ho (by decide) ⟨wk _ (by decide +kernel) (by decide),trivial⟩ (by kernel_rfl) (by decide +kernel) (aI (by simp only[ao,au,bj,UC];rfl))),
  (ce (f:="drop") (ws:=[o,"+1"]) (aI (by simp only[ao,au,bj,UC];rfl)) ⟨wk _ (by decide +kernel) (by decide),vo,wk _ (by decide +kernel) (by decide),trivial⟩ (Vo rfl) (eT (s:="value") (w:="+1") (by decide) rfl (by decide) (by decide) ⟨vo,wk _ (by decide +kernel) (by decide),trivial⟩ (.tail _ (.head _)) (by kernel_rfl))),
  (ce (f:="drop") (ws:=[o,"1.0"]) (aI (by simp only[ao,au,bj,UC];rfl)) ⟨wk _ (by decide +kernel) (by decide),vo,wk _ (by decide +kernel) (by decide),trivial⟩ (Vo rfl) (eT (s:="value") (w:="1.0") (by decide) rfl (by decide) (by decide) ⟨vo,wk _ (by decide +kernel) (by decide),trivial⟩ (.tail _ (.head _)) (by kernel_rfl))),trivial⟩
theorem p3{o:Str}(ho:fY o)(vo:j8 o/\o.length<=62):x8 [("drop ":Str)++o++" .A",("drop ":Str)++o++" .abcdefghi",("drop ":Str)++o++" 1"++Oy]:=⟨
  (ce (f:="drop") (ws:=[o,".A"]) (aI (by simp only[ao,au,bj,UC];rfl)) ⟨wk _ (by decide +kernel) (by decide),vo,wk _ (by decide +kernel) (by decide),trivial⟩ (Vo rfl) (eT (s:="value") (w:=".A") (by decide) rfl (by decide) (by decide) ⟨vo,wk _ (by decide +kernel) (by decide),trivial⟩ (.tail _ (.head _)) (by kernel_rfl))),
  (ce (f:="drop") (ws:=[o,".abcdefghi"]) (aI (by simp only[ao,au,bj,UC];rfl)) ⟨wk _ (by decide +kernel) (by decide),vo,wk _ (by decide +kernel) (by decide),trivial⟩ (Vo rfl) (eT (s:="value") (w:=".abcdefghi") (by decide) rfl (by decide) (by decide) ⟨vo,wk _ (by decide +kernel) (by decide),trivial⟩ (.tail _ (.head _)) (by kernel_rfl))),
  (ce (f:="drop") (ws:=[o,Ra]) (aI (by simp only[ao,au,bj,UC];rfl)) ⟨wk _ (by decide +kernel) (by decide),vo,Rv,trivial⟩ (Vo rfl) (eT (s:="value") (w:=Ra) (by decide) rfl (by decide) (by decide) ⟨vo,Rv,trivial⟩ (.tail _ (.head _)) (by kernel_rfl))),trivial⟩
theorem p4{o:Str}(ho:fY o)(vo:j8 o/\o.length<=62):x8 [("sieve ":Str)++o++" 4 3",("sieve ":Str)++o++" 3",("sieve ":Str)++o++" .a .b",("keep ":Str)++o]:=⟨
  (ce (f:="sieve") (ws:=[o,"4","3"]) (aI (by simp only[ao,au,bj,UC];rfl)) ⟨wk _ (by decide +kernel) (by decide),vo,wk _ (by decide +kernel) (by decide),wk _ (by decide +kernel) (by decide),trivial⟩ (Vo rfl) (M3 ho)),
  (ce (f:="sieve") (ws:=[o,"3"]) (aI (by simp only[ao,au,bj,UC];rfl)) ⟨wk _ (by decide +kernel) (by decide),vo,wk _ (by decide +kernel) (by decide),trivial⟩ (Vo rfl) (lN (by decide) rfl (Vy rfl))),
  (ce (f:="sieve") (ws:=[o,".a",".b"]) (aI (by simp only[ao,au,bj,UC];rfl)) ⟨wk _ (by decide +kernel) (by decide),vo,wk _ (by decide +kernel) (by decide),wk _ (by decide +kernel) (by decide),trivial⟩ (Vo rfl) (eT (s:="number") (w:=".a") (by decide) rfl (by decide) (by decide) ⟨vo,wk _ (by decide +kernel) (by decide),wk _ (by decide +kernel) (by decide),trivial⟩ (.tail _ (.head _)) (by kernel_rfl))),
  (ce (f:="keep") (ws:=[o]) (aI (by simp only[ao,au,bj,UC];rfl)) ⟨wk _ (by decide +kernel) (by decide),vo,trivial⟩ (Vo rfl) (ub ho [] [] rfl (λu hu=>nomatch hu) (by decide) (λz=>z.1 rfl))),trivial⟩
def p5{o:Str}(ho:fY o)(vo:j8 o/\o.length<=62):x8 [("keep ":Str)++o++" .b .a",("keep ":Str)++o++" .a .a",("keep ":Str)++o++" a",("part ":Str)++o++" 10 q"]:=⟨
  (ce (f:="keep") (ws:=[o,".b",".a"]) (aI (by simp only[ao,au,bj,UC];rfl)) ⟨wk _ (by decide +kernel) (by decide),vo,wk _ (by decide +kernel) (by decide),wk _ (by decide +kernel) (by decide),trivial⟩ (Vo rfl) (ub ho ["b","a"] [".b",".a"] (by decide +kernel) (Qi (by decide +kernel)) (by decide) (λz=>bt z.2.2 (by unfold Up;decide +kernel)))),
  (ce (f:="keep") (ws:=[o,".a",".a"]) (aI (by simp only[ao,au,bj,UC];rfl)) ⟨wk _ (by decide +kernel) (by decide),vo,wk _ (by decide +kernel) (by decide),wk _ (by decide +kernel) (by decide),trivial⟩ (Vo rfl) (ub ho ["a","a"] [".a",".a"] (by decide +kernel) (Qi (by decide +kernel)) (by decide) (λz=>bt z.2.2 (by unfold Up;decide +kernel)))),
  (ce (f:="keep") (ws:=[o,"a"]) (aI (by simp only[ao,au,bj,UC];rfl)) ⟨wk _ (by decide +kernel) (by decide),vo,wk _ (by decide +kernel) (by decide),trivial⟩ (Vo rfl) (P7 ho)),
  (ce (f:="part") (ws:=[o,"10","q"]) (aI (by simp only[ao,au,bj,UC];rfl)) ⟨wk _ (by decide +kernel) (by decide),vo,wk _ (by decide +kernel) (by decide),wk _ (by decide +kernel) (by decide),trivial⟩ (Vo rfl) (lN (by decide) rfl (Vy rfl))),trivial⟩
def p6{o:Str}(ho:fY o)(vo:j8 o/\o.length<=62):x8 [("keep ":Str)++o++" ."++Qp,("nest ":Str)++o++" 1"]:=⟨
  (ce (f:="keep") (ws:=[o,".a",".b",".c",".d",".e",".f",".g",".h",".i",".j",".k",".l",".m"]) (aI (by simp only[ao,au,bj,UC];rfl)) ⟨wk _ (by decide +kernel) (by decide),vo,wk _ (by decide +kernel) (by decide),wk _ (by decide +kernel) (by decide),wk _ (by decide +kernel) (by decide),wk _ (by decide +kernel) (by decide),wk _ (by decide +kernel) (by decide),wk _ (by decide +kernel) (by decide),wk _ (by decide +kernel) (by decide),wk _ (by decide +kernel) (by decide),wk _ (by decide +kernel) (by decide),wk _ (by decide +kernel) (by decide),wk _ (by decide +kernel) (by decide),wk _ (by decide +kernel) (by decide),wk _ (by decide +kernel) (by decide),trivial⟩ (Vo rfl) (ub ho ["a","b","c","d","e","f","g","h","i","j","k","l","m"] [".a",".b",".c",".d",".e",".f",".g",".h",".i",".j",".k",".l",".m"] (by decide +kernel) (Qi (by decide +kernel)) (by decide) (λz=>bt z.2.1 (by decide)))),
  (ce (f:="nest") (ws:=[o,"1"]) (aI (by simp only[ao,au,bj,UC];rfl)) ⟨wk _ (by decide +kernel) (by decide),vo,wk _ (by decide +kernel) (by decide),trivial⟩ (Vo rfl) (eT (s:="number") (w:=o) (by decide) rfl (by decide) (by decide) ⟨vo,wk _ (by decide +kernel) (by decide),trivial⟩ (.head _) (PV ho))),trivial⟩
def p7{o:Str}(ho:fY o)(vo:j8 o/\o.length<=62):x8 ["fuse q r 10","nest 1","unnest",("unnest ":Str)++o++" "++o,("join ":Str)++o,"Rename a b"]:=⟨
  (ce (f:="fuse") (ws:=["q","r","10"]) (by decide +kernel) ⟨wk _ (by decide +kernel) (by decide),wk _ (by decide +kernel) (by decide),wk _ (by decide +kernel) (by decide),wk _ (by decide +kernel) (by decide),trivial⟩ (Vo rfl) (lN (by decide) rfl (Vy rfl))),
  (ce (f:="nest") (ws:=["1"]) (by decide +kernel) ⟨wk _ (by decide +kernel) (by decide),wk _ (by decide +kernel) (by decide),trivial⟩ (Vo rfl) (lN (by decide) rfl (Vy rfl))),
  (ce (f:="unnest") (ws:=[]) (by decide +kernel) ⟨wk _ (by decide +kernel) (by decide),trivial⟩ (Vo rfl) (lN (by decide) rfl (Vy rfl))),
  (ce (f:="unnest") (ws:=[o,o]) (aI (by simp only[ao,au,bj,UC];rfl)) ⟨wk _ (by decide +kernel) (by decide),vo,vo,trivial⟩ (Vo rfl) (lN (by decide) rfl (Vy rfl))),
  (ce (f:="join") (ws:=[o]) (aI (by simp only[ao,au,bj,UC];rfl)) ⟨wk _ (by decide +kernel) (by decide),vo,trivial⟩ (Vo rfl) (oV (by decide) rfl)),
  (ce (f:="Rename") (ws:=["a","b"]) (by decide +kernel) ⟨wk _ (by decide +kernel) (by decide),wk _ (by decide +kernel) (by decide),wk _ (by decide +kernel) (by decide),trivial⟩ (Vo rfl) (oV (by decide) rfl)),trivial⟩
theorem p8{o:Str}(ho:fY o)(vo:j8 o/\o.length<=62):x8 [("rename ":Str)++o++" Ab",("rename a1 ":Str)++o,"nest 1 abcdefghi",("nest 01 ":Str)++o,("nest x ":Str)++o]:=⟨
  (ce (f:="rename") (ws:=[o,"Ab"]) (aI (by simp only[ao,au,bj,UC];rfl)) ⟨wk _ (by decide +kernel) (by decide),vo,wk _ (by decide +kernel) (by decide),trivial⟩ (Vo rfl) (eT (s:="name") (w:="Ab") (by decide) rfl (by decide) (by decide) ⟨vo,wk _ (by decide +kernel) (by decide),trivial⟩ (.tail _ (.head _)) (by kernel_rfl))),
  (ce (f:="rename") (ws:=["a1",o]) (aI (by simp only[ao,au,bj,UC];rfl)) ⟨wk _ (by decide +kernel) (by decide),wk _ (by decide +kernel) (by decide),vo,trivial⟩ (Vo rfl) (eT (s:="name") (w:="a1") (by decide) rfl (by decide) (by decide) ⟨wk _ (by decide +kernel) (by decide),vo,trivial⟩ (.head _) (by kernel_rfl))),
  (ce (f:="nest") (ws:=["1","abcdefghi"]) (by decide +kernel) ⟨wk _ (by decide +kernel) (by decide),wk _ (by decide +kernel) (by decide),wk _ (by decide +kernel) (by decide),trivial⟩ (Vo rfl) (eT (s:="name") (w:="abcdefghi") (by decide) rfl (by decide) (by decide) ⟨wk _ (by decide +kernel) (by decide),wk _ (by decide +kernel) (by decide),trivial⟩ (.tail _ (.head _)) (by kernel_rfl))),
  (N2 (n:=1) (z:="01") ho (by decide) (wk _ (by decide +kernel) (by decide)) (by kernel_rfl) (by decide +kernel) (aI (by simp only[ao,au,bj,UC];rfl))),
  (ce (f:="nest") (ws:=["x",o]) (aI (by simp only[ao,au,bj,UC];rfl)) ⟨wk _ (by decide +kernel) (by decide),wk _ (by decide +kernel) (by decide),vo,trivial⟩ (Vo rfl) (eT (s:="number") (w:="x") (by decide) rfl (by decide) (by decide) ⟨wk _ (by decide +kernel) (by decide),vo,trivial⟩ (.head _) (by kernel_rfl))),trivial⟩
theorem p9{o:Str}(ho:fY o)(vo:j8 o/\o.length<=62):x8 [("nest -0 ":Str)++o,"unnest a1",("part ":Str)++o++" 10 q R","part A 10 q r","fuse q r 10 abcdefghi"]:=⟨
  (N2 (n:=0) (z:="-0") ho (by decide) (wk _ (by decide +kernel) (by decide)) (by kernel_rfl) (by decide +kernel) (aI (by simp only[ao,au,bj,UC];rfl))),
  (ce (f:="unnest") (ws:=["a1"]) (by decide +kernel) ⟨wk _ (by decide +kernel) (by decide),wk _ (by decide +kernel) (by decide),trivial⟩ (Vo rfl) (eT (s:="name") (w:="a1") (by decide) rfl (by decide) (by decide) ⟨wk _ (by decide +kernel) (by decide),trivial⟩ (.head _) (by kernel_rfl))),
  (ce (f:="part") (ws:=[o,"10","q","R"]) (aI (by simp only[ao,au,bj,UC];rfl)) ⟨wk _ (by decide +kernel) (by decide),vo,wk _ (by decide +kernel) (by decide),wk _ (by decide +kernel) (by decide),wk _ (by decide +kernel) (by decide),trivial⟩ (Vo rfl) (eT (s:="name") (w:="R") (by decide) rfl (by decide) (by decide) ⟨vo,wk _ (by decide +kernel) (by decide),wk _ (by decide +kernel) (by decide),wk _ (by decide +kernel) (by decide),trivial⟩ (.tail _ (.tail _ (.tail _ (.head _)))) (by kernel_rfl))),
  (ce (f:="part") (ws:=["A","10","q","r"]) (by decide +kernel) ⟨wk _ (by decide +kernel) (by decide),wk _ (by decide +kernel) (by decide),wk _ (by decide +kernel) (by decide),wk _ (by decide +kernel) (by decide),wk _ (by decide +kernel) (by decide),trivial⟩ (Vo rfl) (eT (s:="name") (w:="A") (by decide) rfl (by decide) (by decide) ⟨wk _ (by decide +kernel) (by decide),wk _ (by decide +kernel) (by decide),wk _ (by decide +kernel) (by decide),wk _ (by decide +kernel) (by decide),trivial⟩ (.head _) (by kernel_rfl))),
  (ce (f:="fuse") (ws:=["q","r","10","abcdefghi"]) (by decide +kernel) ⟨wk _ (by decide +kernel) (by decide),wk _ (by decide +kernel) (by decide),wk _ (by decide +kernel) (by decide),wk _ (by decide +kernel) (by decide),wk _ (by decide +kernel) (by decide),trivial⟩ (Vo rfl) (eT (s:="name") (w:="abcdefghi") (by decide) rfl (by decide) (by decide) ⟨wk _ (by decide +kernel) (by decide),wk _ (by decide +kernel) (by decide),wk _ (by decide +kernel) (by decide),wk _ (by decide +kernel) (by decide),trivial⟩ (.tail _ (.tail _ (.tail _ (.head _)))) (by kernel_rfl))),trivial⟩
theorem p10{o:Str}(ho:fY o)(vo:j8 o/\o.length<=62):x8 ["fuse Q r 10 n","sieve A 3 4","keep a1 .a","drop abcdefghi 1"]:=⟨
  (ce (f:="fuse") (ws:=["Q","r","10","n"]) (by decide +kernel) ⟨wk _ (by decide +kernel) (by decide),wk _ (by decide +kernel) (by decide),wk _ (by decide +kernel) (by decide),wk _ (by decide +kernel) (by decide),wk _ (by decide +kernel) (by decide),trivial⟩ (Vo rfl) (eT (s:="name") (w:="Q") (by decide) rfl (by decide) (by decide) ⟨wk _ (by decide +kernel) (by decide),wk _ (by decide +kernel) (by decide),wk _ (by decide +kernel) (by decide),wk _ (by decide +kernel) (by decide),trivial⟩ (.head _) (by kernel_rfl))),
  (ce (f:="sieve") (ws:=["A","3","4"]) (by decide +kernel) ⟨wk _ (by decide +kernel) (by decide),wk _ (by decide +kernel) (by decide),wk _ (by decide +kernel) (by decide),wk _ (by decide +kernel) (by decide),trivial⟩ (Vo rfl) (eT (s:="name") (w:="A") (by decide) rfl (by decide) (by decide) ⟨wk _ (by decide +kernel) (by decide),wk _ (by decide +kernel) (by decide),wk _ (by decide +kernel) (by decide),trivial⟩ (.head _) (by kernel_rfl))),
  (ce (f:="keep") (ws:=["a1",".a"]) (by decide +kernel) ⟨wk _ (by decide +kernel) (by decide),wk _ (by decide +kernel) (by decide),wk _ (by decide +kernel) (by decide),trivial⟩ (Vo rfl) ((n8 _).trans (wG _ _ (by kernel_rfl)))),
  (ce (f:="drop") (ws:=["abcdefghi","1"]) (by decide +kernel) ⟨wk _ (by decide +kernel) (by decide),wk _ (by decide +kernel) (by decide),wk _ (by decide +kernel) (by decide),trivial⟩ (Vo rfl) (eT (s:="name") (w:="abcdefghi") (by decide) rfl (by decide) (by decide) ⟨wk _ (by decide +kernel) (by decide),wk _ (by decide +kernel) (by decide),trivial⟩ (.head _) (by kernel_rfl))),trivial⟩
theorem RG(ρ:aq):ES (f2 zW (fC (.str "0")) (fC (.int 60))) ρ Oy 1:=⟨by kernel_rfl,by decide +kernel⟩
theorem Sh(ρ:aq):ES (zc (fC (.str " .")) (aa (kD [am] (gh (aa (fC (.int 13)) aj)) (gN 0) eF (f2 aX (fC (.str "abcdefghijklm")) (ae 0))) aj)) ρ Qp 1:=⟨by kernel_rfl,by decide +kernel⟩
theorem AW.sum:∀{ws:af},AW ws->(ws.map (·.length)).sum<=62*ws.length
 |[],_=>Tt _
 |w::ws,h=>by
  have:=AW.sum h.2
  have:=h.1.2
  rw[Tx,Vp,Tw];omega
def BS.len{x:Str}(h:BS x):x.length<=1300:=by
 obtain⟨nw,_,hw,hl,e,_⟩:=h
 have:=hw.sum
 have:=gD nw
 rw[e];omega
def yi(c:Int):∃x:Str,BS x/\az cw 1 3 [.int c]=.ok (.str x):=by
 obtain⟨o,ho,eo⟩:=lF (c/42);have lo:=ho.eig;have vo:j8 o/\o.length<=62:=⟨ho.w,by omega⟩
 have d42:=gV (i:=c) (show(0:Int)<42 by decide) (show(42:Int)<10^200 by decide);have g42:=eI (i:=c) (show(0:Int)<42 by decide);have b1:=p1 ho vo;have b2:=p2 ho vo;have b3:=p3 ho vo;have b4:=p4 ho vo;have b5:=p5 ho vo;have b6:=p6 ho vo;have b7:=p7 ho vo;have b8:=p8 ho vo;have b9:=p9 ho vo;have b10:=p10 ho vo;rw[aG];unfold cw;refine cT (Q:=λr=>∃x:Str,BS x/\r=.ok (.str x)) (d:=.str o) (ρ':=[‹.int c›,‹.str o›,am]) (by simp! only[d42,eo]) rfl ?_;have f1:=pN (ρ:=[‹.int c›,‹.str o›,am]) (ax (aK (aH "rename " (by decide)) (bM (i:=1) (x:=o) rfl ‹0›) (by decide)) (ax (aK (aK (aK (aK (aK (aH "rename " (by decide)) (bM (i:=1) (x:=o) rfl ‹0›) (by decide)) (aH " " (by decide)) (by decide)) (bM (i:=1) (x:=o) rfl ‹0›) (by decide)) (aH " " (by decide)) (by decide)) (bM (i:=1) (x:=o) rfl ‹0›) (by decide)) (ax (aK (aH "drop " (by decide)) (bM (i:=1) (x:=o) rfl ‹0›) (by decide)) (ax (aK (aK (aH "drop " (by decide)) (bM (i:=1) (x:=o) rfl ‹0›) (by decide)) (aH " a" (by decide)) (by decide)) (ax (aH "drop A 1" (by decide)) dX))))) (Vo rfl);generalize e1:([("rename ":Str)++o,("rename ":Str)++o++" "++o++" "++o,("drop ":Str)++o,("drop ":Str)++o++" a","drop A 1"]:af)=L1 at *;have k1:L1.length=5:=by rw[<-e1];rfl
 refine cT (Q:=λr=>∃x:Str,BS x/\r=.ok (.str x)) (d:=.lst (L1.map D.str)) (ρ':=[‹.int c›,‹.str o›,‹.lst (L1.map D.str)›]) f1 rfl ?_;clear f1;have f2:=fi (i:=2) (ρ:=[‹.int c›,‹.str o›,‹.lst (L1.map D.str)›]) (xs:=L1) rfl (ax (aK (aK (aH "drop " (by decide)) (bM (i:=1) (x:=o) rfl ‹0›) (by decide)) (aH " 01" (by decide)) (by decide)) (ax (aK (aK (aH "drop " (by decide)) (bM (i:=1) (x:=o) rfl ‹0›) (by decide)) (aH " -0" (by decide)) (by decide)) (ax (aK (aK (aH "drop " (by decide)) (bM (i:=1) (x:=o) rfl ‹0›) (by decide)) (aH " +1" (by decide)) (by decide)) (ax (aK (aK (aH "drop " (by decide)) (bM (i:=1) (x:=o) rfl ‹0›) (by decide)) (aH " 1.0" (by decide)) (by decide)) dX)))) (by first|omega|(simp only[T1];omega)) (Vo rfl);generalize e2:([("drop ":Str)++o++" 01",("drop ":Str)++o++" -0",("drop ":Str)++o++" +1",("drop ":Str)++o++" 1.0"]:af)=L2 at *;have k2:L2.length=4:=by rw[<-e2];rfl
 refine cT (Q:=λr=>∃x:Str,BS x/\r=.ok (.str x)) (d:=.lst ((L1++L2).map D.str)) (ρ':=[‹.int c›,‹.str o›,‹.lst ((L1++L2).map D.str)›]) f2 rfl ?_;clear f2;have f3:=fi (i:=2) (ρ:=[‹.int c›,‹.str o›,‹.lst ((L1++L2).map D.str)›]) (xs:=L1++L2) rfl (ax (aK (aK (aH "drop " (by decide)) (bM (i:=1) (x:=o) rfl ‹0›) (by decide)) (aH " .A" (by decide)) (by decide)) (ax (aK (aK (aH "drop " (by decide)) (bM (i:=1) (x:=o) rfl ‹0›) (by decide)) (aH " .abcdefghi" (by decide)) (by decide)) (ax (aK (aK (aK (aH "drop " (by decide)) (bM (i:=1) (x:=o) rfl ‹0›) (by decide)) (aH " 1" (by decide)) (by decide)) (RG _) (by decide)) dX))) (by first|omega|(simp only[T1];omega)) (Vo rfl);generalize e3:([("drop ":Str)++o++" .A",("drop ":Str)++o++" .abcdefghi",("drop ":Str)++o++" 1"++Oy]:af)=L3 at *;have k3:L3.length=3:=by rw[<-e3];rfl
 refine cT (Q:=λr=>∃x:Str,BS x/\r=.ok (.str x)) (d:=.lst ((L1++L2++L3).map D.str)) (ρ':=[‹.int c›,‹.str o›,‹.lst ((L1++L2++L3).map D.str)›]) f3 rfl ?_;clear f3;have f4:=fi (i:=2) (ρ:=[‹.int c›,‹.str o›,‹.lst ((L1++L2++L3).map D.str)›]) (xs:=L1++L2++L3) rfl (ax (aK (aK (aH "sieve " (by decide)) (bM (i:=1) (x:=o) rfl ‹0›) (by decide)) (aH " 4 3" (by decide)) (by decide)) (ax (aK (aK (aH "sieve " (by decide)) (bM (i:=1) (x:=o) rfl ‹0›) (by decide)) (aH " 3" (by decide)) (by decide)) (ax (aK (aK (aH "sieve " (by decide)) (bM (i:=1) (x:=o) rfl ‹0›) (by decide)) (aH " .a .b" (by decide)) (by decide)) (ax (aK (aH "keep " (by decide)) (bM (i:=1) (x:=o) rfl ‹0›) (by decide)) dX)))) (by first|omega|(simp only[T1];omega)) (Vo rfl);generalize e4:([("sieve ":Str)++o++" 4 3",("sieve ":Str)++o++" 3",("sieve ":Str)++o++" .a .b",("keep ":Str)++o]:af)=L4 at *;have k4:L4.length=4:=by rw[<-e4];rfl
 refine cT (Q:=λr=>∃x:Str,BS x/\r=.ok (.str x)) (d:=.lst ((L1++L2++L3++L4).map D.str)) (ρ':=[‹.int c›,‹.str o›,‹.lst ((L1++L2++L3++L4).map D.str)›]) f4 rfl ?_;clear f4;have f5:=fi (i:=2) (ρ:=[‹.int c›,‹.str o›,‹.lst ((L1++L2++L3++L4).map D.str)›]) (xs:=L1++L2++L3++L4) rfl (ax (aK (aK (aH "keep " (by decide)) (bM (i:=1) (x:=o) rfl ‹0›) (by decide)) (aH " .b .a" (by decide)) (by decide)) (ax (aK (aK (aH "keep " (by decide)) (bM (i:=1) (x:=o) rfl ‹0›) (by decide)) (aH " .a .a" (by decide)) (by decide)) (ax (aK (aK (aH "keep " (by decide)) (bM (i:=1) (x:=o) rfl ‹0›) (by decide)) (aH " a" (by decide)) (by decide)) (ax (aK (aK (aH "part " (by decide)) (bM (i:=1) (x:=o) rfl ‹0›) (by decide)) (aH " 10 q" (by decide)) (by decide)) dX)))) (by first|omega|(simp only[T1];omega)) (Vo rfl);generalize e5:([("keep ":Str)++o++" .b .a",("keep ":Str)++o++" .a .a",("keep ":Str)++o++" a",("part ":Str)++o++" 10 q"]:af)=L5 at *;have k5:L5.length=4:=by rw[<-e5];rfl
 refine cT (Q:=λr=>∃x:Str,BS x/\r=.ok (.str x)) (d:=.lst ((L1++L2++L3++L4++L5).map D.str)) (ρ':=[‹.int c›,‹.str o›,‹.lst ((L1++L2++L3++L4++L5).map D.str)›]) f5 rfl ?_;clear f5;have f6:=fi (i:=2) (ρ:=[‹.int c›,‹.str o›,‹.lst ((L1++L2++L3++L4++L5).map D.str)›]) (xs:=L1++L2++L3++L4++L5) rfl (ax (aK (aK (aK (aH "keep " (by decide)) (bM (i:=1) (x:=o) rfl ‹0›) (by decide)) (aH " ." (by decide)) (by decide)) (Sh _) (by decide)) (ax (aK (aK (aH "nest " (by decide)) (bM (i:=1) (x:=o) rfl ‹0›) (by decide)) (aH " 1" (by decide)) (by decide)) dX)) (by first|omega|(simp only[T1];omega)) (Vo rfl);generalize e6:([("keep ":Str)++o++" ."++Qp,("nest ":Str)++o++" 1"]:af)=L6 at *;have k6:L6.length=2:=by rw[<-e6];rfl
 refine cT (Q:=λr=>∃x:Str,BS x/\r=.ok (.str x)) (d:=.lst ((L1++L2++L3++L4++L5++L6).map D.str)) (ρ':=[‹.int c›,‹.str o›,‹.lst ((L1++L2++L3++L4++L5++L6).map D.str)›]) f6 rfl ?_;clear f6;have f7:=fi (i:=2) (ρ:=[‹.int c›,‹.str o›,‹.lst ((L1++L2++L3++L4++L5++L6).map D.str)›]) (xs:=L1++L2++L3++L4++L5++L6) rfl (ax (aH "fuse q r 10" (by decide)) (ax (aH "nest 1" (by decide)) (ax (aH "unnest" (by decide)) (ax (aK (aK (aK (aH "unnest " (by decide)) (bM (i:=1) (x:=o) rfl ‹0›) (by decide)) (aH " " (by decide)) (by decide)) (bM (i:=1) (x:=o) rfl ‹0›) (by decide)) (ax (aK (aH "join " (by decide)) (bM (i:=1) (x:=o) rfl ‹0›) (by decide)) (ax (aH "Rename a b" (by decide)) dX)))))) (by first|omega|(simp only[T1];omega)) (Vo rfl);generalize e7:(["fuse q r 10","nest 1","unnest",("unnest ":Str)++o++" "++o,("join ":Str)++o,"Rename a b"]:af)=L7 at *;have k7:L7.length=6:=by rw[<-e7];rfl
 refine cT (Q:=λr=>∃x:Str,BS x/\r=.ok (.str x)) (d:=.lst ((L1++L2++L3++L4++L5++L6++L7).map D.str)) (ρ':=[‹.int c›,‹.str o›,‹.lst ((L1++L2++L3++L4++L5++L6++L7).map D.str)›]) f7 rfl ?_;clear f7;have f8:=fi (i:=2) (ρ:=[‹.int c›,‹.str o›,‹.lst ((L1++L2++L3++L4++L5++L6++L7).map D.str)›]) (xs:=L1++L2++L3++L4++L5++L6++L7) rfl (ax (aK (aK (aH "rename " (by decide)) (bM (i:=1) (x:=o) rfl ‹0›) (by decide)) (aH " Ab" (by decide)) (by decide)) (ax (aK (aH "rename a1 " (by decide)) (bM (i:=1) (x:=o) rfl ‹0›) (by decide)) (ax (aH "nest 1 abcdefghi" (by decide)) (ax (aK (aH "nest 01 " (by decide)) (bM (i:=1) (x:=o) rfl ‹0›) (by decide)) (ax (aK (aH "nest x " (by decide)) (bM (i:=1) (x:=o) rfl ‹0›) (by decide)) dX))))) (by first|omega|(simp only[T1];omega)) (Vo rfl);generalize e8:([("rename ":Str)++o++" Ab",("rename a1 ":Str)++o,"nest 1 abcdefghi",("nest 01 ":Str)++o,("nest x ":Str)++o]:af)=L8 at *;have k8:L8.length=5:=by rw[<-e8];rfl
 refine cT (Q:=λr=>∃x:Str,BS x/\r=.ok (.str x)) (d:=.lst ((L1++L2++L3++L4++L5++L6++L7++L8).map D.str)) (ρ':=[‹.int c›,‹.str o›,‹.lst ((L1++L2++L3++L4++L5++L6++L7++L8).map D.str)›]) f8 rfl ?_;clear f8;have f9:=fi (i:=2) (ρ:=[‹.int c›,‹.str o›,‹.lst ((L1++L2++L3++L4++L5++L6++L7++L8).map D.str)›]) (xs:=L1++L2++L3++L4++L5++L6++L7++L8) rfl (ax (aK (aH "nest -0 " (by decide)) (bM (i:=1) (x:=o) rfl ‹0›) (by decide)) (ax (aH "unnest a1" (by decide)) (ax (aK (aK (aH "part " (by decide)) (bM (i:=1) (x:=o) rfl ‹0›) (by decide)) (aH " 10 q R" (by decide)) (by decide)) (ax (aH "part A 10 q r" (by decide)) (ax (aH "fuse q r 10 abcdefghi" (by decide)) dX))))) (by first|omega|(simp only[T1];omega)) (Vo rfl);generalize e9:([("nest -0 ":Str)++o,"unnest a1",("part ":Str)++o++" 10 q R","part A 10 q r","fuse q r 10 abcdefghi"]:af)=L9 at *;have k9:L9.length=5:=by rw[<-e9];rfl
 refine cT (Q:=λr=>∃x:Str,BS x/\r=.ok (.str x)) (d:=.lst ((L1++L2++L3++L4++L5++L6++L7++L8++L9).map D.str)) (ρ':=[‹.int c›,‹.str o›,‹.lst ((L1++L2++L3++L4++L5++L6++L7++L8++L9).map D.str)›]) f9 rfl ?_;clear f9;have f10:=fi (i:=2) (ρ:=[‹.int c›,‹.str o›,‹.lst ((L1++L2++L3++L4++L5++L6++L7++L8++L9).map D.str)›]) (xs:=L1++L2++L3++L4++L5++L6++L7++L8++L9) rfl (ax (aH "fuse Q r 10 n" (by decide)) (ax (aH "sieve A 3 4" (by decide)) (ax (aH "keep a1 .a" (by decide)) (ax (aH "drop abcdefghi 1" (by decide)) dX)))) (by first|omega|(simp only[T1];omega)) (Vo rfl);generalize e10:(["fuse Q r 10 n","sieve A 3 4","keep a1 .a","drop abcdefghi 1"]:af)=L10 at *;have k10:L10.length=4:=by rw[<-e10];rfl
 refine cT (Q:=λr=>∃x:Str,BS x/\r=.ok (.str x)) (d:=.lst ((L1++L2++L3++L4++L5++L6++L7++L8++L9++L10).map D.str)) (ρ':=[‹.int c›,‹.str o›,‹.lst ((L1++L2++L3++L4++L5++L6++L7++L8++L9++L10).map D.str)›]) f10 rfl ?_;clear f10;obtain⟨x,hx,ix⟩:=wo (xs:=L1++L2++L3++L4++L5++L6++L7++L8++L9++L10) (j:=c%42) ‹0› (by simp only[T1];omega);exact j4 (Q:=λr=>∃x:Str,BS x/\r=.ok (.str x)) (d:=.str x) (by simp! only[g42,ix]) ⟨x,(((((((((b1.app b2).app b3).app b4).app b5).app b6).app b7).app b8).app b9).app b10).mem x hx,rfl⟩
def Fo(us ws:af):rv (us++ws)=.lst ((ws.map D.str).reverse++(us.map D.str).reverse):=by
 show D.lst _=_;rw[Uw,Vi]
def jd.rd{g:D}{t:Str}{w:af}{m n:Nat}(h:jd g t w m)(hn:m<n)(rest:af):ah n [rv (w++rest)]=.ok (.tup [g,rv rest]):=by
 rw[Fo];exact h.read n _ hn
def uy(e:Str)(ws rest:af)(hw:∀w∈ws,w≠e)(hl:ws.length<=10000):hW aJ 2 4 [rv (ws++e::rest),.str e]=.ok (.tup [.lst (ws.map D.str),rv rest]):=by
 have:=li e ws (rest.map D.str).reverse hw hl
 rw[show ws++e::rest=(ws++[e])++rest by simp,Fo];exact this
def Hs{g:D}{t x:Str}{w:af}{m:Nat}(h:jd g t w m)(hm:m<=10)(hx:BS x):az cV 1 2 [.str (("(":Str)++t++" "++x++")")]=nT:=by
 have lx:=hx.len;have lt:=h.len;obtain⟨nw,ne,hw,hl,rfl,k⟩:=hx;have ly:(tO t nw).length<=30000:=by
  rw[<-kP ne,cQ,cQ,cQ,cQ]
  have:("(":Str).length=1:=by decide
  have:(" ":Str).length=1:=by decide
  have:(")":Str).length=1:=by decide
  omega
 rw[kP ne];have wd:WD (tO t nw)=lp::(w++(nw++[(")":Str)])):=by
  refine wF ?_;rw[jj,<-UC];exact vR (by decide) (by decide) (by decide) (by decide) (lg _ _ _ h.pc λy hy=>(hw.mem y hy).1)
 have rd:=h.rd (n:=15) ‹0› (nw++[(")":Str)]);have un:=uy ")" nw [] (λy hy=>by rw[we];exact AA (hw.mem y hy).1 (by decide)) ‹0›;rcases k with k|⟨s,sw,hs,k,nj⟩
 ·exact ii ly (by rw[wd];exact uY rd un k)
 ·refine sG (rest:=[]) ly (.ov h hs) ‹0› (by rw[wd];exact Jz rd un k) λz=>nj ?_;have z:=dl ap z;rw[<-kP hs.ne,<-kP ne]at z;simp only[ao]at z;have z:=Vz z;exact aI (Vx z)
def Kq{u:Nat}{st:Sc}{l:bJ}(hu:Unicode.isSpace u=false):sc st (32::u::32::l)=sc (flush st++[⟨#[u]⟩],Str.empty) l:=by
 rw[wZ];show sc (KWd.step (flush st,Str.empty) u) (32::l)=_;unfold KWd.step;rw[hu,br Tq,wZ];have e:Str.empty++⟨#[u]⟩=(⟨#[u]⟩:Str):=aI (by rw[ao];rfl);rw[e];rfl
def Cy{d:Nat}{a:bJ}{ws:af}(hd:BR.contains d=true)(nd:Unicode.isSpace d=false)(h:Pc a ws):Pc (a++[d]) (ws++[⟨#[d]⟩]):=λus=>by
 have z2:sp BR [d]=(if BR.contains d then[32,d,32]else[d])++[]:=rfl;rw[mK,z2,hd,ba rfl,mP];show flush (sc _ (32::d::32::[]))=_;rw[Kq nd,h];show us++ws++[⟨#[d]⟩]=_;rw[UC]
def RF(y:Str):Prop:=az cV 1 2 [.str y]=nT
def Qw:fY "a":=lL (by decide +kernel)
def uh{y:Str}(ws:af)(e:WD y=ws)(hl:y.length<=30000)(h:ah 16 [rv ws]=nT):RF y:=ii hl (by rw[e];exact h)
def uT{g:D}{t:Str}{w:af}{m:Nat}(h:jd g t w m)(hm:m<=10)(z:Str)(ws:af)(hz:1<=z.length/\z.length<=100)(e:Pc (ap t++ap z) (w++ws)):RF (t++z):=by
 have lt:=h.len;have wd:WD (t++z)=w++ws:=wF (by rw[ao];exact e);refine sG (rest:=ws) (by rw[cQ];omega) h ‹0› (by rw[wd];exact h.rd ‹0› ws) λq=>?_
 have:=dl Str.length q
 rw[cQ]at this;omega
def Fg{g:D}{t:Str}{w:af}{m:Nat}(h:jd g t w m)(hm:m<=10):RF (("(":Str)++t++")"):=by
 have lt:=h.len;have wd:WD (("(":Str)++t++")")=lp::(w++[(")":Str)]):=wF (by
  rw[zL,we,tD];exact vR (by decide) (by decide) (by decide) (by decide) h.pc)
 refine ii ?_ (by rw[wd];exact uY (us:=[]) (r2:=[]) (h.rd ‹0› _) (uy ")" [] [] (λy hy=>nomatch hy) (by decide)) vI);rw[cQ,cQ]
 have:("(":Str).length=1:=by decide
 have:(")":Str).length=1:=by decide
 omega
def FV{g:D}{t:Str}{w:af}{m:Nat}(h:jd g t w m)(hm:m<=10):RF (("[":Str)++t++"]"):=by
 have lt:=h.len;have ot:=h.op;have ec:ap (("[":Str)++t++"]")=91::(ap t++[93]):=by rw[zQ,rQ,tD]
 have ly:(("[":Str)++t++"]").length<=3300:=by rw[aB,ec,Tw,T1,<-aB];show _+1+1<=_;omega
 have oy:Tk91.op (ap (("[":Str)++t++"]"))<=12:=by
  rw[ec,eB,dW];have z1:CW 91=true:=rfl;have z2:Tk91.op [93]=0:=rfl;rw[z1,z2,ba rfl];omega
 rcases v9 _ ly oy with e|⟨g',w',m',hg',_,_⟩
 ·exact e
 ·exfalso;generalize ey:("[":Str)++t++"]"=y at *;cases hg' with
  |lf hn=>
   have:=hn.lts 91 (by show 91∈ap y;rw[ec];exact Tj)
   have:=sF this;omega
  |ov _ _=>rw[jj]at ec;cases(List.cons.inj ec).1
  |@bo a b p ta tb f wa wb pw ma mb ha hb hp=>
   rw[jr]at ec;have q:=Vz (List.cons.inj ec).2;rw[au]at q;have wf:=hp.ok f Tj;obtain⟨c0,cs,hc⟩:∃c0 cs,ap f=c0::cs:=by
    cases hh:ap f with
    |nil=>exact bt hh wf.ne
    |cons c0 cs=>exact⟨c0,cs,rfl⟩
   have nb:=(wf.sg c0 (by rw[hc];exact Tj)).2;rw[hc,Ue]at q;cases h with
   |lf hn=>
    have:32∈ap t:=by rw[<-q];exact Tl _ (Tu _ Tj)
    have:=sF (hn.lts 32 this);omega
   |ov _ _=>
    rw[jj]at q;rw[(List.cons.inj q).1]at nb;cases nb
   |bo _ _ _=>
    rw[jr]at q;rw[(List.cons.inj q).1]at nb;cases nb
def JN{g:D}{t:Str}{w:af}{m:Nat}(h:jd g t w m)(hm:m<=10){y f:Str}{zs:af}(e:ap y=91::(ap (Txt.join " " (f::t::zs))++[93]))(hf:j8 f)(hz:AW zs):WD y=lb::f::(w++(zs++[("]":Str)])):=by
 refine wF ?_;rw[e,au];rw[show lb::f::(w++(zs++[("]":Str)]))=(⟨#[91]⟩:Str)::(([f]++(w++zs))++[⟨#[93]⟩])from by rw[rQ];simp];exact vR (by decide) (by decide) (by decide) (by decide) (kF (kL hf) (lg _ _ _ h.pc λy hy=>(hz.mem y hy).1))
def Fl{g:D}{t:Str}{w:af}{m:Nat}(h:jd g t w m)(hm:m<=10){y f:Str}{zs:af}(e:ap y=91::(ap (Txt.join " " (f::t::zs))++[93]))(hf:j8 f/\f.length<=62)(hz:AW zs)(hl:zs.length<=20):y.length<=30000:=by
 have lt:=h.len
 have:=hz.sum
 have j:=gD (f::t::zs);rw[Tx,Vp,Tw,Tx,Vp,Tw,aB (Txt.join _ _)]at j
 have:=hf.2
 rw[aB,e,Tw,T1,T9];omega
def yk{g:D}{t:Str}{w:af}{m:Nat}(h:jd g t w m)(hm:m<=10){y f z:Str}{zs:af}(e:ap y=91::(ap (Txt.join " " (f::t::zs))++[93]))(hf:j8 f/\f.length<=62)(hz:AW zs)(hl:zs.length<=20)(e2:ah 15 [rv (zs++[("]":Str)])]=nT):RF y:=
 ii (Fl h hm e hf hz hl) (by rw[JN h hm e hf.1 hz];exact EK (h.rd ‹0› _) e2)
def tJ{g:D}{t:Str}{w:af}{m:Nat}(h:jd g t w m)(hm:m<=10){y f:Str}{zs:af}(e:ap y=91::(ap (Txt.join " " (f::t::"a"::zs))++[93]))(hf:j8 f/\f.length<=62)(hz:AW zs)(hl:zs.length<=19)(e2:az bn 2 3 [.str f,.lst (zs.map .str)]=nT):RF y:=by
 have ha:AW ("a"::zs):=⟨wk _ (by decide +kernel) (by decide),hz⟩
 refine ii (Fl h hm e hf ha (Nat.succ_le_succ hl)) ?_;rw[JN h hm e hf.1 ha];exact zK (r3:=[]) (h.rd ‹0› _) (jd.rd (.lf Qw) (by decide) (zs++[("]":Str)])) (uy "]" zs [] (λy hy=>by rw[rQ];exact AA (hz.mem y hy).1 (by decide)) ‹0›) e2
theorem u1{g:D}{t:Str}{w:af}{m:Nat}(h:jd g t w m)(hm:m<=10):∀x∈([""," ","(",")","[]","()",t++")",t++"]",("(":Str)++t++")",("[":Str)++t++"]",t++" a"]:af),RF x:=
  (List.forall_mem_cons.mpr ⟨(uh [] (by decide +kernel) (by decide) (qm 15)),
  (List.forall_mem_cons.mpr ⟨(uh [] (by decide +kernel) (by decide) (qm 15)),
  (List.forall_mem_cons.mpr ⟨(uh [lp] (by decide +kernel) (by decide) (qu (qm 14))),
  (List.forall_mem_cons.mpr ⟨(uh [")"] (by decide +kernel) (by decide) (dL 15 [] (by decide) (by decide) (by kernel_rfl))),
  (List.forall_mem_cons.mpr ⟨(uh [lb,"]"] (by decide +kernel) (by decide) (CC (f:="]") (ws:=[]) (qm 14))),
  (List.forall_mem_cons.mpr ⟨(uh [lp,")"] (by decide +kernel) (by decide) (qu (dL 14 [] (by decide) (by decide) (by kernel_rfl)))),
  (List.forall_mem_cons.mpr ⟨(uT h hm ")" [")"] (by decide) (Cy (d:=41) (by decide) (by decide) h.pc)),
  (List.forall_mem_cons.mpr ⟨(uT h hm "]" ["]"] (by decide) (Cy (d:=93) (by decide) (by decide) h.pc)),
  (List.forall_mem_cons.mpr ⟨(Fg h hm),
  (List.forall_mem_cons.mpr ⟨(FV h hm),
  (List.forall_mem_cons.mpr ⟨(uT h hm " a" ["a"] (by decide) (kF h.pc (kL Qw.w))),
  (λx hx=>nomatch hx)⟩)⟩)⟩)⟩)⟩)⟩)⟩)⟩)⟩)⟩)⟩)
theorem u2{g:D}{t:Str}{w:af}{m:Nat}(h:jd g t w m)(hm:m<=10):∀x∈([("[join ":Str)++t++"]",("[join ":Str)++t++" a b]",("[gather ":Str)++t++" a]"]:af),RF x:=
  (List.forall_mem_cons.mpr ⟨(yk h hm (f:="join") (zs:=[]) (z:="") (by simp only[ao,au,bj,UC,Ue];rfl) (wk _ (by decide +kernel) (by decide)) trivial (Vo rfl) (dL 14 [] (by decide) (by decide) (by kernel_rfl))),
  (List.forall_mem_cons.mpr ⟨(tJ h hm (f:="join") (zs:=["b"]) (by simp only[ao,au,bj,UC,Ue];rfl) (wk _ (by decide +kernel) (by decide)) ⟨wk _ (by decide +kernel) (by decide),trivial⟩ (Vo rfl) (by kernel_rfl)),
  (List.forall_mem_cons.mpr ⟨(tJ h hm (f:="gather") (zs:=[]) (by simp only[ao,au,bj,UC,Ue];rfl) (wk _ (by decide +kernel) (by decide)) trivial (Vo rfl) (by kernel_rfl)),
  (λx hx=>nomatch hx)⟩)⟩)⟩)
theorem u3{g:D}{t:Str}{w:af}{m:Nat}(h:jd g t w m)(hm:m<=10):∀x∈([("[joins ":Str)++t++" a]","A","abcdefghi","a1",("[gather ":Str)++t++" a In]"]:af),RF x:=
  (List.forall_mem_cons.mpr ⟨(tJ h hm (f:="joins") (zs:=[]) (by simp only[ao,au,bj,UC,Ue];rfl) (wk _ (by decide +kernel) (by decide)) trivial (Vo rfl) (by kernel_rfl)),
  (List.forall_mem_cons.mpr ⟨(uh ["A"] (by decide +kernel) (by decide) (dL 15 [] (by decide) (by decide) (by kernel_rfl))),
  (List.forall_mem_cons.mpr ⟨(uh ["abcdefghi"] (by decide +kernel) (by decide) (dL 15 [] (by decide) (by decide) (by kernel_rfl))),
  (List.forall_mem_cons.mpr ⟨(uh ["a1"] (by decide +kernel) (by decide) (dL 15 [] (by decide) (by decide) (by kernel_rfl))),
  (List.forall_mem_cons.mpr ⟨(tJ h hm (f:="gather") (zs:=["In"]) (by simp only[ao,au,bj,UC,Ue];rfl) (wk _ (by decide +kernel) (by decide)) ⟨wk _ (by decide +kernel) (by decide),trivial⟩ (Vo rfl) (by kernel_rfl)),
  (λx hx=>nomatch hx)⟩)⟩)⟩)⟩)⟩)
theorem u4{g:D}{t:Str}{w:af}{m:Nat}(h:jd g t w m)(hm:m<=10):∀x∈([("[join ":Str)++t++" A]",("[gather ":Str)++t++" abcdefghi in]"]:af),RF x:=
  (List.forall_mem_cons.mpr ⟨(yk h hm (f:="join") (zs:=["A"]) (z:="") (by simp only[ao,au,bj,UC,Ue];rfl) (wk _ (by decide +kernel) (by decide)) ⟨wk _ (by decide +kernel) (by decide),trivial⟩ (Vo rfl) (dL 14 ["]"] (by decide) (by decide) (by kernel_rfl))),
  (List.forall_mem_cons.mpr ⟨(yk h hm (f:="gather") (zs:=["abcdefghi","in"]) (z:="") (by simp only[ao,au,bj,UC,Ue];rfl) (wk _ (by decide +kernel) (by decide)) ⟨wk _ (by decide +kernel) (by decide),wk _ (by decide +kernel) (by decide),trivial⟩ (Vo rfl) (dL 14 ["in","]"] (by decide) (by decide) (by kernel_rfl))),
  (λx hx=>nomatch hx)⟩)⟩)
def EX{g:D}{t:Str}{w:af}{m:Nat}(h:jd g t w m)(hm:m<=10)(c:Int):∃y:Str,RF y/\az eW 2 3 [.str t,.int c]=.ok (.str y):=by
 have lt:=h.len;have g21:=eI (i:=c) (show(0:Int)<21 by decide);have b1:=u1 h hm;have b2:=u2 h hm;have b3:=u3 h hm;have b4:=u4 h hm;rw[bb];unfold eW;have f1:=pN (ρ:=[‹.str t›,‹.int c›,am]) (ax (aH "" (by decide)) (ax (aH " " (by decide)) (ax (aH "(" (by decide)) (ax (aH ")" (by decide)) (ax (aH "[]" (by decide)) (ax (aH "()" (by decide)) (ax (aK (bM (i:=0) (x:=t) rfl ‹0›) (aH ")" (by decide)) (by decide)) (ax (aK (bM (i:=0) (x:=t) rfl ‹0›) (aH "]" (by decide)) (by decide)) (ax (aK (aK (aH "(" (by decide)) (bM (i:=0) (x:=t) rfl ‹0›) (by decide)) (aH ")" (by decide)) (by decide)) (ax (aK (aK (aH "[" (by decide)) (bM (i:=0) (x:=t) rfl ‹0›) (by decide)) (aH "]" (by decide)) (by decide)) (ax (aK (bM (i:=0) (x:=t) rfl ‹0›) (aH " a" (by decide)) (by decide)) dX))))))))))) (Vo rfl);generalize e1:([""," ","(",")","[]","()",t++")",t++"]",("(":Str)++t++")",("[":Str)++t++"]",t++" a"]:af)=L1 at *;have k1:L1.length=11:=by rw[<-e1];rfl
 refine cT (Q:=λr=>∃y:Str,RF y/\r=.ok (.str y)) (d:=.lst (L1.map D.str)) (ρ':=[‹.str t›,‹.int c›,‹.lst (L1.map D.str)›]) f1 rfl ?_;clear f1;have f2:=fi (i:=2) (ρ:=[‹.str t›,‹.int c›,‹.lst (L1.map D.str)›]) (xs:=L1) rfl (ax (aK (aK (aH "[join " (by decide)) (bM (i:=0) (x:=t) rfl ‹0›) (by decide)) (aH "]" (by decide)) (by decide)) (ax (aK (aK (aH "[join " (by decide)) (bM (i:=0) (x:=t) rfl ‹0›) (by decide)) (aH " a b]" (by decide)) (by decide)) (ax (aK (aK (aH "[gather " (by decide)) (bM (i:=0) (x:=t) rfl ‹0›) (by decide)) (aH " a]" (by decide)) (by decide)) dX))) (by first|omega|(simp only[T1];omega)) (Vo rfl);generalize e2:([("[join ":Str)++t++"]",("[join ":Str)++t++" a b]",("[gather ":Str)++t++" a]"]:af)=L2 at *;have k2:L2.length=3:=by rw[<-e2];rfl
 refine cT (Q:=λr=>∃y:Str,RF y/\r=.ok (.str y)) (d:=.lst ((L1++L2).map D.str)) (ρ':=[‹.str t›,‹.int c›,‹.lst ((L1++L2).map D.str)›]) f2 rfl ?_;clear f2;have f3:=fi (i:=2) (ρ:=[‹.str t›,‹.int c›,‹.lst ((L1++L2).map D.str)›]) (xs:=L1++L2) rfl (ax (aK (aK (aH "[joins " (by decide)) (bM (i:=0) (x:=t) rfl ‹0›) (by decide)) (aH " a]" (by decide)) (by decide)) (ax (aH "A" (by decide)) (ax (aH "abcdefghi" (by decide)) (ax (aH "a1" (by decide)) (ax (aK (aK (aH "[gather " (by decide)) (bM (i:=0) (x:=t) rfl ‹0›) (by decide)) (aH " a In]" (by decide)) (by decide)) dX))))) (by first|omega|(simp only[T1];omega)) (Vo rfl);generalize e3:([("[joins ":Str)++t++" a]","A","abcdefghi","a1",("[gather ":Str)++t++" a In]"]:af)=L3 at *;have k3:L3.length=5:=by rw[<-e3];rfl
 refine cT (Q:=λr=>∃y:Str,RF y/\r=.ok (.str y)) (d:=.lst ((L1++L2++L3).map D.str)) (ρ':=[‹.str t›,‹.int c›,‹.lst ((L1++L2++L3).map D.str)›]) f3 rfl ?_;clear f3;have f4:=fi (i:=2) (ρ:=[‹.str t›,‹.int c›,‹.lst ((L1++L2++L3).map D.str)›]) (xs:=L1++L2++L3) rfl (ax (aK (aK (aH "[join " (by decide)) (bM (i:=0) (x:=t) rfl ‹0›) (by decide)) (aH " A]" (by decide)) (by decide)) (ax (aK (aK (aH "[gather " (by decide)) (bM (i:=0) (x:=t) rfl ‹0›) (by decide)) (aH " abcdefghi in]" (by decide)) (by decide)) dX)) (by first|omega|(simp only[T1];omega)) (Vo rfl);generalize e4:([("[join ":Str)++t++" A]",("[gather ":Str)++t++" abcdefghi in]"]:af)=L4 at *;have k4:L4.length=2:=by rw[<-e4];rfl
 refine cT (Q:=λr=>∃y:Str,RF y/\r=.ok (.str y)) (d:=.lst ((L1++L2++L3++L4).map D.str)) (ρ':=[‹.str t›,‹.int c›,‹.lst ((L1++L2++L3++L4).map D.str)›]) f4 rfl ?_;clear f4;obtain⟨y,hy,ix⟩:=wo (xs:=L1++L2++L3++L4) (j:=c%21) ‹0› (by simp only[T1];omega);refine j4 (Q:=λr=>∃y:Str,RF y/\r=.ok (.str y)) (d:=.str y) (by simp! only[g21,ix]) ⟨y,?_,rfl⟩;rcases List.mem_append.mp hy with z|z
 ·rcases List.mem_append.mp z with z|z
  ·rcases List.mem_append.mp z with z|z
   ·exact b1 y z
   ·exact b2 y z
  ·exact b3 y z
 ·exact b4 y z
def P9{α:Type}(xs:List α):(cutD xs (ag 4) (ag 9)).length<=5:=by
 have e1:HT.sIx xs.length 0 (ag 4)=min 4 xs.length:=HT.OW _ _ 4;have e2:HT.sIx xs.length xs.length (ag 9)=min 9 xs.length:=HT.OW _ _ 9;unfold cutD;rw[TN,e1,e2];omega
def Je{α:Type}{xs:List α}{a b:dH}{x:α}(h:x∈cutD xs a b):x∈xs:=List.mem_of_mem_drop (List.mem_of_mem_take h)
def jd.nn{g:D}{t:Str}{w:af}{m:Nat}(h:jd g t w m):isNon g=false:=by cases h<;>rfl
theorem uL:isNon .non=true:=rfl
def vf{L:List D}{t y:Str}{way c3:Int}{g:D}{w:af}{m:Nat}(hg:jd g t w m)(hm:m<=10)(e3:az bw 2 2 [.lst L,.int 3]=.ok (.int c3))(hy:az cV 1 2 [.str y]=nT\/((way==11)=false/\∃g' w' m',jd g' y w' m'/\m'<=12/\az cV 1 2 [.str y]=.ok g')):
  (aF (uM (fR (az cB 1 4) (aa (ae 3) aj)) (gT 2 (vc [4,5]))) (aF (fq (B8 (ph (fB (ql (ae 4))) (fV (bW (fR (az dq 1 2) (aa (ae 5) aj))))) (ph (fB (j0 (ae 4))) (fB (f2 xr (fR (cg 16) (aa (ae 4) aj)) (ae 3))))) (bi (fC (.bl false))) bU) (aF (fq (ph (fB (f2 jc (ae 2) (fC (.int 11)))) (fB (j0 (ae 4)))) (bi (fC (.bl false))) bU) (aF (uM (fR (az cB 1 4) (aa (f2 av (f2 av (f2 av (f2 av (fC (.str "(")) (ae 1)) (fC (.str " "))) (fR (az cw 1 3) (aa (fR (az bw 2 2) (aa (ae 0) (aa (fC (.int 3)) aj))) aj))) (fC (.str ")"))) aj)) (gT 2 (vc [4,5]))) (bi (gu (ql (ae 4)) (gu (fR (az dq 1 2) (aa (ae 5) aj)) (f2 jc (fR (cg 16) (aa (fR (az cV 1 2) (aa (ae 1) aj)) aj)) (ae 1))))))))) K0 [‹.lst L›,‹.str t›,‹.int way›,‹.str y›,am,am]=.ok (.bl true):=by
 obtain⟨x,bx,ex⟩:=yi c3;have lx:=bx.len;have lt:=hg.len;have ns:=vE (Hs hg hm bx);have rd:=z8 hg ‹0›;have sh:=hg.shown ‹0› 16 ‹0›;have al:=DR;have last:∀(d4 d5:D)(k:Ks),aF (uM (fR (az cB 1 4) (aa (f2 av (f2 av (f2 av (f2 av (fC (.str "(")) (ae 1)) (fC (.str " "))) (fR (az cw 1 3) (aa (fR (az bw 2 2) (aa (ae 0) (aa (fC (.int 3)) aj))) aj))) (fC (.str ")"))) aj)) (gT 2 (vc [4,5]))) (bi (gu (ql (ae 4)) (gu (fR (az dq 1 2) (aa (ae 5) aj)) (f2 jc (fR (cg 16) (aa (fR (az cV 1 2) (aa (ae 1) aj)) aj)) (ae 1))))) k [‹.lst L›,‹.str t›,‹.int way›,‹.str y›,‹d4›,‹d5›]=.ok (.bl true):=λd4 d5 k=>by
  have fx:fR (az cw 1 3) (aa (fR (az bw 2 2) (aa (ae 0) (aa (fC (.int 3)) aj))) aj) [‹.lst L›,‹.str t›,‹.int way›,‹.str y›,‹d4›,‹d5›]=.ok (.str x):=by simp! only[e3,ex]
  have tx:=(aK (aK (aK (aK (aH "(" (by decide)) (bM (ρ:=[‹.lst L›,‹.str t›,‹.int way›,‹.str y›,‹d4›,‹d5›]) (i:=1) (x:=t) rfl ‹0›) (by decide)) (aH " " (by decide)) (by decide)) ⟨fx,(show x.length<=4000*1 by omega)⟩ (by decide)) (aH ")" (by decide)) (by decide)).e;refine Dd (Q:=λz=>z=_) (d:=.tup [.non,xN]) (ρ':=[‹.lst L›,‹.str t›,‹.int way›,‹.str y›,‹.non›,‹xN›]) ?_ rfl ?_
  ·generalize ("(":Str)++t++" "++x++")"=y2 at *;show((aa _ aj) _).bind _=_;rw[show aa _ aj [‹.lst L›,‹.str t›,‹.int way›,‹.str y›,‹d4›,‹d5›]=.ok [.str y2]from by simp only[lC,qI,tx,gJ]];exact ns
  ·exact j4 (Q:=λz=>z=_) (d:=.bl true) (by simp! only[uL,rd,sh,BEq.rfl,al,Vj]) rfl
 rcases hy with hy|⟨h11,g',w',m',hg',hm',hy⟩
 ·have lr:=vE hy;refine Dd (Q:=λz=>z=_) (d:=.tup [.non,xN]) (ρ':=[‹.lst L›,‹.str t›,‹.int way›,‹.str y›,‹.non›,‹xN›]) (by simp! only[lr]) rfl ?_;refine DW (Q:=λz=>z=_) (by simp! only[uL,al]) ?_;refine DW (Q:=λz=>z=_) ?_ (last .non xN _);cases z:way==11 with
  |true=>simp! only[uL,z]
  |false=>simp! only[uL,z]
 ·have lr:=E6 hy;have sg:=hg'.shown hm' 16 ‹0›;have n1:=hg'.nn;refine Dd (Q:=λz=>z=_) (d:=.tup [g',.non]) (ρ':=[‹.lst L›,‹.str t›,‹.int way›,‹.str y›,‹g'›,‹.non›]) (by simp! only[lr]) rfl ?_;refine DW (Q:=λz=>z=_) (by simp! only[n1,sg,BEq.rfl]) ?_;refine DW (Q:=λz=>z=_) (by simp! only[h11]) (last g' .non _)
def math(ns:List Int)(hl:ns.length<=63):az ny 1 6 [.lst (ns.map .int)]=.ok (.bl true):=by
 obtain⟨c0,e0⟩:=TD.Ox ns 0 (by decide);obtain⟨c1,e1⟩:=TD.Ox ns 1 (by decide);obtain⟨c2,e2⟩:=TD.Ox ns 2 (by decide);obtain⟨c3,e3⟩:=TD.Ox ns 3 (by decide);have ai:∀d∈cutD (ns.map D.int) (ag 4) (ag 9),∃c:Int,d=.int c:=λd hd=>by
  obtain⟨c,_,rfl⟩:=List.mem_map.mp (Je hd);exact⟨c,rfl⟩
 have l5:=P9 (ns.map D.int);generalize ns.map D.int=L at *;obtain⟨t,ht,et⟩:=Hv (cutD L (ag 4) (ag 9)) ai l5 c0;obtain⟨ys,hys,eys⟩:=AC ht (c1%12) c2;obtain⟨g,w,m,hg,hm⟩:=ht;obtain⟨yo,hyo,eyo⟩:=EX hg hm c2;have rd:=z8 hg ‹0›;have sh:=hg.shown ‹0› 16 ‹0›;have g12:=eI (i:=c1) (show(0:Int)<12 by decide);rw[aG];unfold ny;refine cT (Q:=λz=>z=_) (d:=.str t) (ρ':=[‹.lst L›,‹.str t›,am,am,am,am]) (by simp! only[e0,et]) rfl ?_;refine DW (Q:=λz=>z=_) (by simp! only[rd,sh,BEq.rfl]) ?_;refine cT (Q:=λz=>z=_) (d:=.int (c1%12)) (ρ':=[‹.lst L›,‹.str t›,‹.int (c1%12)›,am,am,am]) (by simp! only[e1,g12]) rfl ?_;refine cT (Q:=λz=>z=_) (d:=.str ys) (ρ':=[‹.lst L›,‹.str t›,‹.int (c1%12)›,‹.str ys›,am,am]) (by simp! only[e2,eys]) rfl ?_;generalize c1%12=way at *;refine Af (Q:=λz=>z=_) (b:=way==11) (Aw rfl rfl) (λ_=>?_) λh11=>?_
 ·refine uz (Q:=λz=>z=_) (d:=.str yo) (ρ':=[‹.lst L›,‹.str t›,‹.int way›,‹.str yo›,am,am]) (by simp! only[e2,eyo]) rfl ?_;exact vf hg hm e3 (.inl hyo)
 ·refine vf hg hm e3 ?_;rcases v9 ys hys.1 hys.2 with z|⟨g',w',m',hg',hm',z⟩
  ·exact .inl z
  ·exact .inr ⟨h11,g',w',m',hg',hm',z⟩
end
end Tk91
end
open PySem PySem.W PyProof.Rows
set_option maxRecDepth 100000 in
set_option maxHeartbeats 0 in
theorem PySem.Challenge.cw_twoglass_k91_no_glass_written_holds : PySem.Challenge.rw_twoglass_k91_no_glass_written.Holds := by
  refine hd91 ?_
  k_fill
  refine Tk91.walk (l := PySem.Challenge.rw_twoglass_k91_no_glass_written) rfl rfl (fun w h Y => PySem.W.kIn_of Y) ?F Tk91.math
  case F =>
    intro w mg fa h KX G hmg
    refine' Tk91.all_mk KX G hmg ?ac0 ?ac1 ?ac2 ?ac3 ?ac4 ?ac5 ?ac6 ?ac7 ?ac8 ?ac9 ?ac10 ?ac11 ?a0 ?i0 ?l0 ?c0 ?k0 ?a1 ?i1 ?l1 ?c1 ?k1 ?a2 ?i2 ?l2 ?c2 ?k2 ?a3 ?i3 ?l3 ?c3 ?k3 ?a4 ?i4 ?l4 ?c4 ?k4 ?a5 ?i5 ?l5 ?c5 ?k5 ?a6 ?i6 ?l6 ?c6 ?k6 ?a7 ?i7 ?l7 ?c7 ?k7 ?a8 ?i8 ?l8 ?c8 ?k8 ?a9 ?l9 ?c9 ?k9 ?a10 ?i10 ?l10 ?c10 ?k10 ?a11 ?i11 ?l11 ?c11 ?k11 ?a12 ?i12 ?l12 ?c12 ?k12 ?a13 ?i13 ?l13 ?c13 ?k13 ?a14 ?i14 ?l14 ?c14 ?k14 ?a15 ?i15 ?l15 ?c15 ?k15 ?a16 ?i16 ?l16 ?c16 ?k16 ?a17 ?i17 ?l17 ?c17 ?k17 ?a18 ?i18 ?l18 ?c18 ?k18 ?a19 ?i19 ?l19 ?c19 ?k19 ?a20 ?i20 ?l20 ?c20 ?k20 ?p0 ?q0 ?r0 ?s0 ?n0_0 ?n0_1 ?m0 ?kp0 ?p1 ?q1 ?r1 ?s1 ?n1_0 ?m1 ?kp1 ?p2 ?q2 ?r2 ?s2 ?n2_0 ?n2_1 ?m2 ?kp2 ?p3 ?q3 ?r3 ?s3 ?n3_0 ?m3 ?kp3 ?p4 ?q4 ?r4 ?s4 ?n4_0 ?n4_1 ?n4_2 ?n4_3 ?m4 ?kp4 ?p5 ?q5 ?r5 ?s5 ?n5_0 ?n5_1 ?n5_2 ?n5_3 ?m5 ?kp5 ?p6 ?q6 ?r6 ?s6 ?n6_0 ?n6_1 ?m6 ?kp6 ?p7 ?q7 ?r7 ?s7 ?n7_0 ?n7_1 ?m7 ?kp7 ?p8 ?q8 ?r8 ?s8 ?n8_0 ?n8_1 ?m8 ?kp8 ?p9 ?q9 ?r9 ?s9 ?n9_0 ?n9_1 ?n9_2 ?m9 ?kp9 ?p10 ?q10 ?r10 ?s10 ?n10_0 ?m10 ?kp10 ?p11 ?q11 ?r11 ?s11 ?o11 ?m11 ?kp11 ?vsg ?vtk ?vf8 ?vm8 ?vf9 ?vm9 ?vf10 ?vm10 ?vt8 ?vi8 ?yy8_8 ?vs8_10 ?vn8_10 ?vs8_9 ?vn8_9 ?vt9 ?vi9 ?yy9_9 ?vs9_10 ?vn9_10 ?vs9_8 ?vn9_8 ?xa0 ?xa1 ?xa2 ?xa3 ?xa4 ?xa5 ?xa6 ?xa7 ?xa8 ?xa9 ?xa10 ?xa11 ?xa12 ?xa13 ?xe0 ?xsg ?xtk ?xg0 ?xn0 ?xf0 ?xb0 ?xo0 ?xt0 ?xo1 ?xt1 ?xo2 ?xt2 ?xo3 ?xt3 ?xo4 ?xt4 ?xo5 ?xt5 ?xo6 ?xt6 ?xo7 ?xt7 ?xo8 ?xt8 ?xo9 ?xt9 ?xo10 ?xt10 ?xo11 ?xt11 ?xo12 ?xt12 ?xo13 ?xt13 ?xw13 ?xm13_0 ?xk0_0 ?xk1_0 ?vnx1_0 ?xk2_0 ?vnx2_0 ?xk3_0 ?vnx3_0 ?xk4_0 ?vnx4_0 ?xk5_0 ?vnx5_0 ?xk6_0 ?vnx6_0 ?xk7_0 ?vnx7_0 ?xk8_0 ?vnx8_0 ?xk9_0 ?vnx9_0 ?xk10_0 ?vnx10_0 ?xk11_0 ?vnx11_0 ?xk12_0 ?vnx12_0 ?xv_ValueError_0 ?dd0 ?dd1 ?zz ?ke0 ?ke1 ?ke2 ?ke3 ?ke4 ?ke5 ?da0 ?dl0 ?dsx0 ?dex0 ?dt0_0 ?dxx0_0 ?dt0_1 ?dxx0_1 ?da1 ?dl1 ?dsx1 ?dex1 ?dt1_0 ?dxx1_0 ?dt1_1 ?dxx1_1 ?dt1_2 ?dxx1_2 ?dt1_3 ?dxx1_3 ?dt1_4 ?dxx1_4 ?dt1_5 ?dxx1_5 ?dt1_6 ?dxx1_6
    (case ac0 => k_is)
    (case ac1 => k_is)
    (case ac2 => k_is)
    (case ac3 => k_is)
    (case ac4 => k_is)
    (case ac5 => k_is)
    (case ac6 => k_is)
    (case ac7 => k_is)
    (case ac8 => k_is)
    (case ac9 => k_is)
    (case ac10 => k_is)
    (case ac11 => k_is)
    (case a0 => k_is)
    (case i0 => k_is)
    (case l0 => delta TX.Lk; k_is)
    (case c0 => k_is)
    (case k0 => k_is)
    (case a1 => k_is)
    (case i1 => k_is)
    (case l1 => delta TX.Lk; k_is)
    (case c1 => k_is)
    (case k1 => k_is)
    (case a2 => k_is)
    (case i2 => k_is)
    (case l2 => delta TX.Lk; k_is)
    (case c2 => k_is)
    (case k2 => k_is)
    (case a3 => k_is)
    (case i3 => k_is)
    (case l3 => delta TX.Lk; k_is)
    (case c3 => k_is)
    (case k3 => k_is)
    (case a4 => k_is)
    (case i4 => k_is)
    (case l4 => delta TX.Lk; k_is)
    (case c4 => k_is)
    (case k4 => k_is)
    (case a5 => k_is)
    (case i5 => k_is)
    (case l5 => delta TX.Lk; k_is)
    (case c5 => k_is)
    (case k5 => k_is)
    (case a6 => k_is)
    (case i6 => k_is)
    (case l6 => delta TX.Lk; k_is)
    (case c6 => k_is)
    (case k6 => k_is)
    (case a7 => k_is)
    (case i7 => k_is)
    (case l7 => delta TX.Lk; k_is)
    (case c7 => k_is)
    (case k7 => k_is)
    (case a8 => k_is)
    (case i8 => k_is)
    (case l8 => delta TX.Lk; k_is)
    (case c8 => k_is)
    (case k8 => k_is)
    (case a9 => k_is)
    (case l9 => delta TX.Lk; k_is)
    (case c9 => k_is)
    (case k9 => k_is)
    (case a10 => k_is)
    (case i10 => k_is)
    (case l10 => delta TX.Lk; k_is)
    (case c10 => k_is)
    (case k10 => k_is)
    (case a11 => k_is)
    (case i11 => k_is)
    (case l11 => delta TX.Lk; k_is)
    (case c11 => k_is)
    (case k11 => k_is)
    (case a12 => k_is)
    (case i12 => k_is)
    (case l12 => delta TX.Lk; k_is)
    (case c12 => k_is)
    (case k12 => k_is)
    (case a13 => k_is)
    (case i13 => k_is)
    (case l13 => delta TX.Lk; k_is)
    (case c13 => k_is)
    (case k13 => k_is)
    (case a14 => k_is)
    (case i14 => k_is)
    (case l14 => delta TX.Lk; k_is)
    (case c14 => k_is)
    (case k14 => k_is)
    (case a15 => k_is)
    (case i15 => k_is)
    (case l15 => delta TX.Lk; k_is)
    (case c15 => k_is)
    (case k15 => k_is)
    (case a16 => k_is)
    (case i16 => k_is)
    (case l16 => delta TX.Lk; k_is)
    (case c16 => k_is)
    (case k16 => k_is)
    (case a17 => k_is)
    (case i17 => k_is)
    (case l17 => delta TX.Lk; k_is)
    (case c17 => k_is)
    (case k17 => k_is)
    (case a18 => k_is)
    (case i18 => k_is)
    (case l18 => delta TX.Lk; k_is)
    (case c18 => k_is)
    (case k18 => k_is)
    (case a19 => k_is)
    (case i19 => k_is)
    (case l19 => delta TX.Lk; k_is)
    (case c19 => k_is)
    (case k19 => k_is)
    (case a20 => k_is)
    (case i20 => k_is)
    (case l20 => delta TX.Lk; k_is)
    (case c20 => k_is)
    (case k20 => k_is)
    (case p0 => k_is)
    (case q0 => k_is)
    (case r0 => k_is)
    (case s0 => k_is)
    (case n0_0 => k_is)
    (case n0_1 => k_is)
    (case m0 => k_is)
    (case kp0 => k_is)
    (case p1 => k_is)
    (case q1 => k_is)
    (case r1 => k_is)
    (case s1 => k_is)
    (case n1_0 => k_is)
    (case m1 => k_is)
    (case kp1 => k_is)
    (case p2 => k_is)
    (case q2 => k_is)
    (case r2 => k_is)
    (case s2 => k_is)
    (case n2_0 => k_is)
    (case n2_1 => k_is)
    (case m2 => k_is)
    (case kp2 => k_is)
    (case p3 => k_is)
    (case q3 => k_is)
    (case r3 => k_is)
    (case s3 => k_is)
    (case n3_0 => k_is)
    (case m3 => k_is)
    (case kp3 => k_is)
    (case p4 => k_is)
    (case q4 => k_is)
    (case r4 => k_is)
    (case s4 => k_is)
    (case n4_0 => k_is)
    (case n4_1 => k_is)
    (case n4_2 => k_is)
    (case n4_3 => k_is)
    (case m4 => k_is)
    (case kp4 => k_is)
    (case p5 => k_is)
    (case q5 => k_is)
    (case r5 => k_is)
    (case s5 => k_is)
    (case n5_0 => k_is)
    (case n5_1 => k_is)
    (case n5_2 => k_is)
    (case n5_3 => k_is)
    (case m5 => k_is)
    (case kp5 => k_is)
    (case p6 => k_is)
    (case q6 => k_is)
    (case r6 => k_is)
    (case s6 => k_is)
    (case n6_0 => k_is)
    (case n6_1 => k_is)
    (case m6 => k_is)
    (case kp6 => k_is)
    (case p7 => k_is)
    (case q7 => k_is)
    (case r7 => k_is)
    (case s7 => k_is)
    (case n7_0 => k_is)
    (case n7_1 => k_is)
    (case m7 => k_is)
    (case kp7 => k_is)
    (case p8 => k_is)
    (case q8 => k_is)
    (case r8 => k_is)
    (case s8 => k_is)
    (case n8_0 => k_is)
    (case n8_1 => k_is)
    (case m8 => k_is)
    (case kp8 => k_is)
    (case p9 => k_is)
    (case q9 => k_is)
    (case r9 => k_is)
    (case s9 => k_is)
    (case n9_0 => k_is)
    (case n9_1 => k_is)
    (case n9_2 => k_is)
    (case m9 => k_is)
    (case kp9 => k_is)
    (case p10 => k_is)
    (case q10 => k_is)
    (case r10 => k_is)
    (case s10 => k_is)
    (case n10_0 => k_is)
    (case m10 => k_is)
    (case kp10 => k_is)
    (case p11 => k_is)
    (case q11 => k_is)
    (case r11 => k_is)
    (case s11 => k_is)
    (case o11 => k_is)
    (case m11 => k_is)
    (case kp11 => k_is)
    (case vsg => k_is)
    (case vtk => k_is)
    (case vf8 => k_is)
    (case vm8 => k_is)
    (case vf9 => k_is)
    (case vm9 => k_is)
    (case vf10 => k_is)
    (case vm10 => k_is)
    (case vt8 => k_is)
    (case vi8 => k_is)
    (case yy8_8 => k_is)
    (case vs8_10 => k_is)
    (case vn8_10 => decide)
    (case vs8_9 => k_is)
    (case vn8_9 => decide)
    (case vt9 => k_is)
    (case vi9 => k_is)
    (case yy9_9 => k_is)
    (case vs9_10 => k_is)
    (case vn9_10 => decide)
    (case vs9_8 => k_is)
    (case vn9_8 => decide)
    (case xa0 => k_is)
    (case xa1 => k_is)
    (case xa2 => k_is)
    (case xa3 => k_is)
    (case xa4 => k_is)
    (case xa5 => k_is)
    (case xa6 => k_is)
    (case xa7 => k_is)
    (case xa8 => k_is)
    (case xa9 => k_is)
    (case xa10 => k_is)
    (case xa11 => k_is)
    (case xa12 => k_is)
    (case xa13 => k_is)
    (case xe0 => kernel_rfl)
    (case xsg => k_is)
    (case xtk => k_is)
    (case xg0 => k_is)
    (case xn0 => k_is)
    (case xf0 => k_is)
    (case xb0 => k_is)
    (case xo0 => k_is)
    (case xt0 => k_is)
    (case xo1 => k_is)
    (case xt1 => k_is)
    (case xo2 => k_is)
    (case xt2 => k_is)
    (case xo3 => k_is)
    (case xt3 => k_is)
    (case xo4 => k_is)
    (case xt4 => k_is)
    (case xo5 => k_is)
    (case xt5 => k_is)
    (case xo6 => k_is)
    (case xt6 => k_is)
    (case xo7 => k_is)
    (case xt7 => k_is)
    (case xo8 => k_is)
    (case xt8 => k_is)
    (case xo9 => k_is)
    (case xt9 => k_is)
    (case xo10 => k_is)
    (case xt10 => k_is)
    (case xo11 => k_is)
    (case xt11 => k_is)
    (case xo12 => k_is)
    (case xt12 => k_is)
    (case xo13 => k_is)
    (case xt13 => k_is)
    (case xw13 => k_is)
    (case xm13_0 => k_is)
    (case xk0_0 => k_is)
    (case xk1_0 => k_is)
    (case vnx1_0 => decide)
    (case xk2_0 => k_is)
    (case vnx2_0 => decide)
    (case xk3_0 => k_is)
    (case vnx3_0 => decide)
    (case xk4_0 => k_is)
    (case vnx4_0 => decide)
    (case xk5_0 => k_is)
    (case vnx5_0 => decide)
    (case xk6_0 => k_is)
    (case vnx6_0 => decide)
    (case xk7_0 => k_is)
    (case vnx7_0 => decide)
    (case xk8_0 => k_is)
    (case vnx8_0 => decide)
    (case xk9_0 => k_is)
    (case vnx9_0 => decide)
    (case xk10_0 => k_is)
    (case vnx10_0 => decide)
    (case xk11_0 => k_is)
    (case vnx11_0 => decide)
    (case xk12_0 => k_is)
    (case vnx12_0 => decide)
    (case xv_ValueError_0 => k_is)
    (case ke0 => k_is)
    (case ke1 => k_is)
    (case ke2 => k_is)
    (case ke3 => k_is)
    (case ke4 => k_is)
    (case ke5 => k_is)
    (case da0 => k_is)
    (case dl0 => k_is)
    (case dsx0 => rfl)
    (case dex0 => rfl)
    (case dt0_0 => k_is)
    (case dxx0_0 => rfl)
    (case dt0_1 => k_is)
    (case dxx0_1 => rfl)
    (case da1 => k_is)
    (case dl1 => k_is)
    (case dsx1 => rfl)
    (case dex1 => rfl)
    (case dt1_0 => k_is)
    (case dxx1_0 => rfl)
    (case dt1_1 => k_is)
    (case dxx1_1 => rfl)
    (case dt1_2 => k_is)
    (case dxx1_2 => rfl)
    (case dt1_3 => k_is)
    (case dxx1_3 => rfl)
    (case dt1_4 => k_is)
    (case dxx1_4 => rfl)
    (case dt1_5 => k_is)
    (case dxx1_5 => rfl)
    (case dt1_6 => k_is)
    (case dxx1_6 => rfl)
    case dd0|dd1 => (repeat (refine' TX.KDs.mk (TX.KD.mk ?a ?l ?c ?k) ?_;(case a|l|c|k => first|delta TX.Lk;k_is|k_is)));trivial
    case zz => (repeat (refine TX.KZs.mk (by k_is) ?_));trivial
